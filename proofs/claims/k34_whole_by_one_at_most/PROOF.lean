import PyProof.Rows.All
import Wide.All
import OpenK.AllK
import Wide.FinOn
import Lean
import PyProof.EqAt
import PyProof.EqKinds
import PyProof.TupleCall
import KE.KTryMore
import PyProof.ExcAttrAll.ValueError
import KE.KRevIter
import PyProof.SetNew
import PyProof.SetRoads
import PyProof.Rows.SetObj
import PyProof.DictCompW
import PyProof.DictItems
import PyProof.Rows.SetFrom
import PyProof.ListRange
import PyProof.Rows.Range3
import KE.IntBitsLaws
import PyProof.AttrMissHeap
import PyProof.FactsAll.bool_1
import KE.KDictOf
import PyProof.DictRoadsH
import PyProof.P3Eq
import PyProof.Rows.SortStr
import PyProof.Rows.SortWalk
import PyProof.FactsAll.set
import PyProof.CollectWalk
import PyProof.WalkInts
import PyProof.CollectIter
import KE.KMinBuiltin
import PyProof.Rows.CallKwBuiltin
import PyProof.ConsumeS
import PyProof.StrCalls2
import PyProof.StrLawsJoin
import PyProof.NeData
import KE.RegKIsAll
import KE.RegKTryMore
import PySem.Challenge.RW_callbinds_k34_whole_by_one_at_most
set_option Elab.async false
set_option linter.all false
set_option maxRecDepth 100000
set_option maxHeartbeats 4000000
open PySem.W (instObj methodObj hideAll hideAll_none lookIn plainGet hasDictIn plainGet_of isFn plainOver takerIn makesIn emptyDict keepIn kitOne kia_one callWith_K methodCall_KW fnOf codeIn KeysLit nsIn Looks exmOne excIn mg_of Frag findIn specialIn mroIn)
namespace L2
open PySem PySem.Spec PyProof.Rows
theorem zz0 : 0<=sizeLine:=by decide
theorem zz2 : 2<=sizeLine:=by decide
theorem zz1 : 1<=sizeLine:=by decide
theorem zz3 : 3<=sizeLine:=by decide
abbrev Key:=Sum Int Str
def jb:Key->Value->Bool
 | .inl k,v=>Value.isInt k v
 | .inr x,v=>Value.isStrOf x v
def zj3 (w:World):Key->Int
 | .inl k=>hashInt k
 | .inr x=>hashStr w x
theorem yj:∀ {k:Key} {v:Value},jb k v = true->(∃ i t,k = Sum.inl i/\v = Value.int i t)\/(∃ x t,k = Sum.inr x/\v = Value.str x t)
 | .inl i,v,h=>by
  obtain ⟨t,e⟩:=Value.isInt_shape (k:=i) (v:=v) h
  exact .inl ⟨i,t,rfl,e⟩
 | .inr x,v,h=>by
  obtain ⟨t,e⟩:=Value.isStrOf_shape (x:=x) (v:=v) h
  exact .inr ⟨x,t,rfl,e⟩
theorem zc3 (i:Int) (t:Tok):jb (.inl i) (.int i t) = true:=by simp [jb,Value.isInt]
theorem zc2 (x:Str) (t:Tok):jb (.inr x) (.str x t) = true:=by simp [jb,Value.isStrOf]
theorem zic (a b:Int):decide ((Sum.inl a:Key) = Sum.inl b) = (a == b):=by
 by_cases e:a = b
 ·subst e; simp
 ·have h:¬ (Sum.inl a:Key) = Sum.inl b:=fun q=>e (Sum.inl.inj q)
  rw [decide_eq_false h]
  exact (beq_eq_false_iff_ne.mpr e).symm
theorem zeL (a b:Str):decide ((Sum.inr a:Key) = Sum.inr b) = decide (a = b):=by
 by_cases e:a = b
 ·subst e; simp
 ·have h:¬ (Sum.inr a:Key) = Sum.inr b:=fun q=>e (Sum.inr.inj q)
  rw [decide_eq_false h,decide_eq_false e]
theorem zib (a:Int) (b:Str):decide ((Sum.inl a:Key) = Sum.inr b) = false:=decide_eq_false (fun q=>nomatch q)
theorem zia (a:Str) (b:Int):decide ((Sum.inr a:Key) = Sum.inl b) = false:=decide_eq_false (fun q=>nomatch q)
def z7 (prog:Program) (w:World):PySem.KeyKind prog w Key where
 is:=jb
 hash:=zj3 w
 inj:=fun v a b ha hb=>by
  rcases yj ha with ⟨i,t,rfl,rfl⟩ | ⟨x,t,rfl,rfl⟩
  ·rcases yj hb with ⟨j,u,rfl,e⟩ | ⟨y,u,rfl,e⟩
   ·injection e with e1 _; rw [e1]
   ·exact nomatch e
  ·rcases yj hb with ⟨j,u,rfl,e⟩ | ⟨y,u,rfl,e⟩
   ·exact nomatch e
   ·injection e with e1 _; rw [e1]
 byValue:=fun k v h=>by
  rcases yj h with ⟨i,t,rfl,rfl⟩ | ⟨x,t,rfl,rfl⟩ <;> rfl
 pyHash:=fun hv h=>by
  rcases yj hv with ⟨i,t,rfl,rfl⟩ | ⟨x,t,rfl,rfl⟩
  ·exact wpAny_pyHash_int h
  ·exact wpAny_pyHash_str h
 eqBool:=fun hu hv h=>by
  rcases yj hu with ⟨i,t,rfl,rfl⟩ | ⟨x,t,rfl,rfl⟩
  ·rcases yj hv with ⟨j,u,rfl,rfl⟩ | ⟨y,u,rfl,rfl⟩
   ·rw [zic] at h; exact wpAny_eqBool_int h
   ·rw [zib] at h; exact SeqAt.EqAt.int_str i t y u _ _ _ _ h
  ·rcases yj hv with ⟨j,u,rfl,rfl⟩ | ⟨y,u,rfl,rfl⟩
   ·rw [zia] at h; exact SeqAt.EqAt.str_int x t j u _ _ _ _ h
   ·rw [zeL] at h; exact wpAny_eqBool_str h
 «strs»:=fun k x t v h=>by
  rcases yj h with ⟨i,u,rfl,e⟩ | ⟨y,u,rfl,e⟩
  ·exact nomatch e
  ·injection e with e1 _
   subst e1
   cases v <;> rfl
theorem zax (prog:Program) (w:World) (i:Int) (t:Tok):(z7 prog w).is (.inl i) (.int i t) = true:=zc3 i t
theorem zaw (prog:Program) (w:World) (x:Str) (t:Tok):(z7 prog w).is (.inr x) (.str x t) = true:=zc2 x t
inductive V where
 | non | bl (b:Bool) | int (i:Int) | str (x:Str) | byt (b:Array UInt8) | flt (b:UInt64) | ref (a:Addr) | ty (n:String)
 deriving DecidableEq
def zL:V->Value->Prop
 | .non,u=>u = Value.none
 | .bl b,u=>u = Value.bool b
 | .int i,u=>∃ t,u = Value.int i t
 | .str x,u=>∃ t,u = Value.str x t
 | .byt b,u=>∃ t,u = Value.bytes b t
 | .flt b,u=>∃ t,u = Value.float b t
 | .ref a,u=>u = Value.ref a
 | .ty n,u=>u = Value.type n
abbrev zJ:List V->List Value->Prop:=Paired zL
theorem zJ.length {xs:List V} {us:List Value} (r:zJ xs us):xs.length = us.length:=Paired.length r
theorem zJ.get:∀ {xs:List V} {us:List Value} {i:Nat} {x:V},zJ xs us->xs[i]? = some x->∃ u,us[i]? = some u/\zL x u
 | _,_,_,_,.nil,e=>by simp at e
 | _,_,0,_,.cons r _,e=>by simp at e; subst e; exact ⟨_,rfl,r⟩
 | _,_,i + 1,x,.cons _ t,e=>by
  obtain ⟨u,h1,h2⟩:=zJ.get (i:=i) (x:=x) t (by simpa using e)
  exact ⟨u,by simpa using h1,h2⟩
theorem zJ.append:∀ {xs ys:List V} {us ws:List Value},zJ xs us->zJ ys ws->zJ (xs ++ ys) (us ++ ws)
 | _,_,_,_,.nil,s=>s
 | _,_,_,_,.cons r t,s=>.cons r (zJ.append t s)
theorem zJ.take:∀ {xs:List V} {us:List Value} (n:Nat),zJ xs us->zJ (xs.take n) (us.take n)
 | _,_,0,_=>.nil
 | _,_,_ + 1,.nil=>.nil
 | _,_,n + 1,.cons r t=>.cons r (zJ.take n t)
theorem zJ.drop:∀ {xs:List V} {us:List Value} (n:Nat),zJ xs us->zJ (xs.drop n) (us.drop n)
 | _,_,0,r=>r
 | _,_,_ + 1,.nil=>.nil
 | _,_,n + 1,.cons _ t=>zJ.drop n t
def wm:Option V->Option Value->Prop
 | some v,some u=>zL v u
 | none,none=>True
 | _,_=>False
def KV {κ : Type}:List (κ × V)->List (κ × Value)->Prop:=Paired fun (p : κ × V) (q : κ × Value)=>p.1 = q.1/\zL p.2 q.2
def kV:Key->V
 | .inl i=>.int i
 | .inr x=>.str x
inductive HO where
 | lst (xs:List V)
 | tup (xs:List V)
 | dK (kvs:List (Key × V)) | dT (kvs:List (List Key × V))
 | set (S:Int->Bool) (n:Nat)
 | ins (C dx:Addr) (fs:List (Str × V))
 | own (x:Addr)
 | xd (fs:List (Str × V))
 | met (f x:Addr)
 | rng (lo hi:Int)
 | frz (o:Obj) (u:HO)
 | tbl (ps:Array Value)
 | ext (φ : Heap->Prop)
abbrev Hp:=Addr->Option HO
def upd (H:Hp) (a:Addr) (o:HO):Hp:=fun b=>if b = a then some o else H b
theorem za {H:Hp} {a:Addr} {o:HO}:upd H a o a = some o:=by unfold upd; rw [if_pos rfl]
theorem zf {H:Hp} {a b:Addr} {o:HO} (h:b ≠ a):upd H a o b = H b:=by unfold upd; rw [if_neg h]
theorem qc {H:Hp} {a:Addr} {o u:HO}:upd (upd H a o) a u = upd H a u:=by
 funext b; unfold upd; split <;> rfl
theorem xl {H:Hp} {a b:Addr} {o u:HO} (h:H a = some o) (h':H b = some u) (d:o ≠ u):a ≠ b:=by
 intro e; subst e; rw [h] at h'; exact d (Option.some.inj h')
theorem ze {H:Hp} {a b:Addr} {o:HO} (h:H a = some o) (h':H b = none):a ≠ b:=by
 intro e; subst e; rw [h] at h'; cases h'
section
variable (P:Program) (w:World)
def ye (H:Hp) (h:Heap) (a:Addr):HO->Prop
 | .lst xs=>xs.length<=sizeLine/\∃ (its:List Value) (n:Nat),zJ xs its/\h.get? a = some { cls:=.type "list",data:=.seq its.toArray n }
 | .tup xs=>xs.length<=sizeLine/\∃ its:List Value,zJ xs its/\IsTup h a its.toArray
 | .dK kvs=>kvs.length<=sizeLine/\(a == sysModules) = false/\∃ vs,KV kvs vs/\h.DictOf (z7 P w) a vs
 | .dT kvs=>kvs.length<=sizeLine/\(a == sysModules) = false/\∃ xs:List (List Key × Addr × Value),
   Paired (fun (p:List Key × V) (q:List Key × Addr × Value)=>p.1 = q.1/\H q.2.1 = some (.tup (p.1.map kV))/\zL p.2 q.2.2) kvs xs/\
   ∃ o es ep,h.get? a = some o/\o.ExactDict/\o.data = .dict es ep/\es.toList = xs.map (entryOfKey (tupleKind (z7 P w)))/\(xs.map (·.1)).Nodup
 | .set S n=>h.SetOf (intKind P w) a S n
 | .ins C dx fs=>H dx = some (.own a)/\fs.length<=1000/\dx ≠ a/\h.get? a = some (instObj C dx)/\
   ∃ mA,h.Ns1 dx mA/\(∀ f,wm (fs.lookup f) (mA f))/\PySem.Within mA (fs.map (·.1))
 | .own _=>∃ o,h.get? a = some o
 | .xd fs=>∃ mA,h.Ns1 a mA/\∀ f,wm (fs.lookup f) (mA f)
 | .rng lo hi=>∃ t u v,h.get? a = some { cls:=.type "range",data:=.fields #[.int lo t,.int hi u,.int 1 v] }
 | .frz o u=>h.get? a = some o/\ye H h a u
 | .tbl ps=>h.get? a = some { cls:=.none,data:=.fields ps }
 | .met f x=>h.get? a = some (methodObj (.ref f) (.ref x))
 | .ext φ=>φ h/\(∃ o,h.get? a = some o)/\∀ h1 h2:Heap,φ h1->(∀ o,h1.get? a = some o->h2.get? a = some o)->φ h2
def HOk (H:Hp) (h:Heap):Prop:=∀ a o,H a = some o->ye P w H h a o
end
section
variable {P:Program} {w:World} {H H':Hp} {h h':Heap} {a:Addr} {o:HO}
theorem ye.lt (x:ye P w H h a o):a < h.objs.size:=by
 cases o with
 | lst xs=>obtain ⟨_,_,_,_,e⟩:=x; exact Heap.lt_size e
 | tup xs=>obtain ⟨_,_,_,p⟩:=x; exact p.lt
 | dK kvs=>obtain ⟨_,_,_,_,o,_,_,e,_⟩:=x; exact Heap.lt_size e
 | dT kvs=>obtain ⟨_,_,_,_,o,_,_,e,_⟩:=x; exact Heap.lt_size e
 | set S n=>obtain ⟨o,_,_,_,e,_⟩:=x; exact Heap.lt_size e
 | ins C dx fs=>obtain ⟨_,_,_,e,_⟩:=x; exact Heap.lt_size e
 | own y=>obtain ⟨_,e⟩:=x; exact Heap.lt_size e
 | xd fs=>obtain ⟨_,⟨_,_,_,e,_⟩,_⟩:=x; exact Heap.lt_size e
 | rng lo hi=>obtain ⟨_,_,_,e⟩:=x; exact Heap.lt_size e
 | frz ob u=>obtain ⟨e,_⟩:=x; exact Heap.lt_size e
 | tbl ps=>exact Heap.lt_size (show h.get? a = some _ from x)
 | met f y=>exact Heap.lt_size (show h.get? a = some _ from x)
 | ext φ=>obtain ⟨_,⟨_,e⟩,_⟩:=x; exact Heap.lt_size e
theorem Paired.mapP {α β : Type} {F G : α->β->Prop}:∀ {l₁:List α} {l₂:List β},Paired F l₁ l₂->(∀ a b,F a b->G a b)->Paired G l₁ l₂
 | _,_,.nil,_=>.nil
 | _,_,.cons r t,f=>.cons (f _ _ r) (Paired.mapP t f)
theorem Paired.imp' {α β : Type} {F G : α->β->Prop} (f:∀ a b,F a b->G a b) {l₁:List α} {l₂:List β} (r:Paired F l₁ l₂):Paired G l₁ l₂:=Paired.mapP r f
theorem ye.stay (x:ye P w H h a o) (k:∀ b u,(b = a\/H b = some (.own a))->h.get? b = some u->h'.get? b = some u)
  (ho:∀ b,H b = some (.own a)->H' b = some (.own a)) (ht:∀ b xs,H b = some (.tup xs)->H' b = some (.tup xs)):ye P w H' h' a o:=by
 induction o with
 | lst xs=>obtain ⟨z,its,n,r,e⟩:=x; exact ⟨z,its,n,r,k _ _ (.inl rfl) e⟩
 | tup xs=>obtain ⟨z,its,r,ob,e,c⟩:=x; exact ⟨z,its,r,ob,k _ _ (.inl rfl) e,c⟩
 | dK kvs=>obtain ⟨z,y,vs,r,ob,es,ep,e,c⟩:=x; exact ⟨z,y,vs,r,ob,es,ep,k _ _ (.inl rfl) e,c⟩
 | dT kvs=>
  obtain ⟨z,y,xs,r,ob,es,ep,e,c⟩:=x
  exact ⟨z,y,xs,Paired.mapP r fun p q z=>⟨z.1,ht _ _ z.2.1,z.2.2⟩,ob,es,ep,k _ _ (.inl rfl) e,c⟩
 | set S n=>obtain ⟨ob,es,ep,t,e,c⟩:=x; exact ⟨ob,es,ep,t,k _ _ (.inl rfl) e,c⟩
 | ins C dx fs=>
  obtain ⟨d,z,ne,e,mA,⟨od,es,ep,e2,c⟩,r⟩:=x
  exact ⟨ho _ d,z,ne,k _ _ (.inl rfl) e,mA,⟨od,es,ep,k _ _ (.inr d) e2,c⟩,r⟩
 | own y=>obtain ⟨ob,e⟩:=x; exact ⟨ob,k _ _ (.inl rfl) e⟩
 | xd fs=>obtain ⟨mA,⟨od,es,ep,e,c⟩,r⟩:=x; exact ⟨mA,⟨od,es,ep,k _ _ (.inl rfl) e,c⟩,r⟩
 | rng lo hi=>obtain ⟨t,u,v,e⟩:=x; exact ⟨t,u,v,k _ _ (.inl rfl) e⟩
 | frz ob u ih=>obtain ⟨e,q⟩:=x; exact ⟨k _ _ (.inl rfl) e,ih q⟩
 | tbl ps=>
  have e:h.get? a = some { cls:=.none,data:=.fields ps }:=x
  show h'.get? a = some { cls:=.none,data:=.fields ps }
  exact k a _ (.inl rfl) e
 | met f y=>
  have e:h.get? a = some (methodObj (.ref f) (.ref y)):=x
  show h'.get? a = some (methodObj (.ref f) (.ref y))
  exact k a _ (.inl rfl) e
 | ext φ=>obtain ⟨p,⟨o,e⟩,st⟩:=x; exact ⟨st _ _ p fun o q=>k _ _ (.inl rfl) q,⟨o,k _ _ (.inl rfl) e⟩,st⟩
theorem HOk.lt (x:HOk P w H h) (e:H a = some o):a < h.objs.size:=(x a o e).lt
theorem HOk.fresh (x:HOk P w H h) (e:h.objs.size<=a):H a = none:=by
 cases q:H a with
 | none=>rfl
 | some u=>exact absurd (Nat.lt_of_lt_of_le (x.lt q) e) (Nat.lt_irrefl _)
theorem HOk.kept (x:HOk P w H h) (k:∀ b u,h.get? b = some u->h'.get? b = some u):HOk P w H h':=fun a o e=>
 (x a o e).stay (fun b u _ q=>k b u q) (fun _ q=>q) fun _ _ q=>q
theorem HOk.laid (x:HOk P w H h) (k:∀ b u,h.get? b = some u->h'.get? b = some u) (hp:h.objs.size<=a) (new:ye P w (upd H a o) h' a o):HOk P w (upd H a o) h':=fun b u e=>by
 have hn:=x.fresh hp
 by_cases hb:b = a
 ·subst hb; rw [za] at e; cases e; exact new
 ·rw [zf hb] at e
  exact (x b u e).stay (fun c v _ q=>k c v q) (fun c q=>by rw [zf (ze q hn)]; exact q) fun c xs q=>by rw [zf (ze q hn)]; exact q
end
def Rd (H:Hp) (a:Addr) (u:HO):Prop:=H a = some u\/∃ o,H a = some (.frz o u)
theorem Rd.ok {P:Program} {w:World} {H:Hp} {h:Heap} {a:Addr} {u:HO} (r:Rd H a u) (x:HOk P w H h):ye P w H h a u:=by
 rcases r with r | ⟨o,r⟩
 ·exact x a u r
 ·obtain ⟨_,q⟩:=x a _ r
  exact q
def Mut:Option HO->Prop
 | some (.lst _)=>True
 | some (.dK _)=>True
 | some (.dT _)=>True
 | some (.set _ _)=>True
 | some (.ins _ _ _)=>True
 | some (.ext _)=>True
 | _=>False
section
variable {P:Program} {w:World} {H:Hp} {h h':Heap} {x e:Addr} {o':HO}
theorem HOk.write (ok:HOk P w H h) (mu:Mut (H x)) (he:e = x\/H e = some (.own x)) (k:∀ b u,b ≠ e->h.get? b = some u->h'.get? b = some u) (heo:∃ u,h'.get? e = some u)
  (new:ye P w (upd H x o') h' x o'):HOk P w (upd H x o') h':=fun b u q=>by
 have nown:∀ c y,H c = some (.own y)->c ≠ x:=fun c y r z=>by subst z; rw [r] at mu; exact mu
 have ntup:∀ c xs,H c = some (.tup xs)->c ≠ x:=fun c xs r z=>by subst z; rw [r] at mu; exact mu
 by_cases hb:b = x
 ·subst hb; rw [za] at q; cases q; exact new
 ·rw [zf hb] at q
  by_cases hbe:b = e
  ·have q':H b = some (.own x):=by
    rcases he with z | z
    ·exact absurd (hbe.trans z) hb
    ·rw [hbe]; exact z
   rw [q] at q'; cases q'
   obtain ⟨v,hv⟩:=heo
   exact ⟨v,by rw [hbe]; exact hv⟩
  ·refine (ok b u q).stay (fun c v hc r=>k c v ?_ r) (fun c r=>by rw [zf (nown c b r)]; exact r) fun c xs r=>by rw [zf (ntup c xs r)]; exact r
   rcases hc with rfl | hc
   ·exact hbe
   ·rintro rfl
    rcases he with z | z
    ·exact nown c b hc z
    ·rw [hc] at z; cases z; exact hb rfl
end
structure Un (fs ex:List Addr) (H H':Hp) (h h':Heap):Prop where
 keep:∀ b o,h.get? b = some o->H b = none->b ∉ fs->b ∉ ex->h'.get? b = some o
 slot:∀ b o,h.get? b = some o->H b = none->b ∈ fs->b ∉ ex->∃ sl,h'.get? b = some { o with slots:=sl }
 free:∀ b o,h.get? b = some o->H b = none->b ∉ ex->H' b = none
 there:∀ b o,h.get? b = some o->b ∉ ex->∃ o',h'.get? b = some o'
 tups:∀ b xs,H b = some (.tup xs)->H' b = some (.tup xs)
 frzs:∀ b o u,H b = some (.frz o u)->H' b = some (.frz o u)
 tbls:∀ b ps,H b = some (.tbl ps)->∃ more,H' b = some (.tbl (ps ++ more))
section
variable {fs fs' ex ex':List Addr} {H H1 H2:Hp} {h h1 h2 h':Heap} {a x e:Addr} {o:HO}
theorem Un.any (u:Un fs ex H H1 h h1) {b:Addr} {ob:Obj} (q:h.get? b = some ob) (n:H b = none) (hx:b ∉ ex):∃ sl,h1.get? b = some { ob with slots:=sl }:=by
 by_cases hb:b ∈ fs
 ·exact u.slot b ob q n hb hx
 ·exact ⟨ob.slots,u.keep b ob q n hb hx⟩
theorem Un.kept (k:∀ b u,h.get? b = some u->h'.get? b = some u):Un fs ex H H h h':=
 ⟨fun b ob q _ _ _=>k b ob q,fun b ob q _ _ _=>⟨ob.slots,k b ob q⟩,fun _ _ _ n _=>n,fun b ob q _=>⟨ob,k b ob q⟩,fun _ _ q=>q,fun _ _ _ q=>q,fun _ ps q=>⟨#[],by rw [q]; simp⟩⟩
theorem Un.refl:Un fs ex H H h h:=Un.kept fun _ _ q=>q
theorem Un.laid (k:∀ b u,h.get? b = some u->h'.get? b = some u) (hp:h.objs.size<=a) (hn:H a = none):Un fs ex H (upd H a o) h h' where
 keep:=fun b u q _ _ _=>k b u q
 slot:=fun b u q _ _ _=>⟨u.slots,k b u q⟩
 free:=fun b u q n _=>by rw [zf (Nat.ne_of_lt (Nat.lt_of_lt_of_le (Heap.lt_size q) hp))]; exact n
 there:=fun b u q _=>⟨u,k b u q⟩
 tups:=fun b xs q=>by rw [zf (ze q hn)]; exact q
 frzs:=fun b u xs q=>by rw [zf (ze q hn)]; exact q
 tbls:=fun b ps q=>⟨#[],by rw [zf (ze q hn),q]; simp⟩
theorem Un.write (mu:Mut (H x)) (he:e = x\/H e = some (.own x)) (k:∀ b u,b ≠ e->h.get? b = some u->h'.get? b = some u) (heo:∃ u,h'.get? e = some u):Un fs ex H (upd H x o) h h':=by
 have hx:∀ b,H b = none->b ≠ x:=fun b n z=>by subst z; rw [n] at mu; exact mu
 have hb:∀ b,H b = none->b ≠ e:=fun b n z=>by
  subst z
  rcases he with r | r
  ·exact hx b n r
  ·rw [n] at r; cases r
 have hm:∀ b u,H b = some u->¬ Mut (some u)->b ≠ x:=fun b u q nm z=>by subst z; rw [q] at mu; exact nm mu
 refine ⟨fun b u q n _ _=>k b u (hb b n) q,fun b u q n _ _=>⟨u.slots,k b u (hb b n) q⟩,fun b u q n _=>by rw [zf (hx b n)]; exact n,fun b u q _=>?_,
  fun b xs q=>by rw [zf (hm b _ q fun z=>z)]; exact q,fun b u xs q=>by rw [zf (hm b _ q fun z=>z)]; exact q,fun b ps q=>⟨#[],by rw [zf (hm b _ q fun z=>z),q]; simp⟩⟩
 by_cases hbe:b = e
 ·subst hbe; exact heo
 ·exact ⟨u,k b u hbe q⟩
end
def trk (h:Heap) (H:Hp):List Addr:=(List.range h.objs.size).filter fun a=>(H a).isSome
def qC (h:Heap) (H:Hp):Heap:=hideAll h (trk h H)
theorem zc7 (h:Heap) (H:Hp):(qC h H).objs.size = h.objs.size:=PySem.W.hideAll_size _ _
theorem zeO {h:Heap} {H:Hp} {b:Addr} {o:Obj} (e:h.get? b = some o) (n:H b = none):(qC h H).get? b = some o:=
 PySem.W.hideAll_get _ e fun hm=>by
  have q:(H b).isSome = true:=(List.mem_filter.mp hm).2
  rw [n] at q; simp at q
theorem zgb {h:Heap} {H:Hp} {b:Addr} {o:Obj} (e:(qC h H).get? b = some o):h.get? b = some o/\H b = none:=by
 have e':h.get? b = some o:=PySem.W.of_hideAll (trk h H) e
 refine ⟨e',?_⟩
 cases q:H b with
 | none=>rfl
 | some x=>
  have hm:b ∈ trk h H:=List.mem_filter.mpr ⟨List.mem_range.mpr (Heap.lt_size e'),by simp [q]⟩
  have z:(qC h H).get? b = none:=hideAll_none (trk h H) hm
  rw [z] at e; cases e
def zgD (g h:Heap) (L:Addr):List (Addr × Obj):=(List.range h.objs.size).filterMap fun a=>if a = L\/(g.get? a).isSome = true then none else (h.get? a).map fun o=>(a,o)
def rest (g h:Heap) (L d:Addr):List (Addr × Obj):=(zgD g h L).filter fun p=>decide (p.1 ≠ d)
structure Mod (K:Frag) (mg:Str->Option Value) (base:Heap):Prop where
 kin:K.In base
 glob:base.Ns mainGlobals mg
 blt:∃ mb,base.Ns builtinsNs mb/\∀ x:Str,x ≠ "__name__"->mb x = bootBuiltins x
 nolimit:base.NoLimit
structure Cx where
 prog:Program
 w:World
 K:Frag
 mg:Str->Option Value
 base:Heap
 A:Around
 N:List Str
 s₀:Shared
 H₀:Hp
 env:Env
 outer:List Env
 stack:List Env
 ex:List Addr
 fn:Str->Bool
 calm:Bool
 pn:List (Addr × Obj)
 xe:Value->Shared->Prop
def frs (l:List Env):List Addr:=l.filterMap (·.frame)
abbrev Cx.fs (X:Cx):List Addr:=frs X.outer
def Vis (sc:Scope) (x:Str):Prop:=sc.names.lookup x = some .local\/sc.names.lookup x = some .cell\/sc.names.lookup x = some .free
def Loc (sc:Scope) (x:Str):Prop:=sc.names.lookup x = some .local\/sc.names.lookup x = some .cell
def zke (env:Env) (h:Heap) (m:Str->Option Value) (x:Str) (u:Value):Prop:=
 (env.kindOf x = some .local/\m x = some u)\/((env.kindOf x = some .cell\/env.kindOf x = some .free)/\∃ c,env.cells.lookup x = some c/\h.IsCell c (some u))
structure Cx.Ok (X:Cx):Prop where
 mod:Mod X.K X.mg X.base
 kind:X.env.scope.kind = .function
 glob:X.env.globals = mainGlobals
 blt:X.env.builtins = builtinsNs
 above:X.s₀.heap.objs.size<=X.env.locals
 inj:∀ x y c,X.env.cells.lookup x = some c->X.env.cells.lookup y = some c->x = y
 has:∀ x,(X.env.kindOf x = some .cell\/X.env.kindOf x = some .free)->∃ c,X.env.cells.lookup x = some c
 cab:∀ x c,X.fn x = true->X.env.cells.lookup x = some c->X.s₀.heap.objs.size<=c
 hd:X.calm = true->X.A.handled = none
 frames:X.A.frames = some X.stack
 stk:X.stack = X.outer\/(X.stack = X.env :: X.outer/\X.env.frame = some X.env.locals)
 exf:∀ b ∈ X.ex,b ≠ X.env.locals/\∀ x c,X.env.cells.lookup x = some c->c ≠ b
 bs:∀ b o,X.base.get? b = some o->X.s₀.heap.get? b = some o/\X.H₀ b = none
 bsz:X.base.objs.size<=X.s₀.heap.objs.size
 noex:∀ b o,X.base.get? b = some o->b ∉ X.ex
 exfs:∀ b ∈ X.ex,b ∉ X.fs
 funs:X.s₀.heap.FunFrames X.base X.outer
 frf:∀ b ∈ X.fs,X.H₀ b = none
structure Inv (X:Cx) (pins:List (Addr × Obj)) (σ : List (Option V)) (H:Hp) (s:Shared):Prop where
 ok:X.Ok
 os:s.os = X.s₀.os
 bare:AllBare s.gens
 base:Un X.fs X.ex X.H₀ H X.s₀.heap s.heap
 loc:∃ m,s.heap.Ns X.env.locals m/\∀ (i:Nat) (x:Str) (v:V),X.N[i]? = some x->σ[i]? = some (some v)->Vis X.env.scope x->∃ u,zL v u/\zke X.env s.heap m x u
 cell:∀ x c,X.env.cells.lookup x = some c->∃ v,s.heap.IsCell c v
 free:H X.env.locals = none
 freeC:∀ x c,X.env.cells.lookup x = some c->H c = none
 pin:∀ p ∈ X.pn ++ pins,s.heap.get? p.1 = some p.2/\H p.1 = none/\p.1 ≠ X.env.locals/\p.1 ∉ X.fs/\∀ v,p.2.data ≠ .cell v
 hok:HOk X.prog X.w H s.heap
 len : σ.length = X.N.length
section
variable {X:Cx} {pins:List (Addr × Obj)} {σ : List (Option V)} {H H':Hp} {s:Shared} {h':Heap}
theorem Cx.Ok.nofr (ok:X.Ok) {b:Addr} {o:Obj} (e:X.base.get? b = some o):b ∉ X.fs:=fun hb=>by
 have:=(ok.funs.mem hb).1
 rw [e] at this; cases this
theorem Inv.bs (I:Inv X pins σ H s):∀ b o,X.base.get? b = some o->s.heap.get? b = some o/\H b = none:=fun b o e=>
 ⟨I.base.keep b o (I.ok.bs b o e).1 (I.ok.bs b o e).2 (I.ok.nofr e) (I.ok.noex b o e),I.base.free b o (I.ok.bs b o e).1 (I.ok.bs b o e).2 (I.ok.noex b o e)⟩
theorem Inv.bk (I:Inv X pins σ H s):∀ b o,X.base.get? b = some o->s.heap.get? b = some o:=fun b o e=>(I.bs b o e).1
theorem Inv.mod (I:Inv X pins σ H s):Mod X.K X.mg X.base:=I.ok.mod
theorem Inv.kIn (I:Inv X pins σ H s):X.K.In s.heap:=I.ok.mod.kin.keeps I.bk
theorem Inv.lt (I:Inv X pins σ H s):X.env.locals < s.heap.objs.size:=let ⟨_,hn,_⟩:=I.loc; hn.lt
theorem Inv.sz (I:Inv X pins σ H s):X.s₀.heap.objs.size<=s.heap.objs.size:=Nat.le_trans I.ok.above (Nat.le_of_lt I.lt)
theorem Inv.nofs (I:Inv X pins σ H s) {a:Addr} (h:s.heap.objs.size<=a):a ∉ X.fs:=fun hb=>by
 obtain ⟨_,o,ho,_⟩:=I.ok.funs.mem hb
 exact absurd (Nat.lt_of_lt_of_le (Heap.lt_size ho) (Nat.le_trans I.sz h)) (Nat.lt_irrefl _)
theorem Inv.cne (I:Inv X pins σ H s):∀ x c,X.env.cells.lookup x = some c->c ≠ X.env.locals:=fun x c e z=>by
 obtain ⟨v,o,ho,hd⟩:=I.cell x c e
 obtain ⟨m,⟨o',es,ep,ho',hd',_⟩,_⟩:=I.loc
 rw [z,ho'] at ho; cases ho; rw [hd'] at hd; cases hd
theorem Inv.funs (I:Inv X pins σ H s):s.heap.FunFrames X.base X.outer:=by
 have all:∀ (l:List Env),(∀ b ∈ frs l,b ∈ X.fs)->X.s₀.heap.FunFrames X.base l->s.heap.FunFrames X.base l:=by
  intro l
  induction l with
  | nil=>intro _ _; trivial
  | cons env r ih=>
   intro hs hl
   obtain ⟨hk,⟨L,o,hf,hn,ho,hd⟩,hr⟩:=hl
   have hL:L ∈ X.fs:=hs L (by unfold frs; rw [List.filterMap_cons,hf]; exact List.mem_cons_self)
   obtain ⟨sl,e⟩:=I.base.slot L o ho (I.ok.frf L hL) hL fun z=>I.ok.exfs L z hL
   exact ⟨hk,⟨L,_,hf,hn,e,hd⟩,ih (fun b hb=>hs b (by unfold frs; rw [List.filterMap_cons,hf]; exact List.mem_cons_of_mem _ hb)) hr⟩
 exact all X.outer (fun _ hb=>hb) I.ok.funs
theorem Inv.stack (I:Inv X pins σ H s):s.heap.FunFrames X.base X.stack:=by
 rcases I.ok.stk with e | ⟨e,hf⟩
 ·rw [e]; exact I.funs
 ·rw [e]
  obtain ⟨m,hn,_⟩:=I.loc
  refine .cons (by rw [I.ok.kind]; decide) hf hn ?_ I.funs
  exact Heap.get?_none_of_le (Nat.le_trans I.ok.bsz I.ok.above)
theorem Inv.stkSub (I:Inv X pins σ H s):∀ b ∈ frs X.stack,b ∈ X.env.locals :: X.fs:=fun b hb=>by
 rcases I.ok.stk with e | ⟨e,hf⟩
 ·rw [e] at hb; exact List.mem_cons_of_mem _ hb
 ·rw [e] at hb
  unfold frs at hb
  rw [List.filterMap_cons,hf] at hb
  exact hb
theorem Inv.stkFree (I:Inv X pins σ H s):∀ b ∈ frs X.stack,H b = none:=fun b hb=>by
 rcases List.mem_cons.mp (I.stkSub b hb) with e | hb
 ·rw [e]; exact I.free
 ·obtain ⟨_,o,ho,_⟩:=I.ok.funs.mem hb
  exact I.base.free b o ho (I.ok.frf b hb) fun z=>I.ok.exfs b z hb
theorem Inv.step {g':Array GenState} {t':Nat} {d':Drawn} {ch:List Addr} (I:Inv X pins σ H s)
  (hch:∀ b ∈ ch,(b ∈ X.ex\/X.s₀.heap.objs.size<=b)/\b ≠ X.env.locals/\(∀ x c,X.env.cells.lookup x = some c->c ≠ b)/\∀ p ∈ X.pn ++ pins,p.1 ≠ b)
  (keep:∀ b o,b ≠ X.env.locals->b ∉ X.fs->b ∉ ch->s.heap.get? b = some o->H b = none->h'.get? b = some o)
  (slot:∀ b o,b ≠ X.env.locals->b ∈ X.fs->b ∉ ch->s.heap.get? b = some o->H b = none->∃ sl,h'.get? b = some { o with slots:=sl }) (free:∀ b o,b ∉ ch->s.heap.get? b = some o->H b = none->H' b = none)
  (there:∀ b o,b ∉ ch->s.heap.get? b = some o->∃ o',h'.get? b = some o')
  (tups:∀ b xs,H b = some (.tup xs)->H' b = some (.tup xs)) (frzs:∀ b o u,H b = some (.frz o u)->H' b = some (.frz o u)) (tbls:∀ b ps,H b = some (.tbl ps)->∃ more,H' b = some (.tbl (ps ++ more)))
  (ns:∀ m,s.heap.Ns X.env.locals m->h'.Ns X.env.locals m) (hok:HOk X.prog X.w H' h') (hg:AllBare g') :
  Inv X pins σ H' { s with heap:=h',gens:=g',drawn:=d',toks:=t' }:=by
 have neL:∀ b o,X.s₀.heap.get? b = some o->b ≠ X.env.locals:=fun b o e=>Nat.ne_of_lt (Nat.lt_of_lt_of_le (Heap.lt_size e) I.ok.above)
 have neC:∀ b o,X.s₀.heap.get? b = some o->b ∉ X.ex->b ∉ ch:=fun b o e hx hb=>by
  rcases (hch b hb).1 with z | z
  ·exact hx z
  ·exact absurd (Nat.lt_of_lt_of_le (Heap.lt_size e) z) (Nat.lt_irrefl _)
 have cellK:∀ x c,X.env.cells.lookup x = some c->∀ v,s.heap.IsCell c v->h'.IsCell c v:=fun x c e v ⟨o,ho,hd⟩=>by
  have nch:c ∉ ch:=fun z=>(hch c z).2.2.1 x c e rfl
  by_cases hc:c ∈ X.fs
  ·obtain ⟨sl,q⟩:=slot c o (I.cne x c e) hc nch ho (I.freeC x c e)
   exact ⟨_,q,hd⟩
  ·exact ⟨o,keep c o (I.cne x c e) hc nch ho (I.freeC x c e),hd⟩
 refine ⟨I.ok,I.os,hg,⟨fun b o e n hb hx=>?_,fun b o e n hb hx=>?_,fun b o e n hx=>?_,fun b o e hx=>?_,fun b xs e=>tups b xs (I.base.tups b xs e),fun b o xs e=>frzs b o xs (I.base.frzs b o xs e),fun b ps e=>?_⟩,?_,fun x c e=>?_,?_,fun x c e=>?_,fun p hp=>?_,hok,I.len⟩
 ·exact keep b o (neL b o e) hb (neC b o e hx) (I.base.keep b o e n hb hx) (I.base.free b o e n hx)
 ·obtain ⟨sl,e1⟩:=I.base.slot b o e n hb hx
  obtain ⟨sl',e2⟩:=slot b _ (neL b o e) hb (neC b o e hx) e1 (I.base.free b o e n hx)
  exact ⟨sl',e2⟩
 ·obtain ⟨o',e1⟩:=I.base.there b o e hx
  exact free b o' (neC b o e hx) e1 (I.base.free b o e n hx)
 ·obtain ⟨o',e1⟩:=I.base.there b o e hx
  exact there b o' (neC b o e hx) e1
 ·obtain ⟨m1,e1⟩:=I.base.tbls b ps e
  obtain ⟨m2,e2⟩:=tbls b _ e1
  exact ⟨m1 ++ m2,by rw [e2,Array.append_assoc]⟩
 ·obtain ⟨m,hn,hl⟩:=I.loc
  refine ⟨m,ns m hn,fun i x v e1 e2 e3=>?_⟩
  obtain ⟨u,r,l⟩:=hl i x v e1 e2 e3
  refine ⟨u,r,?_⟩
  rcases l with l | ⟨k,c,e,z⟩
  ·exact .inl l
  ·exact .inr ⟨k,c,e,cellK x c e _ z⟩
 ·obtain ⟨v,z⟩:=I.cell x c e
  exact ⟨v,cellK x c e v z⟩
 ·obtain ⟨m,⟨o,_,_,ho,_⟩,_⟩:=I.loc
  exact free _ o (fun z=>(hch _ z).2.1 rfl) ho I.free
 ·obtain ⟨v,o,ho,hd⟩:=I.cell x c e
  exact free c o (fun z=>(hch c z).2.2.1 x c e rfl) ho (I.freeC x c e)
 ·obtain ⟨e,n,ne,nf,d⟩:=I.pin p hp
  have nch:p.1 ∉ ch:=fun z=>(hch p.1 z).2.2.2 p hp rfl
  exact ⟨keep p.1 p.2 ne nf nch e n,free p.1 p.2 nch e n,ne,nf,d⟩
theorem Inv.un {t':Nat} (I:Inv X pins σ H s) (u:Un X.fs [] H H' s.heap h') (hok:HOk X.prog X.w H' h'):Inv X pins σ H' { s with heap:=h',toks:=t' }:=by
 obtain ⟨m,⟨o,es,ep,ho,r⟩,_⟩:=id I.loc
 obtain ⟨sl,hL⟩:=u.any ho I.free (by simp)
 exact I.step (g':=s.gens) (d':=s.drawn) (ch:=[]) (fun _ z=>nomatch z) (fun b o _ hb _ e n=>u.keep b o e n hb (by simp)) (fun b o _ hb _ e n=>u.slot b o e n hb (by simp)) (fun b o _ e n=>u.free b o e n (by simp)) (fun b o _ e=>u.there b o e (by simp)) u.tups u.frzs u.tbls (fun m' hm=>by
  obtain ⟨o',es',ep',ho',r'⟩:=hm
  rw [ho] at ho'; cases ho'
  exact ⟨_,es',ep',hL,r'⟩) hok I.bare
theorem Inv.call {g':Array GenState} {t':Nat} {d':Drawn} {ch:List Addr} (I:Inv X pins σ H s) (u:Un (frs X.stack) ch H H' s.heap h') (hok:HOk X.prog X.w H' h') (hg:AllBare g')
  (hch:∀ b ∈ ch,(b ∈ X.ex\/X.s₀.heap.objs.size<=b)/\b ≠ X.env.locals/\(∀ x c,X.env.cells.lookup x = some c->c ≠ b)/\∀ p ∈ X.pn ++ pins,p.1 ≠ b) :
  Inv X pins σ H' { s with heap:=h',gens:=g',drawn:=d',toks:=t' }:=by
 obtain ⟨m,⟨o,es,ep,ho,r⟩,_⟩:=id I.loc
 obtain ⟨sl,hL⟩:=u.any ho I.free fun z=>(hch _ z).2.1 rfl
 exact I.step (ch:=ch) hch (fun b o hL hb hc e n=>u.keep b o e n (fun z=>(List.mem_cons.mp (I.stkSub b z)).elim hL hb) hc) (fun b o _ _ hc e n=>u.any e n hc) (fun b o hc e n=>u.free b o e n hc) (fun b o hc e=>u.there b o e hc) u.tups u.frzs u.tbls (fun m' hm=>by
  obtain ⟨o',es',ep',ho',r'⟩:=hm
  rw [ho] at ho'; cases ho'
  exact ⟨_,es',ep',hL,r'⟩) hok hg
theorem Inv.turned {t':Nat} {it:Addr} (I:Inv X pins σ H s) (k:∀ b o,b ≠ it->s.heap.get? b = some o->h'.get? b = some o) (hn:H it = none) (hL:it ≠ X.env.locals)
  (h1:it ∈ X.ex\/X.s₀.heap.objs.size<=it) (h2:∀ x c,X.env.cells.lookup x = some c->c ≠ it) (h3:∀ p ∈ X.pn ++ pins,p.1 ≠ it):Inv X pins σ H { s with heap:=h',toks:=t' }:=by
 have nit:∀ b u,H b = some u->b ≠ it:=fun b u e z=>by rw [z,hn] at e; cases e
 refine I.step (g':=s.gens) (d':=s.drawn) (ch:=[it]) (fun b hb=>?_) (fun b o _ _ hc e _=>k b o (fun z=>hc (by simp [z])) e) (fun b o _ _ hc e _=>⟨o.slots,k b o (fun z=>hc (by simp [z])) e⟩) (fun _ _ _ _ n=>n)
  (fun b o hc e=>⟨o,k b o (fun z=>hc (by simp [z])) e⟩) (fun _ _ e=>e) (fun _ _ _ e=>e) (fun b ps e=>⟨#[],by rw [e]; simp⟩) (fun m hm=>?_) (fun b u e=>?_) I.bare
 ·have e:b = it:=by simpa using hb
  subst e
  exact ⟨h1,hL,h2,h3⟩
 ·obtain ⟨o,es,ep,ho,r⟩:=hm
  exact ⟨o,es,ep,k _ o (Ne.symm hL) ho,r⟩
 ·refine (I.hok b u e).stay (fun c v hc q=>k c v ?_ q) (fun _ q=>q) fun _ _ q=>q
  rcases hc with z | z
  ·rw [z]; exact nit b u e
  ·exact nit c _ z
theorem Inv.tok (I:Inv X pins σ H s) (t:Nat):Inv X pins σ H { s with toks:=t }:=I.un (h':=s.heap) (t':=t) Un.refl I.hok
theorem Inv.kept {t':Nat} (I:Inv X pins σ H s) (k:∀ b u,s.heap.get? b = some u->h'.get? b = some u):Inv X pins σ H { s with heap:=h',toks:=t' }:=I.un (Un.kept k) (I.hok.kept k)
theorem Inv.laid {a:Addr} {o:HO} {t':Nat} (I:Inv X pins σ H s) (k:∀ b u,s.heap.get? b = some u->h'.get? b = some u) (hp:s.heap.objs.size<=a) (new:ye X.prog X.w (upd H a o) h' a o) :
  Inv X pins σ (upd H a o) { s with heap:=h',toks:=t' }:=I.un (Un.laid k hp (I.hok.fresh hp)) (I.hok.laid k hp new)
theorem Inv.write {x e:Addr} {o:HO} {t':Nat} (I:Inv X pins σ H s) (mu:Mut (H x)) (he:e = x\/H e = some (.own x)) (k:∀ b u,b ≠ e->s.heap.get? b = some u->h'.get? b = some u) (heo:∃ u,h'.get? e = some u)
  (new:ye X.prog X.w (upd H x o) h' x o):Inv X pins σ (upd H x o) { s with heap:=h',toks:=t' }:=I.un (Un.write mu he k heo) (I.hok.write mu he k heo new)
theorem Inv.weak {σ':List (Option V)} (I:Inv X pins σ H s) (hl : σ'.length = σ.length) (w:∀ (i:Nat) v,σ'[i]? = some (some v)->σ[i]? = some (some v)):Inv X pins σ' H s:=
 ⟨I.ok,I.os,I.bare,I.base,let ⟨m,hn,hl'⟩:=I.loc; ⟨m,hn,fun i x v e1 e2 e3=>hl' i x v e1 (w i v e2) e3⟩,I.cell,I.free,I.freeC,I.pin,I.hok,hl.trans I.len⟩
theorem Inv.pins_of {pins':List (Addr × Obj)} (I:Inv X pins σ H s) (h:∀ p ∈ pins',s.heap.get? p.1 = some p.2/\H p.1 = none/\p.1 ≠ X.env.locals/\p.1 ∉ X.fs/\∀ v,p.2.data ≠ .cell v):Inv X pins' σ H s:=
 ⟨I.ok,I.os,I.bare,I.base,I.loc,I.cell,I.free,I.freeC,fun p hp=>(List.mem_append.mp hp).elim (fun z=>I.pin p (List.mem_append_left _ z)) (h p),I.hok,I.len⟩
theorem zau {N:List Str} (hN:N.Nodup) {i j:Nat} {x:Str} (a:N[i]? = some x) (b:N[j]? = some x):i = j:=by
 obtain ⟨h1,e1⟩:=List.getElem?_eq_some_iff.mp a
 obtain ⟨h2,e2⟩:=List.getElem?_eq_some_iff.mp b
 exact (List.getElem_inj hN).mp (e1.trans e2.symm)
theorem jC {M:Model} {A:Around} {E:Value->Shared->Prop} {i:Nat} {x:Str} {v:V} {u:Value} {Q:Unit->Shared->Prop} (I:Inv X pins σ H s) (hN:X.N.Nodup) (hi:X.N[i]? = some x) (hx:Loc X.env.scope x) (r:zL v u)
  (h:∀ s',Inv X pins (σ.set i (some v)) H s'->(∃ a,Heap.SameBut a s.heap s'.heap/\(a = X.env.locals\/X.env.cells.lookup x = some a))->Q () s') (hf:X.fn x = true\/X.env.scope.names.lookup x = some .local:=by first | exact .inl rfl | exact .inr rfl | assumption):wpAny M A (storeName X.env x u) Q E s:=by
 obtain ⟨m,hn,hl⟩:=id I.loc
 have hcls:(X.env.scope.kind == .class || (X.env.scope.kind == .module && X.env.locals != X.env.globals)) = false:=by rw [I.ok.kind]; rfl
 have hiσ : i < σ.length:=by rw [I.len]; exact (List.getElem?_eq_some_iff.mp hi).1
 have cne:=I.cne
 have tracked:∀ {a:Addr} {h':Heap},(∃ o,s.heap.get? a = some o/\H a = none)->Heap.SameBut a s.heap h'->HOk X.prog X.w H h':=fun {a h'} ha hs b ob e=>by
  obtain ⟨_,_,hfree⟩:=ha
  refine (I.hok b ob e).stay (fun c w' hc q=>(hs.2 c ?_).trans q) (fun _ q=>q) fun _ _ q=>q
  rintro rfl
  rcases hc with rfl | hc
  ·rw [hfree] at e; cases e
  ·rw [hfree] at hc; cases hc
 rcases hx with hk | hk
 ·refine wpAny_storeName_local hk hn (fun h' hn' hs=>?_) hcls
  obtain ⟨oL,_,_,hoL,_⟩:=id hn
  refine h _ ⟨I.ok,I.os,I.bare,⟨fun b o e n hb hx=>?_,fun b o e n hb hx=>?_,I.base.free,fun b o e hx=>?_,I.base.tups,I.base.frzs,I.base.tbls⟩,⟨_,hn',fun j y v' e1 e2 e3=>?_⟩,fun y c e=>?_,I.free,I.freeC,fun p hp=>?_,tracked ⟨oL,hoL,I.free⟩ hs,by simpa using I.len⟩ ⟨_,hs,.inl rfl⟩
  ·exact (hs.2 b (Nat.ne_of_lt (Nat.lt_of_lt_of_le (Heap.lt_size e) I.ok.above))).trans (I.base.keep b o e n hb hx)
  ·obtain ⟨sl,e1⟩:=I.base.slot b o e n hb hx
   exact ⟨sl,(hs.2 b (Nat.ne_of_lt (Nat.lt_of_lt_of_le (Heap.lt_size e) I.ok.above))).trans e1⟩
  ·obtain ⟨o',e1⟩:=I.base.there b o e hx
   exact ⟨o',(hs.2 b (Nat.ne_of_lt (Nat.lt_of_lt_of_le (Heap.lt_size e) I.ok.above))).trans e1⟩
  ·by_cases hj:j = i
   ·subst hj
    rw [hi] at e1; cases e1
    rw [List.getElem?_set_self hiσ] at e2
    cases e2
    exact ⟨u,r,.inl ⟨hk,by simp⟩⟩
   ·rw [List.getElem?_set_ne (Ne.symm hj)] at e2
    obtain ⟨u',r',q⟩:=hl j y v' e1 e2 e3
    refine ⟨u',r',?_⟩
    rcases q with ⟨k,e⟩ | ⟨k,c,e,z⟩
    ·refine .inl ⟨k,?_⟩
     have:y ≠ x:=fun e=>hj (zau hN e1 (e ▸ hi))
     simp [this,e]
    ·exact .inr ⟨k,c,e,z.sameBut hs (cne y c e)⟩
  ·obtain ⟨w',z⟩:=I.cell y c e
   exact ⟨w',z.sameBut hs (cne y c e)⟩
  ·obtain ⟨e,n,ne,nf,d⟩:=I.pin p hp
   exact ⟨(hs.2 p.1 ne).trans e,n,ne,nf,d⟩
 ·have hfn:X.fn x = true:=by
   rcases hf with z | z
   ·exact z
   ·rw [z] at hk; cases hk
  obtain ⟨c,hc⟩:=I.ok.has x (.inl hk)
  obtain ⟨w',z⟩:=I.cell x c hc
  refine wpAny_storeName_cell I.ok.kind hk hc z (fun h' hc' hs=>?_)
  obtain ⟨oc,hoc,hocd⟩:=id z
  refine h { s with heap:=h' } ⟨I.ok,I.os,I.bare,⟨fun b o e n hb hx=>?_,fun b o e n hb hx=>?_,I.base.free,fun b o e hx=>?_,I.base.tups,I.base.frzs,I.base.tbls⟩,⟨m,hn.sameBut hs (Ne.symm (cne x c hc)),fun j y v' e1 e2 e3=>?_⟩,fun y c' e=>?_,I.free,I.freeC,fun p hp=>?_,tracked ⟨oc,hoc,I.freeC x c hc⟩ hs,by simpa using I.len⟩ ⟨c,hs,.inr hc⟩
  ·exact (hs.2 b (Nat.ne_of_lt (Nat.lt_of_lt_of_le (Heap.lt_size e) (I.ok.cab x c hfn hc)))).trans (I.base.keep b o e n hb hx)
  ·obtain ⟨sl,e1⟩:=I.base.slot b o e n hb hx
   exact ⟨sl,(hs.2 b (Nat.ne_of_lt (Nat.lt_of_lt_of_le (Heap.lt_size e) (I.ok.cab x c hfn hc)))).trans e1⟩
  ·obtain ⟨o',e1⟩:=I.base.there b o e hx
   exact ⟨o',(hs.2 b (Nat.ne_of_lt (Nat.lt_of_lt_of_le (Heap.lt_size e) (I.ok.cab x c hfn hc)))).trans e1⟩
  ·by_cases hj:j = i
   ·subst hj
    rw [hi] at e1; cases e1
    rw [List.getElem?_set_self hiσ] at e2
    cases e2
    exact ⟨u,r,.inr ⟨.inl hk,c,hc,hc'⟩⟩
   ·rw [List.getElem?_set_ne (Ne.symm hj)] at e2
    obtain ⟨u',r',q⟩:=hl j y v' e1 e2 e3
    refine ⟨u',r',?_⟩
    rcases q with q | ⟨k,c',e,z'⟩
    ·exact .inl q
    ·refine .inr ⟨k,c',e,z'.sameBut hs ?_⟩
     rintro rfl
     exact hj (zau hN e1 (I.ok.inj _ _ _ e hc ▸ hi))
  ·by_cases hcc:c' = c
   ·subst hcc; exact ⟨_,hc'⟩
   ·obtain ⟨w2,z2⟩:=I.cell y c' e
    exact ⟨w2,z2.sameBut hs hcc⟩
  ·obtain ⟨e,n,ne,nf,d⟩:=I.pin p hp
   refine ⟨(hs.2 p.1 ?_).trans e,n,ne,nf,d⟩
   intro q
   rw [q,hoc] at e
   have q':oc = p.2:=Option.some.inj e
   exact d w' (by rw [<- q']; exact hocd)
theorem uB {M:Model} {A:Around} {E:Value->Shared->Prop} {i:Nat} {x:Str} {v:V} {u:Value} {Q:Unit->Shared->Prop} (I:Inv X pins σ H s) (hN:X.N.Nodup) (hi:X.N[i]? = some x) (hx:Loc X.env.scope x) (r:zL v u)
  (h:∀ s',Inv X pins (σ.set i (some v)) H s'->Q () s') (hf:X.fn x = true\/X.env.scope.names.lookup x = some .local:=by first | exact .inl rfl | exact .inr rfl | assumption):wpAny M A (storeName X.env x u) Q E s:=
 jC I hN hi hx r (fun s' I' _=>h s' I') hf
theorem Inv.call' {s':Shared} {ch:List Addr} (I:Inv X pins σ H s) (ho:s'.os = s.os) (u:Un (frs X.stack) ch H H' s.heap s'.heap) (hok:HOk X.prog X.w H' s'.heap) (hg:AllBare s'.gens)
  (hch:∀ b ∈ ch,(b ∈ X.ex\/X.s₀.heap.objs.size<=b)/\b ≠ X.env.locals/\(∀ x c,X.env.cells.lookup x = some c->c ≠ b)/\∀ p ∈ X.pn ++ pins,p.1 ≠ b):Inv X pins σ H' s':=by
 obtain ⟨h',g',d',t',o'⟩:=s'
 have e:o' = s.os:=ho
 subst e
 exact I.call (g':=g') (t':=t') (d':=d') u hok hg hch
end
abbrev XK:=Value->Option Addr->Hp->Prop
abbrev St:=List (Option V)
abbrev VK:=V->Hp->Prop
abbrev TE:=St->Hp->VK->Prop
abbrev TT:=St->Hp->(Bool->Hp->Prop)->Prop
abbrev TA:=St->Hp->(List V->Hp->Prop)->Prop
structure wI where
 nx:St->Hp->Prop
 rt:VK
 bk:St->Hp->Prop:=fun _ _=>False
 ct:St->Hp->Prop:=fun _ _=>False
abbrev TS:=wI->St->Hp->Prop
def EP (X:Cx) (pins:List (Addr × Obj)) (σ : St) (Q:VK) (u:Value) (s':Shared):Prop:=∃ v H',Inv X pins σ H' s'/\zL v u/\Q v H'
def TP (X:Cx) (pins:List (Addr × Obj)) (σ : St) (Q:Bool->Hp->Prop) (b:Bool) (s':Shared):Prop:=∃ H',Inv X pins σ H' s'/\Q b H'
def AP (X:Cx) (pins:List (Addr × Obj)) (σ : St) (Q:List V->Hp->Prop) (us:List Value) (s':Shared):Prop:=∃ vs H',Inv X pins σ H' s'/\zJ vs us/\Q vs H'
def SP (X:Cx) (pins:List (Addr × Obj)) (D:wI) (f:Flow) (s':Shared):Prop:=
 match f with
 | .next=>∃ σ' H',Inv X pins σ' H' s'/\D.nx σ' H'
 | .brk=>∃ σ' H',Inv X pins σ' H' s'/\D.bk σ' H'
 | .cont=>∃ σ' H',Inv X pins σ' H' s'/\D.ct σ' H'
 | .ret u=>∃ v σ' H',Inv X pins σ' H' s'/\zL v u/\D.rt v H'
structure PE (X:Cx) (e:Expr) (t:TE):Prop where
 run:∀ (pins:List (Addr × Obj)) (s:Shared) (σ : St) (H:Hp) (Q:VK),Inv X pins σ H s->t σ H Q->wpAny (model X.prog X.w) X.A (eval e X.env) (EP X pins σ Q) X.xe s
instance {X:Cx} {e:Expr} {t:TE}:CoeFun (PE X e t) (fun _=>∀ (pins:List (Addr × Obj)) (s:Shared) (σ : St) (H:Hp) (Q:VK),Inv X pins σ H s->t σ H Q->wpAny (model X.prog X.w) X.A (eval e X.env) (EP X pins σ Q) X.xe s):=⟨PE.run⟩
structure PT (X:Cx) (e:Expr) (t:TT):Prop where
 run:∀ (pins:List (Addr × Obj)) (s:Shared) (σ : St) (H:Hp) (Q:Bool->Hp->Prop),Inv X pins σ H s->t σ H Q->wpAny (model X.prog X.w) X.A (isTrue e X.env (eval e X.env)) (TP X pins σ Q) X.xe s
instance {X:Cx} {e:Expr} {t:TT}:CoeFun (PT X e t) (fun _=>∀ (pins:List (Addr × Obj)) (s:Shared) (σ : St) (H:Hp) (Q:Bool->Hp->Prop),Inv X pins σ H s->t σ H Q->wpAny (model X.prog X.w) X.A (isTrue e X.env (eval e X.env)) (TP X pins σ Q) X.xe s):=⟨PT.run⟩
structure PW (X:Cx) (e:Expr) (t:TT):Prop where
 run:∀ (whole:Sem Value) (pins:List (Addr × Obj)) (s:Shared) (σ : St) (H:Hp) (Q:Bool->Hp->Prop),Inv X pins σ H s->t σ H Q->wpAny (model X.prog X.w) X.A (isTrue e X.env whole) (TP X pins σ Q) X.xe s
instance {X:Cx} {e:Expr} {t:TT}:CoeFun (PW X e t) (fun _=>∀ (whole:Sem Value) (pins:List (Addr × Obj)) (s:Shared) (σ : St) (H:Hp) (Q:Bool->Hp->Prop),Inv X pins σ H s->t σ H Q->wpAny (model X.prog X.w) X.A (isTrue e X.env whole) (TP X pins σ Q) X.xe s):=⟨PW.run⟩
theorem PW.pt {X:Cx} {e:Expr} {t:TT} (h:PW X e t):PT X e t:=⟨h _⟩
structure PA (X:Cx) (es:List Expr) (t:TA):Prop where
 run:∀ (pos:Pos) (pins:List (Addr × Obj)) (s:Shared) (σ : St) (H:Hp) (Q:List V->Hp->Prop),Inv X pins σ H s->t σ H Q->wpAny (model X.prog X.w) X.A (spliced (backTo pos (starEach es X.env))) (AP X pins σ Q) X.xe s
instance {X:Cx} {es:List Expr} {t:TA}:CoeFun (PA X es t) (fun _=>∀ (pos:Pos) (pins:List (Addr × Obj)) (s:Shared) (σ : St) (H:Hp) (Q:List V->Hp->Prop),Inv X pins σ H s->t σ H Q->wpAny (model X.prog X.w) X.A (spliced (backTo pos (starEach es X.env))) (AP X pins σ Q) X.xe s):=⟨PA.run⟩
structure PS (X:Cx) (st:Stmt) (t:TS):Prop where
 run:∀ (pins:List (Addr × Obj)) (s:Shared) (σ : St) (H:Hp) (D:wI),Inv X pins σ H s->t D σ H->wpAny (model X.prog X.w) X.A (exec st X.env) (SP X pins D) X.xe s
instance {X:Cx} {st:Stmt} {t:TS}:CoeFun (PS X st t) (fun _=>∀ (pins:List (Addr × Obj)) (s:Shared) (σ : St) (H:Hp) (D:wI),Inv X pins σ H s->t D σ H->wpAny (model X.prog X.w) X.A (exec st X.env) (SP X pins D) X.xe s):=⟨PS.run⟩
structure PSs (X:Cx) (st:List Stmt) (t:TS):Prop where
 run:∀ (pins:List (Addr × Obj)) (s:Shared) (σ : St) (H:Hp) (D:wI),Inv X pins σ H s->t D σ H->wpAny (model X.prog X.w) X.A (execs st X.env) (SP X pins D) X.xe s
instance {X:Cx} {st:List Stmt} {t:TS}:CoeFun (PSs X st t) (fun _=>∀ (pins:List (Addr × Obj)) (s:Shared) (σ : St) (H:Hp) (D:wI),Inv X pins σ H s->t D σ H->wpAny (model X.prog X.w) X.A (execs st X.env) (SP X pins D) X.xe s):=⟨PSs.run⟩
theorem thn {α : Type} {t:Sem α} {Q Q' : α->Shared->Prop} {M:Model} {A:Around} {E:Value->Shared->Prop} {s:Shared} (h:wpAny M A t Q E s) (hQ:∀ a s,Q a s->Q' a s):wpAny M A t Q' E s:=wpAny_mono h hQ fun _ _ x=>x
section
variable {X:Cx}
inductive zkg (i:Nat) (σ : St) (H:Hp) (Q:VK):Prop where
 | mk (v:V) (e : σ[i]? = some (some v)) (q:Q v H)
def ziw (i:Nat):TE:=fun σ H Q=>zkg i σ H Q
def tC (v:V):TE:=fun _ H Q=>Q v H
theorem zhL {i:Nat} {x:Str} {pos:Pos} (hN:X.N[i]? = some x) (hv:Vis X.env.scope x) (hd:(x == ("__debug__" : Str)) = false:=by decide) (hcd:(x == ("__classdict__" : Str)) = false:=by decide):PE X (.Name x pos) (ziw i):=by
 refine ⟨?_⟩
 intro pins s σ H Q I h
 obtain ⟨v,e,h⟩:=h
 obtain ⟨m,hn,hl⟩:=I.loc
 obtain ⟨u,r,l⟩:=hl i x v hN e hv
 have fin:EP X pins σ Q u s:=⟨v,H,I,r,h⟩
 rcases l with ⟨hk,hm⟩ | ⟨hk,c,hc,hcell⟩
 ·exact wpAny_Name (wpAny_loadName_local I.ok.kind hk hn hm fin) hd
 ·rcases hk with hk | hk
  ·exact wpAny_Name (wpAny_loadName_cell I.ok.kind hk hc hcell fin) hd
  ·exact wpAny_Name (wpAny_loadName_free I.ok.kind hk hc hcell fin hcd) hd
theorem zh {i j pos}:PE X (.Constant (.int i) j pos) (tC (.int i)):=⟨fun _ _ _ H _ I h=>wpAny_Constant_int ⟨.int i,H,I.tok _,⟨_,rfl⟩,h⟩⟩
theorem zal {b j pos}:PE X (.Constant (.bool b) j pos) (tC (.bl b)):=⟨fun _ _ _ H _ I h=>Constant_bool ⟨.bl b,H,I,rfl,h⟩⟩
theorem zbp {j pos}:PE X (.Constant .none j pos) (tC .non):=⟨fun _ _ _ H _ I h=>Constant_none ⟨.non,H,I,rfl,h⟩⟩
theorem zr {x j pos}:PE X (.Constant (.str x) j pos) (tC (.str x)):=⟨fun _ _ _ H _ I h=>Calls.Constant_str ⟨.str x,H,I.tok _,⟨_,rfl⟩,h⟩⟩
def Gl (X:Cx) (x:Str):Prop:=X.env.kindOf x = some .globalImplicit
theorem xO {E:Value->Shared->Prop} {pins:List (Addr × Obj)} {s:Shared} {σ : St} {H:Hp} {x:Str} {u:Value} {pos:Pos} {Q:Value->Shared->Prop} (I:Inv X pins σ H s) (hg:Gl X x) (hm:X.mg x = some u) (h:Q u s)
  (hd:(x == ("__debug__" : Str)) = false:=by decide):wpAny (model X.prog X.w) X.A (eval (.Name x pos) X.env) Q E s:=
 Calls.Name_function_global I.ok.kind hg (Calls.loadGlobal_global (by rw [I.ok.glob]; exact I.mod.glob.keeps I.bk) hm h) hd
theorem xD {E:Value->Shared->Prop} {pins:List (Addr × Obj)} {s:Shared} {σ : St} {H:Hp} {x:Str} {u:Value} {pos:Pos} {Q:Value->Shared->Prop} (I:Inv X pins σ H s) (hg:Gl X x) (hm:X.mg x = none) (hv:bootBuiltins x = some u) (h:Q u s)
  (hn:x ≠ "__name__":=by decide) (hd:(x == ("__debug__" : Str)) = false:=by decide):wpAny (model X.prog X.w) X.A (eval (.Name x pos) X.env) Q E s:=by
 obtain ⟨mb,h1,h2⟩:=I.mod.blt
 exact Calls.Name_function_global I.ok.kind hg (Calls.loadGlobal_builtin (by rw [I.ok.glob]; exact I.mod.glob.keeps I.bk) hm (by rw [I.ok.blt]; exact h1.keeps I.bk) ((h2 x hn).trans hv) h) hd
theorem wf {x:Str} {v:V} {u:Value} {pos:Pos} (hg:Gl X x) (hm:X.mg x = some u) (r:zL v u) (hd:(x == ("__debug__" : Str)) = false:=by decide):PE X (.Name x pos) (tC v):=⟨fun _ _ _ H _ I h=>xO I hg hm ⟨v,H,I,r,h⟩ hd⟩
theorem zfM {x:Str} {v:V} {u:Value} {pos:Pos} (hg:Gl X x) (hm:X.mg x = none) (hv:bootBuiltins x = some u) (r:zL v u) (hn:x ≠ "__name__":=by decide) (hd:(x == ("__debug__" : Str)) = false:=by decide):PE X (.Name x pos) (tC v):=⟨fun _ _ _ H _ I h=>xD I hg hm hv ⟨v,H,I,r,h⟩ hn hd⟩
variable {a b:Expr} {ta tb:TE} {pos:Pos}
structure PC (X:Cx) (op:CmpOp) (a b:Expr) (t:TE):Prop where
 run:∀ (pins:List (Addr × Obj)) (s:Shared) (σ : St) (H:Hp) (Q:VK),Inv X pins σ H s->t σ H Q->
  wpAny (model X.prog X.w) X.A (eval a X.env) (fun v s₁=>wpAny (model X.prog X.w) X.A (eval b X.env) (fun u s₂=>wpAny (model X.prog X.w) X.A (compareOp op v u) (EP X pins σ Q) X.xe s₂) X.xe s₁) X.xe s
instance {X:Cx} {op:CmpOp} {a b:Expr} {t:TE}:CoeFun (PC X op a b t) (fun _=>∀ (pins:List (Addr × Obj)) (s:Shared) (σ : St) (H:Hp) (Q:VK),Inv X pins σ H s->t σ H Q->
  wpAny (model X.prog X.w) X.A (eval a X.env) (fun v s₁=>wpAny (model X.prog X.w) X.A (eval b X.env) (fun u s₂=>wpAny (model X.prog X.w) X.A (compareOp op v u) (EP X pins σ Q) X.xe s₂) X.xe s₁) X.xe s):=⟨PC.run⟩
theorem zeC (b:Expr) {op:CmpOp} (h:op ≠ .In) (h2:op ≠ .NotIn):behindInMarks op b = false:=by
 have e1:(op == CmpOp.In) = false:=by cases op <;> first | rfl | exact absurd rfl h
 have e2:(op == CmpOp.NotIn) = false:=by cases op <;> first | rfl | exact absurd rfl h2
 cases b <;> simp [behindInMarks,e1,e2]
def zjs (ta:TE):TE:=fun σ H Q=>ta σ H fun x H1=>Q (.bl (decide (x = .non))) H1
def ziC (ta:TE):TE:=fun σ H Q=>ta σ H fun x H1=>Q (.bl (!decide (x = .non))) H1
theorem zL.none_iff {x:V} {v:Value} (r:zL x v):(v == Value.none) = decide (x = .non):=by
 cases x with
 | non=>cases r; rfl
 | bl _=>cases r; rfl
 | int _=>obtain ⟨t,rfl⟩:=r; rfl
 | str _=>obtain ⟨t,rfl⟩:=r; rfl
 | byt _=>obtain ⟨t,rfl⟩:=r; rfl
 | flt _=>obtain ⟨t,rfl⟩:=r; rfl
 | ref _=>cases r; rfl
 | ty _=>cases r; rfl
theorem zbr {j pos'} (ha:PE X a ta):PC X .Is a (.Constant .none j pos') (zjs ta):=by
 refine ⟨?_⟩
 intro pins s σ H Q I h
 refine thn (ha pins s σ H _ I h) fun v s1 ⟨x,H1,I1,r1,q1⟩=>?_
 exact Constant_none (is_none_gen ⟨.bl _,H1,I1,by rw [r1.none_iff]; rfl,q1⟩)
theorem ur {j pos'} (ha:PE X a ta):PC X .IsNot a (.Constant .none j pos') (ziC ta):=by
 refine ⟨?_⟩
 intro pins s σ H Q I h
 refine thn (ha pins s σ H _ I h) fun v s1 ⟨x,H1,I1,r1,q1⟩=>?_
 exact Constant_none (isnot_none_gen ⟨.bl _,H1,I1,by rw [r1.none_iff]; rfl,q1⟩)
def tB (t:TE):TT:=fun σ H Q=>t σ H fun x H1=>∃ c,x = .bl c/\Q c H1
theorem x9 {op:CmpOp} {t:TE} (h:PC X op a b t) (h1:behindInMarks op b = false:=by first | exact zeC _ (by decide) (by decide) | rfl):PT X (.Compare a [op] [b] pos) (tB t):=by
 refine ⟨?_⟩
 intro pins s σ H Q I hw
 refine wpAny_isTrue_Compare1 (thn (h pins s σ H _ I hw) fun v s1 h1=>thn h1 fun u s2 h2=>thn h2 fun c s3 ⟨x,H1,I1,r1,q1⟩=>?_) h1
 obtain ⟨d,rfl,q⟩:=q1
 cases r1
 exact wpAny_truthy_bool ⟨H1,I1,q⟩
theorem xi {e:Expr} {t:TE} (h:PE X e t) (he:∀ whole,isTrue e X.env whole = (do let v <- whole; standAt e.pos; holding [v] (truthy v)):=by intro _; rfl):PT X e (tB t):=by
 refine ⟨?_⟩
 intro pins s σ H Q I hw
 refine isTrue_plain (thn (h pins s σ H _ I hw) fun v s1 ⟨x,H1,I1,r1,q1⟩=>?_) (he _)
 obtain ⟨d,rfl,q⟩:=q1
 cases r1
 exact wpAny_truthy_bool ⟨H1,I1,q⟩
variable {tA tB':TT} {rest:List Expr}
def zjz (t u:TT):TT:=fun σ H Q=>t σ H fun c H1=>if c = true then u σ H1 Q else Q false H1
def tOr (t u:TT):TT:=fun σ H Q=>t σ H fun c H1=>if c = true then Q true H1 else u σ H1 Q
def zjq (t:TT):TT:=fun σ H Q=>t σ H fun c H1=>Q (!c) H1
theorem yO (ha:PT X a tA):PW X (.BoolOp .And [a] pos) tA:=by
 refine ⟨?_⟩
 intro wh pins s σ H Q I h
 refine isTrue_and (thn (ha pins s σ H Q I h) fun c s1 e=>?_)
 cases c with
 | true=>exact isTrue_and_nil e
 | false=>exact e
theorem zbo (ha:PT X a tA):PW X (.BoolOp .Or [a] pos) tA:=by
 refine ⟨?_⟩
 intro wh pins s σ H Q I h
 refine isTrue_or (thn (ha pins s σ H Q I h) fun c s1 e=>?_)
 cases c with
 | false=>exact isTrue_or_nil e
 | true=>exact e
theorem xh (ha:PT X a tA) (hb:PW X (.BoolOp .And (b :: rest) pos) tB'):PW X (.BoolOp .And (a :: b :: rest) pos) (zjz tA tB'):=by
 refine ⟨?_⟩
 intro wh pins s σ H Q I h
 refine isTrue_and (thn (ha pins s σ H _ I h) fun c s1 ⟨H1,I1,q1⟩=>?_)
 cases c with
 | true=>exact hb wh pins s1 σ H1 Q I1 q1
 | false=>exact ⟨H1,I1,q1⟩
theorem zd8 (ha:PT X a tA) (hb:PW X (.BoolOp .Or (b :: rest) pos) tB'):PW X (.BoolOp .Or (a :: b :: rest) pos) (tOr tA tB'):=by
 refine ⟨?_⟩
 intro wh pins s σ H Q I h
 refine isTrue_or (thn (ha pins s σ H _ I h) fun c s1 ⟨H1,I1,q1⟩=>?_)
 cases c with
 | true=>exact ⟨H1,I1,q1⟩
 | false=>exact hb wh pins s1 σ H1 Q I1 q1
theorem wx (ha:PT X a tA):PT X (.UnaryOp .Not a pos) (zjq tA):=by
 refine ⟨?_⟩
 intro pins s σ H Q I h
 exact isTrue_not (ha pins s σ H (fun c H1=>Q (!c) H1) I h)
def ziG (ta tb:TE):TE:=fun σ H Q=>ta σ H fun x H1=>∃ c,x = .bl c/\if c = true then tb σ H1 Q else Q (.bl false) H1
theorem zhM {op} {t:TE} (h:PE X a t):PE X (.BoolOp op [a] pos) t:=⟨fun pins s σ H Q I hw=>BoolOp_one (h pins s σ H Q I hw)⟩
theorem zei (ha:PE X a ta) (hb:PE X (.BoolOp .And (b :: rest) pos) tb):PE X (.BoolOp .And (a :: b :: rest) pos) (ziG ta tb):=by
 refine ⟨?_⟩
 intro pins s σ H Q I h
 refine BoolOp_and (thn (ha pins s σ H _ I h) fun v s1 ⟨x,H1,I1,r1,q1⟩=>?_)
 obtain ⟨c,rfl,q1⟩:=q1
 cases r1
 refine wpAny_truthy_bool ?_
 cases c with
 | true=>exact hb pins s1 σ H1 Q I1 q1
 | false=>exact ⟨.bl false,H1,I1,rfl,q1⟩
def tIf (t:TT) (ta tb:TE):TE:=fun σ H Q=>t σ H fun c H1=>if c = true then ta σ H1 Q else tb σ H1 Q
theorem zaj {c:Expr} (hc:PT X c tA) (ha:PE X a ta) (hb:PE X b tb):PE X (.IfExp c a b pos) (tIf tA ta tb):=by
 refine ⟨?_⟩
 intro pins s σ H Q I h
 refine wpAny_IfExp (thn (hc pins s σ H _ I h) fun d s1 ⟨H1,I1,q1⟩=>?_)
 cases d with
 | true=>exact ha pins s1 σ H1 Q I1 q1
 | false=>exact hb pins s1 σ H1 Q I1 q1
end
def SqL (K:Frag) (H:Hp) (a:Addr) (xs:List V):Prop:=
 Rd H a (.lst xs)\/
  ∃ (o:Obj) (its:Array Value) (n:Nat),K.lookup a = some o/\o.cls = .type "list"/\o.dict = none/\o.data = .seq its n/\its.size<=sizeLine/\zJ xs its.toList
def SqT (K:Frag) (H:Hp) (a:Addr) (xs:List V):Prop:=
 Rd H a (.tup xs)\/
  ∃ (o:Obj) (its:Array Value) (n:Nat),K.lookup a = some o/\o.cls = .type "tuple"/\o.data = .seq its n/\its.size<=sizeLine/\zJ xs its.toList
def zj8:Value->Option V
 | .none=>some .non
 | .bool b=>some (.bl b)
 | .int i _=>some (.int i)
 | .str x _=>some (.str x)
 | .bytes b _=>some (.byt b)
 | .float b _=>some (.flt b)
 | .ref a=>some (.ref a)
 | .type n=>some (.ty n)
 | _=>none
theorem zL.abs {x:V} {u:Value} (r:zL x u):zj8 u = some x:=by
 cases x with
 | non=>cases r; rfl
 | bl _=>cases r; rfl
 | int _=>obtain ⟨t,rfl⟩:=r; rfl
 | str _=>obtain ⟨t,rfl⟩:=r; rfl
 | byt _=>obtain ⟨t,rfl⟩:=r; rfl
 | flt _=>obtain ⟨t,rfl⟩:=r; rfl
 | ref _=>cases r; rfl
 | ty _=>cases r; rfl
theorem zL.inj {x y:V} {u:Value} (r:zL x u) (q:zL y u):x = y:=Option.some.inj (r.abs.symm.trans q.abs)
theorem zJ.inj:∀ {xs ys:List V} {us:List Value},zJ xs us->zJ ys us->xs = ys
 | _,_,_,.nil,.nil=>rfl
 | _,_,_,.cons r t,.cons r' t'=>by rw [r.inj r',zJ.inj t t']
section
variable {X:Cx} {pins:List (Addr × Obj)} {σ : St} {H:Hp} {s:Shared} {a:Addr} {xs ys:List V}
theorem SqL.of {K:Frag} (h:H a = some (.lst xs)):SqL K H a xs:=.inl (.inl h)
theorem SqT.of {K:Frag} (h:H a = some (.tup xs)):SqT K H a xs:=.inl (.inl h)
theorem Inv.list (I:Inv X pins σ H s) (h:SqL X.K H a xs):∃ its:List Value,zJ xs its/\PlainL s.heap a its.toArray/\xs.length<=sizeLine:=by
 rcases h with h | ⟨o,its,n,hk,hc,hd,hs,hz,r⟩
 ·obtain ⟨z,its,n,r,e⟩:=h.ok I.hok
  exact ⟨its,r,⟨_,n,e,rfl,rfl,rfl⟩,z⟩
 ·refine ⟨its.toList,r,⟨o,n,I.kIn a o hk,hc,hd,by simpa using hs⟩,?_⟩
  have e:=r.length
  simp only [Array.length_toList] at e
  omega
theorem Inv.tuple (I:Inv X pins σ H s) (h:SqT X.K H a xs):∃ its:List Value,zJ xs its/\IsTup s.heap a its.toArray/\xs.length<=sizeLine:=by
 rcases h with h | ⟨o,its,n,hk,hc,hs,hz,r⟩
 ·obtain ⟨z,its,r,p⟩:=h.ok I.hok
  exact ⟨its,r,p,z⟩
 ·refine ⟨its.toList,r,⟨o,I.kIn a o hk,hc,n,by simpa using hs⟩,?_⟩
  have e:=r.length
  simp only [Array.length_toList] at e
  omega
theorem Inv.list_inj (I:Inv X pins σ H s) (h:SqL X.K H a xs) (h':SqL X.K H a ys):xs = ys:=by
 obtain ⟨its,r,⟨o,n,e,_,_,d⟩,_⟩:=I.list h
 obtain ⟨its',r',⟨o',n',e',_,_,d'⟩,_⟩:=I.list h'
 rw [e] at e'; cases e'
 rw [d] at d'
 injection d' with d1 _
 have:its = its':=by simpa using congrArg Array.toList d1
 subst this
 exact r.inj r'
end
abbrev Cx.wish (X:Cx) (E:Value->Shared->Prop):Cx:={ X with xe:=E }
abbrev Cx.nox (X:Cx):Cx:=X.wish fun _ _=>False
theorem Cx.Ok.wish {X:Cx} (ok:X.Ok) (E:Value->Shared->Prop):(X.wish E).Ok:=
 ⟨ok.mod,ok.kind,ok.glob,ok.blt,ok.above,ok.inj,ok.has,ok.cab,ok.hd,ok.frames,ok.stk,ok.exf,ok.bs,ok.bsz,ok.noex,ok.exfs,ok.funs,ok.frf⟩
theorem Cx.Ok.unwish {X:Cx} {E:Value->Shared->Prop} (ok:(X.wish E).Ok):X.Ok:=
 ⟨ok.mod,ok.kind,ok.glob,ok.blt,ok.above,ok.inj,ok.has,ok.cab,ok.hd,ok.frames,ok.stk,ok.exf,ok.bs,ok.bsz,ok.noex,ok.exfs,ok.funs,ok.frf⟩
section
variable {X:Cx} {pins:List (Addr × Obj)} {σ : St} {H:Hp} {s:Shared} {E:Value->Shared->Prop}
theorem Inv.wish (I:Inv X pins σ H s) (E:Value->Shared->Prop):Inv (X.wish E) pins σ H s:=⟨I.ok.wish E,I.os,I.bare,I.base,I.loc,I.cell,I.free,I.freeC,I.pin,I.hok,I.len⟩
theorem Inv.unwish (I:Inv (X.wish E) pins σ H s):Inv X pins σ H s:=⟨I.ok.unwish,I.os,I.bare,I.base,I.loc,I.cell,I.free,I.freeC,I.pin,I.hok,I.len⟩
theorem SP.unwish {D:wI} {f:Flow} {s':Shared} (h:SP (X.wish E) pins D f s'):SP X pins D f s':=by
 cases f with
 | next=>obtain ⟨σ',H',I,q⟩:=h; exact ⟨σ',H',I.unwish,q⟩
 | brk=>obtain ⟨σ',H',I,q⟩:=h; exact ⟨σ',H',I.unwish,q⟩
 | cont=>obtain ⟨σ',H',I,q⟩:=h; exact ⟨σ',H',I.unwish,q⟩
 | ret u=>obtain ⟨v,σ',H',I,r,q⟩:=h; exact ⟨v,σ',H',I.unwish,r,q⟩
theorem PSs.nox {st:List Stmt} {t:TS} (h:PSs X.nox st t):PSs X st t:=⟨fun pins s σ H D I hw=>
 wpAny_mono (h pins s σ H D (I.wish _) hw) (fun _ _ q=>q.unwish) fun _ _ z=>False.elim z⟩
end
section
variable {X:Cx} {st:Stmt} {rest:List Stmt} {t u:TS} {e:Expr} {te:TE} {pos:Pos}
def zgG:TS:=fun D σ H=>D.nx σ H
def vK (t u:TS):TS:=fun D σ H=>t { D with nx:=u D } σ H
theorem zH:PSs X [] zgG:=⟨fun _ _ σ H _ I h=>wpAny_execs_nil ⟨σ,H,I,h⟩⟩
theorem zi (h1:PS X st t) (h2:PSs X rest u):PSs X (st :: rest) (vK t u):=by
 refine ⟨?_⟩
 intro pins s σ H D I h
 refine wpAny_execs_cons (thn (h1 pins s σ H { D with nx:=u D } I h) fun f s1 q=>?_)
 cases f with
 | next=>
  obtain ⟨σ',H',I',q⟩:=q
  exact h2 pins s1 σ' H' D I' q
 | ret v=>exact q
 | brk=>exact q
 | cont=>exact q
theorem zd (h1:PS X st t):PSs X [st] t:=by
 refine ⟨?_⟩
 intro pins s σ H D I h
 refine wpAny_execs_cons (thn (h1 pins s σ H D I h) fun f s1 q=>?_)
 cases f with
 | next=>exact wpAny_execs_nil q
 | ret v=>exact q
 | brk=>exact q
 | cont=>exact q
theorem Inv.quiet {pins:List (Addr × Obj)} {σ : St} {H:Hp} {s:Shared} (I:Inv X pins σ H s):interactive X.env = false:=by simp [interactive,I.ok.kind]
def ziE (te:TE):TS:=fun D σ H=>te σ H fun _ H1=>D.nx σ H1
theorem zB (he:PE X e te) (hs:swapsWith e none pos.line X.env = pure false:=by rfl):PS X (.Expr e pos) (ziE te):=by
 refine ⟨?_⟩
 intro pins s σ H D I h
 exact wpAny_Expr_any (thn (he pins s σ H _ I h) fun v s1 ⟨x,H1,I1,r1,q1⟩=>⟨σ,H1,I1,q1⟩) I.quiet hs
def zjp (te:TE):TS:=fun D σ H=>te σ H D.rt
theorem zq (he:PE X e te):PS X (.Return (some e) pos) (zjp te):=by
 refine ⟨?_⟩
 intro pins s σ H D I h
 exact wpAny_Return_some (thn (he pins s σ H _ I h) fun v s1 ⟨x,H1,I1,r1,q1⟩=>⟨x,σ,H1,I1,r1,q1⟩)
def zjt (c:TT) (t u:TS):TS:=fun D σ H=>c σ H fun b H1=>if b = true then t D σ H1 else u D σ H1
theorem zP {c:Expr} {a b:List Stmt} {tc:TT} (hc:PT X c tc) (ha:PSs X a t) (hb:PSs X b u):PS X (.If c a b pos) (zjt tc t u):=by
 refine ⟨?_⟩
 intro pins s σ H D I h
 refine wpAny_If (thn (hc pins s σ H _ I h) fun d s1 ⟨H1,I1,q1⟩=>?_)
 cases d with
 | true=>exact ha pins s1 σ H1 D I1 q1
 | false=>exact hb pins s1 σ H1 D I1 q1
end
abbrev TG:=V->St->Hp->(St->Hp->Prop)->Prop
abbrev TGs:=List V->St->Hp->(St->Hp->Prop)->Prop
structure PG (X:Cx) (target:Expr) (t:TG):Prop where
 run:∀ (pins:List (Addr × Obj)) (s:Shared) (σ : St) (H:Hp) (v:V) (u:Value) (Q:St->Hp->Prop),Inv X pins σ H s->zL v u->t v σ H Q->
  wpAny (model X.prog X.w) X.A (assign target X.env u) (fun _ s'=>∃ σ' H',Inv X pins σ' H' s'/\Q σ' H') X.xe s
instance {X:Cx} {target:Expr} {t:TG}:CoeFun (PG X target t) (fun _=>∀ (pins:List (Addr × Obj)) (s:Shared) (σ : St) (H:Hp) (v:V) (u:Value) (Q:St->Hp->Prop),Inv X pins σ H s->zL v u->t v σ H Q->
  wpAny (model X.prog X.w) X.A (assign target X.env u) (fun _ s'=>∃ σ' H',Inv X pins σ' H' s'/\Q σ' H') X.xe s):=⟨PG.run⟩
structure PGs (X:Cx) (ts:List Expr) (t:TGs):Prop where
 run:∀ (pins:List (Addr × Obj)) (s:Shared) (σ : St) (H:Hp) (vs:List V) (us:List Value) (Q:St->Hp->Prop),Inv X pins σ H s->zJ vs us->t vs σ H Q->
  wpAny (model X.prog X.w) X.A (assignInOrder ((assignEach ts X.env).map (·.2)) us) (fun _ s'=>∃ σ' H',Inv X pins σ' H' s'/\Q σ' H') X.xe s
instance {X:Cx} {ts:List Expr} {t:TGs}:CoeFun (PGs X ts t) (fun _=>∀ (pins:List (Addr × Obj)) (s:Shared) (σ : St) (H:Hp) (vs:List V) (us:List Value) (Q:St->Hp->Prop),Inv X pins σ H s->zJ vs us->t vs σ H Q->
  wpAny (model X.prog X.w) X.A (assignInOrder ((assignEach ts X.env).map (·.2)) us) (fun _ s'=>∃ σ' H',Inv X pins σ' H' s'/\Q σ' H') X.xe s):=⟨PGs.run⟩
section
variable {X:Cx} {pos:Pos}
def zO (i:Nat):TG:=fun v σ H Q=>Q (σ.set i (some v)) H
theorem zk {i:Nat} {x:Str} (hN:X.N.Nodup) (hi:X.N[i]? = some x) (hx:Loc X.env.scope x) (hf:X.fn x = true\/X.env.scope.names.lookup x = some .local:=by first | exact .inl rfl | exact .inr rfl | assumption):PG X (.Name x pos) (zO i):=by
 refine ⟨?_⟩
 intro pins s σ H v u Q I r h
 exact wpAny_assign_Name (uB I hN hi hx r (fun s' I'=>⟨_,H,I',h⟩) hf)
def zje:TGs:=fun vs σ H Q=>vs = []/\Q σ H
def zeR (t:TG) (u:TGs):TGs:=fun vs σ H Q=>∃ v r,vs = v :: r/\t v σ H fun σ' H'=>u r σ' H' Q
theorem yh:PGs X [] zje:=by
 refine ⟨?_⟩
 intro pins s σ H vs us Q I r h
 obtain ⟨e,h⟩:=h
 subst e
 cases r
 exact assignInOrder_nil ⟨σ,H,I,h⟩
theorem zo {e:Expr} {es:List Expr} {t:TG} {u:TGs} (h1:PG X e t) (h2:PGs X es u)
  (hs:(assignEach (e :: es) X.env).map (·.2) = assign e X.env :: (assignEach es X.env).map (·.2):=by rfl):PGs X (e :: es) (zeR t u):=by
 refine ⟨?_⟩
 intro pins s σ H vs us Q I r h
 obtain ⟨v,vr,e1,h⟩:=h
 subst e1
 cases r with
 | cons r rr=>
  rw [hs]
  refine assignInOrder_cons (thn (h1 pins s σ H _ _ _ I r h) fun _ s1 ⟨σ1,H1,I1,q1⟩=>?_)
  exact h2 pins s1 σ1 H1 _ _ Q I1 rr q1
def zjd (K:Frag) (n:Nat) (t:TGs):TG:=fun v σ H Q=>∃ a xs,v = .ref a/\SqT K H a xs/\xs.length = n/\t xs σ H Q
theorem yA {es:List Expr} {k:Nat} {t:TGs} {n:Nat} (hc:X.calm = true) (h:PGs X es t)
  (hn:(assignEach es X.env).length = n:=by rfl) (hst:(assignEach es X.env).findIdx? (·.1) = none:=by rfl):PG X (.Tuple es k pos) (zjd X.K n t):=by
 refine ⟨?_⟩
 intro pins s σ H v u Q I r hw
 obtain ⟨a,xs,e1,hq,hl,hw⟩:=hw
 subst e1
 cases r
 obtain ⟨its,rv,ht,hz⟩:=I.tuple hq
 refine assign_Tuple_tuple (I.ok.hd hc) ht (by simp [hn,<- hl,rv.length]) hst fun h' hx=>?_
 have I1:Inv X pins σ H { s with heap:=h' }:=I.kept (t':=s.toks) fun b o e=>hx b o (Nat.ne_of_lt (Heap.lt_size e)) e
 exact h pins _ σ H xs _ Q I1 (by simpa using rv) hw
def zfo (te:TE) (g:TG):TS:=fun D σ H=>te σ H fun x H1=>g x σ H1 D.nx
theorem wb {tg e:Expr} {te:TE} {g:TG} (he:PE X e te) (hg:PG X tg g) (hs:swapsWithSole [tg] e pos.line X.env = pure false:=by rfl) (hw:swappedStores [tg] e X.env = pure none:=by rfl)
  (h1:(assignEach [tg] X.env).map (·.2) = [assign tg X.env]:=by rfl):PS X (.Assign [tg] e pos) (zfo te g):=by
 refine ⟨?_⟩
 intro pins s σ H D I h
 refine wpAny_Assign_stores (thn (he pins s σ H _ I h) fun v s1 ⟨x,H1,I1,r1,q1⟩=>?_) hs hw
 rw [h1]
 exact thn (hg pins s1 σ H1 x v _ I1 r1 q1) fun _ s2 q=>q
theorem zt {i:Nat} {x:Str} {e:Expr} {te:TE} {pos':Pos} (hN:X.N.Nodup) (hi:X.N[i]? = some x) (hx:Loc X.env.scope x) (he:PE X e te) (hs:swapsWith e (some (.Name x pos')) pos.line X.env = pure false:=by rfl) (hf:X.fn x = true\/X.env.scope.names.lookup x = some .local:=by first | exact .inl rfl | exact .inr rfl | assumption) :
  PS X (.Assign [.Name x pos'] e pos) (zfo te (zO i)):=by
 refine ⟨?_⟩
 intro pins s σ H D I h
 refine wpAny_Assign_Name (thn (he pins s σ H _ I h) fun v s1 ⟨y,H1,I1,r1,q1⟩=>?_) hs
 exact uB I1 hN hi hx r1 (fun s2 I2=>⟨_,H1,I2,q1⟩) hf
end
structure It where
 go:Nat->Hp->Prop
 yld:Nat->Hp->V->Hp->Prop
 stop:Nat->Hp->Prop
def wH (X:Cx) (pins:List (Addr × Obj)) (H:Hp) (b:Addr):Prop:=
 H b = none/\b ≠ X.env.locals/\b ∉ X.fs/\(b ∈ X.ex\/X.s₀.heap.objs.size<=b)/\(∀ x c,X.env.cells.lookup x = some c->c ≠ b)/\∀ p ∈ X.pn ++ pins,p.1 ≠ b
theorem Inv.fpOk {X:Cx} {pins:List (Addr × Obj)} {σ : St} {H H':Hp} {s:Shared} {b:Addr} (I:Inv X pins σ H s) (hb:s.heap.objs.size<=b) (hn:H' b = none):wH X pins H' b:=by
 refine ⟨hn,Nat.ne_of_gt (Nat.lt_of_lt_of_le I.lt hb),I.nofs hb,.inr (Nat.le_trans I.sz hb),fun x c e z=>?_,fun p hp z=>?_⟩
 ·obtain ⟨v,q⟩:=I.cell x c e
  exact absurd (Nat.lt_of_lt_of_le q.lt (by rw [z]; exact hb)) (Nat.lt_irrefl _)
 ·exact absurd (Nat.lt_of_lt_of_le (Heap.lt_size (I.pin p hp).1) (by rw [z]; exact hb)) (Nat.lt_irrefl _)
structure qM (P:Program) (w:World) (K:Frag) (tg:Expr) (J:It) (fp:List Addr) (it:Addr) (tn:Nat->Heap->Prop):Prop where
 mem:it ∈ fp
 obj:∀ i h,tn i h->∀ b ∈ fp,∃ o,h.get? b = some o/\∀ v,o.data ≠ .cell v
 keep:∀ i h h',tn i h->(∀ b ∈ fp,∀ o,h.get? b = some o->h'.get? b = some o)->tn i h'
 item:∀ (X:Cx),X.prog = P->X.w = w->X.K = K->X.calm = true->∀ (i:Nat) (pins:List (Addr × Obj)) (s:Shared) (σ : St) (H:Hp) (E:Value->Shared->Prop),Inv X pins σ H s->(∀ b ∈ fp,wH X pins H b)->tn i s.heap->J.go i H->
  wpAny (model P w) X.A (pyNext (.ref it)) (fun r s1=>∃ u,r = some u/\
   wpAny (model P w) X.A (letOwnedTupleGo tg (.ref it) u) (fun _ s2=>∃ x H',Inv X pins σ H' s2/\zL x u/\J.yld i H x H'/\tn (i + 1) s2.heap/\∀ b ∈ fp,H' b = none) E s1) E s
 done:∀ (X:Cx),X.prog = P->X.w = w->X.K = K->X.calm = true->∀ (i:Nat) (pins:List (Addr × Obj)) (s:Shared) (σ : St) (H:Hp) (E:Value->Shared->Prop),Inv X pins σ H s->(∀ b ∈ fp,wH X pins H b)->tn i s.heap->J.stop i H->
  wpAny (model P w) X.A (pyNext (.ref it)) (fun r s1=>r = none/\Inv X pins σ H s1) E s
 self:∀ (A:Around) (i:Nat) (s:Shared) (Q:Value->Shared->Prop) (E:Value->Shared->Prop),tn i s.heap->Q (.ref it) s->wpAny (model P w) A (pyIter (.ref it)) Q E s
abbrev TI:=St->Hp->(It->Hp->Prop)->Prop
def PIE (X:Cx) (pins:List (Addr × Obj)) (σ : St) (tg:Expr) (R:It->Hp->Prop) (itv:Value) (s2:Shared):Prop:=
 ∃ (it:Addr) (fp:List Addr) (tn:Nat->Heap->Prop) (J:It) (H':Hp),itv = .ref it/\Inv X pins σ H' s2/\qM X.prog X.w X.K tg J fp it tn/\tn 0 s2.heap/\(∀ b ∈ fp,wH X pins H' b)/\R J H'
structure PI (X:Cx) (tg iter:Expr) (wi:TI):Prop where
 run:∀ (pins:List (Addr × Obj)) (s:Shared) (σ : St) (H:Hp) (R:It->Hp->Prop),Inv X pins σ H s->wi σ H R->
  wpAny (model X.prog X.w) X.A (eval iter X.env) (fun v s1=>wpAny (model X.prog X.w) X.A (pyIter v) (PIE X pins σ tg R) X.xe s1) X.xe s
instance {X:Cx} {tg iter:Expr} {wi:TI}:CoeFun (PI X tg iter wi) (fun _=>∀ (pins:List (Addr × Obj)) (s:Shared) (σ : St) (H:Hp) (R:It->Hp->Prop),Inv X pins σ H s->wi σ H R->
  wpAny (model X.prog X.w) X.A (eval iter X.env) (fun v s1=>wpAny (model X.prog X.w) X.A (pyIter v) (PIE X pins σ tg R) X.xe s1) X.xe s):=⟨PI.run⟩
theorem zcs {M:Model} {A:Around} {E:Value->Shared->Prop} {s:Shared} {tg:Expr} {it:Addr} {u:Value} {o:Obj} {n:String} {vs:Array Value} {Q:Unit->Shared->Prop} (ho:s.heap.get? it = some o) (hc:o.cls = .type n) (hd:o.data = .fields vs)
  (hn:["enumerate","zip","dict_itemiterator","dict_reverseitemiterator","odict_iterator","itertools.zip_longest","itertools.pairwise"].contains n = false) (hQ:Q () s):wpAny M A (letOwnedTupleGo tg (.ref it) u) Q E s:=by
 unfold letOwnedTupleGo
 cases tg <;> first
  | exact wpAny_pure hQ
  | (cases u <;> first
    | exact wpAny_pure hQ
    | (refine wpAny_bind (wpAny_load ho ?_)
       rw [hc,hd]
       show wpAny M A (if (["enumerate","zip","dict_itemiterator","dict_reverseitemiterator","odict_iterator","itertools.zip_longest","itertools.pairwise"].contains n && vs[0]? == some (rawInt _)) = true then _ else _) Q E s
       rw [if_neg (by intro h; rw [hn,Bool.false_and] at h; cases h)]
       exact wpAny_pure hQ))
def Itl (K:Frag) (a:Addr):It:=
 ⟨fun i H=>∃ xs x,SqL K H a xs/\xs[i]? = some x,fun i H x H'=>H' = H/\∀ xs,SqL K H a xs->xs[i]? = some x,fun i H=>∃ xs,SqL K H a xs/\xs.length<=i⟩
def Itr (lo:Int) (n:Nat):It:=⟨fun i _=>i < n,fun i H x H'=>H' = H/\x = .int (lo + i),fun i _=>n<=i⟩
theorem zcI {P:Program} {w:World} {K:Frag} {tg:Expr} (a it:Addr):qM P w K tg (Itl K a) [it] it (fun i h=>h.IsListIter it a i) where
 mem:=by simp
 obj:=fun i h st b hb=>by
  have e:b = it:=by simpa using hb
  subst e
  obtain ⟨o,e,c,d⟩:=st
  exact ⟨o,e,fun v z=>by rw [d] at z; cases z⟩
 keep:=fun i h h' st k=>st.at fun o e=>k it (by simp) o e
 item:=by
  intro X hP hw hK hc i pins s σ H E I hf st hg
  subst hP hw hK
  obtain ⟨xs,x,hq,hx⟩:=hg
  obtain ⟨its,rv,p,hz⟩:=I.list hq
  obtain ⟨u,hu,ru⟩:=rv.get hx
  obtain ⟨f0,f1,f2,f3,f4,f5⟩:=hf it (by simp)
  refine wpAny_pyNext_list_item st p.isList (x:=u) (by simpa using hu) fun h' st' sb=>?_
  have I1:Inv X pins σ H { s with heap:=h' }:=I.turned (t':=s.toks) (fun b o hb e=>(sb.2 b hb).trans e) f0 f1 f3 f4 f5
  obtain ⟨o,e,c,d⟩:=id st'
  exact ⟨u,rfl,zcs (s:={ s with heap:=h' }) e c d (by decide) ⟨x,H,I1,ru,⟨rfl,fun ys hy=>by rw [I.list_inj hy hq]; exact hx⟩,st',fun b hb=>(hf b hb).1⟩⟩
 done:=by
  intro X hP hw hK hc i pins s σ H E I hf st hg
  subst hP hw hK
  obtain ⟨xs,hq,hx⟩:=hg
  obtain ⟨its,rv,p,hz⟩:=I.list hq
  obtain ⟨f0,f1,f2,f3,f4,f5⟩:=hf it (by simp)
  have hl:=rv.length
  exact wpAny_pyNext_list_end (I.ok.hd hc) st p.isList (by simp; omega) fun h' eb=>⟨rfl,I.turned (t':=s.toks) (fun b o hb e=>eb b o hb e) f0 f1 f3 f4 f5⟩
 self:=fun _ _ _ _ _ st h=>wpAny_pyIter_listiter st h
theorem zaY {P:Program} {w:World} {K:Frag} {tg:Expr} (it:Addr) (lo:Int) (n:Nat):qM P w K tg (Itr lo n) [it] it (fun i h=>IsRangeIter h it (lo + (i:Nat) * 1) ((n:Int) - (i:Nat)) 1) where
 mem:=by simp
 obj:=fun i h st b hb=>by
  have e:b = it:=by simpa using hb
  subst e
  exact ⟨_,st,fun v z=>by
   have z':Data.fields _ = Data.cell v:=z
   cases z'⟩
 keep:=fun i h h' st k=>k it (by simp) _ st
 item:=by
  intro X hP hw hK hc i pins s σ H E I hf st hg
  subst hP hw hK
  obtain ⟨f0,f1,f2,f3,f4,f5⟩:=hf it (by simp)
  have W:=Walks.range (prog:=X.prog) (w:=X.w) (I.ok.hd hc) it lo 1 n
  refine W.item i s _ _ hg st fun v h' tk hv st' kk=>?_
  obtain ⟨t,rfl⟩:=hv
  have I1:Inv X pins σ H { s with heap:=h',toks:=tk }:=I.turned (fun b o hb e=>kk b o (by simpa using hb) e) f0 f1 f3 f4 f5
  refine ⟨_,rfl,zcs (s:={ s with heap:=h',toks:=tk }) (n:="range_iterator") st' rfl rfl (by decide) ⟨.int (lo + i),H,I1,⟨t,?_⟩,⟨rfl,rfl⟩,st',fun b hb=>(hf b hb).1⟩⟩
  rw [Int.mul_one]
 done:=by
  intro X hP hw hK hc i pins s σ H E I hf st hg
  subst hP hw hK
  obtain ⟨f0,f1,f2,f3,f4,f5⟩:=hf it (by simp)
  exact wpAny_pyNext_range_end (I.ok.hd hc) st (by have:n<=i:=hg; omega) fun h' eb=>⟨rfl,I.turned (t':=s.toks) (fun b o hb e=>eb b o hb e) f0 f1 f3 f4 f5⟩
 self:=fun _ _ _ _ _ st h=>wpAny_pyIter_rangeiter st h
section
variable {X:Cx} {tg:Expr}
def zjb (K:Frag) (tl:TE):TI:=fun σ H R=>tl σ H fun x H1=>∃ a,x = .ref a/\(∃ xs,SqL K H1 a xs)/\R (Itl K a) H1
theorem zZ {l:Expr} {tl:TE} (hl:PE X l tl):PI X tg l (zjb X.K tl):=by
 refine ⟨?_⟩
 intro pins s σ H R I h
 refine thn (hl pins s σ H _ I h) fun v s1 ⟨x,H1,I1,r1,q1⟩=>?_
 obtain ⟨a,e,⟨xs,hq⟩,q⟩:=q1
 subst e
 cases r1
 obtain ⟨its,rv,p,hz⟩:=I1.list hq
 refine wpAny_pyIter_list p.isList ?_
 refine ⟨s1.heap.objs.size,[s1.heap.objs.size],_,_,H1,rfl,I1.kept (t':=s1.toks) fun b o e=>Heap.get?_push_of_some _ e,zcI a _,⟨_,Heap.get?_push_size _ rfl,rfl,rfl⟩,fun b hb=>?_,q⟩
 have e:b = s1.heap.objs.size:=by simpa using hb
 subst e
 exact I1.fpOk (Nat.le_refl _) (I1.hok.fresh (Nat.le_refl _))
theorem zag {pins:List (Addr × Obj)} {σ : St} {H:Hp} {s:Shared} {R:It->Hp->Prop} {E:Value->Shared->Prop} {lo hi:Int} {t u v:Tok} {tk:Nat} (I:Inv X pins σ H s) (h1 : -(2 ^ 62)<=lo) (h2:lo < 2 ^ 62) (h3 : -(2 ^ 62)<=hi) (h4:hi < 2 ^ 62)
  (q:R (Itr lo (hi - lo).toNat) H):wpAny (model X.prog X.w) X.A (pyIter (.ref s.heap.objs.size)) (PIE X pins σ tg R) E { s with heap:=s.heap.push { cls:=.type "range",data:=.fields #[.int lo t,.int hi u,.int 1 v] },toks:=tk }:=by
 refine wpAny_pyIter_range (IsRange.new ..) (small_one h1 h2 h3 h4) ?_
 have I1:Inv X pins σ H { s with heap:=s.heap.push { cls:=.type "range",data:=.fields #[.int lo t,.int hi u,.int 1 v] },toks:=tk }:=I.kept fun b o e=>Heap.get?_push_of_some _ e
 refine ⟨(s.heap.push { cls:=.type "range",data:=.fields #[.int lo t,.int hi u,.int 1 v] }).objs.size,[(s.heap.push { cls:=.type "range",data:=.fields #[.int lo t,.int hi u,.int 1 v] }).objs.size],_,_,H,rfl,
  I1.kept (t':=tk) fun b o e=>Heap.get?_push_of_some _ e,zaY _ lo (hi - lo).toNat,?_,fun b hb=>?_,q⟩
 ·have e1:lo + ((0:Nat):Int) * 1 = lo:=by simp
  have e2:(((hi - lo).toNat:Nat):Int) - ((0:Nat):Int) = Builtin.Range.rangeSize lo hi 1:=by rw [rangeSize_one]; split <;> omega
  show IsRangeIter _ _ (lo + ((0:Nat):Int) * 1) ((((hi - lo).toNat:Nat):Int) - ((0:Nat):Int)) 1
  rw [e1,e2]
  exact Heap.get?_push_size _ rfl
 ·have e:b = (s.heap.push { cls:=.type "range",data:=.fields #[.int lo t,.int hi u,.int 1 v] }).objs.size:=by simpa using hb
  subst e
  exact I1.fpOk (Nat.le_refl _) (I1.hok.fresh (Nat.le_refl _))
def zja (ta:TA):TI:=fun σ H R=>ta σ H fun vs H1=>∃ j:Int,vs = [.int j]/\-(2 ^ 62)<=j/\j < 2 ^ 62/\R (Itr 0 j.toNat) H1
def zi9 (ta:TA):TI:=fun σ H R=>ta σ H fun vs H1=>∃ i j:Int,vs = [.int i,.int j]/\(-(2 ^ 62)<=i/\i < 2 ^ 62/\-(2 ^ 62)<=j/\j < 2 ^ 62)/\R (Itr i (j - i).toNat) H1
theorem wO {a:Expr} {ta:TA} {p pos:Pos} (hg:Gl X "range") (hm:X.mg "range" = none) (ha:PA X [a] ta) (hs:starEach [a] X.env = [(false,eval a X.env)]:=by rfl):PI X tg (.Call (.Name "range" p) [a] [] pos) (zja ta):=by
 refine ⟨?_⟩
 intro pins s σ H R I h
 refine Call_ (xD I hg hm boot_range (PyProof.Rows.callWith_type1 (thn (ha pos pins s σ H _ I h) fun us s1 ⟨vs,H1,I1,r1,q1⟩=>?_) hs rfl))
 obtain ⟨j,e,q1,q2,q⟩:=q1
 subst e
 cases r1 with
 | cons r rr=>
  cases rr
  obtain ⟨t,rfl⟩:=r
  exact call_range_1 (zag I1 (by omega) (by omega) q1 q2 (by simpa using q))
theorem zcQ {a b:Expr} {ta:TA} {p pos:Pos} (hg:Gl X "range") (hm:X.mg "range" = none) (ha:PA X [a,b] ta) (hs:starEach [a,b] X.env = [(false,eval a X.env),(false,eval b X.env)]:=by rfl) (hs2:starEach [b] X.env = [(false,eval b X.env)]:=by rfl) :
  PI X tg (.Call (.Name "range" p) [a,b] [] pos) (zi9 ta):=by
 refine ⟨?_⟩
 intro pins s σ H R I h
 refine Call_ (xD I hg hm boot_range (PyProof.Rows.callWith_type1 (thn (ha pos pins s σ H _ I h) fun us s1 ⟨vs,H1,I1,r1,q1⟩=>?_) (by rw [hs,hs2]) (by rw [hs2]; rfl)))
 obtain ⟨i,j,e,⟨q1,q2,q3,q4⟩,q⟩:=q1
 subst e
 cases r1 with
 | cons r rr=>
  cases rr with
  | cons r' rr=>
   cases rr
   obtain ⟨t,rfl⟩:=r
   obtain ⟨t',rfl⟩:=r'
   exact call_range_2 (zag I1 q1 q2 q3 q4 q)
def zjv (wi:TI) (g:TG) (tb:TS):TS:=fun D σ H=>wi σ H fun J H1=>∃ W:Nat->Nat->St->Hp->Prop,(∃ m,W 0 m σ H1)/\∀ i m σ H,W i m σ H->
 (J.stop i H/\D.nx σ H)\/(J.go i H/\∃ N:St->Hp->Prop,(∀ σ' H',N σ' H'->∃ m',m' < m/\W (i + 1) m' σ' H')/\∀ x H',J.yld i H x H'->g x σ H' fun σ2 H2=>tb { D with nx:=N,ct:=N,bk:=D.nx } σ2 H2)
def vO (fp:List Addr) (h:Heap):List (Addr × Obj):=fp.filterMap fun b=>(h.get? b).map fun o=>(b,o)
theorem y0 {fp:List Addr} {h:Heap} {b:Addr} {o:Obj} (hb:b ∈ fp) (e:h.get? b = some o):(b,o) ∈ vO fp h:=List.mem_filterMap.mpr ⟨b,hb,by rw [e]; rfl⟩
theorem zcY {fp:List Addr} {h:Heap} {p:Addr × Obj} (hp:p ∈ vO fp h):p.1 ∈ fp/\h.get? p.1 = some p.2:=by
 obtain ⟨b,hb,e⟩:=List.mem_filterMap.mp hp
 cases q:h.get? b with
 | none=>rw [q] at e; cases e
 | some o=>
  rw [q] at e
  have e':(b,o) = p:=Option.some.inj e
  subst e'
  exact ⟨hb,q⟩
theorem Inv.pinned {pins:List (Addr × Obj)} {σ : St} {H:Hp} {s:Shared} {fp:List Addr} (I:Inv X pins σ H s) (hf:∀ b ∈ fp,wH X pins H b) (ho:∀ b ∈ fp,∃ o,s.heap.get? b = some o/\∀ v,o.data ≠ .cell v):Inv X (pins ++ vO fp s.heap) σ H s:=
 I.pins_of fun p hp=>(List.mem_append.mp hp).elim (fun z=>I.pin p (List.mem_append_right _ z)) fun z=>by
  obtain ⟨hb,e⟩:=zcY z
  obtain ⟨f0,f1,f2,_⟩:=hf p.1 hb
  obtain ⟨o,e',d⟩:=ho p.1 hb
  rw [e] at e'; cases e'
  exact ⟨e,f0,f1,f2,d⟩
theorem Inv.unpinned {pins pl:List (Addr × Obj)} {σ : St} {H:Hp} {s:Shared} (I:Inv X (pins ++ pl) σ H s):Inv X pins σ H s:=I.pins_of fun p hp=>I.pin p (List.mem_append_right _ (List.mem_append_left _ hp))
theorem yz {iter:Expr} {body:List Stmt} {wi:TI} {g:TG} {tb:TS} {pos:Pos} (hp:PassesOwn (model X.prog X.w) X.A X.env X.xe) (hc:X.calm = true) (hi:PI X tg iter wi) (hg:PG X tg g) (hb:PSs X body tb)
  (hs:∀ x,foldedSetIterable iter X.env x = pure x:=by intro _; rfl):PS X (.For tg iter body [] pos) (zjv wi g tb):=by
 refine ⟨?_⟩
 intro pins s σ H D I h
 refine wpAny_For (thn (hi pins s σ H _ I h) fun v s1 h1=>thn h1 fun itv s2 h2=>?_) hs
 obtain ⟨it,fp,tn,J,H2,e,I2,T,st2,f2,W,⟨m0,w0⟩,turn⟩:=h2
 subst e
 have stat:∀ {H':Hp},(∀ b ∈ fp,H' b = none)->∀ b ∈ fp,wH X pins H' b:=fun hn b hb=>⟨hn b hb,(f2 b hb).2⟩
 refine codeAny_forLoop_any (fun n s'=>∃ i σ' H',Inv X pins σ' H' s'/\tn i s'.heap/\(∀ b ∈ fp,H' b = none)/\W i n σ' H') ?_ m0 ⟨0,σ,H2,I2,st2,fun b hb=>(f2 b hb).1,w0⟩
 rintro n s3 ⟨i,σ3,H3,I3,st3,fr3,w3⟩
 rcases turn i n σ3 H3 w3 with ⟨stop,qn⟩ | ⟨go,N,hN,step⟩
 ·refine wpAny_passesOwn hp (thn (T.done X rfl rfl rfl hc i pins s3 σ3 H3 X.xe I3 (stat fr3) st3 stop) fun r s4 ⟨hr,I4⟩=>?_)
  subst hr
  exact wpAny_execs_nil ⟨σ3,H3,I4,qn⟩
 ·refine wpAny_passesOwn hp (thn (T.item X rfl rfl rfl hc i pins s3 σ3 H3 X.xe I3 (stat fr3) st3 go) fun r s4 ⟨u,hr,h4⟩=>?_)
  subst hr
  refine wpAny_passesOwn hp (thn h4 fun _ s5 ⟨x,H5,I5,r5,y5,st5,fr5⟩=>?_)
  have I5':=I5.pinned (stat fr5) (T.obj _ _ st5)
  refine wpAny_passesOwn hp (thn (hg _ s5 σ3 H5 x u _ I5' r5 (step x H5 y5)) fun _ s6 ⟨σ6,H6,I6,q6⟩=>?_)
  refine wpAny_passesOwn hp (thn (hb _ s6 σ6 H6 _ I6 q6) fun f s7 q7=>?_)
  have again:∀ {σ7:St} {H7:Hp},Inv X (pins ++ vO fp s5.heap) σ7 H7 s7->N σ7 H7->∃ m,m < n/\∃ i σ' H',Inv X pins σ' H' s7/\tn i s7.heap/\(∀ b ∈ fp,H' b = none)/\W i m σ' H':=fun {σ7 H7} I7 n7=>by
   obtain ⟨m',hm,w7⟩:=hN σ7 H7 n7
   refine ⟨m',hm,i + 1,σ7,H7,I7.unpinned,T.keep _ _ _ st5 fun b hb o e=>(I7.pin (b,o) (List.mem_append_right _ (List.mem_append_right _ (y0 hb e)))).1,fun b hb=>?_,w7⟩
   obtain ⟨o,e,d⟩:=T.obj _ _ st5 b hb
   exact (I7.pin (b,o) (List.mem_append_right _ (List.mem_append_right _ (y0 hb e)))).2.1
  cases f with
  | next=>obtain ⟨σ7,H7,I7,n7⟩:=q7; exact again I7 n7
  | cont=>obtain ⟨σ7,H7,I7,n7⟩:=q7; exact again I7 n7
  | brk=>obtain ⟨σ7,H7,I7,q7⟩:=q7; exact ⟨σ7,H7,I7.unpinned,q7⟩
  | ret v=>obtain ⟨x7,σ7,H7,I7,r7,q7⟩:=q7; exact ⟨x7,σ7,H7,I7.unpinned,r7,q7⟩
end
theorem yM {K:Frag} {a:Addr} {xs:List V} {g:TG} {tb:TS} {D:wI} {σ : St} {H:Hp} (Pv:Nat->St->Hp->Prop) (h0:Pv 0 σ H) (hl:∀ i σ H,i<=xs.length->Pv i σ H->SqL K H a xs)
  (hs:∀ i x σ H,xs[i]? = some x->Pv i σ H->g x σ H fun σ2 H2=>tb { D with nx:=Pv (i + 1),ct:=Pv (i + 1),bk:=D.nx } σ2 H2) (hd:∀ σ H,Pv xs.length σ H->D.nx σ H) :
  ∃ W:Nat->Nat->St->Hp->Prop,(∃ m,W 0 m σ H)/\∀ i m σ H,W i m σ H->
   ((Itl K a).stop i H/\D.nx σ H)\/((Itl K a).go i H/\∃ N:St->Hp->Prop,(∀ σ' H',N σ' H'->∃ m',m' < m/\W (i + 1) m' σ' H')/\∀ x H',(Itl K a).yld i H x H'->g x σ H' fun σ2 H2=>tb { D with nx:=N,ct:=N,bk:=D.nx } σ2 H2):=by
 refine ⟨fun i m σ H=>m = xs.length - i/\i<=xs.length/\Pv i σ H,⟨xs.length,by simp,Nat.zero_le _,h0⟩,?_⟩
 rintro i m σ H ⟨rfl,hi,p⟩
 have q:=hl i σ H hi p
 by_cases hlt:i < xs.length
 ·refine .inr ⟨⟨xs,xs[i],q,by simp [hlt]⟩,Pv (i + 1),fun σ' H' p'=>⟨xs.length - (i + 1),by omega,rfl,hlt,p'⟩,fun x H' y=>?_⟩
  obtain ⟨e,y⟩:=y
  subst e
  exact hs i x σ _ (y xs q) p
 ·have e:i = xs.length:=by omega
  subst e
  exact .inl ⟨⟨xs,q,Nat.le_refl _⟩,hd σ H p⟩
theorem jV {lo:Int} {n:Nat} {g:TG} {tb:TS} {D:wI} {σ : St} {H:Hp} (Pv:Nat->St->Hp->Prop) (h0:Pv 0 σ H)
  (hs:∀ i σ H,i < n->Pv i σ H->g (.int (lo + i)) σ H fun σ2 H2=>tb { D with nx:=Pv (i + 1),ct:=Pv (i + 1),bk:=D.nx } σ2 H2) (hd:∀ σ H,Pv n σ H->D.nx σ H) :
  ∃ W:Nat->Nat->St->Hp->Prop,(∃ m,W 0 m σ H)/\∀ i m σ H,W i m σ H->
   ((Itr lo n).stop i H/\D.nx σ H)\/((Itr lo n).go i H/\∃ N:St->Hp->Prop,(∀ σ' H',N σ' H'->∃ m',m' < m/\W (i + 1) m' σ' H')/\∀ x H',(Itr lo n).yld i H x H'->g x σ H' fun σ2 H2=>tb { D with nx:=N,ct:=N,bk:=D.nx } σ2 H2):=by
 refine ⟨fun i m σ H=>m = n - i/\i<=n/\Pv i σ H,⟨n,by simp,Nat.zero_le _,h0⟩,?_⟩
 rintro i m σ H ⟨rfl,hi,p⟩
 by_cases hlt:i < n
 ·refine .inr ⟨hlt,Pv (i + 1),fun σ' H' p'=>⟨n - (i + 1),by omega,rfl,hlt,p'⟩,fun x H' y=>?_⟩
  obtain ⟨e,y⟩:=y
  subst e y
  exact hs i σ _ hlt p
 ·have e:i = n:=by omega
  subst e
  exact .inl ⟨Nat.le_refl _,hd σ H p⟩
abbrev R2:=V->V->Hp->VK->Prop
def OpR (X:Cx) (f:Value->Value->Sem Value) (r:R2):Prop:=
 ∀ (pins:List (Addr × Obj)) (s:Shared) (σ : St) (H:Hp) (x y:V) (v u:Value) (Q:VK),Inv X pins σ H s->zL x v->zL y u->r x y H Q->
  wpAny (model X.prog X.w) X.A (f v u) (EP X pins σ Q) X.xe s
def UnR (X:Cx) (f:Value->Sem Value) (r:V->Hp->VK->Prop):Prop:=
 ∀ (pins:List (Addr × Obj)) (s:Shared) (σ : St) (H:Hp) (x:V) (v:Value) (Q:VK),Inv X pins σ H s->zL x v->r x H Q->
  wpAny (model X.prog X.w) X.A (f v) (EP X pins σ Q) X.xe s
def yX (X:Cx) (f:Value) (r:List V->Hp->VK->Prop):Prop:=
 ∀ (pins:List (Addr × Obj)) (s:Shared) (σ : St) (H:Hp) (xs:List V) (us:List Value) (Q:VK),Inv X pins σ H s->zJ xs us->r xs H Q->
  wpAny (model X.prog X.w) X.A (call f us) (EP X pins σ Q) X.xe s
def zkb (X:Cx) (r:V->Hp->(Bool->Hp->Prop)->Prop):Prop:=
 ∀ (pins:List (Addr × Obj)) (s:Shared) (σ : St) (H:Hp) (x:V) (v:Value) (Q:Bool->Hp->Prop),Inv X pins σ H s->zL x v->r x H Q->
  wpAny (model X.prog X.w) X.A (truthy v) (TP X pins σ Q) X.xe s
def tOp (r:R2) (ta tb:TE):TE:=fun σ H Q=>ta σ H fun x H1=>tb σ H1 fun y H2=>r x y H2 Q
def tUn (r:V->Hp->VK->Prop) (ta:TE):TE:=fun σ H Q=>ta σ H fun x H1=>r x H1 Q
inductive IrI (C:Int->Int->Prop) (g:Int->Int->V) (x y:V) (H:Hp) (Q:VK):Prop where
 | mk (i j:Int) (e1:x = .int i) (e2:y = .int j) (c:C i j) (q:Q (g i j) H)
def rI (C:Int->Int->Prop) (g:Int->Int->V):R2:=fun x y H Q=>IrI C g x y H Q
inductive zkf (g:Int->Int->V) (x y:V) (H:Hp) (Q:VK):Prop where
 | mk (i j:Int) (e1:x = .int i) (e2:y = .int j) (q:Q (g i j) H)
def rI0 (g:Int->Int->V):R2:=fun x y H Q=>zkf g x y H Q
def rU (g:Int->V):V->Hp->VK->Prop:=fun x H Q=>∃ i,x = .int i/\Q (g i) H
section
variable {X:Cx} {a b c:Expr} {ta tb tc:TE} {pos:Pos}
theorem zil (ha:PE X a ta) (hb:PE X b tb) {pins:List (Addr × Obj)} {s:Shared} {σ : St} {H:Hp} {R:V->V->Hp->Prop} (I:Inv X pins σ H s)
  (h:ta σ H fun x H1=>tb σ H1 fun y H2=>R x y H2) {Q:Value->Shared->Prop} {f:Value->Value->Sem Value}
  (hf:∀ v u s2 x y H2,Inv X pins σ H2 s2->zL x v->zL y u->R x y H2->wpAny (model X.prog X.w) X.A (f v u) Q X.xe s2) :
  wpAny (model X.prog X.w) X.A (eval a X.env) (fun v s₁=>wpAny (model X.prog X.w) X.A (eval b X.env) (fun u s₂=>wpAny (model X.prog X.w) X.A (f v u) Q X.xe s₂) X.xe s₁) X.xe s:=by
 refine thn (ha pins s σ H _ I h) fun v s1 ⟨x,H1,I1,r1,q1⟩=>?_
 refine thn (hb pins s1 σ H1 _ I1 q1) fun u s2 ⟨y,H2,I2,r2,q2⟩=>?_
 exact hf v u s2 x y H2 I2 r1 r2 q2
theorem zy {op:Operator} {r:R2} (ho:OpR X (binaryOp op) r) (ha:PE X a ta) (hb:PE X b tb):PE X (.BinOp a op b pos) (tOp r ta tb):=by
 refine ⟨?_⟩
 intro pins s σ H Q I h
 exact wpAny_BinOp (zil ha hb I h fun v u s2 x y H2 I2 rx ry q=>ho pins s2 σ H2 x y v u Q I2 rx ry q)
theorem ziW {op:UnaryOp} {r:V->Hp->VK->Prop} (ho:UnR X (unaryOp op) r) (ha:PE X a ta):PE X (.UnaryOp op a pos) (tUn r ta):=by
 refine ⟨?_⟩
 intro pins s σ H Q I h
 exact UnaryOp_ (thn (ha pins s σ H _ I h) fun v s1 ⟨x,H1,I1,r1,q1⟩=>ho pins s1 σ H1 x v Q I1 r1 q1)
theorem opI {f:Value->Value->Sem Value} {C:Int->Int->Prop} {g:Int->Int->Int}
  (rule:∀ (i j:Int) (t u:Tok) (s:Shared) (Q:Value->Shared->Prop) (E:Value->Shared->Prop),C i j->Q (.int (g i j) s.toks) { s with toks:=s.toks + 1 }->wpAny (model X.prog X.w) X.A (f (.int i t) (.int j u)) Q E s) :
  OpR X f (rI C fun i j=>.int (g i j)):=by
 intro pins s σ H x y v u Q I rx ry h
 obtain ⟨i,j,rfl,rfl,hc,q⟩:=h
 obtain ⟨t,rfl⟩:=rx
 obtain ⟨t',rfl⟩:=ry
 exact rule i j t t' s _ _ hc ⟨.int (g i j),H,I.tok _,⟨_,rfl⟩,q⟩
theorem ziZ {f:Value->Value->Sem Value} {g:Int->Int->Int}
  (rule:∀ (i j:Int) (t u:Tok) (s:Shared) (Q:Value->Shared->Prop) (E:Value->Shared->Prop),Q (.int (g i j) s.toks) { s with toks:=s.toks + 1 }->wpAny (model X.prog X.w) X.A (f (.int i t) (.int j u)) Q E s) :
  OpR X f (rI0 fun i j=>.int (g i j)):=by
 intro pins s σ H x y v u Q I rx ry h
 obtain ⟨i,j,rfl,rfl,q⟩:=h
 obtain ⟨t,rfl⟩:=rx
 obtain ⟨t',rfl⟩:=ry
 exact rule i j t t' s _ _ ⟨.int (g i j),H,I.tok _,⟨_,rfl⟩,q⟩
theorem zhT {f:Value->Value->Sem Value} {g:Int->Int->Bool}
  (rule:∀ (i j:Int) (t u:Tok) (s:Shared) (Q:Value->Shared->Prop) (E:Value->Shared->Prop),Q (.bool (g i j)) s->wpAny (model X.prog X.w) X.A (f (.int i t) (.int j u)) Q E s) :
  OpR X f (rI0 fun i j=>.bl (g i j)):=by
 intro pins s σ H x y v u Q I rx ry h
 obtain ⟨i,j,rfl,rfl,q⟩:=h
 obtain ⟨t,rfl⟩:=rx
 obtain ⟨t',rfl⟩:=ry
 exact rule i j t t' s _ _ ⟨.bl (g i j),H,I,rfl,q⟩
def zkk (i j:Int):Prop:=0 < j/\j < 1073741824
def zkj (i j:Int):Prop:=0<=j/\j<=1000000/\i.natAbs < 2 ^ 64
def zit (i j:Int):Prop:=(-(2 ^ 64) < i/\i < 2 ^ 64)\/(-(2 ^ 64) < j/\j < 2 ^ 64)
theorem zit.ok {i j:Int} (h:zit i j):IntMulOk i j:=by
 rcases h with ⟨h1,h2⟩ | ⟨h1,h2⟩
 ·exact .of_left (intBits_le_64 h1 h2)
 ·exact .of_right (intBits_le_64 h1 h2)
theorem xC:OpR X (binaryOp .Add) (rI0 fun i j=>.int (i + j)):=ziZ fun _ _ _ _ _ _ _ q=>add_int q
theorem wy:OpR X (binaryOp .Sub) (rI0 fun i j=>.int (i - j)):=ziZ fun _ _ _ _ _ _ _ q=>sub_int q
theorem xR:OpR X (binaryOp .Mult) (rI zit fun i j=>.int (i * j)):=opI fun _ _ _ _ _ _ _ hc q=>mul_int q hc.ok
theorem vB:OpR X (binaryOp .FloorDiv) (rI zkk fun i j=>.int (i / j)):=opI fun i j _ _ _ _ _ hc q=>by
 have h1:(0:Int) < j:=hc.1
 have h2:j < 1073741824:=hc.2
 exact floordiv_int (by omega) (by rw [Int.fdiv_eq_ediv_of_nonneg i (by omega)]; exact q) (.inl (PyProof.noPylong_small (by omega)))
theorem xA:OpR X (binaryOp .Mod) (rI (fun _ j=>0 < j) fun i j=>.int (i % j)):=opI fun i j _ _ _ _ _ hc q=>by
 have h1:(0:Int) < j:=hc
 exact mod_int' (by omega) (by rw [Int.fmod_eq_emod_of_nonneg i (by omega)]; exact q)
theorem zbt:OpR X (binaryOp .Pow) (rI zkj fun i j=>.int (i ^ j.toNat)):=opI fun _ _ _ _ _ _ _ hc q=>pow_int_small hc.1 hc.2.1 hc.2.2 q
theorem unI {f:Value->Sem Value} {g:Int->Int}
  (rule:∀ (i:Int) (t:Tok) (s:Shared) (Q:Value->Shared->Prop) (E:Value->Shared->Prop),Q (.int (g i) s.toks) { s with toks:=s.toks + 1 }->wpAny (model X.prog X.w) X.A (f (.int i t)) Q E s) :
  UnR X f (rU fun i=>.int (g i)):=by
 intro pins s σ H x v Q I rx h
 obtain ⟨i,rfl,q⟩:=h
 obtain ⟨t,rfl⟩:=rx
 exact rule i t s _ _ ⟨.int (g i),H,I.tok _,⟨_,rfl⟩,q⟩
theorem zg4:UnR X (unaryOp .USub) (rU fun i=>.int (-i)):=unI fun _ _ _ _ _ q=>neg_int q
end
def ziM:V->V->Bool
 | .non,.non=>true | .non,.int _=>true | .int _,.non=>true | .non,.bl _=>true | .bl _,.non=>true | .non,.str _=>true | .str _,.non=>true
 | .int _,.int _=>true | .bl _,.bl _=>true | .str _,.str _=>true | .byt _,.byt _=>true
 | .int _,.str _=>true | .str _,.int _=>true | .bl _,.str _=>true | .str _,.bl _=>true
 | _,_=>false
def rEq:R2:=fun x y H Q=>ziM x y = true/\Q (.bl (decide (x = y))) H
def rNe:R2:=fun x y H Q=>ziM x y = true/\Q (.bl (!decide (x = y))) H
theorem zcz {i j:Int}:decide (V.int i = V.int j) = (i == j):=by
 rw [Bool.eq_iff_iff]
 simp
theorem ze3 {i j:Bool}:decide (V.bl i = V.bl j) = (i == j):=by
 rw [Bool.eq_iff_iff]
 simp
theorem zcy {i j:Str}:decide (V.str i = V.str j) = (i == j):=by
 rw [Bool.eq_iff_iff]
 simp
theorem zcA {i j:Array UInt8}:decide (V.byt i = V.byt j) = (i.toList == j.toList):=by
 rw [Bool.eq_iff_iff]
 cases i
 cases j
 simp
section
variable {X:Cx} {a b c:Expr} {ta tb tc:TE} {pos:Pos}
theorem zW {pins:List (Addr × Obj)} {σ : St} {H:Hp} {s:Shared} {Q:VK} {k k':Bool} (I:Inv X pins σ H s) (q:Q (.bl k) H) (e:k = k'):EP X pins σ Q (.bool k') s:=by
 subst e
 exact ⟨.bl k,H,I,rfl,q⟩
theorem yE:OpR X (compareOp .Eq) rEq:=by
 intro pins s σ H x y v u Q I rx ry h
 obtain ⟨hs,q⟩:=h
 cases x with
 | non=>
  cases rx
  cases y with
  | non=>cases ry; exact PySem.EqNone.eq_none_none (zW I q (by simp))
  | bl j=>cases ry; exact PySem.EqNone.eq_none_bool (zW I q (by simp))
  | int j=>obtain ⟨t',rfl⟩:=ry; exact PySem.EqNone.eq_none_int (zW I q (by simp))
  | str j=>obtain ⟨t',rfl⟩:=ry; exact PySem.EqNone.eq_none_str (zW I q (by simp))
  | _=>exact absurd (show false = true from hs) Bool.false_ne_true
 | bl i=>
  cases rx
  cases y with
  | non=>cases ry; exact PySem.EqNone.eq_bool_none (zW I q (by simp))
  | bl j=>cases ry; exact eq_bool (zW I q ze3)
  | str j=>obtain ⟨t',rfl⟩:=ry; exact PySem.EqMixed.eq_bool_str (zW I q (by simp))
  | _=>exact absurd (show false = true from hs) Bool.false_ne_true
 | int i=>
  obtain ⟨t,rfl⟩:=rx
  cases y with
  | non=>cases ry; exact PySem.EqNone.eq_int_none (zW I q (by simp))
  | int j=>obtain ⟨t',rfl⟩:=ry; exact eq_int (zW I q zcz)
  | str j=>obtain ⟨t',rfl⟩:=ry; exact PySem.EqMixed.eq_int_str (zW I q (by simp))
  | _=>exact absurd (show false = true from hs) Bool.false_ne_true
 | str i=>
  obtain ⟨t,rfl⟩:=rx
  cases y with
  | non=>cases ry; exact PySem.EqNone.eq_str_none (zW I q (by simp))
  | bl j=>cases ry; exact PySem.EqMixed.eq_str_bool (zW I q (by simp))
  | int j=>obtain ⟨t',rfl⟩:=ry; exact PySem.EqMixed.eq_str_int (zW I q (by simp))
  | str j=>obtain ⟨t',rfl⟩:=ry; exact eq_str (zW I q zcy)
  | _=>exact absurd (show false = true from hs) Bool.false_ne_true
 | byt i=>
  obtain ⟨t,rfl⟩:=rx
  cases y with
  | byt j=>obtain ⟨t',rfl⟩:=ry; exact PySem.W.eq_bytes (zW I q zcA)
  | _=>exact absurd (show false = true from hs) Bool.false_ne_true
 | _=>cases y <;> exact absurd (show false = true from hs) Bool.false_ne_true
theorem zgU:OpR X (compareOp .NotEq) rNe:=by
 intro pins s σ H x y v u Q I rx ry h
 obtain ⟨hs,q⟩:=h
 cases x with
 | non=>
  cases rx
  cases y with
  | non=>cases ry; exact PySem.EqNone.ne_none_none (zW I q (by simp))
  | bl j=>cases ry; exact PySem.EqNone.ne_none_bool (zW I q (by simp))
  | int j=>obtain ⟨t',rfl⟩:=ry; exact PySem.EqNone.ne_none_int (zW I q (by simp))
  | str j=>obtain ⟨t',rfl⟩:=ry; exact PySem.EqNone.ne_none_str (zW I q (by simp))
  | _=>exact absurd (show false = true from hs) Bool.false_ne_true
 | bl i=>
  cases rx
  cases y with
  | non=>cases ry; exact PySem.EqNone.ne_bool_none (zW I q (by simp))
  | bl j=>cases ry; exact ne_bool (zW I q (congrArg not ze3))
  | str j=>obtain ⟨t',rfl⟩:=ry; exact PySem.EqMixed.ne_bool_str (zW I q (by simp))
  | _=>exact absurd (show false = true from hs) Bool.false_ne_true
 | int i=>
  obtain ⟨t,rfl⟩:=rx
  cases y with
  | non=>cases ry; exact PySem.EqNone.ne_int_none (zW I q (by simp))
  | int j=>obtain ⟨t',rfl⟩:=ry; exact ne_int (zW I q (congrArg not zcz))
  | str j=>obtain ⟨t',rfl⟩:=ry; exact PySem.EqMixed.ne_int_str (zW I q (by simp))
  | _=>exact absurd (show false = true from hs) Bool.false_ne_true
 | str i=>
  obtain ⟨t,rfl⟩:=rx
  cases y with
  | non=>cases ry; exact PySem.EqNone.ne_str_none (zW I q (by simp))
  | bl j=>cases ry; exact PySem.EqMixed.ne_str_bool (zW I q (by simp))
  | int j=>obtain ⟨t',rfl⟩:=ry; exact PySem.EqMixed.ne_str_int (zW I q (by simp))
  | str j=>obtain ⟨t',rfl⟩:=ry; exact ne_str (zW I q (congrArg not zcy))
  | _=>exact absurd (show false = true from hs) Bool.false_ne_true
 | byt i=>
  obtain ⟨t,rfl⟩:=rx
  cases y with
  | byt j=>obtain ⟨t',rfl⟩:=ry; exact PySem.W.ne_bytes (zW I q (congrArg not zcA))
  | _=>exact absurd (show false = true from hs) Bool.false_ne_true
 | _=>cases y <;> exact absurd (show false = true from hs) Bool.false_ne_true
theorem ua:OpR X (compareOp .Lt) (rI0 fun i j=>.bl (decide (i < j))):=zhT fun _ _ _ _ _ _ _ q=>lt_int q
theorem zgV:OpR X (compareOp .LtE) (rI0 fun i j=>.bl (decide (i<=j))):=zhT fun _ _ _ _ _ _ _ q=>le_int q
theorem zap:OpR X (compareOp .Gt) (rI0 fun i j=>.bl (decide (j < i))):=zhT fun _ _ _ _ _ _ _ q=>gt_int q
theorem zcU:OpR X (compareOp .In) (fun x y H Q=>∃ i j,x = .str i/\y = .str j/\Q (.bl (!(Builtin.Str.occurrences j i 0 j.length 1).isEmpty)) H):=by
 intro pins s σ H x y v u Q I rx ry h
 obtain ⟨i,j,rfl,rfl,q⟩:=h
 obtain ⟨t,rfl⟩:=rx
 obtain ⟨t',rfl⟩:=ry
 exact in_str (zW I q rfl)
theorem OpR.or {f:Value->Value->Sem Value} {r r':R2} (h:OpR X f r) (h':OpR X f r'):OpR X f (fun x y H Q=>r x y H Q\/r' x y H Q):=by
 intro pins s σ H x y v u Q I rx ry q
 rcases q with q | q
 ·exact h pins s σ H x y v u Q I rx ry q
 ·exact h' pins s σ H x y v u Q I rx ry q
theorem zD (b:Expr) {op:CmpOp} (h:op ≠ .In:=by decide) (h2:op ≠ .NotIn:=by decide):behindInMarks op b = false:=by
 have e1:(op == CmpOp.In) = false:=by cases op <;> first | rfl | exact absurd rfl h
 have e2:(op == CmpOp.NotIn) = false:=by cases op <;> first | rfl | exact absurd rfl h2
 cases b <;> simp [behindInMarks,e1,e2]
theorem y9 {op:CmpOp} {r:R2} (ho:OpR X (compareOp op) r) (ha:PE X a ta) (hb:PE X b tb) (hm:behindInMarks op b = false):PE X (.Compare a [op] [b] pos) (tOp r ta tb):=by
 refine ⟨?_⟩
 intro pins s σ H Q I h
 exact wpAny_Compare1 (zil ha hb I h fun v u s2 x y H2 I2 rx ry q=>ho pins s2 σ H2 x y v u Q I2 rx ry q) hm
inductive zjl (x:V) (H:Hp) (Q:Bool->Hp->Prop):Prop where
 | mk (k:Bool) (e:x = .bl k) (q:Q k H)
def zgF (t:TE):TT:=fun σ H Q=>t σ H fun x H'=>zjl x H' Q
theorem zn {op:CmpOp} {r:R2} (ho:OpR X (compareOp op) r) (ha:PE X a ta) (hb:PE X b tb) (hm:behindInMarks op b = false):PT X (.Compare a [op] [b] pos) (zgF (tOp r ta tb)):=by
 refine ⟨?_⟩
 intro pins s σ H Q I h
 refine wpAny_isTrue_Compare1 (thn (ha pins s σ H _ I h) fun v s1 ⟨x,H1,I1,r1,q1⟩=>thn (hb pins s1 σ H1 _ I1 q1) fun u s2 ⟨y,H2,I2,r2,q2⟩=>
  thn (ho pins s2 σ H2 x y v u _ I2 r1 r2 q2) fun c s3 ⟨z,H3,I3,r3,k,e,q3⟩=>?_) hm
 subst e
 cases r3
 exact wpAny_truthy_bool ⟨H3,I3,q3⟩
def zhd (r r':R2) (ta tb tc:TE):TE:=fun σ H Q=>ta σ H fun x H1=>tb σ H1 fun y H2=>r x y H2 fun z H3=>∃ k,z = .bl k/\
 (if k = true then tc σ H3 fun w' H4=>r' y w' H4 Q else Q (.bl false) H3)
theorem zea {op op':CmpOp} {r r':R2} (ho:OpR X (compareOp op) r) (ho':OpR X (compareOp op') r') (ha:PE X a ta) (hb:PE X b tb) (hc:PE X c tc)
  (hm:lastMarks [op,op'] [b,c] = false:=by with_unfolding_all rfl):PT X (.Compare a [op,op'] [b,c] pos) (zgF (zhd r r' ta tb tc)):=by
 refine ⟨?_⟩
 intro pins s σ H Q I h
 refine isTrue_chain (thn (ha pins s σ H _ I h) fun v s1 ⟨x,H1,I1,r1,q1⟩=>test_link (thn (hb pins s1 σ H1 _ I1 q1) fun u s2 ⟨y,H2,I2,r2,q2⟩=>
  thn (ho pins s2 σ H2 x y v u _ I2 r1 r2 q2) fun d s3 ⟨z,H3,I3,r3,k,e,q3⟩=>?_)) hm
 subst e
 cases r3
 refine wpAny_truthy_bool ?_
 cases k with
 | false=>
  obtain ⟨k',e',q'⟩:=q3
  cases e'
  exact ite_ff ⟨H3,I3,q'⟩
 | true=>
  refine ite_tt (test_last (thn (hc pins s3 σ H3 _ I3 q3) fun w' s4 ⟨z',H4,I4,r4,q4⟩=>thn (ho' pins s4 σ H4 y z' u w' _ I4 r2 r4 q4) fun d' s5 ⟨z2,H5,I5,r5,k2,e2,q5⟩=>?_))
  subst e2
  cases r5
  exact wpAny_truthy_bool ⟨H5,I5,q5⟩
def zjk (K:Frag) (x:V) (H:Hp) (k:Bool):Prop:=
 match x with
 | .non=>k = false
 | .bl b=>k = b
 | .int i=>k = (i != 0)
 | .str y=>y.length<=sizeLine/\k = ((y.length:Int) != 0)
 | .byt y=>y.size<=sizeLine/\k = ((y.size:Int) != 0)
 | .ref p=>(∃ xs,SqL K H p xs/\k = !xs.isEmpty)\/(∃ xs,SqT K H p xs/\k = !xs.isEmpty)\/∃ kvs,H p = some (.dK kvs)/\k = !kvs.isEmpty
 | _=>False
theorem zbH {κ : Type} {kvs:List (κ × V)} {vs:List (κ × Value)} (r:KV kvs vs):(!vs.isEmpty) = !kvs.isEmpty:=by
 cases r <;> rfl
theorem jf {xs:List V} {its:List Value} (r:zJ xs its):(!its.toArray.isEmpty) = !xs.isEmpty:=by
 cases r <;> simp
theorem ve:(sizeLine:Nat) < 2 ^ 63:=by rw [sizeLine_eq]; decide
theorem zg6:zkb X (fun x H Q=>∃ k,zjk X.K x H k/\Q k H):=by
 intro pins s σ H x v Q I rx h
 obtain ⟨k,e,q⟩:=h
 have hl:=ve
 have hs:sizeLine = 16777216:=sizeLine_eq
 cases x with
 | non=>
  cases rx
  have e':k = false:=e
  subst e'
  exact truthy_none ⟨H,I,q⟩
 | bl b=>
  cases rx
  have e':k = b:=e
  subst e'
  exact wpAny_truthy_bool ⟨H,I,q⟩
 | int i=>
  obtain ⟨t,rfl⟩:=rx
  have e':k = (i != 0):=e
  subst e'
  exact PySem.P.truthy_int ⟨H,I,q⟩
 | str y=>
  obtain ⟨t,rfl⟩:=rx
  obtain ⟨hy,e'⟩:y.length<=sizeLine/\k = ((y.length:Int) != 0):=e
  subst e'
  exact PySem.P.truthy_str (by omega) ⟨H,I.tok _,q⟩
 | byt y=>
  obtain ⟨t,rfl⟩:=rx
  obtain ⟨hy,e'⟩:y.size<=sizeLine/\k = ((y.size:Int) != 0):=e
  subst e'
  exact PySem.W.truthy_bytes (by omega) ⟨H,I.tok _,q⟩
 | ref p=>
  cases rx
  have e':(∃ xs,SqL X.K H p xs/\k = !xs.isEmpty)\/(∃ xs,SqT X.K H p xs/\k = !xs.isEmpty)\/∃ kvs,H p = some (.dK kvs)/\k = !kvs.isEmpty:=e
  rcases e' with ⟨xs,hx,e'⟩ | ⟨xs,hx,e'⟩ | ⟨kvs,hx,e'⟩
  ·subst e'
   obtain ⟨its,r,pl,hz⟩:=I.list hx
   have hlen:=r.length
   exact wpAny_truthy_list pl.isList (by simp only [List.size_toArray]; omega) ⟨H,I.tok _,by rw [jf r]; exact q⟩
  ·subst e'
   obtain ⟨its,r,pl,hz⟩:=I.tuple hx
   have hlen:=r.length
   exact truthy_tuple pl (by simp only [List.size_toArray]; omega) ⟨H,I.tok _,by rw [jf r]; exact q⟩
  ·subst e'
   obtain ⟨hz,hS,vs,r,m⟩:kvs.length<=sizeLine/\(p == sysModules) = false/\∃ vs,KV kvs vs/\s.heap.DictOf (z7 X.prog X.w) p vs:=I.hok p _ hx
   have hlen:kvs.length = vs.length:=Paired.length r
   exact wpAny_truthy_dict hS m (by omega) ⟨H,I.tok _,by rw [zbH r]; exact q⟩
 | _=>exact (show False from e).elim
theorem zd9 (ha:PE X a ta) (he:∀ whole,isTrue a X.env whole = (do let v <- whole; standAt a.pos; holding [v] (truthy v))) :
  PT X a (fun σ H Q=>ta σ H fun x H'=>∃ k,zjk X.K x H' k/\Q k H'):=by
 refine ⟨?_⟩
 intro pins s σ H Q I h
 exact isTrue_plain (thn (ha pins s σ H _ I h) fun v s1 ⟨x,H1,I1,r1,q1⟩=>zg6 pins s1 σ H1 x v Q I1 r1 q1) (he _)
theorem wo {x:V} {us:List Value} (r:zJ [x] us):∃ u,us = [u]/\zL x u:=by
 cases r with
 | cons r1 r2=>cases r2; exact ⟨_,rfl,r1⟩
theorem zbW {x y:V} {us:List Value} (r:zJ [x,y] us):∃ u w',us = [u,w']/\zL x u/\zL y w':=by
 cases r with
 | cons r1 r2=>
  cases r2 with
  | cons r3 r4=>cases r4; exact ⟨_,_,rfl,r1,r3⟩
theorem zfa:yX X (.builtin "abs") (fun xs H Q=>∃ i,xs = [.int i]/\Q (.int (if i < 0 then -i else i)) H):=by
 intro pins s σ H xs us Q I r h
 obtain ⟨i,rfl,q⟩:=h
 obtain ⟨u,rfl,t,rfl⟩:=wo r
 exact call_abs_int fun u tk=>⟨.int (if i < 0 then -i else i),H,I.tok _,⟨_,rfl⟩,q⟩
theorem zdm (hc:X.calm = true):yX X (.builtin "max") (fun xs H Q=>∃ i j,xs = [.int i,.int j]/\Q (.int (if j > i then j else i)) H):=by
 intro pins s σ H xs us Q I r h
 obtain ⟨i,j,rfl,q⟩:=h
 obtain ⟨u,w',rfl,⟨t,rfl⟩,⟨t',rfl⟩⟩:=zbW r
 refine max_two_ints (I.ok.hd hc) fun h' tk k=>⟨_,H,I.kept k,?_,q⟩
 by_cases hj:j > i
 ·rw [if_pos hj,if_pos hj]; exact ⟨_,rfl⟩
 ·rw [if_neg hj,if_neg hj]; exact ⟨_,rfl⟩
theorem j5:yX X (.type "int") (fun xs H Q=>(∃ i,xs = [.int i]/\Q (.int i) H)\/∃ k,xs = [.bl k]/\Q (.int (if k then 1 else 0)) H):=by
 intro pins s σ H xs us Q I r h
 rcases h with ⟨i,rfl,q⟩ | ⟨k,rfl,q⟩
 ·obtain ⟨u,rfl,t,rfl⟩:=wo r
  exact call_int_int ⟨.int i,H,I,⟨_,rfl⟩,q⟩
 ·obtain ⟨u,rfl,r1⟩:=wo r
  cases r1
  exact call_int_bool ⟨.int (if k then 1 else 0),H,I.tok _,⟨_,rfl⟩,q⟩
end
structure zbR (h:Heap) (x dx C:Addr) (mA:Str->Option Value):Prop where
 obj:h.get? x = some (instObj C dx)
 ns:h.Ns1 dx mA
 ne:dx ≠ x
theorem zc1 {h:Heap} {dx:Addr} {mA:Str->Option Value} (n:h.Ns1 dx mA):∃ od,h.get? dx = some od/\∀ name,lookIn name od = some (mA name):=by
 obtain ⟨o,es,ep,ho,hd,hk,_,hm⟩:=n
 refine ⟨o,ho,fun name=>?_⟩
 have e:=hm name
 unfold nsFind findBy at e
 rw [<- Array.find?_toList] at e
 unfold lookIn
 rw [hd]
 dsimp only
 split
 ·rename_i y q
  rw [q] at e
  exact congrArg some e
 ·rename_i q
  rw [q] at e
  have a:es.toList.any (·.refKey) = false:=by
   rw [List.any_eq_false]
   intro y hy
   obtain ⟨z,t,hkey⟩:=hk y (Array.mem_toList_iff.mp hy)
   simp [DictEntry.refKey,hkey]
  have a':¬ es.toList.any (·.refKey) = true:=by rw [a]; exact Bool.false_ne_true
  rw [if_neg a']
  exact congrArg some e
theorem zbR.look {h:Heap} {x dx C:Addr} {mA:Str->Option Value} (I:zbR h x dx C mA):∃ od,PySem.W.InstAt h x (instObj C dx) C (some od)/\∀ name,lookIn name od = some (mA name):=
 let ⟨od,ho,hl⟩:=zc1 I.ns
 ⟨od,⟨I.obj,rfl,rfl,ho⟩,hl⟩
section
variable {prog:Program} {w:World} {A:Around} {E:Value->Shared->Prop} {s:Shared} {K:Frag} {x dx C f:Addr} {mA:Str->Option Value} {name:Str} {v:Value}
theorem zgq {expr:Bool} {Q:Value->Shared->Prop} (X:K.In s.heap) (I:zbR s.heap x dx C mA) (hg:plainGet K C name = true) (hh:hasDictIn K C = true)
  (ha:findIn K (.ref C) name = some none) (hv:mA name = some v) (hv':PySem.W.handedIn v = true) (h:Q v { s with toks:=s.toks + 1 }) :
  wpAny (model prog w) A (getAttr (.ref x) name expr) Q E s:=by
 obtain ⟨od,J,hl⟩:=I.look
 exact PySem.W.get_value X J (plainGet_of hg).1 (PySem.W.findObj_own hh ha rfl (by rw [hl,hv])) hv' h
theorem zeQ {pl:Sem Bool} {Q:Value × List Value->Shared->Prop} (X:K.In s.heap) (I:zbR s.heap x dx C mA) (hg:plainGet K C name = true)
  (hf:findIn K (.ref C) name = some (some (.ref f))) (ht:isFn K (.ref f) = true) (hv:mA name = none) (h:Q (.ref f,[.ref x]) s) :
  wpAny (model prog w) A (getMethod (.ref x) name pl) Q E s:=by
 obtain ⟨od,J,hl⟩:=I.look
 exact PySem.W.method_fn X J (plainGet_of hg).1 (plainGet_of hg).2 hf (beq_iff_eq.mp ht) (by show (lookIn name od).map (·.isSome) = some false; rw [hl,hv]; rfl) h
theorem zfp {ns:List Str} {Q:Unit->Shared->Prop} (X:K.In s.heap) (I:zbR s.heap x dx C mA)
  (hs:findIn K (.ref C) "__setattr__" = some (some (.builtin "object.__setattr__"))) (hp:plainOver K C = true) (ht:takerIn K C name = some none) (hh:hasDictIn K C = true)
  (hw:PySem.Within mA ns) (hsz:ns.length<=sizeLine)
  (h:∀ h',zbR h' x dx C (fun y=>if y = name then some v else mA y)->Heap.SameBut dx s.heap h'->Q () { s with heap:=h',toks:=s.toks + 2 }) :
  wpAny (model prog w) A (setAttr (.ref x) name v) Q E s:=by
 obtain ⟨od,J,hl⟩:=I.look
 refine PySem.W.set_plain X J hs (PySem.W.osa_open (s:={ s with toks:=s.toks + 1 }) (r:=none) X J hp ht fun b=>?_)
 obtain ⟨cd,hc,hd'⟩:=PySem.W.any_some hh
 have hx:s.heap.get? x = some ⟨.ref C,some dx,.plain,#[]⟩:=I.obj
 refine wpAny_bind (wpAny_pure (wpAny_bind (wpAny_bind (wpAny_loadPart hx (wpAny_bind (PySem.W.Looks.here (s:={ s with toks:=s.toks + 1 }) (PySem.W.looks_clsIn X hc) ?_))))))
 rw [hd']
 refine wpAny_pure (a:=some dx) (wpAny_bind (wpAny_pure (wpAny_bind ?_)))
 refine wpAny_nsSet1 (s:={ s with toks:=s.toks + 1 }) I.ns fun h' hn2 hs2=>?_
 obtain ⟨oD,esD,epD,hoD,hdD,hcD⟩:=hn2.count (PySem.Within.cons name v hw)
 refine wpAny_bind (wpAny_lookBehind hoD (by rw [hdD]; exact pastItsLine_dict (Nat.le_trans hcD (by rw [List.length_cons]; omega))) ?_)
 exact wpAny_pure (h _ ⟨(hs2.2 _ (Ne.symm I.ne)).trans I.obj,hn2,I.ne⟩ hs2)
theorem zeJ {R:Result->Shared->Prop} {vs:List Value} {kw:List (Str × Value)} (X:K.In s.heap) (hm:makesIn K C = true)
  (hi:findIn K (.ref C) "__init__" = some (some (.ref f))) (hf:PySem.W.typeIn K (.ref f) = some (.type "function"))
  (h:codeAny (model prog w) (A.under (.builtin "type.__call__" ⟨.ref C :: vs,kw⟩)) (.call (.ref f) ⟨.ref (s.heap.objs.size + 1) :: vs,kw⟩) (PySem.W.InitBack (s.heap.objs.size + 1) R)
   { s with heap:=(s.heap.push emptyDict).push (instObj C s.heap.objs.size) }) :
  codeAny (model prog w) A (.call (.ref C) ⟨vs,kw⟩) R s:=by
 obtain ⟨hh,g,d,t,os⟩:=s
 exact PySem.W.make_core (PySem.W.makes_of X hm) (PySem.W.looks_findIn X hi) (fun self=>PySem.W.bind_fn X self hf) (.inl rfl) h
end
def zR (f:Str) (v:V):List (Str × V)->List (Str × V)
 | []=>[(f,v)]
 | (g,x) :: r=>if g = f then (g,v) :: r else (g,x) :: zR f v r
theorem zj (f g:Str) (v:V):∀ fs:List (Str × V),(zR f v fs).lookup g = if g = f then some v else fs.lookup g
 | []=>by
  show List.lookup g [(f,v)] = _
  by_cases h:g = f
  ·have hb:(g == f) = true:=beq_iff_eq.mpr h
   simp only [List.lookup,hb,if_pos h]
  ·have hb:(g == f) = false:=beq_eq_false_iff_ne.mpr h
   simp only [List.lookup,hb,if_neg h]
 | (k,x) :: r=>by
  have ih:=zj f g v r
  rw [show zR f v ((k,x) :: r) = (if k = f then (k,v) :: r else (k,x) :: zR f v r) from rfl]
  by_cases hk:k = f
  ·rw [if_pos hk]
   by_cases h:g = k
   ·have hb:(g == k) = true:=beq_iff_eq.mpr h
    simp only [List.lookup,hb,if_pos (h.trans hk)]
   ·have hb:(g == k) = false:=beq_eq_false_iff_ne.mpr h
    simp only [List.lookup,hb,if_neg (fun e:g = f=>h (e.trans hk.symm))]
  ·rw [if_neg hk]
   by_cases h:g = k
   ·have hb:(g == k) = true:=beq_iff_eq.mpr h
    simp only [List.lookup,hb,if_neg (fun e:g = f=>hk (h.symm.trans e))]
   ·have hb:(g == k) = false:=beq_eq_false_iff_ne.mpr h
    simp only [List.lookup,hb]
    exact ih
theorem vU (f:Str) (v:V):∀ fs:List (Str × V),f ∈ (zR f v fs).map (·.1)/\∀ g,g ∈ fs.map (·.1)->g ∈ (zR f v fs).map (·.1)
 | []=>⟨by simp [zR],fun g h=>by simp at h⟩
 | (k,x) :: r=>by
  obtain ⟨i1,i2⟩:=vU f v r
  rw [show zR f v ((k,x) :: r) = (if k = f then (k,v) :: r else (k,x) :: zR f v r) from rfl]
  by_cases hk:k = f
  ·rw [if_pos hk]
   subst hk
   exact ⟨by simp,fun g h=>by simpa using h⟩
  ·rw [if_neg hk]
   refine ⟨?_,fun g h=>?_⟩
   ·rw [List.map_cons]
    exact List.mem_cons_of_mem _ i1
   ·rw [List.map_cons] at h |-
    rcases List.mem_cons.mp h with e | e
    ·exact List.mem_cons.mpr (.inl e)
    ·exact List.mem_cons_of_mem _ (i2 g e)
theorem ub (f:Str) (v:V):∀ fs:List (Str × V),(zR f v fs).length<=fs.length + 1
 | []=>by simp [zR]
 | (k,x) :: r=>by
  have ih:=ub f v r
  rw [show zR f v ((k,x) :: r) = (if k = f then (k,v) :: r else (k,x) :: zR f v r) from rfl]
  by_cases hk:k = f
  ·rw [if_pos hk,List.length_cons,List.length_cons]; omega
  ·rw [if_neg hk,List.length_cons,List.length_cons]; omega
theorem wm.some_of {v:V} {o:Option Value} (r:wm (some v) o):∃ u,o = some u/\zL v u:=by
 cases o with
 | none=>exact (show False from r).elim
 | some u=>exact ⟨u,rfl,r⟩
theorem wm.none_of {o:Option Value} (r:wm none o):o = none:=by
 cases o with
 | none=>rfl
 | some u=>exact (show False from r).elim
theorem zc8 {v:V} {u:Value} (r:zL v u):PySem.W.handedIn u = true:=by
 cases v with
 | non=>cases (show u = Value.none from r); rfl
 | bl b=>cases (show u = Value.bool b from r); rfl
 | int i=>obtain ⟨t,e⟩:=(show ∃ t,u = Value.int i t from r); cases e; rfl
 | str x=>obtain ⟨t,e⟩:=(show ∃ t,u = Value.str x t from r); cases e; rfl
 | byt b=>obtain ⟨t,e⟩:=(show ∃ t,u = Value.bytes b t from r); cases e; rfl
 | flt b=>obtain ⟨t,e⟩:=(show ∃ t,u = Value.float b t from r); cases e; rfl
 | ref a=>cases (show u = Value.ref a from r); rfl
 | ty n=>cases (show u = Value.type n from r); rfl
section
variable {P:Program} {w:World} {H H':Hp} {h h':Heap} {a C dx:Addr} {fs fs':List (Str × V)}
theorem uu (hok:HOk P w H h) (e:H a = some (.ins C dx fs)):∃ mA,zbR h a dx C mA/\(∀ f,wm (fs.lookup f) (mA f))/\PySem.Within mA (fs.map (·.1))/\fs.length<=1000/\H dx = some (.own a):=by
 obtain ⟨d,z,ne,ob,mA,n,r,q⟩:=(show ye P w H h a (.ins C dx fs) from hok a _ e)
 exact ⟨mA,⟨ob,n,ne⟩,r,q,z,d⟩
end
structure Cls (K:Frag) (C:Addr):Prop where
 pg:plainGet K C Str.empty = true
 hd:hasDictIn K C = true
 po:plainOver K C = true
 sa:findIn K (.ref C) "__setattr__" = some (some (.builtin "object.__setattr__"))
theorem Cls.get {K:Frag} {C:Addr} (c:Cls K C) (f:Str):plainGet K C f = true:=c.pg
def yQ (K:Frag) (C:Addr) (f:Str):Prop:=findIn K (.ref C) f = some none
theorem yQ.taker {K:Frag} {C:Addr} {f:Str} (n:yQ K C f):takerIn K C f = some none:=by
 unfold takerIn
 rw [show findIn K (.ref C) f = some none from n]
 rfl
structure yN (K:Frag) (C:Addr) (m:Str) (f:Addr):Prop where
 at_:findIn K (.ref C) m = some (some (.ref f))
 fn:isFn K (.ref f) = true
 kp:keepIn K (.ref f) = true
section
variable {X:Cx} {pins:List (Addr × Obj)} {σ : St} {H:Hp} {s:Shared} {a C dx:Addr} {fs:List (Str × V)} {f:Str} {v:V} {A:Around} {E:Value->Shared->Prop}
theorem zbI {b:Bool} {Q:Value->Shared->Prop} (I:Inv X pins σ H s) (e:H a = some (.ins C dx fs)) (c:Cls X.K C) (n:yQ X.K C f) (l:fs.lookup f = some v)
  (h:∀ u s',Inv X pins σ H s'->zL v u->Q u s'):wpAny (model X.prog X.w) A (getAttr (.ref a) f b) Q E s:=by
 obtain ⟨mA,O,r,_,_,_⟩:=uu I.hok e
 obtain ⟨u,hu,ru⟩:=wm.some_of (v:=v) (o:=mA f) (by rw [<- l]; exact r f)
 exact zgq I.kIn O (c.get f) c.hd n hu (zc8 ru) (h u _ (I.tok _) ru)
theorem vf {m:Str} {g:Addr} {pl:Sem Bool} {Q:Value × List Value->Shared->Prop} (I:Inv X pins σ H s) (e:H a = some (.ins C dx fs)) (c:Cls X.K C) (k:yN X.K C m g) (l:fs.lookup m = none)
  (h:Q (.ref g,[.ref a]) s):wpAny (model X.prog X.w) A (getMethod (.ref a) m pl) Q E s:=by
 obtain ⟨mA,O,r,_,_,_⟩:=uu I.hok e
 have hn:mA m = none:=wm.none_of (by rw [<- l]; exact r m)
 exact zeQ I.kIn O (c.get m) k.at_ k.fn hn h
theorem za8 {y:V} {u:Value} {Q:Unit->Shared->Prop} (I:Inv X pins σ H s) (e:H a = some (.ins C dx fs)) (c:Cls X.K C) (n:yQ X.K C f) (hl:fs.length < 1000) (ry:zL y u)
  (h:∀ s',Inv X pins σ (upd H a (.ins C dx (zR f y fs))) s'->Q () s'):wpAny (model X.prog X.w) A (setAttr (.ref a) f u) Q E s:=by
 obtain ⟨mA,O,r,wi,_,ho⟩:=uu I.hok e
 have hz:(fs.map (·.1)).length<=sizeLine:=by rw [List.length_map,sizeLine_eq]; omega
 refine zfp I.kIn O c.sa c.po n.taker c.hd wi hz fun h' O' sb=>h _ ?_
 have hd:∃ o,h'.get? dx = some o:=let ⟨o,_,_,e',_⟩:=O'.ns; ⟨o,e'⟩
 refine I.write (x:=a) (e:=dx) (by rw [e]; exact True.intro) (.inr ho) (fun b q hb z=>(sb.2 b hb).trans z) hd ?_
 refine ⟨by rw [zf O.ne]; exact ho,?_,O.ne,O'.obj,_,O'.ns,fun g=>?_,fun g hg=>?_⟩
 ·have:=ub f y fs; omega
 ·show wm ((zR f y fs).lookup g) (if g = f then some u else mA g)
  rw [zj]
  by_cases q:g = f
  ·rw [if_pos q,if_pos q]; exact ry
  ·rw [if_neg q,if_neg q]; exact r g
 ·by_cases q:g = f
  ·rw [q]; exact (vU f y fs).1
  ·refine (vU f y fs).2 g (wi g fun z=>hg ?_)
   show (if g = f then some u else mA g) = none
   rw [if_neg q]; exact z
theorem Inv.made (I:Inv X pins σ H s):Inv X pins σ (upd (upd H s.heap.objs.size (.own (s.heap.objs.size + 1))) (s.heap.objs.size + 1) (.ins C s.heap.objs.size []))
  { s with heap:=(s.heap.push emptyDict).push (instObj C s.heap.objs.size) }:=by
 have e1:(s.heap.push emptyDict).get? s.heap.objs.size = some emptyDict:=Heap.get?_push_size s.heap rfl
 have e2:((s.heap.push emptyDict).push (instObj C s.heap.objs.size)).get? (s.heap.objs.size + 1) = some (instObj C s.heap.objs.size):=by
  have:=Heap.get?_push_size (s.heap.push emptyDict) (o:=instObj C s.heap.objs.size) rfl
  rwa [Heap.size_push] at this
 have e3:(s.heap.push emptyDict).Ns s.heap.objs.size (fun _=>none):=⟨emptyDict,#[],_,e1,rfl,(fun e he=>absurd he (by simp)),fun _=>rfl⟩
 have I1:=I.laid (a:=s.heap.objs.size) (o:=.own (s.heap.objs.size + 1)) (h':=s.heap.push emptyDict) (t':=s.toks) (fun b u q=>Heap.get?_push_of_some _ q) (Nat.le_refl _) ⟨_,e1⟩
 refine I1.laid (a:=s.heap.objs.size + 1) (o:=.ins C s.heap.objs.size []) (t':=s.toks) (fun b u q=>Heap.get?_push_of_some _ q) (Nat.le_of_eq (Heap.size_push _ _)) ?_
 have ne:s.heap.objs.size ≠ s.heap.objs.size + 1:=Nat.ne_of_lt (Nat.lt_succ_self _)
 refine ⟨by rw [zf ne,za],Nat.zero_le _,ne,e2,fun _=>none,(Heap.Ns1.of_empty e3).at fun o q=>Heap.get?_push_of_some _ q,fun _=>True.intro,fun y hy=>absurd rfl hy⟩
theorem zgA {prog:Program} {w:World} {env:Env} {e:Expr} {f:Str} {pos:Pos} {s:Shared} {Q:Value->Shared->Prop} (hb:attributeBase e f env (eval e env) = eval e env)
  (h:wpAny (model prog w) A (eval e env) (fun o s₁=>wpAny (model prog w) A (getAttr o f true) Q E s₁) E s):wpAny (model prog w) A (eval (.Attribute e f pos) env) Q E s:=
 Attribute_any_ h (by rw [arm_eval_Attribute,hb])
end
def ziD (K:Frag) (ta:TE) (f:Str):TE:=fun σ H Q=>ta σ H fun x H1=>∃ a C dx fs v,x = .ref a/\H1 a = some (.ins C dx fs)/\Cls K C/\yQ K C f/\fs.lookup f = some v/\Q v H1
def zjC (K:Frag) (ta tv:TE) (f:Str):TS:=fun D σ H=>tv σ H fun y H1=>ta σ H1 fun x H2=>∃ a C dx fs,x = .ref a/\H2 a = some (.ins C dx fs)/\Cls K C/\yQ K C f/\fs.length < 1000/\
 D.nx σ (upd H2 a (.ins C dx (zR f y fs)))
section
variable {X:Cx} {o e value:Expr} {f:Str} {pos pos' tpos:Pos} {ta tv:TE}
theorem yr (he:PE X e ta) (hb:attributeBase e f X.env (eval e X.env) = eval e X.env):PE X (.Attribute e f pos) (ziD X.K ta f):=by
 refine ⟨?_⟩
 intro pins s σ H Q I h
 refine zgA hb (thn (he pins s σ H _ I h) fun u s1 ⟨x,H1,I1,rx,a,C,dx,fs,v,ex,ea,c,n,l,q⟩=>?_)
 subst ex
 obtain rfl:u = Value.ref a:=rx
 exact zbI I1 ea c n l fun u' s2 I2 ru=>⟨v,H1,I2,ru,q⟩
theorem wa (ha:PE X o ta) (hv:PE X value tv) (hs:swapsWith value (some (.Attribute o f pos')) pos.line X.env = pure false):PS X (.Assign [.Attribute o f pos'] value pos) (zjC X.K ta tv f):=by
 refine ⟨?_⟩
 intro pins s σ H D I h
 refine plainObj_wpAny_Assign_Attribute (thn (hv pins s σ H _ I h) fun u s1 ⟨y,H1,I1,ry,q⟩=>thn (ha pins s1 σ H1 _ I1 q) fun ov s2 ⟨x,H2,I2,rx,a,C,dx,fs,ex,ea,c,n,l,q2⟩=>?_) hs
 subst ex
 obtain rfl:ov = Value.ref a:=rx
 exact za8 I2 ea c n l ry fun s3 I3=>⟨σ,_,I3,q2⟩
end
section
variable {X:Cx} {pins:List (Addr × Obj)} {σ : St} {H:Hp} {s:Shared} {A:Around} {E:Value->Shared->Prop} {Q:Value->Shared->Prop} {c:Value} {b:Bool}
inductive wW (K:Frag) (H:Hp):V->Value->Prop where
 | non:wW K H .non (.type "NoneType")
 | bl (x:Bool):wW K H (.bl x) (.type "bool")
 | int (i:Int):wW K H (.int i) (.type "int")
 | str (x:Str):wW K H (.str x) (.type "str")
 | flt (x:UInt64):wW K H (.flt x) (.type "float")
 | lst {a:Addr} {xs:List V} (e:H a = some (.lst xs)):wW K H (.ref a) (.type "list")
 | frz {a:Addr} {o:Obj} {xs:List V} (e:H a = some (.frz o (.lst xs))):wW K H (.ref a) (.type "list")
 | tup {a:Addr} {xs:List V} (e:H a = some (.tup xs)):wW K H (.ref a) (.type "tuple")
 | dK {a:Addr} {kvs:List (Key × V)} (e:H a = some (.dK kvs)):wW K H (.ref a) (.type "dict")
 | dT {a:Addr} {kvs:List (List Key × V)} (e:H a = some (.dT kvs)):wW K H (.ref a) (.type "dict")
 | ins {a C dx:Addr} {fs:List (Str × V)} (e:H a = some (.ins C dx fs)) (cl:Cls K C) (ha:findIn K (.ref C) "__class__" = some (some (.builtin "object.__class__")))
   (hn:specialIn K (.builtin "object.__class__") "__get__" = some (some (.builtin "getset_descriptor.__get__"))) (htk:PySem.W.takesIn K (.builtin "object.__class__") = some true)
   (hm:mroIn K C (.type "object") = some true):wW K H (.ref a) (.ref C)
theorem zc5 {x:V} {u t:Value} (I:Inv X pins σ H s) (rx:zL x u) (ty:wW X.K H x t) (e:kitOne X.K t c = some b) (h:∀ tk,Q (.bool b) { s with toks:=tk }) :
  wpAny (model X.prog X.w) A (call (.builtin "isinstance") [u,c]) Q E s:=by
 cases ty with
 | non=>cases (show u = Value.none from rx); exact kia_one PySem.W.kitx_none I.kIn True.intro e (fun z=>nomatch z) h
 | bl y=>cases (show u = Value.bool y from rx); exact kia_one PySem.W.kitx_bool I.kIn True.intro e (fun z=>nomatch z) h
 | int i=>obtain ⟨t,q⟩:=(show ∃ t,u = Value.int i t from rx); cases q; exact kia_one PySem.W.kitx_int I.kIn True.intro e (fun z=>nomatch z) h
 | str y=>obtain ⟨t,q⟩:=(show ∃ t,u = Value.str y t from rx); cases q; exact kia_one PySem.W.kitx_str I.kIn True.intro e (fun z=>nomatch z) h
 | flt y=>obtain ⟨t,q⟩:=(show ∃ t,u = Value.float y t from rx); cases q; exact kia_one PySem.W.kitx_float I.kIn True.intro e (fun z=>nomatch z) h
 | @lst a xs ea=>
  cases (show u = Value.ref a from rx)
  obtain ⟨_,_,n,_,h1⟩:=(show ye X.prog X.w H s.heap a (.lst xs) from I.hok a _ ea)
  exact kia_one PySem.W.kitx_list I.kIn ⟨_,h1,rfl⟩ e (fun z=>nomatch z) h
 | @frz a ob xs ea=>
  cases (show u = Value.ref a from rx)
  obtain ⟨_,_,_,n,_,h1⟩:=(show ye X.prog X.w H s.heap a (.frz ob (.lst xs)) from I.hok a _ ea)
  exact kia_one PySem.W.kitx_list I.kIn ⟨_,h1,rfl⟩ e (fun z=>nomatch z) h
 | @tup a xs ea=>
  cases (show u = Value.ref a from rx)
  obtain ⟨_,_,_,p⟩:=(show ye X.prog X.w H s.heap a (.tup xs) from I.hok a _ ea)
  obtain ⟨o,h1,h2,_⟩:=p
  exact kia_one PySem.W.kitx_tuple I.kIn ⟨o,h1,h2⟩ e (fun z=>nomatch z) h
 | @dK a kvs ea=>
  cases (show u = Value.ref a from rx)
  obtain ⟨_,_,vs,_,p⟩:=(show ye X.prog X.w H s.heap a (.dK kvs) from I.hok a _ ea)
  obtain ⟨o,es,ep,h1,h2,_⟩:=p
  exact kia_one PySem.W.kitx_dict I.kIn ⟨o,h1,h2.1⟩ e (fun z=>nomatch z) h
 | @dT a kvs ea=>
  cases (show u = Value.ref a from rx)
  obtain ⟨_,_,xs,_,o,es,ep,h1,h2,_⟩:=(show ye X.prog X.w H s.heap a (.dT kvs) from I.hok a _ ea)
  exact kia_one PySem.W.kitx_dict I.kIn ⟨o,h1,h2.1⟩ e (fun z=>nomatch z) h
 | @ins a C dx fs ea cl ha hn htk hm=>
  cases (show u = Value.ref a from rx)
  obtain ⟨mA,O,_⟩:=uu I.hok ea
  obtain ⟨od,J,_⟩:=O.look
  exact kia_one (PySem.W.kitx_own (cl.get _) cl.hd ha hn htk hm) I.kIn J e (fun z=>nomatch z) h
end
structure yb (k:Nat) (A:Around):Prop where
 hd:A.handled = none
 dp:A.depth + 3 * k + 5 < recursionLimit
 un:A.units + 16 * k + 200 < cLine
theorem yb.mono {j k:Nat} {A:Around} (r:yb k A) (h:j<=k):yb j A:=⟨r.hd,by have:=r.dp; omega,by have:=r.un; omega⟩
theorem yb.deeper {k:Nat} {A:Around} (r:yb (k + 1) A) (env:Env):yb k (A.deeper env):=
 ⟨r.hd,by have:=r.dp; show A.depth + 1 + 3 * k + 5 < _; omega,by have:=r.un; show A.units + 3 + 16 * k + 200 < _; omega⟩
theorem zby {A:Around} {C:Addr} {us:List Value} {kw:List (Str × Value)}:(A.under (.builtin "type.__call__" ⟨.ref C :: us,kw⟩)).depth = A.depth + 1:=by
 first | rfl | simp [Around.under,Code.weight,Code.isCreation,Code.isGuard,Code.isCaller,Code.frames,Code.isFrame,guardIds]
theorem zbx {A:Around} {C:Addr} {us:List Value} {kw:List (Str × Value)}:(A.under (.builtin "type.__call__" ⟨.ref C :: us,kw⟩)).units = A.units + 1:=by
 first | rfl | simp [Around.under,Code.cUnits,Code.frames,Code.isFrame]
theorem yb.make {k:Nat} {A:Around} (r:yb (k + 1) A) (C:Addr) (us:List Value) (kw:List (Str × Value)):yb k (A.under (.builtin "type.__call__" ⟨.ref C :: us,kw⟩)):=
 ⟨r.hd,by have:=r.dp; rw [zby]; omega,by have:=r.un; rw [zbx]; omega⟩
theorem yb.depth {k:Nat} {A:Around} (r:yb k A):A.depth < recursionLimit:=by have:=r.dp; omega
theorem yb.units {k:Nat} {A:Around} (r:yb k A):A.units + 64 < cLine:=by have:=r.un; omega
theorem yb.units0 {k:Nat} {A:Around} (r:yb k A):A.units < cLine:=by have:=r.un; omega
def zg8:TA:=fun _ H Q=>Q [] H
def zgJ (ta:TE) (tr:TA):TA:=fun σ H Q=>ta σ H fun x H1=>tr σ H1 fun xs H2=>Q (x :: xs) H2
section
variable {X:Cx} {e:Expr} {es:List Expr} {te:TE} {t:TA} {pos:Pos}
theorem zb:PA X [] zg8:=⟨fun _ _ _ _ H Q I h=>Calls.spliced_nil ⟨[],H,I,.nil,h⟩⟩
theorem zfN (ha:PE X e te) (hr:PA X es t) (hs:starEach (e :: es) X.env = (false,eval e X.env) :: starEach es X.env:=by rfl):PA X (e :: es) (zgJ te t):=by
 refine ⟨?_⟩
 intro pos pins s σ H Q I h
 rw [hs]
 show wpAny _ _ (spliced ((false,eval e X.env) :: backTo pos (starEach es X.env))) _ _ s
 refine Calls.spliced_cons (thn (ha pins s σ H _ I h) fun u s1 ⟨x,H1,I1,r1,q1⟩=>?_)
 exact thn (hr pos pins s1 σ H1 _ I1 q1) fun us s2 ⟨xs,H2,I2,r2,q2⟩=>⟨x :: xs,H2,I2,.cons r1 r2,q2⟩
def zjo (t:TA):TE:=fun σ H Q=>t σ H fun xs H1=>xs.length<=sizeLine/\∀ p,H1 p = none->Q (.ref p) (upd H1 p (.tup xs))
def zjr (t:TA):TE:=fun σ H Q=>t σ H fun xs H1=>xs.length<=sizeLine/\∀ p,H1 p = none->Q (.ref p) (upd H1 p (.lst xs))
theorem zN {x1} (h:PA X es t):PE X (.Tuple es x1 pos) (zjo t):=by
 refine ⟨?_⟩
 intro pins s σ H Q I hq
 refine wpAny_Tuple_spliced (thn (h pos pins s σ H _ I hq) fun us s1 ⟨xs,H1,I1,r,z,q⟩=>⟨by rw [<- r.length]; exact z,?_⟩)
 have hf:H1 s1.heap.objs.size = none:=I1.hok.fresh (Nat.le_refl _)
 refine ⟨.ref s1.heap.objs.size,upd H1 s1.heap.objs.size (.tup xs),I1.laid (t':=s1.toks) (fun b u e=>Heap.get?_push_of_some _ e) (Nat.le_refl _) ?_,rfl,q _ hf⟩
 exact ⟨z,us,r,⟨_,Heap.get?_push_size _ rfl,rfl,_,rfl⟩⟩
theorem zY (h:PA X es t):PE X (.List es pos) (zjr t):=by
 refine ⟨?_⟩
 intro pins s σ H Q I hq
 refine wpAny_List_spliced (thn (h pos pins s σ H _ I hq) fun us s1 ⟨xs,H1,I1,r,z,q⟩=>⟨by rw [<- r.length]; exact z,?_⟩)
 have hf:H1 s1.heap.objs.size = none:=I1.hok.fresh (Nat.le_refl _)
 refine ⟨.ref s1.heap.objs.size,upd H1 s1.heap.objs.size (.lst xs),I1.laid (t':=s1.toks) (fun b u e=>Heap.get?_push_of_some _ e) (Nat.le_refl _) ?_,rfl,q _ hf⟩
 exact ⟨z,us,0,r,Heap.get?_push_size _ rfl⟩
end
abbrev Sp:=List V->Hp->VK->XK->Prop
abbrev CXT:=List Env->Hp->Shared->XK->Value->Shared->Prop
structure zbU (P:Program) (w:World) (K:Frag) (mg:Str->Option Value) (base:Heap) (A:Around) (outer:List Env) (s:Shared) (H:Hp):Prop where
 frames:A.frames = some outer
 mod:Mod K mg base
 bs:∀ b o,base.get? b = some o->s.heap.get? b = some o/\H b = none
 bsz:base.objs.size<=s.heap.objs.size
 funs:s.heap.FunFrames base outer
 frf:∀ b ∈ frs outer,H b = none
 hok:HOk P w H s.heap
 bare:AllBare s.gens
def CE (outer:List Env) (P:Program) (w:World) (H:Hp) (s:Shared) (Q:VK) (u:Value) (s':Shared):Prop:=
 ∃ v H',s'.os = s.os/\AllBare s'.gens/\Un (frs outer) [] H H' s.heap s'.heap/\HOk P w H' s'.heap/\zL v u/\Q v H'
def CR (CX:CXT) (outer:List Env) (P:Program) (w:World) (H:Hp) (s:Shared) (Q:VK) (E:XK) (r:Result) (s':Shared):Prop:=
 match r with
 | .ok (.ret u)=>CE outer P w H s Q u s'
 | .ok _=>False
 | .error e=>CX outer H s E e s'
structure zp (P:Program) (w:World) (K:Frag) (mg:Str->Option Value) (base:Heap) (CX:CXT) (k:Nat) (f:Addr) (fd:FuncData) (ps:List Str) (sp:Sp):Prop where
 len:∀ vs H Q E,sp vs H Q E->vs.length = ps.length
 run:∀ (A:Around) (outer:List Env) (s:Shared) (H:Hp) (args:Args) (us:List Value) (vs:List V) (Q:VK) (E:XK),yb k A->zbU P w K mg base A outer s H->BindsTo s fd args (ps.zip us)->zJ vs us->sp vs H Q E->
  codeAny (model P w) A (.call (.ref f) args) (CR CX outer P w H s Q E) s
theorem zbU.make {P:Program} {w:World} {K:Frag} {mg:Str->Option Value} {base:Heap} {A:Around} {outer:List Env} {s:Shared} {H:Hp} (e:zbU P w K mg base A outer s H) (C:Addr) (us:List Value) (kw:List (Str × Value)) :
  zbU P w K mg base (A.under (.builtin "type.__call__" ⟨.ref C :: us,kw⟩)) outer s H:=⟨by first | exact e.frames | (simpa [Around.under,Code.envs,Code.isFrame,pushEnvs] using e.frames),e.mod,e.bs,e.bsz,e.funs,e.frf,e.hok,e.bare⟩
section
variable {X:Cx} {pins:List (Addr × Obj)} {σ : St} {H:Hp} {s s':Shared}
theorem Inv.env0 (I:Inv X pins σ H s):zbU X.prog X.w X.K X.mg X.base X.A X.stack s H:=
 ⟨I.ok.frames,I.ok.mod,I.bs,Nat.le_trans I.ok.bsz I.sz,I.stack,I.stkFree,I.hok,I.bare⟩
theorem Inv.after {Q:VK} {u:Value} (I:Inv X pins σ H s) (h:CE X.stack X.prog X.w H s Q u s'):EP X pins σ Q u s':=by
 obtain ⟨v,H',os,bare,un,hok,r,q⟩:=h
 obtain ⟨hh,g,d,t,os'⟩:=s'
 obtain rfl:os' = s.os:=os
 exact ⟨v,H',I.call (h':=hh) (g':=g) (d':=d) (t':=t) (ch:=[]) un hok bare (fun b z=>absurd z (by simp)),r,q⟩
end
def qW (sp:Sp) (dvs:List V) (E:XK) (t:TA):TE:=fun σ H Q=>t σ H fun vs H1=>sp (vs ++ dvs) H1 Q E
def zgH (C:Addr) (m:Str) (sp:Sp) (dvs:List V) (E:XK) (ta:TE) (t:TA):TE:=fun σ H Q=>ta σ H fun x H1=>∃ a dx fs,x = .ref a/\H1 a = some (.ins C dx fs)/\fs.lookup m = none/\
 t σ H1 fun vs H2=>sp (x :: (vs ++ dvs)) H2 Q E
def zgI (C:Addr) (sp:Sp) (dvs:List V) (E:XK) (t:TA):TE:=fun σ H Q=>t σ H fun vs H1=>∀ x dx,H1 x = none->H1 dx = none->dx ≠ x->
 sp (.ref x :: (vs ++ dvs)) (upd (upd H1 dx (.own x)) x (.ins C dx [])) (fun v H2=>v = .non/\Q (.ref x) H2) E
def zQ (K:Frag) (fd:FuncData) (ps:List Str) (ds:List Value):Prop:=
 ∀ (s:Shared) (us:List Value),K.In s.heap->(us ++ ds).length = ps.length->BindsTo s fd ⟨us,[]⟩ (ps.zip (us ++ ds))
theorem zQ.all {K:Frag} {fd:FuncData} {ps:List Str} (h:∀ us:List Value,us.length = ps.length->bindArgs fd ⟨us,[]⟩ = pure (ps.zip us)):zQ K fd ps []:=fun s us _ hl=>by
 rw [List.append_nil] at hl |-
 exact .of_eq (h us hl)
def xj (CX:CXT) (X:Cx) (E:XK):Prop:=∀ (pins:List (Addr × Obj)) (σ : St) (H:Hp) (s:Shared) (e:Value) (s':Shared),Inv X pins σ H s->CX X.stack H s E e s'->X.xe e s'
section
variable {X:Cx} {CX:CXT} {k:Nat} {f C:Addr} {fd:FuncData} {ps:List Str} {sp:Sp} {dvs:List V} {ds:List Value} {E:XK} {x m:Str} {p pos apos:Pos} {e o:Expr} {es:List Expr} {ta:TE} {t:TA}
theorem uP {pins:List (Addr × Obj)} {σ : St} {H:Hp} {s:Shared} {Q:VK} {us:List Value} {vs:List V} (F:zp X.prog X.w X.K X.mg X.base CX k f fd ps sp) (hr:yb k X.A) (hb:zQ X.K fd ps ds) (hd:zJ dvs ds) (hx:xj CX X E)
  (I:Inv X pins σ H s) (r:zJ vs us) (h:sp (vs ++ dvs) H Q E):wpAny (model X.prog X.w) X.A (call (.ref f) us) (EP X pins σ Q) X.xe s:=by
 have r2:zJ (vs ++ dvs) (us ++ ds):=r.append hd
 have hl:(us ++ ds).length = ps.length:=by rw [<- r2.length]; exact F.len _ _ _ _ h
 refine wpAny_call (codeAny_mono (F.run X.A X.stack s H ⟨us,[]⟩ (us ++ ds) (vs ++ dvs) Q E hr I.env0 (hb s us I.kIn hl) r2 h) fun r s' hq=>?_)
 cases r with
 | error e=>exact hx pins σ H s e s' I hq
 | ok fl=>
  cases fl with
  | ret u=>exact I.after hq
  | next=>exact False.elim hq
  | brk=>exact False.elim hq
  | cont=>exact False.elim hq
theorem zcl (F:zp X.prog X.w X.K X.mg X.base CX k f fd ps sp) (hr:yb k X.A) (hg:Gl X x) (hm:X.mg x = some (.ref f)) (hk:keepIn X.K (.ref f) = true) (hb:zQ X.K fd ps ds) (hd:zJ dvs ds) (hx:xj CX X E)
  (ha:PA X (e :: es) t) (hdb:(x == ("__debug__" : Str)) = false:=by decide) (he:starEach (e :: es) X.env = (false,eval e X.env) :: starEach es X.env:=by rfl) (hpl:(backTo pos (starEach es X.env)).any (·.1) = false:=by rfl) :
  PE X (.Call (.Name x p) (e :: es) [] pos) (qW sp dvs E t):=by
 refine ⟨?_⟩
 intro pins s σ H Q I h
 refine wpAny_Call_Name_kw (xO I hg hm ?_ hdb)
 refine callWith_K (h₀:=X.base) I.ok.mod.kin hk (thn (ha pos pins s σ H _ I h) fun us s1 ⟨vs,H1,I1,r,q⟩=>⟨I1.kIn,?_⟩) he hpl
 exact uP F hr hb hd hx I1 r q
theorem zci {pl:Sem Bool} (he:PE X o ta) (c:Cls X.K C) (hm:yN X.K C m f) (F:zp X.prog X.w X.K X.mg X.base CX k f fd ps sp) (hr:yb k X.A) (hb:zQ X.K fd ps ds) (hd:zJ dvs ds) (hx:xj CX X E) (ha:PA X (e :: es) t)
  (hst:starEach (e :: es) X.env = (false,eval e X.env) :: starEach es X.env:=by rfl) (hpl:(backTo pos (starEach es X.env)).any (·.1) = false:=by rfl)
  (ht:eval (.Call (.Attribute o m apos) (e :: es) [] pos) X.env = (do
   let ov <- eval o X.env
   standAt apos.atName
   let (f,first) <- holding [ov] (getMethod ov m pl)
   callWith pos f first (backTo pos (starEach (e :: es) X.env)) (backToKw pos (keywordEach [] X.env))):=by rfl) :
  PE X (.Call (.Attribute o m apos) (e :: es) [] pos) (zgH C m sp dvs E ta t):=by
 refine ⟨?_⟩
 intro pins s σ H Q I h
 refine methodCall_KW (pl:=pl) (thn (he pins s σ H _ I h) fun u s1 ⟨x,H1,I1,rx,a,dx,fs,ex,ea,l,q⟩=>?_) ht
 subst ex
 obtain rfl:u = Value.ref a:=rx
 refine vf I1 ea c hm l ?_
 refine callWith_K (first:=[.ref a]) (h₀:=X.base) I.ok.mod.kin hm.kp (thn (ha pos pins s1 σ H1 _ I1 q) fun us s2 ⟨vs,H2,I2,r,q2⟩=>⟨I2.kIn,?_⟩) hst hpl
 exact uP (us:=.ref a :: us) (vs:=.ref a :: vs) F hr hb hd hx I2 (.cons rfl r) q2
theorem yn {pl:Sem Bool} (he:PE X o ta) (c:Cls X.K C) (hm:yN X.K C m f) (F:zp X.prog X.w X.K X.mg X.base CX k f fd ps sp) (hr:yb k X.A) (hb:zQ X.K fd ps ds) (hd:zJ dvs ds) (hx:xj CX X E)
  (ht:eval (.Call (.Attribute o m apos) [] [] pos) X.env = (do
   let ov <- eval o X.env
   standAt apos.atName
   let (f,first) <- holding [ov] (getMethod ov m pl)
   callWith pos f first (backTo pos (starEach [] X.env)) (backToKw pos (keywordEach [] X.env))):=by rfl) :
  PE X (.Call (.Attribute o m apos) [] [] pos) (zgH C m sp dvs E ta zg8):=by
 refine ⟨?_⟩
 intro pins s σ H Q I h
 refine methodCall_KW (pl:=pl) (thn (he pins s σ H _ I h) fun u s1 ⟨x,H1,I1,rx,a,dx,fs,ex,ea,l,q⟩=>?_) ht
 subst ex
 obtain rfl:u = Value.ref a:=rx
 refine vf I1 ea c hm l ?_
 exact PySem.W.callWith_K0 (first:=[.ref a]) I1.kIn hm.kp (uP (us:=[.ref a]) (vs:=[.ref a]) F hr hb hd hx I1 (.cons rfl .nil) q)
structure Mk (K:Frag) (C f:Addr):Prop where
 makes:makesIn K C = true
 init:findIn K (.ref C) "__init__" = some (some (.ref f))
 fn:isFn K (.ref f) = true
 kp:keepIn K (.ref C) = true
theorem zd5 {pins:List (Addr × Obj)} {σ : St} {H:Hp} {s:Shared} {Q:VK} {us:List Value} {vs:List V} (M:Mk X.K C f) (F:zp X.prog X.w X.K X.mg X.base CX k f fd ps sp) (hr:yb (k + 1) X.A) (hb:zQ X.K fd ps ds) (hd:zJ dvs ds)
  (hx:xj CX X E) (I:Inv X pins σ H s) (r:zJ vs us)
  (h:∀ x dx,H x = none->H dx = none->dx ≠ x->sp (.ref x :: (vs ++ dvs)) (upd (upd H dx (.own x)) x (.ins C dx [])) (fun v H2=>v = .non/\Q (.ref x) H2) E) :
  wpAny (model X.prog X.w) X.A (call (.ref C) us) (EP X pins σ Q) X.xe s:=by
 have hq:=h (s.heap.objs.size + 1) s.heap.objs.size (I.hok.fresh (Nat.le_succ _)) (I.hok.fresh (Nat.le_refl _)) (Nat.ne_of_lt (Nat.lt_succ_self _))
 have I2:=Inv.made (C:=C) I
 have r2:zJ (V.ref (s.heap.objs.size + 1) :: (vs ++ dvs)) (Value.ref (s.heap.objs.size + 1) :: (us ++ ds)):=.cons rfl (r.append hd)
 have hl:(Value.ref (s.heap.objs.size + 1) :: us ++ ds).length = ps.length:=by
  have e:=r2.length
  rw [F.len _ _ _ _ hq] at e
  exact e.symm
 refine wpAny_call (zeJ (f:=f) I.kIn M.makes M.init (beq_iff_eq.mp M.fn) (codeAny_mono (F.run _ X.stack _ _ ⟨Value.ref (s.heap.objs.size + 1) :: us,[]⟩ (Value.ref (s.heap.objs.size + 1) :: (us ++ ds)) _ _ E (hr.make C us [])
  (I2.env0.make C us []) (hb _ (Value.ref (s.heap.objs.size + 1) :: us) I2.kIn hl) r2 hq) fun r s' hq'=>?_))
 cases r with
 | error e=>exact hx pins σ _ _ e s' I2 hq'
 | ok fl=>
  cases fl with
  | ret u=>
   obtain ⟨v,H',I3,rv,ev,q3⟩:=I2.after hq'
   subst ev
   exact ⟨rv,⟨V.ref (s.heap.objs.size + 1),H',I3,rfl,q3⟩⟩
  | next=>exact False.elim hq'
  | brk=>exact False.elim hq'
  | cont=>exact False.elim hq'
theorem zcj (M:Mk X.K C f) (F:zp X.prog X.w X.K X.mg X.base CX k f fd ps sp) (hr:yb (k + 1) X.A) (hg:Gl X x) (hm:X.mg x = some (.ref C)) (hb:zQ X.K fd ps ds) (hd:zJ dvs ds) (hx:xj CX X E)
  (ha:PA X (e :: es) t) (hdb:(x == ("__debug__" : Str)) = false:=by decide) (he:starEach (e :: es) X.env = (false,eval e X.env) :: starEach es X.env:=by rfl) (hpl:(backTo pos (starEach es X.env)).any (·.1) = false:=by rfl) :
  PE X (.Call (.Name x p) (e :: es) [] pos) (zgI C sp dvs E t):=by
 refine ⟨?_⟩
 intro pins s σ H Q I h
 refine wpAny_Call_Name_kw (xO I hg hm ?_ hdb)
 refine callWith_K (h₀:=X.base) I.ok.mod.kin M.kp (thn (ha pos pins s σ H _ I h) fun us s1 ⟨vs,H1,I1,r,q⟩=>⟨I1.kIn,?_⟩) he hpl
 exact zd5 M F hr hb hd hx I1 r q
end
section
variable {X:Cx} {CX:CXT} {k:Nat} {f C:Addr} {fd:FuncData} {ps ks:List Str} {sp:Sp} {E:XK} {x m:Str} {p pos apos kpos:Pos} {e o:Expr} {es:List Expr} {kws:List Keyword} {te ta:TE} {t tk:TA} {nm:Option Str}
variable {g:List Value->List Value->List Value} {gV:List V->List V->List V}
end
structure zm (N P:List Str) (sc:Scope):Prop where
 kind:sc.kind = .function
 co:sc.isCoroutine = false
 gen:sc.isGenerator = false
 nd:N.Nodup
 pre:N.take P.length = P
 par:∀ x ∈ P,sc.names.lookup x = some .local\/sc.names.lookup x = some .cell
 nofree:∀ y ∈ sc.names,y.2 ≠ .free
theorem j6 {kindOf:Str->Option NameKind} {x:Str}:∀ {binds:List (Str × Value)} {m:Str->Option Value},(∀ v,(x,v) ∉ binds)->bindL kindOf binds m x = m x
 | [],_,_=>rfl
 | (n,v) :: r,m,h=>by
  unfold bindL
  rw [j6 fun w hw=>h w (List.mem_cons_of_mem _ hw)]
  split
  ·have:x ≠ n:=by rintro rfl; exact h v List.mem_cons_self
   simp [this]
  ·rfl
theorem j8 {kindOf:Str->Option NameKind} {x:Str}:∀ {binds:List (Str × Value)} {m:Str->Option Value},(∀ v,(x,v) ∉ binds)->bindC kindOf binds m x = m x
 | [],_,_=>rfl
 | (n,v) :: r,m,h=>by
  unfold bindC
  rw [j8 fun w hw=>h w (List.mem_cons_of_mem _ hw)]
  split
  ·rfl
  ·have:x ≠ n:=by rintro rfl; exact h v List.mem_cons_self
   simp [this]
theorem j7 {kindOf:Str->Option NameKind} {x:Str} {v:Value}:∀ {P:List Str} {vs:List Value} {i:Nat} {m:Str->Option Value},P.Nodup->P[i]? = some x->vs[i]? = some v->kindOf x = some .local->
  bindL kindOf (P.zip vs) m x = some v
 | [],_,_,_,_,h,_,_=>by simp at h
 | _ :: _,[],_,_,_,_,h,_=>by simp at h
 | p :: P,w :: vs,0,m,nd,h1,h2,hk=>by
  simp at h1 h2; subst h1; subst h2
  show bindL kindOf ((p,w) :: P.zip vs) m p = _
  unfold bindL
  rw [j6 fun v hv=>(List.nodup_cons.mp nd).1 (List.of_mem_zip hv).1,if_pos hk]
  simp
 | p :: P,w :: vs,i + 1,m,nd,h1,h2,hk=>by
  show bindL kindOf ((p,w) :: P.zip vs) m x = _
  unfold bindL
  exact j7 (i:=i) (List.nodup_cons.mp nd).2 (by simpa using h1) (by simpa using h2) hk
theorem j9 {kindOf:Str->Option NameKind} {x:Str} {v:Value}:∀ {P:List Str} {vs:List Value} {i:Nat} {m:Str->Option Value},P.Nodup->P[i]? = some x->vs[i]? = some v->kindOf x ≠ some .local->
  bindC kindOf (P.zip vs) m x = some v
 | [],_,_,_,_,h,_,_=>by simp at h
 | _ :: _,[],_,_,_,_,h,_=>by simp at h
 | p :: P,w :: vs,0,m,nd,h1,h2,hk=>by
  simp at h1 h2; subst h1; subst h2
  show bindC kindOf ((p,w) :: P.zip vs) m p = _
  unfold bindC
  rw [j8 fun v hv=>(List.nodup_cons.mp nd).1 (List.of_mem_zip hv).1,if_neg hk]
  simp
 | p :: P,w :: vs,i + 1,m,nd,h1,h2,hk=>by
  show bindC kindOf ((p,w) :: P.zip vs) m x = _
  unfold bindC
  exact j9 (i:=i) (List.nodup_cons.mp nd).2 (by simpa using h1) (by simpa using h2) hk
def wX (N:List Str) (vs:List V):St:=vs.map some ++ List.replicate (N.length - vs.length) none
def ju (CX:CXT) (P:Program) (w:World) (K:Frag) (mg:Str->Option Value) (base:Heap) (N:List Str) (qual:Str) (scope:Scope) (f:Addr) (cd:Value) (A:Around) (outer:List Env) (s:Shared) (H:Hp) (E:XK):Cx where
 prog:=P
 w:=w
 K:=K
 mg:=mg
 base:=base
 A:=A.deeper (envOfC qual scope s.heap.objs.size f cd)
 N:=N
 s₀:=s
 H₀:=H
 env:=envOfC qual scope s.heap.objs.size f cd
 outer:=outer
 stack:=envOfC qual scope s.heap.objs.size f cd :: outer
 ex:=[]
 calm:=true
 fn:=fun _=>true
 pn:=[]
 xe:=fun e s'=>wpAny (model P w) (A.deeper (envOfC qual scope s.heap.objs.size f cd)) (leaving (envOfC qual scope s.heap.objs.size f cd) e) (fun _ s''=>CX outer H s E e s'') (fun e' s''=>CX outer H s E e' s'') s'
theorem zaR {sc:Scope} {n:Nat} {x:Str} (h:sc.names.lookup x = some .cell):∃ c,(cellsFrom n sc.names []).lookup x = some c:=by
 have q:=PySem.W.cellsFrom_some sc.names n [] (.inl h)
 exact Option.isSome_iff_exists.mp q
theorem zc6 {CX:CXT} {P:Program} {w:World} {K:Frag} {mg:Str->Option Value} {base:Heap} {N ps:List Str} {qual:Str} {scope:Scope} {f:Addr} {cd:Value} {A:Around} {outer:List Env} {s s1:Shared} {H:Hp} {E:XK} {us:List Value} {vs:List V}
  (S:zm N ps scope) (hd:A.handled = none) (e0:zbU P w K mg base A outer s H) (hl:vs.length = ps.length) (r:zJ vs us)
  (x:InCallC s s.heap.objs.size (bindL (envOfC qual scope s.heap.objs.size f cd).kindOf (ps.zip us) fun _=>none) (cellsFrom (s.heap.objs.size + 1) scope.names []) (bindC (envOfC qual scope s.heap.objs.size f cd).kindOf (ps.zip us) fun _=>none) s1) :
  Inv (ju CX P w K mg base N qual scope f cd A outer s H E) [] (wX N vs) H s1:=by
 have hpl:ps.length<=N.length:=by have:=congrArg List.length S.pre; rw [List.length_take] at this; omega
 obtain ⟨h1,tk,rfl,hk⟩:=x.done
 have noA:∀ b:Addr,b ∉ (ju CX P w K mg base N qual scope f cd A outer s H E).ex:=fun b z=>absurd (show b ∈ ([]:List Addr) from z) (by simp)
 refine ⟨⟨e0.mod,S.kind,rfl,rfl,Nat.le_refl _,fun y z c h1 h2=>?_,fun y hy=>?_,fun y c _ h=>?_,fun _=>hd,Around.frames_deeper e0.frames,.inr ⟨rfl,rfl⟩,fun b z=>absurd z (noA b),e0.bs,e0.bsz,fun b _ _=>noA b,fun b z=>absurd z (noA b),e0.funs,e0.frf⟩,
  rfl,e0.bare,Un.kept hk,⟨_,x.toInCall.ns,fun i y v h1 h2 h3=>?_⟩,fun y c h=>⟨_,x.cell y c h⟩,e0.hok.fresh (Nat.le_refl _),fun y c h=>?_,fun p hp=>absurd (show p ∈ ([]:List (Addr × Obj)) from hp) (by simp),e0.hok.kept hk,?_⟩
 ·exact name_of_addr x.apart (PySem.mem_of_lookup h1) (PySem.mem_of_lookup h2)
 ·have hy:scope.names.lookup y = some .cell\/scope.names.lookup y = some .free:=hy
  rcases hy with hy | hy
  ·exact zaR hy
  ·exact absurd rfl (S.nofree _ (PySem.mem_of_lookup hy))
 ·exact Nat.le_of_lt (x.above y c (PySem.mem_of_lookup h))
 ·have hi:i < vs.length:=by
   unfold wX at h2
   by_cases hi:i < vs.length
   ·exact hi
   ·rw [List.getElem?_append_right (by simpa using hi)] at h2
    rw [List.getElem?_replicate] at h2
    split at h2 <;> cases h2
  have ha:vs[i]? = some v:=by
   unfold wX at h2
   rw [List.getElem?_append_left (by simpa using hi),List.getElem?_map] at h2
   cases e:vs[i]? with
   | none=>rw [e] at h2; cases h2
   | some a=>rw [e] at h2; cases h2; rfl
  obtain ⟨u,hu,rv⟩:=r.get ha
  have hp:ps[i]? = some y:=by
   rw [<- S.pre,List.getElem?_take_of_lt (by omega)]; exact h1
  have ndP:ps.Nodup:=by rw [<- S.pre]; exact S.nd.sublist (List.take_sublist _ _)
  refine ⟨u,rv,?_⟩
  rcases S.par y (List.mem_of_getElem? hp) with k | k
  ·exact .inl ⟨k,j7 ndP hp hu k⟩
  ·obtain ⟨c,e⟩:=zaR (n:=s.heap.objs.size + 1) k
   refine .inr ⟨.inl k,c,e,?_⟩
   have q:=x.cell y c e
   rw [j9 ndP hp hu (by show scope.names.lookup y ≠ _; rw [k]; decide)] at q
   exact q
 ·exact e0.hok.fresh (Nat.le_of_lt (x.above y c (PySem.mem_of_lookup h)))
 ·unfold wX
  show _ = N.length
  rw [List.length_append,List.length_map,List.length_replicate]
  omega
theorem zeV {CX:CXT} {P:Program} {w:World} {K:Frag} {mg:Str->Option Value} {base:Heap} {k:Nat} {f:Addr} {name qual:Str} {params:Arguments} {body:List Stmt} {scope:Scope} {dV kV doc pm cdv ct oc:Value} {an od:Option Addr}
  {osl:Array (Option Value)} {N ps:List Str} {sp:Sp} (lk:K.lookup f = some ⟨oc,od,.func (fnOf name qual params body scope dV kV doc pm an cdv ct),osl⟩) (hcd:codeIn K cdv qual = true) (S:zm N ps scope)
  (len:∀ vs H Q E,sp vs H Q E->vs.length = ps.length)
  (hbody:∀ (A:Around) (outer:List Env) (s:Shared) (H:Hp) (vs:List V) (Q:VK) (E:XK),yb k (A.deeper (envOfC qual scope s.heap.objs.size f cdv))->sp vs H Q E->
   ∃ t,PSs (ju CX P w K mg base N qual scope f cdv A outer s H E) body t/\t { nx:=fun _ H'=>Q .non H',rt:=Q } (wX N vs) H) :
  zp P w K mg base CX (k + 1) f (fnOf name qual params body scope dV kV doc pm an cdv ct) ps sp:=by
 refine ⟨len,fun A outer s H args us vs Q E hr e0 hb r hsp=>?_⟩
 have hl:=len _ _ _ _ hsp
 have KX:K.In s.heap:=e0.mod.kin.keeps fun b o e=>(e0.bs b o e).1
 have lim:s.heap.NoLimit:=e0.mod.nolimit.keeps fun b o e=>(e0.bs b o e).1
 have hkind:∀ y ∈ ps.zip us,scope.names.lookup y.1 = some .local\/(scope.names.lookup y.1 = some .cell/\((cellsFrom (s.heap.objs.size + 1) scope.names []).lookup y.1).isSome = true):=fun ⟨n,v⟩ hy=>by
  rcases S.par n (List.of_mem_zip hy).1 with q | q
  ·exact .inl q
  ·exact .inr ⟨q,PySem.W.cellsFrom_some _ _ _ (.inl q)⟩
 refine codeAny_call_function hr.depth (KX _ _ lk) rfl S.co S.gen rfl (PySem.W.codeRec_of KX hcd) (hb _ _ _ _ ?_)
 refine wpAny_newFunctionEnv_cells S.kind hkind fun env he s1 x=>?_
 subst he
 refine ⟨lim.keeps x.toInCall.keep,codeAny_func ?_⟩
 obtain ⟨t,ht,hq⟩:=hbody A outer s H vs Q E (hr.deeper _) hsp
 have I:Inv (ju CX P w K mg base N qual scope f cdv A outer s H E) [] (wX N vs) H s1:=zc6 S hr.hd e0 hl r x
 refine wpAny_mono (ht [] s1 (wX N vs) H _ I hq) (fun fl s' hs=>?_) fun e s' hs=>hs
 have fin:∀ {σ':St} {H':Hp} {v:V} {u:Value},Inv (ju CX P w K mg base N qual scope f cdv A outer s H E) [] σ' H' s'->zL v u->Q v H'->CE outer P w H s Q u s':=
  fun {σ' H' v u} J rv q=>⟨v,H',J.os,J.bare,J.base,J.hok,rv,q⟩
 cases fl with
 | ret u=>
  obtain ⟨v,σ',H',J,rv,q⟩:=hs
  exact fin J rv q
 | next=>
  obtain ⟨σ',H',J,q⟩:=hs
  exact fin (v:=V.non) (u:=Value.none) J rfl q
 | brk=>
  obtain ⟨_,_,_,q⟩:=hs
  exact False.elim q
 | cont=>
  obtain ⟨_,_,_,q⟩:=hs
  exact False.elim q
section
variable {X:Cx} {x:Str} {p pos:Pos} {e:Expr} {es:List Expr} {t:TA} {id T:String} {r:List V->Hp->VK->Prop}
def tCB (r:List V->Hp->VK->Prop) (t:TA):TE:=fun σ H Q=>t σ H fun vs H1=>r vs H1 Q
theorem zeh (hc:yX X (.builtin id) r) (hg:Gl X x) (hm:X.mg x = none) (hv:bootBuiltins x = some (.builtin id)) (ha:PA X (e :: es) t) (hn:x ≠ "__name__":=by decide) (hdb:(x == ("__debug__" : Str)) = false:=by decide)
  (he:starEach (e :: es) X.env = (false,eval e X.env) :: starEach es X.env:=by rfl) (hpl:(backTo pos (starEach es X.env)).any (·.1) = false:=by rfl):PE X (.Call (.Name x p) (e :: es) [] pos) (tCB r t):=by
 refine ⟨?_⟩
 intro pins s σ H Q I h
 refine wpAny_Call_Name_kw (xD I hg hm hv ?_ hn hdb)
 exact PyProof.Rows.callWith_builtin1 (thn (ha pos pins s σ H _ I h) fun us s1 ⟨vs,H1,I1,r1,q1⟩=>hc pins s1 σ H1 vs us Q I1 r1 q1) he hpl
theorem zcS (hc:yX X (.type T) r) (hg:Gl X x) (hm:X.mg x = none) (hv:bootBuiltins x = some (.type T)) (ha:PA X (e :: es) t) (hn:x ≠ "__name__":=by decide) (hdb:(x == ("__debug__" : Str)) = false:=by decide)
  (he:starEach (e :: es) X.env = (false,eval e X.env) :: starEach es X.env:=by rfl) (hpl:(backTo pos (starEach es X.env)).any (·.1) = false:=by rfl):PE X (.Call (.Name x p) (e :: es) [] pos) (tCB r t):=by
 refine ⟨?_⟩
 intro pins s σ H Q I h
 refine wpAny_Call_Name_kw (xD I hg hm hv ?_ hn hdb)
 exact PyProof.Rows.callWith_type1 (thn (ha pos pins s σ H _ I h) fun us s1 ⟨vs,H1,I1,r1,q1⟩=>hc pins s1 σ H1 vs us Q I1 r1 q1) he hpl
theorem zbq (hc:yX X (.type T) r) (hg:Gl X x) (hm:X.mg x = none) (hv:bootBuiltins x = some (.type T)) (hn:x ≠ "__name__":=by decide) (hdb:(x == ("__debug__" : Str)) = false:=by decide) :
  PE X (.Call (.Name x p) [] [] pos) (tCB r zg8):=by
 refine ⟨?_⟩
 intro pins s σ H Q I h
 refine wpAny_Call_Name_kw (xD I hg hm hv ?_ hn hdb)
 exact PyProof.Rows.callWith_type0 (hc pins s σ H [] [] Q I .nil h)
end
end L2
namespace HT
open PySem PyProof.Rows
section
open PySem.SeqAt
open PySem.AutoSeq1 (wpAny_loadPart')
open PySem.MeetsSeq PySem.MeetsSeq2 PySem.MeetsSeq3
end
section
variable {prog:Program} {w:World} {A:Around} {E:Value->Shared->Prop} {s:Shared}
def sIx (n d:Nat):Option Int->Nat
 | none=>d
 | some v=>if v < 0 then (v + (n:Int)).toNat else min v.toNat n
theorem zjn (n d k:Nat):sIx n d (some (k:Int)) = min k n:=by
 show (if (k:Int) < 0 then ((k:Int) + (n:Int)).toNat else min (k:Int).toNat n) = min k n
 rw [if_neg (by omega),Int.toNat_natCast]
end
end HT
namespace L2
open PySem PySem.Spec PyProof.Rows
abbrev TO:=St->Hp->(Option Int->Hp->Prop)->Prop
structure PO (X:Cx) (e:Option Expr) (t:TO):Prop where
 run:∀ (pins:List (Addr × Obj)) (s:Shared) (σ : St) (H:Hp) (Q:Option Int->Hp->Prop),Inv X pins σ H s->t σ H Q->
  wpAny (model X.prog X.w) X.A (evalPart e X.env) (fun u s'=>∃ o H',Inv X pins σ H' s'/\IsPart u o/\Q o H') X.xe s
instance {X:Cx} {e:Option Expr} {t:TO}:CoeFun (PO X e t) (fun _=>∀ (pins:List (Addr × Obj)) (s:Shared) (σ : St) (H:Hp) (Q:Option Int->Hp->Prop),Inv X pins σ H s->t σ H Q->
  wpAny (model X.prog X.w) X.A (evalPart e X.env) (fun u s'=>∃ o H',Inv X pins σ H' s'/\IsPart u o/\Q o H') X.xe s):=⟨PO.run⟩
def ziB (t:TE):TO:=fun σ H Q=>t σ H fun x H1=>∃ i,x = .int i/\Q (some i) H1
section
variable {X:Cx} {e:Expr} {te:TE} {lo hi:Option Expr} {tl th:TO} {pos p2:Pos}
theorem xK (h:PE X e te):PO X (some e) (ziB te):=by
 refine ⟨?_⟩
 intro pins s σ H Q I hw
 rw [evalPart_some]
 refine thn (h pins s σ H _ I hw) fun u s1 ⟨x,H1,I1,r1,q1⟩=>?_
 obtain ⟨i,rfl,q⟩:=q1
 obtain ⟨t,rfl⟩:=r1
 exact ⟨some i,H1,I1,.int i t,q⟩
def SlR (X:Cx) (r:V->Option Int->Option Int->Hp->VK->Prop):Prop:=
 ∀ (pins:List (Addr × Obj)) (s:Shared) (σ : St) (H:Hp) (x:V) (v vl vu:Value) (lo hi:Option Int) (sl:Addr) (Q:VK),Inv X pins σ H s->zL x v->s.heap.IsSliceOf sl vl vu .none->IsPart vl lo->IsPart vu hi->r x lo hi H Q->
  ∃ T id,typeLookup (.type T) "__getitem__" = pure (some (.builtin id))/\s.TypeIs v T/\wpAny (model X.prog X.w) X.A (getItem v (.ref sl)) (EP X pins σ Q) X.xe s
def tSl (r:V->Option Int->Option Int->Hp->VK->Prop) (te:TE) (tl th:TO):TE:=fun σ H Q=>te σ H fun x H1=>tl σ H1 fun l H2=>th σ H2 fun u H3=>r x l u H3 Q
theorem vt {r:V->Option Int->Option Int->Hp->VK->Prop} (hr:SlR X r) (he:PE X e te) (hl:PO X lo tl) (hu:PO X hi th):PE X (.Subscript e (.Slice lo hi none p2) pos) (tSl r te tl th):=by
 refine ⟨?_⟩
 intro pins s σ H Q I h
 refine Subscript_ (thn (he pins s σ H _ I h) fun v s1 ⟨x,H1,I1,r1,q1⟩=>?_)
 refine wpAny_Slice (thn (hl pins s1 σ H1 _ I1 q1) fun vl s2 ⟨l,H2,I2,pl,q2⟩=>thn (hu pins s2 σ H2 _ I2 q2) fun vu s3 ⟨u,H3,I3,pu,q3⟩=>?_)
 rw [evalPart_none]
 refine wpAny_pure ?_
 have I4:Inv X pins σ H3 { s3 with heap:=s3.heap.push { cls:=.type "slice",data:=.fields #[vl,vu,.none] } }:=I3.kept (t':=s3.toks) fun b ob q=>Heap.get?_push_of_some _ q
 obtain ⟨T,id,hT,ht,hg⟩:=hr pins { s3 with heap:=s3.heap.push { cls:=.type "slice",data:=.fields #[vl,vu,.none] } } σ H3 x v vl vu l u s3.heap.objs.size Q I4 r1 (Heap.IsSliceOf.new ..) pl pu q3
 show wpAny (model X.prog X.w) X.A (subscriptTail e (.Slice lo hi none p2) v (.ref s3.heap.objs.size)) (EP X pins σ Q) X.xe { s3 with heap:=s3.heap.push { cls:=.type "slice",data:=.fields #[vl,vu,.none] } }
 exact tail_any (ops:=[.ref s3.heap.objs.size,v]) ht hT hg (by with_unfolding_all rfl)
def jo (xs:List V) (lo hi:Option Int):List V:=(xs.drop (HT.sIx xs.length 0 lo)).take (HT.sIx xs.length xs.length hi - HT.sIx xs.length 0 lo)
theorem zaN (xs:List V) (lo hi:Option Int):(jo xs lo hi).length<=xs.length:=by
 unfold jo
 rw [List.length_take,List.length_drop]
 omega
end
def ixN (n:Nat) (i:Int):Option Nat:=if 0<=i then (if i < n then some i.toNat else none) else if -(n:Int)<=i then some (i + n).toNat else none
def atI {α : Type} (xs:List α) (i:Int):Option α:=(ixN xs.length i).bind fun j=>xs[j]?
theorem zgm {n:Nat} {i:Int} {j:Nat} (h:ixN n i = some j):seqIndex? i n = some j/\j < n/\-(n:Int)<=i/\i < n:=by
 unfold ixN at h
 by_cases h0 : 0<=i
 ·rw [if_pos h0] at h
  by_cases h1:i < n
  ·rw [if_pos h1] at h
   have e:i.toNat = j:=Option.some.inj h
   exact ⟨by rw [seqIndex_of h0 h1,e],by omega,by omega,h1⟩
  ·rw [if_neg h1] at h; cases h
 ·rw [if_neg h0] at h
  by_cases h1 : -(n:Int)<=i
  ·rw [if_pos h1] at h
   have e:(i + n).toNat = j:=Option.some.inj h
   exact ⟨by rw [seqIndex_neg (by omega) h1,e],by omega,h1,by omega⟩
  ·rw [if_neg h1] at h; cases h
theorem qL {α : Type} {xs:List α} {i:Int} {v : α} (h:atI xs i = some v):∃ j,seqIndex? i xs.length = some j/\xs[j]? = some v/\j < xs.length/\-(xs.length:Int)<=i/\i < xs.length:=by
 unfold atI at h
 cases e:ixN xs.length i with
 | none=>rw [e] at h; cases h
 | some j=>
  rw [e] at h
  obtain ⟨h1,h2,h3,h4⟩:=zgm e
  exact ⟨j,h1,h,h2,h3,h4⟩
theorem xQ {α : Type} {xs:List α} {j:Nat} {v : α} (h:xs[j]? = some v):atI xs (j:Int) = some v:=by
 have hj:j < xs.length:=(List.getElem?_eq_some_iff.mp h).1
 have e:ixN xs.length (j:Int) = some j:=by
  unfold ixN
  rw [if_pos (by omega),if_pos (by omega)]; simp
 unfold atI; rw [e]; exact h
def zgE (b:Expr):Prop:=∀ o i,subscripted b false o i = operate [o,i] (getItem o i)
def IxR (X:Cx) (r:R2):Prop:=
 ∀ (value slice:Expr) (pins:List (Addr × Obj)) (s:Shared) (σ : St) (H:Hp) (x y:V) (v u:Value) (Q:VK),Inv X pins σ H s->zL x v->zL y u->r x y H Q->
  subscripted slice false v u = operate [v,u] (getItem v u)->wpAny (model X.prog X.w) X.A (subscriptTail value slice v u) (EP X pins σ Q) X.xe s
def MtR (X:Cx) (id:String) (r:V->List V->Hp->VK->Prop):Prop:=
 ∀ (pins:List (Addr × Obj)) (s:Shared) (σ : St) (H:Hp) (x:V) (xs:List V) (v:Value) (us:List Value) (Q:VK),Inv X pins σ H s->zL x v->zJ xs us->r x xs H Q->
  wpAny (model X.prog X.w) X.A (call (.builtin id) (v :: us)) (EP X pins σ Q) X.xe s
section
variable {X:Cx} {a b:Expr} {ta tb:TE} {pos:Pos}
theorem zF {r:R2} (hr:IxR X r) (ha:PE X a ta) (hb:PE X b tb) (hs:zgE b):PE X (.Subscript a b pos) (tOp r ta tb):=by
 refine ⟨?_⟩
 intro pins s σ H Q I h
 exact Subscript_ (zil ha hb I h fun v u s2 x y H2 I2 rx ry q=>hr a b pins s2 σ H2 x y v u Q I2 rx ry q (hs _ _))
inductive zki (K:Frag) (x y:V) (H:Hp) (Q:VK):Prop where
 | mk (p:Addr) (xs:List V) (i:Int) (v:V) (e1:x = .ref p) (e2:y = .int i) (h:SqL K H p xs) (a:atI xs i = some v) (q:Q v H)
def zjL (K:Frag):R2:=fun x y H Q=>zki K x y H Q
inductive zkh (K:Frag) (x y:V) (H:Hp) (Q:VK):Prop where
 | mk (p:Addr) (xs:List V) (i:Int) (v:V) (e1:x = .ref p) (e2:y = .int i) (h:SqT K H p xs) (a:atI xs i = some v) (q:Q v H)
def zd7 (K:Frag):R2:=fun x y H Q=>zkh K x y H Q
def zjK:R2:=fun x y H Q=>∃ z i c,x = .str z/\y = .int i/\z.length<=sizeLine/\atI z.cps.toList i = some c/\Q (.str ⟨#[c]⟩) H
theorem zI:IxR X (zjL X.K):=by
 intro value slice pins s σ H x y v u Q I rx ry h hs
 obtain ⟨p,xs,i,z,rfl,rfl,hq,he,q⟩:=h
 cases rx
 obtain ⟨t,rfl⟩:=ry
 obtain ⟨its,r,pl,hz⟩:=I.list hq
 obtain ⟨j,h1,h2,h3,h4,h5⟩:=qL he
 obtain ⟨w,ew,rw'⟩:=r.get h2
 have hl:=r.length
 have hn:=ve
 have fin:EP X pins σ Q w s:=⟨z,H,I,rw',q⟩
 by_cases h0 : 0<=i
 ·have hj:i.toNat = j:=by
   rw [seqIndex_of h0 h5] at h1
   exact Option.some.inj h1
  exact item_listR pl.isList h0 (by omega) (by rw [hj]; simpa using ew) fin hs
 ·have hj:(i + (its.toArray.size:Int)).toNat = j:=by
   rw [seqIndex_neg (by omega) h4] at h1
   rw [List.size_toArray,<- hl]
   exact Option.some.inj h1
  exact subscriptTail_builtinR (x:=w) pl.isList.typeIs slot_list_getitem.lookup
   (wpAny_getItem_list_neg (Q:=fun r s'=>r = w/\EP X pins σ Q r s') pl.isList (by omega) (by rw [List.size_toArray] <;> omega) (by omega) (by rw [hj]; simpa using ew) ⟨rfl,fin⟩) hs
theorem yd:IxR X (zd7 X.K):=by
 intro value slice pins s σ H x y v u Q I rx ry h hs
 obtain ⟨p,xs,i,z,rfl,rfl,hq,he,q⟩:=h
 cases rx
 obtain ⟨t,rfl⟩:=ry
 obtain ⟨its,r,pl,hz⟩:=I.tuple hq
 obtain ⟨j,h1,h2,h3,h4,h5⟩:=qL he
 obtain ⟨w,ew,rw'⟩:=r.get h2
 have hl:=r.length
 have hn:=ve
 have fin:EP X pins σ Q w s:=⟨z,H,I,rw',q⟩
 exact subscriptTail_builtinR (x:=w) pl.typeIs slot_tuple_getitem.lookup
  (getItem_tuple (j:=j) (Q:=fun r s'=>r = w/\EP X pins σ Q r s') pl (by omega) (by omega) (by rw [List.size_toArray,<- hl]; exact h1) (by simpa using ew) ⟨rfl,fin⟩) hs
theorem zid:IxR X zjK:=by
 intro value slice pins s σ H x y v u Q I rx ry h hs
 obtain ⟨z,i,c,rfl,rfl,hz,he,q⟩:=h
 obtain ⟨t,rfl⟩:=rx
 obtain ⟨t',rfl⟩:=ry
 obtain ⟨j,h1,h2,h3,h4,h5⟩:=qL he
 have hl:z.cps.toList.length = z.length:=by simp [Str.length]
 rw [hl] at h1 h4 h5
 have hn:=ve
 exact tail_any (typeIs_str s z t) slot_str_getitem.lookup (getItem_str (c:=c) (by
  have e1:decide (i < -(2 ^ 63:Int)) = false:=decide_eq_false (by omega)
  have e2:decide (i>=2 ^ 63) = false:=decide_eq_false (by omega)
  rw [e1,e2,Bool.or_false]) (by rw [h1]; simpa using h2) ⟨.str ⟨#[c]⟩,H,I.tok _,⟨_,rfl⟩,q⟩) hs
theorem qi (lo hi:Option Int) (n:Nat):(sliceBounds lo hi none n).1 = ((HT.sIx n 0 lo:Nat):Int)/\(sliceBounds lo hi none n).2.1 = ((HT.sIx n n hi:Nat):Int)/\(sliceBounds lo hi none n).2.2 = 1:=by
 refine ⟨?_,?_,rfl⟩
 ·cases lo with
  | none=>simp [sliceBounds,HT.sIx]
  | some i=>
   simp only [sliceBounds,HT.sIx,Option.getD_none,show (1:Int) > 0 by decide,if_true]
   by_cases h:i < 0
   ·simp only [h,if_true] <;> omega
   ·simp only [h,if_false] <;> omega
 ·cases hi with
  | none=>simp [sliceBounds,HT.sIx]
  | some i=>
   simp only [sliceBounds,HT.sIx,Option.getD_none,show (1:Int) > 0 by decide,if_true]
   by_cases h:i < 0
   ·simp only [h,if_true] <;> omega
   ·simp only [h,if_false] <;> omega
theorem js (its:List Value) (lo hi:Option Int):slicePick its.toArray lo hi none = ((its.drop (HT.sIx its.length 0 lo)).take (HT.sIx its.length its.length hi - HT.sIx its.length 0 lo)).toArray:=by
 obtain ⟨h1,h2,h3⟩:=qi lo hi its.toArray.size
 unfold slicePick
 rw [h1,h2,h3]
 simp only [sliceRange_one,pick_run,List.size_toArray] <;> rfl
def zjE (K:Frag):V->Option Int->Option Int->Hp->VK->Prop:=fun x lo hi H Q=>∃ a xs,x = .ref a/\SqL K H a xs/\∀ p,H p = none->Q (.ref p) (upd H p (.lst (jo xs lo hi)))
theorem uo:SlR X (zjE X.K):=by
 intro pins s σ H x v vl vu lo hi sl Q I rx hs pl pu h
 obtain ⟨a,xs,rfl,hx,q⟩:=h
 cases rx
 obtain ⟨its,r,ht,hz⟩:=I.list hx
 have hlen:=r.length
 refine ⟨"list",_,slot_list_getitem.lookup,ht.isList.typeIs,?_⟩
 refine wpAny_getItem_list_slice ht.isList hs pl pu .none (by simp) ?_ (by rw [List.size_toArray] <;> omega)
 rw [js,<- hlen]
 refine ⟨.ref s.heap.objs.size,_,I.laid (t':=s.toks) (o:=.lst (jo xs lo hi)) (fun b ob q=>Heap.get?_push_of_some _ q) (Nat.le_refl _) ?_,rfl,q _ (I.hok.fresh (Nat.le_refl _))⟩
 exact ⟨Nat.le_trans (zaN xs lo hi) hz,_,0,(r.drop (HT.sIx xs.length 0 lo)).take (HT.sIx xs.length xs.length hi - HT.sIx xs.length 0 lo),Heap.get?_push_size _ rfl⟩
def xf:V->Bool
 | .non=>true
 | .bl _=>true
 | .int _=>true
 | .str _=>true
 | _=>false
def eqV:V->V->Bool
 | .non,.non=>true
 | .bl a,.bl b=>a == b
 | .bl a,.int b=>(if a then 1 else 0) == b
 | .int a,.bl b=>a == (if b then 1 else 0)
 | .int a,.int b=>a == b
 | .str a,.str b=>a == b
 | _,_=>false
theorem zeX {A:Around} {s:Shared} {y x:V} {u v:Value} (ry:zL y u) (rx:zL x v) (fy:xf y = true) (fx:xf x = true):SeqAt.EqAt A s u v (eqV y x):=by
 cases y with
 | non=>
  cases ry
  cases x with
  | non=>cases rx; exact SeqAt.EqAt.same _
  | bl b=>cases rx; exact SeqAt.EqAt.none_bool b
  | int b=>obtain ⟨t,rfl⟩:=rx; exact SeqAt.EqAt.none_int b t
  | str b=>obtain ⟨t,rfl⟩:=rx; exact SeqAt.EqAt.none_str b t
  | _=>exact absurd (show false = true from fx) Bool.false_ne_true
 | bl a=>
  cases ry
  cases x with
  | non=>cases rx; exact SeqAt.EqAt.bool_none a
  | bl b=>cases rx; exact SeqAt.EqAt.bool_bool a b
  | int b=>obtain ⟨t,rfl⟩:=rx; exact SeqAt.EqAt.bool_int a b t
  | str b=>obtain ⟨t,rfl⟩:=rx; exact SeqAt.EqAt.bool_str a b t
  | _=>exact absurd (show false = true from fx) Bool.false_ne_true
 | int a=>
  obtain ⟨t',rfl⟩:=ry
  cases x with
  | non=>cases rx; exact SeqAt.EqAt.int_none a t'
  | bl b=>cases rx; exact SeqAt.EqAt.int_bool a t' b
  | int b=>obtain ⟨t,rfl⟩:=rx; exact SeqAt.EqAt.int_int a t' b t
  | str b=>obtain ⟨t,rfl⟩:=rx; exact SeqAt.EqAt.int_str a t' b t
  | _=>exact absurd (show false = true from fx) Bool.false_ne_true
 | str a=>
  obtain ⟨t',rfl⟩:=ry
  cases x with
  | non=>cases rx; exact SeqAt.EqAt.str_none a t'
  | bl b=>cases rx; exact SeqAt.EqAt.str_bool a t' b
  | int b=>obtain ⟨t,rfl⟩:=rx; exact SeqAt.EqAt.str_int a t' b t
  | str b=>obtain ⟨t,rfl⟩:=rx; exact SeqAt.EqAt.str_str a t' b t
  | _=>exact absurd (show false = true from fx) Bool.false_ne_true
 | _=>exact absurd (show false = true from fy) Bool.false_ne_true
def eqU (x:V) (u:Value):Bool:=match u with
 | .none=>eqV .non x
 | .bool b=>eqV (.bl b) x
 | .int i _=>eqV (.int i) x
 | .str z _=>eqV (.str z) x
 | _=>false
theorem zeW {x y:V} {u:Value} (r:zL y u) (f:xf y = true):eqU x u = eqV y x:=by
 cases y with
 | non=>cases r; rfl
 | bl b=>cases r; rfl
 | int i=>obtain ⟨t,rfl⟩:=r; rfl
 | str z=>obtain ⟨t,rfl⟩:=r; rfl
 | _=>exact absurd (show false = true from f) Bool.false_ne_true
theorem vI {x:V}:∀ {xs:List V} {us:List Value},zJ xs us->xs.all xf = true->us.any (eqU x) = xs.any fun y=>eqV y x
 | _,_,.nil,_=>rfl
 | y :: xs,u :: us,.cons r t,f=>by
  rw [List.all_cons,Bool.and_eq_true] at f
  rw [List.any_cons,List.any_cons,zeW r f.1,vI t f.2]
theorem wz {A:Around} {s:Shared} {x:V} {v:Value} (rx:zL x v) (fx:xf x = true):∀ {xs:List V} {us:List Value},zJ xs us->xs.all xf = true->∀ u ∈ us,SeqAt.EqAt A s u v (eqU x u)
 | _,_,.nil,_=>fun u hu=>by cases hu
 | y :: xs,u :: us,.cons r t,f=>fun u' hu=>by
  rw [List.all_cons,Bool.and_eq_true] at f
  rcases List.mem_cons.mp hu with rfl | hu
  ·rw [zeW r f.1]; exact zeX r rx f.1 fx
  ·exact wz rx fx t f.2 u' hu
def inV (x:V) (xs:List V):Bool:=xs.any fun y=>eqV y x
def rIn (K:Frag) (neg:Bool):R2:=fun x y H Q=>∃ p xs,y = .ref p/\(SqL K H p xs\/SqT K H p xs)/\xf x = true/\xs.all xf = true/\Q (.bl (if neg then !inV x xs else inV x xs)) H
theorem xZ:OpR X (compareOp .In) (rIn X.K false):=by
 intro pins s σ H x y v u Q I rx ry h
 obtain ⟨p,xs,rfl,hq,fx,fs,q⟩:=h
 cases ry
 rcases hq with hq | hq
 ·obtain ⟨its,r,pl,hz⟩:=I.list hq
  refine SeqAt.in_listAt (eqU x) pl.isList (fun w hw=>wz rx fx r fs w (by simpa using hw)) ⟨.bl _,H,I,rfl,?_⟩
  rw [show its.toArray.any (eqU x) = its.any (eqU x) by simp,vI r fs]
  exact q
 ·obtain ⟨its,r,pl,hz⟩:=I.tuple hq
  refine SeqAt.in_tupleAt (eqU x) pl (fun w hw=>wz rx fx r fs w (by simpa using hw)) ⟨.bl _,H,I,rfl,?_⟩
  rw [show its.toArray.any (eqU x) = its.any (eqU x) by simp,vI r fs]
  exact q
theorem xq:OpR X (compareOp .NotIn) (rIn X.K true):=by
 intro pins s σ H x y v u Q I rx ry h
 obtain ⟨p,xs,rfl,hq,fx,fs,q⟩:=h
 cases ry
 rcases hq with hq | hq
 ·obtain ⟨its,r,pl,hz⟩:=I.list hq
  refine SeqAt.notIn_listAt (eqU x) pl.isList (fun w hw=>wz rx fx r fs w (by simpa using hw)) ⟨.bl _,H,I,rfl,?_⟩
  rw [show its.toArray.any (eqU x) = its.any (eqU x) by simp,vI r fs]
  exact q
 ·obtain ⟨its,r,pl,hz⟩:=I.tuple hq
  refine SeqAt.notIn_tupleAt (eqU x) pl (fun w hw=>wz rx fx r fs w (by simpa using hw)) ⟨.bl _,H,I,rfl,?_⟩
  rw [show its.toArray.any (eqU x) = its.any (eqU x) by simp,vI r fs]
  exact q
theorem yi:yX X (.builtin "len") (fun xs H Q=>∃ p ys,xs = [.ref p]/\(SqL X.K H p ys\/SqT X.K H p ys)/\Q (.int ys.length) H):=by
 intro pins s σ H xs us Q I r h
 obtain ⟨p,ys,rfl,hq,q⟩:=h
 obtain ⟨u,rfl,rx⟩:=wo r
 cases rx
 have hn:=ve
 rcases hq with hq | hq
 ·obtain ⟨its,r',pl,hz⟩:=I.list hq
  have hlen:=r'.length
  exact Calls.call_len_list pl.isList (by simp only [List.size_toArray] <;> omega) ⟨.int ys.length,H,I.tok _,⟨s.toks + 1,by rw [List.size_toArray,hlen]⟩,q⟩
 ·obtain ⟨its,r',pl,hz⟩:=I.tuple hq
  have hlen:=r'.length
  exact len_tuple pl (by simp only [List.size_toArray] <;> omega) ⟨.int ys.length,H,I.tok _,⟨s.toks + 1,by rw [List.size_toArray,hlen]⟩,q⟩
theorem qJ:yX X (.builtin "len") (fun xs H Q=>∃ z,xs = [.str z]/\z.length<=sizeLine/\Q (.int z.length) H):=by
 intro pins s σ H xs us Q I r h
 obtain ⟨z,rfl,hz,q⟩:=h
 obtain ⟨u,rfl,t,rfl⟩:=wo r
 have hn:=ve
 exact len_str (by omega) ⟨.int z.length,H,I.tok _,⟨_,rfl⟩,q⟩
theorem yK:yX X (.type "list") (fun xs H Q=>∃ p ys,xs = [.ref p]/\(SqL X.K H p ys\/SqT X.K H p ys)/\∀ l,H l = none->Q (.ref l) (upd H l (.lst ys))):=by
 intro pins s σ H xs us Q I r h
 obtain ⟨p,ys,rfl,hq,q⟩:=h
 obtain ⟨u,rfl,rx⟩:=wo r
 cases rx
 have fin:∀ (its:List Value),zJ ys its->ys.length<=sizeLine->∀ (h':Heap) (c':Nat),(∀ b o',s.heap.get? b = some o'->h'.get? b = some o')->
   h'.get? s.heap.objs.size = some { cls:=.type "list",dict:=none,data:=.seq its.toArray c',slots:=#[] }->EP X pins σ Q (.ref s.heap.objs.size) { s with heap:=h' }:=fun its r' hz h' c' kp e=>
  ⟨.ref s.heap.objs.size,_,I.laid (t':=s.toks) kp (Nat.le_refl _) (show ye X.prog X.w _ h' _ (.lst ys) from ⟨hz,its,c',r',e⟩),rfl,q _ (I.hok.fresh (Nat.le_refl _))⟩
 rcases hq with hq | hq
 ·obtain ⟨its,r',pl,hz⟩:=I.list hq
  have hlen:=r'.length
  obtain ⟨o,ho,hc,n,hd⟩:=pl.isList
  exact call_list_seq p (.inl rfl) ho hc hd (fun h' c' kp e=>fin its r' hz h' c' kp e) (by simp only [List.size_toArray] <;> omega)
 ·obtain ⟨its,r',pl,hz⟩:=I.tuple hq
  have hlen:=r'.length
  obtain ⟨o,ho,hc,n,hd⟩:=pl
  exact call_list_seq p (.inr rfl) ho hc hd (fun h' c' kp e=>fin its r' hz h' c' kp e) (by simp only [List.size_toArray] <;> omega)
def tyV (K:Frag) (T:String) (x:V) (H:Hp):Prop:=match x with
 | .str _=>T = "str"
 | .int _=>T = "int"
 | .ref p=>(T = "list"/\∃ xs,SqL K H p xs)\/(T = "tuple"/\∃ o,K.lookup p = some o/\o.cls = .type "tuple"/\o.dict = none)\/
   (T = "dict"/\((∃ kvs,H p = some (.dK kvs))\/∃ kvs,H p = some (.dT kvs)))\/(T = "set"/\∃ S n,H p = some (.set S n))
 | _=>False
theorem zdt {pins:List (Addr × Obj)} {σ : St} {H:Hp} {s:Shared} {T:String} {x:V} {v:Value} (I:Inv X pins σ H s) (r:zL x v) (ty:tyV X.K T x H) :
  s.TypeIs v T/\∀ a,v = .ref a->∃ ob,s.heap.get? a = some ob/\ob.dict = none:=by
 cases x with
 | str z=>
  obtain ⟨t,rfl⟩:=r
  cases (show T = "str" from ty)
  exact ⟨typeIs_str s z t,fun _ e=>nomatch e⟩
 | int i=>
  obtain ⟨t,rfl⟩:=r
  cases (show T = "int" from ty)
  exact ⟨typeIs_int s i t,fun _ e=>nomatch e⟩
 | ref p=>
  cases r
  rcases ty with ⟨rfl,xs,hq⟩ | ⟨rfl,o,hk,hc,hd⟩ | ⟨rfl,hk⟩ | ⟨rfl,S,n,hk⟩
  ·obtain ⟨its,_,pl,_⟩:=I.list hq
   refine ⟨pl.isList.typeIs,fun a e=>?_⟩
   cases e
   obtain ⟨o,n,e,c,hd,_⟩:=pl
   exact ⟨o,e,hd⟩
  ·refine ⟨⟨o,I.kIn p o hk,hc⟩,fun a e=>?_⟩
   cases e
   exact ⟨o,I.kIn _ o hk,hd⟩
  ·have z:∃ o,s.heap.get? p = some o/\o.ExactDict:=by
    rcases hk with ⟨kvs,hk⟩ | ⟨kvs,hk⟩
    ·obtain ⟨_,_,_,_,o,_,_,e,ex,_⟩:=I.hok p _ hk
     exact ⟨o,e,ex⟩
    ·obtain ⟨_,_,_,_,o,_,_,e,ex,_⟩:=I.hok p _ hk
     exact ⟨o,e,ex⟩
   obtain ⟨o,e,ex⟩:=z
   refine ⟨⟨o,e,ex.1⟩,fun a e2=>?_⟩
   cases e2
   exact ⟨o,e,ex.2.1⟩
  ·obtain ⟨o,_,_,_,e,ex,_⟩:=I.hok p _ hk
   refine ⟨⟨o,e,ex.1⟩,fun a e2=>?_⟩
   cases e2
   exact ⟨o,e,ex.2.1⟩
 | _=>exact False.elim ty
def zjy (K:Frag) (T:String) (r:V->List V->Hp->VK->Prop) (to:TE):TE:=fun σ H Q=>to σ H fun x H1=>tyV K T x H1/\r x [] H1 Q
def tBM (K:Frag) (T:String) (r:V->List V->Hp->VK->Prop) (to:TE) (t:TA):TE:=fun σ H Q=>to σ H fun x H1=>tyV K T x H1/\t σ H1 fun xs H2=>r x xs H2 Q
variable {o e:Expr} {es:List Expr} {to:TE} {t:TA} {name:Str} {apos cpos:Pos} {T id:String} {r:V->List V->Hp->VK->Prop}
theorem zhP (pa:PlainAttrs T) (slot:Slot T name id) (hty:typeOf (.builtin id) = pure (.type "method_descriptor")) (hm:MtR X id r) (ho:PE X o to)
  (hbase:attributeBase o name X.env (eval o X.env) = eval o X.env:=by rfl) (hline:(apos.endLine == cpos.line) = true:=by rfl):PE X (.Call (.Attribute o name apos) [] [] cpos) (zjy X.K T r to):=by
 refine ⟨?_⟩
 intro pins s σ H Q I h
 refine wpAny_Call_method0_late hbase hline (thn (ho pins s σ H _ I h) fun v s1 ⟨x,H1,I1,r1,ty,q1⟩=>?_)
 obtain ⟨h1,h2⟩:=zdt I1 r1 ty
 exact ⟨T,id,pa,slot,hty,h1,h2,Calls.callWith_builtin rfl (PySem.evalArgs_none (hm pins s1 σ H1 x [] v [] Q I1 r1 .nil q1))⟩
theorem yv (pa:PlainAttrs T) (slot:Slot T name id) (hty:typeOf (.builtin id) = pure (.type "method_descriptor")) (hm:MtR X id r) (ho:PE X o to) (ha:PA X (e :: es) t)
  (hbase:attributeBase o name X.env (eval o X.env) = eval o X.env:=by rfl)
  (hfew:((backTo cpos (starEach (e :: es) X.env)).all (fun x=>!x.1) && (backToKw cpos (keywordEach [] X.env)).all (fun x=>x.1.isSome)
   && decide ((e :: es).length + ([]:List Keyword).length + (if ([]:List Keyword).isEmpty then 0 else 1) < 30)) = true:=by rfl)
  (hline:(apos.endLine == cpos.line) = true:=by rfl) (hs:starEach (e :: es) X.env = (false,eval e X.env) :: starEach es X.env:=by rfl) (hplain:(backTo cpos (starEach es X.env)).any (·.1) = false:=by rfl) :
  PE X (.Call (.Attribute o name apos) (e :: es) [] cpos) (tBM X.K T r to t):=by
 refine ⟨?_⟩
 intro pins s σ H Q I h
 refine wpAny_Call_method_late hbase hfew hline rfl (thn (ho pins s σ H _ I h) fun v s1 ⟨x,H1,I1,r1,ty,q1⟩=>?_)
 obtain ⟨h1,h2⟩:=zdt I1 r1 ty
 refine ⟨T,id,pa,slot,hty,h1,h2,?_⟩
 have hA:=ha cpos pins s1 σ H1 _ I1 q1
 rw [hs] at hA |-
 refine Calls.callWith_builtin (by show (false || (backTo cpos (starEach es X.env)).any (·.1)) = false; rw [hplain] <;> rfl) (Calls.evalArgs_plain ?_)
 exact thn hA fun us s2 ⟨vs,H2,I2,r2,q2⟩=>hm pins s2 σ H2 x vs v us Q I2 r1 r2 q2
end
def MtM (X:Cx) (id:String) (r:V->List V->Hp->VK->Prop):Prop:=
 ∀ (pins:List (Addr × Obj)) (s:Shared) (σ : St) (H:Hp) (x:V) (xs:List V) (v:Value) (us:List Value) (Q:VK),Inv X pins σ H s->zL x v->zJ xs us->r x xs H Q->
  wpAny (model X.prog X.w) X.A (call (.builtin id) (v :: us)) (EP X pins σ Q) X.xe s
theorem zJ.one:∀ {x:V} {us:List Value},zJ [x] us->∃ u,us = [u]/\zL x u
 | _,_,.cons r .nil=>⟨_,rfl,r⟩
theorem zJ.zero:∀ {us:List Value},zJ [] us->us = []
 | _,.nil=>rfl
theorem zJ.dropLast {xs:List V} {us:List Value} (h:zJ xs us):zJ xs.dropLast us.dropLast:=by
 induction h with
 | nil=>exact .nil
 | cons r t ih=>
  cases t with
  | nil=>exact .nil
  | cons q t'=>exact .cons r ih
theorem zJ.eraseIdx:∀ {xs:List V} {us:List Value} (i:Nat),zJ xs us->zJ (xs.eraseIdx i) (us.eraseIdx i)
 | _,_,_,.nil=>.nil
 | _,_,0,.cons _ t=>t
 | _,_,i + 1,.cons r t=>.cons r (zJ.eraseIdx i t)
theorem zJ.rep {xs:List V} {us:List Value} (h:zJ xs us):∀ k:Nat,zJ (List.replicate k xs).flatten (List.replicate k us).flatten
 | 0=>.nil
 | k + 1=>by
  rw [List.replicate_succ,List.replicate_succ,List.flatten_cons,List.flatten_cons]
  exact zJ.append h (zJ.rep h k)
theorem zbO {α : Type} (l:List α):l.eraseIdx (l.length - 1) = l.dropLast:=by
 induction l with
 | nil=>rfl
 | cons a r ih=>
  cases r with
  | nil=>rfl
  | cons b r=>
   have e:(a :: b :: r).length - 1 = ((b :: r).length - 1) + 1:=by
    have h1:(a :: b :: r).length = r.length + 2:=rfl
    have h2:(b :: r).length = r.length + 1:=rfl
    omega
   rw [e,List.eraseIdx_cons_succ,ih]
   all_goals rfl
theorem jL {α : Type}:∀ (l:List α) (i:Nat),(l.eraseIdx i).length<=l.length
 | [],_=>Nat.le_refl _
 | _ :: _,0=>Nat.le_succ _
 | _ :: r,i + 1=>Nat.succ_le_succ (jL r i)
theorem jW (its:List Value):∀ (k:Nat) (acc:List Value),
  List.foldl (fun x1 x2=>x1 ++ x2) acc.toArray (List.replicate k its.toArray) = (acc ++ (List.replicate k its).flatten).toArray
 | 0,acc=>by simp
 | k + 1,acc=>by
  have e:acc.toArray ++ its.toArray = (acc ++ its).toArray:=by simp
  have e2:(acc ++ its) ++ (List.replicate k its).flatten = acc ++ (List.replicate (k + 1) its).flatten:=by
   rw [List.replicate_succ,List.flatten_cons,List.append_assoc]
  rw [<- e2,<- jW its k (acc ++ its),<- e,List.replicate_succ,List.foldl_cons]
section
variable {X:Cx} {pins:List (Addr × Obj)} {σ : St} {H:Hp} {s:Shared} {l b:Addr} {xs ys zs:List V}
theorem Inv.lset {its its':List Value} {n:Nat} {f:Array Value->Array Value} {t':Nat} (I:Inv X pins σ H s) (hH:H l = some (.lst xs))
  (e:s.heap.get? l = some { cls:=.type "list",data:=.seq its.toArray n }) (hf:f its.toArray = its'.toArray) (hv:zJ ys its') (hz:ys.length<=sizeLine) :
  Inv X pins σ (upd H l (.lst ys)) { s with heap:=s.heap.update l (Obj.mapSeq f),toks:=t' }:=by
 have q:=PySem.IsL.update e f
 rw [hf] at q
 refine I.write (x:=l) (e:=l) (by rw [hH]; exact trivial) (.inl rfl) (fun b' u hb hu=>(Heap.get?_update_other s.heap (Obj.mapSeq f) (Ne.symm hb)).trans hu) ⟨_,q⟩ ?_
 exact ⟨hz,its',_,hv,q⟩
theorem Inv.lnew {its:List Value} {t':Nat} (I:Inv X pins σ H s) (hv:zJ ys its) (hz:ys.length<=sizeLine) :
  Inv X pins σ (upd H s.heap.objs.size (.lst ys)) { s with heap:=s.heap.push { cls:=.type "list",data:=.seq its.toArray },toks:=t' }:=
 I.laid (fun _ _ q=>Heap.get?_push_of_some _ q) (Nat.le_refl _) ⟨hz,its,0,hv,Heap.get?_push_size _ rfl⟩
theorem Inv.fresh (I:Inv X pins σ H s):H s.heap.objs.size = none:=I.hok.fresh (Nat.le_refl _)
theorem Inv.lstM (I:Inv X pins σ H s) (hH:H l = some (.lst xs)):xs.length<=sizeLine/\∃ (its:List Value) (n:Nat),zJ xs its/\xs.length = its.length/\s.heap.get? l = some { cls:=.type "list",data:=.seq its.toArray n }:=by
 obtain ⟨z,its,n,r,e⟩:=I.hok l _ hH
 exact ⟨z,its,n,r,r.length,e⟩
theorem zat {n:Nat} (h:n<=sizeLine):Builtin.List.listTooLong n = false:=by
 unfold Builtin.List.listTooLong
 exact decide_eq_false (by omega)
end
section
variable {X:Cx}
def zfD:V->List V->Hp->VK->Prop:=fun x vs H Q=>∃ l xs y,x = .ref l/\vs = [y]/\H l = some (.lst xs)/\xs.length < sizeLine/\Q .non (upd H l (.lst (xs ++ [y])))
theorem zG:MtM X "list.append" zfD:=by
 intro pins s σ H x vs v us Q I rx rv h
 obtain ⟨l,xs,y,rfl,rfl,hH,hz,q⟩:=h
 cases rx
 obtain ⟨u,rfl,ru⟩:=rv.one
 obtain ⟨z,its,n,r,hl,e⟩:=I.lstM hH
 refine call_meets F.slot_list_append ⟨_,e,rfl⟩ F.entry_list_append (F.args_list_append_2 _ _) (PySem.list_append l its.toArray n u (by rw [List.size_toArray]; omega)) ⟨e,?_⟩
 refine ⟨.non,_,I.lset (its':=its ++ [u]) hH e (by simp) (r.append (.cons ru .nil)) ?_,rfl,q⟩
 rw [List.length_append,List.length_singleton]
 omega
def zfC:V->List V->Hp->VK->Prop:=fun x vs H Q=>∃ l b xs zs,x = .ref l/\vs = [.ref b]/\H l = some (.lst xs)/\H b = some (.lst zs)/\xs.length + zs.length<=sizeLine/\Q .non (upd H l (.lst (xs ++ zs)))
theorem jJ:MtM X "list.extend" zfC:=by
 intro pins s σ H x vs v us Q I rx rv h
 obtain ⟨l,b,xs,zs,rfl,rfl,hH,hB,hz,q⟩:=h
 cases rx
 obtain ⟨u,rfl,ru⟩:=rv.one
 cases ru
 obtain ⟨z,its,n,r,hl,e⟩:=I.lstM hH
 obtain ⟨z2,its2,n2,r2,hl2,e2⟩:=I.lstM hB
 have hsz:its.toArray.size + its2.toArray.size<=sizeLine:=by rw [List.size_toArray,List.size_toArray]; omega
 have hlong:¬ (!its.toArray.isEmpty && Builtin.List.listTooLong (its.toArray.size + its2.toArray.size)) = true:=by
  rw [zat hsz,Bool.and_false]
  exact Bool.false_ne_true
 refine call_meets F.slot_list_extend ⟨_,e,rfl⟩ F.entry_list_extend (F.args_list_extend_2 _ _)
  (AutoSeq1.list_extend_list_list_0 l its.toArray n b its2.toArray n2 hlong (by rw [List.size_toArray]; omega) (by omega)) ⟨e,e2,?_⟩
 refine ⟨.non,_,I.lset (its':=its ++ its2) hH e (by simp) (r.append r2) ?_,rfl,q⟩
 rw [List.length_append]
 omega
def zjG:V->List V->Hp->VK->Prop:=fun x vs H Q=>∃ l xs y,x = .ref l/\vs = []/\H l = some (.lst xs)/\xs[xs.length - 1]? = some y/\Q y (upd H l (.lst xs.dropLast))
theorem zh8:MtM X "list.pop" zjG:=by
 intro pins s σ H x vs v us Q I rx rv h
 obtain ⟨l,xs,y,rfl,rfl,hH,hy,q⟩:=h
 cases rx
 have hus:=rv.zero
 subst hus
 obtain ⟨z,its,n,r,hl,e⟩:=I.lstM hH
 obtain ⟨u,hu,ru⟩:=r.get hy
 have hy':its.toArray[its.toArray.size - 1]? = some u:=by
  show its.toArray[its.length - 1]? = some u
  rw [<- Array.getElem?_toList,<- hl]
  exact hu
 refine call_meets F.slot_list_pop ⟨_,e,rfl⟩ F.entry_list_pop (F.args_list_pop_1 _) (MeetsSeq.list_pop_last l its.toArray n u hy' (by rw [List.size_toArray]; omega)) ⟨e,?_⟩
 refine ⟨y,_,I.lset (its':=its.dropLast) hH e ?_ r.dropLast ?_,ru,q⟩
 ·show its.toArray.eraseIdxIfInBounds (its.toArray.size - 1) = its.dropLast.toArray
  rw [List.size_toArray,List.eraseIdxIfInBounds_toArray,zbO]
 ·rw [List.length_dropLast]
  omega
def zjM:R2:=fun x y H Q=>∃ l b xs zs,x = .ref l/\y = .ref b/\H l = some (.lst xs)/\H b = some (.lst zs)/\xs.length + zs.length<=sizeLine/\∀ p,H p = none->Q (.ref p) (upd H p (.lst (xs ++ zs)))
theorem xB:OpR X (binaryOp .Add) zjM:=by
 intro pins s σ H x y v u Q I rx ry h
 obtain ⟨l,b,xs,zs,rfl,rfl,hH,hB,hz,q⟩:=h
 cases rx
 cases ry
 obtain ⟨z,its,n,r,hl,e⟩:=I.lstM hH
 obtain ⟨z2,its2,n2,r2,hl2,e2⟩:=I.lstM hB
 refine PySem.P.add_list e e2 ?_ (by rw [List.size_toArray,List.size_toArray]; omega)
 have ea:its.toArray ++ its2.toArray = (its ++ its2).toArray:=by simp
 rw [ea]
 exact ⟨.ref _,_,I.lnew (t':=s.toks) (r.append r2) (by rw [List.length_append]; omega),rfl,q _ I.fresh⟩
def zjF:R2:=fun x y H Q=>∃ l k xs,x = .ref l/\y = .int k/\H l = some (.lst xs)/\-(2 ^ 63)<=k/\k < 2 ^ 63/\xs.length * k.toNat<=sizeLine/\
 ∀ p,H p = none->Q (.ref p) (upd H p (.lst (List.replicate k.toNat xs).flatten))
theorem zgh {α : Type} (xs:List α) (k:Nat):(List.replicate k xs).flatten.length = k * xs.length:=by
 induction k with
 | zero=>simp
 | succ k ih=>rw [List.replicate_succ,List.flatten_cons,List.length_append,ih,Nat.succ_mul,Nat.add_comm]
theorem zbs:OpR X (binaryOp .Mult) zjF:=by
 intro pins s σ H x y v u Q I rx ry h
 obtain ⟨l,k,xs,rfl,rfl,hH,h1,h2,hz,q⟩:=h
 cases rx
 obtain ⟨t,rfl⟩:=ry
 obtain ⟨z,its,n,r,hl,e⟩:=I.lstM hH
 have hlen:its.toArray.size * k.toNat<=sizeLine:=by rw [List.size_toArray,<- hl]; exact hz
 have hcap:¬ its.toArray.size * k.toNat > (2 ^ 63 - 1) / 8:=by
  have:(sizeLine:Nat)<=(2 ^ 63 - 1) / 8:=by decide
  omega
 have hfit:¬ (!Builtin.List.listFitsIndex k) = true:=by
  rw [fitsIndex_both h1 h2]
  exact Bool.false_ne_true
 have hlong:¬ Builtin.List.listTooLong (its.toArray.size * k.toNat) = true:=by
  rw [zat hlen]
  exact Bool.false_ne_true
 have hnew:List.foldl (fun x1 x2=>x1 ++ x2) #[] (List.replicate (if its.toArray.isEmpty = true then 0 else k.toNat) its.toArray) = (List.replicate k.toNat its).flatten.toArray:=by
  have f0:∀ m:Nat,List.foldl (fun x1 x2=>x1 ++ x2) #[] (List.replicate m its.toArray) = (List.replicate m its).flatten.toArray:=fun m=>by
   have:=jW its m []
   rw [List.nil_append] at this
   exact this
  rw [f0]
  cases its with
  | nil=>simp
  | cons a r'=>rw [if_neg (by simp)]
 refine wpAny_binaryOp_repeat_ref (T:="list") (U:="int") (by decide) ⟨_,e,rfl⟩ (fun s'=>typeIs_int s' k t) noFill_list_mul F.fills_int_mul F.slot_int_rmul repeat_list F.slot_int_index.lookup
  (call_meets F.slot_int_rmul (typeIs_int s k t) F.entry_int_rmul (F.args_int_rmul_2 _ _) (int___rmul___int_list k t l its.toArray n)
   ⟨e,rfl,⟨_,e,rfl⟩,call_meets F.slot_list_mul ⟨_,e,rfl⟩ F.entry_list_mul (F.args_list_mul_2 _ _) (AutoListH.list___mul___list_int_3 l its.toArray n k t hfit hcap hlong) ⟨e,?_⟩⟩)
 rw [hnew]
 exact ⟨.ref _,_,I.lnew (t':=s.toks) (r.rep k.toNat) (by rw [zgh,Nat.mul_comm]; exact hz),rfl,q _ I.fresh⟩
theorem ze2 {pins:List (Addr × Obj)} {s:Shared} {σ : St} {H:Hp} {l:Addr} {xs:List V} {i:Int} {t:Tok} {k:Nat} {Q:Unit->Shared->Prop} (I:Inv X pins σ H s) (hH:H l = some (.lst xs))
  (h1 : -(2 ^ 63)<=i) (h2:i < 2 ^ 63) (hk:seqIndex? i xs.length = some k) (h:∀ s',Inv X pins σ (upd H l (.lst (xs.eraseIdx k))) s'->Q () s') :
  wpAny (model X.prog X.w) X.A (delItem (.ref l) (.int i t)) Q X.xe s:=by
 obtain ⟨z,its,n,r,hl,e⟩:=I.lstM hH
 refine PySem.P.delItem_list (k:=k) e (fitsIndex_both h1 h2) (by rw [List.size_toArray,<- hl]; exact hk) (h _ ?_) (by rw [List.size_toArray]; omega)
 refine I.lset (its':=its.eraseIdx k) (t':=s.toks) hH e ?_ (r.eraseIdx k) ?_
 ·show its.toArray.eraseIdxIfInBounds k = (its.eraseIdx k).toArray
  rw [List.eraseIdxIfInBounds_toArray]
 ·have:=jL xs k
  omega
end
section
variable {prog:Program} {w:World} {A:Around} {E:Value->Shared->Prop} {s:Shared}
end
section
variable {X:Cx}
end
section
variable {κ : Type} [DecidableEq κ]
def zA (kvs:List (κ × V)) (k : κ):Option V:=(kvs.find? fun kv=>decide (kv.1 = k)).map (·.2)
def yq (kvs:List (κ × V)) (k : κ) (v:V):List (κ × V):=
 if (kvs.any fun kv=>decide (kv.1 = k)) = true then kvs.map (fun kv=>if kv.1 = k then (kv.1,v) else kv) else kvs ++ [(k,v)]
theorem yC {p : κ × V} {r:List (κ × V)} {k : κ} (e:p.1 = k):zA (p :: r) k = some p.2:=by simp [zA,List.find?_cons,e]
theorem yD {p : κ × V} {r:List (κ × V)} {k : κ} (e:¬ p.1 = k):zA (p :: r) k = zA r k:=by simp [zA,List.find?_cons,e]
theorem xa (k : κ):∀ kvs:List (κ × V),(kvs.any fun kv=>decide (kv.1 = k)) = (zA kvs k).isSome
 | []=>rfl
 | p :: r=>by
  rw [List.any_cons]
  by_cases e:p.1 = k
  ·simp only [yC e,decide_eq_true e,Bool.true_or,Option.isSome_some]
  ·rw [yD e,decide_eq_false e,Bool.false_or]; exact xa k r
theorem qT (k j : κ) (y:V):∀ kvs:List (κ × V),zA (kvs.map fun kv=>if kv.1 = k then (kv.1,y) else kv) j = (zA kvs j).map fun x=>if j = k then y else x
 | []=>rfl
 | p :: r=>by
  have ih:=qT k j y r
  rw [List.map_cons]
  by_cases h:p.1 = k
  ·rw [if_pos h]
   by_cases e:p.1 = j
   ·rw [yC (p:=(p.1,y)) e,yC e,Option.map_some,if_pos (e.symm.trans h)]
   ·rw [yD (p:=(p.1,y)) e,yD e,ih]
  ·rw [if_neg h]
   by_cases e:p.1 = j
   ·rw [yC (p:=p) e,yC e,Option.map_some,if_neg (fun z=>h (e.trans z))]
   ·rw [yD (p:=p) e,yD e,ih]
theorem jz (k j : κ) (y:V):∀ kvs:List (κ × V),zA kvs k = none->zA (kvs ++ [(k,y)]) j = if j = k then some y else zA kvs j
 | [],_=>by
  by_cases e:k = j
  ·rw [if_pos e.symm]; exact yC (p:=(k,y)) e
  ·rw [if_neg (fun z=>e z.symm)]; exact yD (p:=(k,y)) e
 | p :: r,hn=>by
  rw [List.cons_append]
  have hk:¬ p.1 = k:=fun z=>by rw [yC z] at hn; cases hn
  rw [yD hk] at hn
  have ih:=jz k j y r hn
  by_cases e:p.1 = j
  ·rw [yC e,yC e,if_neg (fun z=>hk (e.trans z))]
  ·rw [yD e,yD e,ih]
theorem qS (kvs:List (κ × V)) (k j : κ) (y:V):zA (yq kvs k y) j = if j = k then some y else zA kvs j:=by
 unfold yq
 by_cases a:(kvs.any fun kv=>decide (kv.1 = k)) = true
 ·rw [if_pos a,qT]
  rw [xa] at a
  by_cases e:j = k
  ·obtain ⟨x,hx⟩:=Option.isSome_iff_exists.mp a
   rw [if_pos e,e,hx,Option.map_some,if_pos rfl]
  ·rw [if_neg e]
   cases zA kvs j with
   | none=>rfl
   | some x=>rw [Option.map_some,if_neg e]
 ·rw [if_neg a]
  refine jz k j y kvs ?_
  rw [xa] at a
  cases q:zA kvs k with
  | none=>rfl
  | some x=>rw [q] at a; exact (a rfl).elim
theorem xc (kvs:List (κ × V)) (k : κ) (v:V):(yq kvs k v).length<=kvs.length + 1:=by
 unfold yq
 split
 ·rw [List.length_map]; omega
 ·rw [List.length_append,List.length_cons,List.length_nil]; omega
theorem zah {kvs:List (κ × V)} {k : κ} (v:V) (h:zA kvs k = none):yq kvs k v = kvs ++ [(k,v)]:=by
 unfold yq
 rw [xa,h]
 exact if_neg (by decide)
theorem wm.isSome_eq {o:Option V} {u:Option Value} (r:wm o u):o.isSome = u.isSome:=by
 cases o with
 | none=>cases u with
  | none=>rfl
  | some _=>exact (show False from r).elim
 | some _=>cases u with
  | none=>exact (show False from r).elim
  | some _=>rfl
theorem wm.getD {o:Option V} {u:Option Value} {d:V} {d':Value} (r:wm o u) (rd:zL d d'):zL (o.getD d) (u.getD d'):=by
 cases o with
 | none=>cases u with
  | none=>exact rd
  | some _=>exact (show False from r).elim
 | some _=>cases u with
  | none=>exact (show False from r).elim
  | some _=>exact r
theorem KV.val {kvs:List (κ × V)} {vs:List (κ × Value)} (r:KV kvs vs) (k : κ):wm (zA kvs k) (valueAt vs k):=by
 unfold KV at r
 induction r with
 | nil=>exact True.intro
 | @cons p q ps qs h t ih=>
  obtain ⟨h1,h2⟩:=h
  by_cases e:p.1 = k
  ·have e':q.1 = k:=h1.symm.trans e
   have b:valueAt (q :: qs) k = some q.2:=by simp [valueAt,List.find?_cons,e']
   rw [yC e,b]; exact h2
  ·have e':¬ q.1 = k:=fun z=>e (h1.trans z)
   have b:valueAt (q :: qs) k = valueAt qs k:=by simp [valueAt,List.find?_cons,e']
   rw [yD e,b]; exact ih
theorem KV.any {kvs:List (κ × V)} {vs:List (κ × Value)} (r:KV kvs vs) (k : κ):(kvs.any fun kv=>decide (kv.1 = k)) = vs.any fun kv=>decide (kv.1 = k):=by
 unfold KV at r
 induction r with
 | nil=>rfl
 | cons h t ih=>rw [List.any_cons,List.any_cons,ih,h.1]
theorem KV.repl {kvs:List (κ × V)} {vs:List (κ × Value)} (r:KV kvs vs) (k : κ) {y:V} {u:Value} (ry:zL y u) :
  KV (kvs.map fun kv=>if kv.1 = k then (kv.1,y) else kv) (vs.map fun kv=>if kv.1 = k then (kv.1,u) else kv):=by
 unfold KV at r |-
 induction r with
 | nil=>exact .nil
 | @cons p q ps qs h t ih=>
  rw [List.map_cons,List.map_cons]
  refine .cons ?_ ih
  obtain ⟨h1,h2⟩:=h
  by_cases e:p.1 = k
  ·rw [if_pos e,if_pos (h1.symm.trans e)]; exact ⟨h1,ry⟩
  ·rw [if_neg e,if_neg (fun z=>e (h1.trans z))]; exact ⟨h1,h2⟩
theorem KV.put {kvs:List (κ × V)} {vs:List (κ × Value)} (r:KV kvs vs) (k : κ) {y:V} {u:Value} (ry:zL y u):KV (yq kvs k y) (stored vs k u):=by
 unfold yq stored
 rw [r.any k]
 by_cases e:(vs.any fun kv=>decide (kv.1 = k)) = true
 ·rw [if_pos e,if_pos e]; exact r.repl k ry
 ·rw [if_neg e,if_neg e]; exact Paired.snoc r ⟨rfl,ry⟩
theorem KV.length {kvs:List (κ × V)} {vs:List (κ × Value)} (r:KV kvs vs):kvs.length = vs.length:=Paired.length r
end
theorem jc {P:Program} {w:World} {k:Key} {u:Value} (r:zL (kV k) u):(z7 P w).is k u = true:=by
 cases k with
 | inl i=>obtain ⟨t,e⟩:=(show ∃ t,u = Value.int i t from r); subst e; exact zax P w i t
 | inr x=>obtain ⟨t,e⟩:=(show ∃ t,u = Value.str x t from r); subst e; exact zaw P w x t
theorem jQ {P:Program} {w:World}:∀ {ks:List Key} {us:List Value},zJ (ks.map kV) us->ItemsAre (z7 P w) ks us
 | [],_,r=>by rw [List.map_nil] at r; cases r; exact .nil
 | k :: ks,_,r=>by
  rw [List.map_cons] at r
  cases r with
  | cons h t=>exact .cons (jc h) (jQ t)
abbrev KT (H:Hp):List (List Key × V)->List (List Key × Addr × Value)->Prop:=Paired fun p q=>p.1 = q.1/\H q.2.1 = some (.tup (p.1.map kV))/\zL p.2 q.2.2
theorem KT.val {H:Hp} {kvs:List (List Key × V)} {xs:List (List Key × Addr × Value)} (r:KT H kvs xs) (k:List Key):wm (zA kvs k) ((atKey xs k).map (·.2)):=by
 induction r with
 | nil=>exact True.intro
 | @cons p q ps qs h t ih=>
  obtain ⟨h1,_,h2⟩:=h
  by_cases e:p.1 = k
  ·have e':q.1 = k:=h1.symm.trans e
   have b:atKey (q :: qs) k = some q.2:=by simp [atKey,List.find?_cons,e']
   rw [yC e,b]; exact h2
  ·have e':¬ q.1 = k:=fun z=>e (h1.trans z)
   have b:atKey (q :: qs) k = atKey qs k:=by simp [atKey,List.find?_cons,e']
   rw [yD e,b]; exact ih
theorem KT.repl {H:Hp} {kvs:List (List Key × V)} {xs:List (List Key × Addr × Value)} (r:KT H kvs xs) (k:List Key) {y:V} {u:Value} (ry:zL y u) :
  KT H (kvs.map fun kv=>if kv.1 = k then (kv.1,y) else kv) (xs.map (putAt k u)):=by
 induction r with
 | nil=>exact .nil
 | @cons p q ps qs h t ih=>
  rw [List.map_cons,List.map_cons]
  refine .cons ?_ ih
  obtain ⟨h1,h2,h3⟩:=h
  unfold putAt
  by_cases e:p.1 = k
  ·rw [if_pos e,if_pos (h1.symm.trans e)]; exact ⟨h1,h2,ry⟩
  ·rw [if_neg e,if_neg (fun z=>e (h1.trans z))]; exact ⟨h1,h2,h3⟩
theorem KT.put {H:Hp} {kvs:List (List Key × V)} {xs:List (List Key × Addr × Value)} (r:KT H kvs xs) (k:List Key) {b:Addr} {y:V} {u:Value} (hb:H b = some (.tup (k.map kV))) (ry:zL y u) :
  KT H (yq kvs k y) (storedH xs k b u):=by
 have e:(kvs.any fun kv=>decide (kv.1 = k)) = (atKey xs k).isSome:=by
  rw [xa,(r.val k).isSome_eq,Option.isSome_map]
 unfold yq storedH
 rw [e]
 by_cases q:(atKey xs k).isSome = true
 ·rw [if_pos q,if_pos q]; exact r.repl k ry
 ·rw [if_neg q,if_neg q]; exact Paired.snoc r ⟨rfl,hb,ry⟩
theorem KT.keeps {H H':Hp} {kvs:List (List Key × V)} {xs:List (List Key × Addr × Value)} (r:KT H kvs xs) (ht:∀ b ys,H b = some (.tup ys)->H' b = some (.tup ys)):KT H' kvs xs:=
 Paired.mapP r fun _ _ z=>⟨z.1,ht _ _ z.2.1,z.2.2⟩
section
variable {P:Program} {w:World} {H:Hp} {h:Heap} {a:Addr}
theorem zgT {u:HO} (ok:HOk P w H h) (e:Rd H a u):ye P w H h a u:=e.ok ok
theorem jk {kvs:List (Key × V)} (ok:HOk P w H h) (e:Rd H a (.dK kvs)):kvs.length<=sizeLine/\(a == sysModules) = false/\∃ vs,KV kvs vs/\h.DictOf (z7 P w) a vs:=
 show ye P w H h a (.dK kvs) from zgT ok e
theorem zgX {kvs:List (Key × V)} (ok:HOk P w H h) (e:H a = some (.dK kvs)):kvs.length<=sizeLine/\(a == sysModules) = false/\∃ vs,KV kvs vs/\h.DictOf (z7 P w) a vs:=jk ok (.inl e)
theorem vV {ks:List Key} (ok:HOk P w H h) (e:H a = some (.tup (ks.map kV))):(tupleKind (z7 P w)).is h ks a:=by
 obtain ⟨_,its,r,o,h1,h2,n,h3⟩:=(show ye P w H h a (.tup (ks.map kV)) from ok a _ e)
 exact ⟨o,its.toArray,n,h1,h2,h3,by simpa using jQ r⟩
theorem ji {kvs:List (List Key × V)} (ok:HOk P w H h) (e:Rd H a (.dT kvs)):kvs.length<=sizeLine/\(a == sysModules) = false/\
  ∃ xs,KT H kvs xs/\h.DictOfH (tupleKind (z7 P w)) a xs:=by
 obtain ⟨z,y,xs,r,o,es,ep,h1,h2,h3,h4,h5⟩:=(show ye P w H h a (.dT kvs) from zgT ok e)
 refine ⟨z,y,xs,r,o,es,ep,h1,h2,h3,h4,fun x hx=>?_,h5⟩
 have all:∀ {l:List (List Key × V)} {m:List (List Key × Addr × Value)},KT H l m->∀ x ∈ m,(tupleKind (z7 P w)).is h x.1 x.2.1:=by
  intro l m q
  induction q with
  | nil=>intro x hx; exact nomatch hx
  | @cons p q ps qs hq t ih=>
   intro x hx
   rcases List.mem_cons.mp hx with e | hx
   ·subst e
    exact vV ok (by rw [<- hq.1]; exact hq.2.1)
   ·exact ih x hx
 exact all r x hx
theorem zjg {kvs:List (List Key × V)} (ok:HOk P w H h) (e:H a = some (.dT kvs)):kvs.length<=sizeLine/\(a == sysModules) = false/\
  ∃ xs,KT H kvs xs/\h.DictOfH (tupleKind (z7 P w)) a xs:=ji ok (.inl e)
end
def qP (H:Hp) (a:Addr) (y:V) (r:Option V):Prop:=
 (∃ kvs k,Rd H a (.dK kvs)/\y = kV k/\r = zA kvs k)\/∃ kvs k b,Rd H a (.dT kvs)/\y = .ref b/\H b = some (.tup (k.map kV))/\r = zA kvs k
def zjm (H:Hp) (a:Addr) (y v:V) (H':Hp):Prop:=
 (∃ kvs k,H a = some (.dK kvs)/\y = kV k/\kvs.length < sizeLine/\H' = upd H a (.dK (yq kvs k v)))\/
 ∃ kvs k b,H a = some (.dT kvs)/\y = .ref b/\H b = some (.tup (k.map kV))/\kvs.length < sizeLine/\H' = upd H a (.dT (yq kvs k v))
section
variable {X:Cx} {pins:List (Addr × Obj)} {σ : St} {H:Hp} {s:Shared} {a:Addr} {y v:V} {u r:Value} {o:Option V} {A:Around} {E:Value->Shared->Prop}
theorem Inv.big (I:Inv X pins σ H s):sysModules < s.heap.objs.size:=by
 have h:mainGlobals < s.heap.objs.size:=(I.mod.glob.keeps I.bk).lt
 exact Nat.lt_trans (by decide) h
theorem zde {Q:Value->Shared->Prop} (hu:A.units + 1 < cLine) (I:Inv X pins σ H s) (g:qP H a y (some v)) (ry:zL y u) (h:∀ w' s',Inv X pins σ H s'->zL v w'->Q w' s') :
  wpAny (model X.prog X.w) A (getItem (.ref a) u) Q E s:=by
 rcases g with ⟨kvs,k,e,ey,l⟩ | ⟨kvs,k,b,e,ey,eb,l⟩
 ·subst ey
  obtain ⟨z,hd,vs,rel,dd⟩:=jk I.hok e
  obtain ⟨w',hw,rw'⟩:=wm.some_of (v:=v) (o:=valueAt vs k) (by rw [l]; exact rel.val k)
  exact wpAny_getItem_of (jc ry) dd.mapOf hw (h w' _ (I.tok _) rw')
 ·subst ey
  cases (show u = Value.ref b from ry)
  obtain ⟨z,hd,xs,rel,dd⟩:=ji I.hok e
  obtain ⟨w',hw,rw'⟩:=wm.some_of (v:=v) (o:=(atKey xs k).map (·.2)) (by rw [l]; exact rel.val k)
  obtain ⟨p,hp,hp2⟩:=Option.map_eq_some_iff.mp hw
  refine wpAny_getItem_heap (tupleKind_room_in1 hu) (vV I.hok eb) dd hp ?_
  rw [hp2]
  exact h w' _ (I.tok _) rw'
theorem zj6 {Q:Value->Shared->Prop} (hu:A.units + 1 < cLine) (I:Inv X pins σ H s) (g:qP H a y o) (ry:zL y u) (h:∀ s',Inv X pins σ H s'->Q (.bool o.isSome) s') :
  wpAny (model X.prog X.w) A (compareOp .In u (.ref a)) Q E s:=by
 rcases g with ⟨kvs,k,e,ey,l⟩ | ⟨kvs,k,b,e,ey,eb,l⟩
 ·subst ey
  obtain ⟨z,hd,vs,rel,dd⟩:=jk I.hok e
  refine wpAny_in_of (jc ry) hd dd.mapOf ?_
  rw [<- (rel.val k).isSome_eq,<- l]
  exact h _ (I.tok _)
 ·subst ey
  cases (show u = Value.ref b from ry)
  obtain ⟨z,hd,xs,rel,dd⟩:=ji I.hok e
  refine wpAny_in_heap (tupleKind_room_in1 hu) (vV I.hok eb) hd dd ?_
  have q:=(rel.val k).isSome_eq
  rw [Option.isSome_map] at q
  rw [<- q,<- l]
  exact h _ (I.tok _)
theorem zgy {Q:Value->Shared->Prop} (hu:A.units + 1 < cLine) (I:Inv X pins σ H s) (g:qP H a y o) (ry:zL y u) (h:∀ s',Inv X pins σ H s'->Q (.bool (!o.isSome)) s') :
  wpAny (model X.prog X.w) A (compareOp .NotIn u (.ref a)) Q E s:=by
 rcases g with ⟨kvs,k,e,ey,l⟩ | ⟨kvs,k,b,e,ey,eb,l⟩
 ·subst ey
  obtain ⟨z,hd,vs,rel,dd⟩:=jk I.hok e
  refine wpAny_notIn_of (jc ry) hd dd.mapOf ?_
  rw [<- (rel.val k).isSome_eq,<- l]
  exact h _ (I.tok _)
 ·subst ey
  cases (show u = Value.ref b from ry)
  obtain ⟨z,hd,xs,rel,dd⟩:=ji I.hok e
  refine wpAny_notIn_heap (tupleKind_room_in1 hu) (vV I.hok eb) hd dd ?_
  have q:=(rel.val k).isSome_eq
  rw [Option.isSome_map] at q
  rw [<- q,<- l]
  exact h _ (I.tok _)
theorem qG {h':Heap} {t':Nat} {ob:HO} (I:Inv X pins σ H s) (mu:Mut (H a)) (hs:Heap.SameBut a s.heap h') (he:∃ q,h'.get? a = some q) (new:ye X.prog X.w (upd H a ob) h' a ob) :
  Inv X pins σ (upd H a ob) { s with heap:=h',toks:=t' }:=
 I.write (x:=a) (e:=a) mu (.inl rfl) (fun b q hb z=>(hs.2 b hb).trans z) he new
theorem ze0 {P:Program} {w:World} {H':Hp} {h':Heap} {kvs:List (Key × V)} {vs:List (Key × Value)} (z:kvs.length<=sizeLine) (hd:(a == sysModules) = false) (rel:KV kvs vs) (dd:h'.DictOf (z7 P w) a vs) :
  ye P w H' h' a (.dK kvs):=⟨z,hd,vs,rel,dd⟩
theorem zdd {H':Hp} {Q:Unit->Shared->Prop} (hu:A.units + 1 < cLine) (I:Inv X pins σ H s) (g:zjm H a y v H') (ry:zL y u) (rv:zL v r) (h:∀ s',Inv X pins σ H' s'->Q () s') :
  wpAny (model X.prog X.w) A (setItem (.ref a) u r) Q E s:=by
 rcases g with ⟨kvs,k,e,ey,l,eH⟩ | ⟨kvs,k,b,e,ey,eb,l,eH⟩
 ·subst ey eH
  obtain ⟨z,hd,vs,rel,dd⟩:=zgX I.hok e
  have hz:vs.length<=sizeLine:=by rw [<- rel.length]; exact z
  have hl:(yq kvs k v).length<=sizeLine:=by have:=xc kvs k v; omega
  refine wpAny_setItem_pairs (hsz:=hz) (jc ry) dd fun h' dd' hs=>h _ ?_
  have he:∃ q,h'.get? a = some q:=let ⟨q,_,_,hq,_⟩:=dd'; ⟨q,hq⟩
  exact qG I (by rw [e]; exact True.intro) hs he (ze0 hl hd (rel.put k rv) dd')
 ·subst ey eH
  cases (show u = Value.ref b from ry)
  obtain ⟨z,hd,xs,rel,dd⟩:=zjg I.hok e
  have hz:xs.length<=sizeLine:=by rw [<- Paired.length rel]; exact z
  have hl:(yq kvs k v).length<=sizeLine:=by have:=xc kvs k v; omega
  refine wpAny_setItem_heap (hsz:=hz) (tupleKind_room_in1 hu) (vV I.hok eb) dd fun h' dd' hs=>h _ ?_
  obtain ⟨q,es,ep,hq,h2,h3,h4,_,h5⟩:=dd'
  refine qG I (by rw [e]; exact True.intro) hs ⟨q,hq⟩ ⟨hl,hd,_,(rel.put k eb rv).keeps fun c ys ec=>?_,q,es,ep,hq,h2,h3,h4,h5⟩
  rw [zf (xl ec e (fun z=>nomatch z))]
  exact ec
end
section
variable {X:Cx} {pins:List (Addr × Obj)} {σ : St} {H:Hp} {s:Shared} {a:Addr} {kvs:List (Key × V)} {k:Key} {u:Value} {A:Around} {E:Value->Shared->Prop}
end
def zir (i:Expr):Prop:=∀ ov iv,subscripted i false ov iv = operate [ov,iv] (getItem ov iv)
theorem zb1 {prog:Program} {w:World} {A:Around} {E:Value->Shared->Prop} {s:Shared} {env:Env} {value slice:Expr} {pos:Pos} {T id:String} {Q:Value->Shared->Prop}
  (hl:typeLookup (.type T) "__getitem__" = pure (some (.builtin id))) (hs:zir slice)
  (h:wpAny (model prog w) A (eval value env) (fun o s₁=>wpAny (model prog w) A (eval slice env) (fun i s₂=>s₂.TypeIs o T/\wpAny (model prog w) A (getItem o i) Q E s₂) E s₁) E s) :
  wpAny (model prog w) A (eval (.Subscript value slice pos) env) Q E s:=by
 refine Subscript_ (wpAny_mono h (fun o s₁ h₁=>wpAny_mono h₁ (fun i s₂ h₂=>?_) fun _ _ x=>x) fun _ _ x=>x)
 obtain ⟨hT,h₂⟩:=h₂
 unfold subscriptTail
 refine wpAny_bind ?_
 rw [getitemInPython_of_ne hT.not_modules]
 refine wpAny_bind (wpAny_specialOf hT hl ?_)
 have fin:wpAny (model prog w) A (subscripted slice false o i) (fun r s₃=>wpAny (model prog w) A (letTemporaryGo value o r >>= fun _=>pure r) Q E s₃) E s₂:=by
  rw [hs o i]
  exact wpAny_operating (wpAny_mono h₂ (fun r s₃ h₃=>wpAny_bind (wpAny_letTemporaryGo (wpAny_pure h₃))) fun _ _ x=>x)
 first
  | exact wpAny_pure (wpAny_bind fin)
  | exact wpAny_bind (wpAny_pure (wpAny_bind fin))
  | exact wpAny_bind fin
theorem zaL {X:Cx} {pins:List (Addr × Obj)} {σ : St} {H:Hp} {s:Shared} {a:Addr} {y:V} {o:Option V} (I:Inv X pins σ H s) (g:qP H a y o):s.TypeIs (.ref a) "dict":=by
 rcases g with ⟨kvs,k,e,_,_⟩ | ⟨kvs,k,b,e,_,_,_⟩
 ·obtain ⟨_,_,vs,_,dd⟩:=jk I.hok e
  exact dd.typeIs
 ·obtain ⟨_,_,xs,_,dd⟩:=ji I.hok e
  exact dd.typeIs
def ziF (td ty:TE):TE:=fun σ H Q=>td σ H fun x H1=>ty σ H1 fun y H2=>∃ a v,x = .ref a/\qP H2 a y (some v)/\Q v H2
def zjw (ty td:TE):TE:=fun σ H Q=>ty σ H fun y H1=>td σ H1 fun x H2=>∃ a o,x = .ref a/\qP H2 a y o/\Q (.bl o.isSome) H2
def zfn (ty td:TE):TE:=fun σ H Q=>ty σ H fun y H1=>td σ H1 fun x H2=>∃ a o,x = .ref a/\qP H2 a y o/\Q (.bl (!o.isSome)) H2
def ziT (td ty tv:TE):TS:=fun D σ H=>tv σ H fun v H1=>td σ H1 fun x H2=>ty σ H2 fun y H3=>∃ a H4,x = .ref a/\zjm H3 a y v H4/\D.nx σ H4
section
variable {X:Cx} {o i e value:Expr} {pos pos' tpos:Pos} {td ty tv:TE}
theorem zck (hu:X.A.units + 1 < cLine) (ho:PE X o td) (hi:PE X i ty) (hs:zir i):PE X (.Subscript o i pos) (ziF td ty):=by
 refine ⟨?_⟩
 intro pins s σ H Q I h
 refine zb1 PySem.F.slot_dict_getitem.lookup hs (thn (ho pins s σ H _ I h) fun u s1 ⟨x,H1,I1,rx,q1⟩=>thn (hi pins s1 σ H1 _ I1 q1) fun iv s2 ⟨y,H2,I2,ry,a,v,ex,g,q2⟩=>?_)
 subst ex
 obtain rfl:u = Value.ref a:=rx
 exact ⟨zaL I2 g,zde hu I2 g ry fun w' s3 I3 rw'=>⟨v,H2,I3,rw',q2⟩⟩
theorem zhQ (hu:X.A.units + 1 < cLine) (hi:PE X i ty) (ho:PE X o td):PC X .In i o (zjw ty td):=by
 refine ⟨?_⟩
 intro pins s σ H Q I h
 refine thn (hi pins s σ H _ I h) fun iv s1 ⟨y,H1,I1,ry,q1⟩=>thn (ho pins s1 σ H1 _ I1 q1) fun u s2 ⟨x,H2,I2,rx,a,ov,ex,g,q2⟩=>?_
 subst ex
 obtain rfl:u = Value.ref a:=rx
 exact zj6 hu I2 g ry fun s3 I3=>⟨.bl ov.isSome,H2,I3,rfl,q2⟩
theorem zcT (hu:X.A.units + 1 < cLine) (hi:PE X i ty) (ho:PE X o td):PC X .NotIn i o (zfn ty td):=by
 refine ⟨?_⟩
 intro pins s σ H Q I h
 refine thn (hi pins s σ H _ I h) fun iv s1 ⟨y,H1,I1,ry,q1⟩=>thn (ho pins s1 σ H1 _ I1 q1) fun u s2 ⟨x,H2,I2,rx,a,ov,ex,g,q2⟩=>?_
 subst ex
 obtain rfl:u = Value.ref a:=rx
 exact zgy hu I2 g ry fun s3 I3=>⟨.bl (!ov.isSome),H2,I3,rfl,q2⟩
theorem zfH (hu:X.A.units + 1 < cLine) (ho:PE X o td) (hi:PE X i ty) (hv:PE X value tv) (hs:swapsWith value (some (.Subscript o i pos')) pos.line X.env = pure false) :
  PS X (.Assign [.Subscript o i pos'] value pos) (ziT td ty tv):=by
 refine ⟨?_⟩
 intro pins s σ H D I h
 refine wpAny_Assign_Subscript (thn (hv pins s σ H _ I h) fun r s1 ⟨v,H1,I1,rv,q1⟩=>thn (ho pins s1 σ H1 _ I1 q1) fun u s2 ⟨x,H2,I2,rx,q2⟩=>thn (hi pins s2 σ H2 _ I2 q2) fun iv s3 ⟨y,H3,I3,ry,a,H4,ex,g,q3⟩=>?_) hs
 subst ex
 obtain rfl:u = Value.ref a:=rx
 exact zdd hu I3 g ry rv fun s4 I4=>⟨σ,H4,I4,q3⟩
end
theorem ze1 {P:Program} {w:World} {H:Hp} (h:Heap) (hb:sysModules < h.objs.size):ye P w H (h.push { cls:=.type "dict",data:=.dict #[] }) h.objs.size (.dK []):=
 ⟨Nat.zero_le _,beq_eq_false_iff_ne.mpr (Ne.symm (Nat.ne_of_lt hb)),[],.nil,Heap.DictOf.new h⟩
def zhb:TE:=fun _ H Q=>∀ p,H p = none->Q (.ref p) (upd H p (.dK []))
section
variable {X:Cx} {pos:Pos}
theorem zef:PE X (.Dict [] [] pos) zhb:=⟨fun pins s σ H Q I h=>
 wpAny_Dict_empty ⟨.ref s.heap.objs.size,_,I.laid (a:=s.heap.objs.size) (o:=.dK []) (t':=s.toks) (fun _ _ q=>Heap.get?_push_of_some _ q) (Nat.le_refl _) (ze1 s.heap I.big),rfl,h _ (I.hok.fresh (Nat.le_refl _))⟩⟩
end
def zg7:List (TE × TE)->St->Hp->(List (V × V)->Hp->Prop)->Prop
 | [],_,H,Q=>Q [] H
 | (tk,tv) :: r,σ,H,Q=>tk σ H fun x H1=>tv σ H1 fun y H2=>zg7 r σ H2 fun ps H3=>Q ((x,y) :: ps) H3
structure M1 (X:Cx) (o:Expr) (m:Str) (apos:Pos) (e:Expr) (cpos:Pos):Prop where
 base:attributeBase o m X.env (eval o X.env) = eval o X.env
 few:((backTo cpos (starEach [e] X.env)).all (fun x=>!x.1) && (backToKw cpos (keywordEach [] X.env)).all (fun x=>x.1.isSome)
  && decide (([e]:List Expr).length + ([]:List Keyword).length + (if ([]:List Keyword).isEmpty then 0 else 1) < 30)) = true
 line:(apos.endLine == cpos.line) = true
 trees:backTo cpos (starEach [e] X.env) = [(false,eval e X.env)]
def IsD (H:Hp) (a:Addr):Prop:=(∃ kvs,Rd H a (.dK kvs))\/∃ kvs,Rd H a (.dT kvs)
theorem zie {X:Cx} {pins:List (Addr × Obj)} {σ : St} {H:Hp} {s:Shared} {a:Addr} (I:Inv X pins σ H s) (d:IsD H a) :
  s.TypeIs (.ref a) "dict"/\(∀ b,Value.ref a = .ref b->∃ ob,s.heap.get? b = some ob/\ob.dict = none)/\(a == sysModules) = false:=by
 rcases d with ⟨kvs,e⟩ | ⟨kvs,e⟩
 ·obtain ⟨_,hd,vs,_,dd⟩:=jk I.hok e
  refine ⟨dd.typeIs,fun b q=>?_,hd⟩
  cases q
  obtain ⟨ob,_,_,h1,h2,_⟩:=dd
  exact ⟨ob,h1,h2.2.1⟩
 ·obtain ⟨_,hd,xs,_,dd⟩:=ji I.hok e
  refine ⟨dd.typeIs,fun b q=>?_,hd⟩
  cases q
  obtain ⟨ob,_,_,h1,h2,_⟩:=dd
  exact ⟨ob,h1,h2.2.1⟩
section
variable {X:Cx} {pins:List (Addr × Obj)} {σ : St} {H:Hp} {s:Shared} {a:Addr} {y d:V} {u r:Value} {o:Option V} {A:Around} {E:Value->Shared->Prop}
theorem zik {Q:Value->Shared->Prop} (hu:A.units + 1 < cLine) (I:Inv X pins σ H s) (g:qP H a y o) (ry:zL y u) (h:∀ w' s',Inv X pins σ H s'->zL (o.getD .non) w'->Q w' s') :
  wpAny (model X.prog X.w) A (call (.builtin "dict.get") [.ref a,u]) Q E s:=by
 rcases g with ⟨kvs,k,e,ey,l⟩ | ⟨kvs,k,b,e,ey,eb,l⟩
 ·subst ey
  obtain ⟨z,hd,vs,rel,dd⟩:=jk I.hok e
  refine call_meetsIn PySem.F.slot_dict_get dd.typeIs PySem.F.entry_dict_get (PySem.F.args_dict_get_2 _ _) (meets_dict_get (z7 X.prog X.w) a (jc ry) hd) ⟨_,dd.mapOf,h _ _ (I.tok _) ?_⟩
  rw [l]
  exact (rel.val k).getD rfl
 ·subst ey
  cases (show u = Value.ref b from ry)
  obtain ⟨z,hd,xs,rel,dd⟩:=ji I.hok e
  refine call_meetsIn PySem.F.slot_dict_get dd.typeIs PySem.F.entry_dict_get (PySem.F.args_dict_get_2 _ _) (meetsH_dict_get (tupleKind (z7 X.prog X.w)) a b hd) ⟨tupleKind_room_in1 hu,k,xs,vV I.hok eb,dd,h _ _ (I.tok _) ?_⟩
  rw [l]
  exact (rel.val k).getD rfl
end
def zhc (td ty:TE):TE:=fun σ H Q=>td σ H fun x H1=>∃ a,x = .ref a/\IsD H1 a/\ty σ H1 fun y H2=>∃ o,qP H2 a y o/\Q (o.getD .non) H2
section
variable {X:Cx} {o e f:Expr} {apos cpos:Pos} {td ty tx:TE}
theorem zeg (hu:X.A.units + 1 < cLine) (ho:PE X o td) (he:PE X e ty) (m:M1 X o "get" apos e cpos):PE X (.Call (.Attribute o "get" apos) [e] [] cpos) (zhc td ty):=by
 refine ⟨?_⟩
 intro pins s σ H Q I h
 refine wpAny_Call_method m.base m.few m.line PySem.F.plainAttrs_dict PySem.F.slot_dict_get PySem.F.type_dict_get (thn (ho pins s σ H _ I h) fun u s1 ⟨x,H1,I1,rx,a,ex,d,q1⟩=>?_)
 subst ex
 obtain rfl:u = Value.ref a:=rx
 obtain ⟨t1,t2,_⟩:=zie I1 d
 refine ⟨t1,t2,?_⟩
 rw [m.trees]
 refine Calls.callWith_builtin rfl (Calls.evalArgs_plain (Calls.spliced_cons (thn (he pins s1 σ H1 _ I1 q1) fun iv s2 ⟨y,H2,I2,ry,ov,g,q2⟩=>Calls.spliced_nil ?_)))
 exact zik hu I2 g ry fun w' s3 I3 rw'=>⟨_,H2,I3,rw',q2⟩
end
section
variable {X:Cx} {pins:List (Addr × Obj)} {σ : St} {H:Hp} {s:Shared} {a:Addr} {kvs:List (Key × V)} {A:Around} {E:Value->Shared->Prop}
end
section
variable {X:Cx} {pins:List (Addr × Obj)} {σ : St} {H:Hp} {s:Shared} {a:Addr} {y:V} {u:Value} {A:Around} {E:Value->Shared->Prop}
end
end L2
namespace Att
open PySem PySem.W PySem.Calls PyProof.Rows
theorem ul {P:Params} {h:Heap}:∀ (ns:List Int) (vs:List Value),WellAll P h vs (ns.map WData.int)->IntsAre vs ns:=by
 intro ns
 induction ns with
 | nil=>
  intro vs w
  rw [List.map_nil] at w
  cases w
  exact .nil
 | cons n ns ih=>
  intro vs w
  rw [List.map_cons] at w
  cases w with
  | cons a b=>
   cases a
   exact .cons _ _ (ih _ b)
theorem zcK {l:OpenLaw} {n:Nat} (hn:l.most = some n) {P:Params} {h:Heap} {args:List WData} {vals:List Value}
  (hpre:l.row.toRowW.claim.pre args = true) (hwl:WellAll P h vals args) :
  ∃ a vs ns,vals = [Value.ref a]/\args = [WData.list (ns.map WData.int)]/\h.get? a = some { cls:=.type "list",data:=.seq vs.toArray }/\IntsAre vs ns/\ns.length<=n:=by
 have hsh:WShape.hasAll [] args [.list .int] = true:=(pre_splitW hpre).1
 have hc:l.pre.holds [] { args:=args } = true:=(pre_splitW hpre).2
 obtain ⟨d,r,rfl,h1,h2⟩:=hasAllW_cons hsh
 obtain rfl:=hasAllW_nil h2
 obtain ⟨xs,rfl,h3⟩:=hasW_list h1
 obtain ⟨ns,rfl⟩:=items_int h3
 have hlen:ns.length<=n:=by
  unfold OpenLaw.pre at hc
  have h4:(WTm.not (.lt (.lit (.int (n:Int))) (.len (.arg 0)))).holds [] { args:=[.list (ns.map .int)] } = true:=by
   have h4:=(holds_andW hc).1
   rw [hn] at h4
   exact h4
  have h5:=condW_of h4 (w_not (w_lt w_lit (w_len_list (w_arg rfl))))
  rw [List.length_map] at h5
  refine Nat.le_of_not_lt fun q=>?_
  have q':(n:Int) < ((ns.length:Nat):Int):=by omega
  first
   | (rw [decide_eq_true q'] at h5; exact absurd h5 (by decide))
   | (simp at h5; omega)
 cases hwl with
 | cons w1 w2=>
  cases w2
  cases w1 with
  | list ho hall=>exact ⟨_,_,ns,rfl,rfl,ho,ul ns _ hall,hlen⟩
theorem zcP (l:OpenLaw) (args:List WData):l.row.toRowW.claim.post args (.bool true) args = true:=
 postW_of (r:=l.row.toRowW) (X:=(true == true))
  (show WShape.has [] (.bool true) .bool = true by first | rfl | decide | simp [WShape.has,WShape.arms,WShape.armsAll])
  (show (WTm.eq .res (.lit (.bool true))).value [] { args:=args,res:=some (.bool true),after:=args } = some (.bool (true == true)) from w_eq_bool (w_res rfl) w_lit) rfl
section
variable {prog:Program} {w:World} {A:Around} {E:Value->Shared->Prop} {s:Shared} {K:Frag}
def zj2 (h:Heap) (L d:Addr):List (Addr × Obj):=(List.range h.objs.size).filterMap fun a=>if a = L\/a = d then none else (h.get? a).map fun o=>(a,o)
end
end Att
namespace L2
open PySem PySem.Spec PyProof.Rows
theorem jy:∀ {vs:List Value} {ns:List Int},IntsAre vs ns->zJ (ns.map V.int) vs
 | _,_,.nil=>.nil
 | _,_,.cons n t h=>.cons ⟨t,rfl⟩ (jy h)
def ziq (H:Hp):Prop:=∀ b,H b = none\/∃ o xs,H b = some (.frz o (.lst xs))
theorem zeK {P:Program} {w:World} {K:Frag} {mg mb:Str->Option Value} {CX:CXT} {k:Nat} {fa a:Addr} {fd:FuncData} {x:Str} {sp:Sp} {s₁:Shared} {vs:List Value} {ns:List Int}
  (KX:K.In s₁.heap) (hns:s₁.heap.Ns mainGlobals mg) (hb:s₁.heap.Ns builtinsNs mb) (hbb:∀ x:Str,x ≠ "__name__"->mb x = bootBuiltins x) (hlim:s₁.heap.NoLimit) (hg:s₁.gens = #[])
  (ha:s₁.heap.get? a = some { cls:=.type "list",data:=.seq vs.toArray }) (hi:IntsAre vs ns) (hl:ns.length<=sizeLine) (hr:yb k callerA)
  (F:∀ base:Heap,K.In base->base.Ns mainGlobals mg->zp P w K mg base CX k fa fd [x] sp) (hbind:∀ (s:Shared) (u:Value),BindsTo s fd ⟨[u],[]⟩ [(x,u)])
  (hsp:∀ H:Hp,ziq H->SqL K H a (ns.map V.int)->sp [.ref a] H (fun v _=>v = .bl true) fun _ _ _=>False)
  (hCX:∀ H e s',CX [] H s₁ (fun _ _ _=>False) e s'->False) :
  codeAny (model P w) callerA (.call (.ref fa) ⟨[.ref a],[]⟩) (fun r s'=>r = .ok (.ret (.bool true))/\OldK s₁.heap s'.heap/\s'.os = s₁.os/\AllBare s'.gens) s₁:=by
 have rv:=jy hi
 have lenV:=hi.length
 have core:∀ H:Hp,ziq H->SqL K H a (ns.map V.int)->HOk P w H s₁.heap->(∀ b,H b ≠ none->b = a)->(H a ≠ none->K.lookup a = none)->
   codeAny (model P w) callerA (.call (.ref fa) ⟨[.ref a],[]⟩) (fun r s'=>r = .ok (.ret (.bool true))/\OldK s₁.heap s'.heap/\s'.os = s₁.os/\AllBare s'.gens) s₁:=by
  intro H hO hS hok hA hK
  have base_of:∀ {b:Addr} {o:Obj},s₁.heap.get? b = some o->H b = none->(qC s₁.heap H).get? b = some o:=fun e n=>zeO e n
  have noA:∀ {b:Addr} {o:Obj} {es:Array DictEntry} {ep:Nat},s₁.heap.get? b = some o->o.data = .dict es ep->H b = none:=fun {b o es ep} e d=>by
   cases q:H b with
   | none=>rfl
   | some u=>
    have e':b = a:=hA b (by rw [q]; simp)
    subst e'
    rw [ha] at e; cases e
    have d':Data.seq vs.toArray _ = Data.dict es ep:=d
    cases d'
  have nsK:∀ {b:Addr} {m:Str->Option Value},s₁.heap.Ns b m->(qC s₁.heap H).Ns b m:=fun {b m} ⟨o,es,ep,e,d,r⟩=>⟨o,es,ep,base_of e (noA e d),d,r⟩
  have hKb:K.In (qC s₁.heap H):=fun b o e=>base_of (KX b o e) (by
   cases q:H b with
   | none=>rfl
   | some u=>
    have e':b = a:=hA b (by rw [q]; simp)
    subst e'
    rw [hK (by rw [q]; simp)] at e; cases e)
  have hM:Mod K mg (qC s₁.heap H):=⟨hKb,nsK hns,⟨mb,nsK hb,hbb⟩,let ⟨mc,h1,h2⟩:=hlim; ⟨mc,nsK h1,h2⟩⟩
  have e0:zbU P w K mg (qC s₁.heap H) callerA [] s₁ H:=⟨rfl,hM,fun b o e=>zgb e,Nat.le_of_eq (zc7 _ _),trivial,fun b hb=>absurd (show b ∈ ([]:List Addr) from hb) (by simp),hok,.of_eq hg⟩
  refine codeAny_mono ((F _ hKb (nsK hns)).run callerA [] s₁ H ⟨[.ref a],[]⟩ [.ref a] [.ref a] _ _ hr e0 (hbind s₁ (.ref a)) (.cons rfl .nil) (hsp H hO hS)) fun r s' h=>?_
  cases r with
  | error e=>exact (hCX H e s' h).elim
  | ok fl=>
   cases fl with
   | next=>exact False.elim h
   | brk=>exact False.elim h
   | cont=>exact False.elim h
   | ret u=>
    obtain ⟨v,H',os,bare,un,hok',r',q⟩:=h
    have q':v = .bl true:=q
    subst q'
    obtain rfl:u = Value.bool true:=r'
    refine ⟨rfl,OldK.of_keep fun b o e=>?_,os,bare⟩
    cases q:H b with
    | none=>exact un.keep b o e q (by intro z; exact absurd (show b ∈ ([]:List Addr) from z) (by simp)) (by simp)
    | some u=>
     rcases hO b with z | ⟨ob,xs,z⟩
     ·rw [q] at z; cases z
     ·have z2:=un.frzs b ob _ z
      obtain ⟨e1,_⟩:=hok b _ z
      obtain ⟨e2,_⟩:=hok' b _ z2
      rw [e] at e1; cases e1
      exact e2
 cases hk:K.lookup a with
 | some o=>
  have e:=KX a o hk
  rw [ha] at e
  cases e
  refine core (fun _=>none) (fun _=>.inl rfl) (.inr ⟨_,vs.toArray,_,hk,rfl,rfl,rfl,by rw [List.size_toArray,lenV]; exact hl,by simpa using rv⟩) (fun b u z=>by have z':(none:Option HO) = some u:=z; cases z') (fun b z=>absurd rfl z) fun z=>absurd rfl z
 | none=>
  refine core (fun b=>if b = a then some (.frz { cls:=.type "list",data:=.seq vs.toArray } (.lst (ns.map V.int))) else none) (fun b=>?_) (.inl (.inr ⟨{ cls:=.type "list",data:=.seq vs.toArray },if_pos rfl⟩)) (fun b u z=>?_) (fun b z=>?_) fun _=>hk
  ·by_cases hb:b = a
   ·exact .inr ⟨_,_,if_pos hb⟩
   ·exact .inl (if_neg hb)
  ·by_cases hb:b = a
   ·have z':=(if_pos hb).symm.trans z
    cases z'
    subst hb
    exact ⟨ha,by rw [List.length_map]; exact hl,vs,_,rv,ha⟩
   ·have z':=(if_neg hb).symm.trans z
    cases z'
  ·by_cases hb:b = a
   ·exact hb
   ·exact absurd (if_neg hb) z
def yg (s:Stmt) (j:Nat):Stmt:=match s with
 | .ClassDef _ _ _ body _ _ _ _ _ _ _=>body.getD j (.Pass ⟨0,0,0,0⟩)
 | _=>.Pass ⟨0,0,0,0⟩
def zX (s:Stmt):Arguments:=match s with
 | .FunctionDef _ a _ _ _ _ _ _ _ _=>a
 | _=>{ posonlyargs:=[],args:=[],vararg:=none,kwonlyargs:=[],kw_defaults:=[],kwarg:=none,defaults:=[] }
def zS (s:Stmt):List Stmt:=match s with
 | .FunctionDef _ _ b _ _ _ _ _ _ _=>b
 | _=>[]
def zg (s:Stmt):Scope:=match s with
 | .FunctionDef _ _ _ _ _ _ sc _ _ _=>sc
 | _=>{ kind:=.function,names:=[],isGenerator:=false,isCoroutine:=false }
abbrev CX0:CXT:=fun _ _ _ _ _ _=>False
abbrev E0:XK:=fun _ _ _=>False
theorem yc {X:Cx}:xj CX0 X E0:=fun _ _ _ _ _ _ _ h=>h.elim
structure Fun (K:Frag) (x qual:Str) (st:Stmt) (f:Addr) (fd:FuncData):Prop where
 ex:∃ (oc:Value) (od:Option Addr) (kV doc pm:Value) (an:Option Addr) (cdv ct:Value) (osl:Array (Option Value)),
  fd = fnOf x qual (zX st) (zS st) (zg st) .none kV doc pm an cdv ct/\K.lookup f = some ⟨oc,od,.func fd,osl⟩/\codeIn K cdv qual = true
 kp:keepIn K (.ref f) = true
section
variable {P:Program} {w:World} {K:Frag} {mg:Str->Option Value} {base:Heap}
theorem Fun.ok {x qual:Str} {st:Stmt} {f:Addr} {fd:FuncData} {N ps:List Str} {k:Nat} {sp:Sp} (F:Fun K x qual st f fd) (S:zm N ps (zg st)) (len:∀ vs H Q E,sp vs H Q E->vs.length = ps.length)
  (hbody:∀ (cdv:Value) (A:Around) (outer:List Env) (s:Shared) (H:Hp) (vs:List V) (Q:VK) (E:XK),yb k (A.deeper (envOfC qual (zg st) s.heap.objs.size f cdv))->sp vs H Q E->
   ∃ t,PSs (ju CX0 P w K mg base N qual (zg st) f cdv A outer s H E).nox (zS st) t/\t { nx:=fun _ H'=>Q .non H',rt:=Q } (wX N vs) H):zp P w K mg base CX0 (k + 1) f fd ps sp:=by
 obtain ⟨oc,od,kV,doc,pm,an,cdv,ct,osl,rfl,lk,hcd⟩:=F.ex
 refine zeV lk hcd S len fun A outer s H vs Q E hr hsp=>?_
 obtain ⟨t,h,q⟩:=hbody cdv A outer s H vs Q E hr hsp
 exact ⟨t,h.nox,q⟩
theorem Fun.binds {x qual:Str} {st:Stmt} {f:Addr} {fd:FuncData} {ps:List Str} (F:Fun K x qual st f fd)
  (h:∀ (kV doc pm:Value) (an:Option Addr) (cdv ct:Value) (us:List Value),us.length = ps.length->bindArgs (fnOf x qual (zX st) (zS st) (zg st) .none kV doc pm an cdv ct) ⟨us,[]⟩ = pure (ps.zip us)):zQ K fd ps []:=by
 obtain ⟨oc,od,kV,doc,pm,an,cdv,ct,osl,rfl,lk,hcd⟩:=F.ex
 exact .all (h kV doc pm an cdv ct)
theorem zeS {x qual:Str} {st:Stmt} {f:Addr} {oc:Value} {od an:Option Addr} {osl:Array (Option Value)} {kV doc pm cdv ct:Value} (l:K.lookup f = some ⟨oc,od,.func (fnOf x qual (zX st) (zS st) (zg st) .none kV doc pm an cdv ct),osl⟩)
  (c:codeIn K cdv qual = true) (k:keepIn K (.ref f) = true):Fun K x qual st f (fnOf x qual (zX st) (zS st) (zg st) .none kV doc pm an cdv ct):=⟨⟨oc,od,kV,doc,pm,an,cdv,ct,osl,rfl,l,c⟩,k⟩
end
theorem zaJ {A:Around} {k:Nat} (hr:yb k A):A.units + 1 < cLine:=Nat.lt_of_le_of_lt (Nat.add_le_add_left (by decide : 1<=64) _) hr.units
theorem zx {n:Nat} (h:n<=1000):n < sizeLine:=Nat.lt_of_le_of_lt h (by decide)
section
variable {X:Cx}
theorem pv (i:Nat) {x:Str} {pos:Pos} (hN:X.N[i]? = some x:=by rfl) (hv:Vis X.env.scope x:=by first | exact Or.inl rfl | exact Or.inr (Or.inl rfl) | exact Or.inr (Or.inr rfl)) (hd:(x == ("__debug__" : Str)) = false:=by decide)
  (hcd:(x == ("__classdict__" : Str)) = false:=by decide):PE X (.Name x pos) (ziw i):=zhL hN hv hd hcd
end
theorem y6 {A B:Prop} (h:B):if false = true then A else B:=by
 rw [if_neg Bool.false_ne_true]
 exact h
theorem wC {A B:Prop} (h:A):if true = true then A else B:=by
 rw [if_pos rfl]
 exact h
theorem vW {c A B:Prop} [Decidable c] (h1:c->A) (h2:¬ c->B):if c then A else B:=by
 by_cases h:c
 ·rw [if_pos h]
  exact h1 h
 ·rw [if_neg h]
  exact h2 h
def zl (H H':Hp):Prop:=∀ b o,H b = some o->H' b = some o
theorem zl.refl (H:Hp):zl H H:=fun _ _ h=>h
theorem zl.trans {H H1 H2:Hp} (a:zl H H1) (b:zl H1 H2):zl H H2:=fun c o h=>b c o (a c o h)
theorem zl.free {H H':Hp} (e:zl H H') {l:Addr} (h:H' l = Option.none):H l = Option.none:=by
 cases q:H l with
 | none=>rfl
 | some o=>
  rw [e l o q] at h
  cases h
theorem zl.seq {K:Frag} {H H':Hp} {a:Addr} {xs:List V} (e:zl H H') (h:SqL K H a xs):SqL K H' a xs:=by
 rcases h with (h | ⟨o,h⟩) | h
 ·exact .inl (.inl (e _ _ h))
 ·exact .inl (.inr ⟨o,e _ _ h⟩)
 ·exact .inr h
section
variable {X:Cx}
end
section
variable {κ : Type} [DecidableEq κ]
end
def clB (env:Env) (fr:List Str):List (Str × Addr):=fr.map fun n=>(n,(env.cells.lookup n).getD 0)
theorem zaQ {env:Env}:∀ {fr:List Str} {x:Str} {c:Addr},(clB env fr).lookup x = some c->x ∈ fr/\c = (env.cells.lookup x).getD 0
 | [],x,c,h=>by simp [clB] at h
 | n :: r,x,c,h=>by
  have h':List.lookup x ((n,(env.cells.lookup n).getD 0) :: clB env r) = some c:=h
  rw [List.lookup_cons] at h'
  cases e:x == n with
  | true=>
   rw [e] at h'
   have e':x = n:=by simpa using e
   subst e'
   exact ⟨List.mem_cons_self,(Option.some.inj h').symm⟩
  | false=>
   rw [e] at h'
   obtain ⟨h1,h2⟩:=zaQ h'
   exact ⟨List.mem_cons_of_mem _ h1,h2⟩
theorem qI {env:Env}:∀ {fr:List Str} {x:Str},x ∈ fr->(clB env fr).lookup x = some ((env.cells.lookup x).getD 0)
 | n :: r,x,h=>by
  show List.lookup x ((n,(env.cells.lookup n).getD 0) :: clB env r) = _
  rw [List.lookup_cons]
  cases e:x == n with
  | true=>
   have e':x = n:=by simpa using e
   subst e'
   rfl
  | false=>
   rcases List.mem_cons.mp h with z | z
   ·subst z; simp at e
   ·exact qI z
theorem wv {env:Env}:∀ {names:List (Str × NameKind)} {x:Str} {k:NameKind},
  (names.map fun (n,k)=>if (k == NameKind.free && env.scope.kind == .function && env.kindOf n == some .cell) then (n,NameKind.cell) else (n,k)).lookup x = some k->
  ∃ k0,(x,k0) ∈ names/\(k = k0\/(k0 = .free/\k = .cell))
 | [],_,_,h=>by simp at h
 | (n,k0) :: r,x,k,h=>by
  have h':List.lookup x ((if (k0 == NameKind.free && env.scope.kind == .function && env.kindOf n == some .cell) = true then (n,NameKind.cell) else (n,k0)) ::
   (r.map fun (n,k)=>if (k == NameKind.free && env.scope.kind == .function && env.kindOf n == some .cell) then (n,NameKind.cell) else (n,k))) = some k:=h
  by_cases hc:(k0 == NameKind.free && env.scope.kind == .function && env.kindOf n == some .cell) = true
  ·rw [if_pos hc,List.lookup_cons] at h'
   cases e:x == n with
   | true=>
    rw [e] at h'
    have e':x = n:=by simpa using e
    subst e'
    simp only [Bool.and_eq_true] at hc
    exact ⟨k0,List.mem_cons_self,.inr ⟨by simpa using hc.1.1,(Option.some.inj h').symm⟩⟩
   | false=>
    rw [e] at h'
    obtain ⟨k1,h1,h2⟩:=wv h'
    exact ⟨k1,List.mem_cons_of_mem _ h1,h2⟩
  ·rw [if_neg hc,List.lookup_cons] at h'
   cases e:x == n with
   | true=>
    rw [e] at h'
    have e':x = n:=by simpa using e
    subst e'
    exact ⟨k0,List.mem_cons_self,.inl (Option.some.inj h').symm⟩
   | false=>
    rw [e] at h'
    obtain ⟨k1,h1,h2⟩:=wv h'
    exact ⟨k1,List.mem_cons_of_mem _ h1,h2⟩
theorem x6 {env:Env} (hk:env.scope.kind = .function):∀ {names:List (Str × NameKind)} {x:Str},names.lookup x = some .free->env.kindOf x = some .cell->
  (names.map fun (n,k)=>if (k == NameKind.free && env.scope.kind == .function && env.kindOf n == some .cell) then (n,NameKind.cell) else (n,k)).lookup x = some .cell
 | [],_,h,_=>by simp at h
 | (n,k0) :: r,x,h,hx=>by
  show List.lookup x ((if (k0 == NameKind.free && env.scope.kind == .function && env.kindOf n == some .cell) = true then (n,NameKind.cell) else (n,k0)) ::
   (r.map fun (n,k)=>if (k == NameKind.free && env.scope.kind == .function && env.kindOf n == some .cell) then (n,NameKind.cell) else (n,k))) = some .cell
  rw [List.lookup_cons] at h
  cases e:x == n with
  | true=>
   rw [e] at h
   have e':x = n:=by simpa using e
   subst e'
   have h0:k0 = .free:=Option.some.inj h
   subst h0
   rw [if_pos (by rw [hk,hx]; decide),List.lookup_cons]
   simp
  | false=>
   rw [e] at h
   have ih:=x6 hk h hx
   split
   ·rw [List.lookup_cons,e]; exact ih
   ·rw [List.lookup_cons,e]; exact ih
abbrev zK (X:Cx) (pins:List (Addr × Obj)) (sc:Scope) (fr Nc:List Str) (fp:List Addr) (s:Shared) (H:Hp) (C:Addr):Cx:=
 { prog:=X.prog,w:=X.w,K:=X.K,mg:=X.mg,base:=X.base,A:=X.A,N:=Nc,s₀:=s,H₀:=H,env:=compEnvC sc (clB X.env fr) C X.env,outer:=X.stack,stack:=X.stack,ex:=fp,fn:=fun _=>false,calm:=X.calm,pn:=X.pn ++ pins,xe:=fun _ _=>False }
structure yF (env:Env) (sc:Scope) (fr:List Str):Prop where
 kind:sc.kind = .function
 clos:closureFor sc env = pure (clB env fr)
 cells:(fr.all fun n=>(env.cells.lookup n).isSome) = true
 names:(sc.names.all fun y=>(y.2 != .cell) && (y.2 != .free || fr.contains y.1) && (y.2 != .local || sc.names.lookup y.1 == some .local)) = true
def vh (N Nc:List Str) (caps:List (Option Nat)) (env:Env) (sc:Scope) (fr:List Str):Bool:=
 (Nc.zip caps).all fun p=>match p.2 with
  | none=>true
  | some j=>(N[j]? == some p.1) && (env.kindOf p.1 == some .cell) && (sc.names.lookup p.1 == some .free) && fr.contains p.1
def yS (caps:List (Option Nat)) (σ : St):St:=caps.map fun o=>match o with
 | none=>none
 | some j=>(σ[j]?).join
section
variable {X:Cx} {pins:List (Addr × Obj)} {σ : St} {H:Hp} {s:Shared} {sc:Scope} {fr Nc:List Str} {fp:List Addr} {C:Addr}
theorem yF.sub {env:Env} (B:yF env sc fr) {x:Str} {c:Addr} (h:(clB env fr).lookup x = some c):env.cells.lookup x = some c:=by
 obtain ⟨h1,h2⟩:=zaQ h
 have h3:=List.all_eq_true.mp B.cells x h1
 obtain ⟨d,hd⟩:=Option.isSome_iff_exists.mp h3
 rw [hd] at h2 |-
 rw [h2]; rfl
theorem yF.free {env:Env} (B:yF env sc fr) {x:Str} {k:NameKind} (h:(relabel sc env).names.lookup x = some k) (hk:k = .cell\/k = .free):x ∈ fr:=by
 obtain ⟨k0,h1,h2⟩:=wv h
 have h3:=List.all_eq_true.mp B.names _ h1
 simp only [Bool.and_eq_true,Bool.or_eq_true,bne_iff_ne,ne_eq,List.contains_iff_mem] at h3
 have h4:k0 = .free:=by
  rcases h2 with h2 | ⟨h2,_⟩
  ·subst h2
   rcases hk with z | z
   ·exact absurd z h3.1.1
   ·exact z
  ·exact h2
 rcases h3.1.2 with z | z
 ·exact absurd h4 z
 ·exact z
theorem zcC (I:Inv X pins σ H s) (B:yF X.env sc fr) (hf:∀ b ∈ fp,wH X pins H b) (ho:∀ b ∈ fp,∃ o,s.heap.get? b = some o) (hC:s.heap.objs.size<=C):(zK X pins sc fr Nc fp s H C).Ok where
 mod:=I.ok.mod
 kind:=B.kind
 glob:=I.ok.glob
 blt:=I.ok.blt
 above:=hC
 inj:=fun x y c h1 h2=>I.ok.inj x y c (B.sub h1) (B.sub h2)
 has:=fun x h=>by
  have hx:x ∈ fr:=by
   rcases h with h | h
   ·exact B.free h (.inl rfl)
   ·exact B.free h (.inr rfl)
  exact ⟨_,qI hx⟩
 cab:=fun x c h=>absurd h (by simp)
 hd:=I.ok.hd
 frames:=I.ok.frames
 stk:=.inl rfl
 exf:=fun b hb=>by
  obtain ⟨o,e⟩:=ho b hb
  refine ⟨fun z=>?_,fun x c h=>(hf b hb).2.2.2.2.1 x c (B.sub h)⟩
  have z':b = C:=z
  have:=Heap.lt_size e
  rw [z'] at this
  exact absurd (Nat.lt_of_lt_of_le this hC) (Nat.lt_irrefl _)
 bs:=I.bs
 bsz:=Nat.le_trans I.ok.bsz I.sz
 noex:=fun b o e hb=>by
  rcases (hf b hb).2.2.2.1 with z | z
  ·exact I.ok.noex b o e z
  ·exact absurd (Nat.lt_of_lt_of_le (Heap.lt_size (I.ok.bs b o e).1) z) (Nat.lt_irrefl _)
 exfs:=fun b hb h=>by
  rcases List.mem_cons.mp (I.stkSub b h) with z | z
  ·exact (hf b hb).2.1 z
  ·exact (hf b hb).2.2.1 z
 funs:=I.stack
 frf:=I.stkFree
theorem Inv.pin_lt (I:Inv X pins σ H s) {p:Addr × Obj} (hp:p ∈ X.pn ++ pins):p.1 < s.heap.objs.size:=Heap.lt_size (I.pin p hp).1
theorem zbP {caps:List (Option Nat)} {h':Heap} {D:Addr} {m:Str->Option Value} {t' n0:Nat} (I:Inv X pins σ H s) (B:yF X.env sc fr) (hf:∀ b ∈ fp,wH X pins H b) (ho:∀ b ∈ fp,∃ o,s.heap.get? b = some o)
  (hC:s.heap.objs.size<=C) (hD:s.heap.objs.size<=D) (hDC:D ≠ C) (keep:∀ b o,s.heap.get? b = some o->h'.get? b = some o) (hl:h'.get? D = some { cls:=.type "list",data:=.seq ([]:List Value).toArray n0 }) (hn:h'.Ns C m)
  (hcap:vh X.N Nc caps X.env sc fr = true) (hlen:caps.length = Nc.length) :
  Inv (zK X pins sc fr Nc fp s H C) [] (yS caps σ) (upd H D (.lst [])) { s with heap:=h',toks:=t' }:=by
 have hk:X.env.scope.kind = .function:=I.ok.kind
 have fresh:∀ a,s.heap.objs.size<=a->H a = none:=fun a ha=>I.hok.fresh ha
 refine ⟨zcC I B hf ho hC,rfl,I.bare,Un.laid keep hD (fresh D hD),⟨m,hn,fun i x v e1 e2 e3=>?_⟩,fun x c h=>?_,?_,fun x c h=>?_,fun p hp=>?_,?_,?_⟩
 ·
  have e2':(caps[i]?).map (fun o=>match o with | none=>none | some j=>(σ[j]?).join) = some (some v):=by
   have:(yS caps σ)[i]? = some (some v):=e2
   unfold yS at this
   rw [List.getElem?_map] at this
   exact this
  cases hc:caps[i]? with
  | none=>rw [hc] at e2'; cases e2'
  | some o=>
   rw [hc] at e2'
   cases o with
   | none=>simp at e2'
   | some j=>
    have e4:(σ[j]?).join = some v:=by simpa using e2'
    have e5 : σ[j]? = some (some v):=by
     cases q : σ[j]? with
     | none=>rw [q] at e4; cases e4
     | some w'=>rw [q] at e4; simp at e4; rw [e4]
    have e6:(Nc.zip caps)[i]? = some (x,some j):=by
     rw [List.getElem?_zip_eq_some]
     exact ⟨e1,hc⟩
    have e7:=List.all_eq_true.mp hcap _ (List.mem_of_getElem? e6)
    simp only [Bool.and_eq_true,beq_iff_eq,List.contains_iff_mem] at e7
    obtain ⟨⟨⟨a1,a2⟩,a3⟩,a4⟩:=e7
    obtain ⟨m0,hn0,hl0⟩:=I.loc
    obtain ⟨u,r,l⟩:=hl0 j x v a1 e5 (.inr (.inl a2))
    refine ⟨u,r,.inr ⟨.inl (x6 hk a3 a2),_,qI a4,?_⟩⟩
    rcases l with ⟨z,_⟩ | ⟨_,c,ec,hcell⟩
    ·rw [a2] at z; cases z
    ·have:(X.env.cells.lookup x).getD 0 = c:=by rw [ec]; rfl
     rw [this]
     exact hcell.keeps keep
 ·obtain ⟨v,hv⟩:=I.cell x c (B.sub h)
  exact ⟨v,hv.keeps keep⟩
 ·show upd H D (.lst []) C = none
  rw [zf (Ne.symm hDC)]; exact fresh C hC
 ·obtain ⟨v,hv⟩:=I.cell x c (B.sub h)
  have:c ≠ D:=fun z=>by have:=hv.lt; rw [z] at this; exact absurd (Nat.lt_of_lt_of_le this hD) (Nat.lt_irrefl _)
  rw [zf this]; exact I.freeC x c (B.sub h)
 ·have hp':p ∈ X.pn ++ pins:=by simpa using hp
  obtain ⟨e,n,ne,nf,d⟩:=I.pin p hp'
  have hlt:=I.pin_lt hp'
  refine ⟨keep _ _ e,?_,?_,fun z=>?_,d⟩
  ·rw [zf (fun z=>by rw [z] at hlt; exact absurd (Nat.lt_of_lt_of_le hlt hD) (Nat.lt_irrefl _))]; exact n
  ·intro z
   have z':p.1 = C:=z
   rw [z'] at hlt; exact absurd (Nat.lt_of_lt_of_le hlt hC) (Nat.lt_irrefl _)
  ·rcases List.mem_cons.mp (I.stkSub p.1 z) with q | q
   ·exact ne q
   ·exact nf q
 ·exact I.hok.laid keep hD ⟨Nat.zero_le _,[],n0,.nil,hl⟩
 ·show (yS caps σ).length = Nc.length
  unfold yS
  rw [List.length_map,hlen]
theorem vY {pl:List (Addr × Obj)} {σ':St} {H':Hp} {s':Shared} (I:Inv X pins σ H s) (hf:∀ b ∈ fp,wH X pins H b) (J:Inv (zK X pins sc fr Nc fp s H C) pl σ' H' s'):Inv X pins σ H' s':=
 I.call' J.os J.base J.hok J.bare fun b hb=>⟨(hf b hb).2.2.2.1,(hf b hb).2.1,(hf b hb).2.2.2.2.1,(hf b hb).2.2.2.2.2⟩
theorem j3 {pl:List (Addr × Obj)} {σ' σ2:St} {H':Hp} {s':Shared} {h2:Heap} {t2:Nat} (I:Inv X pins σ H s) (J:Inv (zK X pins sc fr Nc fp s H C) pl σ' H' s') (J2:Inv X pins σ2 H' s') (hs:Heap.SameBut C s'.heap h2):Inv X pins σ2 H' { s' with heap:=h2,toks:=t2 }:=by
 have hC:s.heap.objs.size<=C:=J.ok.above
 refine J2.turned (it:=C) (fun b o hb e=>(hs.2 b hb).trans e) J.free ?_ (.inr (Nat.le_trans I.sz hC)) (fun x c h z=>?_) fun p hp z=>?_
 ·intro z
  have:=I.lt
  rw [<- z] at this
  exact absurd (Nat.lt_of_lt_of_le this hC) (Nat.lt_irrefl _)
 ·obtain ⟨v,hv⟩:=I.cell x c h
  have:=hv.lt
  rw [z] at this
  exact absurd (Nat.lt_of_lt_of_le this hC) (Nat.lt_irrefl _)
 ·have:=I.pin_lt hp
  rw [z] at this
  exact absurd (Nat.lt_of_lt_of_le this hC) (Nat.lt_irrefl _)
end
def ziy:TT:=fun _ H Q=>Q true H
structure PIf (X:Cx) (ifs:List Expr) (t:TT):Prop where
 run:∀ (pins:List (Addr × Obj)) (s:Shared) (σ : St) (H:Hp) (Q:Bool->Hp->Prop),Inv X pins σ H s->t σ H Q->
  wpAny (model X.prog X.w) X.A (forIn ifs true fun c r=>if r = true then do let ok <- isTrue c X.env (eval c X.env); pure (ForInStep.yield ok) else pure (ForInStep.yield r)) (TP X pins σ Q) X.xe s
instance {X:Cx} {ifs:List Expr} {t:TT}:CoeFun (PIf X ifs t) (fun _=>∀ (pins:List (Addr × Obj)) (s:Shared) (σ : St) (H:Hp) (Q:Bool->Hp->Prop),Inv X pins σ H s->t σ H Q->
  wpAny (model X.prog X.w) X.A (forIn ifs true fun c r=>if r = true then do let ok <- isTrue c X.env (eval c X.env); pure (ForInStep.yield ok) else pure (ForInStep.yield r)) (TP X pins σ Q) X.xe s):=⟨PIf.run⟩
theorem yI {X:Cx}:PIf X [] ziy:=⟨fun _ _ _ H _ I h=>wpAny_tests_nil ⟨H,I,h⟩⟩
theorem wN {X:Cx} {c:Expr} {t:TT} (hc:PT X c t):PIf X [c] t:=⟨fun pins s σ H Q I h=>wpAny_tests_one (hc pins s σ H Q I h)⟩
def zbS (g:TG) (ow:List Nat):Prop:=
 ∀ (v:V) (σ : St) (H:Hp) (Q:St->Hp->Prop),g v σ H Q->g v σ H fun σ2 H2=>Q σ2 H2/\σ2.length = σ.length/\∀ i,i ∉ ow->σ2[i]? = σ[i]?
theorem z9 (i:Nat):zbS (zO i) [i]:=fun v σ H Q h=>⟨h,List.length_set ..,fun j hj=>List.getElem?_set_ne (fun e=>hj (by simp [e]))⟩
theorem wQ {K:Frag} {n:Nat} (i j:Nat):zbS (zjd K n (zeR (zO i) (zeR (zO j) zje))) [i,j]:=by
 rintro v σ H Q ⟨a,xs,e1,e2,e3,v1,r1,e4,v2,r2,e5,e6,q⟩
 refine ⟨a,xs,e1,e2,e3,v1,r1,e4,v2,r2,e5,e6,q,by rw [List.length_set,List.length_set],fun k hk=>?_⟩
 have h1:i ≠ k:=fun e=>hk (by simp [e])
 have h2:j ≠ k:=fun e=>hk (by simp [e])
 rw [List.getElem?_set_ne h2,List.getElem?_set_ne h1]
section
variable {prog:Program} {w:World} {A:Around} {R:Result->Shared->Prop} {s:Shared}
theorem qH {elt target iter:Expr} {ifs:List Expr} {scope:Scope} {pos:Pos} {it acc:Value} {env:Env} (I:Nat->Shared->Prop)
  (turn:∀ n s,I n s->wpAny (model prog w) A (pyNext it) (fun r s₁=>match r with
   | none=>R (.ok .next) s₁
   | some v=>wpAny (model prog w) A (letOwnedTupleGo target it v) (fun _ s₀=>wpAny (model prog w) A (assign target env v) (fun _ s₂=>
     wpAny (model prog w) A (forIn ifs true fun c r=>if r = true then do let ok <- isTrue c env (eval c env); pure (ForInStep.yield ok) else pure (ForInStep.yield r)) (fun ok s₃=>
      if ok = true then wpAny (model prog w) A (eval elt env) (fun x s₄=>
       wpAny (model prog w) A (call (.builtin "list.append") [acc,x]) (fun _ s₅=>∃ m,m < n/\I m s₅) (fun _ _=>False) s₄) (fun _ _=>False) s₃
      else ∃ m,m < n/\I m s₃) (fun _ _=>False) s₂) (fun _ _=>False) s₀) (fun _ _=>False) s₁) (fun _ _=>False) s)
  (n:Nat) (h:I n s) :
  codeAny (model prog w) A (.compLoop (.ListComp elt [⟨target,iter,ifs,0⟩] scope pos) 0 it acc env) R s:=by
 refine codeAny_loop rfl I (fun n s hI=>?_) n h
 show wpAny _ A ((compTurn (.ListComp elt [⟨target,iter,ifs,0⟩] scope pos) 0 it acc env).onRaise (fun x=>do noteFrame x env; theTreesLotGoes x)) _ _ s
 refine wpAny_noted ?_
 rw [compTurn_list]
 refine wpAny_bind (wpAny_standAt (wpAny_bind (wpAny_mono (turn n s hI) (fun r s₁ h₁=>?_) fun _ _ z=>z.elim)))
 cases r with
 | none=>exact wpAny_pure h₁
 | some v=>
  refine wpAny_bind (wpAny_mono h₁ (fun _ s₀ h₀=>?_) fun _ _ z=>z.elim)
  refine wpAny_bind (wpAny_mono h₀ (fun _ s₂ h₂=>wpAny_bind (wpAny_mono h₂ (fun ok s₃ h₃=>?_) fun _ _ z=>z.elim)) fun _ _ z=>z.elim)
  cases ok with
  | false=>exact wpAny_pure ⟨rfl,h₃⟩
  | true=>
   exact wpAny_bind (wpAny_bind (wpAny_mono h₃ (fun x s₄ h₄=>wpAny_bind (wpAny_mono h₄ (fun _ s₅ h₅=>wpAny_pure (wpAny_pure ⟨rfl,h₅⟩)) fun _ _ z=>z.elim)) fun _ _ z=>z.elim))
end
def LCr (J:It) (caps:List (Option Nat)) (g:TG) (tt:TT) (te:TE) (σ : St) (H1:Hp) (Q:VK) (D:Addr):Prop:=
 ∃ W:Nat->Nat->List V->Hp->Prop,(∃ m,W 0 m [] (upd H1 D (.lst [])))/\∀ i m ys H,W i m ys H->
  (J.stop i H/\Q (.ref D) H)\/
  (J.go i H/\∀ x H',J.yld i H x H'->g x (yS caps σ) H' fun σ2 H2=>tt σ2 H2 fun ok H3=>
   (ok = true->te σ2 H3 fun v H4=>H4 D = some (.lst ys)/\ys.length < sizeLine/\∃ m',m' < m/\W (i + 1) m' (ys ++ [v]) (upd H4 D (.lst (ys ++ [v]))))/\
   (ok = false->∃ m',m' < m/\W (i + 1) m' ys H3))
def tLC (wi:TI) (caps:List (Option Nat)) (g:TG) (tt:TT) (te:TE):TE:=fun σ H Q=>wi σ H fun J H1=>∀ D,H1 D = none->LCr J caps g tt te σ H1 Q D
section
variable {X:Cx} {pins:List (Addr × Obj)} {σ : St} {s:Shared} {sc:Scope} {fr Nc:List Str} {caps:List (Option Nat)} {elt tg iter:Expr} {ifs:List Expr} {g:TG} {tt:TT} {te:TE} {ow:List Nat} {pos pos2:Pos} {E:Value->Shared->Prop}
theorem zaP {H2:Hp} {it:Addr} {fp:List Addr} {tn:Nat->Heap->Prop} {J:It} {Q:VK} {RR:Value->Addr->Result->Shared->Prop}
  (hc:X.calm = true) (B:yF X.env sc fr) (go:zbS g ow) (how:(ow.all fun i=>caps[i]? == some none) = true) (hcap:vh X.N Nc caps X.env sc fr = true) (hlen:caps.length = Nc.length)
  (hb:∀ (pins:List (Addr × Obj)) (fp:List Addr) (s:Shared) (H:Hp) (C:Addr),PG (zK X pins sc fr Nc fp s H C) tg g/\PIf (zK X pins sc fr Nc fp s H C) ifs tt/\PE (zK X pins sc fr Nc fp s H C) elt te)
  (I2:Inv X pins σ H2 s) (T:qM X.prog X.w X.K tg J fp it tn) (st2:tn 0 s.heap) (f2:∀ b ∈ fp,wH X pins H2 b) (h:∀ D,H2 D = none->LCr J caps g tt te σ H2 Q D)
  (fin:∀ (D C:Addr) (σ':St) (H':Hp) (s':Shared),Inv (zK X pins sc fr Nc fp s H2 C) [] σ' H' s'->Q (.ref D) H'->RR (.ref D) C (.ok .next) s') :
  wpAny (model X.prog X.w) X.A (newList []) (fun acc s₃=>wpAny (model X.prog X.w) X.A (newFunctionEnv sc X.env.globals (clB X.env fr) [] X.env.qual none .none (some X.env)) (fun cenv s₄=>
   codeAny (model X.prog X.w) X.A (.compStart (.ListComp elt [⟨tg,iter,ifs,0⟩] sc pos) 0 (.ref it) acc { cenv with scope:=relabel sc X.env }) (RR acc cenv.locals) s₄) E s₃) E s:=by
 have hcell:∀ y ∈ sc.names,y.2 ≠ .cell:=fun y hy=>by
  have h3:=List.all_eq_true.mp B.names _ hy
  simp only [Bool.and_eq_true,bne_iff_ne,ne_eq] at h3
  exact h3.1.1
 refine wpAny_newObj_type (wpAny_newFunctionEnv hcell (by intro y hy; simp at hy) (fun h₁ hns₁ hsb₁=>?_) B.kind)
 dsimp only at hns₁ hsb₁ |-
 generalize hH2:s.heap.push { cls:=.type "list",dict:=none,data:=.seq ([]:List Value).toArray } = H3 at hns₁ hsb₁ |-
 have hCs:H3.objs.size = s.heap.objs.size + 1:=by rw [<- hH2,Heap.size_push]
 have hDC:s.heap.objs.size ≠ H3.objs.size:=by rw [hCs]; exact Nat.ne_of_lt (Nat.lt_succ_self _)
 have hC:s.heap.objs.size<=H3.objs.size:=by rw [hCs]; exact Nat.le_succ _
 have old:∀ b o,s.heap.get? b = some o->h₁.get? b = some o:=fun b o e=>
  hsb₁.extBut b o (Nat.ne_of_lt (Nat.lt_of_lt_of_le (Heap.lt_size e) hC)) (Heap.get?_push_of_some _ (hH2 ▸ Heap.get?_push_of_some _ e))
 have hD:h₁.get? s.heap.objs.size = some { cls:=.type "list",data:=.seq ([]:List Value).toArray }:=hsb₁.extBut _ _ hDC (Heap.get?_push_of_some _ (hH2 ▸ Heap.get?_push_size _ rfl))
 have ho:∀ b ∈ fp,∃ o,s.heap.get? b = some o:=fun b hb'=>let ⟨o,e,_⟩:=T.obj 0 _ st2 b hb'; ⟨o,e⟩
 have I4:∀ t',Inv (zK X pins sc fr Nc fp s H2 H3.objs.size) [] (yS caps σ) (upd H2 s.heap.objs.size (.lst [])) { s with heap:=h₁,toks:=t' }:=fun t'=>
  zbP I2 B f2 ho hC (Nat.le_refl _) hDC old hD hns₁ hcap hlen
 have ok:=(I4 0).ok
 obtain ⟨hbg,hbt,hbe⟩:=hb pins fp s H2 H3.objs.size
 obtain ⟨W,⟨m0,w0⟩,turn⟩:=h s.heap.objs.size (I2.hok.fresh (Nat.le_refl _))
 have stat:∀ {H':Hp},(∀ b ∈ fp,H' b = none)->∀ b ∈ fp,wH (zK X pins sc fr Nc fp s H2 H3.objs.size) [] H' b:=fun hn b hb'=>
  ⟨hn b hb',(ok.exf b hb').1,ok.exfs b hb',.inl hb',(ok.exf b hb').2,fun p hp=>(f2 b hb').2.2.2.2.2 p (by simpa using hp)⟩
 have hfp0:∀ b ∈ fp,upd H2 s.heap.objs.size (.lst []) b = none:=fun b hb'=>by
  obtain ⟨o,e⟩:=ho b hb'
  rw [zf (Nat.ne_of_lt (Heap.lt_size e))]
  exact (f2 b hb').1
 have loop:∀ s₃:Shared,s₃ = { s with heap:=h₁,toks:=s.toks + ([]:List (Str × Value)).length }->
   codeAny (model X.prog X.w) X.A (.compLoop (.ListComp elt [⟨tg,iter,ifs,0⟩] sc pos) 0 (.ref it) (.ref s.heap.objs.size) (compEnvC sc (clB X.env fr) H3.objs.size X.env)) (RR (.ref s.heap.objs.size) H3.objs.size) s₃:=by
  rintro s₃ rfl
  refine qH (fun n s'=>∃ i σ' H' ys,Inv (zK X pins sc fr Nc fp s H2 H3.objs.size) [] σ' H' s'/\tn i s'.heap/\(∀ b ∈ fp,H' b = none)/\W i n ys H'/\
   (∀ (k:Nat) (v:V),(yS caps σ)[k]? = some (some v)->σ'[k]? = some (some v))) ?_ m0
   ⟨0,_,_,[],I4 _,T.keep _ _ _ st2 (fun b _ o e=>old b o e),hfp0,w0,fun _ _ e=>e⟩
  rintro n s3 ⟨i,σ3,H4,ys,I3,st3,fr3,w3,wk3⟩
  have I3':Inv (zK X pins sc fr Nc fp s H2 H3.objs.size) [] (yS caps σ) H4 s3:=I3.weak (by rw [I3.len]; exact (I4 0).len) wk3
  rcases turn i n ys H4 w3 with ⟨stop,qn⟩ | ⟨gg,step⟩
  ·refine thn (T.done (zK X pins sc fr Nc fp s H2 H3.objs.size) rfl rfl rfl hc i [] s3 _ H4 (fun _ _=>False) I3' (stat fr3) st3 stop) fun r s4 ⟨hr,I4'⟩=>?_
   subst hr
   exact fin _ _ _ _ _ I4' qn
  ·refine thn (T.item (zK X pins sc fr Nc fp s H2 H3.objs.size) rfl rfl rfl hc i [] s3 _ H4 (fun _ _=>False) I3' (stat fr3) st3 gg) fun r s4 ⟨u,hr,h4⟩=>?_
   subst hr
   refine thn h4 fun _ s5 ⟨x,H5,I5,r5,y5,st5,fr5⟩=>?_
   have I5':=I5.pinned (stat fr5) (T.obj _ _ st5)
   refine thn (hbg _ s5 _ H5 x u _ I5' r5 (go _ _ _ _ (step x H5 y5))) fun _ s6 ⟨σ6,H6,I6,q6,l6,k6⟩=>?_
   have wk6:∀ (k:Nat) (v:V),(yS caps σ)[k]? = some (some v)->σ6[k]? = some (some v):=fun k v e=>by
    rw [k6 k fun hk=>?_]
    ·exact e
    ·have h1:=List.all_eq_true.mp how k hk
     have h2:caps[k]? = some none:=by simpa using h1
     unfold yS at e
     rw [List.getElem?_map,h2] at e
     cases e
   refine thn (hbt _ s6 σ6 H6 _ I6 q6) fun ok s7 ⟨H7,I7,q7⟩=>?_
   have again:∀ {H8:Hp} {s8:Shared} {ys':List V},Inv (zK X pins sc fr Nc fp s H2 H3.objs.size) ([] ++ vO fp s5.heap) σ6 H8 s8->(∃ m',m' < n/\W (i + 1) m' ys' H8)->
     ∃ m,m < n/\∃ i σ' H' ys,Inv (zK X pins sc fr Nc fp s H2 H3.objs.size) [] σ' H' s8/\tn i s8.heap/\(∀ b ∈ fp,H' b = none)/\W i m ys H'/\(∀ (k:Nat) (v:V),(yS caps σ)[k]? = some (some v)->σ'[k]? = some (some v)):=fun {H8 s8 ys'} I8 ⟨m',hm,w8⟩=>by
    refine ⟨m',hm,i + 1,σ6,H8,ys',I8.unpinned,T.keep _ _ _ st5 fun b hb' o e=>(I8.pin (b,o) (List.mem_append_right _ (List.mem_append_right _ (y0 hb' e)))).1,fun b hb'=>?_,w8,wk6⟩
    obtain ⟨o,e,d⟩:=T.obj _ _ st5 b hb'
    exact (I8.pin (b,o) (List.mem_append_right _ (List.mem_append_right _ (y0 hb' e)))).2.1
   cases ok with
   | false=>
    rw [if_neg Bool.false_ne_true]
    exact again I7 (q7.2 rfl)
   | true=>
    rw [if_pos rfl]
    refine thn (hbe _ s7 σ6 H7 _ I7 (q7.1 rfl)) fun uv s8 ⟨v,H8,I8,r8,hD8,hz,q8⟩=>?_
    refine thn (zG (X:=zK X pins sc fr Nc fp s H2 H3.objs.size) _ s8 σ6 H8 (.ref s.heap.objs.size) [v] _ [uv] (fun _ H'=>H' = upd H8 s.heap.objs.size (.lst (ys ++ [v]))) I8 rfl (.cons r8 .nil) ⟨_,ys,v,rfl,rfl,hD8,hz,rfl⟩) fun _ s9 ⟨_,H9,I9,_,e9⟩=>?_
    subst e9
    exact again I9 q8
 exact codeAny_compStart_list (loop _ rfl) (T.self _ 0 _ _ _ (T.keep _ _ _ st2 (fun b _ o e=>old b o e)) (loop _ rfl))
theorem yF.loc {env:Env} (B:yF env sc fr):∀ x ∈ sc.names,x.2 = .local->sc.names.lookup x.1 = some .local:=fun y hy e=>by
 have h3:=List.all_eq_true.mp B.names _ hy
 simp only [Bool.and_eq_true,Bool.or_eq_true,bne_iff_ne,ne_eq,beq_iff_eq] at h3
 rcases h3.2 with z | z
 ·exact absurd e z
 ·exact z
theorem xL {wi:TI} (fr Nc:List Str) (caps:List (Option Nat)) (hc:X.calm = true) (B:yF X.env sc fr) (hi:PI X tg iter wi) (go:zbS g ow) (how:(ow.all fun i=>caps[i]? == some none) = true)
  (hcap:vh X.N Nc caps X.env sc fr = true) (hlen:caps.length = Nc.length)
  (hb:∀ (pins:List (Addr × Obj)) (fp:List Addr) (s:Shared) (H:Hp) (C:Addr),PG (zK X pins sc fr Nc fp s H C) tg g/\PIf (zK X pins sc fr Nc fp s H C) ifs tt/\PE (zK X pins sc fr Nc fp s H C) elt te)
  (hs:∀ x,foldedSetIterable iter X.env x = pure x:=by intro _; rfl):PE X (.ListComp elt [⟨tg,iter,ifs,0⟩] sc pos) (tLC wi caps g tt te):=by
 refine ⟨?_⟩
 intro pins s σ H Q I h
 rw [eval_ListComp]
 refine wpAny_comprehension_free (use:=none) rfl hs B.clos B.kind B.loc (thn (hi pins s σ H _ I h) fun v s1 h1=>thn h1 fun itv s2 h2=>?_)
 obtain ⟨it,fp,tn,J,H2,e,I2,T,st2,f2,q⟩:=h2
 subst e
 refine zaP (RR:=fun acc C=>compPost (model X.prog X.w) X.A X.xe none (EP X pins σ Q) acc C) hc B go how hcap hlen hb I2 T st2 f2 q ?_
 intro D C σ' H' s' J' qq
 obtain ⟨m,hn,_⟩:=J'.loc
 exact ⟨m,hn,fun h' hs'=>⟨.ref D,H',j3 I2 J' (vY I2 f2 J') hs',rfl,qq⟩⟩
theorem zch {wi:TI} {i:Nat} {x:Str} {pos':Pos} (fr Nc:List Str) (caps:List (Option Nat)) (hN:X.N.Nodup) (hix:X.N[i]? = some x) (hx:Loc X.env.scope x) (hc:X.calm = true) (B:yF X.env sc fr) (hi:PI X tg iter wi) (go:zbS g ow) (how:(ow.all fun i=>caps[i]? == some none) = true)
  (hcap:vh X.N Nc caps X.env sc fr = true) (hlen:caps.length = Nc.length)
  (hb:∀ (pins:List (Addr × Obj)) (fp:List Addr) (s:Shared) (H:Hp) (C:Addr),PG (zK X pins sc fr Nc fp s H C) tg g/\PIf (zK X pins sc fr Nc fp s H C) ifs tt/\PE (zK X pins sc fr Nc fp s H C) elt te)
  (hsw:swapsWith (.ListComp elt [⟨tg,iter,ifs,0⟩] sc pos) (some (.Name x pos')) pos2.line X.env = pure true:=by rfl)
  (hs:∀ x,foldedSetIterable iter X.env x = pure x:=by intro _; rfl) (hf:X.fn x = true\/X.env.scope.names.lookup x = some .local:=by first | exact .inl rfl | exact .inr rfl | assumption) :
  PS X (.Assign [.Name x pos'] (.ListComp elt [⟨tg,iter,ifs,0⟩] sc pos) pos2) (zfo (tLC wi caps g tt te) (zO i)):=by
 refine ⟨?_⟩
 intro pins s σ H D0 I h
 rw [exec_Assign_Name_used _ _ _ _ hsw]
 refine wpAny_bind (wpAny_standAt (wpAny_bind ?_))
 show wpAny _ X.A (do let _ <- comprehension (.ListComp elt [⟨tg,iter,ifs,0⟩] sc pos) sc X.env _ (newList []) false (eval iter X.env) (some (assign (.Name x pos') X.env))) _ _ s
 refine wpAny_bind (wpAny_mono (wpAny_comprehension_free (use:=some (assign (.Name x pos') X.env)) (Q:=fun _ s'=>SP X pins D0 .next s') rfl hs B.clos B.kind B.loc
  (thn (hi pins s σ H _ I h) fun v s1 h1=>thn h1 fun itv s2 h2=>?_)) (fun _ s' hq=>wpAny_pure (wpAny_pure hq)) fun _ _ e=>e)
 obtain ⟨it,fp,tn,J,H2,e,I2,T,st2,f2,q⟩:=h2
 subst e
 refine zaP (Q:=fun v H1=>zO i v σ H1 D0.nx) (RR:=fun acc C=>compPost (model X.prog X.w) X.A X.xe (some (assign (.Name x pos') X.env)) (fun _ s'=>SP X pins D0 .next s') acc C) hc B go how hcap hlen hb I2 T st2 f2 q ?_
 intro D C σ' H' s' J' qq
 have I':=vY I2 f2 J'
 obtain ⟨m,hn,_⟩:=J'.loc
 have hC:s2.heap.objs.size<=C:=J'.ok.above
 show wpAny _ X.A (assign (.Name x pos') X.env (.ref D)) _ _ s'
 refine wpAny_assign_Name (jC (v:=.ref D) I' hN hix hx rfl (fun s'' I'' ⟨a,sb,ha⟩=>?_) hf)
 have haC:C ≠ a:=by
  rintro rfl
  rcases ha with z | z
  ·have:=I2.lt
   rw [<- z] at this
   exact absurd (Nat.lt_of_lt_of_le this hC) (Nat.lt_irrefl _)
  ·obtain ⟨v,hv⟩:=I2.cell x C z
   exact absurd (Nat.lt_of_lt_of_le hv.lt hC) (Nat.lt_irrefl _)
 have hCH:H' C = none:=J'.free
 refine ⟨m,hn.sameBut sb haC,fun h' hs'=>⟨_,H',?_,qq⟩⟩
 refine I''.turned (it:=C) (t':=s''.toks) (fun b o hb e=>(hs'.2 b hb).trans e) hCH ?_ (.inr (Nat.le_trans I2.sz hC)) (fun x c h z=>?_) fun p hp z=>?_
 ·intro z
  have:=I2.lt
  rw [<- z] at this
  exact absurd (Nat.lt_of_lt_of_le this hC) (Nat.lt_irrefl _)
 ·obtain ⟨v,hv⟩:=I2.cell x c h
  have:=hv.lt
  rw [z] at this
  exact absurd (Nat.lt_of_lt_of_le this hC) (Nat.lt_irrefl _)
 ·have:=I2.pin_lt hp
  rw [z] at this
  exact absurd (Nat.lt_of_lt_of_le this hC) (Nat.lt_irrefl _)
end
def Its (z:Str):It:=⟨fun i _=>i < z.cps.size,fun i H x H'=>H' = H/\∃ c,z.cps[i]? = some c/\x = .str ⟨#[c]⟩,fun i _=>z.cps.size<=i⟩
theorem zdu {P:Program} {w:World} {K:Frag} {tg:Expr} (it:Addr) (z:Str) (t:Tok):qM P w K tg (Its z) [it] it (fun i h=>h.IsStrIter it (strIterType z) z t i) where
 mem:=by simp
 obj:=fun i h st b hb=>by
  have e:b = it:=by simpa using hb
  subst e
  obtain ⟨o,e,_,d⟩:=st
  exact ⟨o,e,fun v q=>by rw [d] at q; cases q⟩
 keep:=fun i h h' st k=>by
  obtain ⟨o,e,r⟩:=st
  exact ⟨o,k it (by simp) o e,r⟩
 item:=by
  intro X hP hw hK hc i pins s σ H E I hf st hg
  subst hP hw hK
  obtain ⟨f0,f1,f2,f3,f4,f5⟩:=hf it (by simp)
  have hi:i < z.cps.size:=hg
  have hx:z.cps[i]? = some z.cps[i]:=by simp [hi]
  have fin:∀ h',h'.IsStrIter it (strIterType z) z t (i + 1)->Heap.SameBut it s.heap h'->
    ∃ u,some (Value.str ⟨#[z.cps[i]]⟩ s.toks) = some u/\wpAny (model X.prog X.w) X.A (letOwnedTupleGo tg (.ref it) u) (fun _ s2=>∃ x H',Inv X pins σ H' s2/\zL x u/\(Its z).yld i H x H'/\s2.heap.IsStrIter it (strIterType z) z t (i + 1)/\∀ b ∈ [it],H' b = none) E { s with heap:=h',toks:=s.toks + 1 }:=fun h' hit hs=>by
   have I1:Inv X pins σ H { s with heap:=h',toks:=s.toks + 1 }:=I.turned (fun b o hb e=>(hs.2 b hb).trans e) f0 f1 f3 f4 f5
   obtain ⟨o,e1,e2,e3⟩:=id hit
   refine ⟨_,rfl,zcs (s:={ s with heap:=h',toks:=s.toks + 1 }) e1 e2 e3 ?_ ⟨.str ⟨#[z.cps[i]]⟩,H,I1,⟨_,rfl⟩,⟨rfl,_,hx,rfl⟩,hit,fun b hb=>(hf b hb).1⟩⟩
   unfold strIterType
   split <;> decide
  cases ha:z.cps.all (· < 128)
  ·have e:strIterType z = "str_iterator":=by simp [strIterType,ha]
   rw [e] at st
   exact wpAny_pyNext_wide_item st hx fun h' a b=>fin h' (e.symm ▸ a) b
  ·have e:strIterType z = "str_ascii_iterator":=by simp [strIterType,ha]
   rw [e] at st
   exact wpAny_pyNext_ascii_item st hx fun h' a b=>fin h' (e.symm ▸ a) b
 done:=by
  intro X hP hw hK hc i pins s σ H E I hf st hg
  subst hP hw hK
  obtain ⟨f0,f1,f2,f3,f4,f5⟩:=hf it (by simp)
  have hi:z.cps.size<=i:=hg
  have hx:z.cps[i]? = none:=by simp [hi]
  have fin:∀ h',Heap.ExtBut it s.heap h'->(none:Option Value) = none/\Inv X pins σ H { s with heap:=h' }:=fun h' eb=>⟨rfl,I.turned (t':=s.toks) (fun b o hb e=>eb b o hb e) f0 f1 f3 f4 f5⟩
  cases ha:z.cps.all (· < 128)
  ·have e:strIterType z = "str_iterator":=by simp [strIterType,ha]
   rw [e] at st
   exact wpAny_pyNext_wide_end (I.ok.hd hc) st hx fin
  ·have e:strIterType z = "str_ascii_iterator":=by simp [strIterType,ha]
   rw [e] at st
   exact wpAny_pyNext_ascii_end (I.ok.hd hc) st hx fin
 self:=fun A i s Q E st h=>by
  cases ha:z.cps.all (· < 128)
  ·have e:strIterType z = "str_iterator":=by simp [strIterType,ha]
   rw [e] at st
   exact wpAny_pyIter_striter_wide st h
  ·have e:strIterType z = "str_ascii_iterator":=by simp [strIterType,ha]
   rw [e] at st
   exact wpAny_pyIter_striter_ascii st h
section
variable {X:Cx} {tg:Expr}
def zj4 (tl:TE):TI:=fun σ H R=>tl σ H fun x H1=>∃ z,x = .str z/\R (Its z) H1
theorem zhJ {l:Expr} {tl:TE} (hl:PE X l tl):PI X tg l (zj4 tl):=by
 refine ⟨?_⟩
 intro pins s σ H R I h
 refine thn (hl pins s σ H _ I h) fun v s1 ⟨x,H1,I1,r1,q1⟩=>?_
 obtain ⟨z,e,q⟩:=q1
 subst e
 obtain ⟨t,rfl⟩:=r1
 refine wpAny_pyIter_strU ?_
 refine ⟨s1.heap.objs.size,[s1.heap.objs.size],_,_,H1,rfl,I1.kept (t':=s1.toks) fun b o e=>Heap.get?_push_of_some _ e,zdu _ z t,⟨_,Heap.get?_push_size _ rfl,rfl,rfl⟩,fun b hb=>?_,q⟩
 have e:b = s1.heap.objs.size:=by simpa using hb
 subst e
 exact I1.fpOk (Nat.le_refl _) (I1.hok.fresh (Nat.le_refl _))
theorem zdn (hc:X.calm = true):yX X (.builtin "all") (fun xs H Q=>∃ (p:Addr) (bs:List Bool),xs = [.ref p]/\SqL X.K H p (bs.map V.bl)/\Q (.bl (bs.all id)) H):=by
 intro pins s σ H xs us Q I r h
 obtain ⟨p,bs,rfl,hS,q⟩:=h
 obtain ⟨u,rfl,ru⟩:=wo r
 cases ru
 obtain ⟨its,rv,hp,hz⟩:=I.list hS
 have hlen:its.length = bs.length:=by rw [<- rv.length,List.length_map]
 have hne:p ≠ s.heap.objs.size:=Nat.ne_of_lt (by obtain ⟨_,e,_⟩:=hp.isList; exact Heap.lt_size e)
 refine call_all_walk (wpAny_pyIter_list hp.isList ?_)
 refine ⟨s.heap.objs.size,_,_,_,_,_,fun i=>bs.getD i false,rfl,Walks.list (A:=X.A.in1) (I.ok.hd hc) s.heap.objs.size p hne its.toArray,⟨⟨_,Heap.get?_push_size _ rfl,rfl,rfl⟩,hp.isList.push _⟩,?_,fun h' tk k=>?_⟩
 ·intro i v s' Q' E' hP hQ
  have hv:its[i]? = some v:=by simpa using hP
  have hi:i < bs.length:=by rw [<- hlen]; exact (List.getElem?_eq_some_iff.mp hv).1
  obtain ⟨u',e1,e2⟩:=rv.get (i:=i) (x:=V.bl bs[i]) (by rw [List.getElem?_map,List.getElem?_eq_getElem hi]; rfl)
  rw [hv] at e1
  cases e1
  cases e2
  refine wpAny_truthy_bool ?_
  have:bs.getD i false = bs[i]:=by rw [List.getD_eq_getElem?_getD,List.getElem?_eq_getElem hi]; rfl
  rw [<- this]
  exact hQ
 ·have e:((List.range its.toArray.size).all fun i=>bs.getD i false) = bs.all id:=by
   rw [List.size_toArray,hlen,Bool.eq_iff_iff,List.all_eq_true,List.all_eq_true]
   constructor
   ·intro hh b hb
    obtain ⟨i,hi,rfl⟩:=List.getElem_of_mem hb
    have:=hh i (List.mem_range.mpr hi)
    rw [List.getD_eq_getElem?_getD,List.getElem?_eq_getElem hi] at this
    exact this
   ·intro hh i hi
    have hi':=List.mem_range.mp hi
    rw [List.getD_eq_getElem?_getD,List.getElem?_eq_getElem hi']
    exact hh _ (List.getElem_mem hi')
  rw [e]
  exact ⟨.bl (bs.all id),H,I.kept (h':=h') (t':=tk) (fun b o q=>k b o (fun hm=>by
   have e:b = s.heap.objs.size:=by simpa using hm
   exact absurd (Heap.lt_size q) (by rw [e]; exact Nat.lt_irrefl _)) (Heap.get?_push_of_some _ q)),rfl,q⟩
theorem zaT:yX X (.builtin "isinstance") (fun xs H Q=>∃ x T t b,xs = [x,.ty T]/\wW X.K H x t/\kitOne X.K t (.type T) = some b/\Q (.bl b) H):=by
 intro pins s σ H xs us Q I r h
 obtain ⟨x,T,t,b,rfl,ty,e,q⟩:=h
 obtain ⟨u,w',rfl,ru,rw'⟩:=zbW r
 cases rw'
 exact zc5 I ru ty e fun tk=>⟨.bl b,H,I.tok tk,rfl,q⟩
end
def xS:Expr->Bool
 | .Starred ..=>true
 | _=>false
theorem z8 {e:Expr} {es:List Expr} {env:Env} (h:xS e = false):starEach (e :: es) env = (false,eval e env) :: starEach es env:=by
 cases e <;> first | rfl | cases h
theorem xb {env:Env} {pos:Pos}:∀ {es:List Expr},es.any xS = false->(backTo pos (starEach es env)).any (·.1) = false
 | [],_=>rfl
 | e :: es,h=>by
  rw [List.any_cons,Bool.or_eq_false_iff] at h
  rw [z8 h.1]
  show (false || (backTo pos (starEach es env)).any (·.1)) = false
  rw [xb h.2]
  rfl
section
variable {X:Cx} {CX:CXT} {k:Nat} {f C:Addr} {fd:FuncData} {ps:List Str} {sp:Sp} {dvs:List V} {ds:List Value} {E:XK} {x m:Str} {p pos apos:Pos} {e o:Expr} {es:List Expr} {te ta:TE} {t:TA} {id T:String} {r:List V->Hp->VK->Prop}
theorem ac (ha:PE X e te) (hr:PA X es t) (h:xS e = false:=by rfl):PA X (e :: es) (zgJ te t):=zfN ha hr (z8 h)
theorem cB (hc:yX X (.builtin id) r) (hm:X.mg x = none) (hv:bootBuiltins x = some (.builtin id)) (ha:PA X (e :: es) t) (hg:Gl X x:=by rfl) (hn:x ≠ "__name__":=by decide) (hdb:(x == ("__debug__" : Str)) = false:=by decide)
  (h1:xS e = false:=by rfl) (h2:es.any xS = false:=by rfl):PE X (.Call (.Name x p) (e :: es) [] pos) (tCB r t):=zeh hc hg hm hv ha hn hdb (z8 h1) (xb h2)
theorem cTy (hc:yX X (.type T) r) (hm:X.mg x = none) (hv:bootBuiltins x = some (.type T)) (ha:PA X (e :: es) t) (hg:Gl X x:=by rfl) (hn:x ≠ "__name__":=by decide) (hdb:(x == ("__debug__" : Str)) = false:=by decide)
  (h1:xS e = false:=by rfl) (h2:es.any xS = false:=by rfl):PE X (.Call (.Name x p) (e :: es) [] pos) (tCB r t):=zcS hc hg hm hv ha hn hdb (z8 h1) (xb h2)
structure zv (P:Program) (w:World) (K:Frag) (mg:Str->Option Value) (base:Heap) (k:Nat) (x:Str) (f:Addr) (fd:FuncData) (ps:List Str) (sp:Sp):Prop where
 ok:zp P w K mg base CX0 k f fd ps sp
 mg:mg x = some (.ref f)
 kp:keepIn K (.ref f) = true
 bd:zQ K fd ps []
theorem cF (c:zv X.prog X.w X.K X.mg X.base k x f fd ps sp) (hr:yb k X.A) (ha:PA X (e :: es) t) (hg:Gl X x:=by rfl) (hdb:(x == ("__debug__" : Str)) = false:=by decide)
  (h1:xS e = false:=by rfl) (h2:es.any xS = false:=by rfl):PE X (.Call (.Name x p) (e :: es) [] pos) (qW sp [] E0 t):=
 zcl c.ok hr hg c.mg c.kp c.bd .nil yc ha hdb (z8 h1) (xb h2)
end
end L2
namespace L2
open PySem PyProof.Rows
theorem uj (K:Frag):kitOne K (.type "NoneType") (.type "str") = some false:=by kernel_rfl
theorem zbF (K:Frag):kitOne K (.type "int") (.type "str") = some false:=by kernel_rfl
theorem zaI (K:Frag):kitOne K (.type "bool") (.type "str") = some false:=by kernel_rfl
theorem qB (K:Frag):kitOne K (.type "bool") (.type "bool") = some true:=by kernel_rfl
theorem zbE (K:Frag):kitOne K (.type "str") (.type "str") = some true:=by kernel_rfl
theorem zaG (K:Frag):kitOne K (.type "list") (.type "str") = some false:=by kernel_rfl
theorem qA (K:Frag):kitOne K (.type "tuple") (.type "str") = some false:=by kernel_rfl
theorem zaH (K:Frag):kitOne K (.type "dict") (.type "str") = some false:=by kernel_rfl
end L2
namespace L2
open PySem PySem.Spec PyProof.Rows
inductive Dt where
 | non | bl (b:Bool) | int (i:Int) | str (z:Str) | tup (ds:List Dt) | lst (ds:List Dt)
def ui:V->Dt->Prop
 | .non,.non=>True
 | .bl a,.bl b=>a = b
 | .int a,.int b=>a = b
 | .str a,.str b=>a = b
 | _,_=>False
def zu (K:Frag) (ok:Addr->Prop) (H:Hp):Nat->V->Dt->Prop
 | 0,x,d=>ui x d
 | n + 1,x,d=>ui x d\/(∃ a xs ds,x = .ref a/\d = .tup ds/\SqT K H a xs/\Paired (zu K ok H n) xs ds)\/(∃ a xs ds,x = .ref a/\d = .lst ds/\ok a/\H a = some (.lst xs)/\Paired (zu K ok H n) xs ds)
section
variable {K:Frag} {ok ok':Addr->Prop} {H H':Hp}
theorem zu.flat {n:Nat} {x:V} {d:Dt} (h:ui x d):zu K ok H n x d:=by
 cases n with
 | zero=>exact h
 | succ n=>exact .inl h
theorem zu.int {n:Nat} {i:Int}:zu K ok H n (.int i) (.int i):=.flat rfl
theorem zu.str {n:Nat} {z:Str}:zu K ok H n (.str z) (.str z):=.flat rfl
theorem zu.tup {n:Nat} {a:Addr} {xs:List V} {ds:List Dt} (h:SqT K H a xs) (r:Paired (zu K ok H n) xs ds):zu K ok H (n + 1) (.ref a) (.tup ds):=.inr (.inl ⟨a,xs,ds,rfl,rfl,h,r⟩)
theorem zu.lst {n:Nat} {a:Addr} {xs:List V} {ds:List Dt} (o:ok a) (h:H a = some (.lst xs)) (r:Paired (zu K ok H n) xs ds):zu K ok H (n + 1) (.ref a) (.lst ds):=.inr (.inr ⟨a,xs,ds,rfl,rfl,o,h,r⟩)
theorem zu.frame (hT:∀ a xs,SqT K H a xs->SqT K H' a xs) (hL:∀ a xs,ok a->H a = some (.lst xs)->ok' a/\H' a = some (.lst xs)):∀ {n:Nat} {x:V} {d:Dt},zu K ok H n x d->zu K ok' H' n x d
 | 0,_,_,h=>h
 | n + 1,x,d,h=>by
  rcases h with h | ⟨a,xs,ds,e1,e2,h,r⟩ | ⟨a,xs,ds,e1,e2,o,h,r⟩
  ·exact .inl h
  ·exact .inr (.inl ⟨a,xs,ds,e1,e2,hT a xs h,Paired.imp' (fun _ _ z=>zu.frame hT hL z) r⟩)
  ·exact .inr (.inr ⟨a,xs,ds,e1,e2,(hL a xs o h).1,(hL a xs o h).2,Paired.imp' (fun _ _ z=>zu.frame hT hL z) r⟩)
theorem zu.up:∀ {n:Nat} {x:V} {d:Dt},zu K ok H n x d->zu K ok H (n + 1) x d
 | 0,_,_,h=>.inl h
 | n + 1,x,d,h=>by
  rcases h with h | ⟨a,xs,ds,e1,e2,h,r⟩ | ⟨a,xs,ds,e1,e2,o,h,r⟩
  ·exact .inl h
  ·exact .inr (.inl ⟨a,xs,ds,e1,e2,h,Paired.imp' (fun _ _ z=>zu.up z) r⟩)
  ·exact .inr (.inr ⟨a,xs,ds,e1,e2,o,h,Paired.imp' (fun _ _ z=>zu.up z) r⟩)
theorem zl.sqT {a:Addr} {xs:List V} (e:zl H H') (h:SqT K H a xs):SqT K H' a xs:=by
 rcases h with (h | ⟨o,h⟩) | h
 ·exact .inl (.inl (e _ _ h))
 ·exact .inl (.inr ⟨o,e _ _ h⟩)
 ·exact .inr h
theorem zu.same {n:Nat} {x:V} {d:Dt} (e:zl H H') (h:zu K ok H n x d):zu K ok H' n x d:=h.frame (fun _ _ z=>e.sqT z) fun _ _ o z=>⟨o,e _ _ z⟩
theorem Paired.get {α β : Type} {F : α->β->Prop}:∀ {l₁:List α} {l₂:List β} {i:Nat} {a : α},Paired F l₁ l₂->l₁[i]? = some a->∃ b,l₂[i]? = some b/\F a b
 | _,_,_,_,.nil,e=>by simp at e
 | _,_,0,_,.cons r _,e=>by simp at e; subst e; exact ⟨_,rfl,r⟩
 | _,_,i + 1,a,.cons _ t,e=>by
  obtain ⟨b,h1,h2⟩:=Paired.get (i:=i) (a:=a) t (by simpa using e)
  exact ⟨b,by simpa using h1,h2⟩
end
section
variable {X:Cx} {pins:List (Addr × Obj)} {σ : St} {H:Hp} {s:Shared} {ok ok':Addr->Prop}
theorem jX {A:Around} {x y:V} {d:Dt} {u v:Value} (hx:ui x d) (hy:ui y d) (ru:zL x u) (rv:zL y v):SeqAt.EqAt A s u v true:=by
 cases d with
 | non=>
  cases x <;> try exact hx.elim
  cases y <;> try exact hy.elim
  cases ru; cases rv; exact SeqAt.EqAt.same _
 | bl b=>
  cases x <;> try exact hx.elim
  cases y <;> try exact hy.elim
  rename_i a c
  obtain rfl:a = b:=hx
  obtain rfl:c = a:=hy
  cases ru; cases rv; exact SeqAt.EqAt.same _
 | int b=>
  cases x <;> try exact hx.elim
  cases y <;> try exact hy.elim
  rename_i a c
  obtain rfl:a = b:=hx
  obtain rfl:c = a:=hy
  obtain ⟨t,rfl⟩:=ru
  obtain ⟨t',rfl⟩:=rv
  have:=SeqAt.EqAt.int_int (A:=A) (s:=s) c t c t'
  simpa using this
 | str b=>
  cases x <;> try exact hx.elim
  cases y <;> try exact hy.elim
  rename_i a c
  obtain rfl:a = b:=hx
  obtain rfl:c = a:=hy
  obtain ⟨t,rfl⟩:=ru
  obtain ⟨t',rfl⟩:=rv
  have:=SeqAt.EqAt.str_str (A:=A) (s:=s) c t c t'
  simpa using this
 | tup ds=>cases x <;> exact hx.elim
 | lst ds=>cases x <;> exact hx.elim
theorem jg {a:Addr} {d:Dt} (h:ui (.ref a) d):False:=by cases d <;> exact h
theorem wG (n:Nat):((List.range n).all fun _=>true) = true:=by rw [List.all_eq_true]; intro _ _; rfl
theorem wS (I:Inv X pins σ H s):∀ (n:Nat) {A:Around} {x y:V} {d:Dt} {u v:Value},zu X.K ok H n x d->zu X.K ok' H n y d->zL x u->zL y v->A.units + n < cLine->SeqAt.EqAt A s u v true
 | 0,A,x,y,d,u,v,hx,hy,ru,rv,_=>jX hx hy ru rv
 | n + 1,A,x,y,d,u,v,hx,hy,ru,rv,hu=>by
  have hin:A.in1.units + n < cLine:=by show A.units + 1 + n < cLine; omega
  rcases hx with hx | ⟨a,xs,ds,rfl,rfl,hx,r⟩ | ⟨a,xs,ds,rfl,rfl,_,hx,r⟩
  ·rcases hy with hy | ⟨b,ys,es,rfl,rfl,hy,q⟩ | ⟨b,ys,es,rfl,rfl,_,hy,q⟩
   ·exact jX hx hy ru rv
   ·cases x <;> exact hx.elim
   ·cases x <;> exact hx.elim
  ·rcases hy with hy | ⟨b,ys,es,rfl,e2,hy,q⟩ | ⟨b,ys,es,rfl,e2,_,hy,q⟩
   ·cases y <;> exact hy.elim
   ·cases e2
    cases ru; cases rv
    by_cases hab:a = b
    ·subst hab; exact SeqAt.EqAt.same _
    ·obtain ⟨ia,va,pa,_⟩:=I.tuple hx
     obtain ⟨ib,vb,pb,_⟩:=I.tuple hy
     have la:ia.length = ds.length:=by rw [<- va.length,r.length]
     have lb:ib.length = ds.length:=by rw [<- vb.length,q.length]
     have:=SeqAt.RcAt.tuples (A:=A) (s:=s) (e:=fun _=>true) (show s.heap.IsTuple a ia.toArray from pa) (show s.heap.IsTuple b ib.toArray from pb) (by omega) (fun j h1 h2=>by
      have j1:j < ia.length:=by simpa using h1
      have j2:j < ib.length:=by simpa using h2
      have hxl:j < xs.length:=by rw [va.length]; exact j1
      have hyl:j < ys.length:=by rw [vb.length]; exact j2
      obtain ⟨u',e1,e2⟩:=va.get (i:=j) (List.getElem?_eq_getElem hxl)
      obtain ⟨v',e3,e4⟩:=vb.get (i:=j) (List.getElem?_eq_getElem hyl)
      obtain ⟨d1,f1,f2⟩:=Paired.get r (List.getElem?_eq_getElem hxl)
      obtain ⟨d2,f3,f4⟩:=Paired.get q (List.getElem?_eq_getElem hyl)
      rw [f1] at f3
      cases f3
      rw [List.getElem?_eq_getElem j1] at e1
      rw [List.getElem?_eq_getElem j2] at e3
      cases e1; cases e3
      simpa using wS I n f2 f4 e2 e4 hin)
     rw [wG] at this
     have z:(ia.toArray.size == ib.toArray.size) = true:=by simp [la,lb]
     rw [z] at this
     exact SeqAt.EqAt.of_refs hab this
   ·cases e2
  ·rcases hy with hy | ⟨b,ys,es,rfl,e2,hy,q⟩ | ⟨b,ys,es,rfl,e2,_,hy,q⟩
   ·cases y <;> exact hy.elim
   ·cases e2
   ·cases e2
    cases ru; cases rv
    by_cases hab:a = b
    ·subst hab; exact SeqAt.EqAt.same _
    ·obtain ⟨ia,va,pa,_⟩:=I.list (SqL.of hx)
     obtain ⟨ib,vb,pb,_⟩:=I.list (SqL.of hy)
     have la:ia.length = ds.length:=by rw [<- va.length,r.length]
     have lb:ib.length = ds.length:=by rw [<- vb.length,q.length]
     have:=SeqAt.RcAt.lists (A:=A) (s:=s) (e:=fun _=>true) pa.isList pb.isList (by simp [la,lb]) (by omega) (fun j h1 h2=>by
      have j1:j < ia.length:=by simpa using h1
      have j2:j < ib.length:=by simpa using h2
      have hxl:j < xs.length:=by rw [va.length]; exact j1
      have hyl:j < ys.length:=by rw [vb.length]; exact j2
      obtain ⟨u',e1,e2⟩:=va.get (i:=j) (List.getElem?_eq_getElem hxl)
      obtain ⟨v',e3,e4⟩:=vb.get (i:=j) (List.getElem?_eq_getElem hyl)
      obtain ⟨d1,f1,f2⟩:=Paired.get r (List.getElem?_eq_getElem hxl)
      obtain ⟨d2,f3,f4⟩:=Paired.get q (List.getElem?_eq_getElem hyl)
      rw [f1] at f3
      cases f3
      rw [List.getElem?_eq_getElem j1] at e1
      rw [List.getElem?_eq_getElem j2] at e3
      cases e1; cases e3
      simpa using wS I n f2 f4 e2 e4 hin)
     rw [wG] at this
     exact SeqAt.EqAt.of_refs hab this
theorem zfB (I:Inv X pins σ H s) {n:Nat} {A:Around} {a b:Addr} {d:Dt} (hx:zu X.K ok H (n + 1) (.ref a) d) (hy:zu X.K ok' H (n + 1) (.ref b) d) (hu:A.units + n + 1 < cLine) :
  SeqAt.RcAt A s (.ref a) (.ref b) true/\SeqAt.RcNeAt A s (.ref a) (.ref b) false:=by
 have hin:A.in1.units + n < cLine:=by show A.units + 1 + n < cLine; omega
 rcases hx with hx | ⟨a,xs,ds,e0,rfl,hx,r⟩ | ⟨a,xs,ds,e0,rfl,_,hx,r⟩
 ·exact (jg hx).elim
 ·cases e0
  rcases hy with hy | ⟨b,ys,es,e1,e2,hy,q⟩ | ⟨b,ys,es,e1,e2,_,hy,q⟩
  ·exact (jg hy).elim
  ·cases e1; cases e2
   obtain ⟨ia,va,pa,_⟩:=I.tuple hx
   obtain ⟨ib,vb,pb,_⟩:=I.tuple hy
   have la:ia.length = ds.length:=by rw [<- va.length,r.length]
   have lb:ib.length = ds.length:=by rw [<- vb.length,q.length]
   have el:∀ j (h1:j < ia.toArray.size) (h2:j < ib.toArray.size),SeqAt.EqAt A.in1 s ia.toArray[j] ib.toArray[j] true:=fun j h1 h2=>by
    have j1:j < ia.length:=by simpa using h1
    have j2:j < ib.length:=by simpa using h2
    have hxl:j < xs.length:=by rw [va.length]; exact j1
    have hyl:j < ys.length:=by rw [vb.length]; exact j2
    obtain ⟨u',e1,e2⟩:=va.get (i:=j) (List.getElem?_eq_getElem hxl)
    obtain ⟨v',e3,e4⟩:=vb.get (i:=j) (List.getElem?_eq_getElem hyl)
    obtain ⟨d1,f1,f2⟩:=Paired.get r (List.getElem?_eq_getElem hxl)
    obtain ⟨d2,f3,f4⟩:=Paired.get q (List.getElem?_eq_getElem hyl)
    rw [f1] at f3
    cases f3
    rw [List.getElem?_eq_getElem j1] at e1
    rw [List.getElem?_eq_getElem j2] at e3
    cases e1; cases e3
    simpa using wS I n f2 f4 e2 e4 hin
   have z:(ia.toArray.size == ib.toArray.size) = true:=by simp [la,lb]
   have t1:=SeqAt.RcAt.tuples (A:=A) (s:=s) (e:=fun _=>true) (show s.heap.IsTuple a ia.toArray from pa) (show s.heap.IsTuple b ib.toArray from pb) (by omega) el
   have t2:=SeqAt.RcNeAt.tuples (A:=A) (s:=s) (e:=fun _=>true) (show s.heap.IsTuple a ia.toArray from pa) (show s.heap.IsTuple b ib.toArray from pb) (by omega) el
   rw [wG,z] at t1 t2
   exact ⟨t1,t2⟩
  ·cases e1; cases e2
 ·cases e0
  rcases hy with hy | ⟨b,ys,es,e1,e2,hy,q⟩ | ⟨b,ys,es,e1,e2,_,hy,q⟩
  ·exact (jg hy).elim
  ·cases e1; cases e2
  ·cases e1; cases e2
   obtain ⟨ia,va,pa,_⟩:=I.list (SqL.of hx)
   obtain ⟨ib,vb,pb,_⟩:=I.list (SqL.of hy)
   have la:ia.length = ds.length:=by rw [<- va.length,r.length]
   have lb:ib.length = ds.length:=by rw [<- vb.length,q.length]
   have el:∀ j (h1:j < ia.toArray.size) (h2:j < ib.toArray.size),SeqAt.EqAt A.in1 s ia.toArray[j] ib.toArray[j] true:=fun j h1 h2=>by
    have j1:j < ia.length:=by simpa using h1
    have j2:j < ib.length:=by simpa using h2
    have hxl:j < xs.length:=by rw [va.length]; exact j1
    have hyl:j < ys.length:=by rw [vb.length]; exact j2
    obtain ⟨u',e1,e2⟩:=va.get (i:=j) (List.getElem?_eq_getElem hxl)
    obtain ⟨v',e3,e4⟩:=vb.get (i:=j) (List.getElem?_eq_getElem hyl)
    obtain ⟨d1,f1,f2⟩:=Paired.get r (List.getElem?_eq_getElem hxl)
    obtain ⟨d2,f3,f4⟩:=Paired.get q (List.getElem?_eq_getElem hyl)
    rw [f1] at f3
    cases f3
    rw [List.getElem?_eq_getElem j1] at e1
    rw [List.getElem?_eq_getElem j2] at e3
    cases e1; cases e3
    simpa using wS I n f2 f4 e2 e4 hin
   have t1:=SeqAt.RcAt.lists (A:=A) (s:=s) (e:=fun _=>true) pa.isList pb.isList (by simp [la,lb]) (by omega) el
   have t2:=SeqAt.RcNeAt.lists (A:=A) (s:=s) (e:=fun _=>true) pa.isList pb.isList (by simp [la,lb]) (by omega) el
   rw [wG] at t1 t2
   exact ⟨t1,t2⟩
def ziU (K:Frag) (b:Bool):R2:=fun x y H Q=>∃ (a c:Addr) (n:Nat) (d:Dt) (ok ok':Addr->Prop),x = .ref a/\y = .ref c/\n<=20/\zu K ok H (n + 1) x d/\zu K ok' H (n + 1) y d/\Q (.bl b) H
theorem zek (hu:X.A.units + 64 < cLine):OpR X (compareOp .Eq) (ziU X.K true):=by
 intro pins s σ H x y v u Q I rx ry h
 obtain ⟨a,c,n,d,ok,ok',rfl,rfl,hn,hx,hy,q⟩:=h
 cases rx; cases ry
 exact (zfB (A:=X.A) I hx hy (by omega)).1 X.prog X.w X.xe _ ⟨.bl true,H,I,rfl,q⟩
end
def Ite (K:Frag) (a:Addr):It:=
 ⟨fun i H=>∃ xs x,SqL K H a xs/\xs[i]? = some x,fun i H x H'=>∃ (p:Addr) (y:V),x = .ref p/\H p = none/\(∀ xs,SqL K H a xs->xs[i]? = some y)/\H' = upd H p (.tup [.int i,y]),fun i H=>∃ xs,SqL K H a xs/\xs.length<=i⟩
theorem zcJ {P:Program} {w:World} {K:Frag} {elts:List Expr} {x1:Nat} {tpos:Pos} (a e it:Addr) (hne:e ≠ it) :
  qM P w K (.Tuple elts x1 tpos) (Ite K a) [e,it] e (fun i h=>(∃ old,IsEnum h e it (i:Int) old)/\h.IsListIter it a i) where
 mem:=by simp
 obj:=fun i h st b hb=>by
  rcases List.mem_cons.mp hb with rfl | hb
  ·obtain ⟨⟨old,he⟩,_⟩:=st
   exact ⟨_,he,fun v q=>by cases q⟩
  ·have e':b = it:=by simpa using hb
   subst e'
   obtain ⟨_,o,ho,_,hd⟩:=st
   exact ⟨o,ho,fun v q=>by rw [hd] at q; cases q⟩
 keep:=fun i h h' st k=>by
  obtain ⟨⟨old,he⟩,o,ho,r⟩:=st
  exact ⟨⟨old,k e (by simp) _ he⟩,o,k it (by simp) o ho,r⟩
 item:=by
  intro X hP hw hK hc i pins s σ H E I hf st hg
  subst hP hw hK
  obtain ⟨f0,f1,f2,f3,f4,f5⟩:=hf e (by simp)
  obtain ⟨g0,g1,g2,g3,g4,g5⟩:=hf it (by simp)
  obtain ⟨⟨old,he⟩,hit⟩:=st
  obtain ⟨xs,x,hS,hx⟩:=hg
  obtain ⟨its,rv,hp,hz⟩:=I.list hS
  obtain ⟨u,hu,ru⟩:=rv.get hx
  refine wpAny_pyNext_enum_item he hit hp.isList (x:=u) (by simpa using hu) hne fun h' he' hit' htup hsz hk=>?_
  have I0:Inv X pins σ H { s with heap:=h',toks:=s.toks + 1 }:=by
   refine I.step (g':=s.gens) (d':=s.drawn) (ch:=[e,it]) (fun b hb=>?_) (fun b o _ _ hc' e1 _=>hk b o (fun z=>hc' (by simp [z])) (fun z=>hc' (by simp [z])) e1) (fun b o _ _ hc' e1 _=>⟨o.slots,hk b o (fun z=>hc' (by simp [z])) (fun z=>hc' (by simp [z])) e1⟩) (fun _ _ _ _ n=>n)
    (fun b o hc' e1=>⟨o,hk b o (fun z=>hc' (by simp [z])) (fun z=>hc' (by simp [z])) e1⟩) (fun _ _ e1=>e1) (fun _ _ _ e1=>e1) (fun b ps e1=>⟨#[],by rw [e1]; simp⟩) (fun m hm=>?_) (fun b u' e1=>?_) I.bare
   ·rcases List.mem_cons.mp hb with rfl | hb
    ·exact ⟨f3,f1,f4,f5⟩
    ·have e':b = it:=by simpa using hb
     subst e'
     exact ⟨g3,g1,g4,g5⟩
   ·obtain ⟨o,es,ep,ho,r⟩:=hm
    exact ⟨o,es,ep,hk _ o (Ne.symm f1) (Ne.symm g1) ho,r⟩
   ·have nit:∀ c v',H c = some v'->c ≠ e/\c ≠ it:=fun c v' q=>⟨fun z=>(by rw [z,f0] at q; cases q),fun z=>(by rw [z,g0] at q; cases q)⟩
    refine (I.hok b u' e1).stay (fun c v' hc' q=>?_) (fun _ q=>q) fun _ _ q=>q
    rcases hc' with z | z
    ·subst z; exact hk c v' (nit c _ e1).1 (nit c _ e1).2 q
    ·exact hk c v' (nit c _ z).1 (nit c _ z).2 q
  have hfr:H s.heap.objs.size = none:=I.hok.fresh (Nat.le_refl _)
  have I1:Inv X pins σ (upd H s.heap.objs.size (.tup [.int i,x])) { s with heap:=h',toks:=s.toks + 1 }:=by
   have hok:HOk X.prog X.w (upd H s.heap.objs.size (.tup [.int i,x])) h':=fun b o q=>by
    by_cases hb:b = s.heap.objs.size
    ·subst hb
     rw [za] at q; cases q
     exact ⟨by show 2<=sizeLine; decide,[.int i s.toks,u],.cons ⟨_,rfl⟩ (.cons ru .nil),⟨_,htup,rfl,_,rfl⟩⟩
    ·rw [zf hb] at q
     exact (I0.hok b o q).stay (fun _ _ _ z=>z) (fun c z=>by rw [zf (ze z hfr)]; exact z) fun c xs' z=>by rw [zf (ze z hfr)]; exact z
   refine I0.step (s:={ s with heap:=h',toks:=s.toks + 1 }) (g':=s.gens) (d':=s.drawn) (h':=h') (t':=s.toks + 1) (ch:=[s.heap.objs.size]) (fun b hb=>?_) (fun b o _ _ _ e1 _=>e1) (fun b o _ _ _ e1 _=>⟨o.slots,e1⟩) (fun b o hb e1 n=>by rw [zf (fun z=>hb (by simp [z]))]; exact n)
    (fun b o _ e1=>⟨o,e1⟩) (fun b xs' e1=>by rw [zf (ze e1 hfr)]; exact e1) (fun b o' u' e1=>by rw [zf (ze e1 hfr)]; exact e1) (fun b ps e1=>⟨#[],by rw [zf (ze e1 hfr),e1]; simp⟩) (fun m hm=>hm) hok I0.bare
   have e':b = s.heap.objs.size:=by simpa using hb
   subst e'
   refine ⟨.inr I.sz,fun z=>?_,fun y c h z=>?_,fun p hp' z=>?_⟩
   ·have:=I.lt; rw [<- z] at this; exact absurd this (Nat.lt_irrefl _)
   ·obtain ⟨v',hv⟩:=I.cell y c h
    have:=hv.lt; rw [z] at this; exact absurd this (Nat.lt_irrefl _)
   ·have:=I.pin_lt hp'; rw [z] at this; exact absurd this (Nat.lt_irrefl _)
  refine ⟨_,rfl,wpAny_letOwnedTupleGo_enum he' fun h2 he2 hs2=>?_⟩
  have nes:s.heap.objs.size ≠ e:=fun z=>by
   have:=Heap.lt_size (show s.heap.get? e = some _ from he)
   rw [<- z] at this; exact absurd this (Nat.lt_irrefl _)
  have nis:s.heap.objs.size ≠ it:=fun z=>by
   obtain ⟨o,ho,_⟩:=hit
   have:=Heap.lt_size ho
   rw [<- z] at this; exact absurd this (Nat.lt_irrefl _)
  have I2:Inv X pins σ (upd H s.heap.objs.size (.tup [.int i,x])) { s with heap:=h2,toks:=s.toks + 1 }:=
   I1.turned (s:={ s with heap:=h',toks:=s.toks + 1 }) (t':=s.toks + 1) (it:=e) (fun b o hb q=>(hs2.2 b hb).trans q) (by rw [zf nes.symm]; exact f0) f1 f3 f4 f5
  refine ⟨.ref s.heap.objs.size,_,I2,rfl,⟨_,x,rfl,hfr,fun xs' h'=>?_,rfl⟩,⟨⟨_,by simpa using he2⟩,?_⟩,fun b hb=>?_⟩
  ·rw [I.list_inj h' hS]; exact hx
  ·obtain ⟨o,ho,r⟩:=hit'
   exact ⟨o,(hs2.2 it (Ne.symm hne)).trans ho,r⟩
  ·rcases List.mem_cons.mp hb with rfl | hb
   ·rw [zf nes.symm]; exact f0
   ·have e':b = it:=by simpa using hb
    subst e'
    rw [zf nis.symm]; exact g0
 done:=by
  intro X hP hw hK hc i pins s σ H E I hf st hg
  subst hP hw hK
  obtain ⟨⟨old,he⟩,hit⟩:=st
  obtain ⟨g0,g1,g2,g3,g4,g5⟩:=hf it (by simp)
  obtain ⟨xs,hS,hle⟩:=hg
  obtain ⟨its,rv,hp,hz⟩:=I.list hS
  have hx:its.toArray[i]? = none:=by simp [<- rv.length,hle]
  exact wpAny_pyNext_enum_end (I.ok.hd hc) he hit hp.isList hx fun h' eb=>⟨rfl,I.turned (t':=s.toks) (fun b o hb e1=>eb b o hb e1) g0 g1 g3 g4 g5⟩
 self:=fun A i s Q E st h=>by
  obtain ⟨⟨old,he⟩,_⟩:=st
  exact wpAny_pyIter_enum he h
section
variable {X:Cx} {elts:List Expr} {x1:Nat} {tpos:Pos}
def zjc (K:Frag) (ta:TA):TI:=fun σ H R=>ta σ H fun vs H1=>∃ a,vs = [.ref a]/\(∃ xs,SqL K H1 a xs)/\R (Ite K a) H1
theorem wP {l:Expr} {ta:TA} {p pos:Pos} (hg:Gl X "enumerate") (hm:X.mg "enumerate" = none) (ha:PA X [l] ta) (hl:xS l = false:=by rfl):PI X (.Tuple elts x1 tpos) (.Call (.Name "enumerate" p) [l] [] pos) (zjc X.K ta):=by
 refine ⟨?_⟩
 intro pins s σ H R I h
 refine Call_ (xD I hg hm PyProof.Rows.boot_enumerate (PyProof.Rows.callWith_type1 (thn (ha pos pins s σ H _ I h) fun us s1 ⟨vs,H1,I1,r1,q1⟩=>?_) (z8 hl) rfl))
 obtain ⟨a,e,⟨xs,hS⟩,q⟩:=q1
 subst e
 obtain ⟨u,rfl,ru⟩:=wo r1
 cases ru
 obtain ⟨its,rv,hp,hz⟩:=I1.list hS
 refine call_enumerate_list hp.isList fun h' he hit hsz hk=>?_
 refine wpAny_pyIter_enum he ?_
 have hfr:∀ b,s1.heap.objs.size<=b->H1 b = none:=fun b hb=>I1.hok.fresh hb
 have I2:Inv X pins σ H1 { s1 with heap:=h' }:=I1.kept (t':=s1.toks) hk
 refine ⟨s1.heap.objs.size + 1,[s1.heap.objs.size + 1,s1.heap.objs.size],_,_,H1,rfl,I2,zcJ a _ _ (Nat.succ_ne_self _),⟨⟨_,he⟩,hit⟩,fun b hb=>?_,q⟩
 rcases List.mem_cons.mp hb with rfl | hb
 ·exact I1.fpOk (Nat.le_succ _) (hfr _ (Nat.le_succ _))
 ·have e':b = s1.heap.objs.size:=by simpa using hb
  subst e'
  exact I1.fpOk (Nat.le_refl _) (hfr _ (Nat.le_refl _))
end
end L2
namespace Att
open PySem PySem.W PySem.Calls PyProof.Rows
theorem zab {ns:List Int} (h:WData.layableAll [WData.list (ns.map WData.int)] = true):∀ n ∈ ns,Builtin.Int.intBits n<=1048576:=fun n hn=>
 PySem.intBits_le_of_layable (layable0_of_all (lay0_int (layableW_item (layW_cons h).1 (.int n) (List.mem_map.mpr ⟨n,hn,rfl⟩))))
theorem zgB {l:OpenLaw} {n:Nat} {q:Program} {loose:List Str} {XP:(Str->Option Value)->Heap->Prop} {YP:World->Heap->Prop} {d:DefRec}
  (hn:l.most = some n) (hdf:d.params.defaults = [])
  (call:∀ (w:World) (s₀ s₁:Shared) (mg mb:Str->Option Value) (fa:Addr) (o:Obj) (pm cd doc:Value) (a:Addr) (vs:List Value) (ns:List Int),
   Ground q loose [] XP w s₀ mg mb s₁.heap->YP w s₁.heap->
   s₁.heap.get? fa = some o->o.data = .func (docDef d.name d.params d.body d.scope pm cd doc)->s₁.heap.CodeRec cd d.name->mg d.name = some (.ref fa)->
   s₁.heap.get? a = some { cls:=.type "list",data:=.seq vs.toArray }->IntsAre vs ns->ns.length<=n->(∀ m ∈ ns,Builtin.Int.intBits m<=1048576)->s₁.gens = #[]->
   codeAny (model l.prog w) callerA (.call (.ref fa) ⟨[.ref a],[]⟩) (fun r s'=>r = .ok (.ret (.bool true))/\OldK s₁.heap s'.heap/\s'.os = s₁.os/\AllBare s'.gens) s₁) :
  WalkO q loose XP YP l.row.toRowW d [] (fun f vs=>PySem.call f vs):=by
 intro w s₀ s₁ mg mb G Y fa o pm cd doc dV kV ho hd hcd hD hmg hg args vals as hpre hlay hrd hwl hlo
 obtain rfl:dV = .none:=Dflts.none hD hdf
 obtain rfl:kV = .none:=Dflts.noKw hD
 obtain ⟨a,vs,ns,rfl,rfl,hobj,hints,hlen⟩:=zcK hn hpre hwl
 refine enter_call (codeAny_mono (call w s₀ s₁ mg mb fa o pm cd doc a vs ns G Y ho (fd_plain hd) hcd hmg hobj hints hlen (zab hlay) hg) fun r s' hq=>?_)
 obtain ⟨rfl,h2,h3,h4⟩:=hq
 exact ⟨.inl ⟨.bool true,.bool true,[],rfl,fun _=>rfl,.bool true,zcP l _,fun _=>⟨List.Pairwise.nil,fun _ hm=>(nomatch hm)⟩⟩,h2,h3,h4⟩
end Att
namespace L2
open PySem PySem.Spec PyProof.Rows
theorem ziu {l:PySem.W.OpenLaw} {n k:Nat} {q:Program} {loose:List Str} {XP:(Str->Option Value)->Heap->Prop} {YP:World->Heap->Prop} {d:DefRec} {K:Params->Frag} {CX:World->CXT} {sp:World->Sp} {x:Str}
  (hn:l.most = some n) (hn2:n<=sizeLine) (hdf:d.params.defaults = []) (hr:yb k callerA)
  (hY:∀ (w:World) (h:Heap),YP w h->(K w.params).In h)
  (F:∀ (w:World) (mg:Str->Option Value) (fa:Addr) (h:Heap),(K w.params).In h->h.Ns mainGlobals mg->mg d.name = some (.ref fa)->
   ∃ fd:FuncData,(∀ (s:Shared) (u:Value),BindsTo s fd ⟨[u],[]⟩ [(x,u)])/\
    ∀ base:Heap,(K w.params).In base->base.Ns mainGlobals mg->zp l.prog w (K w.params) mg base (CX w) k fa fd [x] (sp w))
  (hsp:∀ (w:World) (H:Hp) (a:Addr) (ns:List Int),ns.length<=n->(∀ m ∈ ns,Builtin.Int.intBits m<=1048576)->ziq H->SqL (K w.params) H a (ns.map V.int)->sp w [.ref a] H (fun v _=>v = .bl true) fun _ _ _=>False)
  (hCX:∀ (w:World) (H:Hp) (s:Shared) (e:Value) (s':Shared),CX w [] H s (fun _ _ _=>False) e s'->False) :
  PySem.W.WalkO q loose XP YP l.row.toRowW d [] (fun f vs=>PySem.call f vs):=by
 refine Att.zgB hn hdf fun w s₀ s₁ mg mb fa o pm cd doc a vs ns G Y ho hd hcd hmg hobj hints hlen hbits hg=>?_
 have KX:=hY w _ Y
 obtain ⟨fd,hb,hF⟩:=F w mg fa _ KX G.T.g hmg
 exact zeK KX G.T.g G.T.b G.T.builtins G.T.nolimit hg hobj hints (Nat.le_trans hlen hn2) hr hF hb (fun H hO hS=>hsp w H a ns hlen hbits hO hS) fun H e s'=>hCX w H s₁ e s'
section
variable {X:Cx}
theorem zfQ:OpR X (binaryOp .Mult) (rI IntMulOk fun i j=>.int (i * j)):=opI fun _ _ _ _ _ _ _ hc q=>mul_int q hc
end
structure jx (K:Frag) (x qual:Str) (st:Stmt) (f:Addr) (fd:FuncData) (items:List Value):Prop where
 ex:∃ (oc:Value) (od:Option Addr) (T:Addr) (kV doc pm:Value) (an:Option Addr) (cdv ct:Value) (osl:Array (Option Value)) (o:Obj) (n:Nat),
  fd = fnOf x qual (zX st) (zS st) (zg st) (.ref T) kV doc pm an cdv ct/\K.lookup f = some ⟨oc,od,.func fd,osl⟩/\codeIn K cdv qual = true/\K.lookup T = some o/\o.data = .seq items.toArray n
 kp:keepIn K (.ref f) = true
section
variable {P:Program} {w:World} {K:Frag} {mg:Str->Option Value} {base:Heap}
theorem jx.ok {x qual:Str} {st:Stmt} {f:Addr} {fd:FuncData} {items:List Value} {N ps:List Str} {k:Nat} {sp:Sp} (F:jx K x qual st f fd items) (S:zm N ps (zg st)) (len:∀ vs H Q E,sp vs H Q E->vs.length = ps.length)
  (hbody:∀ (cdv:Value) (A:Around) (outer:List Env) (s:Shared) (H:Hp) (vs:List V) (Q:VK) (E:XK),yb k (A.deeper (envOfC qual (zg st) s.heap.objs.size f cdv))->sp vs H Q E->
   ∃ t,PSs (ju CX0 P w K mg base N qual (zg st) f cdv A outer s H E).nox (zS st) t/\t { nx:=fun _ H'=>Q .non H',rt:=Q } (wX N vs) H):zp P w K mg base CX0 (k + 1) f fd ps sp:=by
 obtain ⟨oc,od,T,kV,doc,pm,an,cdv,ct,osl,o,n,rfl,lk,hcd,_,_⟩:=F.ex
 refine zeV lk hcd S len fun A outer s H vs Q E hr hsp=>?_
 obtain ⟨t,h,q⟩:=hbody cdv A outer s H vs Q E hr hsp
 exact ⟨t,h.nox,q⟩
theorem jx.bindsTo {x qual:Str} {st:Stmt} {f:Addr} {fd:FuncData} {items:List Value} (F:jx K x qual st f fd items) {args:Args} {bs:List (Str × Value)}
  (h:∀ (T:Addr) (kV doc pm:Value) (an:Option Addr) (cdv ct:Value),∃ k:Option (Array Value)->Sem (List (Str × Value)),
   bindArgs (fnOf x qual (zX st) (zS st) (zg st) (.ref T) kV doc pm an cdv ct) args = seqItems? (.ref T) >>= k/\k (some items.toArray) = pure bs) {s:Shared} (KX:K.In s.heap):BindsTo s fd args bs:=by
 obtain ⟨oc,od,T,kV,doc,pm,an,cdv,ct,osl,o,n,rfl,lk,hcd,lt,hs⟩:=F.ex
 obtain ⟨k,h1,h2⟩:=h T kV doc pm an cdv ct
 exact BindsTo.of_defaults (T:=T) (n:=n) rfl (KX _ _ lt) hs h1 h2
theorem zgr {x qual:Str} {st:Stmt} {f T:Addr} {oc:Value} {od an:Option Addr} {osl:Array (Option Value)} {kV doc pm cdv ct:Value} {o:Obj} {n:Nat} {items:List Value}
  (l:K.lookup f = some ⟨oc,od,.func (fnOf x qual (zX st) (zS st) (zg st) (.ref T) kV doc pm an cdv ct),osl⟩)
  (c:codeIn K cdv qual = true) (k:keepIn K (.ref f) = true) (lT:K.lookup T = some o) (hs:o.data = .seq items.toArray n) :
  jx K x qual st f (fnOf x qual (zX st) (zS st) (zg st) (.ref T) kV doc pm an cdv ct) items:=⟨⟨oc,od,T,kV,doc,pm,an,cdv,ct,osl,o,n,rfl,l,c,lT,hs⟩,k⟩
end
section
variable {X:Cx} {CX:CXT} {k:Nat} {f C:Addr} {fd:FuncData} {ps ks:List Str} {sp:Sp} {E:XK} {x:Str} {p pos:Pos} {e:Expr} {es:List Expr} {kws:List Keyword} {t tk:TA}
 {g:List Value->List Value->List Value} {gV:List V->List V->List V}
end
theorem wK {t u:TS} {D:wI} {σ : St} {H:Hp} (R:St->Hp->Prop) (h2:∀ σ H,R σ H->u D σ H) (h1:(∀ σ H,R σ H->u D σ H)->t { D with nx:=u D } σ H):vK t u D σ H:=h1 h2
def lcN (n i:Nat) (D:Addr) (Pv:Nat->List V->Hp->Prop) (ys:List V):VK:=fun v H4=>H4 D = some (.lst ys)/\ys.length < sizeLine/\∃ m',m' < n - i/\m' = n - (i + 1)/\i + 1<=n/\Pv (i + 1) (ys ++ [v]) (upd H4 D (.lst (ys ++ [v])))
def lcS (n i:Nat) (Pv:Nat->List V->Hp->Prop) (ys:List V):Hp->Prop:=fun H4=>∃ m',m' < n - i/\m' = n - (i + 1)/\i + 1<=n/\Pv (i + 1) ys H4
theorem lcN.mk {n i:Nat} {D:Addr} {Pv:Nat->List V->Hp->Prop} {ys:List V} {v:V} {H4:Hp} (hi:i < n) (hn:n<=sizeLine) (hD:H4 D = some (.lst ys)) (hy:ys.length<=i) (p:Pv (i + 1) (ys ++ [v]) (upd H4 D (.lst (ys ++ [v])))):lcN n i D Pv ys v H4:=
 ⟨hD,by omega,n - (i + 1),by omega,rfl,hi,p⟩
theorem lcS.mk {n i:Nat} {Pv:Nat->List V->Hp->Prop} {ys:List V} {H4:Hp} (hi:i < n) (p:Pv (i + 1) ys H4):lcS n i Pv ys H4:=⟨n - (i + 1),by omega,rfl,hi,p⟩
theorem xt {K:Frag} {a:Addr} {xs:List V} {caps:List (Option Nat)} {g:TG} {tt:TT} {te:TE} {σ : St} {H1:Hp} {Q:VK} {D:Addr} (Pv:Nat->List V->Hp->Prop) (h0:Pv 0 [] (upd H1 D (.lst [])))
  (hl:∀ i ys H,Pv i ys H->SqL K H a xs)
  (hs:∀ i x ys H,i < xs.length->xs[i]? = some x->Pv i ys H->g x (yS caps σ) H fun σ2 H2=>tt σ2 H2 fun ok H3=>(ok = true->te σ2 H3 (lcN xs.length i D Pv ys))/\(ok = false->lcS xs.length i Pv ys H3))
  (hd:∀ ys H,Pv xs.length ys H->Q (.ref D) H):LCr (Itl K a) caps g tt te σ H1 Q D:=by
 refine ⟨fun i m ys H=>m = xs.length - i/\i<=xs.length/\Pv i ys H,⟨xs.length,by simp,Nat.zero_le _,h0⟩,?_⟩
 rintro i m ys H ⟨rfl,hi,p⟩
 have q:=hl i ys H p
 by_cases hlt:i < xs.length
 ·refine .inr ⟨⟨xs,xs[i],q,by simp [hlt]⟩,fun x H' y=>?_⟩
  obtain ⟨e,y⟩:=y
  subst e
  exact hs i x ys _ hlt (y xs q) p
 ·have e:i = xs.length:=by omega
  subst e
  exact .inl ⟨⟨xs,q,Nat.le_refl _⟩,hd ys H p⟩
theorem yP {H:Hp} {x dx:Addr} {o1:HO} (hx:H x = none) (hd:H dx = none):zl H (upd (upd H dx (.own x)) x o1):=fun b u q=>by
 rw [zf (ze q hx),zf (ze q hd)]
 exact q
theorem zc {H:Hp} {p:Addr} (h:H p = none) (o:HO):zl H (upd H p o):=fun b u q=>by rw [zf (ze q h)]; exact q
theorem uZ {lo:Int} {n:Nat} {caps:List (Option Nat)} {g:TG} {tt:TT} {te:TE} {σ : St} {H1:Hp} {Q:VK} {D:Addr} (Pv:Nat->List V->Hp->Prop) (h0:Pv 0 [] (upd H1 D (.lst [])))
  (hs:∀ i ys H,i < n->Pv i ys H->g (.int (lo + i)) (yS caps σ) H fun σ2 H2=>tt σ2 H2 fun ok H3=>(ok = true->te σ2 H3 (lcN n i D Pv ys))/\(ok = false->lcS n i Pv ys H3))
  (hd:∀ ys H,Pv n ys H->Q (.ref D) H):LCr (Itr lo n) caps g tt te σ H1 Q D:=by
 refine ⟨fun i m ys H=>m = n - i/\i<=n/\Pv i ys H,⟨n,by simp,Nat.zero_le _,h0⟩,?_⟩
 rintro i m ys H ⟨rfl,hi,p⟩
 by_cases hlt:i < n
 ·refine .inr ⟨hlt,fun x H' y=>?_⟩
  obtain ⟨e,y⟩:=y
  subst e y
  exact hs i ys _ hlt p
 ·have e:i = n:=by omega
  subst e
  exact .inl ⟨Nat.le_refl _,hd ys H p⟩
theorem zgj {K:Frag} {a:Addr} {xs:List V} {caps:List (Option Nat)} {g:TG} {tt:TT} {te:TE} {σ : St} {H1:Hp} {Q:VK} {D:Addr} (Pv:Nat->List V->Hp->Prop) (h0:Pv 0 [] (upd H1 D (.lst [])))
  (hl:∀ i ys H,Pv i ys H->SqL K H a xs)
  (hs:∀ i x p ys H,i < xs.length->xs[i]? = some x->Pv i ys H->H p = none->g (.ref p) (yS caps σ) (upd H p (.tup [.int i,x])) fun σ2 H2=>tt σ2 H2 fun ok H3=>(ok = true->te σ2 H3 (lcN xs.length i D Pv ys))/\(ok = false->lcS xs.length i Pv ys H3))
  (hd:∀ ys H,Pv xs.length ys H->Q (.ref D) H):LCr (Ite K a) caps g tt te σ H1 Q D:=by
 refine ⟨fun i m ys H=>m = xs.length - i/\i<=xs.length/\Pv i ys H,⟨xs.length,by simp,Nat.zero_le _,h0⟩,?_⟩
 rintro i m ys H ⟨rfl,hi,p⟩
 have q:=hl i ys H p
 by_cases hlt:i < xs.length
 ·refine .inr ⟨⟨xs,xs[i],q,by simp [hlt]⟩,fun x H' y=>?_⟩
  obtain ⟨pp,y,rfl,hp,y2,rfl⟩:=y
  exact hs i y pp ys H hlt (y2 xs q) p hp
 ·have e:i = xs.length:=by omega
  subst e
  exact .inl ⟨⟨xs,q,Nat.le_refl _⟩,hd ys H p⟩
theorem vG {K:Frag} {a:Addr} {xs:List V} {g:TG} {tb:TS} {D:wI} {σ : St} {H:Hp} (Pv:Nat->St->Hp->Prop) (h0:Pv 0 σ H) (hl:∀ i σ H,i<=xs.length->Pv i σ H->SqL K H a xs)
  (hs:∀ i x p σ H,xs[i]? = some x->Pv i σ H->H p = none->g (.ref p) σ (upd H p (.tup [.int i,x])) fun σ2 H2=>tb { D with nx:=Pv (i + 1),ct:=Pv (i + 1),bk:=D.nx } σ2 H2) (hd:∀ σ H,Pv xs.length σ H->D.nx σ H) :
  ∃ W:Nat->Nat->St->Hp->Prop,(∃ m,W 0 m σ H)/\∀ i m σ H,W i m σ H->
   ((Ite K a).stop i H/\D.nx σ H)\/((Ite K a).go i H/\∃ N:St->Hp->Prop,(∀ σ' H',N σ' H'->∃ m',m' < m/\W (i + 1) m' σ' H')/\∀ x H',(Ite K a).yld i H x H'->g x σ H' fun σ2 H2=>tb { D with nx:=N,ct:=N,bk:=D.nx } σ2 H2):=by
 refine ⟨fun i m σ H=>m = xs.length - i/\i<=xs.length/\Pv i σ H,⟨xs.length,by simp,Nat.zero_le _,h0⟩,?_⟩
 rintro i m σ H ⟨rfl,hi,p⟩
 have q:=hl i σ H hi p
 by_cases hlt:i < xs.length
 ·refine .inr ⟨⟨xs,xs[i],q,by simp [hlt]⟩,Pv (i + 1),fun σ' H' p'=>⟨xs.length - (i + 1),by omega,rfl,hlt,p'⟩,fun x H' y=>?_⟩
  obtain ⟨pp,y,rfl,hp,y2,rfl⟩:=y
  exact hs i y pp σ H (y2 xs q) p hp
 ·have e:i = xs.length:=by omega
  subst e
  exact .inl ⟨⟨xs,q,Nat.le_refl _⟩,hd σ H p⟩
section
variable {X:Cx} {pins:List (Addr × Obj)} {σ : St} {H H':Hp} {s s':Shared} {ea:Addr} {cls:Value} {vs:List Value} {h':Heap} {M:Model} {E:Value->Shared->Prop}
theorem jU (hstk:X.stack = X.env :: X.outer) (hfl:X.env.frame = some X.env.locals):frs X.stack = X.env.locals :: frs X.outer:=by
 rw [hstk]
 unfold frs
 rw [List.filterMap_cons,hfl]
theorem HOk.sameAt {P:Program} {w:World} {h h':Heap} (x:HOk P w H h) (k:∀ b u o,H b = some u->h.get? b = some o->h'.get? b = some o):HOk P w H h':=fun a o e=>
 (x a o e).stay (fun b u hb q=>by
  rcases hb with z | z
  ·exact k b o u (by rw [z]; exact e) q
  ·exact k b _ u z q) (fun _ q=>q) fun _ _ q=>q
theorem HOk.rec {P:Program} {w:World} {h:Heap} (x:HOk P w H h) {b:Addr} {u:HO} (e:H b = some u):∃ o,h.get? b = some o:=by
 have q:=x b u e
 cases u with
 | lst xs=>obtain ⟨_,_,_,_,e⟩:=q; exact ⟨_,e⟩
 | tup xs=>obtain ⟨_,_,_,o,e,_⟩:=q; exact ⟨_,e⟩
 | dK kvs=>obtain ⟨_,_,_,_,o,_,_,e,_⟩:=q; exact ⟨_,e⟩
 | dT kvs=>obtain ⟨_,_,_,_,o,_,_,e,_⟩:=q; exact ⟨_,e⟩
 | set S n=>obtain ⟨o,_,_,_,e,_⟩:=q; exact ⟨_,e⟩
 | ins C dx fs=>obtain ⟨_,_,_,e,_⟩:=q; exact ⟨_,e⟩
 | own y=>exact q
 | xd fs=>obtain ⟨_,⟨o,_,_,e,_⟩,_⟩:=q; exact ⟨_,e⟩
 | rng lo hi=>obtain ⟨_,_,_,e⟩:=q; exact ⟨_,e⟩
 | frz ob u=>obtain ⟨e,_⟩:=q; exact ⟨_,e⟩
 | tbl ps=>exact ⟨_,q⟩
 | met f y=>exact ⟨_,q⟩
 | ext φ=>exact q.2.1
end
section
variable {X:Cx} {E:XK} {x:Str} {C:Addr} {B Bn newId nid initId inN:String} {bm bmN:List Value} {np cpos pos:Pos} {e:Expr} {es:List Expr} {t:TA}
end
section
variable {P:Program} {w:World} {K:Frag} {mg:Str->Option Value} {base:Heap} {N:List Str} {qual:Str} {scope:Scope} {f:Addr} {cd:Value} {A:Around} {outer:List Env} {s:Shared} {H:Hp} {E E':XK}
end
section
variable {X:Cx} {k:Nat} {f:Addr} {fd:FuncData} {ps:List Str} {sp:Sp} {E:XK} {x:Str} {p pos:Pos} {e:Expr} {es:List Expr} {t:TA}
end
section
variable {X:Cx} {pins:List (Addr × Obj)} {σ : St} {H H':Hp} {s s':Shared} {ea a:Addr} {cls:Value} {o:HO} {h5:Heap}
theorem Inv.track (I:Inv X pins σ H s) (hn:H a = none) (new:ye X.prog X.w (upd H a o) s.heap a o) (h0:∀ u,X.s₀.heap.get? a = some u->X.H₀ a = none->a ∉ X.ex->False) (hL:X.env.locals ≠ a)
  (hc:∀ x c,X.env.cells.lookup x = some c->c ≠ a) (hp:∀ p ∈ X.pn ++ pins,p.1 ≠ a):Inv X pins σ (upd H a o) s:=by
 refine ⟨I.ok,I.os,I.bare,⟨I.base.keep,I.base.slot,fun b u e n x=>?_,I.base.there,fun b xs e=>?_,fun b u v e=>?_,fun b ps e=>?_⟩,I.loc,I.cell,?_,fun x c e=>?_,fun p hp'=>?_,fun b u e=>?_,I.len⟩
 ·have hb:b ≠ a:=fun z=>by subst z; exact h0 u e n x
  rw [zf hb]
  exact I.base.free b u e n x
 ·have e1:=I.base.tups b xs e
  rw [zf (ze e1 hn)]; exact e1
 ·have e1:=I.base.frzs b u v e
  rw [zf (ze e1 hn)]; exact e1
 ·obtain ⟨more,e1⟩:=I.base.tbls b ps e
  exact ⟨more,by rw [zf (ze e1 hn)]; exact e1⟩
 ·rw [zf hL]; exact I.free
 ·rw [zf (hc x c e)]; exact I.freeC x c e
 ·obtain ⟨q1,q2,q3⟩:=I.pin p hp'
  exact ⟨q1,by rw [zf (hp p hp')]; exact q2,q3⟩
 ·by_cases hb:b = a
  ·subst hb; rw [za] at e; cases e; exact new
  ·rw [zf hb] at e
   exact (I.hok b u e).stay (fun _ _ _ q=>q) (fun c q=>by rw [zf (ze q hn)]; exact q) fun c xs q=>by rw [zf (ze q hn)]; exact q
end
section
variable {X:Cx} {pins:List (Addr × Obj)} {σ : St} {H:Hp} {s:Shared} {M:Model} {A:Around} {E:Value->Shared->Prop} {i:Nat} {n:Str} {pos:Pos}
end
structure PE1 (X:Cx) (pins:List (Addr × Obj)) (σ : St) (e:Expr) (t:TE):Prop where
 run:∀ (s:Shared) (H:Hp) (Q:VK),Inv X pins σ H s->t σ H Q->wpAny (model X.prog X.w) X.A (eval e X.env) (EP X pins σ Q) X.xe s
structure PS1 (X:Cx) (pins:List (Addr × Obj)) (σ : St) (st:Stmt) (t:TS):Prop where
 run:∀ (s:Shared) (H:Hp) (D:wI),Inv X pins σ H s->t D σ H->wpAny (model X.prog X.w) X.A (exec st X.env) (SP X pins D) X.xe s
section
variable {X:Cx} {pins:List (Addr × Obj)} {σ : St} {e:Expr} {es:List Expr} {te ta:TE} {t tr:TA} {E:XK} {x m:Str} {p pos apos:Pos} {k:Nat} {f C:Addr} {fd:FuncData} {ps:List Str} {sp:Sp} {o:Expr} {dvs:List V} {ds:List Value}
theorem zhE {i:Nat} {pos':Pos} (hN:X.N.Nodup) (hi:X.N[i]? = some x) (hx:Loc X.env.scope x) (he:PE1 X pins σ e te) (hs:swapsWith e (some (.Name x pos')) pos.line X.env = pure false:=by rfl)
  (hf:X.fn x = true\/X.env.scope.names.lookup x = some .local:=by first | exact .inl rfl | exact .inr rfl | assumption):PS1 X pins σ (.Assign [.Name x pos'] e pos) (zfo te (zO i)):=by
 refine ⟨fun s H D I h=>?_⟩
 refine wpAny_Assign_Name (thn (he.run s H _ I h) fun v s1 ⟨y,H1,I1,r1,q1⟩=>?_) hs
 exact uB I1 hN hi hx r1 (fun s2 I2=>⟨_,H1,I2,q1⟩) hf
end
abbrev Cx.suite (X:Cx) (ea:Addr):Cx:={ X with A:=X.A.mark (some (.ref ea)),calm:=false,xe:=fun _ _=>False }
section
variable {X:Cx} {pins:List (Addr × Obj)} {σ : St} {H:Hp} {s:Shared} {ea:Addr}
theorem Inv.suite (I:Inv X pins σ H s) (ea:Addr):Inv (X.suite ea) pins σ H s:=
 ⟨⟨I.ok.mod,I.ok.kind,I.ok.glob,I.ok.blt,I.ok.above,I.ok.inj,I.ok.has,I.ok.cab,(fun z=>Bool.noConfusion z),I.ok.frames,I.ok.stk,I.ok.exf,I.ok.bs,I.ok.bsz,I.ok.noex,I.ok.exfs,I.ok.funs,I.ok.frf⟩,I.os,I.bare,I.base,I.loc,I.cell,I.free,I.freeC,I.pin,I.hok,I.len⟩
theorem Inv.unsuite (hok:X.Ok) (I:Inv (X.suite ea) pins σ H s):Inv X pins σ H s:=
 ⟨hok,I.os,I.bare,I.base,I.loc,I.cell,I.free,I.freeC,I.pin,I.hok,I.len⟩
abbrev ziv (X:Cx) (pins:List (Addr × Obj)) (D:wI) (hs:List ExceptHandler):Value->Shared->Prop:=fun e s₁=>
 wpAny (model X.prog X.w) X.A (noteFrame e X.env) (fun _ s₂=>wpAny (model X.prog X.w) X.A (setFlight e none) (fun _ s₃=>wpAny (model X.prog X.w) X.A (handleBy e X.env hs) (SP X pins D) X.xe s₃) X.xe s₂) X.xe s₁
variable {st b₀:Stmt} {suite:List Stmt} {c n:Str} {np hpos pos:Pos} {C:Addr} {i:Nat} {tb:XK->TS} {ts:TS} {ok:Value->Prop}
end
end L2
namespace L2
open PySem PySem.W PySem.Builtin PySem.Builtin.ObjectAttr PySem.Builtin.Getset_descriptor PySem.Spec PyProof.Rows
structure zff (K:Frag) (D:Addr):Prop where
 cd:(clsIn K D).isSome = true
 ga:findIn K (.ref D) "__getattribute__" = some (some (.builtin "BaseException.__getattribute__"))
 no:findIn K (.ref D) "__getattr__" = some none
 cl:findIn K (.ref D) "__class__" = some (some (.builtin "object.__class__"))
 gt:specialIn K (.builtin "object.__class__") "__get__" = some (some (.builtin "getset_descriptor.__get__"))
 tk:takesIn K (.builtin "object.__class__") = some true
 be:mroIn K D (.type "BaseException") = some true
 ob:mroIn K D (.type "object") = some true
section
variable {prog:Program} {w:World} {A:Around} {E:Value->Shared->Prop} {s:Shared} {K:Frag} {x D:Addr}
end
end L2
namespace L2
open PySem PySem.Spec PyProof.Rows
section
variable {X:Cx}
end
section
variable {P:Program} {w:World} {K:Frag} {mg:Str->Option Value} {base:Heap}
end
section
variable {X:Cx} {k:Nat} {f:Addr} {fd:FuncData} {ps:List Str} {sp:Sp} {x:Str} {p pos:Pos} {e:Expr} {es:List Expr} {t:TA}
end
abbrev vZ (n:Int):Obj:={ cls:=.type "range_iterator",data:=.fields #[rawInt (n - 1),rawInt n,rawInt (-1)] }
section
variable {prog:Program} {w:World} {A:Around} {E:Value->Shared->Prop} {s:Shared} {r:Addr} {n:Int} {t u v:Tok}
theorem zcO (h0 : 0<=n) (h1:n < 2 ^ 62):(Builtin.Range.rangeFitsLong 0 && Builtin.Range.rangeFitsLong n && Builtin.Range.rangeFitsLong 1 && Builtin.Range.rangeFitsLong (-1) && Builtin.Range.rangeFitsLong (0 - 1) && Builtin.Range.rangeFitsLong (Builtin.Range.rangeSize 0 n 1)) = true:=by
 have e:Builtin.Range.rangeSize 0 n 1 = n:=by rw [rangeSize_one]; split <;> omega
 rw [e]
 have f:Builtin.Range.rangeFitsLong n = true:=by unfold Builtin.Range.rangeFitsLong; simp; omega
 rw [f]
 decide
theorem zdk {Q:Value->Shared->Prop} (hr:IsRange s.heap r 0 n 1 t u v) (h0 : 0<=n) (h1:n < 2 ^ 62) (h:Q (.ref s.heap.objs.size) { s with heap:=s.heap.push (vZ n) }) :
  wpAny (model prog w) A (call (.builtin "range.__reversed__") [.ref r]) Q E s:=by
 have hT:s.TypeIs (.ref r) "range":=⟨_,hr,rfl⟩
 have e:Builtin.Range.rangeSize 0 n 1 = n:=by rw [rangeSize_one]; split <;> omega
 refine wpAny_call_entry F.slot_range_reversed hT F.entry_range_reversed ?_ (F.args_range_reversed_1 (.ref r))
 unfold Builtin.«range.__reversed__»
 refine wpAny_bind (wpAny_of_eq (a:=Value.ref r) (by rfl) ?_)
 have rf:∀ (Q':Int × Int × Int->Shared->Prop) (E':Value->Shared->Prop) (A':Around),Q' (0,n,1) s->wpAny (model prog w) A' (Builtin.Range.rangeFields (.ref r)) Q' E' s:=by
  intro Q' E' A' q
  unfold Builtin.Range.rangeFields
  refine wpAny_bind (wpAny_field hr rfl (x:=.int 0 t) rfl (wpAny_bind (wpAny_of_eq (a:=some (0:Int)) (by rfl) ?_)))
  refine wpAny_bind (wpAny_field hr rfl (x:=.int n u) rfl (wpAny_bind (wpAny_of_eq (a:=some n) (by rfl) ?_)))
  refine wpAny_bind (wpAny_field hr rfl (x:=.int 1 v) rfl (wpAny_bind (wpAny_of_eq (a:=some (1:Int)) (by rfl) ?_)))
  exact wpAny_pure q
 refine wpAny_bind (rf _ _ _ ?_)
 dsimp only
 rw [zcO h0 h1]
 simp only [Bool.not_true,Bool.false_eq_true,if_false,if_true]
 rw [e]
 unfold newFields
 refine wpAny_bind (wpAny_newObj_type (wpAny_pure ⟨_,rfl,?_⟩))
 have e2:(0:Int) + (n - 1) * 1 = n - 1:=by omega
 rw [e2]
 exact h
theorem ze8 {Q:Value->Shared->Prop} (hr:IsRange s.heap r 0 n 1 t u v) (h0 : 0<=n) (h1:n < 2 ^ 62) (h:Q (.ref s.heap.objs.size) { s with heap:=s.heap.push (vZ n) }) :
  codeAny (model prog w) A (.call (.builtin "reversed.__new__") ⟨[.type "reversed",.ref r],[]⟩) (wants Q E) s:=by
 have hT:s.TypeIs (.ref r) "range":=⟨_,hr,rfl⟩
 refine codeAny_of_tree ?_
 show wpAny _ A.in1 (do checkBuiltinCall "reversed.__new__" ⟨[.type "reversed",.ref r],[]⟩; again (.builtin "reversed.__new__" ⟨[.type "reversed",.ref r],[]⟩)) _ _ s
 refine wpAny_bind (wpAny_of_eq (F.newCall_reversed_1 (.ref r)) (wpAny_pure ⟨plainId_quiet F.plain_reversed_new _,?_⟩))
 refine codeAny_builtin F.entry_reversed_new ?_
 rw [Around.under_plainId F.plain_reversed_new (⟨[.type "reversed",.ref r],[]⟩:Args)]
 unfold Builtin.«reversed.__new__»
 refine wpAny_bind (wpAny_of_eq (newClass_reversed (.ref r)) ?_)
 try dsimp only
 refine wpAny_bind (wpAny_of_eq (a:=Unit.unit) (by first | rfl | kernel_rfl) ?_)
 refine wpAny_bind (wpAny_of_eq (a:=Unit.unit) (by first | rfl | kernel_rfl) ?_)
 try dsimp only
 refine wpAny_bind (wpAny_specialOf hT F.slot_range_reversed.lookup ?_)
 try dsimp only
 refine wpAny_bind (wpAny_of_eq (F.slot_range_reversed.bind (.ref r)) ?_)
 try dsimp only
 have hn:¬ ((Value.builtin "range.__reversed__" == Value.none) = true):=Bool.false_ne_true
 first
 | rw [if_neg hn]
 | (show wpAny _ _ (if (Value.builtin "range.__reversed__" == Value.none) = true then _ else _) _ _ _; rw [if_neg hn])
 refine wpAny_bind (wpAny_rule ?_)
 have c1:∀ (Q':Value->Shared->Prop) (E':Value->Shared->Prop) (A':Around),Q' (.ref s.heap.objs.size) { s with heap:=s.heap.push (vZ n) }->wpAny (model prog w) A' (runValue (.call (.builtin "range.__reversed__") ⟨[.ref r],[]⟩)) Q' E' s:=fun Q' E' A' q=>zdk hr h0 h1 q
 refine wpAny_bind (c1 _ _ _ ?_)
 first
 | exact wpAny_pure h
 | exact wpAny_bind (wpAny_pure (wpAny_pure h))
theorem za2:isSubtype (.type "range_iterator") (.type "reversed") = pure false:=by rw [isSubtype_type]; kernel_rfl
theorem ze9 {Q:Value->Shared->Prop} (hr:IsRange s.heap r 0 n 1 t u v) (h0 : 0<=n) (h1:n < 2 ^ 62) (h:Q (.ref s.heap.objs.size) { s with heap:=s.heap.push (vZ n) }) :
  wpAny (model prog w) A (call (.type "reversed") [.ref r]) Q E s:=by
 refine callType_other (U:="range_iterator") (Q₁:=fun obj s₁=>obj = .ref s.heap.objs.size/\s₁ = { s with heap:=s.heap.push (vZ n) }) (by decide +kernel) F.create_reversed ⟨_,_,F.mro_reversed⟩
  F.made_reversed za2 (F.typeCall_reversed_1 (.ref r)) (ze8 hr h0 h1 ⟨rfl,rfl⟩) ?_
 rintro obj s₁ ⟨rfl,rfl⟩
 exact ⟨⟨_,Heap.get?_push_size _ rfl,rfl⟩,h⟩
end
theorem zfb:bootBuiltins "reversed" = some (.type "reversed"):=by decide +kernel
def zfe (n:Nat):It:=⟨fun i _=>i < n,fun i H x H'=>H' = H/\x = .int ((n:Int) - 1 - i),fun i _=>n<=i⟩
theorem zdv {P:Program} {w:World} {K:Frag} {tg:Expr} (it:Addr) (n:Nat):qM P w K tg (zfe n) [it] it (fun i h=>IsRangeIter h it (((n:Int) - 1) + (i:Nat) * (-1)) ((n:Int) - (i:Nat)) (-1)) where
 mem:=by simp
 obj:=fun i h st b hb=>by
  have e:b = it:=by simpa using hb
  subst e
  exact ⟨_,st,fun v z=>by
   have z':Data.fields _ = Data.cell v:=z
   cases z'⟩
 keep:=fun i h h' st k=>k it (by simp) _ st
 item:=by
  intro X hP hw hK hc i pins s σ H E I hf st hg
  subst hP hw hK
  obtain ⟨f0,f1,f2,f3,f4,f5⟩:=hf it (by simp)
  have W:=Walks.range (prog:=X.prog) (w:=X.w) (I.ok.hd hc) it ((n:Int) - 1) (-1) n
  refine W.item i s _ _ hg st fun v h' tk hv st' kk=>?_
  obtain ⟨t,rfl⟩:=hv
  have I1:Inv X pins σ H { s with heap:=h',toks:=tk }:=I.turned (fun b o hb e=>kk b o (by simpa using hb) e) f0 f1 f3 f4 f5
  refine ⟨_,rfl,zcs (s:={ s with heap:=h',toks:=tk }) (n:="range_iterator") st' rfl rfl (by decide) ⟨.int ((n:Int) - 1 - i),H,I1,⟨t,?_⟩,⟨rfl,rfl⟩,st',fun b hb=>(hf b hb).1⟩⟩
  have e:(n:Int) - 1 + (i:Int) * -1 = (n:Int) - 1 - i:=by omega
  rw [e]
 done:=by
  intro X hP hw hK hc i pins s σ H E I hf st hg
  subst hP hw hK
  obtain ⟨f0,f1,f2,f3,f4,f5⟩:=hf it (by simp)
  exact wpAny_pyNext_range_end (I.ok.hd hc) st (by have:n<=i:=hg; omega) fun h' eb=>⟨rfl,I.turned (t':=s.toks) (fun b o hb e=>eb b o hb e) f0 f1 f3 f4 f5⟩
 self:=fun _ _ _ _ _ st h=>wpAny_pyIter_rangeiter st h
section
variable {X:Cx} {tg:Expr}
def zj5 (ta:TA):TI:=fun σ H R=>ta σ H fun vs H1=>∃ j:Nat,vs = [.int j]/\(j:Int) < 2 ^ 62/\R (zfe j) H1
theorem zec {a:Expr} {ta:TA} {p p2 pos pos2:Pos} (hg:Gl X "range") (hm:X.mg "range" = none) (hg2:Gl X "reversed") (hm2:X.mg "reversed" = none) (ha:PA X [a] ta) (h1:xS a = false:=by rfl) :
  PI X tg (.Call (.Name "reversed" p) [.Call (.Name "range" p2) [a] [] pos2] [] pos) (zj5 ta):=by
 refine ⟨?_⟩
 intro pins s σ H R I h
 refine Call_ (xD I hg2 hm2 zfb (PyProof.Rows.callWith_type1 ?_ (z8 rfl) rfl))
 rw [z8 (show xS (.Call (.Name "range" p2) [a] [] pos2) = false from rfl)]
 show wpAny _ _ (spliced ((false,eval (.Call (.Name "range" p2) [a] [] pos2) X.env) :: backTo pos (starEach [] X.env))) _ _ s
 refine Calls.spliced_cons ?_
 refine Call_ (xD I hg hm boot_range (PyProof.Rows.callWith_type1 (thn (ha pos2 pins s σ H _ I h) fun us s1 ⟨vs,H1,I1,r1,j,e,hj,q⟩=>?_) (z8 h1) rfl))
 subst e
 cases r1 with
 | cons r rr=>
  cases rr
  obtain ⟨t,rfl⟩:=r
  refine call_range_1 (Calls.spliced_nil ?_)
  refine ze9 (IsRange.new ..) (by omega) hj ?_
  generalize hg1:s1.heap.push { cls:=.type "range",data:=.fields #[.int 0 s1.toks,.int j t,.int 1 (s1.toks + 1)] } = hh
  have k1:∀ b o,s1.heap.get? b = some o->hh.get? b = some o:=fun b o e=>by rw [<- hg1]; exact Heap.get?_push_of_some _ e
  have I2:Inv X pins σ H1 { s1 with heap:=hh,toks:=s1.toks + 1 + 1 }:=I1.kept k1
  have hit:IsRangeIter (hh.push (vZ j)) hh.objs.size ((j:Int) - 1) j (-1):=Heap.get?_push_size _ rfl
  refine wpAny_pyIter_rangeiter (s:={ s1 with heap:=hh.push (vZ j),toks:=s1.toks + 1 + 1 }) hit ?_
  have I3:Inv X pins σ H1 { s1 with heap:=hh.push (vZ j),toks:=s1.toks + 1 + 1 }:=I2.kept fun b o e=>Heap.get?_push_of_some _ e
  refine ⟨hh.objs.size,[hh.objs.size],_,_,H1,rfl,I3,zdv _ j,?_,fun b hb=>?_,q⟩
  ·show IsRangeIter _ _ (((j:Int) - 1) + ((0:Nat):Int) * (-1)) ((j:Int) - ((0:Nat):Int)) (-1)
   have e1:((j:Int) - 1) + ((0:Nat):Int) * (-1) = (j:Int) - 1:=by simp
   have e2:(j:Int) - ((0:Nat):Int) = j:=by simp
   rw [e1,e2]
   exact hit
  ·have e:b = hh.objs.size:=by simpa using hb
   subst e
   exact I2.fpOk (Nat.le_refl _) (I2.hok.fresh (Nat.le_refl _))
theorem zcv {n:Nat} {g:TG} {tb:TS} {D:wI} {σ : St} {H:Hp} (Pv:Nat->St->Hp->Prop) (h0:Pv 0 σ H)
  (hs:∀ i σ H,i < n->Pv i σ H->g (.int ((n:Int) - 1 - i)) σ H fun σ2 H2=>tb { D with nx:=Pv (i + 1),ct:=Pv (i + 1),bk:=D.nx } σ2 H2) (hd:∀ σ H,Pv n σ H->D.nx σ H) :
  ∃ W:Nat->Nat->St->Hp->Prop,(∃ m,W 0 m σ H)/\∀ i m σ H,W i m σ H->
   ((zfe n).stop i H/\D.nx σ H)\/((zfe n).go i H/\∃ N:St->Hp->Prop,(∀ σ' H',N σ' H'->∃ m',m' < m/\W (i + 1) m' σ' H')/\∀ x H',(zfe n).yld i H x H'->g x σ H' fun σ2 H2=>tb { D with nx:=N,ct:=N,bk:=D.nx } σ2 H2):=by
 refine ⟨fun i m σ H=>m = n - i/\i<=n/\Pv i σ H,⟨n,by simp,Nat.zero_le _,h0⟩,?_⟩
 rintro i m σ H ⟨rfl,hi,p⟩
 by_cases hlt:i < n
 ·refine .inr ⟨hlt,Pv (i + 1),fun σ' H' p'=>⟨n - (i + 1),by omega,rfl,hlt,p'⟩,fun x H' y=>?_⟩
  obtain ⟨e,y⟩:=y
  subst e y
  exact hs i σ _ hlt p
 ·have e:i = n:=by omega
  subst e
  exact .inl ⟨Nat.le_refl _,hd σ H p⟩
end
theorem PS.nox {X:Cx} {st:Stmt} {t:TS} (h:PS X.nox st t):PS X st t:=⟨fun pins s σ H D I q=>wpAny_mono (h pins s σ H D (I.wish _) q) (fun f s' r=>SP.unwish r) fun _ _ z=>z.elim⟩
section
variable {X:Cx} {o i:Expr} {to ti:TE} {pos tpos:Pos}
def ziS (to ti:TE):TS:=fun D σ H=>to σ H fun x H1=>ti σ H1 fun y H2=>∃ (a:Addr) (xs:List V) (k:Nat),x = .ref a/\y = .int k/\H2 a = some (.lst xs)/\k < xs.length/\(k:Int) < 2 ^ 63/\D.nx σ (upd H2 a (.lst (xs.eraseIdx k)))
theorem zfG (ho:PE X o to) (hi:PE X i ti):PS X (.Delete [.Subscript o i tpos] pos) (ziS to ti):=by
 refine ⟨?_⟩
 intro pins s σ H D I h
 refine wpAny_Delete (wpAny_deleteEach_cons (wpAny_delete_Subscript (thn (ho pins s σ H _ I h) fun u s1 ⟨x,H1,I1,rx,q1⟩=>thn (hi pins s1 σ H1 _ I1 q1) fun iv s2 ⟨y,H2,I2,ry,a,xs,k,ex,ey,e,hk,h63,q2⟩=>?_)))
 subst ex ey
 cases rx
 obtain ⟨t,rfl⟩:=ry
 have hx:seqIndex? (k:Int) xs.length = some k:=by
  unfold seqIndex?
  simp
  omega
 exact ze2 I2 e (by omega) h63 hx fun s3 I3=>wpAny_deleteEach_nil ⟨σ,_,I3,q2⟩
def zjJ:R2:=fun x y H Q=>∃ (a c:Addr) (xs ys:List V),x = .ref a/\y = .ref c/\H a = some (.lst xs)/\H c = some (.lst ys)/\xs.length ≠ ys.length/\Q (.bl false) H
theorem zaq (hu:X.A.units < cLine):OpR X (compareOp .Eq) zjJ:=by
 intro pins s σ H x y v u Q I rx ry h
 obtain ⟨a,c,xs,ys,rfl,rfl,ha,hc,hn,q⟩:=h
 cases rx
 cases ry
 obtain ⟨its,r,pl,_⟩:=I.list (SqL.of ha)
 obtain ⟨its2,r2,pl2,_⟩:=I.list (SqL.of hc)
 have e1:=r.length
 have e2:=r2.length
 exact PySem.SeqAt.eq_list_lengthsAt pl.isList pl2.isList (by simp only [List.size_toArray,bne_iff_ne]; omega) hu ⟨.bl false,H,I,rfl,q⟩
end
section
variable {X:Cx} {pins:List (Addr × Obj)} {σ : St} {e:Expr} {te:TE} {pos p:Pos} {C:Addr} {x:Str}
end
theorem xx {H H1:Hp} {x dx:Addr} {o1 o2:HO} (hx:H x = none) (hd:H dx = none) (s:zl (upd (upd H dx (.own x)) x o1) H1):zl H (upd H1 x o2):=fun b u q=>by
 rw [zf (ze q hx)]
 exact s _ _ (yP hx hd b u q)
structure zdo (P:Program) (w:World) (K:Frag) (mg:Str->Option Value) (base:Heap) (CX:CXT) (k:Nat) (x:Str) (C i:Addr) (fd:FuncData) (ps:List Str) (ds:List Value) (sp:Sp):Prop where
 mkr:Mk K C i
 ok:zp P w K mg base CX k i fd ps sp
 mg:mg x = some (.ref C)
 bd:zQ K fd ps ds
section
variable {X:Cx} {CX:CXT} {k:Nat} {C i f:Addr} {fd:FuncData} {ps ks:List Str} {sp:Sp} {E:XK} {x m:Str} {p pos apos:Pos} {e:Expr} {es:List Expr} {t tk:TA} {ds:List Value} {dvs:List V} {kws:List Keyword}
 {g:List Value->List Value->List Value} {gV:List V->List V->List V}
theorem cMk (c:zdo X.prog X.w X.K X.mg X.base CX k x C i fd ps ds sp) (hd:zJ dvs ds) (hp:xj CX X E) (hr:yb (k + 1) X.A) (ha:PA X (e :: es) t) (hg:Gl X x:=by rfl) (hdb:(x == ("__debug__" : Str)) = false:=by decide)
  (h1:xS e = false:=by rfl) (h2:es.any xS = false:=by rfl):PE X (.Call (.Name x p) (e :: es) [] pos) (zgI C sp dvs E t):=zcj c.mkr c.ok hr hg c.mg c.bd hd hp ha hdb (z8 h1) (xb h2)
structure jr (K:Frag) (C:Addr) (m:Str) (f:Addr):Prop where
 ga:specialIn K (.ref C) "__getattribute__" = some (some (.builtin "type.__getattribute__"))
 rd:PySem.W.readsIn K C (.type "type") = true
 fc:PySem.W.findCls K (.ref C) (.type "type") m = some (.val (.ref f))
 kp:keepIn K (.ref f) = true
theorem zak {pl:Sem Bool} (B:jr X.K C m f) (hm:X.mg x = some (.ref C)) (F:zp X.prog X.w X.K X.mg X.base CX k f fd ps sp) (hr:yb k X.A) (hb:zQ X.K fd ps []) (hx:xj CX X E) (ha:PA X (e :: es) t) (hg:Gl X x:=by rfl)
  (hdb:(x == ("__debug__" : Str)) = false:=by decide) (h1:xS e = false:=by rfl) (h2:es.any xS = false:=by rfl)
  (ht:eval (.Call (.Attribute (.Name x p) m apos) (e :: es) [] pos) X.env = (do
   let ov <- eval (.Name x p) X.env
   standAt apos.atName
   let (f,first) <- holding [ov] (getMethod ov m pl)
   callWith pos f first (backTo pos (starEach (e :: es) X.env)) (backToKw pos (keywordEach [] X.env))):=by rfl) :
  PE X (.Call (.Attribute (.Name x p) m apos) (e :: es) [] pos) (qW sp [] E t):=by
 refine ⟨?_⟩
 intro pins s σ H Q I h
 refine methodCall_KW (pl:=pl) (xO I hg hm ?_ hdb) ht
 refine PySem.W.method_cls I.kIn B.ga (PySem.W.cls_value I.kIn B.rd B.fc rfl ?_)
 have It:=I.tok (s.toks + 1)
 refine callWith_K (first:=[]) (h₀:=X.base) I.ok.mod.kin B.kp (thn (ha pos pins _ σ H _ It h) fun us s2 ⟨vs,H2,I2,r,q2⟩=>⟨I2.kIn,?_⟩) (z8 h1) (xb h2)
 exact uP F hr hb .nil hx I2 r q2
end
theorem wM {X:Cx} {st:Stmt}:PS X st (fun _ _ _=>False):=⟨fun _ _ _ _ _ _ h=>h.elim⟩
def zkc (P:Program) (w:World) (a:Addr) (S:Str->Bool) (n:Nat) (h:Heap):Prop:=h.SetOf (strKind P w) a S n
abbrev wu (P:Program) (w:World) (a:Addr) (S:Str->Bool) (n:Nat):HO:=.ext (zkc P w a S n)
theorem qj {P:Program} {w:World} {H:Hp} {h:Heap} {a:Addr} {S:Str->Bool} {n:Nat} (e:h.SetOf (strKind P w) a S n):ye P w H h a (wu P w a S n):=
 ⟨e,let ⟨o,_,_,_,h1,_⟩:=e; ⟨o,h1⟩,fun g1 g2 q k=>let ⟨o,es,ep,t,h1,c⟩:=q; ⟨o,es,ep,t,k o h1,c⟩⟩
section
variable {X:Cx}
theorem zdi:yX X (.type "set") (fun xs H Q=>xs = []/\∀ p,H p = none->Q (.ref p) (upd H p (wu X.prog X.w p (fun _=>false) 0))):=by
 intro pins s σ H xs us Q I r h
 obtain ⟨rfl,q⟩:=h
 cases r
 refine call_set_0 fun led=>?_
 have hf:H s.heap.objs.size = none:=I.hok.fresh (Nat.le_refl _)
 refine ⟨.ref s.heap.objs.size,_,I.laid (t':=s.toks) (fun b u e=>Heap.get?_push_of_some _ e) (Nat.le_refl _) (qj ?_),rfl,q _ hf⟩
 exact (setObjOf_fresh led).setOf (Heap.get?_push_size _ rfl) (by decide)
theorem uU:OpR X (compareOp .In) (fun x y H Q=>∃ (a:Addr) (S:Str->Bool) (n:Nat) (z:Str),x = .str z/\y = .ref a/\H a = some (wu X.prog X.w a S n)/\Q (.bl (S z)) H):=by
 intro pins s σ H x y v u Q I rx ry h
 obtain ⟨a,S,n,z,rfl,rfl,e,q⟩:=h
 obtain ⟨t,rfl⟩:=rx
 cases ry
 have hS:s.heap.SetOf (strKind X.prog X.w) a S n:=(I.hok a _ e).1
 exact wpAny_inSet_of (strKind_is X.prog X.w z t) rfl hS ⟨.bl (S z),H,I.tok _,rfl,q⟩
def ziA (P:Program) (w:World) (to te:TE):TE:=fun σ H Q=>to σ H fun x H1=>∃ (a:Addr) (S:Str->Bool) (n:Nat),x = .ref a/\H1 a = some (wu P w a S n)/\te σ H1 fun y H2=>∃ (S:Str->Bool) (n:Nat) (z:Str),y = .str z/\H2 a = some (wu P w a S n)/\n + 1 < scanBound/\
 Q .non (upd H2 a (wu P w a (fun k=>S k || decide (k = z)) (if S z then n else n + 1)))
theorem zfK {o e:Expr} {apos cpos:Pos} {to te:TE} (ho:PE X o to) (he:PE X e te) (m:M1 X o "add" apos e cpos):PE X (.Call (.Attribute o "add" apos) [e] [] cpos) (ziA X.prog X.w to te):=by
 refine ⟨?_⟩
 intro pins s σ H Q I h
 refine wpAny_Call_method m.base m.few m.line PySem.F.plainAttrs_set PySem.F.slot_set_add PySem.F.type_set_add (thn (ho pins s σ H _ I h) fun u s1 ⟨x,H1,I1,rx,a,S,n,ex,d,q1⟩=>?_)
 subst ex
 obtain rfl:u = Value.ref a:=rx
 have hS:s1.heap.SetOf (strKind X.prog X.w) a S n:=(I1.hok a _ d).1
 refine ⟨hS.typeIs,hS.noDict,?_⟩
 rw [m.trees]
 refine Calls.callWith_builtin rfl (Calls.evalArgs_plain (Calls.spliced_cons (thn (he pins s1 σ H1 _ I1 q1) fun iv s2 ⟨y,H2,I2,ry,S2,n2,z,ey,e2,hn,q2⟩=>Calls.spliced_nil ?_)))
 subst ey
 obtain ⟨t,rfl⟩:=ry
 have hS2:s2.heap.SetOf (strKind X.prog X.w) a S2 n2:=(I2.hok a _ e2).1
 refine call_set_add (strKind_is X.prog X.w z t) rfl hS2 hn fun h' hs hS3=>⟨.non,_,?_,rfl,q2⟩
 refine I2.write (x:=a) (e:=a) (by rw [e2]; exact True.intro) (.inl rfl) (fun b q hb z=>(hs.2 b hb).trans z) (let ⟨o,_,_,_,h1,_⟩:=hS3; ⟨o,h1⟩) (qj hS3)
def zg9 (Cs:Addr->Prop) (m:Str) (sp:Sp) (E:XK) (ta:TE):TE:=fun σ H Q=>ta σ H fun x H1=>∃ a C dx fs,x = .ref a/\Cs C/\H1 a = some (.ins C dx fs)/\fs.lookup m = none/\sp [x] H1 Q E
theorem xz {CX:CXT} {k:Nat} {f:Addr} {fd:FuncData} {ps:List Str} {sp:Sp} {E:XK} {m:Str} {pos apos:Pos} {o:Expr} {ta:TE} {Cs:Addr->Prop} {pl:Sem Bool} (he:PE X o ta) (hC:∀ C,Cs C->Cls X.K C/\yN X.K C m f) (F:zp X.prog X.w X.K X.mg X.base CX k f fd ps sp) (hr:yb k X.A) (hb:zQ X.K fd ps []) (hx:xj CX X E)
  (ht:eval (.Call (.Attribute o m apos) [] [] pos) X.env = (do
   let ov <- eval o X.env
   standAt apos.atName
   let (f,first) <- holding [ov] (getMethod ov m pl)
   callWith pos f first (backTo pos (starEach [] X.env)) (backToKw pos (keywordEach [] X.env))):=by rfl) :
  PE X (.Call (.Attribute o m apos) [] [] pos) (zg9 Cs m sp E ta):=by
 refine ⟨?_⟩
 intro pins s σ H Q I h
 refine methodCall_KW (pl:=pl) (thn (he pins s σ H _ I h) fun u s1 ⟨x,H1,I1,rx,a,C,dx,fs,ex,hc,ea,l,q⟩=>?_) ht
 subst ex
 obtain rfl:u = Value.ref a:=rx
 obtain ⟨c,hm⟩:=hC C hc
 refine vf I1 ea c hm l ?_
 exact PySem.W.callWith_K0 (first:=[.ref a]) I1.kIn hm.kp (uP (us:=[.ref a]) (vs:=[.ref a]) F hr hb .nil hx I1 (.cons rfl .nil) q)
structure zis (w:World) (K:Frag) (a:Addr) (f:Str->Option V):Prop where
 obj:∃ es n,K.lookup a = some ⟨.type "dict",none,.dict es n,#[]⟩/\KeysLit w.params es.toList
 vals:∀ x v,f x = some v->∃ u,nsIn K a x = some (some u)/\zL v u
theorem zfL {e:Expr} {d:Str} {p pos:Pos} {a:Addr} {f:Str->Option V} {te:TE} (T:zis X.w X.K a f) (hm:X.mg d = some (.ref a)) (he:PE X e te) (hg:Gl X d:=by rfl) (hs:zir e:=by first | exact fun _ _=>rfl | decide | rfl) (hdb:(d == ("__debug__" : Str)) = false:=by decide) :
  PE X (.Subscript (.Name d p) e pos) (fun σ H Q=>te σ H fun y H1=>∃ x v,y = .str x/\f x = some v/\Q v H1):=by
 refine ⟨?_⟩
 intro pins s σ H Q I h
 obtain ⟨es,n,hl,hk⟩:=T.obj
 refine zb1 PySem.F.slot_dict_getitem.lookup hs (xO I hg hm (thn (he pins s σ H _ I h) fun iv s2 ⟨y,H2,I2,ry,x,v,ey,ef,q2⟩=>?_) hdb)
 subst ey
 obtain ⟨t,rfl⟩:=ry
 obtain ⟨u,eu,ru⟩:=T.vals x v ef
 have hmap:=PySem.W.mapOf_K (prog:=X.prog) (w:=X.w) I2.kIn hl hk
 exact ⟨hmap.typeIs,wpAny_getItem_of (strKind_is X.prog X.w x t) hmap (PySem.W.find_K hl eu) ⟨v,H2,I2.tok _,ru,q2⟩⟩
end
section
variable {X:Cx} {pins:List (Addr × Obj)} {σ : St} {H:Hp} {s:Shared} {sc:Scope} {fr Nc:List Str} {fp:List Addr} {C:Addr}
theorem zaO {caps:List (Option Nat)} {h':Heap} {D:Addr} {m:Str->Option Value} {t':Nat} {o0:HO} (I:Inv X pins σ H s) (B:yF X.env sc fr) (hf:∀ b ∈ fp,wH X pins H b) (ho:∀ b ∈ fp,∃ o,s.heap.get? b = some o)
  (hC:s.heap.objs.size<=C) (hD:s.heap.objs.size<=D) (hDC:D ≠ C) (keep:∀ b o,s.heap.get? b = some o->h'.get? b = some o) (new:ye X.prog X.w (upd H D o0) h' D o0) (hn:h'.Ns C m)
  (hcap:vh X.N Nc caps X.env sc fr = true) (hlen:caps.length = Nc.length) :
  Inv (zK X pins sc fr Nc fp s H C) [] (yS caps σ) (upd H D o0) { s with heap:=h',toks:=t' }:=by
 have hk:X.env.scope.kind = .function:=I.ok.kind
 have fresh:∀ a,s.heap.objs.size<=a->H a = none:=fun a ha=>I.hok.fresh ha
 refine ⟨zcC I B hf ho hC,rfl,I.bare,Un.laid keep hD (fresh D hD),⟨m,hn,fun i x v e1 e2 e3=>?_⟩,fun x c h=>?_,?_,fun x c h=>?_,fun p hp=>?_,?_,?_⟩
 ·
  have e2':(caps[i]?).map (fun o=>match o with | none=>none | some j=>(σ[j]?).join) = some (some v):=by
   have:(yS caps σ)[i]? = some (some v):=e2
   unfold yS at this
   rw [List.getElem?_map] at this
   exact this
  cases hc:caps[i]? with
  | none=>rw [hc] at e2'; cases e2'
  | some o=>
   rw [hc] at e2'
   cases o with
   | none=>simp at e2'
   | some j=>
    have e4:(σ[j]?).join = some v:=by simpa using e2'
    have e5 : σ[j]? = some (some v):=by
     cases q : σ[j]? with
     | none=>rw [q] at e4; cases e4
     | some w'=>rw [q] at e4; simp at e4; rw [e4]
    have e6:(Nc.zip caps)[i]? = some (x,some j):=by
     rw [List.getElem?_zip_eq_some]
     exact ⟨e1,hc⟩
    have e7:=List.all_eq_true.mp hcap _ (List.mem_of_getElem? e6)
    simp only [Bool.and_eq_true,beq_iff_eq,List.contains_iff_mem] at e7
    obtain ⟨⟨⟨a1,a2⟩,a3⟩,a4⟩:=e7
    obtain ⟨m0,hn0,hl0⟩:=I.loc
    obtain ⟨u,r,l⟩:=hl0 j x v a1 e5 (.inr (.inl a2))
    refine ⟨u,r,.inr ⟨.inl (x6 hk a3 a2),_,qI a4,?_⟩⟩
    rcases l with ⟨z,_⟩ | ⟨_,c,ec,hcell⟩
    ·rw [a2] at z; cases z
    ·have:(X.env.cells.lookup x).getD 0 = c:=by rw [ec]; rfl
     rw [this]
     exact hcell.keeps keep
 ·obtain ⟨v,hv⟩:=I.cell x c (B.sub h)
  exact ⟨v,hv.keeps keep⟩
 ·show upd H D o0 C = none
  rw [zf (Ne.symm hDC)]; exact fresh C hC
 ·obtain ⟨v,hv⟩:=I.cell x c (B.sub h)
  have:c ≠ D:=fun z=>by have:=hv.lt; rw [z] at this; exact absurd (Nat.lt_of_lt_of_le this hD) (Nat.lt_irrefl _)
  rw [zf this]; exact I.freeC x c (B.sub h)
 ·have hp':p ∈ X.pn ++ pins:=by simpa using hp
  obtain ⟨e,n,ne,nf,d⟩:=I.pin p hp'
  have hlt:=I.pin_lt hp'
  refine ⟨keep _ _ e,?_,?_,fun z=>?_,d⟩
  ·rw [zf (fun z=>by rw [z] at hlt; exact absurd (Nat.lt_of_lt_of_le hlt hD) (Nat.lt_irrefl _))]; exact n
  ·intro z
   have z':p.1 = C:=z
   rw [z'] at hlt; exact absurd (Nat.lt_of_lt_of_le hlt hC) (Nat.lt_irrefl _)
  ·rcases List.mem_cons.mp (I.stkSub p.1 z) with q | q
   ·exact ne q
   ·exact nf q
 ·exact I.hok.laid keep hD new
 ·show (yS caps σ).length = Nc.length
  unfold yS
  rw [List.length_map,hlen]
end
section
variable {prog:Program} {w:World} {A:Around} {R:Result->Shared->Prop} {s:Shared}
theorem jw {kx vx target iter:Expr} {ifs:List Expr} {scope:Scope} {pos:Pos} {it:Value} {D:Addr} {env:Env} (I:Nat->Shared->Prop)
  (turn:∀ n s,I n s->wpAny (model prog w) A (pyNext it) (fun r s₁=>match r with
   | none=>R (.ok .next) s₁
   | some v=>wpAny (model prog w) A (letOwnedTupleGo target it v) (fun _ s₀=>wpAny (model prog w) A (assign target env v) (fun _ s₂=>
     wpAny (model prog w) A (forIn ifs true fun c r=>if r = true then do let ok <- isTrue c env (eval c env); pure (ForInStep.yield ok) else pure (ForInStep.yield r)) (fun ok s₃=>
      if ok = true then wpAny (model prog w) A (eval kx env) (fun kv s₄=>wpAny (model prog w) A (eval vx env) (fun vv s₅=>
       wpAny (model prog w) A (dictSet D kv vv) (fun _ s₆=>∃ m,m < n/\I m s₆) (fun _ _=>False) s₅) (fun _ _=>False) s₄) (fun _ _=>False) s₃
      else ∃ m,m < n/\I m s₃) (fun _ _=>False) s₂) (fun _ _=>False) s₀) (fun _ _=>False) s₁) (fun _ _=>False) s)
  (n:Nat) (h:I n s) :
  codeAny (model prog w) A (.compLoop (.DictComp kx vx [⟨target,iter,ifs,0⟩] scope pos) 0 it (.ref D) env) R s:=by
 refine codeAny_loop rfl I (fun n s hI=>?_) n h
 show wpAny _ A ((compTurn (.DictComp kx vx [⟨target,iter,ifs,0⟩] scope pos) 0 it (.ref D) env).onRaise (fun x=>do noteFrame x env; theTreesLotGoes x)) _ _ s
 refine wpAny_noted ?_
 rw [compTurn_dict]
 refine wpAny_bind (wpAny_standAt (wpAny_bind (wpAny_mono (turn n s hI) (fun r s₁ h₁=>?_) fun _ _ z=>z.elim)))
 cases r with
 | none=>exact wpAny_pure h₁
 | some v=>
  refine wpAny_bind (wpAny_mono h₁ (fun _ s₀ h₀=>?_) fun _ _ z=>z.elim)
  refine wpAny_bind (wpAny_mono h₀ (fun _ s₂ h₂=>wpAny_bind (wpAny_mono h₂ (fun ok s₃ h₃=>?_) fun _ _ z=>z.elim)) fun _ _ z=>z.elim)
  cases ok with
  | false=>exact wpAny_pure ⟨rfl,h₃⟩
  | true=>
   exact wpAny_bind (wpAny_bind (wpAny_mono h₃ (fun kv s₄ h₄=>wpAny_bind (wpAny_holding (wpAny_mono h₄ (fun vv s₅ h₅=>wpAny_bind (wpAny_standAt (wpAny_holding (wpAny_mono h₅ (fun _ s₆ h₆=>wpAny_pure ⟨rfl,h₆⟩) fun _ _ z=>z.elim)))) fun _ _ z=>z.elim))) fun _ _ z=>z.elim))
end
def DCr (J:It) (caps:List (Option Nat)) (g:TG) (tt:TT) (tk tv:TE) (σ : St) (H1:Hp) (Q:VK) (D:Addr):Prop:=
 ∃ W:Nat->Nat->List (Key × V)->Hp->Prop,(∃ m,W 0 m [] (upd H1 D (.dK [])))/\∀ i m ys H,W i m ys H->
  (J.stop i H/\Q (.ref D) H)\/
  (J.go i H/\∀ x H',J.yld i H x H'->g x (yS caps σ) H' fun σ2 H2=>tt σ2 H2 fun ok H3=>
   (ok = true->tk σ2 H3 fun y H4=>tv σ2 H4 fun v H5=>∃ k,y = kV k/\H5 D = some (.dK ys)/\ys.length < sizeLine/\∃ m',m' < m/\W (i + 1) m' (yq ys k v) (upd H5 D (.dK (yq ys k v))))/\
   (ok = false->∃ m',m' < m/\W (i + 1) m' ys H3))
def tDC (wi:TI) (caps:List (Option Nat)) (g:TG) (tt:TT) (tk tv:TE):TE:=fun σ H Q=>wi σ H fun J H1=>∀ D,H1 D = none->DCr J caps g tt tk tv σ H1 Q D
section
variable {X:Cx} {pins:List (Addr × Obj)} {σ : St} {s:Shared} {sc:Scope} {fr Nc:List Str} {caps:List (Option Nat)} {kx vx tg iter:Expr} {ifs:List Expr} {g:TG} {tt:TT} {tk tv:TE} {ow:List Nat} {pos pos2:Pos} {E:Value->Shared->Prop}
theorem ziH {H:Hp} (I:Inv X pins σ H s):sysModules < s.heap.objs.size:=I.big
theorem zdf {H2:Hp} {it:Addr} {fp:List Addr} {tn:Nat->Heap->Prop} {J:It} {Q:VK} {RR:Value->Addr->Result->Shared->Prop}
  (hc:X.calm = true) (B:yF X.env sc fr) (go:zbS g ow) (how:(ow.all fun i=>caps[i]? == some none) = true) (hcap:vh X.N Nc caps X.env sc fr = true) (hlen:caps.length = Nc.length)
  (hb:∀ (pins:List (Addr × Obj)) (fp:List Addr) (s:Shared) (H:Hp) (C:Addr),PG (zK X pins sc fr Nc fp s H C) tg g/\PIf (zK X pins sc fr Nc fp s H C) ifs tt/\PE (zK X pins sc fr Nc fp s H C) kx tk/\PE (zK X pins sc fr Nc fp s H C) vx tv)
  (I2:Inv X pins σ H2 s) (T:qM X.prog X.w X.K tg J fp it tn) (st2:tn 0 s.heap) (f2:∀ b ∈ fp,wH X pins H2 b) (h:∀ D,H2 D = none->DCr J caps g tt tk tv σ H2 Q D)
  (fin:∀ (D C:Addr) (σ':St) (H':Hp) (s':Shared),Inv (zK X pins sc fr Nc fp s H2 C) [] σ' H' s'->Q (.ref D) H'->RR (.ref D) C (.ok .next) s') :
  wpAny (model X.prog X.w) X.A newDict (fun acc s₃=>wpAny (model X.prog X.w) X.A (newFunctionEnv sc X.env.globals (clB X.env fr) [] X.env.qual none .none (some X.env)) (fun cenv s₄=>
   codeAny (model X.prog X.w) X.A (.compStart (.DictComp kx vx [⟨tg,iter,ifs,0⟩] sc pos) 0 (.ref it) acc { cenv with scope:=relabel sc X.env }) (RR acc cenv.locals) s₄) E s₃) E s:=by
 have hcell:∀ y ∈ sc.names,y.2 ≠ .cell:=fun y hy=>by
  have h3:=List.all_eq_true.mp B.names _ hy
  simp only [Bool.and_eq_true,bne_iff_ne,ne_eq] at h3
  exact h3.1.1
 refine wpAny_newObj_type (wpAny_newFunctionEnv hcell (by intro y hy; simp at hy) (fun h₁ hns₁ hsb₁=>?_) B.kind)
 dsimp only at hns₁ hsb₁ |-
 have hnew:(s.heap.push { cls:=.type "dict",dict:=none,data:=.dict #[] }).DictOf (z7 X.prog X.w) s.heap.objs.size []:=Heap.DictOf.new s.heap
 generalize hH2:s.heap.push { cls:=.type "dict",dict:=none,data:=.dict #[] } = H3 at hns₁ hsb₁ hnew |-
 have hCs:H3.objs.size = s.heap.objs.size + 1:=by rw [<- hH2,Heap.size_push]
 have hDC:s.heap.objs.size ≠ H3.objs.size:=by rw [hCs]; exact Nat.ne_of_lt (Nat.lt_succ_self _)
 have hC:s.heap.objs.size<=H3.objs.size:=by rw [hCs]; exact Nat.le_succ _
 have old:∀ b o,s.heap.get? b = some o->h₁.get? b = some o:=fun b o e=>
  hsb₁.extBut b o (Nat.ne_of_lt (Nat.lt_of_lt_of_le (Heap.lt_size e) hC)) (Heap.get?_push_of_some _ (hH2 ▸ Heap.get?_push_of_some _ e))
 have hsm:sysModules < s.heap.objs.size:=ziH I2
 have hD:h₁.DictOf (z7 X.prog X.w) s.heap.objs.size []:=hnew.at fun o e=>hsb₁.extBut _ _ hDC (Heap.get?_push_of_some _ e)
 have hDo:∀ H',ye X.prog X.w H' h₁ s.heap.objs.size (.dK []):=fun _=>⟨Nat.zero_le _,beq_eq_false_iff_ne.mpr (Ne.symm (Nat.ne_of_lt hsm)),[],.nil,hD⟩
 have ho:∀ b ∈ fp,∃ o,s.heap.get? b = some o:=fun b hb'=>let ⟨o,e,_⟩:=T.obj 0 _ st2 b hb'; ⟨o,e⟩
 have I4:∀ t',Inv (zK X pins sc fr Nc fp s H2 H3.objs.size) [] (yS caps σ) (upd H2 s.heap.objs.size (.dK [])) { s with heap:=h₁,toks:=t' }:=fun t'=>
  zaO I2 B f2 ho hC (Nat.le_refl _) hDC old (hDo _) hns₁ hcap hlen
 have ok:=(I4 0).ok
 obtain ⟨hbg,hbt,hbk,hbv⟩:=hb pins fp s H2 H3.objs.size
 obtain ⟨W,⟨m0,w0⟩,turn⟩:=h s.heap.objs.size (I2.hok.fresh (Nat.le_refl _))
 have stat:∀ {H':Hp},(∀ b ∈ fp,H' b = none)->∀ b ∈ fp,wH (zK X pins sc fr Nc fp s H2 H3.objs.size) [] H' b:=fun hn b hb'=>
  ⟨hn b hb',(ok.exf b hb').1,ok.exfs b hb',.inl hb',(ok.exf b hb').2,fun p hp=>(f2 b hb').2.2.2.2.2 p (by simpa using hp)⟩
 have hfp0:∀ b ∈ fp,upd H2 s.heap.objs.size (.dK []) b = none:=fun b hb'=>by
  obtain ⟨o,e⟩:=ho b hb'
  rw [zf (Nat.ne_of_lt (Heap.lt_size e))]
  exact (f2 b hb').1
 have loop:∀ s₃:Shared,s₃ = { s with heap:=h₁,toks:=s.toks + ([]:List (Str × Value)).length }->
   codeAny (model X.prog X.w) X.A (.compLoop (.DictComp kx vx [⟨tg,iter,ifs,0⟩] sc pos) 0 (.ref it) (.ref s.heap.objs.size) (compEnvC sc (clB X.env fr) H3.objs.size X.env)) (RR (.ref s.heap.objs.size) H3.objs.size) s₃:=by
  rintro s₃ rfl
  refine jw (fun n s'=>∃ i σ' H' ys,Inv (zK X pins sc fr Nc fp s H2 H3.objs.size) [] σ' H' s'/\tn i s'.heap/\(∀ b ∈ fp,H' b = none)/\W i n ys H'/\
   (∀ (k:Nat) (v:V),(yS caps σ)[k]? = some (some v)->σ'[k]? = some (some v))) ?_ m0
   ⟨0,_,_,[],I4 _,T.keep _ _ _ st2 (fun b _ o e=>old b o e),hfp0,w0,fun _ _ e=>e⟩
  rintro n s3 ⟨i,σ3,H4,ys,I3,st3,fr3,w3,wk3⟩
  have I3':Inv (zK X pins sc fr Nc fp s H2 H3.objs.size) [] (yS caps σ) H4 s3:=I3.weak (by rw [I3.len]; exact (I4 0).len) wk3
  rcases turn i n ys H4 w3 with ⟨stop,qn⟩ | ⟨gg,step⟩
  ·refine thn (T.done (zK X pins sc fr Nc fp s H2 H3.objs.size) rfl rfl rfl hc i [] s3 _ H4 (fun _ _=>False) I3' (stat fr3) st3 stop) fun r s4 ⟨hr,I4'⟩=>?_
   subst hr
   exact fin _ _ _ _ _ I4' qn
  ·refine thn (T.item (zK X pins sc fr Nc fp s H2 H3.objs.size) rfl rfl rfl hc i [] s3 _ H4 (fun _ _=>False) I3' (stat fr3) st3 gg) fun r s4 ⟨u,hr,h4⟩=>?_
   subst hr
   refine thn h4 fun _ s5 ⟨x,H5,I5,r5,y5,st5,fr5⟩=>?_
   have I5':=I5.pinned (stat fr5) (T.obj _ _ st5)
   refine thn (hbg _ s5 _ H5 x u _ I5' r5 (go _ _ _ _ (step x H5 y5))) fun _ s6 ⟨σ6,H6,I6,q6,l6,k6⟩=>?_
   have wk6:∀ (k:Nat) (v:V),(yS caps σ)[k]? = some (some v)->σ6[k]? = some (some v):=fun k v e=>by
    rw [k6 k fun hk=>?_]
    ·exact e
    ·have h1:=List.all_eq_true.mp how k hk
     have h2:caps[k]? = some none:=by simpa using h1
     unfold yS at e
     rw [List.getElem?_map,h2] at e
     cases e
   refine thn (hbt _ s6 σ6 H6 _ I6 q6) fun ok s7 ⟨H7,I7,q7⟩=>?_
   have again:∀ {H8:Hp} {s8:Shared} {ys':List (Key × V)},Inv (zK X pins sc fr Nc fp s H2 H3.objs.size) ([] ++ vO fp s5.heap) σ6 H8 s8->(∃ m',m' < n/\W (i + 1) m' ys' H8)->
     ∃ m,m < n/\∃ i σ' H' ys,Inv (zK X pins sc fr Nc fp s H2 H3.objs.size) [] σ' H' s8/\tn i s8.heap/\(∀ b ∈ fp,H' b = none)/\W i m ys H'/\(∀ (k:Nat) (v:V),(yS caps σ)[k]? = some (some v)->σ'[k]? = some (some v)):=fun {H8 s8 ys'} I8 ⟨m',hm,w8⟩=>by
    refine ⟨m',hm,i + 1,σ6,H8,ys',I8.unpinned,T.keep _ _ _ st5 fun b hb' o e=>(I8.pin (b,o) (List.mem_append_right _ (List.mem_append_right _ (y0 hb' e)))).1,fun b hb'=>?_,w8,wk6⟩
    obtain ⟨o,e,d⟩:=T.obj _ _ st5 b hb'
    exact (I8.pin (b,o) (List.mem_append_right _ (List.mem_append_right _ (y0 hb' e)))).2.1
   cases ok with
   | false=>
    rw [if_neg Bool.false_ne_true]
    exact again I7 (q7.2 rfl)
   | true=>
    rw [if_pos rfl]
    refine thn (hbk _ s7 σ6 H7 _ I7 (q7.1 rfl)) fun uk s8 ⟨y,H8,I8,r8,q8⟩=>?_
    refine thn (hbv _ s8 σ6 H8 _ I8 q8) fun uv s9 ⟨v,H9,I9,r9,k,ey,hD9,hz,q9⟩=>?_
    subst ey
    obtain ⟨z,hd,vs,rel,dd⟩:=zgX I9.hok hD9
    have hzs:vs.length<=sizeLine:=by rw [<- rel.length]; exact z
    have hl:(yq ys k v).length<=sizeLine:=by have:=xc ys k v; omega
    refine wpAny_dictSet_pairs (hsz:=hzs) (jc r8) dd fun h' dd' hs=>?_
    have he:∃ q,h'.get? s.heap.objs.size = some q:=let ⟨q,_,_,hq,_⟩:=dd'; ⟨q,hq⟩
    exact again (qG I9 (by rw [hD9]; exact True.intro) hs he (ze0 hl hd (rel.put k r9) dd')) q9
 exact codeAny_compStart_dict (loop _ rfl) (T.self _ 0 _ _ _ (T.keep _ _ _ st2 (fun b _ o e=>old b o e)) (loop _ rfl))
theorem ziX {wi:TI} (fr Nc:List Str) (caps:List (Option Nat)) (hc:X.calm = true) (B:yF X.env sc fr) (hi:PI X tg iter wi) (go:zbS g ow) (how:(ow.all fun i=>caps[i]? == some none) = true)
  (hcap:vh X.N Nc caps X.env sc fr = true) (hlen:caps.length = Nc.length)
  (hb:∀ (pins:List (Addr × Obj)) (fp:List Addr) (s:Shared) (H:Hp) (C:Addr),PG (zK X pins sc fr Nc fp s H C) tg g/\PIf (zK X pins sc fr Nc fp s H C) ifs tt/\PE (zK X pins sc fr Nc fp s H C) kx tk/\PE (zK X pins sc fr Nc fp s H C) vx tv)
  (hs:∀ x,foldedSetIterable iter X.env x = pure x:=by intro _; rfl):PE X (.DictComp kx vx [⟨tg,iter,ifs,0⟩] sc pos) (tDC wi caps g tt tk tv):=by
 refine ⟨?_⟩
 intro pins s σ H Q I h
 rw [arm_eval_DictComp]
 refine wpAny_comprehension_free (use:=none) rfl hs B.clos B.kind B.loc (thn (hi pins s σ H _ I h) fun v s1 h1=>thn h1 fun itv s2 h2=>?_)
 obtain ⟨it,fp,tn,J,H2,e,I2,T,st2,f2,q⟩:=h2
 subst e
 refine zdf (RR:=fun acc C=>compPost (model X.prog X.w) X.A X.xe none (EP X pins σ Q) acc C) hc B go how hcap hlen hb I2 T st2 f2 q ?_
 intro D C σ' H' s' J' qq
 obtain ⟨m,hn,_⟩:=J'.loc
 exact ⟨m,hn,fun h' hs'=>⟨.ref D,H',j3 I2 J' (vY I2 f2 J') hs',rfl,qq⟩⟩
end
def eqT (xs ys:List V):Bool:=((List.range (min xs.length ys.length)).all fun j=>eqV (xs[j]?.getD .non) (ys[j]?.getD .non)) && xs.length == ys.length
end L2
namespace K34
open PySem L2 PyProof.Rows
def top (i:Nat):Stmt:=PySem.Challenge.pw_callbinds_k34_whole_by_one_at_most.main.body.getD i (.Pass ⟨0,0,0,0⟩)
abbrev sIs:Stmt:=top 32
abbrev zbg:Stmt:=yg (top 48) 0
abbrev zdZ:Stmt:=yg (top 48) 1
abbrev uO:Stmt:=yg (top 48) 2
abbrev qw:Stmt:=yg (top 48) 3
abbrev zht:Stmt:=yg (top 48) 4
abbrev ziR:Stmt:=yg (top 48) 5
abbrev zdP:Stmt:=yg (top 49) 0
abbrev zd3:Stmt:=yg (top 50) 0
abbrev zdN:Stmt:=yg (top 51) 0
abbrev zhu:Stmt:=yg (top 52) 0
abbrev zhD:Stmt:=yg (top 53) 0
abbrev zbm:Stmt:=yg (top 38) 0
abbrev zdX:Stmt:=yg (top 38) 1
abbrev zbl:Stmt:=yg (top 38) 2
abbrev zbn:Stmt:=yg (top 38) 3
abbrev uM:Stmt:=yg (top 38) 4
abbrev zbk:Stmt:=yg (top 38) 5
abbrev zd2:Stmt:=yg (top 38) 6
abbrev zd1:Stmt:=yg (top 38) 7
abbrev zhC:Stmt:=yg (top 38) 8
abbrev zhv:Stmt:=top 54
abbrev zbe:Stmt:=top 39
abbrev qt:Stmt:=top 40
abbrev zbf:Stmt:=top 41
abbrev qr:Stmt:=top 42
abbrev zdS:Stmt:=top 43
abbrev zdV:Stmt:=top 1
abbrev sOf:Stmt:=top 2
abbrev zbd:Stmt:=top 13
abbrev zhy:Stmt:=top 11
abbrev zd0:Stmt:=top 12
abbrev qu:Stmt:=top 14
abbrev zhA:Stmt:=top 15
abbrev zbh:Stmt:=top 16
abbrev zhs:Stmt:=top 17
abbrev zdW:Stmt:=top 18
abbrev zdR:Stmt:=top 19
abbrev qv:Stmt:=top 20
abbrev uL:Stmt:=top 22
abbrev zbi:Stmt:=top 23
abbrev qp:Stmt:=top 24
abbrev zhz:Stmt:=top 25
abbrev uN:Stmt:=top 27
abbrev zdU:Stmt:=top 28
abbrev zhw:Stmt:=top 56
abbrev zhx:Stmt:=top 57
abbrev zdQ:Stmt:=top 58
abbrev zdY:Stmt:=top 59
abbrev zdM:Stmt:=top 60
abbrev zdT:Stmt:=top 61
abbrev zbc:Stmt:=top 62
abbrev zd4:Stmt:=top 63
abbrev zbb:Stmt:=top 64
abbrev zbj:Stmt:=top 65
abbrev zdO:Stmt:=top 66
abbrev zhB:Stmt:=top 67
def low (c:Nat):Bool:=decide (97<=c) && decide (c<=122)
def yx (z:Str):Bool:=decide (1<=z.length) && decide (z.length<=8) && z.cps.toList.all low
def nmV:V->Bool
 | .str z=>yx z
 | _=>false
def OkS (z:Str):Prop:=z.length<=1000/\∀ c ∈ z.cps.toList,c < 128
def OkV (K:Frag) (H:Hp) (x:V):Prop:=(∃ z,x = .str z/\OkS z)\/(nmV x = false/\∃ t,wW K H x t/\kitOne K t (.type "str") = some false)
theorem vQ {z:Str}:yx z = true ↔ 1<=z.length/\z.length<=8/\∀ c ∈ z.cps.toList,97<=c/\c<=122:=by
 unfold yx low
 simp only [Bool.and_eq_true,decide_eq_true_eq,List.all_eq_true]
 constructor
 ·rintro ⟨⟨a,b⟩,c⟩; exact ⟨a,b,c⟩
 ·rintro ⟨a,b,c⟩; exact ⟨⟨a,b⟩,c⟩
theorem uX {z:Str} (h:z.length = 0\/9<=z.length):yx z = false:=by
 cases e:yx z with
 | false=>rfl
 | true=>
  have:=vQ.mp e
  omega
theorem zav {z:Str} (h:yx z = true):OkS z:=by
 obtain ⟨_,h2,h3⟩:=vQ.mp h
 exact ⟨by omega,fun c hc=>by have:=h3 c hc; omega⟩
def letters:Str:="abcdefghijklmnopqrstuvwxyz"
theorem zbz:∀ c:Nat,c < 128->(!(Builtin.Str.occurrences letters ⟨#[c]⟩ 0 letters.length 1).isEmpty) = low c:=by decide +kernel
theorem zc {H:Hp} {p:Addr} (h:H p = none) (o:HO):zl H (upd H p o):=fun b u q=>by rw [zf (ze q h)]; exact q
theorem zcH {K:Frag} {H H':Hp} {x:V} {t:Value} (s:zl H H') (h:wW K H x t):wW K H' x t:=by
 cases h with
 | non=>exact .non
 | bl b=>exact .bl b
 | int i=>exact .int i
 | str z=>exact .str z
 | flt z=>exact .flt z
 | lst e=>exact .lst (s _ _ e)
 | frz e=>exact .frz (s _ _ e)
 | tup e=>exact .tup (s _ _ e)
 | dK e=>exact .dK (s _ _ e)
 | dT e=>exact .dT (s _ _ e)
 | ins e a b c d f=>exact .ins (s _ _ e) a b c d f
theorem OkV.same {K:Frag} {H H':Hp} {x:V} (s:zl H H') (h:OkV K H x):OkV K H' x:=by
 rcases h with h | ⟨h,t,ty,e⟩
 ·exact .inl h
 ·exact .inr ⟨h,t,zcH s ty,e⟩
theorem nd1:([Str.ofString "sign"]:List Str).Nodup:=by decide +kernel
def zhf (K:Frag):Sp:=fun vs H Q _=>∃ x,vs = [x]/\OkV K H x/\∀ H',zl H H'->Q (.bl (nmV x)) H'
structure zji (K:Frag) (mg:Str->Option Value):Prop where
 isi:mg "isinstance" = none
 str:mg "str" = none
 bool:mg "bool" = none
 len:mg "len" = none
 all:mg "all" = none
 range:mg "range" = none
 letters:∃ t,mg "LETTERS" = some (.str letters t)
 longest:∃ t,mg "LONGEST" = some (.int 8 t)
 kNon:kitOne K (.type "NoneType") (.type "str") = some false
 kInt:kitOne K (.type "int") (.type "str") = some false
 kBl:kitOne K (.type "bool") (.type "str") = some false
 kLst:kitOne K (.type "list") (.type "str") = some false
 kTup:kitOne K (.type "tuple") (.type "str") = some false
 kDct:kitOne K (.type "dict") (.type "str") = some false
 kStr:kitOne K (.type "str") (.type "str") = some true
 bBl:kitOne K (.type "bool") (.type "bool") = some true
section
variable {P:Program} {w:World} {K:Frag} {mg:Str->Option Value} {base:Heap} {f:Addr} {fd:FuncData}
theorem zjB:zm ["thing"] ["thing"] (zg sIs):=⟨rfl,rfl,rfl,by decide +kernel,rfl,by decide +kernel,by decide +kernel⟩
theorem zi1 (F:Fun K "is_name" "is_name" sIs f fd) (T:zji K mg):zp P w K mg base CX0 1 f fd ["thing"] (zhf K):=by
 refine F.ok zjB (fun vs H Q E h=>?_) (fun cdv A outer s H vs Q E hr h=>?_)
 ·obtain ⟨x,rfl,_⟩:=h
  rfl
 obtain ⟨x,rfl,hx,q⟩:=h
 obtain ⟨tL,hL⟩:=T.letters
 obtain ⟨tN,hN⟩:=T.longest
 refine ⟨_,zi (zP (PW.pt (zd8 (wx (xi (cB zaT T.isi boot_isinstance (ac (pv 0) (ac (zfM (v:=.ty "str") rfl T.str PyProof.Rows.boot_str rfl) zb)))))
   (zbo (wx (zea zgV zgV zh (cB qJ T.len PySem.boot_len (ac (pv 0) zb)) (wf (v:=.int 8) rfl hN ⟨_,rfl⟩))))))
   (zd (zq zal)) zH)
  (zd (zq (cB (zdn rfl) T.all boot_all (ac (xL [] ["sign"] [none] rfl ⟨rfl,rfl,rfl,rfl⟩ (zhJ (pv 0)) (z9 0) rfl rfl rfl
   (fun pins fp s H C=>⟨zk (i:=0) nd1 rfl (Or.inl rfl) (.inr rfl),yI,y9 zcU (pv 0) (wf (v:=.str letters) rfl hL ⟨_,rfl⟩) (by with_unfolding_all rfl)⟩)) zb)))),?_⟩
 rcases hx with ⟨z,rfl,hz1,hz2⟩ | ⟨hn,t,ty,e⟩
 ·refine ⟨_,rfl,_,_,_,_,rfl,.str z,T.kStr,_,rfl,?_⟩
  refine y6 ?_
  refine ⟨_,rfl,z,rfl,Nat.le_trans hz1 (by decide),_,_,rfl,rfl,_,rfl,?_⟩
  have no:yx z = false->Q (.bl false) H:=fun e=>by
   have:=q H (zl.refl H)
   have e':nmV (.str z) = false:=e
   rw [e'] at this
   exact this
  refine vW (fun c=>?_) (fun c=>?_)
  ·have c':(1:Int)<=(z.length:Int):=of_decide_eq_true c
   refine ⟨_,_,rfl,rfl,_,rfl,?_⟩
   by_cases h8:(z.length:Int)<=8
   ·rw [decide_eq_true h8]
    refine y6 ?_
    refine ⟨_,rfl,z,rfl,fun D hD=>?_⟩
    refine ⟨fun i m ys H'=>i<=z.cps.size/\m = z.cps.size - i/\ys = (z.cps.toList.take i).map (fun c=>V.bl (low c))/\H' = upd H D (.lst ys),⟨_,Nat.zero_le _,rfl,rfl,rfl⟩,?_⟩
    rintro i m ys H' ⟨hi,rfl,rfl,rfl⟩
    by_cases he:i = z.cps.size
    ·subst he
     refine .inl ⟨Nat.le_refl _,?_⟩
     refine ⟨D,z.cps.toList.map low,rfl,SqL.of ?_,?_⟩
     ·rw [za,List.take_of_length_le (by simp),List.map_map]
      rfl
     ·have e:(z.cps.toList.map low).all id = nmV (.str z):=by
       show _ = yx z
       unfold yx
       rw [decide_eq_true (show 1<=z.length by omega),decide_eq_true (show z.length<=8 by omega),List.all_map]
       rfl
      rw [e]
      exact q _ (zc hD _)
    ·refine .inr ⟨by show i < z.cps.size; omega,?_⟩
     rintro x H' ⟨rfl,c,hc,rfl⟩
     refine ⟨fun _=>?_,fun e=>Bool.noConfusion e⟩
     refine ⟨_,rfl,_,_,rfl,rfl,za,?_,z.cps.size - (i + 1),by omega,by omega,rfl,?_,?_⟩
     ·rw [List.length_map,List.length_take]
      have:z.cps.size<=1000:=hz1
      exact zx (by omega)
     ·have hc':z.cps.toList[i]? = some c:=by simpa using hc
      have hlow:=zbz c (hz2 c (List.mem_of_getElem? hc'))
      rw [hlow,List.take_add_one,hc',List.map_append]
      rfl
     ·rw [qc]
   ·rw [decide_eq_false h8]
    refine wC ?_
    exact no (uX (.inr (by omega)))
  ·have c':¬ (1:Int)<=(z.length:Int):=of_decide_eq_false (Bool.eq_false_iff.mpr c)
   refine ⟨_,rfl,?_⟩
   exact wC (no (uX (.inl (by omega))))
 ·refine ⟨_,rfl,_,_,_,_,rfl,ty,e,_,rfl,?_⟩
  refine wC ?_
  refine wC ?_
  have:=q H (zl.refl H)
  rw [hn] at this
  exact this
end
theorem dT {A B:Prop} {c:Prop} [Decidable c] (h:c) (a:A):if decide c = true then A else B:=by rw [decide_eq_true h]; exact wC a
theorem dF {A B:Prop} {c:Prop} [Decidable c] (h:¬ c) (b:B):if decide c = true then A else B:=by rw [decide_eq_false h]; exact y6 b
def kw:Nat->Str
 | 0=>"seat" | 1=>"both" | 2=>"tail" | 3=>"tag" | _=>"bag"
def zhF (k:Nat) (x:V) (b:Bool):List V:=match k with
 | 0=>[.str "seat",x,.bl b] | 1=>[.str "both",x,.bl b] | 2=>[.str "tail",x] | 3=>[.str "tag",x,.bl b] | _=>[.str "bag",x]
def fr (k:Nat) (b:Bool):Bool:=match k with
 | 0=>b | 1=>b | 2=>true | 3=>b | _=>true
theorem lt5 {k:Nat} (h:k < 5):k = 0\/k = 1\/k = 2\/k = 3\/k = 4:=by omega
def pf (wd:Str) (x:V) (b:Bool):List (Str × V):=zR "may_lack" (.bl b) (zR "name" x (zR "word" (.str wd) []))
theorem vp {wd:Str} {x:V} {b:Bool}:(pf wd x b).lookup ("word" : Str) = some (.str wd):=by
 unfold pf
 rw [zj,if_neg (by decide +kernel),zj,if_neg (by decide +kernel),zj,if_pos rfl]
theorem wc {wd:Str} {x:V} {b:Bool}:(pf wd x b).lookup ("name" : Str) = some x:=by
 unfold pf
 rw [zj,if_neg (by decide +kernel),zj,if_pos rfl]
theorem zfJ {wd:Str} {x:V} {b:Bool}:(pf wd x b).lookup ("may_lack" : Str) = some (.bl b):=by
 unfold pf
 rw [zj,if_pos rfl]
theorem vq {wd:Str} {x:V} {b:Bool} {m:Str} (h1:¬ m = "may_lack") (h2:¬ m = "name") (h3:¬ m = "word"):(pf wd x b).lookup m = none:=by
 unfold pf
 rw [zj,if_neg h1,zj,if_neg h2,zj,if_neg h3]
 rfl
structure MA where
 (fF fP fB fT fO:Addr)
structure PC (K:Frag) (m:MA) (C:Addr):Prop where
 cl:Cls K C
 nW:yQ K C "word"
 nN:yQ K C "name"
 nM:yQ K C "may_lack"
 mF:yN K C "free" m.fF
 mP:yN K C "by_place" m.fP
 mB:yN K C "by_name" m.fB
 mT:yN K C "takes_one" m.fT
 mO:yN K C "told" m.fO
def spP (K:Frag) (m:MA):Sp:=fun vs H Q _=>∃ (p dx C:Addr) (wd:Str) (x:V) (b:Bool),vs = [.ref p,.str wd,x,.bl b]/\H p = some (.ins C dx [])/\PC K m C/\OkV K H x/\nmV x = true/\∀ H1,zl H H1->Q .non (upd H1 p (.ins C dx (pf wd x b)))
def spS (K:Frag) (C:Addr) (wd:Str):Sp:=fun vs H Q _=>∃ (p dx:Addr) (x:V) (b:Bool),vs = [.ref p,x,.bl b]/\H p = some (.ins C dx [])/\OkV K H x/\nmV x = true/\∀ H1,zl H H1->Q .non (upd H1 p (.ins C dx (pf wd x b)))
def spT (K:Frag) (C:Addr) (wd:Str):Sp:=fun vs H Q _=>∃ (p dx:Addr) (x:V),vs = [.ref p,x]/\H p = some (.ins C dx [])/\OkV K H x/\nmV x = true/\∀ H1,zl H H1->Q .non (upd H1 p (.ins C dx (pf wd x true)))
def bpL:List V:=[.str "seat",.str "both"]
def bnL:List V:=[.str "both",.str "tag"]
def otL:List V:=[.str "seat",.str "both",.str "tag"]
def qh (K:Frag) (m:MA):Sp:=fun vs H Q _=>∃ (p dx C:Addr) (wd:Str) (x:V) (b:Bool),vs = [.ref p]/\PC K m C/\H p = some (.ins C dx (pf wd x b))/\Q (.bl b) H
def uE (K:Frag) (m:MA) (l:List V):Sp:=fun vs H Q _=>∃ (p dx C:Addr) (wd:Str) (x:V) (b:Bool),vs = [.ref p]/\PC K m C/\H p = some (.ins C dx (pf wd x b))/\Q (.bl (inV (.str wd) l)) H
structure Wds (K:Frag) (mg:Str->Option Value) (tP tB tO:Addr):Prop where
 mP:mg "BY_PLACE" = some (.ref tP)
 mB:mg "BY_NAME" = some (.ref tB)
 mO:mg "OF_ONE_THING" = some (.ref tO)
 hP:∀ H,SqT K H tP bpL
 hB:∀ H,SqT K H tB bnL
 hO:∀ H,SqT K H tO otL
section
variable {P:Program} {w:World} {K:Frag} {mg:Str->Option Value} {base:Heap} {f C tP tB tO:Addr} {fd:FuncData} {m:MA}
theorem zfs:zm ["self","word","name","may_lack"] ["self","word","name","may_lack"] (zg zbg):=⟨rfl,rfl,rfl,by decide +kernel,rfl,by decide +kernel,by decide +kernel⟩
theorem zeq {g:Addr} {gd:FuncData} (F:Fun K "__init__" "Parameter.__init__" zbg f fd) (cI:zv P w K mg base 1 "is_name" g gd ["thing"] (zhf K)) :
  zp P w K mg base CX0 2 f fd ["self","word","name","may_lack"] (spP K m):=by
 refine F.ok zfs (fun vs H Q E h=>?_) (fun cdv A outer s H vs Q E hr h=>?_)
 ·obtain ⟨p,dx,C,wd,x,b,rfl,_⟩:=h
  rfl
 obtain ⟨p,dx,C,wd,x,b,rfl,hp,c,hx,q1,q2⟩:=h
 refine ⟨_,zi (zP (wx (xi (cF cI hr (ac (pv 2) zb)))) (zd wM) zH)
  (zi (wa (pv 0) (pv 1) rfl) (zi (wa (pv 0) (pv 2) rfl) (zd (wa (pv 0) (pv 3) rfl)))),?_⟩
 refine ⟨_,rfl,x,rfl,hx,fun H1 s1=>⟨_,rfl,?_⟩⟩
 rw [q1]
 refine y6 ?_
 refine ⟨_,rfl,_,rfl,p,C,dx,[],rfl,s1 _ _ hp,c.cl,c.nW,(by show 0 < 1000; decide),?_⟩
 refine ⟨_,rfl,_,rfl,p,C,dx,_,rfl,za,c.cl,c.nN,(by show 1 < 1000; decide),?_⟩
 refine ⟨_,rfl,_,rfl,p,C,dx,_,rfl,za,c.cl,c.nM,(by show 2 < 1000; decide),?_⟩
 rw [qc,qc]
 exact q2 _ s1
theorem zhh:zm ["self","name","free"] ["self","name","free"] (zg zdP):=⟨rfl,rfl,rfl,by decide +kernel,rfl,by decide +kernel,by decide +kernel⟩
theorem zfU {g D:Addr} {gd:FuncData} {ds:List Value} (F:jx K "__init__" "Seat.__init__" zdP f fd ds) (c:PC K m C) (B:jr K D "__init__" g) (mD:mg "Parameter" = some (.ref D)) (G:zp P w K mg base CX0 2 g gd ["self","word","name","may_lack"] (spP K m)) (bg:zQ K gd ["self","word","name","may_lack"] []) :
  zp P w K mg base CX0 3 f fd ["self","name","free"] (spS K C "seat"):=by
 refine F.ok zhh (fun vs H Q E h=>?_) (fun cdv A outer s H vs Q E hr h=>?_)
 ·obtain ⟨p,dx,x,b,rfl,_⟩:=h
  rfl
 obtain ⟨p,dx,x,b,rfl,hp,hx,q1,q2⟩:=h
 refine ⟨_,zd (zB (zak B mD G hr bg yc (ac (pv 0) (ac zr (ac (pv 1) (ac (pv 2) zb)))))),?_⟩
 exact ⟨_,rfl,_,rfl,_,rfl,p,dx,C,_,x,b,rfl,hp,c,hx,q1,q2⟩
theorem zhq:zm ["self","name","free"] ["self","name","free"] (zg zd3):=⟨rfl,rfl,rfl,by decide +kernel,rfl,by decide +kernel,by decide +kernel⟩
theorem zga {g D:Addr} {gd:FuncData} {ds:List Value} (F:jx K "__init__" "Both.__init__" zd3 f fd ds) (c:PC K m C) (B:jr K D "__init__" g) (mD:mg "Parameter" = some (.ref D)) (G:zp P w K mg base CX0 2 g gd ["self","word","name","may_lack"] (spP K m)) (bg:zQ K gd ["self","word","name","may_lack"] []) :
  zp P w K mg base CX0 3 f fd ["self","name","free"] (spS K C "both"):=by
 refine F.ok zhq (fun vs H Q E h=>?_) (fun cdv A outer s H vs Q E hr h=>?_)
 ·obtain ⟨p,dx,x,b,rfl,_⟩:=h
  rfl
 obtain ⟨p,dx,x,b,rfl,hp,hx,q1,q2⟩:=h
 refine ⟨_,zd (zB (zak B mD G hr bg yc (ac (pv 0) (ac zr (ac (pv 1) (ac (pv 2) zb)))))),?_⟩
 exact ⟨_,rfl,_,rfl,_,rfl,p,dx,C,_,x,b,rfl,hp,c,hx,q1,q2⟩
theorem ziN:zm ["self","name","free"] ["self","name","free"] (zg zhu):=⟨rfl,rfl,rfl,by decide +kernel,rfl,by decide +kernel,by decide +kernel⟩
theorem zhV {g D:Addr} {gd:FuncData} {ds:List Value} (F:jx K "__init__" "Tag.__init__" zhu f fd ds) (c:PC K m C) (B:jr K D "__init__" g) (mD:mg "Parameter" = some (.ref D)) (G:zp P w K mg base CX0 2 g gd ["self","word","name","may_lack"] (spP K m)) (bg:zQ K gd ["self","word","name","may_lack"] []) :
  zp P w K mg base CX0 3 f fd ["self","name","free"] (spS K C "tag"):=by
 refine F.ok ziN (fun vs H Q E h=>?_) (fun cdv A outer s H vs Q E hr h=>?_)
 ·obtain ⟨p,dx,x,b,rfl,_⟩:=h
  rfl
 obtain ⟨p,dx,x,b,rfl,hp,hx,q1,q2⟩:=h
 refine ⟨_,zd (zB (zak B mD G hr bg yc (ac (pv 0) (ac zr (ac (pv 1) (ac (pv 2) zb)))))),?_⟩
 exact ⟨_,rfl,_,rfl,_,rfl,p,dx,C,_,x,b,rfl,hp,c,hx,q1,q2⟩
theorem zhg:zm ["self","name"] ["self","name"] (zg zdN):=⟨rfl,rfl,rfl,by decide +kernel,rfl,by decide +kernel,by decide +kernel⟩
theorem zfS {g D:Addr} {gd:FuncData} (F:Fun K "__init__" "Tail.__init__" zdN f fd) (c:PC K m C) (B:jr K D "__init__" g) (mD:mg "Parameter" = some (.ref D)) (G:zp P w K mg base CX0 2 g gd ["self","word","name","may_lack"] (spP K m)) (bg:zQ K gd ["self","word","name","may_lack"] []) :
  zp P w K mg base CX0 3 f fd ["self","name"] (spT K C "tail"):=by
 refine F.ok zhg (fun vs H Q E h=>?_) (fun cdv A outer s H vs Q E hr h=>?_)
 ·obtain ⟨p,dx,x,rfl,_⟩:=h
  rfl
 obtain ⟨p,dx,x,rfl,hp,hx,q1,q2⟩:=h
 refine ⟨_,zd (zB (zak B mD G hr bg yc (ac (pv 0) (ac zr (ac (pv 1) (ac zal zb)))))),?_⟩
 exact ⟨_,rfl,_,rfl,p,dx,C,_,x,true,rfl,hp,c,hx,q1,q2⟩
theorem ziP:zm ["self","name"] ["self","name"] (zg zhD):=⟨rfl,rfl,rfl,by decide +kernel,rfl,by decide +kernel,by decide +kernel⟩
theorem zh3 {g D:Addr} {gd:FuncData} (F:Fun K "__init__" "Bag.__init__" zhD f fd) (c:PC K m C) (B:jr K D "__init__" g) (mD:mg "Parameter" = some (.ref D)) (G:zp P w K mg base CX0 2 g gd ["self","word","name","may_lack"] (spP K m)) (bg:zQ K gd ["self","word","name","may_lack"] []) :
  zp P w K mg base CX0 3 f fd ["self","name"] (spT K C "bag"):=by
 refine F.ok ziP (fun vs H Q E h=>?_) (fun cdv A outer s H vs Q E hr h=>?_)
 ·obtain ⟨p,dx,x,rfl,_⟩:=h
  rfl
 obtain ⟨p,dx,x,rfl,hp,hx,q1,q2⟩:=h
 refine ⟨_,zd (zB (zak B mD G hr bg yc (ac (pv 0) (ac zr (ac (pv 1) (ac zal zb)))))),?_⟩
 exact ⟨_,rfl,_,rfl,p,dx,C,_,x,true,rfl,hp,c,hx,q1,q2⟩
theorem zhm:zm ["self"] ["self"] (zg zdZ):=⟨rfl,rfl,rfl,by decide +kernel,rfl,by decide +kernel,by decide +kernel⟩
theorem zf6 (F:Fun K "free" "Parameter.free" zdZ f fd):zp P w K mg base CX0 1 f fd ["self"] (qh K m):=by
 refine F.ok zhm (fun vs H Q E h=>?_) (fun cdv A outer s H vs Q E hr h=>?_)
 ·obtain ⟨p,dx,C,wd,x,b,rfl,_⟩:=h
  rfl
 obtain ⟨p,dx,C,wd,x,b,rfl,c,hp,q⟩:=h
 refine ⟨_,zd (zq (yr (pv 0) rfl)),?_⟩
 exact ⟨_,rfl,p,C,dx,_,_,rfl,hp,c.cl,c.nM,zfJ,q⟩
theorem zcM:zm ["self"] ["self"] (zg uO):=⟨rfl,rfl,rfl,by decide +kernel,rfl,by decide +kernel,by decide +kernel⟩
theorem zar (F:Fun K "by_place" "Parameter.by_place" uO f fd) (Wd:Wds K mg tP tB tO):zp P w K mg base CX0 1 f fd ["self"] (uE K m bpL):=by
 refine F.ok zcM (fun vs H Q E h=>?_) (fun cdv A outer s H vs Q E hr h=>?_)
 ·obtain ⟨p,dx,C,wd,x,b,rfl,_⟩:=h
  rfl
 obtain ⟨p,dx,C,wd,x,b,rfl,c,hp,q⟩:=h
 refine ⟨_,zd (zq (y9 xZ (yr (pv 0) rfl) (wf (v:=.ref tP) rfl Wd.mP rfl) (by with_unfolding_all rfl))),?_⟩
 exact ⟨_,rfl,p,C,dx,_,_,rfl,hp,c.cl,c.nW,vp,tP,bpL,rfl,.inr (Wd.hP H),rfl,(by decide),q⟩
theorem zdK:zm ["self"] ["self"] (zg qw):=⟨rfl,rfl,rfl,by decide +kernel,rfl,by decide +kernel,by decide +kernel⟩
theorem zbw (F:Fun K "by_name" "Parameter.by_name" qw f fd) (Wd:Wds K mg tP tB tO):zp P w K mg base CX0 1 f fd ["self"] (uE K m bnL):=by
 refine F.ok zdK (fun vs H Q E h=>?_) (fun cdv A outer s H vs Q E hr h=>?_)
 ·obtain ⟨p,dx,C,wd,x,b,rfl,_⟩:=h
  rfl
 obtain ⟨p,dx,C,wd,x,b,rfl,c,hp,q⟩:=h
 refine ⟨_,zd (zq (y9 xZ (yr (pv 0) rfl) (wf (v:=.ref tB) rfl Wd.mB rfl) (by with_unfolding_all rfl))),?_⟩
 exact ⟨_,rfl,p,C,dx,_,_,rfl,hp,c.cl,c.nW,vp,tB,bnL,rfl,.inr (Wd.hB H),rfl,(by decide),q⟩
end
structure C5 where
 (c0 c1 c2 c3 c4:Addr)
def C5.at (c:C5):Nat->Addr
 | 0=>c.c0 | 1=>c.c1 | 2=>c.c2 | 3=>c.c3 | _=>c.c4
structure zg3 (P:Program) (w:World) (K:Frag) (mg:Str->Option Value) (base:Heap) (c:C5) (i0 i1 i2 i3 i4:Addr) (d0 d1 d2 d3 d4:FuncData):Prop where
 k0:zdo P w K mg base CX0 3 "Seat" c.c0 i0 d0 ["self","name","free"] [] (spS K c.c0 "seat")
 k1:zdo P w K mg base CX0 3 "Both" c.c1 i1 d1 ["self","name","free"] [] (spS K c.c1 "both")
 k2:zdo P w K mg base CX0 3 "Tail" c.c2 i2 d2 ["self","name"] [] (spT K c.c2 "tail")
 k3:zdo P w K mg base CX0 3 "Tag" c.c3 i3 d3 ["self","name","free"] [] (spS K c.c3 "tag")
 k4:zdo P w K mg base CX0 3 "Bag" c.c4 i4 d4 ["self","name"] [] (spT K c.c4 "bag")
def Res (c:C5) (H:Hp) (k:Nat) (x:V) (b:Bool) (Q:VK):Prop:=
 nmV x = true/\∀ (o dx:Addr) (H':Hp),zl H H'->H' o = some (.ins (c.at k) dx (pf (kw k) x (fr k b)))->Q (.ref o) H'
def zgL (K:Frag) (c:C5):Sp:=fun vs H Q _=>∃ (p:Addr) (k:Nat) (x:V) (b:Bool),vs = [.ref p]/\k < 5/\H p = some (.tup (zhF k x b))/\OkV K H x/\Res c H k x b Q
theorem zjW:¬ (V.str "both" = V.str "seat"):=by decide +kernel
theorem zjV:¬ (V.str "tail" = V.str "seat"):=by decide +kernel
theorem zjU:¬ (V.str "tail" = V.str "both"):=by decide +kernel
theorem zjT:¬ (V.str "tag" = V.str "seat"):=by decide +kernel
theorem zjS:¬ (V.str "tag" = V.str "both"):=by decide +kernel
theorem zjR:¬ (V.str "tag" = V.str "tail"):=by decide +kernel
theorem zjQ:¬ (V.str "bag" = V.str "seat"):=by decide +kernel
theorem zjP:¬ (V.str "bag" = V.str "both"):=by decide +kernel
theorem zjO:¬ (V.str "bag" = V.str "tail"):=by decide +kernel
theorem zjN:¬ (V.str "bag" = V.str "tag"):=by decide +kernel
section
variable {P:Program} {w:World} {K:Frag} {mg:Str->Option Value} {base:Heap} {f i0 i1 i2 i3 i4:Addr} {fd d0 d1 d2 d3 d4:FuncData} {c:C5}
theorem zj1 {x:V} {k:Nat} {b:Bool} (h:k < 5):atI (zhF k x b) 0 = some (.str (kw k)):=by rcases lt5 h with rfl | rfl | rfl | rfl | rfl <;> rfl
theorem zgR:zm ["told","word"] ["told"] (zg zhv):=⟨rfl,rfl,rfl,by decide +kernel,rfl,by decide +kernel,by decide +kernel⟩
theorem zhW (F:Fun K "parameter_of" "parameter_of" zhv f fd) (U:zg3 P w K mg base c i0 i1 i2 i3 i4 d0 d1 d2 d3 d4):zp P w K mg base CX0 5 f fd ["told"] (zgL K c):=by
 refine F.ok zgR (fun vs H Q E h=>?_) (fun cdv A outer s H vs Q E hr h=>?_)
 ·obtain ⟨p,k,x,b,rfl,_⟩:=h
  rfl
 obtain ⟨p,k,x,b,rfl,hk,hp,hx,r1,r2⟩:=h
 refine ⟨_,zi (zt (i:=1) zgR.nd rfl (Or.inl rfl) (zF yd (pv 0) zh (fun _ _=>rfl)))
  (zi (zP (zn yE (pv 1) zr (zD _)) (zd (zq (cMk U.k0 .nil yc hr (ac (zF yd (pv 0) zh (fun _ _=>rfl)) (ac (zF yd (pv 0) zh (fun _ _=>rfl)) zb))))) zH)
  (zi (zP (zn yE (pv 1) zr (zD _)) (zd (zq (cMk U.k1 .nil yc hr (ac (zF yd (pv 0) zh (fun _ _=>rfl)) (ac (zF yd (pv 0) zh (fun _ _=>rfl)) zb))))) zH)
  (zi (zP (zn yE (pv 1) zr (zD _)) (zd (zq (cMk U.k2 .nil yc hr (ac (zF yd (pv 0) zh (fun _ _=>rfl)) zb)))) zH)
  (zi (zP (zn yE (pv 1) zr (zD _)) (zd (zq (cMk U.k3 .nil yc hr (ac (zF yd (pv 0) zh (fun _ _=>rfl)) (ac (zF yd (pv 0) zh (fun _ _=>rfl)) zb))))) zH)
  (zd (zq (cMk U.k4 .nil yc hr (ac (zF yd (pv 0) zh (fun _ _=>rfl)) zb)))))))),?_⟩
 refine ⟨_,rfl,p,_,_,.str (kw k),rfl,rfl,SqT.of hp,zj1 hk,?_⟩
 rcases lt5 hk with rfl | rfl | rfl | rfl | rfl
 ·have hS:SqT K H p _:=SqT.of hp
  refine ⟨_,rfl,rfl,_,rfl,?_⟩
  refine dT rfl ?_
  exact ⟨_,rfl,p,_,_,x,rfl,rfl,hS,rfl,_,rfl,p,_,_,.bl b,rfl,rfl,hS,rfl,fun o dx ho hdx ne=>⟨o,dx,x,b,rfl,za,hx.same (yP ho hdx),r1,fun H1 s1=>⟨rfl,r2 o dx _ (xx ho hdx s1) za⟩⟩⟩
 ·have hS:SqT K H p _:=SqT.of hp
  refine ⟨_,rfl,rfl,_,rfl,?_⟩
  refine dF zjW ?_
  refine ⟨_,rfl,rfl,_,rfl,?_⟩
  refine dT rfl ?_
  exact ⟨_,rfl,p,_,_,x,rfl,rfl,hS,rfl,_,rfl,p,_,_,.bl b,rfl,rfl,hS,rfl,fun o dx ho hdx ne=>⟨o,dx,x,b,rfl,za,hx.same (yP ho hdx),r1,fun H1 s1=>⟨rfl,r2 o dx _ (xx ho hdx s1) za⟩⟩⟩
 ·have hS:SqT K H p _:=SqT.of hp
  refine ⟨_,rfl,rfl,_,rfl,?_⟩
  refine dF zjV ?_
  refine ⟨_,rfl,rfl,_,rfl,?_⟩
  refine dF zjU ?_
  refine ⟨_,rfl,rfl,_,rfl,?_⟩
  refine dT rfl ?_
  exact ⟨_,rfl,p,_,_,x,rfl,rfl,hS,rfl,fun o dx ho hdx ne=>⟨o,dx,x,rfl,za,hx.same (yP ho hdx),r1,fun H1 s1=>⟨rfl,r2 o dx _ (xx ho hdx s1) za⟩⟩⟩
 ·have hS:SqT K H p _:=SqT.of hp
  refine ⟨_,rfl,rfl,_,rfl,?_⟩
  refine dF zjT ?_
  refine ⟨_,rfl,rfl,_,rfl,?_⟩
  refine dF zjS ?_
  refine ⟨_,rfl,rfl,_,rfl,?_⟩
  refine dF zjR ?_
  refine ⟨_,rfl,rfl,_,rfl,?_⟩
  refine dT rfl ?_
  exact ⟨_,rfl,p,_,_,x,rfl,rfl,hS,rfl,_,rfl,p,_,_,.bl b,rfl,rfl,hS,rfl,fun o dx ho hdx ne=>⟨o,dx,x,b,rfl,za,hx.same (yP ho hdx),r1,fun H1 s1=>⟨rfl,r2 o dx _ (xx ho hdx s1) za⟩⟩⟩
 ·have hS:SqT K H p _:=SqT.of hp
  refine ⟨_,rfl,rfl,_,rfl,?_⟩
  refine dF zjQ ?_
  refine ⟨_,rfl,rfl,_,rfl,?_⟩
  refine dF zjP ?_
  refine ⟨_,rfl,rfl,_,rfl,?_⟩
  refine dF zjO ?_
  refine ⟨_,rfl,rfl,_,rfl,?_⟩
  refine dF zjN ?_
  exact ⟨_,rfl,p,_,_,x,rfl,rfl,hS,rfl,fun o dx ho hdx ne=>⟨o,dx,x,rfl,za,hx.same (yP ho hdx),r1,fun H1 s1=>⟨rfl,r2 o dx _ (xx ho hdx s1) za⟩⟩⟩
end
end K34
namespace L2
open PySem PySem.Spec PyProof.Rows
def dcN (n i:Nat) (D:Addr) (Pv:Nat->List (Key × V)->Hp->Prop) (ys:List (Key × V)) (y:V):VK:=fun v H5=>∃ k,y = kV k/\H5 D = some (.dK ys)/\ys.length < sizeLine/\∃ m',m' < n - i/\m' = n - (i + 1)/\i + 1<=n/\Pv (i + 1) (yq ys k v) (upd H5 D (.dK (yq ys k v)))
def dcS (n i:Nat) (Pv:Nat->List (Key × V)->Hp->Prop) (ys:List (Key × V)) (H4:Hp):Prop:=∃ m',m' < n - i/\m' = n - (i + 1)/\i + 1<=n/\Pv (i + 1) ys H4
theorem dcN.mk {n i:Nat} {D:Addr} {Pv:Nat->List (Key × V)->Hp->Prop} {ys:List (Key × V)} {y v:V} {H5:Hp} (k:Key) (hi:i < n) (ek:y = kV k) (hn:n<=sizeLine) (hD:H5 D = some (.dK ys)) (hy:ys.length<=i) (p:Pv (i + 1) (yq ys k v) (upd H5 D (.dK (yq ys k v)))):dcN n i D Pv ys y v H5:=
 ⟨k,ek,hD,by omega,n - (i + 1),by omega,rfl,hi,p⟩
theorem dcS.mk {n i:Nat} {Pv:Nat->List (Key × V)->Hp->Prop} {ys:List (Key × V)} {H4:Hp} (hi:i < n) (p:Pv (i + 1) ys H4):dcS n i Pv ys H4:=⟨n - (i + 1),by omega,rfl,hi,p⟩
theorem zgx {K:Frag} {a:Addr} {xs:List V} {caps:List (Option Nat)} {g:TG} {tt:TT} {tk tv:TE} {σ : St} {H1:Hp} {Q:VK} {D:Addr} (Pv:Nat->List (Key × V)->Hp->Prop) (h0:Pv 0 [] (upd H1 D (.dK [])))
  (hl:∀ i ys H,Pv i ys H->SqL K H a xs)
  (hs:∀ i x p ys H,i < xs.length->xs[i]? = some x->Pv i ys H->H p = none->g (.ref p) (yS caps σ) (upd H p (.tup [.int i,x])) fun σ2 H2=>tt σ2 H2 fun ok H3=>(ok = true->tk σ2 H3 fun y H4=>tv σ2 H4 (dcN xs.length i D Pv ys y))/\(ok = false->dcS xs.length i Pv ys H3))
  (hd:∀ ys H,Pv xs.length ys H->Q (.ref D) H):DCr (Ite K a) caps g tt tk tv σ H1 Q D:=by
 refine ⟨fun i m ys H=>m = xs.length - i/\i<=xs.length/\Pv i ys H,⟨xs.length,by simp,Nat.zero_le _,h0⟩,?_⟩
 rintro i m ys H ⟨rfl,hi,p⟩
 have q:=hl i ys H p
 by_cases hlt:i < xs.length
 ·refine .inr ⟨⟨xs,xs[i],q,by simp [hlt]⟩,fun x H' y=>?_⟩
  obtain ⟨pp,y,rfl,hp,y2,rfl⟩:=y
  exact hs i y pp ys H hlt (y2 xs q) p hp
 ·have e:i = xs.length:=by omega
  subst e
  exact .inl ⟨⟨xs,q,Nat.le_refl _⟩,hd ys H p⟩
end L2
namespace K34
open PySem L2 PyProof.Rows
structure Rw where
 (k:Nat) (z:Str) (b:Bool)
def Rw.ok (r:Rw):Prop:=r.k < 5/\yx r.z = true
abbrev rv (r:Rw):List V:=zhF r.k (.str r.z) r.b
abbrev pr (r:Rw):List (Str × V):=pf (kw r.k) (.str r.z) (fr r.k r.b)
def PAt (c:C5) (H:Hp) (p:Addr) (r:Rw):Prop:=∃ dx,H p = some (.ins (c.at r.k) dx (pr r))
def y7 (k:Nat):Bool:=k == 0 || k == 1
def z3 (k:Nat):Bool:=k == 1 || k == 3
theorem zgW:∀ k:Nat,k < 5->inV (.str (kw k)) bpL = y7 k:=by decide +kernel
theorem jS:∀ k:Nat,k < 5->inV (.str (kw k)) bnL = z3 k:=by decide +kernel
def grp:Nat->Nat
 | 0=>0 | 1=>0 | 2=>1 | 3=>2 | _=>3
def wZ (l g:Nat):Bool:=decide (g < l) || (g == l && (g == 1 || g == 3))
def yw:Nat->List Rw->Bool
 | _,[]=>true
 | l,r :: rs=>!wZ l (grp r.k) && yw (grp r.k) rs
def nms (rows:List Rw):List Str:=(rows.filter fun r=>z3 r.k).map (·.z)
structure x0 (rows:List Rw) (bars:List Str):Prop where
 ok:∀ r ∈ rows,r.ok
 l24:rows.length<=24
 l60:bars.length<=60
 ord:yw 0 rows = true
 bn:∀ z ∈ bars,yx z = true
 nd:(nms rows ++ bars).Nodup
def zE (kk:Nat):Nat->List Rw->Option Nat
 | _,[]=>none
 | i,r :: rs=>if r.k = kk then some i else zE kk (i + 1) rs
def xr:Option Nat->V
 | none=>.non
 | some i=>.int i
def yB:Nat->List (Key × V)->List Rw->List (Key × V)
 | _,acc,[]=>acc
 | i,acc,r :: rs=>yB (i + 1) (if z3 r.k = true then yq acc (.inr r.z) (.int i) else acc) rs
def plN (rows:List Rw):Nat:=(rows.filter fun r=>y7 r.k).length
def zfc:List Str:=["row","bar_names","place_count","tail_number","bag_number","doors"]
structure FF (fs:List (Str × V)) (lr lb ld:Addr) (rows:List Rw):Prop where
 row:fs.lookup ("row" : Str) = some (.ref lr)
 bn:fs.lookup ("bar_names" : Str) = some (.ref lb)
 pc:fs.lookup ("place_count" : Str) = some (.int (plN rows))
 tn:fs.lookup ("tail_number" : Str) = some (xr (zE 2 0 rows))
 bg:fs.lookup ("bag_number" : Str) = some (xr (zE 4 0 rows))
 dr:fs.lookup ("doors" : Str) = some (.ref ld)
 no:∀ m,m ∉ zfc->fs.lookup m = none
def y8 (c:C5) (CF:Addr) (H:Hp) (f:Addr) (rows:List Rw) (bars:List Str):Prop:=
 ∃ dx fs lr lb ld ps,H f = some (.ins CF dx fs)/\FF fs lr lb ld rows/\H lr = some (.lst (ps.map V.ref))/\Paired (PAt c H) ps rows/\H lb = some (.lst (bars.map V.str))/\H ld = some (.dK (yB 0 [] rows))
section
variable {c:C5} {CF f p:Addr} {H H':Hp} {rows:List Rw} {bars:List Str} {r:Rw} {ps:List Addr}
theorem PAt.same (h:PAt c H p r) (s:zl H H'):PAt c H' p r:=h.imp fun _=>s _ _
theorem yY (s:zl H H') (h:Paired (PAt c H) ps rows):Paired (PAt c H') ps rows:=Paired.imp' (fun _ _ z=>z.same s) h
theorem y8.same (h:y8 c CF H f rows bars) (s:zl H H'):y8 c CF H' f rows bars:=by
 obtain ⟨dx,fs,lr,lb,ld,ps,h1,h2,h3,h4,h5,h6⟩:=h
 exact ⟨dx,fs,lr,lb,ld,ps,s _ _ h1,h2,s _ _ h3,yY s h4,s _ _ h5,s _ _ h6⟩
def zaW (c:C5) (CF:Addr) (H H':Hp) (f:Addr) (rows:List Rw) (bars:List Str):Prop:=
 ∃ dx fs lr lb ld ps,H' f = some (.ins CF dx fs)/\FF fs lr lb ld rows/\H' lr = some (.lst (ps.map V.ref))/\Paired (PAt c H') ps rows/\H' lb = some (.lst (bars.map V.str))/\H' ld = some (.dK (yB 0 [] rows))/\H lr = none/\H lb = none
theorem zaW.of {H0:Hp} (h:zaW c CF H H' f rows bars) (s:zl H0 H):zaW c CF H0 H' f rows bars:=by
 obtain ⟨dx,fs,lr,lb,ld,ps,h1,h2,h3,h4,h5,h6,h7,h8⟩:=h
 exact ⟨dx,fs,lr,lb,ld,ps,h1,h2,h3,h4,h5,h6,s.free h7,s.free h8⟩
theorem yt {α β : Type} {R : α->β->Prop} {xs:List α} {ys:List β} (h:Paired R xs ys):∀ {i:Nat} {x : α},xs[i]? = some x->∃ y,ys[i]? = some y/\R x y:=by
 induction h with
 | nil=>intro i x e; simp at e
 | cons r t ih=>
  intro i x e
  cases i with
  | zero=>exact ⟨_,rfl,by simp at e; exact e ▸ r⟩
  | succ i=>simpa using ih (by simpa using e)
end
def zgp (x:Str):Option V:=([(("seat" : Str),V.int 0),("both",.int 0),("tail",.int 1),("tag",.int 2),("bag",.int 3)]:List (Str × V)).lookup x
theorem zgo:∀ k:Nat,k < 5->zgp (kw k) = some (.int (grp k)):=by decide +kernel
theorem zii (k:Nat):grp k < 4:=by unfold grp; split <;> decide
structure zaU (w:World) (K:Frag) (mg:Str->Option Value) (G sg:Addr):Prop where
 len:mg "len" = none
 en:mg "enumerate" = none
 lst:mg "list" = none
 set:mg "set" = none
 mp:∃ t,mg "MOST_PARAMETERS" = some (.int 24 t)
 mb:∃ t,mg "MOST_BARS" = some (.int 60 t)
 mgr:mg "GROUPS" = some (.ref G)
 gt:zis w K G zgp
 ms:mg "SINGLE_GROUPS" = some (.ref sg)
 hs:∀ H,SqT K H sg [.int 1,.int 3]
def Cs5 (c:C5):Addr->Prop:=fun C=>∃ k,k < 5/\C = c.at k
def zdA (K:Frag):Sp:=fun vs H Q _=>∃ (a b:Addr) (xs ys:List V),vs = [.ref a,.ref b]/\SqL K H a xs/\SqL K H b ys/\xs.length<=24/\ys.length<=60/\Q .non H
def zgM (c:C5):Sp:=fun vs H Q _=>∃ (a:Addr) (ps:List Addr) (rows:List Rw),vs = [.ref a]/\H a = some (.lst (ps.map V.ref))/\Paired (PAt c H) ps rows/\(∀ r ∈ rows,r.ok)/\yw 0 rows = true/\∀ H',zl H H'->Q .non H'
def ziJ:Sp:=fun vs H Q _=>∃ (b:Addr) (bars:List Str),vs = [.ref b]/\H b = some (.lst (bars.map V.str))/\(∀ z ∈ bars,yx z = true)/\∀ H',zl H H'->Q .non H'
def ziI (c:C5):Sp:=fun vs H Q _=>∃ (a b:Addr) (ps:List Addr) (rows:List Rw) (bars:List Str),vs = [.ref a,.ref b]/\H a = some (.lst (ps.map V.ref))/\Paired (PAt c H) ps rows/\(∀ r ∈ rows,r.ok)/\rows.length<=500/\H b = some (.lst (bars.map V.str))/\bars.length<=500/\(nms rows ++ bars).Nodup/\∀ H',zl H H'->Q .non H'
def ziK (c:C5):Sp:=fun vs H Q _=>∃ (a:Addr) (ps:List Addr) (rows:List Rw) (kk:Nat),vs = [.ref a,.str (kw kk)]/\kk < 5/\H a = some (.lst (ps.map V.ref))/\Paired (PAt c H) ps rows/\(∀ r ∈ rows,r.ok)/\∀ H',zl H H'->Q (xr (zE kk 0 rows)) H'
theorem zh9:∀ i:Nat,i < 5->∀ k:Nat,k < 5->decide (V.str (kw k) = V.str (kw i)) = (k == i):=by decide +kernel
theorem zcx {α : Type} {xs:List α} {i:Nat} {x : α} (h:xs[i]? = some x):xs.drop i = x :: xs.drop (i + 1):=by
 have hi:i < xs.length:=(List.getElem?_eq_some_iff.mp h).1
 rw [List.drop_eq_getElem_cons hi]
 rw [List.getElem?_eq_getElem hi] at h
 rw [Option.some.inj h]
theorem xp {ps:List Addr} {i:Nat} {x:V} (h:(ps.map V.ref)[i]? = some x):∃ p,ps[i]? = some p/\x = .ref p:=by
 rw [List.getElem?_map] at h
 cases e:ps[i]? with
 | none=>rw [e] at h; cases h
 | some p=>rw [e] at h; exact ⟨p,rfl,(Option.some.inj h).symm⟩
theorem strs_at {zs:List Str} {i:Nat} {x:V} (h:(zs.map V.str)[i]? = some x):∃ z,zs[i]? = some z/\x = .str z:=by
 rw [List.getElem?_map] at h
 cases e:zs[i]? with
 | none=>rw [e] at h; cases h
 | some p=>rw [e] at h; exact ⟨p,rfl,(Option.some.inj h).symm⟩
section
variable {P:Program} {w:World} {K:Frag} {mg:Str->Option Value} {base:Heap} {f G sg:Addr} {fd:FuncData} {c:C5} {m:MA}
def Pcs (K:Frag) (m:MA) (c:C5):Prop:=∀ k,k < 5->PC K m (c.at k)
theorem zfr:zm ["parameters","bars"] ["parameters","bars"] (zg zbe):=⟨rfl,rfl,rfl,by decide +kernel,rfl,by decide +kernel,by decide +kernel⟩
theorem zf1 (F:Fun K "refuse_too_many" "refuse_too_many" zbe f fd) (T:zaU w K mg G sg):zp P w K mg base CX0 1 f fd ["parameters","bars"] (zdA K):=by
 refine F.ok zfr (fun vs H Q E h=>?_) (fun cdv A outer s H vs Q E hr h=>?_)
 ·obtain ⟨a,b,xs,ys,rfl,_⟩:=h
  rfl
 obtain ⟨a,b,xs,ys,rfl,ha,hb,l1,l2,q⟩:=h
 obtain ⟨t1,m1⟩:=T.mp
 obtain ⟨t2,m2⟩:=T.mb
 refine ⟨_,zi (zP (zn zap (cB yi T.len PySem.boot_len (ac (pv 0) zb)) (wf (v:=.int 24) rfl m1 ⟨_,rfl⟩) (zD _)) (zd wM) zH)
  (zd (zP (zn zap (cB yi T.len PySem.boot_len (ac (pv 1) zb)) (wf (v:=.int 60) rfl m2 ⟨_,rfl⟩) (zD _)) (zd wM) zH)),?_⟩
 refine ⟨_,rfl,a,_,rfl,.inl ha,_,_,rfl,rfl,_,rfl,?_⟩
 refine dF (by show ¬ (24:Int) < (xs.length:Int); omega) ?_
 refine ⟨_,rfl,b,_,rfl,.inl hb,_,_,rfl,rfl,_,rfl,?_⟩
 exact dF (by show ¬ (60:Int) < (ys.length:Int); omega) q
theorem xU:zm ["parameters","last","at","parameter","group"] ["parameters"] (zg qt):=⟨rfl,rfl,rfl,by decide +kernel,rfl,by decide +kernel,by decide +kernel⟩
theorem zes (F:Fun K "refuse_bad_order" "refuse_bad_order" qt f fd) (T:zaU w K mg G sg) (PP:Pcs K m c):zp P w K mg base CX0 1 f fd ["parameters"] (zgM c):=by
 refine F.ok xU (fun vs H Q E h=>?_) (fun cdv A outer s H vs Q E hr h=>?_)
 ·obtain ⟨a,ps,rows,rfl,_⟩:=h
  rfl
 obtain ⟨a,ps,rows,rfl,ha,hp,hok,ho,q⟩:=h
 refine ⟨_,zi (zt (i:=1) xU.nd rfl (Or.inl rfl) zh)
  (zd (yz PassesOwn.never rfl (wP rfl T.en (ac (pv 0) zb)) (yA rfl (zo (zk (i:=2) xU.nd rfl (Or.inl rfl)) (zo (zk (i:=3) xU.nd rfl (Or.inl rfl)) yh)))
   (zi (zt (i:=4) xU.nd rfl (Or.inl rfl) (zfL T.gt T.mgr (yr (pv 3) rfl)))
   (zi (zP (PW.pt (zd8 (zn ua (pv 4) (pv 1) (zD _)) (zbo (PW.pt (xh (zn yE (pv 4) (pv 1) (zD _)) (yO (zn xZ (pv 4) (wf (v:=.ref sg) rfl T.ms rfl) (by with_unfolding_all rfl)))))))) (zd wM) zH)
   (zd (zt (i:=1) xU.nd rfl (Or.inl rfl) (pv 4))))))),?_⟩
 show vK _ _ _ _ _
 refine ⟨_,rfl,a,rfl,⟨_,SqL.of ha⟩,vG (K:=K) (a:=a) (xs:=ps.map V.ref) (fun i σ H'=>∃ (l:Nat) (v2 v3 v4:Option V),σ = [some (.ref a),some (.int (l:Nat)),v2,v3,v4]/\zl H H'/\yw l (rows.drop i) = true)
  ⟨0,_,_,_,rfl,zl.refl _,ho⟩ (fun i σ H' _ ⟨_,_,_,_,_,sH,_⟩=>SqL.of (sH _ _ ha)) ?_ ?_⟩
 ·rintro i x p σ H' hx ⟨l,v2,v3,v4,rfl,sH,hl⟩ hpn
  obtain ⟨pa,hpa,rfl⟩:=xp hx
  obtain ⟨r,hr',dx,hdx⟩:=yt hp hpa
  have rok:=hok r (List.mem_of_getElem? hr')
  have C:=PP r.k rok.1
  rw [zcx hr'] at hl
  have hl':(!wZ l (grp r.k) && yw (grp r.k) (rows.drop (i + 1))) = true:=hl
  rw [Bool.and_eq_true,Bool.not_eq_true'] at hl'
  obtain ⟨hb,hl2⟩:=hl'
  have hb':(decide (grp r.k < l) || (grp r.k == l && (grp r.k == 1 || grp r.k == 3))) = false:=hb
  rw [Bool.or_eq_false_iff] at hb'
  have sp:=zc hpn (.tup [.int (i:Nat),.ref pa])
  refine ⟨p,_,rfl,SqT.of za,rfl,_,_,rfl,_,_,rfl,rfl,?_⟩
  refine ⟨_,rfl,pa,_,dx,_,_,rfl,sp _ _ (sH _ _ hdx),C.cl,C.nW,vp,kw r.k,.int (grp r.k),rfl,zgo r.k rok.1,?_⟩
  refine ⟨_,rfl,_,rfl,_,_,rfl,rfl,_,rfl,?_⟩
  refine dF (fun z=>by have:=of_decide_eq_false hb'.1; omega) ?_
  have fin:∃ (l':Nat) (v2 v3 v4:Option V),([some (.ref a),some (.int (grp r.k:Nat)),some (.int (i:Nat)),some (.ref pa),some (.int (grp r.k:Nat))]:L2.St) = [some (.ref a),some (.int (l':Nat)),v2,v3,v4]/\zl H (upd H' p (.tup [.int (i:Nat),.ref pa]))/\yw l' (rows.drop (i + 1)) = true:=
   ⟨grp r.k,_,_,_,rfl,sH.trans sp,hl2⟩
  refine ⟨_,rfl,_,rfl,rfl,_,rfl,?_⟩
  by_cases e:grp r.k = l
  ·refine dT (by rw [e]) ?_
   refine ⟨_,rfl,sg,_,rfl,.inr (T.hs _),rfl,(by decide),_,rfl,?_⟩
   have h13:(grp r.k == 1 || grp r.k == 3) = false:=by
    have:=hb'.2
    rw [e] at this |-
    simpa using this
   have hin:inV (.int (grp r.k:Nat)) [.int 1,.int 3] = false:=by
    have g4:=zii r.k
    have:∀ g:Nat,g < 4->(g == 1 || g == 3) = false->inV (.int (g:Nat)) [.int 1,.int 3] = false:=by decide +kernel
    exact this _ g4 h13
   rw [show (if false = true then !inV (V.int ((grp r.k:Nat):Int)) [V.int 1,V.int 3] else inV (V.int ((grp r.k:Nat):Int)) [V.int 1,V.int 3]) = false from hin]
   refine y6 ?_
   exact ⟨_,rfl,fin⟩
  ·refine dF (fun z=>e (by have:=V.int.inj z; omega)) ?_
   exact ⟨_,rfl,fin⟩
 ·rintro σ H' ⟨l,v2,v3,v4,rfl,sH,_⟩
  exact q _ sH
end
end K34
namespace L2
open PySem PySem.Spec PyProof.Rows
theorem qy {X:Cx} {K:Frag} {e:Expr} {f:Str} {pos:Pos} {ta:TE} (hK:X.K = K) (he:PE X e ta) (hb:attributeBase e f X.env (eval e X.env) = eval e X.env):PE X (.Attribute e f pos) (ziD K ta f):=hK ▸ yr he hb
end L2
namespace K34
open PySem L2 PyProof.Rows
theorem ym {n:Nat} (h:n<=1000):n<=sizeLine:=Nat.le_of_lt (zx h)
theorem zge {rows:List Rw} {i:Nat} {r:Rw} (h:rows[i]? = some r):nms (rows.take (i + 1)) = nms (rows.take i) ++ (if z3 r.k = true then [r.z] else []):=by
 have hi:i < rows.length:=(List.getElem?_eq_some_iff.mp h).1
 have e:rows[i] = r:=by rw [List.getElem?_eq_getElem hi] at h; exact Option.some.inj h
 unfold nms
 rw [List.take_succ_eq_append_getElem hi,List.filter_append,List.map_append,e]
 cases hb:z3 r.k <;> simp [hb]
section
variable {P:Program} {w:World} {K:Frag} {mg:Str->Option Value} {base:Heap} {f G sg:Addr} {fd:FuncData} {c:C5} {m:MA}
theorem za9:zm ["parameters","word","at","parameter"] ["parameters","word"] (zg zdS):=⟨rfl,rfl,rfl,by decide +kernel,rfl,by decide +kernel,by decide +kernel⟩
theorem zfX (F:Fun K "number_of_word" "number_of_word" zdS f fd) (T:zaU w K mg G sg) (PP:Pcs K m c):zp P w K mg base CX0 1 f fd ["parameters","word"] (ziK c):=by
 refine F.ok za9 (fun vs H Q E h=>?_) (fun cdv A outer s H vs Q E hr h=>?_)
 ·obtain ⟨a,ps,rows,kk,rfl,_⟩:=h
  rfl
 obtain ⟨a,ps,rows,kk,rfl,hkk,ha,hp,hok,q⟩:=h
 refine ⟨_,zi (yz PassesOwn.never rfl (wP rfl T.en (ac (pv 0) zb)) (yA rfl (zo (zk (i:=2) za9.nd rfl (Or.inl rfl)) (zo (zk (i:=3) za9.nd rfl (Or.inl rfl)) yh)))
   (zd (zP (zn yE (yr (pv 3) rfl) (pv 1) (zD _)) (zd (zq (pv 2))) zH))) (zd (zq zbp)),?_⟩
 refine ⟨_,rfl,a,rfl,⟨_,SqL.of ha⟩,vG (K:=K) (a:=a) (xs:=ps.map V.ref) (fun i σ H'=>∃ (v2 v3:Option V),σ = [some (.ref a),some (.str (kw kk)),v2,v3]/\zl H H'/\zE kk i (rows.drop i) = zE kk 0 rows)
  ⟨_,_,rfl,zl.refl _,rfl⟩ (fun i σ H' _ ⟨_,_,_,sH,_⟩=>SqL.of (sH _ _ ha)) ?_ ?_⟩
 ·rintro i x p σ H' hx ⟨v2,v3,rfl,sH,hl⟩ hpn
  obtain ⟨pa,hpa,rfl⟩:=xp hx
  obtain ⟨r,hr',dx,hdx⟩:=yt hp hpa
  have rok:=hok r (List.mem_of_getElem? hr')
  have C:=PP r.k rok.1
  rw [zcx hr'] at hl
  have hl':(if r.k = kk then some i else zE kk (i + 1) (rows.drop (i + 1))) = zE kk 0 rows:=hl
  have sp:=zc hpn (.tup [.int (i:Nat),.ref pa])
  refine ⟨p,_,rfl,SqT.of za,rfl,_,_,rfl,_,_,rfl,rfl,?_⟩
  refine ⟨_,rfl,pa,_,dx,_,_,rfl,sp _ _ (sH _ _ hdx),C.cl,C.nW,vp,_,rfl,rfl,_,rfl,?_⟩
  by_cases e:r.k = kk
  ·refine dT (by rw [e]) ?_
   rw [if_pos e] at hl'
   refine ⟨_,rfl,?_⟩
   have:=q _ (sH.trans sp)
   rw [<- hl'] at this
   exact this
  ·refine dF (fun z=>?_) ?_
   ·have h1:=zh9 kk hkk r.k rok.1
    rw [decide_eq_true z] at h1
    exact e (by simpa using h1.symm)
   ·rw [if_neg e] at hl'
    exact ⟨_,_,rfl,sH.trans sp,hl'⟩
 ·rintro σ H' ⟨v2,v3,rfl,sH,hl⟩
  have e:zE kk 0 rows = none:=by
   rw [<- hl,List.length_map,hp.length,List.drop_length]
   rfl
  have:=q _ sH
  rw [e] at this
  exact this
theorem zb9:zm ["bars","bar"] ["bars"] (zg zbf):=⟨rfl,rfl,rfl,by decide +kernel,rfl,by decide +kernel,by decide +kernel⟩
theorem zep {g:Addr} {gd:FuncData} (F:Fun K "refuse_bars_without_name" "refuse_bars_without_name" zbf f fd) (cI:zv P w K mg base 1 "is_name" g gd ["thing"] (zhf K)):zp P w K mg base CX0 2 f fd ["bars"] ziJ:=by
 refine F.ok zb9 (fun vs H Q E h=>?_) (fun cdv A outer s H vs Q E hr h=>?_)
 ·obtain ⟨b,bars,rfl,_⟩:=h
  rfl
 obtain ⟨b,bars,rfl,hb,hn,q⟩:=h
 refine ⟨_,zd (yz PassesOwn.never rfl (zZ (pv 0)) (zk (i:=1) zb9.nd rfl (Or.inl rfl)) (zd (zP (wx (xi (cF cI hr (ac (pv 1) zb)))) (zd wM) zH))),?_⟩
 refine ⟨_,rfl,b,rfl,⟨_,SqL.of hb⟩,yM (K:=K) (a:=b) (xs:=bars.map V.str) (fun i σ H'=>∃ v1,σ = [some (.ref b),v1]/\zl H H') ⟨_,rfl,zl.refl _⟩ (fun i σ H' _ ⟨_,_,sH⟩=>SqL.of (sH _ _ hb)) ?_ ?_⟩
 ·rintro i x σ H' hx ⟨v1,rfl,sH⟩
  obtain ⟨z,hz,rfl⟩:=strs_at hx
  have nz:=hn z (List.mem_of_getElem? hz)
  refine ⟨_,rfl,_,rfl,.inl ⟨z,rfl,zav nz⟩,fun H2 s2=>⟨_,rfl,?_⟩⟩
  rw [show nmV (.str z) = true from nz]
  refine y6 ?_
  exact ⟨_,rfl,sH.trans s2⟩
 ·rintro σ H' ⟨v1,rfl,sH⟩
  exact q _ sH
theorem zh6:([Str.ofString "parameter"]:List Str).Nodup:=by decide +kernel
theorem uH:zm ["parameters","bars","seen","name"] ["parameters","bars"] (zg qr):=⟨rfl,rfl,rfl,by decide +kernel,rfl,by decide +kernel,by decide +kernel⟩
theorem zel {gd:FuncData} (F:Fun K "refuse_twice" "refuse_twice" qr f fd) (T:zaU w K mg G sg) (PP:Pcs K m c) (GB:zp P w K mg base CX0 1 m.fB gd ["self"] (uE K m bnL)) (bB:zQ K gd ["self"] []):zp P w K mg base CX0 2 f fd ["parameters","bars"] (ziI c):=by
 refine F.ok uH (fun vs H Q E h=>?_) (fun cdv A outer s H vs Q E hr h=>?_)
 ·obtain ⟨a,b,ps,rows,bars,rfl,_⟩:=h
  rfl
 obtain ⟨a,b,ps,rows,bars,rfl,ha,hp,hok,l1,hb,l2,nd,q⟩:=h
 have hC:∀ C,Cs5 c C->Cls K C/\yN K C "by_name" m.fB:=fun C ⟨k,hk,e⟩=>by rw [e]; exact ⟨(PP k hk).cl,(PP k hk).mB⟩
 refine ⟨_,zi (zt (i:=2) uH.nd rfl (Or.inl rfl) (zbq zdi rfl T.set (by decide +kernel:bootBuiltins "set" = some (.type "set"))))
  (zd (yz PassesOwn.never rfl (zZ (zy xB (xL [] ["parameter"] [none] rfl ⟨rfl,rfl,rfl,rfl⟩ (zZ (pv 0)) (z9 0) rfl rfl rfl
    (fun pins fp s H C=>⟨zk (i:=0) zh6 rfl (Or.inl rfl) (.inr rfl),wN (xi (xz (pv 0) hC GB hr bB yc)),qy (K:=K) rfl (pv 0) rfl⟩)) (cTy yK T.lst PyProof.Rows.boot_list (ac (pv 1) zb)))) (zk (i:=3) uH.nd rfl (Or.inl rfl))
   (zi (zP (zn uU (pv 3) (pv 2) (by with_unfolding_all rfl)) (zd wM) zH)
   (zd (zB (zfK (pv 2) (pv 3) ⟨rfl,rfl,rfl,rfl⟩)))))),?_⟩
 refine ⟨rfl,fun se hse=>?_⟩
 have s1:zl H (upd H se (wu P w se (fun _=>false) 0)):=zc hse _
 have g1:upd H se (wu P w se (fun _=>false) 0) se = some (wu P w se (fun _=>false) 0):=za
 show vK _ _ _ _ (upd H se (wu P w se (fun _=>false) 0))
 generalize upd H se (wu P w se (fun _=>false) 0) = H1 at s1 g1 |-
 have ha1:=s1 _ _ ha
 have hp1:=yY s1 hp
 refine ⟨_,rfl,a,rfl,⟨_,SqL.of ha1⟩,fun D hD=>?_⟩
 refine xt (K:=K) (xs:=ps.map V.ref) (fun i ys H'=>zl H1 H'/\H' D = some (.lst ys)/\ys = (nms (rows.take i)).map V.str) ⟨zc hD _,za,rfl⟩ (fun i ys H' h=>SqL.of (h.1 _ _ ha1)) ?_ ?_
 ·rintro i x ys H' hlt hx ⟨sH,hDy,ey⟩
  obtain ⟨pa,hpa,rfl⟩:=xp hx
  obtain ⟨r,hr',dx,hdx⟩:=yt hp1 hpa
  have rok:=hok r (List.mem_of_getElem? hr')
  have C:=PP r.k rok.1
  have nl:ys.length<=i:=by
   rw [ey,List.length_map]
   unfold nms
   rw [List.length_map]
   refine Nat.le_trans (List.length_filter_le _ _) ?_
   rw [List.length_take]
   omega
  have hd2:=sH _ _ hdx
  refine ⟨_,rfl,pa,_,dx,_,rfl,⟨r.k,rok.1,rfl⟩,hd2,vq (by decide +kernel) (by decide +kernel) (by decide +kernel),pa,dx,_,_,_,_,rfl,C,hd2,_,rfl,?_⟩
  rw [jS r.k rok.1]
  have tk:=zge hr'
  refine ⟨fun e=>?_,fun e=>?_⟩
  ·rw [e,if_pos rfl] at tk
   refine ⟨_,rfl,pa,_,dx,_,_,rfl,hd2,C.cl,C.nN,wc,?_⟩
   refine lcN.mk hlt (ym (by rw [List.length_map,hp.length]; omega)) hDy nl ⟨fun b u e=>?_,za,?_⟩
   ·rw [zf (ze e hD)]
    exact sH b u e
   ·rw [ey,tk,List.map_append]
    rfl
  ·rw [e,if_neg Bool.false_ne_true,List.append_nil] at tk
   exact lcS.mk hlt ⟨sH,hDy,by rw [ey,tk]⟩
 rintro ys H2 ⟨s2,hDy,ey⟩
 have ey:ys = (nms rows).map V.str:=by
  rw [ey,List.length_map,hp.length,List.take_length]
 subst ey
 have hb2:=s2 _ _ (s1 _ _ hb)
 refine ⟨_,rfl,b,_,rfl,.inl (SqL.of hb2),fun l hl=>?_⟩
 have s3:=zc hl (.lst (bars.map V.str))
 have g3:upd H2 l (.lst (bars.map V.str)) l = some (.lst (bars.map V.str)):=za
 generalize upd H2 l (.lst (bars.map V.str)) = H3 at s3 g3 |-
 have ln:(nms rows).length<=500:=by
  unfold nms
  rw [List.length_map]
  exact Nat.le_trans (List.length_filter_le _ _) l1
 refine ⟨D,l,_,_,rfl,rfl,s3 _ _ hDy,g3,ym (by rw [List.length_map,List.length_map]; omega),fun l4 hl4=>?_⟩
 rw [<- List.map_append]
 have s4:=zc hl4 (.lst ((nms rows ++ bars).map V.str))
 have g4:upd H3 l4 (.lst ((nms rows ++ bars).map V.str)) l4 = some (.lst ((nms rows ++ bars).map V.str)):=za
 have nse:l4 ≠ se:=fun z=>by
  rw [z] at hl4
  rw [s3 _ _ (s2 _ _ g1)] at hl4
  cases hl4
 generalize upd H3 l4 (.lst ((nms rows ++ bars).map V.str)) = H4 at s4 g4 |-
 have sA:zl H1 H4:=s2.trans (s3.trans s4)
 have gse:=sA _ _ g1
 refine ⟨l4,rfl,⟨_,SqL.of g4⟩,yM (K:=K) (a:=l4) (xs:=(nms rows ++ bars).map V.str) (fun i σ H'=>∃ (S:Str->Bool) (n:Nat) (v3:Option V),σ = [some (.ref a),some (.ref b),some (.ref se),v3]/\H' se = some (wu P w se S n)/\(∀ z,S z = decide (z ∈ (nms rows ++ bars).take i))/\n<=i/\(∀ b' u,H4 b' = some u->b' ≠ se->H' b' = some u))
  ⟨_,0,_,rfl,gse,fun z=>by simp,Nat.le_refl _,fun b' u e _=>e⟩ (fun i σ H' _ ⟨_,_,_,_,_,_,_,k⟩=>SqL.of (k _ _ g4 nse)) ?_ ?_⟩
 ·rintro i x σ H' hx ⟨S,n,v3,rfl,hS,hSz,hn,k⟩
  obtain ⟨z,hz,rfl⟩:=strs_at hx
  have hi:i < (nms rows ++ bars).length:=(List.getElem?_eq_some_iff.mp hz).1
  have ez:(nms rows ++ bars)[i] = z:=by rw [List.getElem?_eq_getElem hi] at hz; exact Option.some.inj hz
  have nz:S z = false:=by
   rw [hSz,decide_eq_false_iff_not]
   intro hm
   obtain ⟨j,hj,ej⟩:=List.mem_take_iff_getElem.mp hm
   have:=List.pairwise_iff_getElem.mp nd j i (by omega) hi (by omega)
   exact this (ej.trans ez.symm)
  refine ⟨_,rfl,_,rfl,se,S,n,z,rfl,rfl,hS,_,rfl,?_⟩
  rw [nz]
  refine y6 ?_
  refine ⟨_,rfl,se,S,n,rfl,hS,_,rfl,S,n,z,rfl,hS,?_,?_⟩
  ·rw [List.length_append] at hi
   show n + 1 < 4096
   omega
  ·refine ⟨_,_,_,rfl,za,fun y=>?_,?_,fun b' u e ne=>?_⟩
   ·rw [hSz y,List.take_succ_eq_append_getElem hi,ez]
    simp [List.mem_append]
   ·rw [nz]
    show n + 1<=i + 1
    omega
   ·rw [zf ne]
    exact k b' u e ne
 ·rintro σ H' ⟨S,n,v3,rfl,hS,hSz,hn,k⟩
  refine q _ fun b' u e=>k b' u (sA _ _ (s1 _ _ e)) fun z=>?_
  rw [z,hse] at e
  cases e
end
def SX (f:Addr) (H H':Hp):Prop:=∀ b u,H b = some u->b ≠ f->H' b = some u
theorem SX.same {f:Addr} {H H1 H2:Hp} (x:SX f H H1) (s:zl H1 H2):SX f H H2:=fun b u e n=>s b u (x b u e n)
theorem SX.upd {f:Addr} {H H1:Hp} {o:HO} (x:SX f H H1):SX f H (upd H1 f o):=fun b u e n=>by rw [zf n]; exact x b u e n
theorem SX.refl {f:Addr} {H:Hp}:SX f H H:=fun _ _ e _=>e
theorem x8 (f:Str) (v:V):∀ fs:List (Str × V),(zR f v fs).length<=fs.length + 1
 | []=>Nat.le_refl _
 | (g,x) :: r=>by
  show (if g = f then (g,v) :: r else (g,x) :: zR f v r).length<=_
  split
  ·simp
  ·have:=x8 f v r
   simp only [List.length_cons]
   omega
def Pre (fs:List (Str × V)):Prop:=fs.length<=50/\∀ m,m ∉ zfc->fs.lookup m = none
structure FC (K:Frag) (CF:Addr):Prop where
 cl:Cls K CF
 n1:yQ K CF "row"
 n2:yQ K CF "bar_names"
 n3:yQ K CF "place_count"
 n4:yQ K CF "tail_number"
 n5:yQ K CF "bag_number"
 n6:yQ K CF "doors"
def zdC (c:C5) (CF:Addr):Sp:=fun vs H Q _=>∃ (f a b dx:Addr) (fs:List (Str × V)) (ps:List Addr) (rows:List Rw) (bars:List Str),vs = [.ref f,.ref a,.ref b]/\H f = some (.ins CF dx fs)/\Pre fs/\H a = some (.lst (ps.map V.ref))/\Paired (PAt c H) ps rows/\(∀ r ∈ rows,r.ok)/\rows.length<=500/\H b = some (.lst (bars.map V.str))/\
 ∀ H',SX f H H'->zaW c CF H H' f rows bars->(∃ dx' fs',H' f = some (.ins CF dx' fs')/\fs'.length<=fs.length + 6)->Q .non H'
theorem zfI {rows:List Rw} {i:Nat} {r:Rw} (h:rows[i]? = some r):plN (rows.take (i + 1)) = plN (rows.take i) + (if y7 r.k = true then 1 else 0):=by
 have hi:i < rows.length:=(List.getElem?_eq_some_iff.mp h).1
 have e:rows[i] = r:=by rw [List.getElem?_eq_getElem hi] at h; exact Option.some.inj h
 unfold plN
 rw [List.take_succ_eq_append_getElem hi,List.filter_append,List.length_append,e]
 cases hb:y7 r.k <;> simp [hb]
theorem jZ:∀ (rows:List Rw) (i:Nat) (acc:List (Key × V)),(yB i acc rows).length<=acc.length + rows.length
 | [],_,_=>Nat.le_refl _
 | r :: rs,i,acc=>by
  have h:=jZ rs (i + 1) (if z3 r.k = true then yq acc (.inr r.z) (.int i) else acc)
  have h2:(if z3 r.k = true then yq acc (.inr r.z) (.int i) else acc).length<=acc.length + 1:=by
   split
   ·exact xc acc _ _
   ·omega
  show (yB (i + 1) _ rs).length<=acc.length + (rs.length + 1)
  omega
theorem ue {r:Rw}:∀ (rows:List Rw) (j i:Nat) (acc:List (Key × V)),rows[i]? = some r->yB j acc (rows.take (i + 1)) = (if z3 r.k = true then yq (yB j acc (rows.take i)) (.inr r.z) (.int (j + i:Nat)) else yB j acc (rows.take i))
 | [],_,_,_,h=>by simp at h
 | r0 :: rs,j,0,acc,h=>by
  have e:r0 = r:=by simpa using h
  subst e
  show (if z3 r0.k = true then yq acc (.inr r0.z) (.int j) else acc) = _
  rfl
 | r0 :: rs,j,i + 1,acc,h=>by
  have:=ue rs (j + 1) i (if z3 r0.k = true then yq acc (.inr r0.z) (.int j) else acc) (by simpa using h)
  show yB (j + 1) _ (rs.take (i + 1)) = _
  rw [this,show j + 1 + i = j + (i + 1) by omega]
  rfl
section
variable {P:Program} {w:World} {K:Frag} {mg:Str->Option Value} {base:Heap} {f G sg CF:Addr} {fd:FuncData} {c:C5} {m:MA}
theorem PAt.ne {H:Hp} {p f CF dx:Addr} {r:Rw} {fs:List (Str × V)} (h:PAt c H p r) (e:H f = some (.ins CF dx fs)) (n:fs.lookup ("word" : Str) = none):p ≠ f:=fun z=>by
 obtain ⟨d,h⟩:=h
 rw [z,e] at h
 injection h with h
 injection h with h1 h2 h3
 rw [h3,vp] at n
 cases n
theorem vy {H H':Hp} {f CF dx:Addr} {fs:List (Str × V)} (e:H f = some (.ins CF dx fs)) (n:fs.lookup ("word" : Str) = none) (x:SX f H H') {ps:List Addr} {rows:List Rw} (h:Paired (PAt c H) ps rows):Paired (PAt c H') ps rows:=
 Paired.imp' (fun _ _ z=>by
  have ne:=z.ne e n
  obtain ⟨d,q⟩:=z
  exact ⟨d,x _ _ q ne⟩) h
theorem zi5:([Str.ofString "at",Str.ofString "parameter"]:List Str).Nodup:=by decide +kernel
theorem zhk:zm ["self","parameters","bars"] ["self","parameters","bars"] (zg zdX):=⟨rfl,rfl,rfl,by decide +kernel,rfl,by decide +kernel,by decide +kernel⟩
theorem zf4 {g:Addr} {gd gp gb:FuncData} (F:Fun K "keep" "Form.keep" zdX f fd) (T:zaU w K mg G sg) (PP:Pcs K m c) (FK:FC K CF) (cW:zv P w K mg base 1 "number_of_word" g gd ["parameters","word"] (ziK c))
  (GP:zp P w K mg base CX0 1 m.fP gp ["self"] (uE K m bpL)) (bP:zQ K gp ["self"] []) (GB:zp P w K mg base CX0 1 m.fB gb ["self"] (uE K m bnL)) (bB:zQ K gb ["self"] []):zp P w K mg base CX0 2 f fd ["self","parameters","bars"] (zdC c CF):=by
 refine F.ok zhk (fun vs H Q E h=>?_) (fun cdv A outer s H vs Q E hr h=>?_)
 ·obtain ⟨f,a,b,dx,fs,ps,rows,bars,rfl,_⟩:=h
  rfl
 obtain ⟨f,a,b,dx,fs,ps,rows,bars,rfl,hf,⟨pl,pn⟩,ha,hp,hok,l5,hb,q⟩:=h
 have hP:∀ C,Cs5 c C->Cls K C/\yN K C "by_place" m.fP:=fun C ⟨k,hk,e⟩=>by rw [e]; exact ⟨(PP k hk).cl,(PP k hk).mP⟩
 have hB:∀ C,Cs5 c C->Cls K C/\yN K C "by_name" m.fB:=fun C ⟨k,hk,e⟩=>by rw [e]; exact ⟨(PP k hk).cl,(PP k hk).mB⟩
 have nw:fs.lookup ("word" : Str) = none:=pn _ (by decide +kernel)
 refine ⟨_,zi (wa (pv 0) (cTy yK T.lst PyProof.Rows.boot_list (ac (pv 1) zb)) rfl)
  (zi (wa (pv 0) (cTy yK T.lst PyProof.Rows.boot_list (ac (pv 2) zb)) rfl)
  (zi (wa (pv 0) (cB yi T.len PySem.boot_len (ac (xL [] ["parameter"] [none] rfl ⟨rfl,rfl,rfl,rfl⟩ (zZ (yr (pv 0) rfl)) (z9 0) rfl rfl rfl
    (fun pins fp s H C=>⟨zk (i:=0) zh6 rfl (Or.inl rfl) (.inr rfl),wN (xi (xz (pv 0) hP GP hr bP yc)),pv 0⟩)) zb)) rfl)
  (zi (wa (pv 0) (cF cW hr (ac (yr (pv 0) rfl) (ac zr zb))) rfl)
  (zi (wa (pv 0) (cF cW hr (ac (yr (pv 0) rfl) (ac zr zb))) rfl)
  (zd (wa (pv 0) (ziX [] ["at","parameter"] [none,none] rfl ⟨rfl,rfl,rfl,rfl⟩ (wP rfl T.en (ac (yr (pv 0) rfl) zb)) (wQ (K:=K) (n:=2) 0 1) rfl rfl rfl
    (fun pins fp s H C=>⟨yA rfl (zo (zk (i:=0) zi5 rfl (Or.inl rfl) (.inr rfl)) (zo (zk (i:=1) zi5 rfl (Or.inl rfl) (.inr rfl)) yh)),wN (xi (xz (pv 1) hB GB hr bB yc)),qy (K:=K) rfl (pv 1) rfl,pv 0⟩)) rfl)))))),?_⟩
 refine ⟨_,rfl,a,_,rfl,.inl (SqL.of ha),fun l1 hl1=>?_⟩
 have s1:=zc hl1 (.lst (ps.map V.ref))
 refine ⟨_,rfl,f,CF,dx,fs,rfl,s1 _ _ hf,FK.cl,FK.n1,(by omega),?_⟩
 have x1:SX f H (upd (upd H l1 (.lst (ps.map V.ref))) f (.ins CF dx (zR "row" (.ref l1) fs))):=(SX.refl.same s1).upd
 have f1:upd (upd H l1 (.lst (ps.map V.ref))) f (.ins CF dx (zR "row" (.ref l1) fs)) f = some (.ins CF dx (zR "row" (.ref l1) fs)):=za
 have e1:upd (upd H l1 (.lst (ps.map V.ref))) f (.ins CF dx (zR "row" (.ref l1) fs)) l1 = some (.lst (ps.map V.ref)):=by
  rw [zf (fun z=>by rw [z,hf] at hl1; cases hl1),za]
 have p1:=x8 "row" (.ref l1) fs
 have r1:(zR "row" (.ref l1) fs).lookup ("row" : Str) = some (.ref l1):=by rw [zj,if_pos rfl]
 show vK _ _ _ _ (upd (upd H l1 (.lst (ps.map V.ref))) f (.ins CF dx (zR "row" (.ref l1) fs)))
 generalize upd (upd H l1 (.lst (ps.map V.ref))) f (.ins CF dx (zR "row" (.ref l1) fs)) = H1 at x1 f1 e1 |-
 have nbf:b ≠ f:=xl hb hf (by intro z; cases z)
 refine ⟨_,rfl,b,_,rfl,.inl (SqL.of (x1 _ _ hb nbf)),fun l2 hl2=>?_⟩
 have s2:=zc hl2 (.lst (bars.map V.str))
 have hlb:H l2 = none:=by
  cases e:H l2 with
  | none=>rfl
  | some u=>exact absurd (x1 _ _ e (fun z=>by rw [z,f1] at hl2; cases hl2)) (by rw [hl2]; intro z; cases z)
 refine ⟨_,rfl,f,CF,dx,_,rfl,s2 _ _ f1,FK.cl,FK.n2,(by omega),?_⟩
 have x2:SX f H (upd (upd H1 l2 (.lst (bars.map V.str))) f (.ins CF dx (zR "bar_names" (.ref l2) (zR "row" (.ref l1) fs)))):=(x1.same s2).upd
 have f2:upd (upd H1 l2 (.lst (bars.map V.str))) f (.ins CF dx (zR "bar_names" (.ref l2) (zR "row" (.ref l1) fs))) f = some (.ins CF dx (zR "bar_names" (.ref l2) (zR "row" (.ref l1) fs))):=za
 have g2:upd (upd H1 l2 (.lst (bars.map V.str))) f (.ins CF dx (zR "bar_names" (.ref l2) (zR "row" (.ref l1) fs))) l2 = some (.lst (bars.map V.str)):=by
  rw [zf (fun z=>by rw [z,f1] at hl2; cases hl2),za]
 have e2:upd (upd H1 l2 (.lst (bars.map V.str))) f (.ins CF dx (zR "bar_names" (.ref l2) (zR "row" (.ref l1) fs))) l1 = some (.lst (ps.map V.ref)):=by
  rw [zf (xl e1 f1 (by intro z; cases z)),s2 _ _ e1]
 have p2:=x8 "bar_names" (.ref l2) (zR "row" (.ref l1) fs)
 have r2:(zR "bar_names" (.ref l2) (zR "row" (.ref l1) fs)).lookup ("row" : Str) = some (.ref l1):=by rw [zj,if_neg (by decide +kernel)]; exact r1
 show vK _ _ _ _ (upd (upd H1 l2 (.lst (bars.map V.str))) f (.ins CF dx (zR "bar_names" (.ref l2) (zR "row" (.ref l1) fs))))
 generalize hfs2:zR "bar_names" (.ref l2) (zR "row" (.ref l1) fs) = fs2 at f2 e2 g2 p2 r2 x2 |-
 generalize upd (upd H1 l2 (.lst (bars.map V.str))) f (.ins CF dx fs2) = H2 at x2 f2 e2 g2 |-
 have hp2:=vy hf nw x2 hp
 refine ⟨_,rfl,f,CF,dx,_,_,rfl,f2,FK.cl,FK.n1,r2,l1,rfl,⟨_,SqL.of e2⟩,fun D hD=>?_⟩
 refine xt (K:=K) (xs:=ps.map V.ref) (fun i ys H'=>zl H2 H'/\H' D = some (.lst ys)/\ys.length = plN (rows.take i)) ⟨zc hD _,za,rfl⟩ (fun i ys H' h=>SqL.of (h.1 _ _ e2)) ?_ ?_
 ·rintro i x ys H' hlt hx ⟨sH,hDy,ey⟩
  obtain ⟨pa,hpa,rfl⟩:=xp hx
  obtain ⟨r,hr',dx',hdx⟩:=yt hp2 hpa
  have rok:=hok r (List.mem_of_getElem? hr')
  have C:=PP r.k rok.1
  have nl:ys.length<=i:=by
   rw [ey]
   unfold plN
   refine Nat.le_trans (List.length_filter_le _ _) ?_
   rw [List.length_take]
   omega
  have hd2:=sH _ _ hdx
  refine ⟨_,rfl,pa,_,dx',_,rfl,⟨r.k,rok.1,rfl⟩,hd2,vq (by decide +kernel) (by decide +kernel) (by decide +kernel),pa,dx',_,_,_,_,rfl,C,hd2,_,rfl,?_⟩
  rw [zgW r.k rok.1]
  have tk:=zfI hr'
  refine ⟨fun e=>?_,fun e=>?_⟩
  ·rw [e,if_pos rfl] at tk
   refine ⟨_,rfl,lcN.mk hlt (ym (by rw [List.length_map,hp.length]; omega)) hDy nl ⟨fun b u e=>?_,za,?_⟩⟩
   ·rw [zf (ze e hD)]
    exact sH b u e
   ·rw [List.length_append,ey,tk]
    rfl
  ·rw [e,if_neg Bool.false_ne_true] at tk
   exact lcS.mk hlt ⟨sH,hDy,by rw [ey,tk]; rfl⟩
 rintro ys H3 ⟨s3,hDy,ey⟩
 rw [List.length_map,hp.length,List.take_length] at ey
 refine ⟨D,_,rfl,.inl (SqL.of hDy),?_⟩
 rw [ey]
 have x3:=x2.same s3
 refine ⟨_,rfl,f,CF,dx,_,rfl,s3 _ _ f2,FK.cl,FK.n3,(by omega),?_⟩
 have f3:upd H3 f (.ins CF dx (zR "place_count" (.int (plN rows:Nat)) fs2)) f = some (.ins CF dx (zR "place_count" (.int (plN rows:Nat)) fs2)):=za
 have x4:SX f H (upd H3 f (.ins CF dx (zR "place_count" (.int (plN rows:Nat)) fs2))):=x3.upd
 have e4:upd H3 f (.ins CF dx (zR "place_count" (.int (plN rows:Nat)) fs2)) l1 = some (.lst (ps.map V.ref)):=by rw [zf (xl e2 f2 (by intro z; cases z))]; exact s3 _ _ e2
 have g4:upd H3 f (.ins CF dx (zR "place_count" (.int (plN rows:Nat)) fs2)) l2 = some (.lst (bars.map V.str)):=by rw [zf (xl g2 f2 (by intro z; cases z))]; exact s3 _ _ g2
 have p3:=x8 "place_count" (.int (plN rows:Nat)) fs2
 have r3:(zR "place_count" (.int (plN rows:Nat)) fs2).lookup ("row" : Str) = some (.ref l1):=by rw [zj,if_neg (by decide +kernel)]; exact r2
 show vK _ _ _ _ (upd H3 f (.ins CF dx (zR "place_count" (.int (plN rows:Nat)) fs2)))
 generalize hfs3:zR "place_count" (.int (plN rows:Nat)) fs2 = fs3 at f3 x4 e4 g4 p3 r3 |-
 generalize upd H3 f (.ins CF dx fs3) = H4 at x4 f3 e4 g4 |-
 refine ⟨_,rfl,f,CF,dx,_,_,rfl,f3,FK.cl,FK.n1,r3,l1,ps,rows,2,rfl,by decide,e4,vy hf nw x4 hp,hok,fun H5 s5=>?_⟩
 refine ⟨_,rfl,f,CF,dx,_,rfl,s5 _ _ f3,FK.cl,FK.n4,(by omega),?_⟩
 have f5:upd H5 f (.ins CF dx (zR "tail_number" (xr (zE 2 0 rows)) fs3)) f = some (.ins CF dx (zR "tail_number" (xr (zE 2 0 rows)) fs3)):=za
 have x5:SX f H (upd H5 f (.ins CF dx (zR "tail_number" (xr (zE 2 0 rows)) fs3))):=(x4.same s5).upd
 have e5:upd H5 f (.ins CF dx (zR "tail_number" (xr (zE 2 0 rows)) fs3)) l1 = some (.lst (ps.map V.ref)):=by rw [zf (xl e4 f3 (by intro z; cases z))]; exact s5 _ _ e4
 have g5:upd H5 f (.ins CF dx (zR "tail_number" (xr (zE 2 0 rows)) fs3)) l2 = some (.lst (bars.map V.str)):=by rw [zf (xl g4 f3 (by intro z; cases z))]; exact s5 _ _ g4
 have p4:=x8 "tail_number" (xr (zE 2 0 rows)) fs3
 have r4:(zR "tail_number" (xr (zE 2 0 rows)) fs3).lookup ("row" : Str) = some (.ref l1):=by rw [zj,if_neg (by decide +kernel)]; exact r3
 show vK _ _ _ _ (upd H5 f (.ins CF dx (zR "tail_number" (xr (zE 2 0 rows)) fs3)))
 generalize hfs4:zR "tail_number" (xr (zE 2 0 rows)) fs3 = fs4 at f5 x5 e5 g5 p4 r4 |-
 generalize upd H5 f (.ins CF dx fs4) = H6 at x5 f5 e5 g5 |-
 refine ⟨_,rfl,f,CF,dx,_,_,rfl,f5,FK.cl,FK.n1,r4,l1,ps,rows,4,rfl,by decide,e5,vy hf nw x5 hp,hok,fun H7 s7=>?_⟩
 refine ⟨_,rfl,f,CF,dx,_,rfl,s7 _ _ f5,FK.cl,FK.n5,(by omega),?_⟩
 have f7:upd H7 f (.ins CF dx (zR "bag_number" (xr (zE 4 0 rows)) fs4)) f = some (.ins CF dx (zR "bag_number" (xr (zE 4 0 rows)) fs4)):=za
 have x7:SX f H (upd H7 f (.ins CF dx (zR "bag_number" (xr (zE 4 0 rows)) fs4))):=(x5.same s7).upd
 have e7:upd H7 f (.ins CF dx (zR "bag_number" (xr (zE 4 0 rows)) fs4)) l1 = some (.lst (ps.map V.ref)):=by rw [zf (xl e5 f5 (by intro z; cases z))]; exact s7 _ _ e5
 have g7:upd H7 f (.ins CF dx (zR "bag_number" (xr (zE 4 0 rows)) fs4)) l2 = some (.lst (bars.map V.str)):=by rw [zf (xl g5 f5 (by intro z; cases z))]; exact s7 _ _ g5
 have p5:=x8 "bag_number" (xr (zE 4 0 rows)) fs4
 have r5:(zR "bag_number" (xr (zE 4 0 rows)) fs4).lookup ("row" : Str) = some (.ref l1):=by rw [zj,if_neg (by decide +kernel)]; exact r4
 generalize hfs5:zR "bag_number" (xr (zE 4 0 rows)) fs4 = fs5 at f7 x7 e7 g7 p5 r5 |-
 generalize upd H7 f (.ins CF dx fs5) = H8 at x7 f7 e7 g7 |-
 have hp8:=vy hf nw x7 hp
 refine ⟨_,rfl,f,CF,dx,_,_,rfl,f7,FK.cl,FK.n1,r5,l1,rfl,⟨_,SqL.of e7⟩,fun D2 hD2=>?_⟩
 refine zgx (K:=K) (xs:=ps.map V.ref) (fun i ys H'=>zl H8 H'/\H' D2 = some (.dK ys)/\ys = yB 0 [] (rows.take i)) ⟨zc hD2 _,za,rfl⟩ (fun i ys H' h=>SqL.of (h.1 _ _ e7)) ?_ ?_
 ·rintro i x p ys H' hlt hx ⟨sH,hDy,ey⟩ hpn
  obtain ⟨pa,hpa,rfl⟩:=xp hx
  obtain ⟨r,hr',dx',hdx⟩:=yt hp8 hpa
  have rok:=hok r (List.mem_of_getElem? hr')
  have C:=PP r.k rok.1
  have sp:=zc hpn (.tup [.int (i:Nat),.ref pa])
  have hd2:=sp _ _ (sH _ _ hdx)
  have hDp:upd H' p (.tup [.int (i:Nat),.ref pa]) D2 = some (.dK ys):=by rw [zf (ze hDy hpn)]; exact hDy
  have nl:ys.length<=i:=by
   rw [ey]
   refine Nat.le_trans (jZ _ _ _) ?_
   rw [List.length_take]
   show 0 + _<=i
   omega
  refine ⟨p,_,rfl,SqT.of za,rfl,_,_,rfl,_,_,rfl,rfl,?_⟩
  refine ⟨_,rfl,pa,_,dx',_,rfl,⟨r.k,rok.1,rfl⟩,hd2,vq (by decide +kernel) (by decide +kernel) (by decide +kernel),pa,dx',_,_,_,_,rfl,C,hd2,_,rfl,?_⟩
  rw [jS r.k rok.1]
  have tk:=ue rows 0 i [] hr'
  refine ⟨fun e=>?_,fun e=>?_⟩
  ·rw [e,if_pos rfl] at tk
   refine ⟨_,rfl,pa,_,dx',_,_,rfl,hd2,C.cl,C.nN,wc,_,rfl,dcN.mk (.inr r.z) hlt rfl (ym (by rw [List.length_map,hp.length]; omega)) hDp nl ⟨fun b u e=>?_,za,?_⟩⟩
   ·rw [zf (ze e hD2)]
    exact sp _ _ (sH b u e)
   ·rw [tk,<- ey,Nat.zero_add]
  ·rw [e,if_neg Bool.false_ne_true] at tk
   exact dcS.mk hlt ⟨sH.trans sp,hDp,by rw [ey,tk]⟩
 rintro ys H9 ⟨s9,hDy,ey⟩
 rw [List.length_map,hp.length,List.take_length] at ey
 refine ⟨_,rfl,f,CF,dx,_,rfl,s9 _ _ f7,FK.cl,FK.n6,(by omega),?_⟩
 have nf:∀ {x:Addr} {o:HO},H9 x = some o->(∀ C d g,o ≠ .ins C d g)->upd H9 f (.ins CF dx (zR "doors" (.ref D2) fs5)) x = some o:=fun {x o} e n=>by
  rw [zf (xl e (s9 _ _ f7) (by intro z; exact n _ _ _ z))]
  exact e
 refine q _ (x7.same s9).upd ⟨dx,_,l1,l2,D2,ps,za,?_,nf (s9 _ _ e7) (by intro _ _ _ z; cases z),vy hf nw (x7.same s9).upd hp,nf (s9 _ _ g7) (by intro _ _ _ z; cases z),nf (by rw [hDy,ey]) (by intro _ _ _ z; cases z),hl1,hlb⟩ ⟨dx,_,za,Nat.le_trans (x8 _ _ _) (by omega)⟩
 rw [<- hfs5,<- hfs4,<- hfs3,<- hfs2]
 refine ⟨?_,?_,?_,?_,?_,?_,fun mm hm=>?_⟩
 ·rw [zj,if_neg (by decide +kernel),zj,if_neg (by decide +kernel),zj,if_neg (by decide +kernel),zj,if_neg (by decide +kernel),zj,if_neg (by decide +kernel),zj,if_pos rfl]
 ·rw [zj,if_neg (by decide +kernel),zj,if_neg (by decide +kernel),zj,if_neg (by decide +kernel),zj,if_neg (by decide +kernel),zj,if_pos rfl]
 ·rw [zj,if_neg (by decide +kernel),zj,if_neg (by decide +kernel),zj,if_neg (by decide +kernel),zj,if_pos rfl]
 ·rw [zj,if_neg (by decide +kernel),zj,if_neg (by decide +kernel),zj,if_pos rfl]
 ·rw [zj,if_neg (by decide +kernel),zj,if_pos rfl]
 ·rw [zj,if_pos rfl]
 ·have h':∀ a ∈ zfc,¬ mm = a:=fun a ha e=>hm (e ▸ ha)
  rw [zj,if_neg (h' _ (by decide +kernel)),zj,if_neg (h' _ (by decide +kernel)),zj,if_neg (h' _ (by decide +kernel)),zj,if_neg (h' _ (by decide +kernel)),zj,if_neg (h' _ (by decide +kernel)),zj,if_neg (h' _ (by decide +kernel))]
  exact pn mm hm
end
def ziL (c:C5) (CF:Addr):Sp:=fun vs H Q _=>∃ (f a dx:Addr) (bv:V) (ps:List Addr) (rows:List Rw) (bars:List Str),vs = [.ref f,.ref a,bv]/\H f = some (.ins CF dx [])/\H a = some (.lst (ps.map V.ref))/\Paired (PAt c H) ps rows/\((bv = .non/\bars = [])\/∃ b,bv = .ref b/\H b = some (.lst (bars.map V.str)))/\x0 rows bars/\
 ∀ H',SX f H H'->zaW c CF H H' f rows bars->(∃ dx' fs',H' f = some (.ins CF dx' fs')/\fs'.length<=6)->Q .non H'
def vL (c:C5) (CF:Addr):Sp:=fun vs H Q _=>∃ (f:Addr) (rows:List Rw) (bars:List Str),vs = [.ref f]/\y8 c CF H f rows bars/\∀ (l:Addr) (ps:List Addr) (H':Hp),zl H H'->H l = none->H' l = some (.lst (ps.map V.ref))->Paired (PAt c H') ps rows->Q (.ref l) H'
def za7 (c:C5) (CF:Addr):Sp:=fun vs H Q _=>∃ (f:Addr) (rows:List Rw) (bars:List Str),vs = [.ref f]/\y8 c CF H f rows bars/\∀ (l:Addr) (H':Hp),zl H H'->H l = none->H' l = some (.lst (bars.map V.str))->Q (.ref l) H'
def xT (c:C5) (CF:Addr):Sp:=fun vs H Q _=>∃ (f:Addr) (rows:List Rw) (bars:List Str),vs = [.ref f]/\y8 c CF H f rows bars/\Q (.int (plN rows:Nat)) H
def w9 (c:C5) (CF:Addr) (kk:Nat):Sp:=fun vs H Q _=>∃ (f:Addr) (rows:List Rw) (bars:List Str),vs = [.ref f]/\y8 c CF H f rows bars/\Q (xr (zE kk 0 rows)) H
def zdy (c:C5) (CF:Addr):Sp:=fun vs H Q _=>∃ (f:Addr) (z:Str) (rows:List Rw) (bars:List Str),vs = [.ref f,.str z]/\y8 c CF H f rows bars/\Q ((zA (yB 0 [] rows) (.inr z)).getD .non) H
def TAt (H:Hp) (u:Addr) (r:Rw):Prop:=H u = some (.tup (rv r))
section
variable {P:Program} {w:World} {K:Frag} {mg:Str->Option Value} {base:Heap} {f G sg CF:Addr} {fd:FuncData} {c:C5} {m:MA}
theorem zcc:zm ["self","parameters","bars","names"] ["self","parameters","bars"] (zg zbm):=⟨rfl,rfl,rfl,by decide +kernel,rfl,by decide +kernel,by decide +kernel⟩
theorem zez {ds:List Value} {g1 g2 g3 g4 g5:Addr} {e1 e2 e3 e4 e5:FuncData} (F:jx K "__init__" "Form.__init__" zbm f fd ds) (FK:FC K CF) (mK:yN K CF "keep" g5)
  (cM:zv P w K mg base 1 "refuse_too_many" g1 e1 ["parameters","bars"] (zdA K)) (cO:zv P w K mg base 1 "refuse_bad_order" g2 e2 ["parameters"] (zgM c)) (cB':zv P w K mg base 2 "refuse_bars_without_name" g3 e3 ["bars"] ziJ) (cT:zv P w K mg base 2 "refuse_twice" g4 e4 ["parameters","bars"] (ziI c))
  (GK:zp P w K mg base CX0 2 g5 e5 ["self","parameters","bars"] (zdC c CF)) (bK:zQ K e5 ["self","parameters","bars"] []):zp P w K mg base CX0 3 f fd ["self","parameters","bars"] (ziL c CF):=by
 refine F.ok zcc (fun vs H Q E h=>?_) (fun cdv A outer s H vs Q E hr h=>?_)
 ·obtain ⟨f,a,dx,bv,ps,rows,bars,rfl,_⟩:=h
  rfl
 obtain ⟨f,a,dx,bv,ps,rows,bars,rfl,hf,ha,hp,hb,V',q⟩:=h
 have hr1:yb 1 _:=hr.mono (by decide)
 refine ⟨_,zi (zt (i:=3) zcc.nd rfl (Or.inl rfl) (zaj (x9 (zbr (pv 2))) (zY zb) (pv 2)))
  (zi (zB (cF cM hr1 (ac (pv 1) (ac (pv 3) zb))))
  (zi (zB (cF cO hr1 (ac (pv 1) zb)))
  (zi (zB (cF cB' hr (ac (pv 3) zb)))
  (zi (zB (cF cT hr (ac (pv 1) (ac (pv 3) zb))))
  (zd (zB (zci (pv 0) FK.cl mK GK hr bK .nil yc (ac (pv 1) (ac (pv 3) zb))))))))),?_⟩
 try dsimp only
 refine wK (fun σ' H'=>∃ b,σ' = [some (.ref f),some (.ref a),some bv,some (.ref b)]/\zl H H'/\H' b = some (.lst (bars.map V.str))) ?_ (fun key=>?_)
 rotate_left
 ·rcases hb with ⟨rfl,rfl⟩ | ⟨b,rfl,hb⟩
  ·refine ⟨_,rfl,_,rfl,?_⟩
   refine dT rfl ?_
   refine ⟨zz0,fun l hl=>?_⟩
   exact key _ _ ⟨l,rfl,zc hl _,za⟩
  ·refine ⟨_,rfl,_,rfl,?_⟩
   refine dF (by intro z; cases z) ?_
   exact ⟨_,rfl,key _ _ ⟨b,rfl,zl.refl _,hb⟩⟩
 rintro σ1 H1 ⟨b,rfl,s1,hb1⟩
 have ha1:=s1 _ _ ha
 refine ⟨_,rfl,_,rfl,a,b,_,_,rfl,SqL.of ha1,SqL.of hb1,(by rw [List.length_map,hp.length]; exact V'.l24),(by rw [List.length_map]; exact V'.l60),?_⟩
 refine ⟨_,rfl,a,ps,rows,rfl,ha1,yY s1 hp,V'.ok,V'.ord,fun H2 s2=>?_⟩
 refine ⟨_,rfl,b,bars,rfl,s2 _ _ hb1,V'.bn,fun H3 s3=>?_⟩
 have s13:=s1.trans (s2.trans s3)
 refine ⟨_,rfl,_,rfl,a,b,ps,rows,bars,rfl,s13 _ _ ha,yY s13 hp,V'.ok,Nat.le_trans V'.l24 (by decide),s3 _ _ (s2 _ _ hb1),Nat.le_trans V'.l60 (by decide),V'.nd,fun H4 s4=>?_⟩
 have s14:=s13.trans s4
 refine ⟨_,rfl,f,dx,_,rfl,s14 _ _ hf,rfl,_,rfl,_,rfl,f,a,b,dx,[],ps,rows,bars,rfl,s14 _ _ hf,⟨by decide,fun _ _=>rfl⟩,s14 _ _ ha,yY s14 hp,V'.ok,Nat.le_trans V'.l24 (by decide),s4 _ _ (s3 _ _ (s2 _ _ hb1)),fun H5 x5 F5 L5=>?_⟩
 exact q _ (fun b' u e n=>x5 b' u (s14 _ _ e) n) (F5.of s14) L5
theorem zfv:zm ["self"] ["self"] (zg zbl):=⟨rfl,rfl,rfl,by decide +kernel,rfl,by decide +kernel,by decide +kernel⟩
theorem zey (F:Fun K "parameters" "Form.parameters" zbl f fd) (T:zaU w K mg G sg) (FK:FC K CF):zp P w K mg base CX0 1 f fd ["self"] (vL c CF):=by
 refine F.ok zfv (fun vs H Q E h=>?_) (fun cdv A outer s H vs Q E hr h=>?_)
 ·obtain ⟨f,rows,bars,rfl,_⟩:=h
  rfl
 obtain ⟨f,rows,bars,rfl,⟨dx,fs,lr,lb,ld,ps,h1,h2,h3,h4,h5,h6⟩,q⟩:=h
 refine ⟨_,zd (zq (cTy yK T.lst PyProof.Rows.boot_list (ac (yr (pv 0) rfl) zb))),?_⟩
 refine ⟨_,rfl,f,CF,dx,_,_,rfl,h1,FK.cl,FK.n1,h2.row,lr,_,rfl,.inl (SqL.of h3),fun l hl=>?_⟩
 have s1:=zc hl (.lst (ps.map V.ref))
 exact q l ps _ s1 hl za (yY s1 h4)
theorem zfw:zm ["self"] ["self"] (zg zbn):=⟨rfl,rfl,rfl,by decide +kernel,rfl,by decide +kernel,by decide +kernel⟩
theorem zeA (F:Fun K "bars" "Form.bars" zbn f fd) (T:zaU w K mg G sg) (FK:FC K CF):zp P w K mg base CX0 1 f fd ["self"] (za7 c CF):=by
 refine F.ok zfw (fun vs H Q E h=>?_) (fun cdv A outer s H vs Q E hr h=>?_)
 ·obtain ⟨f,rows,bars,rfl,_⟩:=h
  rfl
 obtain ⟨f,rows,bars,rfl,⟨dx,fs,lr,lb,ld,ps,h1,h2,h3,h4,h5,h6⟩,q⟩:=h
 refine ⟨_,zd (zq (cTy yK T.lst PyProof.Rows.boot_list (ac (yr (pv 0) rfl) zb))),?_⟩
 refine ⟨_,rfl,f,CF,dx,_,_,rfl,h1,FK.cl,FK.n2,h2.bn,lb,_,rfl,.inl (SqL.of h5),fun l hl=>?_⟩
 exact q l _ (zc hl _) hl za
theorem zcL:zm ["self"] ["self"] (zg uM):=⟨rfl,rfl,rfl,by decide +kernel,rfl,by decide +kernel,by decide +kernel⟩
theorem zbu (F:Fun K "places" "Form.places" uM f fd) (FK:FC K CF):zp P w K mg base CX0 1 f fd ["self"] (xT c CF):=by
 refine F.ok zcL (fun vs H Q E h=>?_) (fun cdv A outer s H vs Q E hr h=>?_)
 ·obtain ⟨f,rows,bars,rfl,_⟩:=h
  rfl
 obtain ⟨f,rows,bars,rfl,⟨dx,fs,lr,lb,ld,ps,h1,h2,h3,h4,h5,h6⟩,q⟩:=h
 exact ⟨_,zd (zq (yr (pv 0) rfl)),_,rfl,f,CF,dx,_,_,rfl,h1,FK.cl,FK.n3,h2.pc,q⟩
theorem zfu:zm ["self"] ["self"] (zg zbk):=⟨rfl,rfl,rfl,by decide +kernel,rfl,by decide +kernel,by decide +kernel⟩
theorem zex (F:Fun K "tail" "Form.tail" zbk f fd) (FK:FC K CF):zp P w K mg base CX0 1 f fd ["self"] (w9 c CF 2):=by
 refine F.ok zfu (fun vs H Q E h=>?_) (fun cdv A outer s H vs Q E hr h=>?_)
 ·obtain ⟨f,rows,bars,rfl,_⟩:=h
  rfl
 obtain ⟨f,rows,bars,rfl,⟨dx,fs,lr,lb,ld,ps,h1,h2,h3,h4,h5,h6⟩,q⟩:=h
 exact ⟨_,zd (zq (yr (pv 0) rfl)),_,rfl,f,CF,dx,_,_,rfl,h1,FK.cl,FK.n4,h2.tn,q⟩
theorem zhp:zm ["self"] ["self"] (zg zd2):=⟨rfl,rfl,rfl,by decide +kernel,rfl,by decide +kernel,by decide +kernel⟩
theorem zf9 (F:Fun K "bag" "Form.bag" zd2 f fd) (FK:FC K CF):zp P w K mg base CX0 1 f fd ["self"] (w9 c CF 4):=by
 refine F.ok zhp (fun vs H Q E h=>?_) (fun cdv A outer s H vs Q E hr h=>?_)
 ·obtain ⟨f,rows,bars,rfl,_⟩:=h
  rfl
 obtain ⟨f,rows,bars,rfl,⟨dx,fs,lr,lb,ld,ps,h1,h2,h3,h4,h5,h6⟩,q⟩:=h
 exact ⟨_,zd (zq (yr (pv 0) rfl)),_,rfl,f,CF,dx,_,_,rfl,h1,FK.cl,FK.n5,h2.bg,q⟩
theorem zho:zm ["self","name"] ["self","name"] (zg zd1):=⟨rfl,rfl,rfl,by decide +kernel,rfl,by decide +kernel,by decide +kernel⟩
theorem zf7 (F:Fun K "number_of" "Form.number_of" zd1 f fd) (FK:FC K CF):zp P w K mg base CX0 1 f fd ["self","name"] (zdy c CF):=by
 refine F.ok zho (fun vs H Q E h=>?_) (fun cdv A outer s H vs Q E hr h=>?_)
 ·obtain ⟨f,z,rows,bars,rfl,_⟩:=h
  rfl
 obtain ⟨f,z,rows,bars,rfl,⟨dx,fs,lr,lb,ld,ps,h1,h2,h3,h4,h5,h6⟩,q⟩:=h
 refine ⟨_,zd (zq (zeg (zaJ hr) (yr (pv 0) rfl) (pv 1) ⟨rfl,rfl,rfl,rfl⟩)),?_⟩
 refine ⟨_,rfl,f,CF,dx,_,_,rfl,h1,FK.cl,FK.n6,h2.dr,ld,rfl,?_,_,rfl,_,.inl ⟨_,.inr z,.inl h6,rfl,rfl⟩,q⟩
 exact .inl ⟨_,.inl h6⟩
end
end K34
namespace L2
open PySem PySem.Spec PyProof.Rows
section
variable {X:Cx} {pins:List (Addr × Obj)} {σ : St} {H:Hp} {s:Shared}
theorem Inv.freeze (I:Inv X pins σ H s) {l:Addr} {kvs:List (Key × V)} (hl:H l = some (.dK kvs)):∃ o,s.heap.get? l = some o/\Inv X pins σ (upd H l (.frz o (.dK kvs))) s:=by
 obtain ⟨hz,hy,vs,r,o,es,ep,ho,c⟩:=id (I.hok l _ hl)
 refine ⟨o,ho,⟨I.ok,I.os,I.bare,⟨I.base.keep,I.base.slot,fun b u e n x=>?_,I.base.there,fun b xs e=>?_,fun b u v e=>?_,fun b ps e=>?_⟩,I.loc,I.cell,?_,fun x c e=>?_,fun p hp'=>?_,fun b u e=>?_,I.len⟩⟩
 ·have e1:=I.base.free b u e n x
  rw [zf (ze hl e1).symm]; exact e1
 ·have e1:=I.base.tups b xs e
  rw [zf (xl e1 hl (by intro z; cases z))]; exact e1
 ·have e1:=I.base.frzs b u v e
  rw [zf (xl e1 hl (by intro z; cases z))]; exact e1
 ·obtain ⟨more,e1⟩:=I.base.tbls b ps e
  exact ⟨more,by rw [zf (xl e1 hl (by intro z; cases z))]; exact e1⟩
 ·rw [zf (ze hl I.free).symm]; exact I.free
 ·rw [zf (ze hl (I.freeC x c e)).symm]; exact I.freeC x c e
 ·obtain ⟨q1,q2,q3⟩:=I.pin p hp'
  exact ⟨q1,by rw [zf (ze hl q2).symm]; exact q2,q3⟩
 ·have ho':∀ c,∀ b,H b = some (.own c)->upd H l (.frz o (.dK kvs)) b = some (.own c):=fun c b q=>by rw [zf (xl q hl (by intro z; cases z))]; exact q
  have ht':∀ b xs,H b = some (.tup xs)->upd H l (.frz o (.dK kvs)) b = some (.tup xs):=fun b xs q=>by rw [zf (xl q hl (by intro z; cases z))]; exact q
  by_cases hb:b = l
  ·subst hb; rw [za] at e; cases e
   exact ⟨ho,(I.hok b _ hl).stay (fun _ _ _ q=>q) (ho' b) ht'⟩
  ·rw [zf hb] at e
   exact (I.hok b u e).stay (fun _ _ _ q=>q) (ho' b) ht'
def zju (te:TE):TE:=fun σ H Q=>te σ H fun x H1=>∃ l kvs,x = .ref l/\H1 l = some (.dK kvs)/\∀ o,Q x (upd H1 l (.frz o (.dK kvs)))
theorem zhN {e:Expr} {te:TE} (h:PE X e te):PE X e (zju te):=by
 refine ⟨?_⟩
 intro pins s σ H Q I hw
 refine thn (h pins s σ H _ I hw) fun v s1 ⟨x,H1,I1,r1,l,kvs,ex,hl,q⟩=>?_
 obtain ⟨o,_,I2⟩:=I1.freeze hl
 exact ⟨x,_,I2,r1,q o⟩
end
theorem zfA {k:Key} {u:Value} (h:jb k u = true):zL (kV k) u:=by
 rcases yj h with ⟨i,t,rfl,rfl⟩ | ⟨x,t,rfl,rfl⟩
 ·exact ⟨t,rfl⟩
 ·exact ⟨t,rfl⟩
def Itd (d:Addr) (o:Obj) (kvs:List (Key × V)):It:=
 ⟨fun i H=>H d = some (.frz o (.dK kvs))/\i < kvs.length,fun i H x H'=>∃ (p:Addr) (k:Key) (v:V),x = .ref p/\H p = none/\kvs[i]? = some (k,v)/\H' = upd H p (.tup [kV k,v]),fun i H=>H d = some (.frz o (.dK kvs))/\kvs.length<=i⟩
theorem zeT {X:Cx} {pins:List (Addr × Obj)} {σ : St} {H:Hp} {s:Shared} {d:Addr} {o:Obj} {kvs:List (Key × V)} {es:Array DictEntry} {ep:Nat} (I:Inv X pins σ H s) (hd:H d = some (.frz o (.dK kvs))) (ho:o.data = .dict es ep) :
  (d == sysModules) = false/\∃ vs,KV kvs vs/\s.heap.DictAt (z7 X.prog X.w) d vs ep:=by
 obtain ⟨e,hz,hy,vs,r,o',es',ep',ho',c1,c2,c3⟩:=id (I.hok d _ hd)
 rw [e] at ho'
 cases ho'
 rw [ho] at c2
 cases c2
 exact ⟨hy,vs,r,o,es,e,c1,ho,c3⟩
theorem wV:entryFor table "dict_itemiterator.__iter__" = some Builtin.«dict_keyiterator.__iter__»:=entryFor_alias (id':="dict_keyiterator.__iter__") (by kernel_rfl) (by first | rfl | decide +kernel | (unfold String.splitOn; simp +decide [String.splitOnAux])) (by decide +kernel) (by kernel_rfl)
theorem wq {P:Program} {w:World} {A:Around} {E:Value->Shared->Prop} {s:Shared} {it d:Addr} {i n ep:Nat} {ok ov:Value} {Q:Value->Shared->Prop} (he:IsItemIter s.heap it d i n ep ok ov) (h:Q (.ref it) s):wpAny (model P w) A (pyIter (.ref it)) Q E s:=by
 have hT:s.TypeIs (.ref it) "dict_itemiterator":=⟨_,he,rfl⟩
 refine wpAny_pyIter_slot hT F.slot_dict_itemiterator_iter (wpAny_call_entry F.slot_dict_itemiterator_iter hT wV ?_ (F.args_dict_itemiterator_iter_1 _))
 show wpAny _ _ (ret (.ref it)) _ _ s
 exact wpAny_pure ⟨_,rfl,"dict_itemiterator",_,hT,F.slot_dict_itemiterator_next.lookup,h⟩
theorem zaZ {P:Program} {w:World} {K:Frag} {elts:List Expr} {x1:Nat} {tpos:Pos} (d it:Addr) (o:Obj) (kvs:List (Key × V)) (es:Array DictEntry) (ep:Nat) (ho:o.data = .dict es ep) :
  qM P w K (.Tuple elts x1 tpos) (Itd d o kvs) [it] it (fun i h=>∃ ok ov,IsItemIter h it d i kvs.length ep ok ov) where
 mem:=by simp
 obj:=fun i h st b hb=>by
  have e':b = it:=by simpa using hb
  subst e'
  obtain ⟨ok,ov,hi⟩:=st
  exact ⟨_,hi,fun v q=>by cases q⟩
 keep:=fun i h h' st k=>by
  obtain ⟨ok,ov,hi⟩:=st
  exact ⟨ok,ov,k it (by simp) _ hi⟩
 item:=by
  intro X hP hw hK hc i pins s σ H E I hf st hg
  subst hP hw hK
  obtain ⟨f0,f1,f2,f3,f4,f5⟩:=hf it (by simp)
  obtain ⟨ok,ov,hit⟩:=st
  obtain ⟨hd,hlt⟩:=hg
  obtain ⟨hy,vs,r,hm⟩:=zeT I hd ho
  have hl:kvs.length = vs.length:=r.length
  obtain ⟨⟨k2,u⟩,hu,ek,ru⟩:=Paired.get r (List.getElem?_eq_getElem hlt)
  rw [hl] at hit
  obtain ⟨k,v,hkv⟩:∃ k v,kvs[i] = (k,v):=⟨_,_,rfl⟩
  have ek:k = k2:=by rw [hkv] at ek; exact ek
  have ru2:zL v u:=by rw [hkv] at ru; exact ru
  subst ek
  refine wpAny_pyNext_items_item hit hm hu fun key h' hk2 he' htup hsz hkp=>?_
  have rk:zL (kV k) key:=zfA hk2
  have I0:Inv X pins σ H { s with heap:=h' }:=I.turned (t':=s.toks) (it:=it) hkp f0 f1 f3 f4 f5
  have hfr:H s.heap.objs.size = none:=I.hok.fresh (Nat.le_refl _)
  have I1:Inv X pins σ (upd H s.heap.objs.size (.tup [kV k,v])) { s with heap:=h' }:=by
   have hok:HOk X.prog X.w (upd H s.heap.objs.size (.tup [kV k,v])) h':=fun b o q=>by
    by_cases hb:b = s.heap.objs.size
    ·subst hb
     rw [za] at q; cases q
     exact ⟨by show 2<=sizeLine; decide,[key,u],.cons rk (.cons ru2 .nil),⟨_,htup,rfl,_,rfl⟩⟩
    ·rw [zf hb] at q
     exact (I0.hok b o q).stay (fun _ _ _ z=>z) (fun c z=>by rw [zf (ze z hfr)]; exact z) fun c xs' z=>by rw [zf (ze z hfr)]; exact z
   refine I0.step (s:={ s with heap:=h' }) (g':=s.gens) (d':=s.drawn) (h':=h') (t':=s.toks) (ch:=[s.heap.objs.size]) (fun b hb=>?_) (fun b o _ _ _ e1 _=>e1) (fun b o _ _ _ e1 _=>⟨o.slots,e1⟩) (fun b o hb e1 n=>by rw [zf (fun z=>hb (by simp [z]))]; exact n)
    (fun b o _ e1=>⟨o,e1⟩) (fun b xs' e1=>by rw [zf (ze e1 hfr)]; exact e1) (fun b o' u' e1=>by rw [zf (ze e1 hfr)]; exact e1) (fun b ps e1=>⟨#[],by rw [zf (ze e1 hfr),e1]; simp⟩) (fun m hm=>hm) hok I0.bare
   have e':b = s.heap.objs.size:=by simpa using hb
   subst e'
   refine ⟨.inr I.sz,fun z=>?_,fun y c h z=>?_,fun p hp' z=>?_⟩
   ·have:=I.lt; rw [<- z] at this; exact absurd this (Nat.lt_irrefl _)
   ·obtain ⟨v',hv⟩:=I.cell y c h
    have:=hv.lt; rw [z] at this; exact absurd this (Nat.lt_irrefl _)
   ·have:=I.pin_lt hp'; rw [z] at this; exact absurd this (Nat.lt_irrefl _)
  refine ⟨_,rfl,wpAny_letOwnedTupleGo_items he' fun h2 he2 hs2=>?_⟩
  have nis:s.heap.objs.size ≠ it:=fun z=>by
   have:=Heap.lt_size (show s.heap.get? it = some _ from hit)
   rw [<- z] at this; exact absurd this (Nat.lt_irrefl _)
  have I2:Inv X pins σ (upd H s.heap.objs.size (.tup [kV k,v])) { s with heap:=h2 }:=
   I1.turned (s:={ s with heap:=h' }) (t':=s.toks) (it:=it) (fun b o hb q=>(hs2.2 b hb).trans q) (by rw [zf nis.symm]; exact f0) f1 f3 f4 f5
  refine ⟨.ref s.heap.objs.size,_,I2,rfl,⟨_,k,v,rfl,hfr,by rw [List.getElem?_eq_getElem hlt,hkv],rfl⟩,⟨_,_,by rw [hl]; exact he2⟩,fun b hb=>?_⟩
  have e':b = it:=by simpa using hb
  subst e'
  rw [zf nis.symm]; exact f0
 done:=by
  intro X hP hw hK hc i pins s σ H E I hf st hg
  subst hP hw hK
  obtain ⟨ok,ov,hit⟩:=st
  obtain ⟨f0,f1,f2,f3,f4,f5⟩:=hf it (by simp)
  obtain ⟨hd,hle⟩:=hg
  obtain ⟨hy,vs,r,hm⟩:=zeT I hd ho
  have hl:kvs.length = vs.length:=r.length
  rw [hl] at hit
  exact wpAny_pyNext_items_end (I.ok.hd hc) hit hm (List.getElem?_eq_none (by omega)) fun h' eb=>⟨rfl,I.turned (t':=s.toks) (fun b o hb e1=>eb b o hb e1) f0 f1 f3 f4 f5⟩
 self:=fun A i s Q E st h=>by
  obtain ⟨ok,ov,hit⟩:=st
  exact wq hit h
section
variable {X:Cx} {elts:List Expr} {x1:Nat} {tpos:Pos}
def zig (te:TE):TI:=fun σ H R=>te σ H fun x H1=>∃ d o kvs,x = .ref d/\H1 d = some (.frz o (.dK kvs))/\R (Itd d o kvs) H1
theorem zed {l:Expr} {te:TE} {apos cpos:Pos} (hl:PE X l te) (hbase:attributeBase l "items" X.env (eval l X.env) = eval l X.env:=by rfl) (hline:(apos.endLine == cpos.line) = true:=by rfl) :
  PI X (.Tuple elts x1 tpos) (.Call (.Attribute l "items" apos) [] [] cpos) (zig te):=by
 refine ⟨?_⟩
 intro pins s σ H R I h
 refine wpAny_Call_method0_late hbase hline (thn (hl pins s σ H _ I h) fun v s1 ⟨x,H1,I1,r1,d,o,kvs,ex,hd,q⟩=>?_)
 subst ex
 cases r1
 obtain ⟨e,hz,hy,vs,r,o',es,ep,ho',c1,c2,c3⟩:=id (I1.hok d _ hd)
 rw [e] at ho'
 cases ho'
 have hm:s1.heap.DictAt (z7 X.prog X.w) d vs ep:=⟨o,es,e,c1,c2,c3⟩
 refine ⟨"dict","dict.items",F.plainAttrs_dict,F.slot_dict_items,F.type_dict_items,⟨o,e,c1.1⟩,fun a ea=>by cases ea; exact ⟨o,e,c1.2.1⟩,Calls.callWith_builtin rfl (PySem.evalArgs_none ?_)⟩
 refine call_meetsIn F.slot_dict_items ⟨o,e,c1.1⟩ F.entry_dict_items (F.args_dict_items_1 _) (meets_dict_items (z7 X.prog X.w) d hy) ⟨⟨vs,hm.dictOf⟩,?_⟩
 show wpAny _ _ (pyIter (.ref s1.heap.objs.size)) _ _ _
 have hl:kvs.length = vs.length:=r.length
 refine wpAny_pyIter_items (knd:=z7 X.prog X.w) (d:=d) (kvs:=vs) (ep:=ep) ⟨_,Heap.get?_push_size _ rfl,rfl,rfl⟩ (hm.push _) ?_
 have hk:∀ b ob,s1.heap.get? b = some ob->((s1.heap.push { cls:=.type "dict_items",data:=.fields #[.ref d] }).push { cls:=.type "dict_itemiterator",data:=.fields #[.none,.bool false,.ref d,.int 0 0,.int vs.length 0,.int ep 0,.none,.none] }).get? b = some ob:=fun b ob q=>Heap.get?_push_of_some _ (Heap.get?_push_of_some _ q)
 have I2:=I1.kept (t':=s1.toks) hk
 have hsz:(s1.heap.push { cls:=.type "dict_items",data:=.fields #[.ref d] }).objs.size = s1.heap.objs.size + 1:=Heap.size_push ..
 refine ⟨(s1.heap.push { cls:=.type "dict_items",data:=.fields #[.ref d] }).objs.size,[(s1.heap.push { cls:=.type "dict_items",data:=.fields #[.ref d] }).objs.size],_,Itd d o kvs,H1,rfl,I2,zaZ d _ o kvs es ep c2,⟨.none,.none,?_⟩,fun b hb=>?_,q⟩
 ·rw [hl]
  exact Heap.get?_push_size (s1.heap.push { cls:=.type "dict_items",data:=.fields #[.ref d] }) (o:={ cls:=.type "dict_itemiterator",data:=.fields #[.none,.bool false,.ref d,.int 0 0,.int vs.length 0,.int ep 0,.none,.none] }) rfl
 ·have e':b = (s1.heap.push { cls:=.type "dict_items",data:=.fields #[.ref d] }).objs.size:=by simpa using hb
  subst e'
  rw [hsz]
  exact I1.fpOk (Nat.le_succ _) (I1.hok.fresh (Nat.le_succ _))
theorem zda {d:Addr} {o:Obj} {kvs:List (Key × V)} {g:TG} {tb:TS} {D:wI} {σ : St} {H:Hp} (Pv:Nat->St->Hp->Prop) (h0:Pv 0 σ H) (hl:∀ i σ H,i<=kvs.length->Pv i σ H->H d = some (.frz o (.dK kvs)))
  (hs:∀ i k v p σ H,kvs[i]? = some (k,v)->Pv i σ H->H p = none->g (.ref p) σ (upd H p (.tup [kV k,v])) fun σ2 H2=>tb { D with nx:=Pv (i + 1),ct:=Pv (i + 1),bk:=D.nx } σ2 H2) (hd:∀ σ H,Pv kvs.length σ H->D.nx σ H) :
  ∃ W:Nat->Nat->St->Hp->Prop,(∃ m,W 0 m σ H)/\∀ i m σ H,W i m σ H->
   ((Itd d o kvs).stop i H/\D.nx σ H)\/((Itd d o kvs).go i H/\∃ N:St->Hp->Prop,(∀ σ' H',N σ' H'->∃ m',m' < m/\W (i + 1) m' σ' H')/\∀ x H',(Itd d o kvs).yld i H x H'->g x σ H' fun σ2 H2=>tb { D with nx:=N,ct:=N,bk:=D.nx } σ2 H2):=by
 refine ⟨fun i m σ H=>m = kvs.length - i/\i<=kvs.length/\Pv i σ H,⟨kvs.length,by simp,Nat.zero_le _,h0⟩,?_⟩
 rintro i m σ H ⟨rfl,hi,p⟩
 have q:=hl i σ H hi p
 by_cases hlt:i < kvs.length
 ·refine .inr ⟨⟨q,hlt⟩,Pv (i + 1),fun σ' H' p'=>⟨kvs.length - (i + 1),by omega,rfl,hlt,p'⟩,fun x H' y=>?_⟩
  obtain ⟨pp,k,v,rfl,hp,y2,rfl⟩:=y
  exact hs i k v pp σ H y2 p hp
 ·have e:i = kvs.length:=by omega
  subst e
  exact .inl ⟨⟨q,Nat.le_refl _⟩,hd σ H p⟩
end
theorem zjD {X:Cx} {pins:List (Addr × Obj)} {σ : St} {H:Hp} {s:Shared} {A:Around} {a b:Addr} {xs ys:List V} (I:Inv X pins σ H s) (ha:SqT X.K H a xs) (hb:SqT X.K H b ys) (fx:xs.all xf = true) (fy:ys.all xf = true) (hu:A.units + 8 < cLine) :
  SeqAt.RcAt A s (.ref a) (.ref b) (eqT xs ys):=by
 obtain ⟨ia,va,pa,_⟩:=I.tuple ha
 obtain ⟨ib,vb,pb,_⟩:=I.tuple hb
 have la:ia.toArray.size = xs.length:=by rw [List.size_toArray]; exact va.length.symm
 have lb:ib.toArray.size = ys.length:=by rw [List.size_toArray]; exact vb.length.symm
 have:=SeqAt.RcAt.tuples (A:=A) (s:=s) (e:=fun j=>eqV (xs[j]?.getD .non) (ys[j]?.getD .non)) (show s.heap.IsTuple a ia.toArray from pa) (show s.heap.IsTuple b ib.toArray from pb) (by omega) (fun j h1 h2=>by
  have j1:j < ia.length:=by simpa using h1
  have j2:j < ib.length:=by simpa using h2
  have hxl:j < xs.length:=by rw [va.length]; exact j1
  have hyl:j < ys.length:=by rw [vb.length]; exact j2
  obtain ⟨u',e1,e2⟩:=va.get (i:=j) (List.getElem?_eq_getElem hxl)
  obtain ⟨v',e3,e4⟩:=vb.get (i:=j) (List.getElem?_eq_getElem hyl)
  rw [List.getElem?_eq_getElem j1] at e1
  rw [List.getElem?_eq_getElem j2] at e3
  cases e1; cases e3
  have q:=zeX (A:=A.in1) (s:=s) e2 e4 (List.all_eq_true.mp fx _ (List.getElem_mem hxl)) (List.all_eq_true.mp fy _ (List.getElem_mem hyl))
  simpa [hxl,hyl] using q)
 rw [la,lb] at this
 exact this
def zhI (K:Frag):R2:=fun x y H Q=>∃ (a c:Addr) (xs ys:List V),x = .ref a/\y = .ref c/\SqT K H a xs/\SqT K H c ys/\xs.all xf = true/\ys.all xf = true/\Q (.bl (eqT xs ys)) H
theorem zej {X:Cx} (hu:X.A.units + 64 < cLine):OpR X (compareOp .Eq) (zhI X.K):=by
 intro pins s σ H x y v u Q I rx ry h
 obtain ⟨a,c,xs,ys,rfl,rfl,ha,hc,fx,fy,q⟩:=h
 cases rx; cases ry
 exact zjD (A:=X.A) I ha hc fx fy (by omega) X.prog X.w X.xe _ ⟨.bl _,H,I,rfl,q⟩
end L2
namespace K34
open PySem L2 PyProof.Rows
inductive yo where
 | one (t:Int) | row (ts:List Int) | named (n:Str) (t:Int) | book (ps:List (Str × Int))
def yG (p:Str × Int):Dt:=.tup [.str p.1,.int p.2]
def yu:yo->Dt
 | .one t=>.tup [.str "one",.int t]
 | .row ts=>.tup [.str "row",.lst (ts.map .int)]
 | .named n t=>.tup [.str "named",.str n,.int t]
 | .book ps=>.tup [.str "book",.lst (ps.map yG)]
def itT:yo->List Int
 | .one t=>[t]
 | .row ts=>ts
 | _=>[]
def itP:yo->List (Str × Int)
 | .named n t=>[(n,t)]
 | .book ps=>ps
 | _=>[]
def zw (c:List yo):List Int:=(c.map itT).flatten
def zM (c:List yo):List (Str × Int):=(c.map itP).flatten
abbrev T':Addr->Prop:=fun _=>True
def Two (K:Frag) (H H':Hp) (p:Addr) (ts:List Int) (ps:List (Str × Int)):Prop:=
 ∃ l1 l2 xs,H l1 = none/\H l2 = none/\l1 ≠ l2/\H p = none/\H' p = some (.tup [.ref l1,.ref l2])/\H' l1 = some (.lst (ts.map V.int))/\H' l2 = some (.lst xs)/\Paired (zu K T' H' 1) xs (ps.map yG)
def za6 (K:Frag):Sp:=fun vs H Q _=>∃ (a:Addr) (c:List yo) (xs:List V),vs = [.ref a]/\SqL K H a xs/\Paired (zu K T' H 3) xs (c.map yu)/\(zw c).length<=900/\(zM c).length<=900/\
 ∀ (p:Addr) (H':Hp),zl H H'->Two K H H' p (zw c) (zM c)->Q (.ref p) H'
section
variable {P:Program} {w:World} {K:Frag} {mg:Str->Option Value} {base:Heap} {f:Addr} {fd:FuncData}
end
section
variable {K:Frag} {ok:Addr->Prop} {H H':Hp} {n:Nat} {x:V}
theorem vn {i:Int} (h:zu K ok H n x (.int i)):x = .int i:=by
 have fl:ui x (.int i)->x = .int i:=fun h=>by
  cases x <;> first | exact h.elim | (have e:=(show _ = _ from h); rw [e])
 cases n with
 | zero=>exact fl h
 | succ n=>
  rcases h with h | ⟨_,_,_,_,e,_⟩ | ⟨_,_,_,_,e,_⟩
  ·exact fl h
  ·cases e
  ·cases e
theorem xX {z:Str} (h:zu K ok H n x (.str z)):x = .str z:=by
 have fl:ui x (.str z)->x = .str z:=fun h=>by
  cases x <;> first | exact h.elim | (have e:=(show _ = _ from h); rw [e])
 cases n with
 | zero=>exact fl h
 | succ n=>
  rcases h with h | ⟨_,_,_,_,e,_⟩ | ⟨_,_,_,_,e,_⟩
  ·exact fl h
  ·cases e
  ·cases e
theorem yU {ds:List Dt} (h:zu K ok H (n + 1) x (.tup ds)):∃ a xs,x = .ref a/\SqT K H a xs/\Paired (zu K ok H n) xs ds:=by
 rcases h with h | ⟨a,xs,ds',e1,e2,e3,r⟩ | ⟨_,_,_,_,e,_⟩
 ·cases x <;> exact h.elim
 ·cases e2; exact ⟨a,xs,e1,e3,r⟩
 ·cases e
theorem zad {ds:List Dt} (h:zu K ok H (n + 1) x (.lst ds)):∃ a xs,x = .ref a/\ok a/\H a = some (.lst xs)/\Paired (zu K ok H n) xs ds:=by
 rcases h with h | ⟨_,_,_,_,e,_⟩ | ⟨a,xs,ds',e1,e2,o,e3,r⟩
 ·cases x <;> exact h.elim
 ·cases e
 ·cases e2; exact ⟨a,xs,e1,o,e3,r⟩
theorem jE:∀ {ts:List Int} {xs:List V},Paired (zu K ok H n) xs (ts.map .int)->xs = ts.map V.int
 | [],_,r=>by cases r; rfl
 | t :: ts,_,r=>by
  cases r with
  | cons h r=>rw [vn h,jE r]; rfl
theorem yk {α β : Type} {F : α->β->Prop}:∀ {a c:List α} {b d:List β},Paired F a b->Paired F c d->Paired F (a ++ c) (b ++ d)
 | _,_,_,_,.nil,s=>s
 | _,_,_,_,.cons r t,s=>.cons r (yk t s)
theorem zeN {t:Int} (h:zu K ok H 3 x (yu (.one t))):∃ a,x = .ref a/\SqT K H a [.str "one",.int t]:=by
 obtain ⟨a,xs,rfl,hS,r⟩:=yU h
 cases r with
 | cons h1 r=>cases r with
  | cons h2 r=>cases r; rw [xX h1,vn h2] at hS; exact ⟨a,rfl,hS⟩
theorem zeM {ts:List Int} (h:zu K ok H 3 x (yu (.row ts))):∃ a b,x = .ref a/\SqT K H a [.str "row",.ref b]/\ok b/\H b = some (.lst (ts.map V.int)):=by
 obtain ⟨a,xs,rfl,hS,r⟩:=yU h
 cases r with
 | cons h1 r=>cases r with
  | cons h2 r=>
   cases r
   obtain ⟨b,ys,rfl,o,hb,q⟩:=zad h2
   rw [xX h1] at hS
   rw [jE q] at hb
   exact ⟨a,b,rfl,hS,o,hb⟩
theorem zbG {z:Str} {t:Int} (h:zu K ok H 3 x (yu (.named z t))):∃ a,x = .ref a/\SqT K H a [.str "named",.str z,.int t]:=by
 obtain ⟨a,xs,rfl,hS,r⟩:=yU h
 cases r with
 | cons h1 r=>cases r with
  | cons h2 r=>cases r with
   | cons h3 r=>cases r; rw [xX h1,xX h2,vn h3] at hS; exact ⟨a,rfl,hS⟩
theorem zc4 {ps:List (Str × Int)} (h:zu K ok H 3 x (yu (.book ps))):∃ a b ys,x = .ref a/\SqT K H a [.str "book",.ref b]/\ok b/\H b = some (.lst ys)/\Paired (zu K ok H 1) ys (ps.map yG):=by
 obtain ⟨a,xs,rfl,hS,r⟩:=yU h
 cases r with
 | cons h1 r=>cases r with
  | cons h2 r=>
   cases r
   obtain ⟨b,ys,rfl,o,hb,q⟩:=zad h2
   rw [xX h1] at hS
   exact ⟨a,b,ys,rfl,hS,o,hb,q⟩
end
theorem zbC (c:List yo) (i:Nat) (it:yo) (h:c[i]? = some it):zw (c.take (i + 1)) = zw (c.take i) ++ itT it:=by
 unfold zw
 rw [List.take_add_one,h,List.map_append,List.flatten_append]
 simp
theorem zbD (c:List yo) (i:Nat) (it:yo) (h:c[i]? = some it):zM (c.take (i + 1)) = zM (c.take i) ++ itP it:=by
 unfold zM
 rw [List.take_add_one,h,List.map_append,List.flatten_append]
 simp
theorem zaA (c:List yo) (i:Nat):(zw (c.take i)).length<=(zw c).length:=by
 unfold zw
 conv=>rhs; rw [<- List.take_append_drop i c]
 rw [List.map_append,List.flatten_append,List.length_append]
 omega
theorem zaB (c:List yo) (i:Nat):(zM (c.take i)).length<=(zM c).length:=by
 unfold zM
 conv=>rhs; rw [<- List.take_append_drop i c]
 rw [List.map_append,List.flatten_append,List.length_append]
 omega
theorem ne1:¬ (V.str "row" = V.str "one"):=by decide +kernel
theorem ne2:¬ (V.str "named" = V.str "one"):=by decide +kernel
theorem ne3:¬ (V.str "book" = V.str "one"):=by decide +kernel
theorem ne4:¬ (V.str "named" = V.str "row"):=by decide +kernel
theorem ne5:¬ (V.str "book" = V.str "row"):=by decide +kernel
theorem ne6:¬ (V.str "book" = V.str "named"):=by decide +kernel
section
variable {P:Program} {w:World} {K:Frag} {mg:Str->Option Value} {base:Heap} {f:Addr} {fd:FuncData}
theorem uI:zm ["call","things","pairs","item","word"] ["call"] (zg zdV):=⟨rfl,rfl,rfl,by decide +kernel,rfl,by decide +kernel,by decide +kernel⟩
theorem zU {H H2:Hp} {l:Addr} (s:zl H H2) (h:H l = none) (o:HO):zl H (upd H2 l o):=fun b u q=>by rw [zf (ze q h)]; exact s b u q
theorem zf3 (F:Fun K "laid" "laid" zdV f fd):zp P w K mg base CX0 1 f fd ["call"] (za6 K):=by
 refine F.ok uI (fun vs H Q E h=>?_) (fun cdv A outer s H vs Q E hr h=>?_)
 ·obtain ⟨a,c,xs,rfl,_⟩:=h
  rfl
 obtain ⟨a,c,xs,rfl,hS,hc,hT,hP,q⟩:=h
 refine ⟨_,zi (zt (i:=1) uI.nd rfl (Or.inl rfl) (zY zb)) (zi (zt (i:=2) uI.nd rfl (Or.inl rfl) (zY zb))
  (zi (yz PassesOwn.never rfl (zZ (pv 0)) (zk (i:=3) uI.nd rfl (Or.inl rfl))
   (zi (zt (i:=4) uI.nd rfl (Or.inl rfl) (zF yd (pv 3) zh (fun _ _=>rfl)))
   (zd (zP (zn yE (pv 4) zr (zD _)) (zd (zB (yv PySem.F.plainAttrs_list PySem.F.slot_list_append PySem.F.type_list_append zG (pv 1) (ac (zF yd (pv 3) zh (fun _ _=>rfl)) zb))))
    (zd (zP (zn yE (pv 4) zr (zD _)) (zd (zB (yv PySem.F.plainAttrs_list PySem.F.slot_list_extend PySem.F.type_list_extend jJ (pv 1) (ac (zF yd (pv 3) zh (fun _ _=>rfl)) zb))))
     (zd (zP (zn yE (pv 4) zr (zD _)) (zd (zB (yv PySem.F.plainAttrs_list PySem.F.slot_list_append PySem.F.type_list_append zG (pv 2) (ac (zN (ac (zF yd (pv 3) zh (fun _ _=>rfl)) (ac (zF yd (pv 3) zh (fun _ _=>rfl)) zb))) zb))))
      (zd (zB (yv PySem.F.plainAttrs_list PySem.F.slot_list_extend PySem.F.type_list_extend jJ (pv 2) (ac (zF yd (pv 3) zh (fun _ _=>rfl)) zb))))))))))))
  (zd (zq (zN (ac (pv 1) (ac (pv 2) zb))))))),?_⟩
 refine ⟨zz0,fun l1 h1=>?_⟩
 refine ⟨zz0,fun l2 h2=>?_⟩
 have n12:l1 ≠ l2:=ze za h2
 have f2:H l2 = none:=(zc h1 _).free h2
 have s0:zl H (upd (upd H l1 (.lst [])) l2 (.lst [])):=(zc h1 _).trans (zc h2 _)
 refine ⟨_,rfl,a,rfl,⟨_,s0.seq hS⟩,yM (K:=K) (a:=a) (xs:=xs) (fun i σ H2=>∃ v3 v4 ys,σ = [some (.ref a),some (.ref l1),some (.ref l2),v3,v4]/\zl H H2/\H2 l1 = some (.lst ((zw (c.take i)).map V.int))/\H2 l2 = some (.lst ys)/\Paired (zu K T' H2 1) ys ((zM (c.take i)).map yG))
  ⟨_,_,[],rfl,s0,by rw [zf n12,za]; rfl,za,.nil⟩ (fun i σ H2 _ ⟨_,_,_,_,s2,_⟩=>s2.seq hS) ?_ ?_⟩
 ·rintro i y σ H2 hi ⟨v3,v4,ys,rfl,s2,g1,g2,gp⟩
  obtain ⟨d,hd,hy⟩:=Paired.get hc hi
  obtain ⟨it,hit,rfl⟩:∃ it,c[i]? = some it/\yu it = d:=by
   rw [List.getElem?_map] at hd
   cases e:c[i]? with
   | none=>rw [e] at hd; cases hd
   | some it=>rw [e] at hd; exact ⟨it,rfl,Option.some.inj hd⟩
  have hy2:=hy.same s2
  have eT:=zbC c i it hit
  have eP:=zbD c i it hit
  have lT:=zaA c i
  have lP:=zaB c i
  have lT1:=zaA c (i + 1)
  have lP1:=zaB c (i + 1)
  have lys:ys.length = (zM (c.take i)).length:=by rw [gp.length,List.length_map]
  have sT:∀ {H3:Hp} {o:HO} {l:Addr},H3 l = none\/(∃ zs,H3 l = some (.lst zs))->∀ {b zs},SqT K H3 b zs->SqT K (upd H3 l o) b zs:=fun {H3 o l} hl {b zs} hz=>by
   rcases hz with (z | ⟨u,z⟩) | z
   ·refine .inl (.inl ?_)
    have:b ≠ l:=fun e=>by
     subst e
     rcases hl with e | ⟨_,e⟩
     ·rw [e] at z; cases z
     ·rw [e] at z; cases z
    rw [zf this]; exact z
   ·refine .inl (.inr ⟨u,?_⟩)
    have:b ≠ l:=fun e=>by
     subst e
     rcases hl with e | ⟨_,e⟩
     ·rw [e] at z; cases z
     ·rw [e] at z; cases z
    rw [zf this]; exact z
   ·exact .inr z
  have keepP:∀ {H3:Hp} {o:HO} {l:Addr} {zs:List V} {ps:List (Str × Int)},H3 l = none\/(∃ zs,H3 l = some (.lst zs))->Paired (zu K T' H3 1) zs (ps.map yG)->Paired (zu K T' (upd H3 l o) 1) zs (ps.map yG):=by
   intro H3 o l zs ps hl r
   induction ps generalizing zs with
   | nil=>cases r; exact .nil
   | cons p ps ih=>
    cases r with
    | cons h r=>
     refine .cons ?_ (ih r)
     obtain ⟨b,ws,rfl,hS',r'⟩:=yU h
     exact .tup (sT hl hS') (Paired.imp' (fun _ _ z=>z) r')
  cases it with
  | one t=>
   obtain ⟨b,rfl,hb⟩:=zeN hy2
   refine ⟨_,rfl,b,_,_,.str "one",rfl,rfl,hb,rfl,?_⟩
   refine ⟨_,rfl,rfl,_,rfl,?_⟩
   refine dT rfl ?_
   refine ⟨_,rfl,.inl ⟨rfl,_,SqL.of g1⟩,_,rfl,b,_,_,.int t,rfl,rfl,hb,rfl,l1,_,_,rfl,rfl,g1,?_,?_⟩
   ·rw [List.length_map]; exact zx (by omega)
   ·refine ⟨_,_,ys,rfl,zU s2 h1 _,?_,?_,?_⟩
    ·rw [za,eT,List.map_append]; rfl
    ·rw [zf n12.symm]; exact g2
    ·rw [eP]; show Paired _ _ ((zM (c.take i) ++ []).map yG); rw [List.append_nil]; exact keepP (.inr ⟨_,g1⟩) gp
  | row ts=>
   obtain ⟨b,bl,rfl,hb,_,hbl⟩:=zeM hy2
   refine ⟨_,rfl,b,_,_,.str "row",rfl,rfl,hb,rfl,?_⟩
   refine ⟨_,rfl,rfl,_,rfl,?_⟩
   refine dF ne1 ?_
   refine ⟨_,rfl,rfl,_,rfl,?_⟩
   refine dT rfl ?_
   refine ⟨_,rfl,.inl ⟨rfl,_,SqL.of g1⟩,_,rfl,b,_,_,.ref bl,rfl,rfl,hb,rfl,l1,bl,_,_,rfl,rfl,g1,hbl,?_,?_⟩
   ·have e1:(zw (c.take (i + 1))).length = (zw (c.take i)).length + ts.length:=by rw [eT,List.length_append]; rfl
    rw [List.length_map,List.length_map]; exact ym (by omega)
   ·refine ⟨_,_,ys,rfl,zU s2 h1 _,?_,?_,?_⟩
    ·rw [za,eT,List.map_append]; rfl
    ·rw [zf n12.symm]; exact g2
    ·rw [eP]; show Paired _ _ ((zM (c.take i) ++ []).map yG); rw [List.append_nil]; exact keepP (.inr ⟨_,g1⟩) gp
  | named z t=>
   obtain ⟨b,rfl,hb⟩:=zbG hy2
   refine ⟨_,rfl,b,_,_,.str "named",rfl,rfl,hb,rfl,?_⟩
   refine ⟨_,rfl,rfl,_,rfl,?_⟩
   refine dF ne2 ?_
   refine ⟨_,rfl,rfl,_,rfl,?_⟩
   refine dF ne4 ?_
   refine ⟨_,rfl,rfl,_,rfl,?_⟩
   refine dT rfl ?_
   refine ⟨_,rfl,.inl ⟨rfl,_,SqL.of g2⟩,_,rfl,b,_,_,.str z,rfl,rfl,hb,rfl,_,rfl,b,_,_,.int t,rfl,rfl,hb,rfl,zz2,fun p hp=>?_⟩
   have np2:l2 ≠ p:=ze g2 hp
   have np1:l1 ≠ p:=ze g1 hp
   have fp:H p = none:=s2.free hp
   refine ⟨l2,_,_,rfl,rfl,(by rw [zf np2]; exact g2),?_,?_⟩
   ·rw [lys]; exact zx (by omega)
   ·refine ⟨_,_,ys ++ [.ref p],rfl,zU (zU s2 fp _) f2 _,?_,za,?_⟩
    ·rw [zf n12,zf np1,g1,eT]; show _ = some (HO.lst ((zw (c.take i) ++ []).map V.int)); rw [List.append_nil]
    ·rw [eP,List.map_append]
     refine yk (keepP (.inr ⟨_,by rw [zf np2]; exact g2⟩) (keepP (.inl hp) gp)) (.cons (.tup (xs:=[.str z,.int t]) (SqT.of ?_) (.cons .str (.cons .int .nil))) .nil)
     rw [zf np2.symm,za]
  | book ps=>
   obtain ⟨b,bl,zs,rfl,hb,_,hbl,hz⟩:=zc4 hy2
   refine ⟨_,rfl,b,_,_,.str "book",rfl,rfl,hb,rfl,?_⟩
   refine ⟨_,rfl,rfl,_,rfl,?_⟩
   refine dF ne3 ?_
   refine ⟨_,rfl,rfl,_,rfl,?_⟩
   refine dF ne5 ?_
   refine ⟨_,rfl,rfl,_,rfl,?_⟩
   refine dF ne6 ?_
   have lz:zs.length = ps.length:=by rw [hz.length,List.length_map]
   refine ⟨_,rfl,.inl ⟨rfl,_,SqL.of g2⟩,_,rfl,b,_,_,.ref bl,rfl,rfl,hb,rfl,l2,bl,_,_,rfl,rfl,g2,hbl,?_,?_⟩
   ·have e1:(zM (c.take (i + 1))).length = (zM (c.take i)).length + ps.length:=by rw [eP,List.length_append]; rfl
    rw [lys,lz]; exact ym (by omega)
   ·refine ⟨_,_,ys ++ zs,rfl,zU s2 f2 _,?_,za,?_⟩
    ·rw [zf n12,g1,eT]; show _ = some (HO.lst ((zw (c.take i) ++ []).map V.int)); rw [List.append_nil]
    ·rw [eP,List.map_append]
     exact yk (keepP (.inr ⟨_,g2⟩) gp) (keepP (.inr ⟨_,g2⟩) hz)
 ·rintro σ H2 ⟨v3,v4,ys,rfl,s2,g1,g2,gp⟩
  refine ⟨_,rfl,_,rfl,zz2,fun p hp=>?_⟩
  have hl:xs.length = c.length:=by rw [hc.length,List.length_map]
  rw [hl,List.take_length] at g1 gp
  refine q p _ (s2.trans (zc hp _)) ⟨l1,l2,ys,h1,f2,n12,s2.free hp,za,?_,?_,Paired.imp' (fun _ _ z=>z.same (zc hp _)) gp⟩
  ·rw [zf (ze g1 hp)]; exact g1
  ·rw [zf (ze g2 hp)]; exact g2
end
theorem uS {ps:List (Str × Int)} {i:Nat} {d:Dt} (h:(ps.map yG)[i]? = some d):∃ p,ps[i]? = some p/\yG p = d:=by
 rw [List.getElem?_map] at h
 cases e:ps[i]? with
 | none=>rw [e] at h; cases h
 | some it=>rw [e] at h; exact ⟨it,rfl,Option.some.inj h⟩
theorem vP {K:Frag} {ok:Addr->Prop} {H:Hp} {n:Nat} {x:V} {p:Str × Int} (h:zu K ok H (n + 1) x (yG p)):∃ b,x = .ref b/\SqT K H b [.str p.1,.int p.2]:=by
 obtain ⟨a,xs,rfl,hS,r⟩:=yU h
 cases r with
 | cons h1 r=>cases r with
  | cons h2 r=>cases r; rw [xX h1,vn h2] at hS; exact ⟨a,rfl,hS⟩
section
variable {P:Program} {w:World} {K:Frag} {mg:Str->Option Value} {base:Heap} {f:Addr} {fd:FuncData}
end
theorem je {A B:Prop} {b:Bool} (h:b = true) (a:A):if b = true then A else B:=by rw [h]; exact wC a
theorem vE {A B:Prop} {b:Bool} (h:b = false) (a:B):if b = true then A else B:=by rw [h]; exact y6 a
section
variable {P:Program} {w:World} {K:Frag} {mg:Str->Option Value} {base:Heap} {f:Addr} {fd:FuncData}
section
variable {H H':Hp} {p l1 l2 l:Addr} {ys:List V} {ts:List Int} {ps:List (Str × Int)} {o:HO}
end
end
def zC (c:List yo):List Str:=(zM c).map (·.1)
def qe (K:Frag):Sp:=fun vs H Q _=>∃ (a:Addr) (c:List yo) (xs:List V),vs = [.ref a]/\SqL K H a xs/\Paired (zu K T' H 3) xs (c.map yu)/\(zw c).length<=900/\(zM c).length<=900/\
 ∀ (p l:Addr) (H':Hp),zl H H'->H l = none->H' p = some (.tup [.int ((zw c).length:Nat),.ref l])->H' l = some (.lst ((zC c).map V.str))->Q (.ref p) H'
def wU:Nat->List (Key × V)->List Str->List (Key × V)
 | _,acc,[]=>acc
 | i,acc,z :: zs=>wU (i + 1) (if (zA acc (.inr z)).isSome = true then acc else yq acc (.inr z) (.int i)) zs
theorem jT {z:Str}:∀ (zs:List Str) (j i:Nat) (acc:List (Key × V)),zs[i]? = some z->wU j acc (zs.take (i + 1)) = (if (zA (wU j acc (zs.take i)) (.inr z)).isSome = true then wU j acc (zs.take i) else yq (wU j acc (zs.take i)) (.inr z) (.int (j + i:Nat)))
 | [],_,_,_,h=>by simp at h
 | y :: ys,j,0,acc,h=>by
  have e:y = z:=by simpa using h
  subst e
  rfl
 | y :: ys,j,i + 1,acc,h=>by
  have:=jT ys (j + 1) i (if (zA acc (.inr y)).isSome = true then acc else yq acc (.inr y) (.int j)) (by simpa using h)
  show wU (j + 1) _ (ys.take (i + 1)) = _
  rw [this,show j + 1 + i = j + (i + 1) by omega]
  rfl
theorem zaK:∀ (zs:List Str) (i:Nat) (acc:List (Key × V)),(wU i acc zs).length<=acc.length + zs.length
 | [],_,_=>Nat.le_refl _
 | z :: zs,i,acc=>by
  have h:=zaK zs (i + 1) (if (zA acc (.inr z)).isSome = true then acc else yq acc (.inr z) (.int i))
  have h2:(if (zA acc (.inr z)).isSome = true then acc else yq acc (.inr z) (.int i)).length<=acc.length + 1:=by
   split
   ·omega
   ·exact xc acc _ _
  show (wU (i + 1) _ zs).length<=acc.length + (zs.length + 1)
  omega
def qZ:Sp:=fun vs H Q _=>∃ (a:Addr) (zs:List Str),vs = [.ref a]/\H a = some (.lst (zs.map V.str))/\zs.length<=900/\∀ (l:Addr) (o:Obj) (H':Hp),zl H H'->H l = none->H' l = some (.frz o (.dK (wU 0 [] zs)))->Q (.ref l) H'
section
variable {P:Program} {w:World} {K:Frag} {mg:Str->Option Value} {base:Heap} {f CF:Addr} {fd:FuncData} {c:C5} {m:MA}
theorem zi3:([Str.ofString "name",Str.ofString "thing"]:List Str).Nodup:=by decide +kernel
theorem ql:zm ["call","things","pairs"] ["call"] (zg zbd):=⟨rfl,rfl,rfl,by decide +kernel,rfl,by decide +kernel,by decide +kernel⟩
theorem zeo {g:Addr} {gd:FuncData} (F:Fun K "shape" "shape" zbd f fd) (hlen:mg "len" = none) (cL:zv P w K mg base 1 "laid" g gd ["call"] (za6 K)):zp P w K mg base CX0 2 f fd ["call"] (qe K):=by
 refine F.ok ql (fun vs H Q E h=>?_) (fun cdv A outer s H vs Q E hr h=>?_)
 ·obtain ⟨a,c,xs,rfl,_⟩:=h
  rfl
 obtain ⟨a,c,xs,rfl,hS,hc,lT,lP,q⟩:=h
 refine ⟨_,zi (wb (cF cL hr (ac (pv 0) zb)) (yA rfl (zo (zk (i:=1) ql.nd rfl (Or.inl rfl)) (zo (zk (i:=2) ql.nd rfl (Or.inl rfl)) yh))))
  (zd (zq (zN (ac (cB yi hlen PySem.boot_len (ac (pv 1) zb)) (ac (xL [] ["name","thing"] [none,none] rfl ⟨rfl,rfl,rfl,rfl⟩ (zZ (pv 2)) (wQ (K:=K) (n:=2) 0 1) rfl rfl rfl
   (fun pins fp s H C=>⟨yA rfl (zo (zk (i:=0) zi3 rfl (Or.inl rfl) (.inr rfl)) (zo (zk (i:=1) zi3 rfl (Or.inl rfl) (.inr rfl)) yh)),yI,pv 0⟩)) zb))))),?_⟩
 refine ⟨_,rfl,a,c,xs,rfl,hS,hc,lT,lP,fun p H1 s1 two=>?_⟩
 obtain ⟨l1,l2,ys,n1,n2,n12,np,ep,e1,e2,gp⟩:=two
 refine ⟨p,_,rfl,SqT.of ep,rfl,_,_,rfl,_,_,rfl,rfl,?_⟩
 refine ⟨_,rfl,l1,_,rfl,.inl (SqL.of e1),_,rfl,l2,rfl,⟨_,SqL.of e2⟩,fun D hD=>?_⟩
 have lys:ys.length = (zM c).length:=by rw [gp.length,List.length_map]
 refine xt (K:=K) (xs:=ys) (fun i zs H'=>zl H1 H'/\H' D = some (.lst zs)/\zs = ((zC c).take i).map V.str) ⟨zc hD _,za,rfl⟩ (fun i zs H' h=>SqL.of (h.1 _ _ e2)) ?_ ?_
 ·rintro i x zs H' hlt hx ⟨sH,hDy,ez⟩
  obtain ⟨d,hd,hy⟩:=Paired.get gp hx
  obtain ⟨pr',hpr,rfl⟩:=uS hd
  obtain ⟨b,rfl,hb⟩:=vP (hy.same sH)
  refine ⟨b,_,rfl,hb,rfl,_,_,rfl,_,_,rfl,rfl,fun _=>⟨_,rfl,?_⟩,fun e=>Bool.noConfusion e⟩
  have hi:i < (zC c).length:=by unfold zC; rw [List.length_map]; omega
  have en:(zC c)[i] = pr'.1:=by
   have:(zC c)[i]? = some pr'.1:=by unfold zC; rw [List.getElem?_map,hpr]; rfl
   rw [List.getElem?_eq_getElem hi] at this
   exact Option.some.inj this
  refine lcN.mk hlt (ym (by omega)) hDy (by rw [ez,List.length_map,List.length_take]; omega) ⟨fun b' u e=>?_,za,?_⟩
  ·rw [zf (ze e hD)]
   exact sH b' u e
  ·rw [ez,List.take_succ_eq_append_getElem hi,en,List.map_append]
   rfl
 rintro zs H2 ⟨s2,hDy,ez⟩
 have hz:zs = (zC c).map V.str:=by
  rw [ez,List.take_of_length_le (by unfold zC; rw [List.length_map]; omega)]
 subst hz
 refine ⟨zz2,fun t ht=>?_⟩
 have s3:=zc ht (.tup [.int ((zw c).map V.int).length,.ref D])
 refine q t D _ (s1.trans (s2.trans s3)) (s1.free hD) (by rw [za,List.length_map]) (s3 _ _ hDy)
theorem vm:zm ["names","firsts","number","name"] ["names"] (zg qu):=⟨rfl,rfl,rfl,by decide +kernel,rfl,by decide +kernel,by decide +kernel⟩
theorem zcX (F:Fun K "first_numbers" "first_numbers" qu f fd) (hen:mg "enumerate" = none):zp P w K mg base CX0 1 f fd ["names"] qZ:=by
 refine F.ok vm (fun vs H Q E h=>?_) (fun cdv A outer s H vs Q E hr h=>?_)
 ·obtain ⟨a,zs,rfl,_⟩:=h
  rfl
 obtain ⟨a,zs,rfl,ha,lz,q⟩:=h
 have hu1:=zaJ hr
 refine ⟨_,zi (zt (i:=1) vm.nd rfl (Or.inl rfl) zef)
  (zi (yz PassesOwn.never rfl (wP rfl hen (ac (pv 0) zb)) (yA rfl (zo (zk (i:=2) vm.nd rfl (Or.inl rfl)) (zo (zk (i:=3) vm.nd rfl (Or.inl rfl)) yh)))
   (zd (zP (x9 (zcT hu1 (pv 3) (pv 1))) (zd (zfH hu1 (pv 1) (pv 3) (pv 2) rfl)) zH)))
  (zd (zq (zhN (pv 1))))),?_⟩
 intro sd hsd
 have s1:=zc hsd (.dK [])
 have e1:upd H sd (.dK []) sd = some (.dK []):=za
 show vK _ _ _ _ (upd H sd (.dK []))
 generalize upd H sd (.dK []) = H1 at s1 e1 |-
 refine ⟨_,rfl,a,rfl,⟨_,SqL.of (s1 _ _ ha)⟩,vG (K:=K) (a:=a) (xs:=zs.map V.str) (fun i σ H'=>∃ (v2 v3:Option V),σ = [some (.ref a),some (.ref sd),v2,v3]/\zl H H'/\H' sd = some (.dK (wU 0 [] (zs.take i))))
  ⟨_,_,rfl,s1,e1⟩ (fun i σ H' _ ⟨_,_,_,sH,_⟩=>SqL.of (sH _ _ ha)) ?_ ?_⟩
 ·rintro i x p σ H' hx ⟨v2,v3,rfl,sH,hd⟩ hpn
  obtain ⟨z,hz,rfl⟩:=strs_at hx
  have sp:=zc hpn (.tup [.int (i:Nat),.str z])
  have hd2:=sp _ _ hd
  have tk:=jT zs 0 i [] hz
  rw [Nat.zero_add] at tk
  have hi:i < zs.length:=(List.getElem?_eq_some_iff.mp hz).1
  refine ⟨p,_,rfl,SqT.of za,rfl,_,_,rfl,_,_,rfl,rfl,?_⟩
  refine ⟨_,rfl,_,rfl,sd,_,rfl,.inl ⟨_,.inr z,.inl hd2,rfl,rfl⟩,_,rfl,?_⟩
  refine vW (fun ne=>?_) (fun ne=>?_)
  ·have ns:¬ (zA (wU 0 [] (zs.take i)) (.inr z)).isSome = true:=by
    intro e
    rw [e] at ne
    cases ne
   rw [if_neg ns] at tk
   have ln:=zaK (zs.take i) 0 []
   refine ⟨_,rfl,_,rfl,_,rfl,sd,_,rfl,.inl ⟨_,.inr z,hd2,rfl,zx (by rw [List.length_take] at ln; simp at ln; omega),rfl⟩,?_⟩
   refine ⟨_,_,rfl,fun b' u e=>?_,by rw [za,tk]⟩
   rw [zf (ze e hsd)]
   exact sp _ _ (sH _ _ e)
  ·have ns:(zA (wU 0 [] (zs.take i)) (.inr z)).isSome = true:=by
    cases e:(zA (wU 0 [] (zs.take i)) (.inr z)).isSome with
    | true=>rfl
    | false=>exact absurd (by rw [e]; rfl) ne
   rw [if_pos ns] at tk
   exact ⟨_,_,rfl,sH.trans sp,by rw [tk]; exact hd2⟩
 ·rintro σ H' ⟨v2,v3,rfl,sH,hd⟩
  rw [List.length_map,List.take_length] at hd
  refine ⟨_,rfl,sd,_,rfl,hd,fun o=>?_⟩
  refine q sd o _ (fun b' u e=>?_) hsd za
  rw [zf (ze e hsd)]
  exact sH _ _ e
end
def MA1 (H:Hp) (u:Addr) (m:Str × Nat):Prop:=H u = some (.tup [.str m.1,.int (m.2:Nat)])
def xI (H:Hp) (us:List Addr) (ms:List (Str × Nat)):Prop:=Paired (MA1 H) us ms
theorem xI.same {H H':Hp} {us:List Addr} {ms:List (Str × Nat)} (h:xI H us ms) (s:zl H H'):xI H' us ms:=Paired.imp' (fun _ _ z=>s _ _ z) h
theorem xI.upd {H:Hp} {us:List Addr} {ms:List (Str × Nat)} {D:Addr} {ys:List V} {o:HO} (h:xI H us ms) (hD:H D = some (.lst ys)):xI (upd H D o) us ms:=Paired.imp' (fun u m z=>by
 show L2.upd H D o u = _
 rw [zf (fun e=>by rw [e] at z; rw [MA1,hD] at z; cases z)]
 exact z) h
theorem xI.snoc {H:Hp} {us:List Addr} {ms:List (Str × Nat)} {u:Addr} {m:Str × Nat} (h:xI H us ms) (hu:MA1 H u m):xI H (us ++ [u]) (ms ++ [m]):=Paired.snoc h hu
def zaV (H H':Hp) (l:Addr) (ms:List (Str × Nat)):Prop:=∃ us:List Addr,H l = none/\H' l = some (.lst (us.map V.ref))/\xI H' us ms
def wp (rows:List Rw) (many:Nat):List (Str × Nat):=if (zE 2 0 rows).isSome = true then [] else (List.range (many - plN rows)).map fun i=>((("over" : Str),plN rows + i):Str × Nat)
def zb5 (c:C5) (CF:Addr):Sp:=fun vs H Q _=>∃ (f:Addr) (many:Nat) (rows:List Rw) (bars:List Str),vs = [.ref f,.int (many:Nat)]/\many<=900/\rows.length<=500/\y8 c CF H f rows bars/\∀ (l:Addr) (H':Hp),zl H H'->zaV H H' l (wp rows many)->Q (.ref l) H'
def qz (r:Rw) (i many:Nat) (fk:List (Key × V)):List V:=
 if y7 r.k = true/\i < many then [.str "place",.int (i:Nat)] else if z3 r.k = true/\(zA fk (.inr r.z)).isSome = true then [.str "name",(zA fk (.inr r.z)).getD .non] else [.str "free"]
def zbT (fk:List (Key × V)):Prop:=∀ k v,zA fk k = some v->xf v = true
def zdx (c:C5):Sp:=fun vs H Q _=>∃ (p d:Addr) (i many:Nat) (r:Rw) (fk:List (Key × V)),vs = [.ref p,.int (i:Nat),.int (many:Nat),.ref d]/\PAt c H p r/\r.ok/\Rd H d (.dK fk)/\∀ (u:Addr) (H':Hp),zl H H'->H' u = some (.tup (qz r i many fk))->Q (.ref u) H'
def z6 (r:Rw) (i many:Nat) (fk:List (Key × V)):Bool:=!fr r.k r.b && L2.eqT (qz r i many fk) [.str "free"]
def yL (many:Nat) (fk:List (Key × V)):Nat->List Rw->List (Str × Nat)
 | _,[]=>[]
 | i,r :: rs=>(if z6 r i many fk = true then [(("lacking" : Str),i)] else []) ++ yL many fk (i + 1) rs
theorem ja {many:Nat} {fk:List (Key × V)} {r:Rw}:∀ (rows:List Rw) (j i:Nat),rows[i]? = some r->yL many fk j (rows.take (i + 1)) = yL many fk j (rows.take i) ++ (if z6 r (j + i) many fk = true then [(("lacking" : Str),j + i)] else [])
 | [],_,_,h=>by simp at h
 | y :: ys,j,0,h=>by
  have e:y = r:=by simpa using h
  subst e
  show (_ ++ []) = [] ++ _
  rw [List.append_nil,List.nil_append]
  rfl
 | y :: ys,j,i + 1,h=>by
  have:=ja (many:=many) (fk:=fk) ys (j + 1) i (by simpa using h)
  show _ ++ yL many fk (j + 1) (ys.take (i + 1)) = _
  rw [this,show j + 1 + i = j + (i + 1) by omega,<- List.append_assoc]
  rfl
theorem vT (many:Nat) (fk:List (Key × V)):∀ (rows:List Rw) (i:Nat),(yL many fk i rows).length<=rows.length
 | [],_=>Nat.le_refl _
 | r :: rs,i=>by
  have:=vT many fk rs (i + 1)
  show (_ ++ yL many fk (i + 1) rs).length<=rs.length + 1
  rw [List.length_append]
  split
  ·rw [List.length_singleton]; omega
  ·rw [List.length_nil]; omega
theorem zcV {r:Rw} {i many:Nat} {fk:List (Key × V)} (h:zbT fk):(qz r i many fk).all xf = true:=by
 unfold qz
 split
 ·rfl
 ·split
  next h2=>
   obtain ⟨v,hv⟩:=Option.isSome_iff_exists.mp h2.2
   rw [hv]
   show (true && (xf v && true)) = true
   rw [h _ _ hv]
   rfl
  ·rfl
def zb6 (c:C5) (CF:Addr):Sp:=fun vs H Q _=>∃ (f d:Addr) (many:Nat) (rows:List Rw) (bars:List Str) (fk:List (Key × V)),vs = [.ref f,.int (many:Nat),.ref d]/\rows.length<=500/\(∀ r ∈ rows,r.ok)/\y8 c CF H f rows bars/\Rd H d (.dK fk)/\zbT fk/\∀ (l:Addr) (H':Hp),zl H H'->zaV H H' l (yL many fk 0 rows)->Q (.ref l) H'
theorem zl.rd {H H':Hp} {a:Addr} {u:HO} (s:zl H H') (h:Rd H a u):Rd H' a u:=h.elim (fun e=>.inl (s _ _ e)) fun ⟨o,e⟩=>.inr ⟨o,s _ _ e⟩
section
variable {P:Program} {w:World} {K:Frag} {mg:Str->Option Value} {base:Heap} {f CF:Addr} {fd:FuncData} {c:C5} {m:MA}
theorem zi2:([Str.ofString "number"]:List Str).Nodup:=by decide +kernel
theorem zft:zm ["form","many"] ["form","many"] (zg zbh):=⟨rfl,rfl,rfl,by decide +kernel,rfl,by decide +kernel,by decide +kernel⟩
theorem zer {gT gP:Addr} {eT eP:FuncData} (F:Fun K "overs" "overs" zbh f fd) (hran:mg "range" = none) (FK:FC K CF) (mT:yN K CF "tail" gT) (GT:zp P w K mg base CX0 1 gT eT ["self"] (w9 c CF 2)) (bT:zQ K eT ["self"] []) (mP:yN K CF "places" gP) (GP:zp P w K mg base CX0 1 gP eP ["self"] (xT c CF)) (bP:zQ K eP ["self"] []) :
  zp P w K mg base CX0 2 f fd ["form","many"] (zb5 c CF):=by
 refine F.ok zft (fun vs H Q E h=>?_) (fun cdv A outer s H vs Q E hr h=>?_)
 ·obtain ⟨f,many,rows,bars,rfl,_⟩:=h
  rfl
 obtain ⟨f,many,rows,bars,rfl,lm,l5,hF,q⟩:=h
 refine ⟨_,zi (zP (x9 (ur (yn (pv 0) FK.cl mT GT hr bT .nil yc))) (zd (zq (zY zb))) zH)
  (zd (zq (xL [] ["number"] [none] rfl ⟨rfl,rfl,rfl,rfl⟩ (zcQ rfl hran (ac (yn (pv 0) FK.cl mP GP hr bP .nil yc) (ac (pv 1) zb))) (z9 0) rfl rfl rfl
   (fun pins fp s H C=>⟨zk (i:=0) zi2 rfl (Or.inl rfl) (.inr rfl),yI,zN (ac zr (ac (pv 0) zb))⟩)))),?_⟩
 obtain ⟨dx,fs,lr,lb,ld,ps,h1,h2,h3,h4,h5,h6⟩:=id hF
 have nmT:fs.lookup ("tail" : Str) = none:=h2.no _ (by decide +kernel)
 have nmP:fs.lookup ("places" : Str) = none:=h2.no _ (by decide +kernel)
 refine ⟨_,rfl,f,dx,fs,rfl,h1,nmT,f,rows,bars,rfl,hF,?_⟩
 refine ⟨_,rfl,?_⟩
 cases e:zE 2 0 rows with
 | some i=>
  have ef:wp rows many = []:=by unfold wp; rw [e]; rfl
  have ne:(!decide (xr (some i) = V.non)) = true:=rfl
  rw [if_pos ne]
  refine ⟨zz0,fun l hl=>?_⟩
  exact q l _ (zc hl _) ⟨[],hl,za,by rw [ef]; exact .nil⟩
 | none=>
  have ef:wp rows many = (List.range (many - plN rows)).map fun i=>((("over" : Str),plN rows + i):Str × Nat):=by unfold wp; rw [e]; rfl
  refine y6 ?_
  have lp:plN rows<=500:=Nat.le_trans (List.length_filter_le _ _) l5
  refine ⟨_,rfl,f,dx,fs,rfl,h1,nmP,f,rows,bars,rfl,hF,_,rfl,(plN rows:Nat),(many:Nat),rfl,⟨by omega,by omega,by omega,by omega⟩,fun D hD=>?_⟩
  have en:((many:Int) - (plN rows:Int)).toNat = many - plN rows:=by omega
  refine uZ (n:=((many:Int) - (plN rows:Int)).toNat) (fun i ys H'=>∃ us,ys = us.map V.ref/\zl H H'/\H' D = some (.lst ys)/\xI H' us ((List.range i).map fun i=>((("over" : Str),plN rows + i):Str × Nat))) ⟨[],rfl,zc hD _,za,.nil⟩ ?_ ?_
  ·rintro i ys H' hi ⟨us,rfl,sH,hDy,hm⟩
   have lu:us.length = i:=by rw [hm.length,List.length_map,List.length_range]
   refine ⟨fun _=>?_,fun e=>Bool.noConfusion e⟩
   refine ⟨_,rfl,zz2,fun t ht=>?_⟩
   have s2:=zc ht (.tup [.str "over",.int ((plN rows:Int) + (i:Int))])
   have hDy2:=s2 _ _ hDy
   refine lcN.mk hi (ym (by omega)) hDy2 (by rw [List.length_map,lu]; exact Nat.le_refl _) ⟨us ++ [t],by rw [List.map_append]; rfl,fun b' u' e'=>?_,za,?_⟩
   ·rw [zf (ze e' hD)]
    exact s2 _ _ (sH _ _ e')
   ·rw [List.range_succ,List.map_append]
    have hu:MA1 (upd H' t (.tup [.str "over",.int ((plN rows:Int) + (i:Int))])) t ("over",plN rows + i):=by
     show upd H' t _ t = _
     rw [za]
     rfl
    exact ((hm.same s2).snoc hu).upd hDy2
  ·rintro ys H' ⟨us,rfl,sH,hDy,hm⟩
   rw [en,<- ef] at hm
   exact q D H' sH ⟨us,hD,hDy,hm⟩
theorem zhi:zm ["parameter","number","many","firsts"] ["parameter","number","many","firsts"] (zg zdR):=⟨rfl,rfl,rfl,by decide +kernel,rfl,by decide +kernel,by decide +kernel⟩
theorem zfW {gp gb:FuncData} (F:Fun K "one_entry" "one_entry" zdR f fd) (PP:Pcs K m c) (GP:zp P w K mg base CX0 1 m.fP gp ["self"] (uE K m bpL)) (bP:zQ K gp ["self"] []) (GB:zp P w K mg base CX0 1 m.fB gb ["self"] (uE K m bnL)) (bB:zQ K gb ["self"] []) :
  zp P w K mg base CX0 2 f fd ["parameter","number","many","firsts"] (zdx c):=by
 refine F.ok zhi (fun vs H Q E h=>?_) (fun cdv A outer s H vs Q E hr h=>?_)
 ·obtain ⟨p,d,i,many,r,fk,rfl,_⟩:=h
  rfl
 obtain ⟨p,d,i,many,r,fk,rfl,⟨dx,hp⟩,rok,hd,q⟩:=h
 have hu1:=zaJ hr
 have C:=PP r.k rok.1
 refine ⟨_,zi (zP (PW.pt (xh (xi (yn (pv 0) C.cl C.mP GP hr bP .nil yc)) (yO (zn ua (pv 1) (pv 2) (zD _))))) (zd (zq (zN (ac zr (ac (pv 1) zb))))) zH)
  (zi (zP (PW.pt (xh (xi (yn (pv 0) C.cl C.mB GB hr bB .nil yc)) (yO (x9 (zhQ hu1 (yr (pv 0) rfl) (pv 3)))))) (zd (zq (zN (ac zr (ac (zck hu1 (pv 3) (yr (pv 0) rfl) (fun _ _=>rfl)) zb))))) zH)
  (zd (zq (zN (ac zr zb))))),?_⟩
 have nP:(pr r).lookup ("by_place" : Str) = none:=vq (by decide +kernel) (by decide +kernel) (by decide +kernel)
 have nB:(pr r).lookup ("by_name" : Str) = none:=vq (by decide +kernel) (by decide +kernel) (by decide +kernel)
 try dsimp only
 refine wK (fun σ' H'=>σ' = [some (.ref p),some (.int (i:Nat)),some (.int (many:Nat)),some (.ref d)]/\H' = H/\¬ (y7 r.k = true/\i < many)) ?_ (fun key=>?_)
 rotate_left
 ·refine ⟨_,rfl,p,dx,_,rfl,hp,nP,p,dx,_,_,_,_,rfl,C,hp,_,rfl,?_⟩
  rw [zgW r.k rok.1]
  cases eb:y7 r.k with
  | false=>
   refine y6 ?_
   refine y6 ?_
   exact key _ _ ⟨rfl,rfl,by rw [eb]; exact fun z=>Bool.noConfusion z.1⟩
  | true=>
   refine wC ?_
   refine ⟨_,rfl,_,rfl,_,_,rfl,rfl,_,rfl,?_⟩
   refine vW (fun c1=>?_) (fun c1=>?_)
   ·have hlt:i < many:=by
     have:=of_decide_eq_true c1
     omega
    refine ⟨_,rfl,zz2,fun t ht=>?_⟩
    exact q t _ (zc ht _) (by rw [za]; unfold qz; rw [if_pos ⟨eb,hlt⟩])
   ·have hlt:¬ i < many:=fun h=>c1 (decide_eq_true (by show (i:Int) < (many:Int); omega))
    exact key _ _ ⟨rfl,rfl,fun z=>hlt z.2⟩
 rintro σ1 H1 ⟨rfl,rfl,nn⟩
 have e1:qz r i many fk = (if z3 r.k = true/\(zA fk (.inr r.z)).isSome = true then [.str "name",(zA fk (.inr r.z)).getD .non] else [.str "free"]):=by unfold qz; rw [if_neg nn]
 try dsimp only
 refine wK (fun σ' H'=>σ' = [some (.ref p),some (.int (i:Nat)),some (.int (many:Nat)),some (.ref d)]/\H' = H1/\¬ (z3 r.k = true/\(zA fk (.inr r.z)).isSome = true)) ?_ (fun key=>?_)
 rotate_left
 ·refine ⟨_,rfl,p,dx,_,rfl,hp,nB,p,dx,_,_,_,_,rfl,C,hp,_,rfl,?_⟩
  rw [jS r.k rok.1]
  cases eb:z3 r.k with
  | false=>
   refine y6 ?_
   refine y6 ?_
   exact key _ _ ⟨rfl,rfl,by rw [eb]; exact fun z=>Bool.noConfusion z.1⟩
  | true=>
   refine wC ?_
   refine ⟨_,rfl,p,_,dx,_,_,rfl,hp,C.cl,C.nN,wc,_,rfl,d,_,rfl,.inl ⟨fk,.inr r.z,hd,rfl,rfl⟩,_,rfl,?_⟩
   refine vW (fun c1=>?_) (fun c1=>?_)
   ·obtain ⟨v,hv⟩:=Option.isSome_iff_exists.mp c1
    refine ⟨_,rfl,_,rfl,p,_,dx,_,_,rfl,hp,C.cl,C.nN,wc,d,v,rfl,.inl ⟨fk,.inr r.z,hd,rfl,hv.symm⟩,zz2,fun t ht=>?_⟩
    exact q t _ (zc ht _) (by rw [za,e1,if_pos ⟨eb,c1⟩,hv]; rfl)
   ·exact key _ _ ⟨rfl,rfl,fun z=>c1 z.2⟩
 rintro σ2 H2 ⟨rfl,rfl,nn2⟩
 refine ⟨zz1,fun t ht=>?_⟩
 exact q t _ (zc ht _) (by rw [za,e1,if_neg nn2])
theorem uq:zm ["form","many","firsts","found","number","parameter"] ["form","many","firsts"] (zg zdW):=⟨rfl,rfl,rfl,by decide +kernel,rfl,by decide +kernel,by decide +kernel⟩
theorem zev {g gP:Addr} {gd gf eP:FuncData} (F:Fun K "lackings" "lackings" zdW f fd) (hen:mg "enumerate" = none) (PP:Pcs K m c) (FK:FC K CF) (mP:yN K CF "parameters" gP) (GP:zp P w K mg base CX0 1 gP eP ["self"] (vL c CF)) (bP:zQ K eP ["self"] [])
  (GF:zp P w K mg base CX0 1 m.fF gf ["self"] (qh K m)) (bF:zQ K gf ["self"] []) (cE1:zv P w K mg base 2 "one_entry" g gd ["parameter","number","many","firsts"] (zdx c)):zp P w K mg base CX0 3 f fd ["form","many","firsts"] (zb6 c CF):=by
 refine F.ok uq (fun vs H Q E h=>?_) (fun cdv A outer s H vs Q E hr h=>?_)
 ·obtain ⟨f,d,many,rows,bars,fk,rfl,_⟩:=h
  rfl
 obtain ⟨f,d,many,rows,bars,fk,rfl,l5,hok,hF,hd,hfl,q⟩:=h
 have hr1:yb 1 _:=hr.mono (by decide)
 have hU:=hr.units
 have hO:∀ C,Cs5 c C->Cls K C/\yN K C "free" m.fF:=fun C ⟨k,hk,e⟩=>by rw [e]; exact ⟨(PP k hk).cl,(PP k hk).mF⟩
 refine ⟨_,zi (zt (i:=3) uq.nd rfl (Or.inl rfl) (zY zb))
  (zi (yz PassesOwn.never rfl (wP rfl hen (ac (yn (pv 0) FK.cl mP GP hr1 bP .nil yc) zb)) (yA rfl (zo (zk (i:=4) uq.nd rfl (Or.inl rfl)) (zo (zk (i:=5) uq.nd rfl (Or.inl rfl)) yh)))
   (zd (zP (PW.pt (xh (wx (xi (xz (pv 5) hO GF hr1 bF yc))) (yO (zn (zej hU) (cF cE1 hr (ac (pv 5) (ac (pv 4) (ac (pv 1) (ac (pv 2) zb))))) (zN (ac zr zb)) (zD _)))))
    (zd (zB (yv PySem.F.plainAttrs_list PySem.F.slot_list_append PySem.F.type_list_append zG (pv 3) (ac (zN (ac zr (ac (pv 4) zb))) zb)))) zH)))
  (zd (zq (pv 3)))),?_⟩
 refine ⟨zz0,fun l hl=>?_⟩
 have s1:=zc hl (.lst [])
 have e1:upd H l (.lst []) l = some (.lst []):=za
 show vK _ _ _ _ (upd H l (.lst []))
 generalize upd H l (.lst []) = H1 at s1 e1 |-
 obtain ⟨dx,fs,lr,lb,ld,ps0,h1,h2,h3,h4,h5,h6⟩:=id hF
 have nmP:fs.lookup ("parameters" : Str) = none:=h2.no _ (by decide +kernel)
 refine ⟨_,rfl,f,dx,fs,rfl,s1 _ _ h1,nmP,f,rows,bars,rfl,hF.same s1,fun lp ps H2 s2 np ep hps=>?_⟩
 have e2:=s2 _ _ e1
 have nlp:lp ≠ l:=Ne.symm (ze e1 np)
 have nd:∀ {b:Addr} {u:HO},H b = some u->b ≠ l:=fun e=>ze e hl
 have s12:=s1.trans s2
 have sHl:∀ {H':Hp},(∀ b u,H2 b = some u->b ≠ l->H' b = some u)->zl H H':=fun k b u e=>k b u (s12 _ _ e) (nd e)
 refine ⟨lp,rfl,⟨_,SqL.of ep⟩,vG (K:=K) (a:=lp) (xs:=ps.map V.ref) (fun i σ H'=>∃ (us:List Addr) (v4 v5:Option V),σ = [some (.ref f),some (.int (many:Nat)),some (.ref d),some (.ref l),v4,v5]/\(∀ b u,H2 b = some u->b ≠ l->H' b = some u)/\H' l = some (.lst (us.map V.ref))/\xI H' us (yL many fk 0 (rows.take i)))
  ⟨[],_,_,rfl,fun _ _ e _=>e,e2,.nil⟩ (fun i σ H' _ ⟨_,_,_,_,sH,_⟩=>SqL.of (sH _ _ ep nlp)) ?_ ?_⟩
 ·rintro i x p σ H' hx ⟨us,v4,v5,rfl,sH,hl',hm⟩ hpn
  obtain ⟨pa,hpa,rfl⟩:=xp hx
  obtain ⟨r,hr',dx',hdx⟩:=yt hps hpa
  have rok:=hok r (List.mem_of_getElem? hr')
  have C:=PP r.k rok.1
  have hi:i < rows.length:=(List.getElem?_eq_some_iff.mp hr').1
  have npa:pa ≠ l:=xl hdx e2 (by intro z; cases z)
  have tk:=ja (many:=many) (fk:=fk) rows 0 i hr'
  rw [Nat.zero_add] at tk
  have sp:=zc hpn (.tup [.int (i:Nat),.ref pa])
  have lu:us.length<=i:=by
   rw [hm.length]
   refine Nat.le_trans (vT _ _ _ _) ?_
   rw [List.length_take]
   omega
  have sH1:∀ b u,H2 b = some u->b ≠ l->upd H' p (.tup [.int (i:Nat),.ref pa]) b = some u:=fun b u e n=>sp _ _ (sH b u e n)
  have hl1:=sp _ _ hl'
  have hm1:=hm.same sp
  refine ⟨p,_,rfl,SqT.of za,rfl,_,_,rfl,_,_,rfl,rfl,?_⟩
  generalize upd H' p (.tup [.int (i:Nat),.ref pa]) = H3 at sH1 hl1 hm1 |-
  have hd3:=sH1 _ _ hdx npa
  refine ⟨_,rfl,pa,_,dx',_,rfl,⟨r.k,rok.1,rfl⟩,hd3,vq (by decide +kernel) (by decide +kernel) (by decide +kernel),pa,dx',_,_,_,_,rfl,C,hd3,_,rfl,?_⟩
  cases ef:fr r.k r.b with
  | true=>
   have il:z6 r i many fk = false:=by unfold z6; rw [ef]; rfl
   rw [il,if_neg Bool.false_ne_true,List.append_nil] at tk
   refine y6 ?_
   refine y6 ?_
   exact ⟨us,_,_,rfl,sH1,hl1,by rw [tk]; exact hm1⟩
  | false=>
   refine wC ?_
   refine ⟨_,rfl,_,rfl,_,rfl,_,rfl,pa,d,i,many,r,fk,rfl,⟨dx',hd3⟩,rok,zl.rd (sHl sH1) hd,fun u H4 s4 e4=>?_⟩
   refine ⟨zz1,fun t ht=>?_⟩
   have s5:=zc ht (.tup [.str "free"])
   refine ⟨u,t,_,_,rfl,rfl,SqT.of (s5 _ _ e4),SqT.of za,zcV hfl,rfl,_,rfl,?_⟩
   have s45:=s4.trans s5
   have il:z6 r i many fk = L2.eqT (qz r i many fk) [.str "free"]:=by unfold z6; rw [ef]; rfl
   rw [<- il]
   generalize upd H4 t (.tup [.str "free"]) = H5 at s5 s45 |-
   have hl5:=s45 _ _ hl1
   have sH5:∀ b u,H2 b = some u->b ≠ l->H5 b = some u:=fun b u e n=>s45 _ _ (sH1 b u e n)
   refine vW (fun c1=>?_) (fun c1=>?_)
   ·rw [c1,if_pos rfl] at tk
    refine ⟨_,rfl,.inl ⟨rfl,_,SqL.of hl5⟩,_,rfl,zz2,fun t2 ht2=>?_⟩
    have s6:=zc ht2 (.tup [.str "lacking",.int (i:Nat)])
    have hl6:=s6 _ _ hl5
    have hu2:MA1 (upd H5 t2 (.tup [.str "lacking",.int (i:Nat)])) t2 ("lacking",i):=by
     show upd H5 t2 _ t2 = _
     rw [za]
    refine ⟨l,_,.ref t2,rfl,rfl,hl6,zx (by rw [List.length_map]; omega),?_⟩
    refine ⟨us ++ [t2],_,_,rfl,fun b u e n=>?_,by rw [za,List.map_append]; rfl,?_⟩
    ·rw [zf n]
     exact s6 _ _ (sH5 b u e n)
    ·rw [tk]
     exact (((hm1.same s45).same s6).snoc hu2).upd hl6
   ·have c2:z6 r i many fk = false:=by
     cases e:z6 r i many fk with
     | false=>rfl
     | true=>exact absurd e c1
    rw [c2,if_neg Bool.false_ne_true,List.append_nil] at tk
    exact ⟨us,_,_,rfl,sH5,hl5,by rw [tk]; exact hm1.same s45⟩
 ·rintro σ H' ⟨us,v4,v5,rfl,sH,hl',hm⟩
  rw [List.length_map,hps.length,List.take_length] at hm
  exact ⟨_,rfl,q l H' (sHl sH) ⟨us,hl,hl',hm⟩⟩
end
def fpF:Nat->List (Str × Nat)->List Str->List (Str × Nat)
 | _,acc,[]=>acc
 | i,acc,z :: zs=>fpF (i + 1) (if (acc.any fun p=>decide (p.1 = z)) = true then acc else acc ++ [(z,i)]) zs
def kvP (fp:List (Str × Nat)):List (Key × V):=fp.map fun p=>(.inr p.1,.int (p.2:Nat))
theorem xu (fp:List (Str × Nat)) (z:Str):(zA (kvP fp) (.inr z)).isSome = fp.any fun p=>decide (p.1 = z):=by
 rw [<- xa]
 unfold kvP
 rw [List.any_map]
 congr 1
 funext p
 show decide ((Sum.inr p.1:Key) = Sum.inr z) = decide (p.1 = z)
 exact zeL _ _
theorem zbJ:∀ (zs:List Str) (i:Nat) (acc:List (Str × Nat)),wU i (kvP acc) zs = kvP (fpF i acc zs)
 | [],_,_=>rfl
 | z :: zs,i,acc=>by
  show wU (i + 1) (if (zA (kvP acc) (.inr z)).isSome = true then kvP acc else yq (kvP acc) (.inr z) (.int i)) zs = kvP (fpF (i + 1) (if (acc.any fun p=>decide (p.1 = z)) = true then acc else acc ++ [(z,i)]) zs)
  rw [xu]
  cases e:acc.any fun p=>decide (p.1 = z) with
  | true=>exact zbJ zs (i + 1) acc
  | false=>
   have e2:yq (kvP acc) (.inr z) (.int (i:Nat)) = kvP (acc ++ [(z,i)]):=by
    unfold yq
    rw [xa,xu,e,if_neg Bool.false_ne_true]
    unfold kvP
    rw [List.map_append]
    rfl
   rw [if_neg Bool.false_ne_true,if_neg Bool.false_ne_true,e2]
   exact zbJ zs (i + 1) _
theorem ut {fp:List (Str × Nat)} {k:Key} {v:V} (h:zA (kvP fp) k = some v):∃ (z:Str) (j:Nat),k = .inr z/\v = .int (j:Nat)/\(z,j) ∈ fp:=by
 unfold zA at h
 cases e:(kvP fp).find? fun kv=>decide (kv.1 = k) with
 | none=>rw [e] at h; cases h
 | some kv=>
  rw [e] at h
  have hm:=List.mem_of_find?_eq_some e
  have hk:=List.find?_some e
  unfold kvP at hm
  obtain ⟨p,hp,rfl⟩:=List.mem_map.mp hm
  exact ⟨p.1,p.2,(of_decide_eq_true hk).symm,(Option.some.inj h).symm,hp⟩
theorem zgs (fp:List (Str × Nat)):zbT (kvP fp):=fun k v h=>by
 obtain ⟨z,j,_,rfl,_⟩:=ut h
 rfl
theorem zcu {z:Str}:∀ (zs:List Str) (i:Nat) (acc:List (Str × Nat)),(acc.any fun p=>decide (p.1 = z)) = true->((fpF i acc zs).any fun p=>decide (p.1 = z)) = true
 | [],_,_,h=>h
 | y :: ys,i,acc,h=>by
  show ((fpF (i + 1) _ ys).any _) = true
  refine zcu ys (i + 1) _ ?_
  split
  ·exact h
  ·rw [List.any_append,h]; rfl
theorem zbK {z:Str}:∀ (zs:List Str) (i:Nat) (acc:List (Str × Nat)),z ∈ zs->((fpF i acc zs).any fun p=>decide (p.1 = z)) = true
 | [],_,_,h=>by cases h
 | y :: ys,i,acc,h=>by
  show ((fpF (i + 1) _ ys).any _) = true
  rcases List.mem_cons.mp h with rfl | h
  ·refine zcu ys (i + 1) _ ?_
   split
   next e=>exact e
   ·rw [List.any_append]
    simp
  ·exact zbK ys (i + 1) _ h
def fpZ (zs:List Str):List (Str × Nat):=fpF 0 [] zs
theorem zjf (zs:List Str):wU 0 [] zs = kvP (fpZ zs):=zbJ zs 0 []
def xG (fk:List (Key × V)):Nat->List Str->List (Str × Nat)
 | _,[]=>[]
 | i,z :: zs=>(if zA fk (.inr z) = some (.int (i:Nat)) then [] else [(("doubled" : Str),i)]) ++ xG fk (i + 1) zs
theorem j0 {fk:List (Key × V)} {z:Str}:∀ (zs:List Str) (j i:Nat),zs[i]? = some z->xG fk j (zs.take (i + 1)) = xG fk j (zs.take i) ++ (if zA fk (.inr z) = some (.int (j + i:Nat)) then [] else [(("doubled" : Str),j + i)])
 | [],_,_,h=>by simp at h
 | y :: ys,j,0,h=>by
  have e:y = z:=by simpa using h
  subst e
  show (_ ++ []) = [] ++ _
  rw [List.append_nil,List.nil_append]
  rfl
 | y :: ys,j,i + 1,h=>by
  have:=j0 (fk:=fk) ys (j + 1) i (by simpa using h)
  show _ ++ xG fk (j + 1) (ys.take (i + 1)) = _
  rw [this,show j + 1 + i = j + (i + 1) by omega,<- List.append_assoc]
  rfl
theorem jn (fk:List (Key × V)):∀ (zs:List Str) (i:Nat),(xG fk i zs).length<=zs.length
 | [],_=>Nat.le_refl _
 | r :: rs,i=>by
  have:=jn fk rs (i + 1)
  show (_ ++ xG fk (i + 1) rs).length<=rs.length + 1
  rw [List.length_append]
  split
  ·rw [List.length_nil]; omega
  ·rw [List.length_singleton]; omega
def ya (rows:List Rw) (bars:List Str) (many:Nat) (z:Str):Option Str:=
 if z ∈ bars then some "barred" else match lastD' z rows with
  | none=>if (zE 4 0 rows).isSome = true then none else some "strange"
  | some l=>if l < plN rows/\l < many then some "again" else none
where lastD' (z:Str) (rows:List Rw):Option Nat:=match zA (yB 0 [] rows) (.inr z) with
 | some (.int i)=>some i.toNat
 | _=>none
def wt (rows:List Rw) (bars:List Str) (many:Nat) (fp:List (Str × Nat)):List (Str × Nat):=fp.filterMap fun p=>(ya rows bars many p.1).map fun wd=>(wd,p.2)
def zV (rows:List Rw) (bars:List Str) (many:Nat) (zs:List Str):List (Str × Nat):=xG (kvP (fpZ zs)) 0 zs ++ wp rows many ++ wt rows bars many (fpZ zs) ++ yL many (kvP (fpZ zs)) 0 rows
def zgK (c:C5) (CF:Addr):Sp:=fun vs H Q _=>∃ (f d:Addr) (o:Obj) (many:Nat) (rows:List Rw) (bars:List Str) (fp:List (Str × Nat)),vs = [.ref f,.int (many:Nat),.ref d]/\rows.length<=500/\bars.length<=500/\fp.length<=900/\y8 c CF H f rows bars/\H d = some (.frz o (.dK (kvP fp)))/\∀ (l:Addr) (H':Hp),zl H H'->zaV H H' l (wt rows bars many fp)->Q (.ref l) H'
def zdB (c:C5) (CF:Addr):Sp:=fun vs H Q _=>∃ (f a:Addr) (many:Nat) (rows:List Rw) (bars zs:List Str),vs = [.ref f,.int (many:Nat),.ref a]/\rows.length<=500/\bars.length<=500/\many<=900/\zs.length<=900/\(∀ r ∈ rows,r.ok)/\y8 c CF H f rows bars/\H a = some (.lst (zs.map V.str))/\∀ (l:Addr) (H':Hp),zl H H'->zaV H H' l (zV rows bars many zs)->Q (.ref l) H'
theorem qE:∀ (zs:List Str) (i:Nat) (acc:List (Str × Nat)),(fpF i acc zs).length<=acc.length + zs.length
 | [],_,_=>Nat.le_refl _
 | z :: zs,i,acc=>by
  have h:=qE zs (i + 1) (if (acc.any fun p=>decide (p.1 = z)) = true then acc else acc ++ [(z,i)])
  have h2:(if (acc.any fun p=>decide (p.1 = z)) = true then acc else acc ++ [(z,i)]).length<=acc.length + 1:=by
   split
   ·omega
   ·rw [List.length_append]; exact Nat.le_refl _
  show (fpF (i + 1) _ zs).length<=acc.length + (zs.length + 1)
  omega
theorem xI.app {H:Hp} {us vs:List Addr} {ms ns:List (Str × Nat)} (h:xI H us ms) (h':xI H vs ns):xI H (us ++ vs) (ms ++ ns):=yk h h'
section
variable {P:Program} {w:World} {K:Frag} {mg:Str->Option Value} {base:Heap} {f CF:Addr} {fd:FuncData} {c:C5} {m:MA}
theorem zi4:([Str.ofString "number",Str.ofString "name",Str.ofString "firsts"]:List Str).Nodup:=by decide +kernel
theorem zdI:zm ["form","many","names","firsts","doubled"] ["form","many","names"] (zg zhA):=⟨rfl,rfl,rfl,by decide +kernel,rfl,by decide +kernel,by decide +kernel⟩
theorem zhY {g1 g2 g3 g4:Addr} {d1 d2 d3 d4:FuncData} (F:Fun K "misfits_of" "misfits_of" zhA f fd) (hen:mg "enumerate" = none) (c1:zv P w K mg base 1 "first_numbers" g1 d1 ["names"] qZ) (c2:zv P w K mg base 2 "overs" g2 d2 ["form","many"] (zb5 c CF)) (c3:zv P w K mg base 2 "unwelcomes" g3 d3 ["form","many","firsts"] (zgK c CF)) (c4:zv P w K mg base 3 "lackings" g4 d4 ["form","many","firsts"] (zb6 c CF)) :
  zp P w K mg base CX0 4 f fd ["form","many","names"] (zdB c CF):=by
 refine F.ok zdI (fun vs H Q E h=>?_) (fun cdv A outer s H vs Q E hr h=>?_)
 ·obtain ⟨f,a,many,rows,bars,zs,rfl,_⟩:=h
  rfl
 obtain ⟨f,a,many,rows,bars,zs,rfl,l5,lb5,lm,lz,hok,hF,ha,q⟩:=h
 have hr1:yb 1 _:=hr.mono (by decide)
 have hr2:yb 2 _:=hr.mono (by decide)
 have hu1:=zaJ hr
 refine ⟨_,zi (zt (i:=3) zdI.nd rfl (Or.inr rfl) (cF c1 hr1 (ac (pv 2) zb)))
  (zi (zch (i:=4) ["firsts"] ["number","name","firsts"] [none,none,some 3] zdI.nd rfl (Or.inl rfl) rfl ⟨rfl,rfl,rfl,rfl⟩ (wP rfl hen (ac (pv 2) zb)) (wQ (K:=K) (n:=2) 0 1) rfl rfl rfl
   (fun pins fp s H C=>⟨yA rfl (zo (zk (i:=0) zi4 rfl (Or.inl rfl) (.inr rfl)) (zo (zk (i:=1) zi4 rfl (Or.inl rfl) (.inr rfl)) yh)),wN (zn zgU (zck hu1 (pv 2) (pv 1) (fun _ _=>rfl)) (pv 0) (zD _)),zN (ac zr (ac (pv 0) zb))⟩))
  (zd (zq (zy xB (zy xB (zy xB (pv 4) (cF c2 hr2 (ac (pv 0) (ac (pv 1) zb)))) (cF c3 hr2 (ac (pv 0) (ac (pv 1) (ac (pv 3) zb))))) (cF c4 hr (ac (pv 0) (ac (pv 1) (ac (pv 3) zb)))))))),?_⟩
 refine ⟨_,rfl,a,zs,rfl,ha,lz,fun d o H1 s1 hd0 hd1=>?_⟩
 rw [zjf] at hd1
 have lfp:(fpZ zs).length<=900:=by
  have:=qE zs 0 []
  show (fpF 0 [] zs).length<=900
  simp at this
  omega
 generalize hfp:fpZ zs = fp at hd1 lfp
 refine ⟨_,rfl,a,rfl,⟨_,SqL.of (s1 _ _ ha)⟩,fun D hD=>?_⟩
 refine zgj (K:=K) (xs:=zs.map V.str) (fun i ys H'=>∃ us,ys = us.map V.ref/\zl H1 H'/\H' D = some (.lst ys)/\xI H' us (xG (kvP fp) 0 (zs.take i))) ⟨[],rfl,zc hD _,za,.nil⟩ (fun i ys H' ⟨_,_,h,_⟩=>SqL.of (h _ _ (s1 _ _ ha))) ?_ ?_
 ·rintro i x p ys H' hlt hx ⟨us,rfl,sH,hDy,hm⟩ hpn
  obtain ⟨z,hz,rfl⟩:=strs_at hx
  have hi:i < zs.length:=(List.getElem?_eq_some_iff.mp hz).1
  have tk:=j0 (fk:=kvP fp) zs 0 i hz
  rw [Nat.zero_add] at tk
  have sp:=zc hpn (.tup [.int (i:Nat),.str z])
  have lu:us.length<=i:=by
   rw [hm.length]
   refine Nat.le_trans (jn _ _ _) ?_
   rw [List.length_take]
   omega
  have hsome:(zA (kvP fp) (.inr z)).isSome = true:=by
   rw [xu,<- hfp]
   exact zbK zs 0 [] (List.mem_of_getElem? hz)
  obtain ⟨v,hv⟩:=Option.isSome_iff_exists.mp hsome
  obtain ⟨_,j,_,rfl,_⟩:=ut hv
  have hd2:=sp _ _ (sH _ _ hd1)
  have hDy2:=sp _ _ hDy
  have hm2:=hm.same sp
  refine ⟨p,_,rfl,SqT.of za,rfl,_,_,rfl,_,_,rfl,rfl,?_⟩
  have sA:=sH.trans sp
  generalize upd H' p (.tup [.int (i:Nat),.str z]) = H3 at sp hd2 hDy2 hm2 sA |-
  refine ⟨_,rfl,_,rfl,d,_,rfl,.inl ⟨_,.inr z,.inr ⟨o,hd2⟩,rfl,hv.symm⟩,_,rfl,rfl,_,rfl,?_⟩
  by_cases ej:j = i
  ·subst ej
   rw [if_pos hv,List.append_nil] at tk
   have ed:(!decide (V.int (j:Nat) = V.int (j:Nat))) = false:=by rw [decide_eq_true rfl]; rfl
   rw [ed]
   exact ⟨fun e=>Bool.noConfusion e,fun _=>lcS.mk hlt ⟨us,rfl,sA,hDy2,by rw [tk]; exact hm2⟩⟩
  ·have nv:¬ zA (kvP fp) (.inr z) = some (.int (i:Nat)):=fun e=>by
    rw [hv] at e
    have:=V.int.inj (Option.some.inj e)
    omega
   rw [if_neg nv] at tk
   have ed:(!decide (V.int (j:Nat) = V.int (i:Nat))) = true:=by
    rw [decide_eq_false (fun e=>by have:=V.int.inj e; omega)]
    rfl
   rw [ed]
   refine ⟨fun _=>?_,fun e=>Bool.noConfusion e⟩
   refine ⟨_,rfl,zz2,fun t ht=>?_⟩
   have s4:=zc ht (.tup [.str "doubled",.int (i:Nat)])
   have hDy4:=s4 _ _ hDy2
   have hu:MA1 (upd H3 t (.tup [.str "doubled",.int (i:Nat)])) t ("doubled",i):=by
    show upd H3 t _ t = _
    rw [za]
   refine lcN.mk hlt (ym (by rw [List.length_map]; omega)) hDy4 (by rw [List.length_map]; exact lu) ⟨us ++ [t],by rw [List.map_append]; rfl,fun b' u' e'=>?_,za,?_⟩
   ·rw [zf (ze e' hD)]
    exact s4 _ _ (sA _ _ e')
   ·rw [tk]
    exact ((hm2.same s4).snoc hu).upd hDy4
 rintro ys H2 ⟨us,rfl,s2,hDy,hm⟩
 rw [List.length_map,List.take_length] at hm
 have s12:=s1.trans s2
 have lov:(wp rows many).length<=900:=by
  unfold wp
  split
  ·exact Nat.zero_le _
  ·rw [List.length_map,List.length_range]; omega
 have lun:(wt rows bars many fp).length<=900:=by
  unfold wt
  exact Nat.le_trans (List.length_filterMap_le _ _) lfp
 have lla:=vT many (kvP fp) rows 0
 have ldb:=jn (kvP fp) zs 0
 have big : 4000<=sizeLine:=by decide
 refine ⟨_,rfl,_,rfl,_,rfl,f,many,rows,bars,rfl,lm,l5,hF.same s12,fun l3 H3 s3 ⟨us3,n3,e3,m3⟩=>?_⟩
 have lu0:=hm.length
 have lu3:=m3.length
 refine ⟨D,l3,_,_,rfl,rfl,s3 _ _ hDy,e3,(by simp only [List.length_map]; omega),fun p4 hp4=>?_⟩
 rw [<- List.map_append]
 have u4:=zc hp4 (.lst ((us ++ us3).map V.ref))
 have e4:upd H3 p4 (.lst ((us ++ us3).map V.ref)) p4 = some (.lst ((us ++ us3).map V.ref)):=za
 have m4:xI (upd H3 p4 (.lst ((us ++ us3).map V.ref))) (us ++ us3) _:=((hm.same s3).app m3).same u4
 generalize upd H3 p4 (.lst ((us ++ us3).map V.ref)) = H4 at u4 e4 m4 |-
 have s24:=s2.trans (s3.trans u4)
 have s14:=s1.trans s24
 refine ⟨_,rfl,_,rfl,_,rfl,f,d,o,many,rows,bars,fp,rfl,l5,lb5,lfp,hF.same s14,s24 _ _ hd1,fun l5' H5 s5 ⟨us5,n5,e5,m5⟩=>?_⟩
 have lu5:=m5.length
 refine ⟨p4,l5',_,_,rfl,rfl,s5 _ _ e4,e5,(by simp only [List.length_map,List.length_append]; omega),fun p6 hp6=>?_⟩
 rw [<- List.map_append]
 have u6:=zc hp6 (.lst ((us ++ us3 ++ us5).map V.ref))
 have e6:upd H5 p6 (.lst ((us ++ us3 ++ us5).map V.ref)) p6 = some (.lst ((us ++ us3 ++ us5).map V.ref)):=za
 have m6:xI (upd H5 p6 (.lst ((us ++ us3 ++ us5).map V.ref))) (us ++ us3 ++ us5) _:=((m4.same s5).app m5).same u6
 generalize upd H5 p6 (.lst ((us ++ us3 ++ us5).map V.ref)) = H6 at u6 e6 m6 |-
 have s26:=s24.trans (s5.trans u6)
 have s16:=s1.trans s26
 refine ⟨_,rfl,_,rfl,_,rfl,f,d,many,rows,bars,kvP fp,rfl,l5,hok,hF.same s16,.inr ⟨o,s26 _ _ hd1⟩,zgs fp,fun l7 H7 s7 ⟨us7,n7,e7,m7⟩=>?_⟩
 have lu7:=m7.length
 refine ⟨p6,l7,_,_,rfl,rfl,s7 _ _ e6,e7,(by simp only [List.length_map,List.length_append]; omega),fun p8 hp8=>?_⟩
 rw [<- List.map_append]
 have u8:=zc hp8 (.lst ((us ++ us3 ++ us5 ++ us7).map V.ref))
 refine q p8 _ (s16.trans (s7.trans u8)) ⟨us ++ us3 ++ us5 ++ us7,(s16.trans s7).free hp8,za,?_⟩
 unfold zV
 rw [hfp]
 exact ((m6.same s7).app m7).same u8
end
end K34
namespace L2
open PySem PySem.Spec PyProof.Rows
def seen (val:Nat->Str) (T:Str->Bool):Nat->Nat->Str->Bool
 | _,0,z=>T z
 | i,k + 1,z=>seen val (fun y=>T y || decide (y = val i)) (i + 1) k z
section
variable {P:Program} {w:World} {A:Around} {R:Result->Shared->Prop} {I:Addr} {fp wr:List Addr} {G:Array GenState->Array GenState->Prop} {n:Nat} {Pr:Nat->Value->Prop} {Sg:Nat->Shared->Prop}
theorem uA (W:WalksS P w A.in1 I fp wr G n Pr Sg) (a:Addr) (ha:a ∉ fp) (val:Nat->Str) (hv:∀ i v,Pr i v->∃ t,v = .str (val i) t) (hb:n + 1 < scanBound) :
  ∀ (k i:Nat) (s:Shared) (T:Str->Bool) (c:Nat),n - i = k->i<=n->Sg i s->c<=i->s.heap.SetOf (strKind P w) a T c->
   (∀ s' c',Moved (a :: wr) G s s'->c'<=n->s'.heap.SetOf (strKind P w) a (seen val T i k) c'->R (.ok (.ret .none)) s')->
   codeAny (model P w) A (.builtin "set.update.loop" ⟨[.ref a,.ref I],[]⟩) R s
 | 0,i,s,T,c,hk,hi,hg,hc,hT,hR=>by
  have hw:a ∉ wr:=fun z=>ha (W.sub _ z)
  have ei:i = n:=by omega
  subst ei
  refine codeAny_builtin PyProof.Rows.F.entry_set_update_loop ?_; rw [Around.under_plainId PyProof.Rows.F.plain_set_update_loop _]
  show wpAny _ A.in1 (pyNext (.ref I) >>= _) _ _ _; refine wpAny_bind (W.done s _ _ hg fun s' hm=>?_)
  show wpAny _ A.in1 (ret Value.none) _ _ _; refine wpAny_pure (hR s' c (hm.mono fun b z=>List.mem_cons_of_mem _ z) hc ?_)
  obtain ⟨ob,es,ep,t,h1,h2⟩:=hT
  exact ⟨ob,es,ep,t,hm.heap a _ hw h1,h2⟩
 | k + 1,i,s,T,c,hk,hi,hg,hc,hT,hR=>by
  have hw:a ∉ wr:=fun z=>ha (W.sub _ z)
  have hlt:i < n:=by omega
  refine codeAny_builtin PyProof.Rows.F.entry_set_update_loop ?_; rw [Around.under_plainId PyProof.Rows.F.plain_set_update_loop _]
  show wpAny _ A.in1 (pyNext (.ref I) >>= _) _ _ _; refine wpAny_bind (W.item i s _ _ hlt hg fun v s' hP hg' hm=>?_)
  obtain ⟨t,rfl⟩:=hv i v hP
  have hT':s'.heap.SetOf (strKind P w) a T c:=by
   obtain ⟨ob,es,ep,tb,h1,h2⟩:=hT
   exact ⟨ob,es,ep,tb,hm.heap a _ hw h1,h2⟩
  show wpAny _ A.in1 (holding [Value.str (val i) t] (setAdd a (.str (val i) t)) >>= _) _ _ s'
  refine wpAny_bind (wpAny_holding ?_); unfold setAdd; refine wpAny_holding ?_
  refine wpAny_bind ((strKind P w).pyHash (k:=val i) (strKind_is _ _ _ _) ?_)
  refine wpAny_setAddHashed_of (knd:=strKind P w) (s:={ s' with toks:=s'.toks + 1 }) (strKind_is _ _ _ _) rfl hT' (by omega) fun h' hsb h3=>?_
  refine wpAny_pure ⟨plainId_quiet PyProof.Rows.F.plain_set_update_loop _,uA W a ha val hv hb k (i + 1) _ _ _ (by omega) hlt (W.frame _ s' _ _ hg' (Nat.le_succ _) fun b hb' o e=>?_) (by split <;> omega) h3 fun s2 c2 hm2 hc2 h4=>?_⟩
  ·have:b ≠ a:=fun z=>ha (z ▸ hb')
   rw [hsb.2 b this]; exact e
  ·refine hR s2 c2 (Moved.trans W.gtrans ((hm.mono fun b z=>List.mem_cons_of_mem _ z).then_heap (Nat.le_succ _) fun b o hb' e=>?_) hm2) hc2 h4
   have:b ≠ a:=fun z=>hb' (z ▸ List.mem_cons_self)
   rw [hsb.2 b this]; exact e
end
abbrev uF (led:Bool):Obj:={ cls:=.type "set",dict:=none,data:=.set #[] 0 (.fresh 0 0 led) }
set_option maxHeartbeats 8000000 in
theorem zbQ {P:Program} {w:World} {A:Around} {E:Value->Shared->Prop} {s:Shared} {l:Addr} {items:Array Value} {zs:List Str} {Q:Value->Shared->Prop}
  (hh:A.handled = none) (hl:s.heap.IsList l items) (hv:∀ (i:Nat) (v:Value),items[i]? = some v->∃ t,v = .str (zs.getD i "") t) (hb:items.size + 1 < scanBound)
  (h:∀ (h':Heap) (tk c:Nat),h'.SetOf (strKind P w) s.heap.objs.size (seen (fun i=>zs.getD i "") (fun _=>false) 0 items.size) c->(∀ b o,b < s.heap.objs.size->s.heap.get? b = some o->h'.get? b = some o)->Q (.ref s.heap.objs.size) { s with heap:=h',toks:=tk }) :
  wpAny (model P w) A (call (.type "set") [.ref l]) Q E s:=by
 obtain ⟨mc,mt,mro⟩:=PySem.F.called_set.mro
 have q1:=PySem.F.called_set.made; have q2:=PySem.F.called_set.sub; have q3:=PySem.F.called_set.notType; have q4:=PySem.F.called_set.canCreate; have q5:=PySem.F.typeCall_set_1 (.ref l)
 refine wpAny_call (codeAny_of_tree ?_); show wpAny _ _ (callAny (.type "set") _) _ _ _
 refine wpAny_pure ⟨Code.quiet_builtin _ (by decide +kernel),codeAny_builtin PySem.F.entry_type_call ?_⟩; rw [Around.under_plain (weight_type_call_type "set" [.ref l] []) rfl]
 repeat (any_goals first | assumption | wp_step)
 refine codeAny_mono (code_set_new_1 (.ref l) (E:=E) (Q₁:=fun obj s₁=>∃ led:Bool,obj = .ref s.heap.objs.size/\s₁ = { s with heap:=s.heap.push (uF led) }) fun led=>⟨led,rfl,rfl⟩) fun r s₁ hr=>?_
 rcases r with e | (_ | _ | _ | obj)
 ·exact hr
 ·exact hr.elim
 ·exact hr.elim
 ·exact hr.elim
 ·obtain ⟨led,rfl,rfl⟩:=hr
  have hS:(s.heap.push (uF led)).get? s.heap.objs.size = some (uF led):=Heap.get?_push_size _ rfl
  have hT:Shared.TypeIs { s with heap:=s.heap.push (uF led) } (.ref s.heap.objs.size) "set":=⟨_,hS,rfl⟩
  have q6:=PySem.F.called_set.init.lookup; have q7:=PySem.F.called_set.init.bind (.ref s.heap.objs.size)
  repeat (any_goals first | assumption | wp_step)
  refine codeAny_mono (codeAny_call_builtin (R:=wants (fun r s₂=>r = .none/\∃ h' tk c,s₂ = { s with heap:=h',toks:=tk }/\h'.SetOf (strKind P w) s.heap.objs.size (seen (fun i=>zs.getD i "") (fun _=>false) 0 items.size) c/\∀ b o,b < s.heap.objs.size->s.heap.get? b = some o->h'.get? b = some o) E) PySem.F.called_set.init.plain PySem.F.entry_set_init (check_set_init_1 hT ?_)) fun r₂ s₂ hr₂=>?_
  ·obtain ⟨ol,hol,hcl,nl,hdl⟩:=id hl
   obtain ⟨ocls,odict,odata,oslots⟩:=ol
   simp only at hcl hdl
   subst hcl hdl
   have hol':(s.heap.push (uF led)).get? l = _:=Heap.get?_push_of_some (uF led) hol
   have t1:=PySem.F.sub_list_set; have t2:=PySem.F.sub_list_frozenset
   have t3:(Value.type "list" == Value.type "dict") = false:=by decide
   have hl1:(s.heap.push (uF led)).IsList l items:=⟨_,hol',rfl,nl,rfl⟩
   have hlS:l < s.heap.objs.size:=Heap.lt_size hol
   unfold Builtin.«set.__init__» noKeywords Builtin.Frozenset.updateFrom
   generalize hq:pyIter = pit
   wp_walk
   subst hq
   refine wpAny_pyIter_list hl1 (wpAny_bind (wpAny_runValue ?_))
   have hz:(s.heap.push (uF led)).objs.size = s.heap.objs.size + 1:=Heap.size_push ..
   have n1:l ≠ (s.heap.push (uF led)).objs.size:=by rw [hz]; exact Nat.ne_of_lt (Nat.lt_succ_of_lt hlS)
   have n2:∀ b:Addr,b < s.heap.objs.size->b ∉ [s.heap.objs.size,(s.heap.push (uF led)).objs.size]:=fun b hb' z=>by
    rw [hz] at z
    rcases List.mem_cons.mp z with e | e
    ·exact Nat.ne_of_lt hb' e
    ·exact Nat.ne_of_lt (Nat.lt_succ_of_lt hb') (List.mem_singleton.mp e)
   have n3:s.heap.objs.size ∉ [(s.heap.push (uF led)).objs.size,l]:=fun z=>by
    rw [hz] at z
    rcases List.mem_cons.mp z with e | e
    ·exact Nat.ne_of_lt (Nat.lt_succ_self _) e
    ·exact Nat.ne_of_gt hlS (List.mem_singleton.mp e)
   refine uA ((Walks.list (by simp [hh]) _ l n1 items).toS) s.heap.objs.size n3 (fun i=>zs.getD i "") hv hb items.size 0 _ (fun _=>false) 0 (by omega) (Nat.zero_le _) ⟨⟨_,Heap.get?_push_size _ rfl,rfl,rfl⟩,hl1.push _⟩ (Nat.le_refl _) ?_ ?_
   ·exact (PyProof.Rows.setObjOf_fresh (knd:=strKind P w) led).setOf (Heap.get?_push_of_some _ hS) (by unfold scanBound; omega)
   ·rintro ⟨h',g',d',tk',os'⟩ c' hm hc' hS'
    have e1:g' = s.gens:=hm.gens
    have e2:d' = s.drawn:=hm.drawn
    have e3:os' = s.os:=hm.os
    subst e1 e2 e3
    show wpAny _ _ _ _ _ _
    refine wpAny_pure ?_; show wpAny _ _ (ret Value.none) _ _ _
    refine wpAny_pure ⟨rfl,h',tk',c',rfl,hS',fun b o hb' e=>hm.heap b o (n2 b hb') (Heap.get?_push_of_some _ (Heap.get?_push_of_some _ e))⟩
  ·rcases r₂ with e | (_ | _ | _ | ob2)
   ·exact hr₂
   ·exact hr₂.elim
   ·exact hr₂.elim
   ·exact hr₂.elim
   ·obtain ⟨rfl,h',tk,c',rfl,hS',hk'⟩:=hr₂
    repeat (any_goals first | assumption | wp_step)
    exact h _ _ _ hS' hk'
theorem zaa (val:Nat->Str) (z:Str):∀ (k i:Nat) (T:Str->Bool),seen val T i k z = true ↔ (T z = true\/∃ j,j < k/\z = val (i + j))
 | 0,i,T=>⟨fun h=>.inl h,fun h=>h.elim id fun ⟨j,hj,_⟩=>absurd hj (Nat.not_lt_zero _)⟩
 | k + 1,i,T=>by
  show seen val (fun y=>T y || decide (y = val i)) (i + 1) k z = true ↔ _
  rw [zaa val z k (i + 1)]
  simp only [Bool.or_eq_true,decide_eq_true_eq]
  constructor
  ·rintro ((h | h) | ⟨j,hj,e⟩)
   ·exact .inl h
   ·exact .inr ⟨0,by omega,h⟩
   ·exact .inr ⟨j + 1,by omega,by rw [show i + (j + 1) = i + 1 + j by omega]; exact e⟩
  ·rintro (h | ⟨j,hj,e⟩)
   ·exact .inl (.inl h)
   ·cases j with
    | zero=>exact .inl (.inr e)
    | succ j=>exact .inr ⟨j,by omega,by rw [show i + 1 + j = i + (j + 1) by omega]; exact e⟩
theorem zdG (zs:List Str) (z:Str):seen (fun i=>zs.getD i "") (fun _=>false) 0 zs.length z = decide (z ∈ zs):=by
 rw [Bool.eq_iff_iff,zaa,decide_eq_true_eq]
 constructor
 ·rintro (h | ⟨j,hj,e⟩)
  ·cases h
  ·rw [e,Nat.zero_add]
   show zs.getD j "" ∈ zs
   rw [List.getD_eq_getElem?_getD,List.getElem?_eq_getElem hj]
   exact List.getElem_mem hj
 ·intro h
  obtain ⟨j,hj,e⟩:=List.mem_iff_getElem.mp h
  refine .inr ⟨j,hj,?_⟩
  rw [Nat.zero_add]
  show z = zs.getD j ""
  rw [List.getD_eq_getElem?_getD,List.getElem?_eq_getElem hj]
  exact e.symm
theorem zJ.strs_at:∀ {zs:List Str} {us:List Value},zJ (zs.map V.str) us->∀ (i:Nat) (v:Value),us[i]? = some v->∃ t,v = .str (zs.getD i "") t
 | [],_,.nil,i,v,h=>by simp at h
 | z :: zs,_,.cons r t,0,v,h=>by
  obtain ⟨tk,e⟩:=r
  have:v = .str z tk:=by rw [<- e]; simpa using h.symm
  exact ⟨tk,this⟩
 | z :: zs,_,.cons r t,i + 1,v,h=>zJ.strs_at t i v (by simpa using h)
theorem zdh {X:Cx} (hc:X.calm = true):yX X (.type "set") (fun xs H Q=>∃ (p:Addr) (zs:List Str),xs = [.ref p]/\SqL X.K H p (zs.map V.str)/\zs.length<=900/\∀ (l:Addr) (n:Nat),H l = none->Q (.ref l) (upd H l (wu X.prog X.w l (fun z=>decide (z ∈ zs)) n))):=by
 intro pins s σ H xs us Q I r h
 obtain ⟨p,zs,rfl,hS,lz,q⟩:=h
 obtain ⟨u,rfl,ru⟩:=wo r
 cases ru
 obtain ⟨its,rv,hp,hz⟩:=I.list hS
 have hl:its.length = zs.length:=by rw [<- rv.length,List.length_map]
 have hb:its.toArray.size + 1 < scanBound:=by
  rw [List.size_toArray,hl]
  have : 1000 < scanBound:=by unfold scanBound; decide
  omega
 refine zbQ (I.ok.hd hc) hp.isList (fun i v e=>rv.strs_at i v (by simpa using e)) hb fun h' tk c hS' hk=>?_
 have hsz:its.toArray.size = zs.length:=by rw [List.size_toArray,hl]
 rw [hsz] at hS'
 have eS:seen (fun i=>zs.getD i "") (fun _=>false) 0 zs.length = fun z=>decide (z ∈ zs):=funext (zdG zs)
 rw [eS] at hS'
 refine ⟨.ref s.heap.objs.size,_,I.laid (t':=tk) (fun b ob e=>hk b ob (Heap.lt_size e) e) (Nat.le_refl _) (qj hS'),rfl,q _ c (I.hok.fresh (Nat.le_refl _))⟩
end L2
namespace K34
open PySem L2 PyProof.Rows
theorem zeZ:∀ (rows:List Rw) (i:Nat) (acc:List (Key × V)) (k:Key) (v:V),(∀ k v,zA acc k = some v->∃ j:Nat,v = .int (j:Nat))->zA (yB i acc rows) k = some v->∃ j:Nat,v = .int (j:Nat)
 | [],_,acc,k,v,h,e=>h k v e
 | r :: rs,i,acc,k,v,h,e=>by
  refine zeZ rs (i + 1) _ k v (fun k v e=>?_) e
  split at e
  ·rw [qS] at e
   split at e
   ·exact ⟨i,(Option.some.inj e).symm⟩
   ·exact h k v e
  ·exact h k v e
theorem zcG {rows:List Rw} {bars:List Str} {many:Nat} {fp:List (Str × Nat)} {i:Nat} {p:Str × Nat} (h:fp[i]? = some p):wt rows bars many (fp.take (i + 1)) = wt rows bars many (fp.take i) ++ (match ya rows bars many p.1 with | some wd=>[(wd,p.2)] | none=>[]):=by
 unfold wt
 rw [List.take_add_one,h,List.filterMap_append]
 congr 1
 show List.filterMap _ [p] = _
 rw [List.filterMap_cons,List.filterMap_nil]
 cases ya rows bars many p.1 <;> rfl
theorem zdr (rows:List Rw) (bars:List Str) (many:Nat) (fp:List (Str × Nat)):(wt rows bars many fp).length<=fp.length:=List.length_filterMap_le _ _
section
variable {P:Program} {w:World} {K:Frag} {mg:Str->Option Value} {base:Heap} {f CF:Addr} {fd:FuncData} {c:C5} {m:MA}
theorem jD:zm ["form","many","firsts","barred","found","name","number","leads_to"] ["form","many","firsts"] (zg zhs):=⟨rfl,rfl,rfl,by decide +kernel,rfl,by decide +kernel,by decide +kernel⟩
theorem zhU {gB gN gG gP:Addr} {eB eN eG eP:FuncData} (F:Fun K "unwelcomes" "unwelcomes" zhs f fd) (hset:mg "set" = none) (FK:FC K CF) (mB:yN K CF "bars" gB) (GB:zp P w K mg base CX0 1 gB eB ["self"] (za7 c CF)) (bB:zQ K eB ["self"] []) (mN:yN K CF "number_of" gN) (GN:zp P w K mg base CX0 1 gN eN ["self","name"] (zdy c CF)) (bN:zQ K eN ["self","name"] [])
  (mG:yN K CF "bag" gG) (GG:zp P w K mg base CX0 1 gG eG ["self"] (w9 c CF 4)) (bG:zQ K eG ["self"] []) (mP:yN K CF "places" gP) (GP:zp P w K mg base CX0 1 gP eP ["self"] (xT c CF)) (bP:zQ K eP ["self"] []) :
  zp P w K mg base CX0 2 f fd ["form","many","firsts"] (zgK c CF):=by
 refine F.ok jD (fun vs H Q E h=>?_) (fun cdv A outer s H vs Q E hr h=>?_)
 ·obtain ⟨f,d,o,many,rows,bars,fp,rfl,_⟩:=h
  rfl
 obtain ⟨f,d,o,many,rows,bars,fp,rfl,l5,lb5,lfp,hF,hd,q⟩:=h
 refine ⟨_,zi (zt (i:=3) jD.nd rfl (Or.inl rfl) (cTy (zdh rfl) hset PyProof.Rows.boot_set (ac (yn (pv 0) FK.cl mB GB hr bB .nil yc) zb)))
  (zi (zt (i:=4) jD.nd rfl (Or.inl rfl) (zY zb))
  (zi (yz PassesOwn.never rfl (zed (pv 2)) (yA rfl (zo (zk (i:=5) jD.nd rfl (Or.inl rfl)) (zo (zk (i:=6) jD.nd rfl (Or.inl rfl)) yh)))
   (zi (zt (i:=7) jD.nd rfl (Or.inl rfl) (zci (pv 0) FK.cl mN GN hr bN .nil yc (ac (pv 5) zb)))
   (zd (zP (zn uU (pv 5) (pv 3) (by with_unfolding_all rfl)) (zd (zB (yv PySem.F.plainAttrs_list PySem.F.slot_list_append PySem.F.type_list_append zG (pv 4) (ac (zN (ac zr (ac (pv 6) zb))) zb))))
    (zd (zP (x9 (zbr (pv 7))) (zd (zP (x9 (zbr (yn (pv 0) FK.cl mG GG hr bG .nil yc))) (zd (zB (yv PySem.F.plainAttrs_list PySem.F.slot_list_append PySem.F.type_list_append zG (pv 4) (ac (zN (ac zr (ac (pv 6) zb))) zb)))) zH))
     (zd (zP (PW.pt (xh (zn ua (pv 7) (yn (pv 0) FK.cl mP GP hr bP .nil yc) (zD _)) (yO (zn ua (pv 7) (pv 1) (zD _))))) (zd (zB (yv PySem.F.plainAttrs_list PySem.F.slot_list_append PySem.F.type_list_append zG (pv 4) (ac (zN (ac zr (ac (pv 6) zb))) zb)))) zH))))))))
  (zd (zq (pv 4))))),?_⟩
 obtain ⟨dx,fs,lr,lb,ld,ps0,h1,h2,h3,h4,h5,h6⟩:=id hF
 have nmB:fs.lookup ("bars" : Str) = none:=h2.no _ (by decide +kernel)
 have nmN:fs.lookup ("number_of" : Str) = none:=h2.no _ (by decide +kernel)
 have nmG:fs.lookup ("bag" : Str) = none:=h2.no _ (by decide +kernel)
 have nmP:fs.lookup ("places" : Str) = none:=h2.no _ (by decide +kernel)
 refine ⟨_,rfl,f,dx,fs,rfl,h1,nmB,f,rows,bars,rfl,hF,fun lb1 H1 s1 nb eb=>?_⟩
 refine ⟨lb1,bars,rfl,SqL.of eb,by omega,fun sS nS hS=>?_⟩
 have u2:=zc hS (wu P w sS (fun z=>decide (z ∈ bars)) nS)
 have e2:upd H1 sS (wu P w sS (fun z=>decide (z ∈ bars)) nS) sS = some (wu P w sS (fun z=>decide (z ∈ bars)) nS):=za
 show vK _ _ _ _ (upd H1 sS (wu P w sS (fun z=>decide (z ∈ bars)) nS))
 generalize upd H1 sS (wu P w sS (fun z=>decide (z ∈ bars)) nS) = H2 at u2 e2 |-
 refine ⟨zz0,fun l hl=>?_⟩
 have u3:=zc hl (.lst [])
 have e3:upd H2 l (.lst []) l = some (.lst []):=za
 show vK _ _ _ _ (upd H2 l (.lst []))
 generalize upd H2 l (.lst []) = H3 at u3 e3 |-
 have s2:=s1.trans u2
 have s3:=s2.trans u3
 have hlH:H l = none:=s2.free hl
 have nl:∀ {b:Addr} {u:HO},H2 b = some u->b ≠ l:=fun e=>ze e hl
 have sHl:∀ {H':Hp},(∀ b u,H2 b = some u->H' b = some u)->zl H H':=fun k b u e=>k b u (s2 _ _ e)
 refine ⟨_,rfl,d,o,kvP fp,rfl,s3 _ _ hd,zda (d:=d) (o:=o) (kvs:=kvP fp) (fun i σ H'=>∃ (us:List Addr) (v5 v6 v7:Option V),σ = [some (.ref f),some (.int (many:Nat)),some (.ref d),some (.ref sS),some (.ref l),v5,v6,v7]/\(∀ b u,H2 b = some u->H' b = some u)/\H' l = some (.lst (us.map V.ref))/\xI H' us (wt rows bars many (fp.take i)))
  ⟨[],_,_,_,rfl,fun _ _ e=>u3 _ _ e,e3,.nil⟩ (fun i σ H' _ ⟨_,_,_,_,_,sH,_⟩=>sH _ _ (s2 _ _ hd)) ?_ ?_⟩
 ·rintro i k v p σ H' hk ⟨us,v5,v6,v7,rfl,sH,hl',hm⟩ hpn
  obtain ⟨z,n,hz,rfl,rfl⟩:∃ (z:Str) (n:Nat),fp[i]? = some (z,n)/\k = .inr z/\v = .int (n:Nat):=by
   unfold kvP at hk
   rw [List.getElem?_map] at hk
   cases e:fp[i]? with
   | none=>rw [e] at hk; cases hk
   | some q=>rw [e] at hk; cases hk; exact ⟨q.1,q.2,rfl,rfl,rfl⟩
  have tk:=zcG (rows:=rows) (bars:=bars) (many:=many) hz
  dsimp only at tk
  have sp:=zc hpn (.tup [kV (.inr z),.int (n:Nat)])
  have lu:us.length<=i:=by
   rw [hm.length]
   refine Nat.le_trans (zdr _ _ _ _) ?_
   rw [List.length_take]
   omega
  have hi:i < fp.length:=(List.getElem?_eq_some_iff.mp hz).1
  have sH1:∀ b u,H2 b = some u->upd H' p (.tup [kV (.inr z),.int (n:Nat)]) b = some u:=fun b u e=>sp _ _ (sH b u e)
  have hl1:=sp _ _ hl'
  have hm1:=hm.same sp
  refine ⟨p,_,rfl,SqT.of za,rfl,_,_,rfl,_,_,rfl,rfl,?_⟩
  generalize upd H' p (.tup [kV (.inr z),.int (n:Nat)]) = H4 at sH1 hl1 hm1 |-
  have s4:=sHl sH1
  refine ⟨_,rfl,f,dx,fs,rfl,s4 _ _ h1,nmN,_,rfl,f,z,rows,bars,rfl,hF.same s4,?_⟩
  refine ⟨_,rfl,_,rfl,sS,_,_,z,rfl,rfl,sH1 _ _ e2,_,rfl,?_⟩
  by_cases hz1:z ∈ bars
  ·refine dT hz1 ?_
   rw [show ya rows bars many z = some "barred" from if_pos hz1] at tk
   refine ⟨_,rfl,.inl ⟨rfl,_,SqL.of hl1⟩,_,rfl,zz2,fun t ht=>?_⟩
   have s6:=zc ht (.tup [.str "barred",.int (n:Nat)])
   have hl6:=s6 _ _ hl1
   have hu2:MA1 (upd H4 t (.tup [.str "barred",.int (n:Nat)])) t ("barred",n):=by
    show upd H4 t _ t = _
    rw [za]
   refine ⟨l,_,.ref t,rfl,rfl,hl6,zx (by rw [List.length_map]; omega),?_⟩
   refine ⟨us ++ [t],_,_,_,rfl,fun b u e=>?_,by rw [za,List.map_append]; rfl,?_⟩
   ·rw [zf (nl e)]
    exact s6 _ _ (sH1 b u e)
   ·rw [tk]
    exact ((hm1.same s6).snoc hu2).upd hl6
  ·refine dF hz1 ?_
   have e0:ya rows bars many z = (match ya.lastD' z rows with | none=>if (zE 4 0 rows).isSome = true then none else some "strange" | some l=>if l < plN rows/\l < many then some "again" else none):=if_neg hz1
   cases ev:zA (yB 0 [] rows) (.inr z) with
   | none=>
    have e1:ya.lastD' z rows = none:=by unfold ya.lastD'; rw [ev]
    rw [e1] at e0
    refine ⟨_,rfl,_,rfl,?_⟩
    refine dT rfl ?_
    refine ⟨_,rfl,f,dx,fs,rfl,s4 _ _ h1,nmG,f,rows,bars,rfl,hF.same s4,_,rfl,?_⟩
    cases eg:zE 4 0 rows with
    | none=>
     have e2':ya rows bars many z = some "strange":=by rw [e0,eg]; rfl
     refine dT rfl ?_
     rw [show ya rows bars many z = some "strange" from e2'] at tk
     refine ⟨_,rfl,.inl ⟨rfl,_,SqL.of hl1⟩,_,rfl,zz2,fun t ht=>?_⟩
     have s6:=zc ht (.tup [.str "strange",.int (n:Nat)])
     have hl6:=s6 _ _ hl1
     have hu2:MA1 (upd H4 t (.tup [.str "strange",.int (n:Nat)])) t ("strange",n):=by
      show upd H4 t _ t = _
      rw [za]
     refine ⟨l,_,.ref t,rfl,rfl,hl6,zx (by rw [List.length_map]; omega),?_⟩
     refine ⟨us ++ [t],_,_,_,rfl,fun b u e=>?_,by rw [za,List.map_append]; rfl,?_⟩
     ·rw [zf (nl e)]
      exact s6 _ _ (sH1 b u e)
     ·rw [tk]
      exact ((hm1.same s6).snoc hu2).upd hl6
    | some j=>
     have e2':ya rows bars many z = none:=by rw [e0,eg]; rfl
     refine dF (by intro z; cases z) ?_
     rw [show ya rows bars many z = none from e2',List.append_nil] at tk
     exact ⟨us,_,_,_,rfl,sH1,hl1,by rw [tk]; exact hm1⟩
   | some v=>
    obtain ⟨j,rfl⟩:=zeZ rows 0 [] (.inr z) v (fun k v e=>by cases e) ev
    have e1:ya.lastD' z rows = some j:=by unfold ya.lastD'; rw [ev]; rfl
    rw [e1] at e0
    refine ⟨_,rfl,_,rfl,?_⟩
    refine dF (by intro z; cases z) ?_
    refine ⟨_,rfl,_,rfl,f,dx,fs,rfl,s4 _ _ h1,nmP,f,rows,bars,rfl,hF.same s4,_,_,rfl,rfl,_,rfl,?_⟩
    by_cases hj1:j < plN rows
    ·refine je (decide_eq_true (by show (j:Int) < (plN rows:Int); omega)) ?_
     refine ⟨_,rfl,_,rfl,_,_,rfl,rfl,_,rfl,?_⟩
     by_cases hj2:j < many
     ·have e2':ya rows bars many z = some "again":=by rw [e0]; exact if_pos ⟨hj1,hj2⟩
      refine je (decide_eq_true (by show (j:Int) < (many:Int); omega)) ?_
      rw [show ya rows bars many z = some "again" from e2'] at tk
      refine ⟨_,rfl,.inl ⟨rfl,_,SqL.of hl1⟩,_,rfl,zz2,fun t ht=>?_⟩
      have s6:=zc ht (.tup [.str "again",.int (n:Nat)])
      have hl6:=s6 _ _ hl1
      have hu2:MA1 (upd H4 t (.tup [.str "again",.int (n:Nat)])) t ("again",n):=by
       show upd H4 t _ t = _
       rw [za]
      refine ⟨l,_,.ref t,rfl,rfl,hl6,zx (by rw [List.length_map]; omega),?_⟩
      refine ⟨us ++ [t],_,_,_,rfl,fun b u e=>?_,by rw [za,List.map_append]; rfl,?_⟩
      ·rw [zf (nl e)]
       exact s6 _ _ (sH1 b u e)
      ·rw [tk]
       exact ((hm1.same s6).snoc hu2).upd hl6
     ·have e2':ya rows bars many z = none:=by rw [e0]; exact if_neg fun h=>hj2 h.2
      refine vE (decide_eq_false (by show ¬ (j:Int) < (many:Int); omega)) ?_
      rw [show ya rows bars many z = none from e2',List.append_nil] at tk
      exact ⟨us,_,_,_,rfl,sH1,hl1,by rw [tk]; exact hm1⟩
    ·have e2':ya rows bars many z = none:=by rw [e0]; exact if_neg fun h=>hj1 h.1
     refine vE (decide_eq_false (by show ¬ (j:Int) < (plN rows:Int); omega)) ?_
     refine y6 ?_
     rw [show ya rows bars many z = none from e2',List.append_nil] at tk
     exact ⟨us,_,_,_,rfl,sH1,hl1,by rw [tk]; exact hm1⟩
 ·rintro σ H' ⟨us,v5,v6,v7,rfl,sH,hl',hm⟩
  have lk:(kvP fp).length = fp.length:=by unfold kvP; rw [List.length_map]
  rw [lk,List.take_length] at hm
  exact ⟨_,rfl,q l H' (sHl sH) ⟨us,hlH,hl',hm⟩⟩
end
structure xH (c:C5) (CF:Addr) (H:Hp) (f:Addr) (rows:List Rw) (bars:List Str):Prop where
 at_:y8 c CF H f rows bars
 lr:rows.length<=500
 lb:bars.length<=500
 ok:∀ r ∈ rows,r.ok
theorem xH.same {c:C5} {CF:Addr} {H H':Hp} {f:Addr} {rows:List Rw} {bars:List Str} (h:xH c CF H f rows bars) (s:zl H H'):xH c CF H' f rows bars:=⟨h.at_.same s,h.lr,h.lb,h.ok⟩
section
variable {P:Program} {w:World} {K:Frag} {mg:Str->Option Value} {base:Heap} {f CF:Addr} {fd:FuncData} {c:C5} {m:MA}
end
end K34
namespace L2
open PySem PySem.Spec PyProof.Rows
section
variable {X:Cx}
end
theorem zJ.of_at {ts:List Int}:∀ {us:List Value},us.length = ts.length->(∀ (i:Nat) (v:Value),us[i]? = some v->∃ t,v = Value.int (ts.getD i 0) t)->zJ (ts.map V.int) us:=by
 induction ts with
 | nil=>
  intro us hl _
  have:us = []:=List.length_eq_zero_iff.mp hl
  subst this
  exact .nil
 | cons t ts ih=>
  intro us hl h
  cases us with
  | nil=>cases hl
  | cons u us=>
   obtain ⟨k,e⟩:=h 0 u rfl
   exact .cons ⟨k,e⟩ (ih (by simpa using hl) fun i v e=>h (i + 1) v e)
section
variable {X:Cx}
end
end L2
namespace L2
open PySem PySem.W PySem.Builtin PySem.Builtin.ObjectAttr PySem.Spec PyProof.Rows
def zfi (K:Frag) (C:Addr):Bool:=
 match K.lookup C with
 | some ⟨.type "type",_,.cls cd,sl⟩=>
  match cd.mro,sl.toList with
  | .ref C' :: bm,[_,_,_,_,some (.builtin n),_]=>C' == C && n == "ValueError.__new__" && !cd.hasDel && cd.hasDict && bm.contains (.type "ValueError") && bm.contains (.type "BaseException") && !bm.contains (.type "AttributeError") && !bm.contains (.type "NameError")
  | _,_=>false
 | _=>false
structure zj9 (h:Heap) (C:Addr):Prop where
 ob:∃ nm q N bs bm sn sub ab col dd k0 k1 k2 k3 k5,h.get? C = some (excClassObj nm q C N bs bm true sn sub ab col dd k0 k1 k2 k3 k5 "ValueError.__new__")/\bm.contains (.type "ValueError") = true/\bm.contains (.type "BaseException") = true/\bm.contains (.type "AttributeError") = false/\bm.contains (.type "NameError") = false
theorem zfh {K:Frag} {h:Heap} {C:Addr} (X:K.In h) (q:zfi K C = true):zj9 h C:=by
 simp only [zfi] at q
 split at q
 case h_2=>cases q
 rename_i dd cd sl ho
 obtain ⟨nm,bs,mro,ns,qn,hd,sn,sub,ab,col,del⟩:=cd
 obtain ⟨l⟩:=sl
 dsimp only at q
 split at q
 case h_2=>cases q
 rename_i C' m k0 k1 k2 k3 n k5
 simp only [Bool.and_eq_true,beq_iff_eq,Bool.not_eq_true'] at q
 obtain ⟨⟨⟨⟨⟨⟨⟨rfl,rfl⟩,rfl⟩,rfl⟩,h1⟩,h2⟩,h3⟩,h4⟩:=q
 exact ⟨_,_,_,_,_,_,_,_,_,_,_,_,_,_,_,X _ _ ho,h1,h2,h3,h4⟩
section
variable {prog:Program} {w:World} {A:Around} {E:Value->Shared->Prop} {s:Shared} {K:Frag} {C f:Addr} {us:List Value}
end
section
variable {prog:Program} {w:World} {A:Around} {E:Value->Shared->Prop} {s:Shared} {K:Frag} {C x:Addr} {us:List Value}
end
end L2
namespace L2
open PySem PySem.W PySem.Builtin PySem.Builtin.ObjectAttr PySem.Builtin.Getset_descriptor PySem.Spec PyProof.Rows
section
variable {prog:Program} {w:World} {A:Around} {E:Value->Shared->Prop} {s:Shared} {K:Frag} {C D x dx:Addr} {us:List Value}
end
end L2
namespace L2
open PySem PySem.Spec PyProof.Rows
abbrev zbM (ea C:Addr) (od:Option Addr) (t:Addr):HO:=.ext fun h=>h.get? ea = some { cls:=.ref C,dict:=od,data:=.fields #[.ref t,.none,.none,.none,.bool false,.none] }
theorem zgv {P:Program} {w:World} {H:Hp} {h:Heap} {ea C t:Addr} {od:Option Addr} (e:h.get? ea = some { cls:=.ref C,dict:=od,data:=.fields #[.ref t,.none,.none,.none,.bool false,.none] }):ye P w H h ea (zbM ea C od t):=
 ⟨e,⟨_,e⟩,fun g1 g2 q k=>k _ q⟩
section
variable {X:Cx} {pins:List (Addr × Obj)} {σ : St} {H:Hp} {s:Shared} {x C t:Addr} {f:Str} {y:V} {u:Value} {A:Around} {E:Value->Shared->Prop}
theorem zcw {od:Option Addr} (I:Inv X pins σ H s) (e:H x = some (zbM x C od t)):s.heap.get? x = some { cls:=.ref C,dict:=od,data:=.fields #[.ref t,.none,.none,.none,.bool false,.none] }:=(I.hok x _ e).1
end
section
variable {X:Cx} {o e value:Expr} {f:Str} {pos pos' tpos:Pos} {ta tv:TE}
end
section
variable {X:Cx} {CX:CXT} {k:Nat} {f C:Addr} {fd:FuncData} {ps:List Str} {sp:Sp} {E:XK} {x:Str} {p pos:Pos} {e:Expr} {es:List Expr} {t:TA}
end
def drop (H:Hp) (a:Addr):Hp:=fun b=>if b = a then none else H b
theorem zdc {H:Hp} {a:Addr}:drop H a a = none:=by unfold drop; rw [if_pos rfl]
theorem wk {H:Hp} {a b:Addr} (h:b ≠ a):drop H a b = H b:=by unfold drop; rw [if_neg h]
theorem wT {H:Hp} {a b:Addr} {u:HO} (h:drop H a b = some u):b ≠ a/\H b = some u:=by
 unfold drop at h
 split at h
 ·cases h
 ·exact ⟨‹_›,h⟩
theorem HOk.drop {P:Program} {w:World} {H:Hp} {h:Heap} {a:Addr} {φ : Heap->Prop} (x:HOk P w H h) (ha:H a = some (.ext φ)):HOk P w (drop H a) h:=fun b u e=>by
 obtain ⟨hb,e⟩:=wT e
 exact (x b u e).stay (fun _ _ _ q=>q) (fun c q=>by rw [wk (fun z=>by rw [z,ha] at q; cases q)]; exact q) fun c xs q=>by rw [wk (fun z=>by rw [z,ha] at q; cases q)]; exact q
section
variable {X:Cx} {pins:List (Addr × Obj)} {σ : St} {H:Hp} {s:Shared} {ea C t:Addr} {od:Option Addr} {M:Model} {E:Value->Shared->Prop}
end
section
variable {X:Cx} {E:XK} {pos:Pos} {e:Expr} {te:TE}
end
section
variable {P:Program} {w:World} {K:Frag} {mg:Str->Option Value} {base:Heap} {N:List Str} {qual:Str} {scope:Scope} {f:Addr} {cd:Value} {A:Around} {outer:List Env} {s:Shared} {H:Hp} {E E':XK}
end
def zha (C:Addr) (t:TA):TE:=fun σ H Q=>t σ H fun vs H1=>vs.length<=sizeLine/\∀ x tu,H1 x = none->Q (.ref x) (upd H1 x (zbM x C none tu))
section
variable {X:Cx} {x:Str} {C:Addr} {B Bn newId nid initId inN:String} {bm bmN:List Value} {np pos:Pos} {e:Expr} {es:List Expr} {t:TA}
theorem Inv.madeP {pins:List (Addr × Obj)} {σ : St} {H:Hp} {s:Shared} {vs:List Value} {h':Heap} {ea:Addr} (I:Inv X pins σ H s) (hm:Heap.MadeExcOf s.heap h' ea (.ref C) vs):H ea = none/\∃ tu,Inv X pins σ (upd H ea (zbM ea C none tu)) { s with heap:=h' }:=by
 have hn:H ea = none:=by
  cases q:H ea with
  | none=>rfl
  | some u=>
   obtain ⟨o,e⟩:=I.hok.rec q
   rw [hm.new] at e; cases e
 obtain ⟨tu,h1,_,_⟩:=hm.there
 refine ⟨hn,tu,(I.kept (t':=s.toks) hm.keeps).track hn (zgv h1) (fun u e2 n x=>?_) (fun z=>?_) (fun z c e2 z2=>?_) fun p hp z=>?_⟩
 ·obtain ⟨o,e3⟩:=I.base.there ea u e2 x
  rw [hm.new] at e3; cases e3
 ·obtain ⟨m,⟨oL,es,ep,hoL,_⟩,_⟩:=I.loc
  rw [z,hm.new] at hoL; cases hoL
 ·obtain ⟨v,oc,hoc,_⟩:=I.cell z c e2
  rw [z2,hm.new] at hoc; cases hoc
 ·have:=(I.pin p hp).1
  rw [z,hm.new] at this; cases this
theorem zai (O:OwnCls x C bm newId X.mg X.base) (kp:keepIn X.K (.ref C) = true) (Fn:ExcBaseFacts Bn newId inN bmN) (hBn:bm.contains (.type Bn) = true) (FB:ExcBaseFacts B nid initId bm) (ha:PA X (e :: es) t)
  (hg:Gl X x:=by rfl) (hdb:(x == ("__debug__" : Str)) = false:=by decide) (he:starEach (e :: es) X.env = (false,eval e X.env) :: starEach es X.env:=by rfl) (hpl:(backTo pos (starEach es X.env)).any (·.1) = false:=by rfl) :
  PE X (.Call (.Name x np) (e :: es) [] pos) (zha C t):=by
 refine ⟨?_⟩
 intro pins s σ H Q I h
 obtain ⟨tl,N,nm,q,bs,hdct,sn,sub,ab,col,dd,k0,k1,k2,k3,k5,mN,hC,hN,hni,T⟩:=O.obj
 refine wpAny_Call_Name_kw (xO I hg O.bound ?_ hdb)
 refine callWith_K (h₀:=X.base) I.ok.mod.kin kp (thn (ha pos pins s σ H _ I h) fun us s1 ⟨vs,H1,I1,r,hl,q⟩=>⟨I1.kIn,?_⟩) he hpl
 obtain ⟨hh,g,d,tk,os⟩:=s1
 refine wpAny_call_exc_subU Fn hBn FB (T.keeps I1.bk) (I1.bk _ _ hC) (hN.keeps I1.bk) hni (fun h' ea hm=>?_) (by rw [List.nil_append,<- r.length]; exact hl)
 obtain ⟨hn,tu,I2⟩:=I1.madeP hm
 exact ⟨.ref ea,_,I2,rfl,q ea tu hn⟩
end
section
variable {X:Cx} {pins:List (Addr × Obj)} {σ : St} {H:Hp} {s:Shared} {M:Model} {A:Around} {E:Value->Shared->Prop} {i:Nat} {n:Str} {pos:Pos}
end
section
variable {X:Cx} {pins:List (Addr × Obj)} {σ : St} {H:Hp} {s:Shared} {ea:Addr}
variable {st b₀:Stmt} {suite:List Stmt} {c n:Str} {np hpos pos:Pos} {C:Addr} {i:Nat} {tb:XK->TS} {ts:TS} {ok:Value->Prop}
end
section
variable {X:Cx} {pins:List (Addr × Obj)} {σ : St} {e:Expr} {es:List Expr} {t:TA} {E:XK} {x:Str} {p pos:Pos} {k:Nat} {f C:Addr} {fd:FuncData} {ps:List Str} {sp:Sp} {dvs:List V} {ds:List Value}
end
abbrev zbN (C:Addr) (od:Option Addr) (t:Addr) (tb:Value):Obj:={ cls:=.ref C,dict:=od,data:=.fields #[.ref t,tb,.none,.none,.bool false,.none] }
def TrS (h base:Heap) (e C:Addr) (od:Option Addr) (t:Addr):Prop:=∃ (tb:Addr) (oT:Obj) (ts:Array Value),h.get? e = some (zbN C od t (.ref tb))/\base.get? tb = none/\tb ≠ e/\h.get? tb = some oT/\oT.data = .fields ts/\ts[3]? = some .none
section
variable {M:Model} {A:Around} {E:Value->Shared->Prop} {s:Shared} {base:Heap} {env:Env} {outer:List Env} {L e C t:Addr} {od:Option Addr} {tb0 head:Value} {hn:Bool} {Q:Unit->Shared->Prop}
theorem zeY (fr:A.frames = some (env :: outer)) (fl:s.heap.FunFrames base (env :: outer)) (hfl:env.frame = some L) (he:s.heap.get? e = some (zbN C od t tb0)) (hst:base.StaysIn s.heap) (hb:base.get? e = none)
  (q:∀ h':Heap,base.StaysIn h'->h'.FunFrames base (env :: outer)->TrS h' base e C od t->s.heap.UpToSlots h'->Q () { s with heap:=h' }) :
  wpAny M A (do
   let a <- frameOf env
   let pl <- entryPlaceOf L hn
   let b <- EntryCells.newEntry head a Value.none (rawInt L) Value.none pl
   setField (Value.ref e) 1 b) (fun _ s'=>wpAny M A (setFlight (Value.ref e) none) Q E s') E s:=by
 refine wpAny_bind (wpAny_frameOf_fun fr fl hfl fun h1 so=>?_)
 obtain ⟨sz,oth,sl⟩:=so
 refine wpAny_bind (wpAny_entryPlaceOf fun pl hpl=>?_)
 unfold EntryCells.newEntry newFields
 have eS:e ∉ List.filterMap (fun x:Env=>x.frame) (env :: outer):=fun z=>by
  obtain ⟨_,o,ho,hd⟩:=fl.mem z
  rw [he] at ho
  cases ho
  exact hd _ rfl
 have e1:h1.get? e = some (zbN C od t tb0):=(oth e eS).trans he
 have lp:(if pl.isEmpty = true then List.replicate 6 Value.none else pl).length = 6:=by
  rcases hpl with rfl | ⟨a,b,c,d,c9,b10,_,rfl⟩ <;> rfl
 have sz11:([head,Value.ref L,Value.none,rawInt L,Value.none] ++ if pl.isEmpty = true then List.replicate 6 Value.none else pl).length = 11:=by
  rw [List.length_append,lp]
  rfl
 have hL:A.frames = some (env :: outer):=fr
 generalize hcells:([head,Value.ref L,Value.none,rawInt L,Value.none] ++ if pl.isEmpty = true then List.replicate 6 Value.none else pl) = cells at sz11 |-
 have c3:cells[3]? = some (rawInt L):=by rw [<- hcells]; rfl
 refine wpAny_bind (wpAny_newObj_type ?_ (by show sizeOk (Data.fields cells.toArray); unfold sizeOk; simp only [List.size_toArray,sz11]; decide))
 dsimp only
 have hlt:e < h1.objs.size:=Heap.lt_size e1
 have ne:h1.objs.size ≠ e:=Nat.ne_of_gt hlt
 refine wpAny_setField (Heap.get?_push_of_some _ e1) rfl (by show 1 < 6; decide) ?_
 have x2:((h1.push { cls:=.type "traceback",data:=.fields cells.toArray }).update e (Obj.mapFields fun x=>x.setIfInBounds 1 (.ref h1.objs.size))).get? e = some (zbN C od t (.ref h1.objs.size)):=
  Heap.get?_update_self _ (Heap.get?_push_of_some _ e1) rfl
 have x3:((h1.push { cls:=.type "traceback",data:=.fields cells.toArray }).update e (Obj.mapFields fun x=>x.setIfInBounds 1 (.ref h1.objs.size))).get? h1.objs.size = some { cls:=.type "traceback",data:=.fields cells.toArray }:=by
  rw [Heap.get?_update_ne _ _ _ _ ne]
  exact Heap.get?_push_size h1 rfl
 have x4:∀ b o,b ≠ e->h1.get? b = some o->((h1.push { cls:=.type "traceback",data:=.fields cells.toArray }).update e (Obj.mapFields fun x=>x.setIfInBounds 1 (.ref h1.objs.size))).get? b = some o:=fun b o hbe hbo=>by
  rw [Heap.get?_update_ne _ _ _ _ hbe]
  exact Heap.get?_push_of_some _ hbo
 generalize (h1.push { cls:=.type "traceback",data:=.fields cells.toArray }).update e (Obj.mapFields fun x=>x.setIfInBounds 1 (.ref h1.objs.size)) = h2 at x2 x3 x4 |-
 unfold setFlight
 refine wpAny_bind (wpAny_field (x:=.ref h1.objs.size) x2 rfl rfl ?_)
 rw [if_pos (show (Value.ref h1.objs.size != Value.none) = true from rfl)]
 refine wpAny_setField x3 rfl (by rw [List.size_toArray,sz11]; decide) ?_
 show Q () { s with heap:=h2.update h1.objs.size (Obj.mapFields fun x=>x.setIfInBounds 3 Value.none) }
 have y1:∀ b,b ≠ h1.objs.size->(h2.update h1.objs.size (Obj.mapFields fun x=>x.setIfInBounds 3 Value.none)).get? b = h2.get? b:=fun b hb'=>Heap.get?_update_ne _ _ _ _ hb'
 have y2:(h2.update h1.objs.size (Obj.mapFields fun x=>x.setIfInBounds 3 Value.none)).get? h1.objs.size = some { cls:=.type "traceback",data:=.fields (cells.toArray.setIfInBounds 3 .none) }:=Heap.get?_update_self _ x3 rfl
 have kp:∀ b o,s.heap.get? b = some o->(∀ vs,o.data ≠ .fields vs)->∃ sl,(h2.update h1.objs.size (Obj.mapFields fun x=>x.setIfInBounds 3 Value.none)).get? b = some { o with slots:=sl }:=fun b o hbo hd=>by
  obtain ⟨sl',hs'⟩:=sl b o hbo
  have n1:b ≠ h1.objs.size:=Nat.ne_of_lt (Heap.lt_size hs')
  have n2:b ≠ e:=fun z=>by rw [z,he] at hbo; cases hbo; exact hd _ rfl
  exact ⟨sl',by rw [y1 b n1]; exact x4 b _ n2 hs'⟩
 refine q _ (fun b o hbo=>?_) (fl.of_keeps fun b o hbo hd=>?_) ?_ kp
 ·have n0:b ∉ List.filterMap (fun x:Env=>x.frame) (env :: outer):=fun z=>by
   rw [(fl.mem z).1] at hbo; cases hbo
  have hs':=(oth b n0).trans (hst b o hbo)
  have n1:b ≠ h1.objs.size:=Nat.ne_of_lt (Heap.lt_size hs')
  have n2:b ≠ e:=fun z=>by rw [z,hb] at hbo; cases hbo
  rw [y1 b n1]
  exact x4 b o n2 hs'
 ·obtain ⟨sl',hs'⟩:=kp b o hbo hd
  exact ⟨_,hs',rfl⟩
 ·refine ⟨h1.objs.size,_,_,(by rw [y1 e (Ne.symm ne)]; exact x2),?_,ne,y2,rfl,?_⟩
  ·cases z:base.get? h1.objs.size with
   | none=>rfl
   | some o=>
    have:=Heap.lt_size (hst _ o z)
    rw [<- sz] at this
    exact absurd this (Nat.lt_irrefl _)
  ·rw [Array.getElem?_setIfInBounds_self_of_lt (by rw [List.size_toArray,sz11]; decide)]
theorem zeB (fr:A.frames = some (env :: outer)) (fl:s.heap.FunFrames base (env :: outer)) (hfl:env.frame = some L) (hst:base.StaysIn s.heap) (hb:base.get? e = none)
  (he:s.heap.get? e = some (zbN C od t .none)\/TrS s.heap base e C od t)
  (q:∀ h':Heap,base.StaysIn h'->h'.FunFrames base (env :: outer)->TrS h' base e C od t->s.heap.UpToSlots h'->Q () { s with heap:=h' }) :
  wpAny M A (noteFrame (.ref e) env) (fun _ s'=>wpAny M A (setFlight (.ref e) none) Q E s') E s:=by
 unfold noteFrame
 rw [hfl]
 dsimp only
 rcases he with he | ⟨tb,oT,ts,h1,h2,h3,h4,h5,h6⟩
 ·refine wpAny_bind (wpAny_field (x:=Value.none) he rfl rfl ?_)
  rw [if_neg (show ¬ (Value.none != Value.none) = true by decide)]
  exact zeY fr fl hfl he hst hb q
 ·refine wpAny_bind (wpAny_field (x:=.ref tb) h1 rfl rfl ?_)
  rw [if_pos (show (Value.ref tb != Value.none) = true from rfl)]
  refine wpAny_bind (wpAny_field (x:=Value.none) h4 h5 h6 ?_)
  rw [if_neg (show ¬ (Value.none == rawInt (L:Nat)) = true from fun z=>by cases z)]
  have l3 : 3 < ts.size:=by
   have:=(Array.getElem?_eq_some_iff.mp h6).1
   exact this
  refine wpAny_bind (wpAny_setField h4 h5 l3 ?_)
  have z1:∀ b,b ≠ tb->(s.heap.update tb (Obj.mapFields fun x=>x.setIfInBounds 3 Value.none)).get? b = s.heap.get? b:=fun b hb'=>Heap.get?_update_ne _ _ _ _ hb'
  have up:s.heap.UpToSlots (s.heap.update tb (Obj.mapFields fun x=>x.setIfInBounds 3 Value.none)):=fun b o hbo hd=>by
   have n:b ≠ tb:=fun z=>by rw [z,h4] at hbo; cases hbo; exact hd _ h5
   exact ⟨o.slots,by rw [z1 b n]; exact hbo⟩
  refine zeY (s:={ s with heap:=s.heap.update tb (Obj.mapFields fun x=>x.setIfInBounds 3 Value.none) }) fr (fl.of_keeps fun b o hbo hd=>?_) hfl (tb0:=.ref tb) (by rw [z1 e (Ne.symm h3)]; exact h1) (fun b o hbo=>?_) hb fun h' a1 a2 a3 a4=>q h' a1 a2 a3 (up.trans a4)
  ·obtain ⟨sl,hs⟩:=up b o hbo hd
   exact ⟨_,hs,rfl⟩
  ·have n:b ≠ tb:=fun z=>by rw [z,h2] at hbo; cases hbo
   show (s.heap.update tb (Obj.mapFields fun x=>x.setIfInBounds 3 Value.none)).get? b = some o
   rw [z1 b n]
   exact hst b o hbo
end
def FlS (B:Heap) (l:List Env) (e C:Addr) (od:Option Addr) (t:Addr) (h:Heap):Prop:=B.StaysIn h/\B.get? e = none/\h.FunFrames B l/\TrS h B e C od t
structure jq (P:Program) (w:World) (outer:List Env) (H:Hp) (s:Shared) (C:Addr) (od:Option Addr) (t:Addr) (H':Hp) (ea:Addr) (s':Shared):Prop where
 os:s'.os = s.os
 bare:AllBare s'.gens
 un:Un (frs outer) [] H H' s.heap s'.heap
 hok:HOk P w H' s'.heap
 nt:H' ea = none
 fly:∃ B,FlS B outer ea C od t s'.heap/\(∀ b u,H' b = some u->∃ o,B.get? b = some o)/\(∀ b o,s.heap.get? b = some o->H b = none->b ∉ frs outer->B.get? b = some o)/\
  ∀ b o,s.heap.get? b = some o->b ∉ frs outer->∃ o',B.get? b = some o'
abbrev CXs (P:Program) (w:World):CXT:=fun outer H s E e s'=>∃ ea C od t H',e = .ref ea/\jq P w outer H s C od t H' ea s'/\E (.ref C) od H'
section
variable {X:Cx} {pins:List (Addr × Obj)} {σ : St} {H H':Hp} {s s':Shared} {ea C t:Addr} {od:Option Addr} {M:Model} {E:Value->Shared->Prop}
theorem zdb (I:Inv X pins σ H s) (hstk:X.stack = X.env :: X.outer) (hfl:X.env.frame = some X.env.locals) (hex:X.ex = []) (hx:H ea = some (zbM ea C od t)) (hnew:X.H₀ ea = none) :
  wpAny M X.A (leaving X.env (.ref ea)) (fun _ s''=>jq X.prog X.w X.outer X.H₀ X.s₀ C od t (drop H ea) ea s'') E s:=by
 have fr:=jU hstk hfl
 have he:=zcw I hx
 have fl:s.heap.FunFrames (hideAll s.heap (ea :: frs X.stack)) (X.env :: X.outer):=by
  have:=I.stack
  rw [hstk] at this
  refine PySem.W.funFrames_hide this fun env he b hb=>?_
  rw [hstk]
  exact List.mem_cons_of_mem _ (List.mem_filterMap.mpr ⟨env,he,hb⟩)
 have fr0:=I.ok.frames
 rw [hstk] at fr0
 have neL:∀ b o,X.s₀.heap.get? b = some o->b ≠ X.env.locals:=fun b o e=>Nat.ne_of_lt (Nat.lt_of_lt_of_le (Heap.lt_size e) I.ok.above)
 have noEx:∀ b:Addr,b ∉ X.ex:=fun b=>by rw [hex]; simp
 have inB:∀ b o,s.heap.get? b = some o->b ≠ ea->b ∉ frs X.stack->(hideAll s.heap (ea :: frs X.stack)).get? b = some o:=fun b o e n1 n=>PySem.W.hideAll_get _ e (fun z=>(List.mem_cons.mp z).elim n1 n)
 have trB:∀ b u,H b = some u->b ∉ frs X.stack:=fun b u e n=>by rw [I.stkFree b n] at e; cases e
 have eaS:∀ u,X.s₀.heap.get? ea = some u->False:=fun u e=>by
  have:=I.base.free ea u e hnew (noEx ea)
  rw [hx] at this; cases this
 unfold leaving
 refine wpAny_bind (zeB fr0 fl hfl (fun b o q=>PySem.W.of_hideAll _ q) (hideAll_none _ List.mem_cons_self) (.inl he) fun h2 x1 x2 x3 x4=>?_)
 have stay:∀ b o,s.heap.get? b = some o->b ≠ ea->b ∉ frs X.stack->h2.get? b = some o:=fun b o e n1 n=>x1 b o (inB b o e n1 n)
 have x2':h2.FunFrames (hideAll s.heap (ea :: frs X.stack)) X.outer:=by
  unfold Heap.FunFrames at x2
  exact x2.2.2
 have nEa:∀ b o,X.s₀.heap.get? b = some o->b ≠ ea:=fun b o e z=>by subst z; exact eaS o e
 refine ⟨I.os,I.bare,⟨fun b o e n hb _=>?_,fun b o e n hb _=>?_,fun b o e n _=>?_,fun b o e _=>?_,fun b xs e=>?_,fun b u v e=>?_,fun b ps e=>?_⟩,?_,zdc,?_⟩
 ·refine stay b o (I.base.keep b o e n hb (noEx b)) (nEa b o e) ?_
  rw [fr]
  exact fun z=>(List.mem_cons.mp z).elim (neL b o e) hb
 ·obtain ⟨sl,e1⟩:=I.base.slot b o e n hb (noEx b)
  obtain ⟨_,o',ho',hd⟩:=I.funs.mem hb
  rw [e1] at ho'
  cases ho'
  obtain ⟨sl2,e2⟩:=x4 b _ e1 hd
  exact ⟨sl2,e2⟩
 ·rw [wk (nEa b o e)]
  exact I.base.free b o e n (noEx b)
 ·obtain ⟨o1,e1⟩:=I.base.there b o e (noEx b)
  by_cases hb:b ∈ frs X.stack
  ·obtain ⟨_,o',ho',hd⟩:=I.stack.mem hb
   obtain ⟨sl2,e2⟩:=x4 b o' ho' hd
   exact ⟨_,e2⟩
  ·exact ⟨o1,stay b o1 e1 (nEa b o e) hb⟩
 ·have e1:=I.base.tups b xs e
  rw [wk (fun z=>by rw [z,hx] at e1; cases e1)]; exact e1
 ·have e1:=I.base.frzs b u v e
  rw [wk (fun z=>by rw [z,hx] at e1; cases e1)]; exact e1
 ·obtain ⟨more,e1⟩:=I.base.tbls b ps e
  exact ⟨more,by rw [wk (fun z=>by rw [z,hx] at e1; cases e1)]; exact e1⟩
 ·exact (I.hok.drop hx).sameAt fun b u o e q=>stay b o q (wT e).1 (trB b u (wT e).2)
 ·refine ⟨_,⟨x1,hideAll_none _ List.mem_cons_self,x2',x3⟩,fun b u e=>?_,fun b o e n hb=>?_,fun b o e hb=>?_⟩
  ·obtain ⟨n1,e⟩:=wT e
   obtain ⟨o,q⟩:=I.hok.rec e
   exact ⟨o,inB b o q n1 (trB b u e)⟩
  ·refine inB b o (I.base.keep b o e n hb (noEx b)) (nEa b o e) ?_
   rw [fr]
   exact fun z=>(List.mem_cons.mp z).elim (neL b o e) hb
  ·obtain ⟨o1,e1⟩:=I.base.there b o e (noEx b)
   refine ⟨o1,inB b o1 e1 (nEa b o e) ?_⟩
   rw [fr]
   exact fun z=>(List.mem_cons.mp z).elim (neL b o e) hb
theorem zgt (I:Inv X pins σ H s) (hstk:X.stack = X.env :: X.outer) (hfl:X.env.frame = some X.env.locals) (hex:X.ex = []) (F:jq X.prog X.w X.stack H s C od t H' ea s') :
  wpAny M X.A (leaving X.env (.ref ea)) (fun _ s''=>jq X.prog X.w X.outer X.H₀ X.s₀ C od t H' ea s'') E s':=by
 have fr:=jU hstk hfl
 have fr0:=I.ok.frames
 rw [hstk] at fr0
 obtain ⟨B,fl,tr,old,olds⟩:=F.fly
 have neL:∀ b o,X.s₀.heap.get? b = some o->b ≠ X.env.locals:=fun b o e=>Nat.ne_of_lt (Nat.lt_of_lt_of_le (Heap.lt_size e) I.ok.above)
 have noEx:∀ b:Addr,b ∉ X.ex:=fun b=>by rw [hex]; simp
 have nst:∀ b o,X.s₀.heap.get? b = some o->b ∉ frs X.outer->b ∉ frs X.stack:=fun b o e hb=>by
  rw [fr]
  exact fun z=>(List.mem_cons.mp z).elim (neL b o e) hb
 have fl':=fl
 rw [hstk] at fl'
 unfold leaving
 refine wpAny_bind (zeB fr0 fl'.2.2.1 hfl fl'.1 fl'.2.1 (.inr fl'.2.2.2) fun h2 y1 y2 y3 x2=>?_)
 have x1:FlS B X.outer ea C od t h2:=⟨y1,fl'.2.1,(by unfold Heap.FunFrames at y2; exact y2.2.2),y3⟩
 have oldB:∀ b o,X.s₀.heap.get? b = some o->X.H₀ b = none->b ∉ frs X.outer->B.get? b = some o:=fun b o e n hb=>
  old b o (I.base.keep b o e n hb (noEx b)) (I.base.free b o e n (noEx b)) (nst b o e hb)
 refine ⟨F.os.trans I.os,F.bare,⟨fun b o e n hb _=>x1.1 b o (oldB b o e n hb),fun b o e n hb _=>?_,fun b o e n _=>?_,fun b o e _=>?_,fun b xs e=>F.un.tups b xs (I.base.tups b xs e),fun b o u e=>F.un.frzs b o u (I.base.frzs b o u e),fun b ps e=>?_⟩,F.hok.sameAt fun b u o e q=>?_,F.nt,⟨B,x1,tr,oldB,fun b o e hb=>?_⟩⟩
 ·obtain ⟨sl,e1⟩:=I.base.slot b o e n hb (noEx b)
  obtain ⟨sl1,e2⟩:=F.un.any e1 (I.base.free b o e n (noEx b)) (by simp)
  have hd:∀ vs,o.data ≠ .fields vs:=by
   obtain ⟨_,o',ho',hd⟩:=I.funs.mem hb
   rw [e1] at ho'
   cases ho'
   exact hd
  obtain ⟨sl2,e3⟩:=x2 b _ e2 hd
  exact ⟨sl2,e3⟩
 ·obtain ⟨o',e1⟩:=I.base.there b o e (noEx b)
  exact F.un.free b o' e1 (I.base.free b o e n (noEx b)) (by simp)
 ·obtain ⟨o1,e1⟩:=I.base.there b o e (noEx b)
  obtain ⟨o2,e2⟩:=F.un.there b o1 e1 (by simp)
  by_cases hb:b ∈ frs X.stack
  ·obtain ⟨_,o',ho',hd⟩:=fl.2.2.1.mem hb
   obtain ⟨sl2,e3⟩:=x2 b o' ho' hd
   exact ⟨_,e3⟩
  ·obtain ⟨o3,e3⟩:=olds b o1 e1 hb
   exact ⟨o3,x1.1 b o3 e3⟩
 ·obtain ⟨m1,e1⟩:=I.base.tbls b ps e
  obtain ⟨m2,e2⟩:=F.un.tbls b _ e1
  exact ⟨m1 ++ m2,by rw [e2,Array.append_assoc]⟩
 ·obtain ⟨o3,e3⟩:=tr b u e
  have e4:=fl.1 b o3 e3
  rw [q] at e4
  cases e4
  exact x1.1 b o e3
 ·obtain ⟨o1,e1⟩:=I.base.there b o e (noEx b)
  exact olds b o1 e1 (nst b o e hb)
end
abbrev zij (ea C:Addr) (od:Option Addr) (t:Addr):HO:=.ext fun h=>∃ tb,h.get? ea = some (zbN C od t tb)
theorem zgw {P:Program} {w:World} {H:Hp} {h:Heap} {ea C t:Addr} {od:Option Addr} {tb:Value} (e:h.get? ea = some (zbN C od t tb)):ye P w H h ea (zij ea C od t):=
 ⟨⟨tb,e⟩,⟨_,e⟩,fun g1 g2 ⟨tb',q⟩ k=>⟨tb',k _ q⟩⟩
section
variable {X:Cx} {pins:List (Addr × Obj)} {σ : St} {H H':Hp} {s s':Shared} {ea C t:Addr} {od:Option Addr} {M:Model} {A:Around} {E:Value->Shared->Prop} {h5:Heap}
theorem jq.move {P:Program} {w:World} {l:List Env} {B:Heap} (F:jq P w l H s C od t H' ea s') (fl:FlS B l ea C od t s'.heap) (tr:∀ b u,H' b = some u->∃ o,B.get? b = some o)
  (old:∀ b o,s.heap.get? b = some o->H b = none->b ∉ frs l->B.get? b = some o) (olds:∀ b o,s.heap.get? b = some o->b ∉ frs l->∃ o',B.get? b = some o')
  (fl5:FlS B l ea C od t h5) (up:s'.heap.UpToSlots h5):jq P w l H s C od t H' ea { s' with heap:=h5 }:=by
 refine ⟨F.os,F.bare,⟨fun b o e n hb _=>fl5.1 b o (old b o e n hb),fun b o e n hb _=>?_,F.un.free,fun b o e _=>?_,F.un.tups,F.un.frzs,F.un.tbls⟩,F.hok.sameAt fun b u o e q=>?_,F.nt,⟨B,fl5,tr,old,olds⟩⟩
 ·obtain ⟨sl,e1⟩:=F.un.slot b o e n hb (by simp)
  obtain ⟨_,o',ho',hd⟩:=fl.2.2.1.mem hb
  rw [e1] at ho'
  cases ho'
  obtain ⟨sl2,e2⟩:=up b _ e1 hd
  exact ⟨sl2,e2⟩
 ·by_cases hb:b ∈ frs l
  ·obtain ⟨_,o',ho',hd⟩:=fl5.2.2.1.mem hb
   exact ⟨o',ho'⟩
  ·obtain ⟨o3,e3⟩:=olds b o e hb
   exact ⟨o3,fl5.1 b o3 e3⟩
 ·obtain ⟨o3,e3⟩:=tr b u e
  have e4:=fl.1 b o3 e3
  rw [q] at e4
  cases e4
  exact fl5.1 b o e3
theorem zi7 {B:Heap} {l:List Env} {Q:Unit->Shared->Prop} (fl:FlS B l ea C od t s.heap) (q:∀ h':Heap,FlS B l ea C od t h'->s.heap.UpToSlots h'->Q () { s with heap:=h' }):wpAny M A (setFlight (.ref ea) none) Q E s:=by
 obtain ⟨f1,f2,f3,tb,oT,ts,h1,h2,h3,h4,h5,h6⟩:=fl
 unfold setFlight
 refine wpAny_bind (wpAny_field (x:=.ref tb) h1 rfl rfl ?_)
 rw [if_pos (show (Value.ref tb != Value.none) = true from rfl)]
 have l3 : 3 < ts.size:=(Array.getElem?_eq_some_iff.mp h6).1
 refine wpAny_setField h4 h5 l3 ?_
 show Q () { s with heap:=s.heap.update tb (Obj.mapFields fun x=>x.setIfInBounds 3 Value.none) }
 have z1:∀ b,b ≠ tb->(s.heap.update tb (Obj.mapFields fun x=>x.setIfInBounds 3 Value.none)).get? b = s.heap.get? b:=fun b hb'=>Heap.get?_update_ne _ _ _ _ hb'
 have up:s.heap.UpToSlots (s.heap.update tb (Obj.mapFields fun x=>x.setIfInBounds 3 Value.none)):=fun b o hbo hd=>by
  have n:b ≠ tb:=fun z=>by rw [z,h4] at hbo; cases hbo; exact hd _ h5
  exact ⟨o.slots,by rw [z1 b n]; exact hbo⟩
 obtain ⟨oc,odd,da,osl⟩:=oT
 have h5':da = .fields ts:=h5
 subst h5'
 have z2:(s.heap.update tb (Obj.mapFields fun x=>x.setIfInBounds 3 Value.none)).get? tb = some ⟨oc,odd,.fields (ts.setIfInBounds 3 .none),osl⟩:=Heap.get?_update_self _ h4 rfl
 refine q _ ⟨fun b o hbo=>?_,f2,f3.of_keeps fun b o hbo hd=>?_,tb,_,_,(by rw [z1 ea (Ne.symm h3)]; exact h1),h2,h3,z2,rfl,?_⟩ up
 ·have n:b ≠ tb:=fun z=>by rw [z,h2] at hbo; cases hbo
  rw [z1 b n]
  exact f1 b o hbo
 ·obtain ⟨sl,hs⟩:=up b o hbo hd
  exact ⟨_,hs,rfl⟩
 ·rw [Array.getElem?_setIfInBounds_self_of_lt l3]
theorem jq.track {B:Heap} (I:Inv X pins σ H s) (F:jq X.prog X.w X.stack H s C od t H' ea s') (fl:FlS B X.stack ea C od t s'.heap) (old:∀ b o,s.heap.get? b = some o->H b = none->b ∉ frs X.stack->B.get? b = some o) :
  Inv X pins σ (upd H' ea (zij ea C od t)) s':=by
 have I1:Inv X pins σ H' s':=I.call' F.os F.un F.hok F.bare fun b z=>nomatch z
 obtain ⟨tb,oT,ts,he,_⟩:=fl.2.2.2
 have nfr:ea ∉ frs X.stack:=fun z=>by
  obtain ⟨_,o',ho',hd'⟩:=fl.2.2.1.mem z
  rw [he] at ho'
  cases ho'
  exact hd' _ rfl
 have nold:∀ b o,s.heap.get? b = some o->H b = none->b ≠ ea:=fun b o e n z=>by
  subst z
  have:=old b o e n nfr
  rw [fl.2.1] at this
  cases this
 refine I1.track F.nt (zgw he) (fun u e n hx=>?_) (fun z=>?_) (fun x c e z=>?_) fun p hp=>?_
 ·by_cases hb:ea ∈ X.fs
  ·obtain ⟨_,o',ho',hd'⟩:=I1.funs.mem hb
   rw [he] at ho'
   cases ho'
   exact hd' _ rfl
  ·exact nold ea u (I.base.keep ea u e n hb hx) (I.base.free ea u e n hx) rfl
 ·obtain ⟨m,⟨oL,es,ep,hoL,hdL,_⟩,_⟩:=I1.loc
  rw [z,he] at hoL
  cases hoL
  cases hdL
 ·obtain ⟨v,oc,hoc,hdc⟩:=I1.cell x c e
  rw [z,he] at hoc
  cases hoc
  cases hdc
 ·obtain ⟨q1,q2,_⟩:=I.pin p hp
  exact nold p.1 p.2 q1 q2
end
def zcE (X:Cx) (E:XK):Prop:=∀ (pins:List (Addr × Obj)) (σ : St) (H:Hp) (s:Shared) (ea C:Addr) (od:Option Addr) (t:Addr),Inv X pins σ H s->H ea = some (zbM ea C od t)->X.H₀ ea = none->E (.ref C) od (drop H ea)->X.xe (.ref ea) s
def zfl (K:Frag) (H0:Hp) (E:XK) (te:TE):TS:=fun _ σ H=>te σ H fun x H1=>∃ (ea C:Addr) (od:Option Addr) (t:Addr),x = .ref ea/\H1 ea = some (zbM ea C od t)/\zff K C/\zfi K C = true/\H0 ea = none/\E (.ref C) od (drop H1 ea)
section
variable {X:Cx} {E:XK} {pos:Pos} {e:Expr} {te:TE}
theorem jH (hX:zcE X E) (hc:X.calm = true) (he:PE X e te):PS X (.Raise (some e) none pos) (zfl X.K X.H₀ E te):=by
 refine ⟨?_⟩
 intro pins s σ H D I h
 rw [arm_exec_Raise]
 refine wpAny_bind (wpAny_standAt ?_)
 unfold raiseStmt
 show wpAny _ _ (do
  let xv <- (do
   let v <- eval e X.env
   standAt pos
   pure v)
  _) _ _ _
 refine wpAny_bind (wpAny_bind (thn (he pins s σ H _ I h) fun u s1 ⟨x,H1,I1,rx,ea,C,od,t,ex,hx,c,m,hn,q⟩=>?_))
 subst ex
 obtain rfl:u = Value.ref ea:=rx
 refine wpAny_bind (wpAny_standAt (wpAny_pure ?_))
 have ho:=zcw I1 hx
 have XO:=zfh I1.kIn m
 obtain ⟨nm,q',N,bs,bm,sn,sub,ab,col,dd,k0,k1,k2,k3,k5,hC,b1,b2,b3,b4⟩:=XO.ob
 have hq:X.xe (.ref ea) s1:=hX pins σ H1 s1 ea C od t I1 hx hn q
 have LT:Looks (model X.prog X.w) s1.heap (typeOf (.ref ea)) (.ref C):=(PySem.W.Looks.ld ho).andThen .now
 have LTC:Looks (model X.prog X.w) s1.heap (typeOf (.ref C)) (.type "type"):=(PySem.W.Looks.ld hC).andThen .now
 have LB:=PySem.W.looks_mroIn (M:=model X.prog X.w) I1.kIn c.be
 have LIs:Looks (model X.prog X.w) s1.heap (isType (.ref ea)) false:=(PySem.W.Looks.ld ho).andThen .now
 have hcalm:=I1.ok.hd hc
 obtain ⟨hh,g,d,tk,os⟩:=s1
 dsimp only
 refine wpAny_bind (wpAny_pure (wpAny_bind (wpAny_holding ?_)))
 unfold excFromValue isExcClass
 refine wpAny_bind (wpAny_bind (LIs.at ?_))
 rw [if_neg Bool.false_ne_true]
 refine wpAny_pure ?_
 rw [if_neg Bool.false_ne_true]
 unfold isInstance
 refine wpAny_bind (wpAny_bind (LT.at (LB.at ?_)))
 rw [if_pos rfl]
 refine wpAny_pure ?_
 dsimp only
 refine wpAny_bind (LIs.at ?_)
 rw [if_neg Bool.false_ne_true]
 unfold raisedInstance
 refine wpAny_bind (wpAny_bind (LT.at (wpAny_bind (LTC.at ?_))))
 rw [if_pos (by decide)]
 refine wpAny_pure (wpAny_bind ?_)
 unfold setFlight
 refine wpAny_bind (wpAny_field (x:=Value.none) ho rfl rfl ?_)
 rw [if_neg (show ¬ (Value.none != Value.none) = true by decide)]
 refine wpAny_pure ?_
 unfold raiseNew
 refine wpAny_bind (wpAny_handled_none hcalm ?_)
 exact wpAny_throw hq
end
section
variable {P:Program} {w:World} {K:Frag} {mg:Str->Option Value} {base:Heap} {N:List Str} {qual:Str} {scope:Scope} {f:Addr} {cd:Value} {A:Around} {outer:List Env} {s:Shared} {H:Hp} {E E':XK}
theorem uR:zcE (ju (CXs P w) P w K mg base N qual scope f cd A outer s H E) E:=fun pins σ H1 s1 ea C od t I hx hn q=>by
 refine wpAny_mono (zdb I rfl rfl rfl hx hn) (fun _ s2 F=>?_) fun _ _ z=>z
 exact ⟨ea,_,_,_,_,rfl,F,q⟩
theorem ziY (hE:∀ c d H,E' c d H->E c d H):xj (CXs P w) (ju (CXs P w) P w K mg base N qual scope f cd A outer s H E) E':=fun pins σ H1 s1 e s' I q=>by
 obtain ⟨ea,C,od,t,H',rfl,F,q⟩:=q
 refine wpAny_mono (zgt I rfl rfl rfl F) (fun _ s2 F2=>?_) fun _ _ z=>z
 exact ⟨ea,C,od,t,H',rfl,F2,hE _ _ _ q⟩
theorem Fun.okS {x:Str} {st:Stmt} {fd:FuncData} {ps:List Str} {k:Nat} {sp:Sp} (F:Fun K x qual st f fd) (S:zm N ps (zg st)) (len:∀ vs H Q E,sp vs H Q E->vs.length = ps.length)
  (hbody:∀ (cdv:Value) (A:Around) (outer:List Env) (s:Shared) (H:Hp) (vs:List V) (Q:VK) (E:XK),yb k (A.deeper (envOfC qual (zg st) s.heap.objs.size f cdv))->sp vs H Q E->
   ∃ t,PSs (ju (CXs P w) P w K mg base N qual (zg st) f cdv A outer s H E) (zS st) t/\t { nx:=fun _ H'=>Q .non H',rt:=Q } (wX N vs) H):zp P w K mg base (CXs P w) (k + 1) f fd ps sp:=by
 obtain ⟨oc,od,kV,doc,pm,an,cdv,ct,osl,rfl,lk,hcd⟩:=F.ex
 exact zeV lk hcd S len fun A outer s H vs Q E hr hsp=>hbody cdv A outer s H vs Q E hr hsp
end
structure wn (P:Program) (w:World) (K:Frag) (mg:Str->Option Value) (base:Heap) (k:Nat) (x:Str) (f:Addr) (fd:FuncData) (ps:List Str) (sp:Sp):Prop where
 ok:zp P w K mg base (CXs P w) k f fd ps sp
 mg:mg x = some (.ref f)
 kp:keepIn K (.ref f) = true
 bd:zQ K fd ps []
section
variable {X:Cx} {k:Nat} {f:Addr} {fd:FuncData} {ps:List Str} {sp:Sp} {E:XK} {x:Str} {p pos:Pos} {e:Expr} {es:List Expr} {t:TA}
theorem cS (c:wn X.prog X.w X.K X.mg X.base k x f fd ps sp) (hp:xj (CXs X.prog X.w) X E) (hr:yb k X.A) (ha:PA X (e :: es) t) (hg:Gl X x:=by rfl) (hdb:(x == ("__debug__" : Str)) = false:=by decide)
  (h1:xS e = false:=by rfl) (h2:es.any xS = false:=by rfl):PE X (.Call (.Name x p) (e :: es) [] pos) (qW sp [] E t):=
 zcl c.ok hr hg c.mg c.kp c.bd .nil hp ha hdb (z8 h1) (xb h2)
end
abbrev HK:=Addr->Option Addr->Addr->Addr->wI->St->Hp->Prop
structure PH (X:Cx) (hs:List ExceptHandler) (th:HK):Prop where
 run:∀ (pins:List (Addr × Obj)) (σ : St) (H1:Hp) (s1:Shared) (H':Hp) (ea C:Addr) (od:Option Addr) (t:Addr) (s5:Shared) (D:wI),Inv X pins σ H1 s1->jq X.prog X.w X.stack H1 s1 C od t H' ea s5->th C od t ea D σ H'->wpAny (model X.prog X.w) X.A (handleBy (.ref ea) X.env hs) (SP X pins D) X.xe s5
def hNo (K:Frag) (C':Addr) (ts:TS) (rest:HK):HK:=fun C od t ea D σ H'=>
 (exmOne K (.ref C) (.ref C') = some true/\ts D σ (upd H' ea (zij ea C od t)))\/(exmOne K (.ref C) (.ref C') = some false/\rest C od t ea D σ H')
section
variable {X:Cx} {hs:List ExceptHandler} {th:HK} {c n:Str} {C':Addr} {i:Nat} {ts:TS} {b₀:Stmt} {suite:List Stmt} {np hpos:Pos}
theorem zhK:PH X [] (fun _ _ _ _ _ _ _=>False):=⟨fun _ _ _ _ _ _ _ _ _ _ _ _ _ h=>h.elim⟩
theorem ziV (hg:Gl X c) (hm:X.mg c = some (.ref C')) (hs':∀ ea,PSs (X.suite ea) (b₀ :: suite) ts) (hr:PH X hs th)
  (hd:(c == ("__debug__" : Str)) = false:=by decide):PH X (.ExceptHandler (some (.Name c np)) none (b₀ :: suite) hpos :: hs) (hNo X.K C' ts th):=by
 refine ⟨fun pins σ H1 s1 H' ea C od t s5 D I1 F5 h=>?_⟩
 obtain ⟨B,fl,tr,old,olds⟩:=F5.fly
 have I5:Inv X pins σ H' s5:=I1.call' F5.os F5.un F5.hok F5.bare fun b z=>nomatch z
 have LT:Looks (model X.prog X.w) s5.heap (typeOf (.ref ea)) (.ref C):=by
  obtain ⟨tb,oT,ts',he,_⟩:=fl.2.2.2
  exact (PySem.W.Looks.ld he).andThen .now
 refine wpAny_handleBy_cons (codeAny_handlers_test (xO (I5.suite ea) hg hm ?_ hd)) (by intro z; cases z)
 rcases h with ⟨hx,h⟩ | ⟨hx,h⟩
 ·refine (PySem.W.exm_one (M:=model X.prog X.w) (h:=s5.heap) I5.kIn LT hx) _ _ _ _ (fun _ _ z=>z) ?_
  refine codeAny_handlers_suite (zi7 fl fun h6 fl6 up6=>?_)
  have F6:=F5.move fl tr old olds fl6 up6
  have I6:=F6.track I1 fl6 old
  refine wpAny_mono ((hs' ea) pins _ _ _ D (I6.suite ea) h) (fun f s8 h8=>?_) fun _ _ z=>z.elim
  show SP X pins D f s8
  cases f with
  | next=>
   obtain ⟨σ',H2,I8,q8⟩:=h8
   exact ⟨_,H2,Inv.unsuite I1.ok I8,q8⟩
  | brk=>
   obtain ⟨σ',H2,I8,q8⟩:=h8
   exact ⟨_,H2,Inv.unsuite I1.ok I8,q8⟩
  | cont=>
   obtain ⟨σ',H2,I8,q8⟩:=h8
   exact ⟨_,H2,Inv.unsuite I1.ok I8,q8⟩
  | ret u=>
   obtain ⟨v,σ',H2,I8,rv,q8⟩:=h8
   exact ⟨v,_,H2,Inv.unsuite I1.ok I8,rv,q8⟩
 ·refine (PySem.W.exm_one (M:=model X.prog X.w) (h:=s5.heap) I5.kIn LT hx) _ _ _ _ (fun _ _ z=>z) ?_
  exact hr.run pins σ H1 s1 H' ea C od t s5 D I1 F5 h
end
def qN (X:Cx) (pins:List (Addr × Obj)) (σ : St) (E:XK):Prop:=∀ (H:Hp) (s:Shared) (e:Value) (s':Shared),Inv X pins σ H s->CXs X.prog X.w X.stack H s E e s'->X.xe e s'
def zix (tb:XK->TS) (th:HK):TS:=fun D σ H=>tb (fun cls od H'=>∃ C,cls = .ref C/\∀ t ea,H' ea = none->th C od t ea D σ H') D σ H
section
variable {X:Cx} {st:Stmt} {h₀:ExceptHandler} {hs:List ExceptHandler} {pos:Pos} {tb:XK->TS} {th:HK}
theorem zfF (hstk:X.stack = X.env :: X.outer) (hfl:X.env.frame = some X.env.locals) (hh:PH X (h₀ :: hs) th)
  (hb:∀ (pins:List (Addr × Obj)) (σ : St) (xe:Value->Shared->Prop) (E:XK),qN (X.wish xe) pins σ E->PS1 (X.wish xe) pins σ st (tb E)):PS X (.Try [st] (h₀ :: hs) [] [] pos) (zix tb th):=by
 refine ⟨?_⟩
 intro pins s σ H D I h
 have fr0:=I.ok.frames
 rw [hstk] at fr0
 refine wpAny_Try_except ?_
 have key:qN (X.wish (ziv X pins D (h₀ :: hs))) pins σ (fun cls od H'=>∃ C,cls = .ref C/\∀ t ea,H' ea = none->th C od t ea D σ H'):=by
  intro H1 s1 e s2 I1 q
  obtain ⟨ea,C,od,t,H',rfl,F,C0,e0,q⟩:=q
  cases e0
  have I1:=I1.unwish
  have F:jq X.prog X.w X.stack H1 s1 C od t H' ea s2:=F
  obtain ⟨B,fl,tr,old,olds⟩:=F.fly
  have fl':=fl
  rw [hstk] at fl'
  refine zeB fr0 fl'.2.2.1 hfl fl'.1 fl'.2.1 (.inr fl'.2.2.2) fun h5 y1 y2 y3 y4=>?_
  have fl5:FlS B X.stack ea C od t h5:=by rw [hstk]; exact ⟨y1,fl'.2.1,y2,y3⟩
  have F5:=F.move fl tr old olds fl5 y4
  exact hh.run pins σ H1 s1 H' ea C od t _ D I1 F5 (q t ea F.nt)
 have run:=(hb pins σ _ _ key).run s H D (I.wish _) h
 refine wpAny_execs_cons (thn run fun f s1 q=>?_)
 ·cases f with
  | next=>exact wpAny_execs_nil (wpAny_execs_nil (SP.unwish (f:=.next) q))
  | ret v=>exact SP.unwish (f:=.ret v) q
  | brk=>exact SP.unwish (f:=.brk) q
  | cont=>exact SP.unwish (f:=.cont) q
end
section
variable {X:Cx} {pins:List (Addr × Obj)} {σ : St} {e:Expr} {es:List Expr} {te:TE} {t:TA} {E:XK} {x m:Str} {p pos apos:Pos} {k:Nat} {f C:Addr} {fd:FuncData} {ps:List Str} {sp:Sp} {dvs:List V} {ds:List Value}
theorem zfO (c:wn X.prog X.w X.K X.mg X.base k x f fd ps sp) (hp:qN X pins σ E) (hr:yb k X.A) (ha:PA X (e :: es) t) (hg:Gl X x:=by rfl) (hdb:(x == ("__debug__" : Str)) = false:=by decide)
  (h1:xS e = false:=by rfl) (h2:es.any xS = false:=by rfl):PE1 X pins σ (.Call (.Name x p) (e :: es) [] pos) (qW sp [] E t):=by
 refine ⟨fun s H Q I h=>?_⟩
 refine wpAny_Call_Name_kw (xO I hg c.mg ?_ hdb)
 refine callWith_K (h₀:=X.base) I.ok.mod.kin c.kp (thn (ha pos pins s σ H _ I h) fun us s1 ⟨vs,H1,I1,r,q⟩=>⟨I1.kIn,?_⟩) (z8 h1) (xb h2)
 have r2:zJ (vs ++ []) (us ++ []):=r.append .nil
 have hl:(us ++ []).length = ps.length:=by rw [<- r2.length]; exact c.ok.len _ _ _ _ q
 refine wpAny_call (codeAny_mono (c.ok.run X.A X.stack s1 H1 ⟨us,[]⟩ (us ++ []) (vs ++ []) Q E hr I1.env0 (c.bd s1 us I1.kIn hl) r2 q) fun r s' hq=>?_)
 cases r with
 | error e=>exact hp H1 s1 e s' I1 hq
 | ok fl=>
  cases fl with
  | ret u=>exact I1.after hq
  | next=>exact False.elim hq
  | brk=>exact False.elim hq
  | cont=>exact False.elim hq
end
section
variable {X:Cx} {pins:List (Addr × Obj)} {σ : St} {H:Hp} {s:Shared} {x C t:Addr} {f:Str} {A:Around} {E:Value->Shared->Prop}
end
section
variable {X:Cx} {e:Expr} {f:Str} {pos:Pos} {ta:TE}
end
end L2
namespace L2
open PySem PySem.Spec PyProof.Rows PySem.Builtin
section
variable {prog:Program} {w:World} {A:Around} {E:Value->Shared->Prop} {s:Shared} {it ea C t:Addr} {od:Option Addr} {tb:Value} {x left step:Int} {Q:Option Value->Shared->Prop}
end
end L2
namespace L2
open PySem PySem.Spec PyProof.Rows
structure zjj (ea:Addr) (P:Program) (w:World) (K:Frag) (tg:Expr) (J:It) (fp:List Addr) (it:Addr) (tn:Nat->Heap->Prop):Prop where
 mem:it ∈ fp
 obj:∀ i h,tn i h->∀ b ∈ fp,∃ o,h.get? b = some o/\∀ v,o.data ≠ .cell v
 keep:∀ i h h',tn i h->(∀ b ∈ fp,∀ o,h.get? b = some o->h'.get? b = some o)->tn i h'
 item:∀ (X:Cx),X.prog = P->X.w = w->X.K = K->X.A.handled = some (.ref ea)->∀ (i:Nat) (pins:List (Addr × Obj)) (s:Shared) (σ : St) (H:Hp) (E:Value->Shared->Prop),Inv X pins σ H s->(∀ b ∈ fp,wH X pins H b)->tn i s.heap->J.go i H->
  wpAny (model P w) X.A (pyNext (.ref it)) (fun r s1=>∃ u,r = some u/\
   wpAny (model P w) X.A (letOwnedTupleGo tg (.ref it) u) (fun _ s2=>∃ x H',Inv X pins σ H' s2/\zL x u/\J.yld i H x H'/\tn (i + 1) s2.heap/\∀ b ∈ fp,H' b = none) E s1) E s
 done:∀ (X:Cx),X.prog = P->X.w = w->X.K = K->X.A.handled = some (.ref ea)->∀ (i:Nat) (pins:List (Addr × Obj)) (s:Shared) (σ : St) (H:Hp) (E:Value->Shared->Prop),Inv X pins σ H s->(∀ b ∈ fp,wH X pins H b)->tn i s.heap->J.stop i H->
  wpAny (model P w) X.A (pyNext (.ref it)) (fun r s1=>r = none/\Inv X pins σ H s1) E s
 self:∀ (A:Around) (i:Nat) (s:Shared) (Q:Value->Shared->Prop) (E:Value->Shared->Prop),tn i s.heap->Q (.ref it) s->wpAny (model P w) A (pyIter (.ref it)) Q E s
def zkq (X:Cx) (ea:Addr) (pins:List (Addr × Obj)) (σ : St) (tg:Expr) (R:It->Hp->Prop) (itv:Value) (s2:Shared):Prop:=
 ∃ (it:Addr) (fp:List Addr) (tn:Nat->Heap->Prop) (J:It) (H':Hp),itv = .ref it/\Inv X pins σ H' s2/\zjj ea X.prog X.w X.K tg J fp it tn/\tn 0 s2.heap/\(∀ b ∈ fp,wH X pins H' b)/\R J H'
section
variable {X:Cx} {tg:Expr}
end
section
variable {X:Cx} {pins:List (Addr × Obj)} {σ : St} {s:Shared} {sc:Scope} {fr Nc:List Str} {caps:List (Option Nat)} {elt tg iter:Expr} {ifs:List Expr} {g:TG} {tt:TT} {te:TE} {ow:List Nat} {pos pos2:Pos} {E:Value->Shared->Prop}
end
section
variable {X:Cx} {hs:List ExceptHandler} {th:HK} {c n:Str} {C':Addr} {i:Nat} {ts:TS} {b₀:Stmt} {suite:List Stmt} {np hpos:Pos}
end
section
variable {X:Cx}
end
end L2
namespace L2
open PySem PySem.Spec PyProof.Rows PySem.Builtin
section
variable {prog:Program} {w:World} {A:Around} {E:Value->Shared->Prop} {s:Shared} {it l ea C t:Addr} {od:Option Addr} {tb:Value} {i:Nat} {items:Array Value} {Q:Option Value->Shared->Prop}
end
section
variable {X:Cx} {tg:Expr}
end
section
variable {X:Cx} {sc:Scope} {elt tg iter:Expr} {ifs:List Expr} {g:TG} {tt:TT} {te:TE} {ow:List Nat} {pos:Pos}
end
def yV (a n:Nat):List Int:=(List.range n).map fun (i:Nat)=>((a + i:Nat):Int)
section
variable {X:Cx}
theorem zdj:yX X (.type "range") (fun xs H Q=>∃ a b:Nat,xs = [.int (a:Nat),.int (b:Nat)]/\∀ p,H p = none->Q (.ref p) (upd H p (.rng (a:Nat) (b:Nat)))):=by
 intro pins s σ H xs us Q I r h
 obtain ⟨a,b,rfl,q⟩:=h
 obtain ⟨u,v,rfl,ru,rv⟩:=zbW r
 obtain ⟨t,rfl⟩:=ru
 obtain ⟨t',rfl⟩:=rv
 refine call_range_2 ?_
 refine ⟨.ref s.heap.objs.size,_,I.laid (o:=.rng (a:Nat) (b:Nat)) (fun b u e=>Heap.get?_push_of_some _ e) (Nat.le_refl _) ?_,rfl,q _ (I.hok.fresh (Nat.le_refl _))⟩
 exact ⟨_,_,_,Heap.get?_push_size _ rfl⟩
theorem zaS (hc:X.calm = true):yX X (.type "list") (fun xs H Q=>∃ (p:Addr) (a b:Nat),xs = [.ref p]/\H p = some (.rng (a:Nat) (b:Nat))/\a<=900/\b<=900/\∀ l,H l = none->Q (.ref l) (upd H l (.lst ((yV a (b - a)).map V.int)))):=by
 intro pins s σ H xs us Q I r h
 obtain ⟨p,a,b,rfl,hp,ha,hb,q⟩:=h
 obtain ⟨u,rfl,ru⟩:=wo r
 cases ru
 obtain ⟨t,u',v',e⟩:=I.hok p _ hp
 refine call_list_range (n:=b - a) (I.ok.hd hc) e ?_ ?_ (by omega) fun h' tk acc c' hk he hacc=>?_
 ·exact small_one (by omega) (by omega) (by omega) (by omega)
 ·rw [rangeSize_one]
  split <;> omega
 ·have hl:acc.toList.length = (yV a (b - a)).length:=by
   unfold yV
   rw [List.length_map,List.length_range]
   simpa using hacc.1
  have hv:zJ ((yV a (b - a)).map V.int) acc.toList:=zJ.of_at hl fun i v e=>by
   obtain ⟨t,rfl⟩:=hacc.2 i v (by simpa using e)
   refine ⟨t,?_⟩
   have hi:i < b - a:=by
    have:=(List.getElem?_eq_some_iff.mp e).1
    rw [hl] at this
    unfold yV at this
    simpa using this
   have eg:(yV a (b - a)).getD i 0 = ((a + i:Nat):Int):=by
    unfold yV
    rw [List.getD_eq_getElem?_getD,List.getElem?_map,List.getElem?_range hi]
    rfl
   rw [eg]
   congr 1
   omega
  refine ⟨.ref s.heap.objs.size,_,I.laid (t':=tk) (o:=.lst ((yV a (b - a)).map V.int)) hk (Nat.le_refl _) ⟨?_,acc.toList,c',hv,by simpa using he⟩,rfl,q _ (I.hok.fresh (Nat.le_refl _))⟩
  unfold yV
  rw [List.length_map,List.length_map,List.length_range]
  have : 1000<=sizeLine:=by decide
  omega
end
end L2
namespace L2
open PySem PySem.Spec PyProof.Rows
section
variable {X:Cx}
end
section
variable {X:Cx} {hs:List ExceptHandler} {th:HK} {c n:Str} {C':Addr} {i:Nat} {ts:TS} {b₀:Stmt} {suite:List Stmt} {np hpos:Pos}
end
section
variable {P:Program} {w:World} {K:Frag} {mg:Str->Option Value} {base:Heap}
end
section
variable {X:Cx} {k:Nat} {f ea:Addr} {fd:FuncData} {ps:List Str} {sp:Addr->Sp} {x:Str} {p pos:Pos} {e:Expr} {es:List Expr} {t:TA}
end
end L2
namespace K34
open PySem L2 PyProof.Rows
section
variable {P:Program} {w:World} {K:Frag} {mg:Str->Option Value} {base:Heap} {f CF:Addr} {fd:FuncData} {c:C5} {m:MA}
end
section
variable {P:Program} {w:World} {K:Frag} {mg:Str->Option Value} {base:Heap} {f:Addr} {fd:FuncData}
end
theorem xM (a b:List Rw):nms (a ++ b) = nms a ++ nms b:=by unfold nms; rw [List.filter_append,List.map_append]
theorem vC (r:Rw):nms [r] = if z3 r.k = true then [r.z] else []:=by
 unfold nms
 cases h:z3 r.k <;> simp [h]
section
variable {H H' H'':Hp} {lp lt ll de u:Addr} {S:FS} {r:Rw} {z:Str} {b:Bool}
end
end K34
namespace L2
open PySem PySem.Spec PyProof.Rows
theorem zgi {n:Nat} (h:n<=1000):n<=sizeLine:=Nat.le_of_lt (zx h)
theorem jY {α : Type} {ys:List α} {i:Nat} {y : α} (keep : α->Bool) (hy:ys[i]? = some y):(ys.take (i + 1)).filter keep = (ys.take i).filter keep ++ (if keep y = true then [y] else []):=by
 have hi:i < ys.length:=(List.getElem?_eq_some_iff.mp hy).1
 have e:ys[i] = y:=(List.getElem?_eq_some_iff.mp hy).2
 rw [List.take_succ_eq_append_getElem hi,List.filter_append,e,List.filter_cons]
 rfl
theorem zgu {α : Type} {ys:List α} {i:Nat} (keep : α->Bool):((ys.take i).filter keep).length<=i:=by
 have:=List.length_filter_le keep (ys.take i)
 rw [List.length_take] at this
 omega
theorem zbB {α : Type} {K:Frag} {a:Addr} {xs:List V} {caps:List (Option Nat)} {g:TG} {tt:TT} {te:TE} {σ : L2.St} {H1:Hp} {Q:VK} {D:Addr} (ys:List α) (keep : α->Bool) (out : α->V) (hD:H1 D = none) (ha:SqL K H1 a xs) (hl:xs.length = ys.length) (hn:xs.length<=1000)
  (hs:∀ (i:Nat) (x:V) (y : α) (H:Hp) (N:VK) (S:Hp->Prop),xs[i]? = some x->ys[i]? = some y->zl H1 H->(∀ H',zl H H'->keep y = true->N (out y) H')->(∀ H',zl H H'->keep y = false->S H')->g x (yS caps σ) H fun σ2 H2=>tt σ2 H2 fun ok H3=>(ok = true->te σ2 H3 N)/\(ok = false->S H3))
  (hd:∀ H,zl H1 H->H D = some (.lst ((ys.filter keep).map out))->Q (.ref D) H):LCr (Itl K a) caps g tt te σ H1 Q D:=by
 refine xt (K:=K) (xs:=xs) (fun i zs H'=>zl H1 H'/\H' D = some (.lst zs)/\zs = ((ys.take i).filter keep).map out) ⟨zc hD _,za,rfl⟩ (fun i zs H' h=>h.1.seq ha) ?_ ?_
 ·rintro i x zs H' hlt hx ⟨sH,hDy,ez⟩
  obtain ⟨y,hy⟩:∃ y,ys[i]? = some y:=⟨_,List.getElem?_eq_getElem (by omega)⟩
  refine hs i x y H' _ _ hx hy sH (fun H2 s2 hk=>?_) (fun H2 s2 hk=>?_)
  ·refine lcN.mk hlt (zgi hn) (s2 _ _ hDy) (by rw [ez,List.length_map]; exact zgu _) ⟨fun b' u e=>?_,za,?_⟩
   ·rw [zf (ze e hD)]
    exact s2 _ _ (sH b' u e)
   ·rw [ez,jY keep hy,if_pos hk,List.map_append]
    rfl
  ·refine lcS.mk hlt ⟨sH.trans s2,s2 _ _ hDy,?_⟩
   rw [ez,jY keep hy,if_neg (by rw [hk]; exact Bool.false_ne_true),List.append_nil]
 ·rintro zs H2 ⟨s2,hDy,ez⟩
  rw [List.take_of_length_le (by omega)] at ez
  rw [ez] at hDy
  exact hd H2 s2 hDy
end L2
namespace K34
open PySem L2 PyProof.Rows
section
variable {P:Program} {w:World} {K:Frag} {mg:Str->Option Value} {base:Heap} {f:Addr} {fd:FuncData}
end
section
variable {K:Frag} {c:C5}
end
section
variable {K:Frag} {ok:Addr->Prop} {H:Hp} {n:Nat}
end
end K34
namespace L2
open PySem PySem.Spec PyProof.Rows
end L2
namespace K34
open PySem L2 PyProof.Rows
section
variable {K:Frag} {H0 H' H'':Hp} {l a b:Addr} {vs ys:List V} {ct:List yo} {ts:List Int} {ps:List (Str × Int)}
end
section
variable {P:Program} {w:World} {K:Frag} {mg:Str->Option Value} {base:Heap} {f:Addr} {fd:FuncData}
end
end K34
namespace L2
open PySem PySem.Spec PyProof.Rows PySem.Builtin
section
variable {prog:Program} {w:World} {A:Around} {E:Value->Shared->Prop} {s:Shared} {it l ea C t:Addr} {od:Option Addr} {tb:Value} {i:Nat} {items:Array Value} {Q:Option Value->Shared->Prop}
end
section
variable {prog:Program} {w:World} {A:Around} {E:Value->Shared->Prop} {s:Shared} {ea C tt:Addr} {od:Option Addr} {tb:Value}
end
end L2
namespace L2
open PySem PySem.Spec PyProof.Rows
section
variable {X:Cx} {tg:Expr}
end
theorem zbV {α : Type} {R:Addr->α->Prop} {us:List Addr} {rows:List α} (h:Paired R us rows) (keep : α->Bool) (out : α->V):((us.zip rows).filter fun p=>keep p.2).map (fun p=>out p.2) = (rows.filter keep).map out:=by
 induction h with
 | nil=>rfl
 | cons r t ih=>
  rename_i u y us ys
  rw [List.zip_cons_cons,List.filter_cons,List.filter_cons]
  cases hk:keep y with
  | true=>rw [if_pos rfl,if_pos rfl,List.map_cons,List.map_cons,ih]
  | false=>rw [if_neg Bool.false_ne_true,if_neg Bool.false_ne_true,ih]
theorem zbA {α : Type} {K:Frag} {a:Addr} {us:List Addr} {rows:List α} {caps:List (Option Nat)} {g:TG} {tt:TT} {te:TE} {σ : L2.St} {H1:Hp} {Q:VK} {D:Addr} (R:Hp->Addr->α->Prop) (keep : α->Bool) (out:Addr->α->V) (hD:H1 D = none) (ha:H1 a = some (.lst (us.map V.ref))) (hu:Paired (R H1) us rows) (hn:rows.length<=1000)
  (hs:∀ (i:Nat) (u:Addr) (y : α) (H:Hp) (N:VK) (S:Hp->Prop),us[i]? = some u->rows[i]? = some y->R H1 u y->zl H1 H->(∀ H',zl H H'->keep y = true->N (out u y) H')->(∀ H',zl H H'->keep y = false->S H')->g (.ref u) (yS caps σ) H fun σ2 H2=>tt σ2 H2 fun ok H3=>(ok = true->te σ2 H3 N)/\(ok = false->S H3))
  (hd:∀ H,zl H1 H->H D = some (.lst (((us.zip rows).filter fun p=>keep p.2).map fun p=>out p.1 p.2))->Q (.ref D) H):LCr (Itl K a) caps g tt te σ H1 Q D:=by
 have hl:us.length = rows.length:=hu.length
 have lz:(us.zip rows).length = rows.length:=by rw [List.length_zip,hl,Nat.min_self]
 refine zbB (K:=K) (xs:=us.map V.ref) (us.zip rows) (fun p=>keep p.2) (fun p=>out p.1 p.2) hD (SqL.of ha) (by rw [List.length_map,lz,hl]) (by rw [List.length_map,hl]; exact hn) (fun i x y H N S hx hy sH n1 s1=>?_) hd
 have hi:i < rows.length:=by rw [<- lz]; exact (List.getElem?_eq_some_iff.mp hy).1
 have e1:(us.zip rows)[i]? = some (us[i],rows[i]):=by
  rw [List.getElem?_eq_getElem (by omega),List.getElem_zip]
 rw [e1] at hy
 cases hy
 have hu1:us[i]? = some us[i]:=List.getElem?_eq_getElem (by omega)
 rw [List.getElem?_map,hu1] at hx
 cases hx
 obtain ⟨d,hd',hr⟩:=Paired.get hu hu1
 have e2:rows[i]? = some rows[i]:=List.getElem?_eq_getElem hi
 rw [e2] at hd'
 cases hd'
 exact hs i us[i] rows[i] H N S hu1 e2 hr sH n1 s1
section
variable {X:Cx} {pins:List (Addr × Obj)} {σ : St} {e o:Expr} {es:List Expr} {ta:TE} {t:TA} {E:XK} {m:Str} {pos apos:Pos} {k:Nat} {f C:Addr} {fd:FuncData} {ps:List Str} {sp:Sp}
end
section
variable {X:Cx} {elts:List Expr} {x1:Nat} {tpos:Pos}
end
theorem vi {prog:Program} {w:World} {A:Around} {E:Value->Shared->Prop} {s:Shared} {b:Bool} {Q:Int->Shared->Prop} (h:Q (hashInt (if b then 1 else 0)) { s with toks:=s.toks + 1 }) :
  wpAny (model prog w) A (pyHash (.bool b)) Q E s:=by
 have hr:=rawHash_range (if b then 1 else 0)
 have hT:s.TypeIs (.bool b) "bool":=rfl
 unfold pyHash
 have hv:[Value.bool b].any Value.onHeap = false:=rfl
 refine wpAny_bind ?_
 rw [cRoomFor,if_neg (by rw [hv]; exact Bool.false_ne_true)]; refine wpAny_pure ?_
 refine wpAny_bind (wpAny_specialOf hT PySem.F.slot_bool_hash.lookup ?_)
 show wpAny _ _ (if (some (Value.builtin "int.__hash__") == some Value.none) = true then _ else _) Q E s
 rw [if_neg (by rw [beq_builtin_none]; exact Bool.false_ne_true)]
 refine wpAny_bind (wpAny_specialOf hT PySem.F.slot_bool_hash.lookup ?_)
 show wpAny _ _ (callSpecialIfBoundUnlessNone? (.bool b) "__hash__" _ >>= _) Q E s
 refine wpAny_bind (wpAny_callSpecialIfBoundUnlessNone?_slot hT PySem.F.slot_bool_hash
  (wpAny_call_entry PySem.F.slot_bool_hash hT entry_int_hash
   (show wpAny _ _ (do ret (<- mkInt (rawHash (if b then 1 else 0)))) _ _ s from wpAny_ret_mkInt ?_) (args_int_hash _)))
 show wpAny _ _ (if (decide (-(2:Int) ^ 63<=rawHash (if b then 1 else 0)) && decide (rawHash (if b then 1 else 0) < 2 ^ 63)) = true then _ else _) Q E _
 rw [if_pos (by rw [decide_eq_true hr.1,decide_eq_true hr.2]; rfl)]
 exact wpAny_pure h
abbrev SB:=Str ⊕ Bool
def sbV:SB->V
 | .inl x=>.str x
 | .inr b=>.bl b
def ziQ:SB->Value->Bool
 | .inl x,.str y _=>y == x
 | .inr b,.bool c=>c == b
 | _,_=>false
theorem yy {k:SB} {v:Value} (h:ziQ k v = true):(∃ x t,k = .inl x/\v = .str x t)\/∃ b,k = .inr b/\v = .bool b:=by
 cases k with
 | inl x=>
  cases v with
  | str y t=>
   have h':(y == x) = true:=h
   exact .inl ⟨x,t,rfl,by rw [eq_of_beq h']⟩
  | _=>cases h
 | inr b=>
  cases v with
  | bool c=>
   have h':(c == b) = true:=h
   exact .inr ⟨b,rfl,by rw [eq_of_beq h']⟩
  | _=>cases h
def sbH (w:World):SB->Int
 | .inl x=>hashStr w x
 | .inr b=>hashInt (if b then 1 else 0)
def vc (prog:Program) (w:World):PySem.KeyKind prog w SB where
 is:=ziQ
 hash:=sbH w
 inj:=fun v a b ha hb=>by
  rcases yy ha with ⟨x,t,rfl,rfl⟩ | ⟨c,rfl,rfl⟩
  ·rcases yy hb with ⟨y,u,rfl,e⟩ | ⟨d,rfl,e⟩
   ·injection e with e1 _; rw [e1]
   ·exact nomatch e
  ·rcases yy hb with ⟨y,u,rfl,e⟩ | ⟨d,rfl,e⟩
   ·exact nomatch e
   ·injection e with e1; rw [e1]
 byValue:=fun k v h=>by
  rcases yy h with ⟨x,t,rfl,rfl⟩ | ⟨b,rfl,rfl⟩ <;> rfl
 pyHash:=fun hv h=>by
  rcases yy hv with ⟨x,t,rfl,rfl⟩ | ⟨b,rfl,rfl⟩
  ·exact wpAny_pyHash_str h
  ·exact vi h
 eqBool:=fun hu hv h=>by
  rcases yy hu with ⟨x,t,rfl,rfl⟩ | ⟨b,rfl,rfl⟩
  ·rcases yy hv with ⟨y,u,rfl,rfl⟩ | ⟨d,rfl,rfl⟩
   ·refine wpAny_eqBool_str ?_
    have e:decide ((Sum.inl x:SB) = Sum.inl y) = decide (x = y):=by simp
    rwa [e] at h
   ·refine SeqAt.EqAt.str_bool x t d _ _ _ _ ?_
    have e:decide ((Sum.inl x:SB) = Sum.inr d) = false:=decide_eq_false (fun q=>nomatch q)
    rwa [e] at h
  ·rcases yy hv with ⟨y,u,rfl,rfl⟩ | ⟨d,rfl,rfl⟩
   ·refine SeqAt.EqAt.bool_str b y u _ _ _ _ ?_
    have e:decide ((Sum.inr b:SB) = Sum.inl y) = false:=decide_eq_false (fun q=>nomatch q)
    rwa [e] at h
   ·refine SeqAt.EqAt.bool_bool b d _ _ _ _ ?_
    have e:decide ((Sum.inr b:SB) = Sum.inr d) = (b == d):=by cases b <;> cases d <;> decide
    rwa [e] at h
 «strs»:=fun k x t v h=>by
  rcases yy h with ⟨y,u,rfl,e⟩ | ⟨b,rfl,e⟩
  ·injection e with e1 _
   subst e1
   cases v <;> rfl
  ·exact nomatch e
theorem zhr {P:Program} {w:World} {k:SB} {u:Value} (r:zL (sbV k) u):(vc P w).is k u = true:=by
 cases k with
 | inl x=>
  obtain ⟨t,e⟩:=(show ∃ t,u = Value.str x t from r)
  subst e
  show (x == x) = true
  exact beq_self_eq_true x
 | inr b=>
  have e:u = Value.bool b:=r
  subst e
  show (b == b) = true
  exact beq_self_eq_true b
theorem zac {P:Program} {w:World}:∀ {ks:List SB} {us:List Value},zJ (ks.map sbV) us->ItemsAre (vc P w) ks us
 | [],_,r=>by rw [List.map_nil] at r; cases r; exact .nil
 | k :: ks,_,r=>by
  rw [List.map_cons] at r
  cases r with
  | cons h t=>exact .cons (zhr h) (zac t)
theorem zdL {P:Program} {w:World} {H:Hp} {h:Heap} {a:Addr} {ks:List SB} (ok:HOk P w H h) (e:H a = some (.tup (ks.map sbV))):(tupleKind (vc P w)).is h ks a:=by
 obtain ⟨_,its,r,o,h1,h2,n,h3⟩:=(show ye P w H h a (.tup (ks.map sbV)) from ok a _ e)
 exact ⟨o,its.toArray,n,h1,h2,h3,by simpa using zac r⟩
def dBφ (P:Program) (w:World) (a:Addr) (xs:List (List SB × Addr × Value)):Heap->Prop:=fun h=>∃ o es ep,h.get? a = some o/\o.ExactDict/\o.data = .dict es ep/\es.toList = xs.map (entryOfKey (tupleKind (vc P w)))/\(xs.map (·.1)).Nodup
abbrev KB (H:Hp):List (List SB × V)->List (List SB × Addr × Value)->Prop:=Paired fun p q=>p.1 = q.1/\H q.2.1 = some (.tup (p.1.map sbV))/\zL p.2 q.2.2
def DB (P:Program) (w:World) (H:Hp) (a:Addr) (kvs:List (List SB × V)):Prop:=∃ xs,H a = some (.ext (dBφ P w a xs))/\KB H kvs xs
theorem DB.same {P:Program} {w:World} {H H':Hp} {a:Addr} {kvs:List (List SB × V)} (h:DB P w H a kvs) (s:zl H H'):DB P w H' a kvs:=by
 obtain ⟨xs,h1,h2⟩:=h
 exact ⟨xs,s _ _ h1,Paired.mapP h2 fun _ _ z=>⟨z.1,s _ _ z.2.1,z.2.2⟩⟩
theorem KB.val {H:Hp} {kvs:List (List SB × V)} {xs:List (List SB × Addr × Value)} (r:KB H kvs xs) (k:List SB):wm (zA kvs k) ((atKey xs k).map (·.2)):=by
 induction r with
 | nil=>exact True.intro
 | @cons p q ps qs h t ih=>
  obtain ⟨h1,_,h2⟩:=h
  by_cases e:p.1 = k
  ·have e':q.1 = k:=h1.symm.trans e
   have b:atKey (q :: qs) k = some q.2:=by simp [atKey,List.find?_cons,e']
   rw [yC e,b]; exact h2
  ·have e':¬ q.1 = k:=fun z=>e (h1.trans z)
   have b:atKey (q :: qs) k = atKey qs k:=by simp [atKey,List.find?_cons,e']
   rw [yD e,b]; exact ih
theorem KB.repl {H:Hp} {kvs:List (List SB × V)} {xs:List (List SB × Addr × Value)} (r:KB H kvs xs) (k:List SB) {y:V} {u:Value} (ry:zL y u) :
  KB H (kvs.map fun kv=>if kv.1 = k then (kv.1,y) else kv) (xs.map (putAt k u)):=by
 induction r with
 | nil=>exact .nil
 | @cons p q ps qs h t ih=>
  rw [List.map_cons,List.map_cons]
  refine .cons ?_ ih
  obtain ⟨h1,h2,h3⟩:=h
  unfold putAt
  by_cases e:p.1 = k
  ·rw [if_pos e,if_pos (h1.symm.trans e)]; exact ⟨h1,h2,ry⟩
  ·rw [if_neg e,if_neg (fun z=>e (h1.trans z))]; exact ⟨h1,h2,h3⟩
theorem KB.put {H:Hp} {kvs:List (List SB × V)} {xs:List (List SB × Addr × Value)} (r:KB H kvs xs) (k:List SB) {b:Addr} {y:V} {u:Value} (hb:H b = some (.tup (k.map sbV))) (ry:zL y u) :
  KB H (yq kvs k y) (storedH xs k b u):=by
 have e:(kvs.any fun kv=>decide (kv.1 = k)) = (atKey xs k).isSome:=by
  rw [xa,(r.val k).isSome_eq,Option.isSome_map]
 unfold yq storedH
 rw [e]
 by_cases q:(atKey xs k).isSome = true
 ·rw [if_pos q,if_pos q]; exact r.repl k ry
 ·rw [if_neg q,if_neg q]; exact Paired.snoc r ⟨rfl,hb,ry⟩
theorem KB.keys {P:Program} {w:World} {H:Hp} {h:Heap} (ok:HOk P w H h):∀ {kvs:List (List SB × V)} {xs:List (List SB × Addr × Value)},KB H kvs xs->∀ x ∈ xs,(tupleKind (vc P w)).is h x.1 x.2.1:=by
 intro kvs xs r
 induction r with
 | nil=>intro x hx; exact nomatch hx
 | @cons p q ps qs hq t ih=>
  intro x hx
  rcases List.mem_cons.mp hx with e | hx
  ·subst e
   exact zdL ok (by rw [<- hq.1]; exact hq.2.1)
  ·exact ih x hx
theorem zgY {P:Program} {w:World} {H:Hp} {h:Heap} {a:Addr} {xs:List (List SB × Addr × Value)} {kvs:List (List SB × V)} (ok:HOk P w H h) (e:H a = some (.ext (dBφ P w a xs))) (r:KB H kvs xs):h.DictOfH (tupleKind (vc P w)) a xs:=by
 obtain ⟨⟨o,es,ep,h1,h2,h3,h4,h5⟩,_⟩:=(show ye P w H h a (.ext (dBφ P w a xs)) from ok a _ e)
 exact ⟨o,es,ep,h1,h2,h3,h4,r.keys ok,h5⟩
section
variable {P:Program} {w:World} {A:Around} {R:Result->Shared->Prop} {I:Addr} {fp wr:List Addr} {G:Array GenState->Array GenState->Prop} {n:Nat} {Pr:Nat->Value->Prop} {Sg:Nat->Shared->Prop}
end
end L2
namespace K34
open PySem L2 PyProof.Rows
section
variable {P:Program} {w:World} {K:Frag} {mg:Str->Option Value} {base:Heap} {f CF N:Addr} {fd:FuncData} {c:C5}
end
section
variable {P:Program} {w:World} {K:Frag} {mg:Str->Option Value} {base:Heap} {f CF:Addr} {fd:FuncData} {c:C5}
end
theorem zbX {κ : Type} [DecidableEq κ] {kvs:List (κ × V)} {k k' : κ} {v:V}:zA (yq kvs k v) k' = if k' = k then some v else zA kvs k':=qS kvs k k' v
theorem uW (r:Rw) (rs:List Rw):nms (r :: rs) = (if z3 r.k = true then [r.z] else []) ++ nms rs:=by
 have:=xM [r] rs
 rw [vC] at this
 exact this
theorem jj {z:Str}:∀ (rows:List Rw) (i:Nat) (acc:List (Key × V)),z ∉ nms rows->zA (yB i acc rows) (.inr z) = zA acc (.inr z)
 | [],_,_,_=>rfl
 | r :: rs,i,acc,h=>by
  rw [uW] at h
  have h2:z ∉ nms rs:=fun e=>h (List.mem_append_right _ e)
  show zA (yB (i + 1) _ rs) (.inr z) = _
  rw [jj rs (i + 1) _ h2]
  split
  next e=>
   rw [zbX,if_neg]
   intro e2
   rw [if_pos e] at h
   exact h (by rw [Sum.inr.inj e2]; exact List.mem_append_left _ (List.mem_singleton.mpr rfl))
  ·rfl
theorem vH {r:Rw} (hb:z3 r.k = true):∀ (rows:List Rw) (i j:Nat) (acc:List (Key × V)),rows[j]? = some r->(nms rows).Nodup->zA (yB i acc rows) (.inr r.z) = some (.int ((i + j:Nat):Int))
 | [],_,_,_,h,_=>by simp at h
 | y :: ys,i,0,acc,h,nd=>by
  have e:y = r:=by simpa using h
  subst e
  rw [uW,if_pos hb] at nd
  have hz:y.z ∉ nms ys:=(List.nodup_cons.mp nd).1
  show zA (yB (i + 1) (if z3 y.k = true then yq acc (.inr y.z) (.int i) else acc) ys) (.inr y.z) = _
  rw [jj ys (i + 1) _ hz,if_pos hb,zbX,if_pos rfl]
  rfl
 | y :: ys,i,j + 1,acc,h,nd=>by
  rw [uW] at nd
  have nd2:=(List.nodup_append.mp nd).2.1
  show zA (yB (i + 1) _ ys) (.inr r.z) = _
  rw [vH hb ys (i + 1) j _ (by simpa using h) nd2,show i + 1 + j = i + (j + 1) by omega]
theorem zfk {a b:List (Str × Nat)} {z:Str} {v:V} (h:zA (kvP a) (.inr z) = some v):zA (kvP (a ++ b)) (.inr z) = some v:=by
 unfold zA at h |-
 unfold kvP at h |-
 rw [List.map_append,List.find?_append]
 cases e:(a.map fun p=>((Sum.inr p.1:Key),V.int (p.2:Nat))).find? fun kv=>decide (kv.1 = .inr z) with
 | none=>rw [e] at h; cases h
 | some kv=>rw [e] at h; exact h
theorem zfj {a:List (Str × Nat)} {z:Str} {i:Nat} (h:(a.any fun p=>decide (p.1 = z)) = false):zA (kvP (a ++ [(z,i)])) (.inr z) = some (.int (i:Nat)):=by
 have e0:zA (kvP a) (.inr z) = none:=by
  rw [<- xu] at h
  exact Option.not_isSome_iff_eq_none.mp (by rw [h]; exact Bool.false_ne_true)
 unfold zA at e0 |-
 unfold kvP at e0 |-
 rw [List.map_append,List.find?_append]
 cases e:(a.map fun p=>((Sum.inr p.1:Key),V.int (p.2:Nat))).find? fun kv=>decide (kv.1 = .inr z) with
 | none=>
  rw [Option.none_or,List.map_cons,List.find?_cons,decide_eq_true rfl]
  rfl
 | some kv=>rw [e] at e0; cases e0
theorem qa {z:Str} {v:V}:∀ (zs:List Str) (i:Nat) (acc:List (Str × Nat)),zA (kvP acc) (.inr z) = some v->zA (kvP (fpF i acc zs)) (.inr z) = some v
 | [],_,_,h=>h
 | y :: ys,i,acc,h=>by
  show zA (kvP (fpF (i + 1) (if (acc.any fun p=>decide (p.1 = y)) = true then acc else acc ++ [(y,i)]) ys)) _ = _
  split
  ·exact qa ys (i + 1) acc h
  ·exact qa ys (i + 1) _ (zfk h)
theorem zgC {acc:List (Str × Nat)} {z:Str}:(acc.any fun p=>decide (p.1 = z)) = decide (z ∈ acc.map (·.1)):=by
 rw [Bool.eq_iff_iff,List.any_eq_true,decide_eq_true_eq,List.mem_map]
 exact ⟨fun ⟨p,h1,h2⟩=>⟨p,h1,of_decide_eq_true h2⟩,fun ⟨p,h1,h2⟩=>⟨p,h1,decide_eq_true h2⟩⟩
theorem zbL:∀ (a b:List Str) (j:Nat) (acc:List (Str × Nat)),fpF j acc (a ++ b) = fpF (j + a.length) (fpF j acc a) b
 | [],_,_,_=>rfl
 | z :: zs,b,j,acc=>by
  show fpF (j + 1) _ (zs ++ b) = fpF (j + (zs.length + 1)) (fpF (j + 1) _ zs) b
  rw [zbL zs b (j + 1),show j + 1 + zs.length = j + (zs.length + 1) by omega]
theorem zeU:∀ (zs:List Str) (j:Nat) (acc:List (Str × Nat)),(∀ p ∈ acc,p.2 < j)->∀ p ∈ fpF j acc zs,p.2 < j + zs.length
 | [],_,_,h,p,hp=>h p hp
 | z :: zs,j,acc,h,p,hp=>by
  have h2:=zeU zs (j + 1) _ (fun q hq=>?_) p hp
  ·rw [List.length_cons]; omega
  ·split at hq
   ·have:=h q hq; omega
   ·rcases List.mem_append.mp hq with hq | hq
    ·have:=h q hq; omega
    ·rw [List.mem_singleton.mp hq]; exact Nat.lt_succ_self _
theorem za0 {zs:List Str} {i:Nat} {z:Str} (h:zs[i]? = some z):zs.take (i + 1) = zs.take i ++ [z]:=by
 have hi:i < zs.length:=(List.getElem?_eq_some_iff.mp h).1
 have e:zs[i] = z:=(List.getElem?_eq_some_iff.mp h).2
 rw [List.take_succ_eq_append_getElem hi,e]
theorem zct {zs:List Str} {i:Nat} {z:Str} (h:zs[i]? = some z):fpF 0 [] (zs.take (i + 1)) = if ((fpF 0 [] (zs.take i)).any fun p=>decide (p.1 = z)) = true then fpF 0 [] (zs.take i) else fpF 0 [] (zs.take i) ++ [(z,i)]:=by
 have hi:i < zs.length:=(List.getElem?_eq_some_iff.mp h).1
 rw [za0 h,zbL]
 have el : 0 + (zs.take i).length = i:=by rw [List.length_take]; omega
 rw [el]
 rfl
theorem ze5 {zs:List Str} {i:Nat} {z:Str} (h:zs[i]? = some z):decide (zA (kvP (fpZ zs)) (.inr z) = some (.int (i:Nat))) = !((fpF 0 [] (zs.take i)).any fun p=>decide (p.1 = z)):=by
 have hi:i < zs.length:=(List.getElem?_eq_some_iff.mp h).1
 have e:fpZ zs = fpF (i + 1) (fpF 0 [] (zs.take (i + 1))) (zs.drop (i + 1)):=by
  unfold fpZ
  conv=>lhs; rw [<- List.take_append_drop (i + 1) zs,zbL]
  rw [show 0 + (zs.take (i + 1)).length = i + 1 by rw [List.length_take]; omega]
 cases hb:(fpF 0 [] (zs.take i)).any fun p=>decide (p.1 = z) with
 | true=>
  have hs:(zA (kvP (fpF 0 [] (zs.take i))) (.inr z)).isSome = true:=by rw [xu]; exact hb
  obtain ⟨v,hv⟩:=Option.isSome_iff_exists.mp hs
  obtain ⟨z',j,ez,ev,hm⟩:=ut hv
  have hj:=zeU (zs.take i) 0 [] (fun p hp=>by cases hp) _ hm
  rw [List.length_take] at hj
  have h2:=zct h
  rw [hb,if_pos rfl] at h2
  have h3:=qa (z:=z) (v:=v) (zs.drop (i + 1)) (i + 1) (fpF 0 [] (zs.take (i + 1))) (by rw [h2]; exact hv)
  rw [e,h3,ev]
  refine decide_eq_false fun e2=>?_
  have:(j:Int) = (i:Int):=V.int.inj (Option.some.inj e2)
  have hj':j < 0 + min i zs.length:=hj
  omega
 | false=>
  have h2:=zct h
  rw [hb,if_neg (by decide)] at h2
  have h3:=qa (z:=z) (v:=.int (i:Nat)) (zs.drop (i + 1)) (i + 1) (fpF 0 [] (zs.take (i + 1))) (by rw [h2]; exact zfj hb)
  rw [e,h3]
  exact decide_eq_true rfl
def uz (rows:List Rw) (bars:List Str) (many:Nat) (z:Str):Str:=(ya rows bars many z).getD ""
theorem qR {rows:List Rw} {bars:List Str} {many:Nat} {z:Str} (nd:(nms rows).Nodup) (h:z ∉ bars) {l:Nat} {r:Rw} (hl:rows[l]? = some r) (hb:z3 r.k = true) (he:r.z = z):uz rows bars many z = if l < min many (plN rows) then "again" else "":=by
 have hv:=vH hb rows 0 l [] hl nd
 rw [he] at hv
 have e1:ya.lastD' z rows = some l:=by unfold ya.lastD'; rw [hv,Nat.zero_add]; rfl
 unfold uz ya
 rw [if_neg h,e1]
 show (if l < plN rows/\l < many then some ("again" : Str) else none).getD "" = _
 by_cases hc:l < plN rows/\l < many
 ·rw [if_pos hc,if_pos (by omega)]; rfl
 ·rw [if_neg hc,if_neg (by omega)]; rfl
theorem jA {rows:List Rw} {bars:List Str} {many:Nat} {z:Str}:ya rows bars many z = if uz rows bars many z = "" then none else some (uz rows bars many z):=by
 unfold uz
 cases h:ya rows bars many z with
 | none=>rfl
 | some x=>
  have hx:x ≠ "":=by
   unfold ya at h
   split at h
   ·cases h; decide +kernel
   ·split at h
    ·split at h
     ·cases h
     ·cases h; decide +kernel
    ·split at h
     ·cases h; decide +kernel
     ·cases h
  rw [if_neg (show ¬ (some x).getD "" = "" from hx)]
  rfl
theorem zgk {r:Rw} {i many:Nat} {fk:List (Key × V)}:z6 r i many fk = (!fr r.k r.b && !(y7 r.k && decide (i < many)) && !(z3 r.k && (zA fk (.inr r.z)).isSome)):=by
 unfold z6 qz
 by_cases h1:y7 r.k = true/\i < many
 ·rw [if_pos h1,h1.1,decide_eq_true h1.2]
  have e:L2.eqT [.str "place",.int (i:Nat)] [.str "free"] = false:=rfl
  rw [e]
  simp
 ·rw [if_neg h1]
  have hn:(y7 r.k && decide (i < many)) = false:=by
   cases hp:y7 r.k with
   | false=>rfl
   | true=>exact decide_eq_false fun h=>h1 ⟨hp,h⟩
  rw [hn]
  by_cases h2:z3 r.k = true/\(zA fk (.inr r.z)).isSome = true
  ·rw [if_pos h2,h2.1,h2.2]
   have e:∀ v,L2.eqT [.str "name",v] [.str "free"] = false:=fun v=>by unfold L2.eqT; simp
   rw [e]
   simp
  ·rw [if_neg h2]
   have hn2:(z3 r.k && (zA fk (.inr r.z)).isSome) = false:=by
    cases hp:z3 r.k with
    | false=>rfl
    | true=>
     cases hq:(zA fk (.inr r.z)).isSome with
     | false=>rfl
     | true=>exact absurd ⟨hp,hq⟩ h2
   rw [hn2]
   have e:L2.eqT [.str "free"] [.str "free"] = true:=by unfold L2.eqT; simp [List.range_succ,eqV]
   rw [e]
   simp
theorem qD {zs:List Str} {z:Str}:(zA (kvP (fpZ zs)) (.inr z)).isSome = decide (z ∈ zs):=by
 rw [xu,Bool.eq_iff_iff,decide_eq_true_eq]
 constructor
 ·intro h
  have key:∀ (zs:List Str) (i:Nat) (acc:List (Str × Nat)),((fpF i acc zs).any fun p=>decide (p.1 = z)) = true->(acc.any fun p=>decide (p.1 = z)) = true\/z ∈ zs:=by
   intro zs
   induction zs with
   | nil=>exact fun i acc h=>.inl h
   | cons y ys ih=>
    intro i acc h
    rcases ih (i + 1) _ h with h | h
    ·split at h
     ·exact .inl h
     ·rw [List.any_append,Bool.or_eq_true] at h
      rcases h with h | h
      ·exact .inl h
      ·right
       simp at h
       rw [h]
       exact List.mem_cons_self
    ·exact .inr (List.mem_cons_of_mem _ h)
  rcases key zs 0 [] h with h | h
  ·simp at h
  ·exact h
 ·exact fun h=>zbK zs 0 [] h
theorem ux {zs:List Str} {z:Str}:z ∈ (fpZ zs).map (·.1) ↔ z ∈ zs:=by
 have h1:((fpZ zs).any fun p=>decide (p.1 = z)) = decide (z ∈ zs):=by rw [<- xu,qD]
 rw [zgC,Bool.eq_iff_iff,decide_eq_true_eq,decide_eq_true_eq] at h1
 exact h1
theorem zbY {rows:List Rw} {bars:List Str} {many:Nat} {zs:List Str}:wt rows bars many (fpZ zs) = [] ↔ ∀ z ∈ zs,ya rows bars many z = none:=by
 unfold wt
 rw [List.filterMap_eq_nil_iff]
 constructor
 ·intro h z hz
  obtain ⟨p,hp,rfl⟩:=List.mem_map.mp (ux.mpr hz)
  have:=h p hp
  rwa [Option.map_eq_none_iff] at this
 ·intro h p hp
  rw [Option.map_eq_none_iff]
  exact h _ (ux.mp (List.mem_map.mpr ⟨p,hp,rfl⟩))
theorem zaM {fk:List (Key × V)}:∀ (zs:List Str) (i:Nat),xG fk i zs = [] ↔ ∀ j z,zs[j]? = some z->zA fk (.inr z) = some (.int ((i + j:Nat):Int))
 | [],i=>by simp [xG]
 | y :: ys,i=>by
  show (if zA fk (.inr y) = some (.int (i:Nat)) then [] else [(("doubled" : Str),i)]) ++ xG fk (i + 1) ys = [] ↔ _
  rw [List.append_eq_nil_iff,zaM ys (i + 1)]
  constructor
  ·rintro ⟨h1,h2⟩ j z hj
   cases j with
   | zero=>
    have:y = z:=by simpa using hj
    subst this
    split at h1
    next e=>exact e
    ·cases h1
   | succ j=>
    have:=h2 j z (by simpa using hj)
    rw [this]
    congr 3
    omega
  ·intro h
   refine ⟨?_,fun j z hj=>?_⟩
   ·have h0:=h 0 y rfl
    rw [Nat.add_zero] at h0
    rw [if_pos h0]
   ·have:=h (j + 1) z (by simpa using hj)
    rw [this]
    congr 3
    omega
theorem fpT {zs:List Str} {z:Str}:((fpF 0 [] zs).any fun p=>decide (p.1 = z)) = decide (z ∈ zs):=by
 have:=qD (zs:=zs) (z:=z)
 rw [xu] at this
 exact this
theorem zcB {zs:List Str}:xG (kvP (fpZ zs)) 0 zs = [] ↔ zs.Nodup:=by
 rw [zaM,List.nodup_iff_pairwise_ne]
 constructor
 ·intro h
  rw [List.pairwise_iff_getElem]
  intro i j hi hj hij e
  have h1:=ze5 (zs:=zs) (i:=j) (z:=zs[j]) (List.getElem?_eq_getElem hj)
  have h2:=h j _ (List.getElem?_eq_getElem hj)
  rw [Nat.zero_add] at h2
  rw [decide_eq_true h2,fpT] at h1
  have hm:zs[j] ∈ zs.take j:=by
   rw [<- e]
   rw [List.mem_iff_getElem]
   exact ⟨i,by rw [List.length_take]; omega,by rw [List.getElem_take]⟩
  rw [decide_eq_true hm] at h1
  cases h1
 ·intro h j z hj
  have h1:=ze5 hj
  rw [fpT] at h1
  have hn:z ∉ zs.take j:=by
   intro hm
   obtain ⟨i,hi,e⟩:=List.mem_iff_getElem.mp hm
   rw [List.length_take] at hi
   rw [List.getElem_take] at e
   have hjl:j < zs.length:=(List.getElem?_eq_some_iff.mp hj).1
   have:=(List.pairwise_iff_getElem.mp h) i j (by omega) hjl (by omega)
   rw [List.getElem?_eq_getElem hjl] at hj
   exact this (e.trans (Option.some.inj hj).symm)
  rw [decide_eq_false hn] at h1
  rw [Nat.zero_add]
  exact of_decide_eq_true h1
theorem xY {rows:List Rw} {many:Nat}:wp rows many = [] ↔ ((zE 2 0 rows).isSome = true\/many<=plN rows):=by
 unfold wp
 split
 next h=>simp [h]
 next h=>
  rw [List.map_eq_nil_iff,List.range_eq_nil]
  constructor
  ·intro e; right; omega
  ·rintro (e | e)
   ·exact absurd e h
   ·omega
theorem vS {many:Nat} {fk:List (Key × V)}:∀ (rows:List Rw) (i:Nat),yL many fk i rows = [] ↔ ∀ j r,rows[j]? = some r->z6 r (i + j) many fk = false
 | [],i=>by simp [yL]
 | y :: ys,i=>by
  show (if z6 y i many fk = true then [(("lacking" : Str),i)] else []) ++ yL many fk (i + 1) ys = [] ↔ _
  rw [List.append_eq_nil_iff,vS ys (i + 1)]
  constructor
  ·rintro ⟨h1,h2⟩ j z hj
   cases j with
   | zero=>
    have:y = z:=by simpa using hj
    subst this
    split at h1
    ·cases h1
    next e=>exact Bool.eq_false_iff.mpr e
   | succ j=>
    have:=h2 j z (by simpa using hj)
    rw [show i + (j + 1) = i + 1 + j by omega]
    exact this
  ·intro h
   refine ⟨?_,fun j z hj=>?_⟩
   ·have:=h 0 y rfl
    rw [Nat.add_zero] at this
    rw [if_neg (by rw [this]; decide)]
   ·have:=h (j + 1) z (by simpa using hj)
    rw [show i + 1 + j = i + (j + 1) by omega]
    exact this
theorem qV {rows:List Rw} {bars:List Str} {many:Nat} {z:Str} (V1:x0 rows bars) {l:Nat} {r:Rw} (hl:rows[l]? = some r) (hb:z3 r.k = true) (he:r.z = z) (hn:¬ (l < plN rows/\l < many)):ya rows bars many z = none:=by
 have nd:(nms rows).Nodup:=(List.nodup_append.mp V1.nd).1
 have hm:z ∈ nms rows:=by
  unfold nms
  exact List.mem_map.mpr ⟨r,List.mem_filter.mpr ⟨List.mem_of_getElem? hl,hb⟩,he⟩
 have hz:z ∉ bars:=fun h=>(List.nodup_append.mp V1.nd).2.2 z hm z h rfl
 rw [jA,qR nd hz hl hb he,if_neg (show ¬ l < min many (plN rows) by omega),if_pos rfl]
end K34
namespace L2
open PySem PySem.Spec PyProof.Rows
end L2
namespace K34
open PySem L2 PyProof.Rows
structure zjh (mg:Str->Option Value):Prop where
 isi:mg "isinstance" = none
 int:mg "int" = none
 len:mg "len" = none
 range:mg "range" = none
 list:mg "list" = none
 zip:mg "zip" = none
 max:mg "max" = none
def zgN:Sp:=fun vs H Q _=>∃ (c:Int) (k:Nat),vs = [.int c,.int k]/\k<=1000/\∀ m:Int,0<=m->m < 2147483587->Q (.int m) H
section
variable {P:Program} {w:World} {K:Frag} {mg:Str->Option Value} {base:Heap} {f:Addr} {fd:FuncData}
theorem ziO:zm ["_law_script","_law_k"] ["_law_script","_law_k"] (zg zhw):=⟨rfl,rfl,rfl,by decide +kernel,rfl,by decide +kernel,by decide +kernel⟩
theorem zgS:zm ["_law_cell","_law_k","_law_number"] ["_law_cell","_law_k"] (zg zhx):=⟨rfl,rfl,rfl,by decide +kernel,rfl,by decide +kernel,by decide +kernel⟩
theorem zhZ (F:Fun K "_law_mix" "_law_mix" zhx f fd):zp P w K mg base CX0 1 f fd ["_law_cell","_law_k"] zgN:=by
 refine F.ok zgS (fun vs H Q E h=>?_) (fun cdv A outer s H vs Q E hr h=>?_)
 ·obtain ⟨c,k,rfl,_⟩:=h
  rfl
 obtain ⟨c,k,rfl,hk,q⟩:=h
 refine ⟨_,zi (zt (i:=2) zgS.nd rfl (Or.inl rfl) (zy xA (zy xC (zy xC (zy xR (zy xA (pv 0) zh) zh) (zy xR (zy xR (pv 1) (pv 1)) zh)) (zy xR zh (pv 1))) zh))
  (zd (zq (zy xA (zy xC (zy xC (zy xR (pv 2) (pv 2)) (zy xR zh (pv 2))) (pv 1)) zh))),?_⟩
 have k0:(0:Int)<=(k:Int):=by omega
 have k1:(k:Int)<=1000:=by omega
 refine ⟨_,rfl,_,_,rfl,rfl,(by show (0:Int) < 2147483629; decide),_,_,rfl,rfl,.inr ⟨by decide,by decide⟩,_,rfl,_,rfl,_,_,rfl,rfl,.inl ⟨by omega,by omega⟩,_,_,rfl,rfl,.inr ⟨by decide,by decide⟩,_,_,rfl,rfl,_,rfl,_,_,rfl,rfl,.inl ⟨by decide,by decide⟩,_,_,rfl,rfl,_,_,rfl,rfl,(by show (0:Int) < 2147483647; decide),?_⟩
 have h1 : 0<=(c % 2147483629 * 48271 + (k:Int) * (k:Int) * 7919 + 31 * (k:Int)) % 2147483647:=Int.emod_nonneg _ (by decide)
 have h2:(c % 2147483629 * 48271 + (k:Int) * (k:Int) * 7919 + 31 * (k:Int)) % 2147483647 < 2147483647:=Int.emod_lt_of_pos _ (by decide)
 refine ⟨_,rfl,_,rfl,_,_,rfl,rfl,.inl ⟨by omega,by omega⟩,_,rfl,_,_,rfl,rfl,.inl ⟨by decide,by decide⟩,_,_,rfl,rfl,_,rfl,_,_,rfl,rfl,_,_,rfl,rfl,(by show (0:Int) < 2147483587; decide),q _ (Int.emod_nonneg _ (by decide)) (Int.emod_lt_of_pos _ (by decide))⟩
end
theorem vd {K:Frag} {ok:Addr->Prop} {H H':Hp} {zs:List V} {ps:List (Str × Int)} (s:zl H H') (r:Paired (zu K ok H 1) zs (ps.map yG)):Paired (zu K ok H' 1) zs (ps.map yG):=Paired.imp' (fun _ _ z=>z.same s) r
theorem jR {K:Frag} {ok:Addr->Prop} {H:Hp} {n:Nat}:∀ (ts:List Int),Paired (zu K ok H n) (ts.map V.int) (ts.map Dt.int)
 | []=>.nil
 | _ :: ts=>.cons .int (jR ts)
theorem za1 {α : Type} {l:List α} {i:Nat} {x : α} (h:l[i]? = some x):l.take (i + 1) = l.take i ++ [x]:=by
 rw [List.take_add_one,h]; rfl
theorem uC {K:Frag} {H3:Hp} {o:HO} {l b:Addr} {zs:List V} (hl:H3 l = none\/(∃ zs,H3 l = some (.lst zs))) (hz:SqT K H3 b zs):SqT K (upd H3 l o) b zs:=by
 rcases hz with (z | ⟨u,z⟩) | z
 ·refine .inl (.inl ?_)
  have:b ≠ l:=fun e=>by
   subst e
   rcases hl with e | ⟨_,e⟩
   ·rw [e] at z; cases z
   ·rw [e] at z; cases z
  rw [zf this]; exact z
 ·refine .inl (.inr ⟨u,?_⟩)
  have:b ≠ l:=fun e=>by
   subst e
   rcases hl with e | ⟨_,e⟩
   ·rw [e] at z; cases z
   ·rw [e] at z; cases z
  rw [zf this]; exact z
 ·exact .inr z
theorem xW {K:Frag} {ok ok':Addr->Prop} {H:Hp} {o:HO} {l:Addr} (hl:H l = none\/(∃ zs,H l = some (.lst zs))) (hk:∀ b,ok b->H b ≠ none->ok' b/\b ≠ l) {n:Nat} {x:V} {d:Dt} (h:zu K ok H n x d):zu K ok' (upd H l o) n x d:=
 h.frame (fun a xs z=>uC hl z) fun a xs oa z=>by
  have:=hk a oa (by rw [z]; intro q; cases q)
  exact ⟨this.1,by rw [zf this.2]; exact z⟩
theorem wD {z:Str}:∀ {zs:List Str},inV (.str z) (zs.map V.str) = decide (z ∈ zs)
 | []=>by simp [inV]
 | y :: ys=>by
  have ih:=wD (z:=z) (zs:=ys)
  show (eqV (.str y) (.str z) || inV (.str z) (ys.map V.str)) = _
  rw [ih]
  have:eqV (.str y) (.str z) = decide (z = y):=by
   show (y == z) = _
   rw [Bool.eq_iff_iff,beq_iff_eq,decide_eq_true_eq]
   exact ⟨Eq.symm,Eq.symm⟩
  rw [this]
  simp
theorem wE:∀ {zs:List Str},(zs.map V.str).all xf = true
 | []=>rfl
 | _ :: ys=>by
  show (true && (ys.map V.str).all xf) = true
  rw [wE]
  rfl
section
variable {P:Program} {w:World} {K:Frag} {mg:Str->Option Value} {base:Heap} {f:Addr} {fd:FuncData}
end
theorem zao {l g:Nat} {r:Rw} {rs:List Rw} (hg:grp r.k = g) (hb:wZ l g = false) (h:yw g rs = true):yw l (r :: rs) = true:=by
 show (!wZ l (grp r.k) && yw (grp r.k) rs) = true
 rw [hg,hb,h]
 rfl
theorem uT {g:Nat} (he:wZ g g = false):∀ (xs ys:List Rw) (l:Nat),wZ l g = false->(∀ r ∈ xs,grp r.k = g)->yw l ys = true->yw g ys = true->yw l (xs ++ ys) = true
 | [],_,_,_,_,h1,_=>h1
 | r :: rs,ys,l,hb,hg,_,h2=>zao (hg r List.mem_cons_self) hb (uT he rs ys g he (fun x hx=>hg x (List.mem_cons_of_mem _ hx)) h2 h2)
theorem zcm {g l:Nat} {xs ys:List Rw} (hl:xs.length<=1) (hb:wZ l g = false) (hg:∀ r ∈ xs,grp r.k = g) (h1:yw l ys = true) (h2:yw g ys = true):yw l (xs ++ ys) = true:=by
 match xs,hl with
 | [],_=>exact h1
 | [r],_=>exact zao (hg r List.mem_cons_self) hb h2
theorem zfP {xs0 xs1 xs2 xs3:List Rw} (g0:∀ r ∈ xs0,grp r.k = 0) (g1:∀ r ∈ xs1,grp r.k = 1) (l1:xs1.length<=1) (g2:∀ r ∈ xs2,grp r.k = 2) (g3:∀ r ∈ xs3,grp r.k = 3) (l3:xs3.length<=1):yw 0 (xs0 ++ (xs1 ++ (xs2 ++ xs3))) = true:=by
 have h3:∀ l,l<=2->yw l xs3 = true:=fun l hl=>by
  have:=zcm (g:=3) (l:=l) (ys:=[]) l3 (by match l,hl with | 0,_=>rfl | 1,_=>rfl | 2,_=>rfl) g3 rfl rfl
  rwa [List.append_nil] at this
 have h2:∀ l,l<=1->yw l (xs2 ++ xs3) = true:=fun l hl=>uT (g:=2) rfl xs2 xs3 l (by match l,hl with | 0,_=>rfl | 1,_=>rfl) g2 (h3 l (by omega)) (h3 2 (by omega))
 have h1:yw 0 (xs1 ++ (xs2 ++ xs3)) = true:=zcm (g:=1) l1 rfl g1 (h2 0 (by omega)) (h2 1 (by omega))
 exact uT (g:=0) rfl xs0 _ 0 rfl g0 h1 h1
theorem zih {k:Nat} (hk:k < 5) (h:z3 k = true):grp k = 0\/grp k = 2:=by
 rcases lt5 hk with rfl | rfl | rfl | rfl | rfl <;> first | (exact .inl rfl) | (exact .inr rfl) | (cases h)
theorem zcn {xs:List Rw} {g:Nat} (hg:∀ r ∈ xs,r.ok/\grp r.k = g) (h:g % 2 = 1):nms xs = []:=by
 unfold nms
 rw [List.filter_eq_nil_iff.mpr (fun r hr e=>?_)]
 ·rfl
 ·obtain ⟨ho,q⟩:=hg r hr
  rcases zih ho.1 e with z | z <;> rw [z] at q <;> rw [<- q] at h <;> cases h
structure FS where
 (P T G B:List Rw) (L:List Str)
structure FM (i:Nat) (S:FS):Prop where
 okP:∀ r ∈ S.P,r.ok/\grp r.k = 0
 okT:∀ r ∈ S.T,r.ok/\grp r.k = 1
 okG:∀ r ∈ S.G,r.ok/\grp r.k = 2
 okB:∀ r ∈ S.B,r.ok/\grp r.k = 3
 lT:S.T.length<=1
 lB:S.B.length<=1
 nd:(nms S.P ++ nms S.G).Nodup
 sn:∀ z ∈ nms S.P ++ nms S.G,z ∈ S.L
 ln:S.P.length + S.T.length + S.G.length + S.B.length<=i
 lL:S.L.length<=i
def FS.rows (S:FS):List Rw:=S.P ++ S.T ++ S.G ++ S.B
theorem FM.valid {i:Nat} {S:FS} {bars:List Str} (h:FM i S) (hi:i<=24) (lb:bars.length<=60) (bn:∀ z ∈ bars,yx z = true) (bd:bars.Nodup) (bl:∀ z ∈ bars,z ∉ S.L):x0 S.rows bars:=by
 have en:nms S.rows = nms S.P ++ nms S.G:=by
  unfold FS.rows
  rw [xM,xM,xM,zcn h.okT rfl,zcn h.okB rfl,List.append_nil,List.append_nil]
 refine ⟨fun r hr=>?_,?_,lb,?_,bn,?_⟩
 ·unfold FS.rows at hr
  rw [List.mem_append,List.mem_append,List.mem_append] at hr
  rcases hr with ((hr | hr) | hr) | hr
  ·exact (h.okP r hr).1
  ·exact (h.okT r hr).1
  ·exact (h.okG r hr).1
  ·exact (h.okB r hr).1
 ·unfold FS.rows
  have:=h.ln
  simp only [List.length_append]
  omega
 ·unfold FS.rows
  rw [List.append_assoc,List.append_assoc]
  exact zfP (fun r hr=>(h.okP r hr).2) (fun r hr=>(h.okT r hr).2) h.lT (fun r hr=>(h.okG r hr).2) (fun r hr=>(h.okB r hr).2) h.lB
 ·rw [en]
  exact List.nodup_append.mpr ⟨h.nd,bd,fun x hx y hy e=>bl y hy (e ▸ h.sn x hx)⟩
section
variable {H H' H'':Hp} {lg g0 g1 g2 g3 ll u:Addr} {S:FS} {r:Rw} {z:Str} {b:Bool} {us:List Addr}
end
structure VR (rows:List Rw):Prop where
 ok:∀ r ∈ rows,r.ok
 l24:rows.length<=24
 ord:yw 0 rows = true
 nd:(nms rows).Nodup
theorem FM.vr {i:Nat} {S:FS} (h:FM i S) (hi:i<=24):VR S.rows:=by
 have v:=h.valid (bars:=[]) hi (Nat.zero_le _) (fun _ h=>nomatch h) List.nodup_nil (fun _ h=>nomatch h)
 exact ⟨v.ok,v.l24,v.ord,by have:=v.nd; rwa [List.append_nil] at this⟩
section
variable {P:Program} {w:World} {K:Frag} {mg:Str->Option Value} {base:Heap} {f:Addr} {fd:FuncData}
end
theorem zfz {r:Rw} (h:r.ok):atI (rv r) 0 = some (.str (kw r.k)):=by
 obtain ⟨k,z,b⟩:=r
 rcases lt5 h.1 with e | e | e | e | e <;> (cases e; rfl)
theorem qx {r:Rw} (h:r.ok):atI (rv r) 1 = some (.str r.z):=by
 obtain ⟨k,z,b⟩:=r
 rcases lt5 h.1 with e | e | e | e | e <;> (cases e; rfl)
theorem zif {k:Nat} (h:k < 5):inV (.str (kw k)) [.str "both",.str "tag"] = z3 k:=jS k h
section
variable {P:Program} {w:World} {K:Frag} {mg:Str->Option Value} {base:Heap} {f:Addr} {fd:FuncData}
def xw (c:Int):Int:=if V.int (c % 2) = V.int 0 then c / 2 % 41 - 20 else c / 2 % (2 * 10 ^ (60:Int).toNat - 1) - (10 ^ (60:Int).toNat - 1)
def zb3:Sp:=fun vs H Q _=>∃ c:Int,vs = [.int c]/\Q (.int (xw c)) H
theorem zfq:zm ["_law_cell"] ["_law_cell"] (zg zbb):=⟨rfl,rfl,rfl,by decide +kernel,rfl,by decide +kernel,by decide +kernel⟩
theorem zem (F:Fun K "_law_thing" "_law_thing" zbb f fd):zp P w K mg base CX0 1 f fd ["_law_cell"] zb3:=by
 refine F.ok zfq (fun vs H Q E h=>?_) (fun cdv A outer s H vs Q E hr h=>?_)
 ·obtain ⟨c,rfl,_⟩:=h
  rfl
 obtain ⟨c,rfl,q⟩:=h
 unfold xw at q
 refine ⟨_,zi (zP (zn yE (zy xA (pv 0) zh) zh (zD _)) (zd (zq (zy wy (zy xA (zy vB (pv 0) zh) zh) zh))) zH)
  (zd (zq (zy wy (zy xA (zy vB (pv 0) zh) (zy wy (zy xR zh (zy zbt zh zh)) zh)) (zy wy (zy zbt zh zh) zh)))),?_⟩
 refine ⟨_,rfl,_,_,rfl,rfl,(by show (0:Int) < 2; decide),rfl,_,rfl,?_⟩
 refine vW (fun h=>?_) (fun h=>?_)
 ·rw [if_pos (of_decide_eq_true h)] at q
  exact ⟨_,rfl,_,_,rfl,rfl,⟨by decide,by decide⟩,_,_,rfl,rfl,(by show (0:Int) < 41; decide),_,_,rfl,rfl,q⟩
 ·rw [if_neg (fun z=>h (decide_eq_true z))] at q
  exact ⟨_,rfl,_,_,rfl,rfl,⟨by decide,by decide⟩,_,_,rfl,rfl,⟨by decide,by decide,by decide⟩,_,_,rfl,rfl,.inl ⟨by decide,by decide⟩,_,_,rfl,rfl,_,_,rfl,rfl,(by show (0:Int) < 2 * 10 ^ Int.toNat 60 - 1; decide +kernel),_,_,rfl,rfl,⟨by decide,by decide,by decide⟩,_,_,rfl,rfl,_,_,rfl,rfl,q⟩
end
section
variable {P:Program} {w:World} {K:Frag} {mg:Str->Option Value} {base:Heap} {f CF:Addr} {fd:FuncData} {c:C5} {m:MA}
def yp (names:List Str) (r:Rw):Bool:=z3 r.k && decide (r.z ∈ names)
def yl (names:List Str) (r:Rw):Bool:=!fr r.k r.b && !yp names r
def wF (names:List Str) (rows:List Rw):Nat->Nat
 | 0=>0
 | n + 1=>match rows[n]? with
  | some r=>if yl names r = true then n + 1 else wF names rows n
  | none=>wF names rows n
def zgQ (c:C5) (CF:Addr):Sp:=fun vs H Q _=>∃ (f a:Addr) (rows:List Rw) (bars names:List Str),vs = [.ref f,.ref a]/\xH c CF H f rows bars/\H a = some (.lst (names.map V.str))/\∀ H',zl H H'->Q (.int (wF names rows (plN rows):Nat)) H'
theorem zcb:zm ["form","names","parameters","number","parameter"] ["form","names"] (zg qv):=⟨rfl,rfl,rfl,by decide +kernel,rfl,by decide +kernel,by decide +kernel⟩
theorem zh2 {gP gL:Addr} {eP eL gb gf:FuncData} (F:Fun K "fewest_by_place" "fewest_by_place" qv f fd) (hrg:mg "range" = none) (hrv:mg "reversed" = none) (FK:FC K CF) (PP:Pcs K m c) (mP:yN K CF "parameters" gP) (GP:zp P w K mg base CX0 1 gP eP ["self"] (vL c CF)) (bP:zQ K eP ["self"] []) (mL:yN K CF "places" gL) (GL:zp P w K mg base CX0 1 gL eL ["self"] (xT c CF)) (bL:zQ K eL ["self"] [])
  (GB:zp P w K mg base CX0 1 m.fB gb ["self"] (uE K m bnL)) (bB:zQ K gb ["self"] []) (GF:zp P w K mg base CX0 1 m.fF gf ["self"] (qh K m)) (bF:zQ K gf ["self"] []):zp P w K mg base CX0 2 f fd ["form","names"] (zgQ c CF):=by
 refine F.ok zcb (fun vs H Q E h=>?_) (fun cdv A outer s H vs Q E hr h=>?_)
 ·obtain ⟨f,a,rows,bars,names,rfl,_⟩:=h
  rfl
 obtain ⟨f,a,rows,bars,names,rfl,hF,ha,q⟩:=h
 have hB:∀ C,Cs5 c C->Cls K C/\yN K C "by_name" m.fB:=fun C ⟨k,hk,e⟩=>by rw [e]; exact ⟨(PP k hk).cl,(PP k hk).mB⟩
 have hFr:∀ C,Cs5 c C->Cls K C/\yN K C "free" m.fF:=fun C ⟨k,hk,e⟩=>by rw [e]; exact ⟨(PP k hk).cl,(PP k hk).mF⟩
 refine ⟨_,zi (zt (i:=2) zcb.nd rfl (Or.inl rfl) (yn (pv 0) FK.cl mP GP hr bP .nil yc))
  (zi (yz PassesOwn.never rfl (zec rfl hrg rfl hrv (ac (yn (pv 0) FK.cl mL GL hr bL .nil yc) zb)) (zk (i:=3) zcb.nd rfl (Or.inl rfl))
   (zi (zt (i:=4) zcb.nd rfl (Or.inl rfl) (zF zI (pv 2) (pv 3) (fun _ _=>rfl)))
   (zd (zP (PW.pt (xh (wx (xi (xz (pv 4) hFr GF hr bF yc))) (yO (wx (PW.pt (xh (xi (xz (pv 4) hB GB hr bB yc)) (yO (zn xZ (yr (pv 4) rfl) (pv 1) (by with_unfolding_all rfl))))))))) (zd (zq (zy xC (pv 3) zh))) zH))))
  (zd (zq zh))),?_⟩
 obtain ⟨dx,fs,lr,lb,ld,ps0,h1,h2,h3,h4,h5,h6⟩:=id hF.at_
 have nmL:fs.lookup ("places" : Str) = none:=h2.no _ (by decide +kernel)
 have nmP:fs.lookup ("parameters" : Str) = none:=h2.no _ (by decide +kernel)
 have lpl:plN rows<=rows.length:=List.length_filter_le _ _
 refine ⟨_,rfl,f,dx,fs,rfl,h1,nmP,f,rows,bars,rfl,hF.at_,fun lp ps H1 s1 np ep hps=>?_⟩
 have lps:ps.length = rows.length:=hps.length
 have l5:=hF.lr
 refine ⟨_,rfl,f,dx,fs,rfl,s1 _ _ h1,nmL,f,rows,bars,rfl,hF.at_.same s1,plN rows,rfl,by omega,?_⟩
 refine zcv (n:=plN rows) (fun i σ H'=>∃ v3 v4,σ = [some (.ref f),some (.ref a),some (.ref lp),v3,v4]/\zl H1 H'/\i<=plN rows/\wF names rows (plN rows) = wF names rows (plN rows - i)) ⟨_,_,rfl,zl.refl _,Nat.zero_le _,rfl⟩ ?_ ?_
 ·rintro i σ H2 hi ⟨v3,v4,rfl,s2,_,hb⟩
  have ej:(plN rows:Int) - 1 - (i:Int) = ((plN rows - (i + 1):Nat):Int):=by omega
  rw [ej]
  obtain ⟨j,hj⟩:∃ j,plN rows - (i + 1) = j:=⟨_,rfl⟩
  have hj1:plN rows - i = j + 1:=by omega
  rw [hj]
  rw [hj1] at hb
  have hjr:j < rows.length:=by omega
  have hjp:j < ps.length:=by omega
  obtain ⟨r,hr',tp⟩:=yt hps (List.getElem?_eq_getElem hjp)
  have hb':wF names rows (plN rows) = if yl names r = true then j + 1 else wF names rows j:=by
   rw [hb]
   show (match rows[j]? with | some r=>if yl names r = true then j + 1 else wF names rows j | none=>wF names rows j) = _
   rw [hr']
  have rok:=hF.ok r (List.mem_of_getElem? hr')
  have C:=PP r.k rok.1
  refine ⟨_,rfl,_,rfl,lp,_,_,.ref ps[j],rfl,rfl,SqL.of (s2 _ _ ep),xQ (by rw [List.getElem?_map,List.getElem?_eq_getElem hjp]; rfl),?_⟩
  obtain ⟨dx',hdx⟩:=tp.same s2
  refine ⟨_,rfl,ps[j],_,dx',_,rfl,⟨r.k,rok.1,rfl⟩,hdx,vq (by decide +kernel) (by decide +kernel) (by decide +kernel),ps[j],dx',_,_,_,_,rfl,C,hdx,_,rfl,?_⟩
  have out:∀ (g:Bool) (b':Bool),yl names r = (g && b')->True:=fun _ _ _=>True.intro
  cases ef:fr r.k r.b with
  | true=>
   have en:yl names r = false:=by unfold yl; rw [ef]; rfl
   rw [en,if_neg Bool.false_ne_true] at hb'
   refine y6 ?_
   refine y6 ?_
   exact ⟨_,_,rfl,s2,by omega,hb'⟩
  | false=>
   refine wC ?_
   refine ⟨_,rfl,ps[j],_,dx',_,rfl,⟨r.k,rok.1,rfl⟩,hdx,vq (by decide +kernel) (by decide +kernel) (by decide +kernel),ps[j],dx',_,_,_,_,rfl,C,hdx,_,rfl,?_⟩
   rw [jS r.k rok.1]
   cases eb:z3 r.k with
   | false=>
    have en:yl names r = true:=by unfold yl yp; rw [ef,eb]; rfl
    rw [en,if_pos rfl] at hb'
    refine y6 ?_
    refine wC ?_
    refine ⟨_,rfl,_,_,rfl,rfl,?_⟩
    have:=q H2 (s1.trans s2)
    rw [hb'] at this
    exact this
   | true=>
    refine wC ?_
    refine ⟨_,rfl,ps[j],_,dx',_,_,rfl,hdx,C.cl,C.nN,wc,_,rfl,a,_,rfl,.inl (SqL.of (s2 _ _ (s1 _ _ ha))),rfl,wE,_,rfl,?_⟩
    have en:yl names r = !decide (r.z ∈ names):=by unfold yl yp; rw [ef,eb]; rfl
    rw [show (if false = true then !inV (V.str r.z) (names.map V.str) else inV (V.str r.z) (names.map V.str)) = decide (r.z ∈ names) from wD]
    by_cases hz:r.z ∈ names
    ·rw [en,decide_eq_true hz,if_neg (by decide)] at hb'
     rw [decide_eq_true hz]
     refine y6 ?_
     exact ⟨_,_,rfl,s2,by omega,hb'⟩
    ·rw [en,decide_eq_false hz,if_pos (by decide)] at hb'
     rw [decide_eq_false hz]
     refine wC ?_
     refine ⟨_,rfl,_,_,rfl,rfl,?_⟩
     have:=q H2 (s1.trans s2)
     rw [hb'] at this
     exact this
 ·rintro σ H2 ⟨v3,v4,rfl,s2,_,hb⟩
  rw [Nat.sub_self] at hb
  have:=q H2 (s1.trans s2)
  rw [hb] at this
  exact this
end
theorem zeP {k:Nat} (h:k < 5):y7 k = decide (grp k = 0):=by rcases lt5 h with rfl | rfl | rfl | rfl | rfl <;> rfl
theorem zeb {rows:List Rw} (h:∀ r ∈ rows,y7 r.k = false):plN rows = 0:=by
 unfold plN
 rw [List.length_eq_zero_iff,List.filter_eq_nil_iff]
 exact fun r hr=>by rw [h r hr]; decide
theorem zan:∀ (rows:List Rw) {l:Nat},0 < l->(∀ r ∈ rows,r.ok)->yw l rows = true->∀ r ∈ rows,y7 r.k = false
 | [],_,_,_,_,r,hr=>by cases hr
 | x :: xs,l,hl,hok,h,r,hr=>by
  have h':(!wZ l (grp x.k) && yw (grp x.k) xs) = true:=h
  rw [Bool.and_eq_true,Bool.not_eq_true'] at h'
  have hb:=h'.1
  unfold wZ at hb
  simp only [Bool.or_eq_false_iff,decide_eq_false_iff_not] at hb
  have hg : 0 < grp x.k:=by omega
  rcases List.mem_cons.mp hr with rfl | hr
  ·rw [zeP (hok _ List.mem_cons_self).1,decide_eq_false (by omega)]
  ·exact zan xs hg (fun r hr=>hok r (List.mem_cons_of_mem _ hr)) h'.2 r hr
theorem qX:∀ rows:List Rw,(∀ r ∈ rows,r.ok)->yw 0 rows = true->∃ A B,rows = A ++ B/\A.length = plN rows/\(∀ r ∈ A,grp r.k = 0)/\yw 0 B = true
 | [],_,_=>⟨[],[],rfl,rfl,(fun r hr=>by cases hr),rfl⟩
 | r :: rs,hok,h=>by
  have h':(!wZ 0 (grp r.k) && yw (grp r.k) rs) = true:=h
  rw [Bool.and_eq_true,Bool.not_eq_true'] at h'
  by_cases hg:grp r.k = 0
  ·have h2:=h'.2
   rw [hg] at h2
   obtain ⟨A,B,e,hl,hA,hB⟩:=qX rs (fun x hx=>hok x (List.mem_cons_of_mem _ hx)) h2
   refine ⟨r :: A,B,by rw [e]; rfl,?_,fun x hx=>?_,hB⟩
   ·have hp:y7 r.k = true:=by rw [zeP (hok r List.mem_cons_self).1,hg]; rfl
    unfold plN at hl |-
    rw [List.filter_cons,if_pos hp,List.length_cons,List.length_cons,hl]
   ·rcases List.mem_cons.mp hx with rfl | hx
    ·exact hg
    ·exact hA x hx
  ·refine ⟨[],r :: rs,rfl,?_,(fun x hx=>by cases hx),h⟩
   rw [zeb]
   ·rfl
   ·intro x hx
    rcases List.mem_cons.mp hx with rfl | hx
    ·rw [zeP (hok _ List.mem_cons_self).1,decide_eq_false hg]
    ·exact zan rs (by omega) (fun x hx=>hok x (List.mem_cons_of_mem _ hx)) h'.2 x hx
theorem zh4 {rows:List Rw} {z:Str} (h:z ∈ nms rows):∃ (l:Nat) (r:Rw),rows[l]? = some r/\z3 r.k = true/\r.z = z:=by
 unfold nms at h
 obtain ⟨r,hr,rfl⟩:=List.mem_map.mp h
 rw [List.mem_filter] at hr
 obtain ⟨l,hl⟩:=List.mem_iff_getElem?.mp hr.1
 exact ⟨l,r,hl,hr.2,rfl⟩
theorem v0 {rows:List Rw} (hok:∀ r ∈ rows,r.ok) (ho:yw 0 rows = true) {i:Nat} {r:Rw} (h:rows[i]? = some r):y7 r.k = decide (i < plN rows):=by
 obtain ⟨A,B,e,hl,hA,hB⟩:=qX rows hok ho
 have hn:plN rows = plN A + plN B:=by
  unfold plN
  rw [e,List.filter_append,List.length_append]
 have hA2:plN A = A.length:=by
  unfold plN
  rw [List.filter_eq_self.mpr fun x hx=>?_]
  rw [zeP (hok x (by rw [e]; exact List.mem_append_left _ hx)).1,hA x hx]
  rfl
 have hB2:plN B = 0:=by omega
 have hB3:∀ x ∈ B,y7 x.k = false:=fun x hx=>by
  unfold plN at hB2
  rw [List.length_eq_zero_iff,List.filter_eq_nil_iff] at hB2
  have:=hB2 x hx
  simpa using this
 by_cases hi:i < plN rows
 ·rw [decide_eq_true hi]
  rw [e,List.getElem?_append_left (by omega)] at h
  have hm:=List.mem_of_getElem? h
  rw [zeP (hok r (by rw [e]; exact List.mem_append_left _ hm)).1,hA r hm]
  rfl
 ·rw [decide_eq_false hi]
  rw [e,List.getElem?_append_right (by omega)] at h
  exact hB3 r (List.mem_of_getElem? h)
theorem zdq {rows:List Rw} {bars:List Str} {many:Nat} {z:Str} (h:z ∉ bars) (hk:z ∉ nms rows):ya rows bars many z = if (zE 4 0 rows).isSome = true then none else some ("strange" : Str):=by
 have hv:=jj (z:=z) rows 0 [] hk
 have e1:ya.lastD' z rows = none:=by unfold ya.lastD'; rw [hv]; rfl
 unfold ya
 rw [if_neg h,e1]
theorem zaC {many:Nat} {fk:List (Key × V)} {m:Str × Nat}:∀ (rows:List Rw) (i:Nat),m ∈ yL many fk i rows ↔ m.1 = "lacking"/\∃ j r,rows[j]? = some r/\m.2 = i + j/\z6 r (i + j) many fk = true
 | [],i=>by simp [yL]
 | y :: ys,i=>by
  show m ∈ (if z6 y i many fk = true then [(("lacking" : Str),i)] else []) ++ yL many fk (i + 1) ys ↔ _
  rw [List.mem_append,zaC ys (i + 1)]
  constructor
  ·rintro (h | ⟨h1,j,r,h2,h3,h4⟩)
   ·split at h
    next e=>
     have:m = (("lacking" : Str),i):=by simpa using h
     subst this
     exact ⟨rfl,0,y,rfl,rfl,e⟩
    ·cases h
   ·exact ⟨h1,j + 1,r,by simpa using h2,by omega,by rw [show i + (j + 1) = i + 1 + j by omega]; exact h4⟩
  ·rintro ⟨h1,j,r,h2,h3,h4⟩
   cases j with
   | zero=>
    have:y = r:=by simpa using h2
    subst this
    left
    rw [Nat.add_zero] at h4
    rw [if_pos h4]
    rw [List.mem_singleton]
    exact Prod.ext h1 h3
   | succ j=>
    right
    exact ⟨h1,j,r,by simpa using h2,by omega,by rw [show i + 1 + j = i + (j + 1) by omega]; exact h4⟩
def Nv (rows:List Rw) (bars names:List Str):Prop:=names.Nodup/\(∀ z ∈ names,ya rows bars 0 z = none)/\∀ i r,rows[i]? = some r->plN rows<=i->fr r.k r.b = true\/yp names r = true
theorem xP {names:List Str} {r:Rw} {i many:Nat}:z6 r i many (kvP (fpZ names)) = (yl names r && !(y7 r.k && decide (i < many))):=by
 rw [zgk,qD]
 unfold yl yp
 cases fr r.k r.b <;> cases y7 r.k <;> cases z3 r.k <;> simp [Bool.and_comm]
theorem zco {names:List Str} {r:Rw}:yl names r = false ↔ (fr r.k r.b = true\/yp names r = true):=by
 unfold yl
 cases fr r.k r.b <;> cases yp names r <;> simp
theorem qU {rows:List Rw} {bars:List Str} {many:Nat} {z wd:Str} (h:ya rows bars many z = some wd):wd ≠ "lacking":=by
 unfold ya at h
 split at h
 ·cases h; decide +kernel
 ·split at h
  ·split at h
   ·cases h
   ·cases h; decide +kernel
  ·split at h
   ·cases h; decide +kernel
   ·cases h
theorem vj {rows:List Rw} {bars:List Str} {many:Nat} {z:Str} (V1:x0 rows bars):ya rows bars many z = none ↔ (ya rows bars 0 z = none/\∀ l r,rows[l]? = some r->l < plN rows->l < many->z3 r.k = true->r.z ≠ z):=by
 have nd:(nms rows).Nodup:=(List.nodup_append.mp V1.nd).1
 by_cases hb:z ∈ bars
 ·have e:∀ m,ya rows bars m z = some ("barred" : Str):=fun m=>if_pos hb
  rw [e,e]
  simp
 ·by_cases hk:z ∈ nms rows
  ·obtain ⟨l,r,hl,hbn,he⟩:=zh4 hk
   have hlu:∀ l' r',rows[l']? = some r'->z3 r'.k = true->r'.z = z->l' = l:=fun l' r' hl' hb' he'=>by
    have h1:=vH hbn rows 0 l [] hl nd
    have h2:=vH hb' rows 0 l' [] hl' nd
    rw [he] at h1
    rw [he',h1] at h2
    have:=V.int.inj (Option.some.inj h2)
    omega
   have w:∀ m,ya rows bars m z = if l < min m (plN rows) then some ("again" : Str) else none:=fun m=>by
    rw [jA,qR nd hb hl hbn he]
    split
    ·rw [if_neg (by decide +kernel)]
    ·rw [if_pos rfl]
   rw [w,w]
   constructor
   ·intro h
    split at h
    ·cases h
    next hn=>
     refine ⟨by rw [if_neg (by omega)],fun l' r' hl' h1 h2 hb' he'=>?_⟩
     have:=hlu l' r' hl' hb' he'
     omega
   ·rintro ⟨_,h⟩
    rw [if_neg]
    intro hlt
    exact h l r hl (by omega) (by omega) hbn he
  ·rw [zdq hb hk,zdq hb hk]
   constructor
   ·intro h
    refine ⟨h,fun l r hl _ _ hbn he=>hk ?_⟩
    unfold nms
    exact List.mem_map.mpr ⟨r,List.mem_filter.mpr ⟨List.mem_of_getElem? hl,hbn⟩,he⟩
   ·exact fun h=>h.1
theorem vg {names:List Str} {rows:List Rw} {many:Nat}:∀ n,wF names rows n<=many ↔ ∀ i r,i < n->rows[i]? = some r->yl names r = true->i < many
 | 0=>by simp [wF]
 | n + 1=>by
  have ih:=vg (names:=names) (rows:=rows) (many:=many) n
  unfold wF
  split
  next r hr=>
   split
   next hn=>
    constructor
    ·intro h i _ hi _ _; omega
    ·intro h; exact h n r (by omega) hr hn
   next hn=>
    rw [ih]
    constructor
    ·intro h i r' hi hr' hn'
     by_cases e:i = n
     ·subst e
      rw [hr] at hr'
      cases hr'
      exact absurd hn' hn
     ·exact h i r' (by omega) hr' hn'
    ·exact fun h i r' hi=>h i r' (by omega)
  next hr=>
   rw [ih]
   constructor
   ·intro h i r' hi hr' hn'
    by_cases e:i = n
    ·subst e; rw [hr] at hr'; cases hr'
    ·exact h i r' (by omega) hr' hn'
   ·exact fun h i r' hi=>h i r' (by omega)
theorem zaz {rows:List Rw} {bars names:List Str} {many:Nat} (V1:x0 rows bars):zV rows bars many names = [] ↔ (Nv rows bars names/\((zE 2 0 rows).isSome = true\/many<=plN rows)/\(∀ l r,rows[l]? = some r->l < plN rows->l < many->yp names r = false)/\wF names rows (plN rows)<=many):=by
 unfold zV Nv
 rw [List.append_eq_nil_iff,List.append_eq_nil_iff,List.append_eq_nil_iff,zcB,xY,zbY,vS,vg]
 constructor
 ·rintro ⟨⟨⟨h1,h2⟩,h3⟩,h4⟩
  have u:=fun z hz=>(vj (many:=many) V1).mp (h3 z hz)
  refine ⟨⟨h1,fun z hz=>(u z hz).1,fun i r hr hi=>?_⟩,h2,fun l r hr hl hm=>?_,fun i r hi hr hn=>?_⟩
  ·have:=h4 i r hr
   rw [xP,v0 V1.ok V1.ord hr,decide_eq_false (by omega),Bool.false_and,Bool.not_false,Bool.and_true] at this
   exact zco.mp this
  ·rw [Bool.eq_false_iff]
   intro hb
   unfold yp at hb
   rw [Bool.and_eq_true,decide_eq_true_eq] at hb
   exact (u r.z hb.2).2 l r hr hl hm hb.1 rfl
  ·have:=h4 i r hr
   rw [xP,hn,Bool.true_and,v0 V1.ok V1.ord hr,decide_eq_true hi,Bool.true_and,Bool.not_eq_false',decide_eq_true_eq] at this
   omega
 ·rintro ⟨⟨h1,h2,h3⟩,h4,h5,h6⟩
  refine ⟨⟨⟨h1,h4⟩,fun z hz=>(vj V1).mpr ⟨h2 z hz,fun l r hr hl hm hb he=>?_⟩⟩,fun i r hr=>?_⟩
  ·have:=h5 l r hr hl hm
   unfold yp at this
   rw [hb,he,decide_eq_true hz] at this
   cases this
  ·rw [xP,Nat.zero_add]
   by_cases hi:i < plN rows
   ·rw [v0 V1.ok V1.ord hr,decide_eq_true hi,Bool.true_and]
    cases hn:yl names r
    ·rfl
    ·rw [decide_eq_true (h6 i r hi hr hn)]; rfl
   ·rw [zco.mpr (h3 i r hr (by omega))]; rfl
end K34
namespace L2
open PySem PySem.Spec PyProof.Rows
section
variable {prog:Program} {w:World} {κ : Type} [DecidableEq κ] {knd:HeapKind prog w κ} {A:Around} {E:Value->Shared->Prop} {s:Shared}
theorem q0 {d a:Addr} {xs:List (κ × Addr × Value)} {k : κ} {v:Value} {Q:Value->Shared->Prop} (hu:knd.room A) (hkey:knd.is s.heap k a) (hm:s.heap.DictOfH knd d xs)
  (hthere:∀ p,atKey xs k = some p->Q p.2 { s with toks:=s.toks + knd.draws k })
  (hnew:atKey xs k = none->∀ h',h'.DictOfH knd d (storedH xs k a v)->Heap.SameBut d s.heap h'->Q v { s with heap:=h',toks:=s.toks + knd.draws k })
  (hsz:xs.length<=sizeLine):wpAny (model prog w) A (dictSetDefault d (.ref a) v) Q E s:=by
 obtain ⟨o,es,ep,ho,hc,hd,he,his,hn⟩:=hm
 unfold dictSetDefault
 try with_reducible refine wpAny_holding ?_
 refine wpAny_bind (knd.pyHash hu hkey ?_)
 refine wpAny_bind (wpAny_dictFind_heap (s:={ s with toks:=s.toks + knd.draws k }) hu hkey ho hd he his hn ?_ ?_)
 ·intro hno
  have hnot:k ∉ xs.map (·.1):=not_mem_keys_of_get hno
  have hst:=storedH_new (v:=v) (a:=a) (atKey_none_of_get hno)
  refine wpAny_bind (wpAny_rule (wpAny_bind (wpAny_updateDictKeys (hz:=by have e:=size_of_entries he; omega) (s:={ s with toks:=s.toks + knd.draws k }) ho hd (wpAny_pure (hnew (atKey_none_of_get hno) _ ⟨_,_,ep + 1,Heap.get?_update_self _ ho (Obj.isFreed_of_dict (Obj.data_mapDictKeys hd _)),
   hc.mapDictKeys _,Obj.data_mapDictKeys hd _,?_,?_,?_⟩ (Heap.SameBut.update ..))))))
  ·rw [storedH_new (atKey_none_of_get hno)]
   simp [he,entryOfKey]
  ·rw [storedH_new (atKey_none_of_get hno)]
   intro x hx
   rcases List.mem_append.mp hx with hx | hx
   ·exact knd.keeps (his x hx) ho hd (Heap.SameBut.update ..)
   ·simp only [List.mem_singleton] at hx
    subst hx
    exact knd.keeps hkey ho hd (Heap.SameBut.update ..)
  ·rw [storedH_new (atKey_none_of_get hno)]
   rw [List.map_append,List.nodup_append]
   refine ⟨hn,by simp,?_⟩
   intro x hx y hy
   simp only [List.map_cons,List.map_nil,List.mem_singleton] at hy
   subst hy
   exact fun e=>hnot (e ▸ hx)
 ·intro j p hj
  have ej:=entry_at he j
  rw [hj] at ej
  refine wpAny_bind (wpAny_dictEntries (s:={ s with toks:=s.toks + knd.draws k }) ho hd ?_)
  rw [ej]
  exact wpAny_bind (wpAny_rule (wpAny_pure (hthere p (atKey_of_get hn hj))))
theorem jt (knd:HeapKind prog w κ) (d a:Addr) (hd:(d == sysModules) = false) (dflt:Value) :
  MeetsIn prog w (Builtin.«dict.setdefault» ⟨[.ref d,.ref a,dflt],[]⟩) (fun A R s=>knd.room A.in1/\∃ k xs,knd.is s.heap k a/\s.heap.DictOfH knd d xs/\xs.length<=sizeLine/\
   (∀ p,atKey xs k = some p->R (.ok (.ret p.2)) { s with toks:=s.toks + knd.draws k })/\
   (atKey xs k = none->∀ h',h'.DictOfH knd d (storedH xs k a dflt)->Heap.SameBut d s.heap h'->R (.ok (.ret dflt)) { s with heap:=h',toks:=s.toks + knd.draws k })):=
 .of_wp fun A R s ⟨hu,k,xs,hkey,hm,hz,h1,h2⟩=>by
  unfold Builtin.«dict.setdefault»
  refine wpAny_bind ?_
  unfold Builtin.Dict.keyAndDefault
  refine wpAny_bind (wpAny_notOrdered_dict hm.typeIs ?_)
  show wpAny _ _ (pure (d,Value.ref a,some dflt)) _ _ s
  refine wpAny_pure ?_
  show wpAny _ _ (if (d == sysModules) = true then _ else (dictSetDefault d (.ref a) dflt >>= _)) _ _ s
  rw [if_neg (by rw [hd]; exact Bool.false_ne_true)]
  exact wpAny_bind (q0 hu hkey hm (fun p hp=>wpAny_pure ⟨p.2,rfl,h1 p hp⟩) (fun hn h' hm' hs'=>wpAny_pure ⟨dflt,rfl,h2 hn h' hm' hs'⟩) hz)
end
theorem zgZ {P:Program} {w:World} {H:Hp} {h:Heap} {a:Addr} {xs:List (List SB × Addr × Value)} (e:dBφ P w a xs h):ye P w H h a (.ext (dBφ P w a xs)):=
 ⟨e,let ⟨o,_,_,h1,_⟩:=e; ⟨o,h1⟩,fun g1 g2 q k=>let ⟨o,es,ep,h1,c⟩:=q; ⟨o,es,ep,k o h1,c⟩⟩
def zjx (P:Program) (w:World):TE:=fun _ H Q=>∀ a,H a = none->(a == sysModules) = false->Q (.ref a) (upd H a (.ext (dBφ P w a [])))
section
variable {X:Cx} {P:Program} {w:World} {pos:Pos}
theorem zhO (hP:X.prog = P) (hw:X.w = w):PE X (.Dict [] [] pos) (zjx P w):=by
 subst hP
 subst hw
 exact ⟨fun pins s σ H Q I h=>
 wpAny_Dict_empty ⟨.ref s.heap.objs.size,_,I.laid (a:=s.heap.objs.size) (o:=.ext (dBφ X.prog X.w s.heap.objs.size [])) (t':=s.toks) (fun _ _ q=>Heap.get?_push_of_some _ q) (Nat.le_refl _) (zgZ ⟨_,#[],0,Heap.get?_push_size _ rfl,⟨rfl,rfl,rfl⟩,rfl,rfl,List.nodup_nil⟩),rfl,h _ (I.hok.fresh (Nat.le_refl _)) (beq_eq_false_iff_ne.mpr (Ne.symm (Nat.ne_of_lt I.big)))⟩⟩
def ziz (P:Program) (w:World) (td:TE) (ta:TA):TE:=fun σ H Q=>td σ H fun x H1=>(∃ (a:Addr) (kvs:List (List SB × V)),x = .ref a/\DB P w H1 a kvs)/\ta σ H1 fun ys H2=>∃ (a b:Addr) (kvs:List (List SB × V)) (k:List SB) (v:V),x = .ref a/\ys = [.ref b,v]/\DB P w H2 a kvs/\(a == sysModules) = false/\kvs.length<=1000/\H2 b = some (.tup (k.map sbV))/\
 (∀ v',zA kvs k = some v'->Q v' H2)/\(zA kvs k = none->∀ H3,(∃ o,H3 = upd H2 a (.ext o))->DB P w H3 a (yq kvs k v)->Q v H3)
variable {o e1 e2:Expr} {td:TE} {ta:TA} {apos cpos:Pos}
theorem zee (hP:X.prog = P) (hw:X.w = w) (hu:X.A.units + 1 < cLine) (ho:PE X o td) (ha:PA X [e1,e2] ta)
  (hbase:attributeBase o "setdefault" X.env (eval o X.env) = eval o X.env:=by rfl)
  (hfew:((backTo cpos (starEach [e1,e2] X.env)).all (fun x=>!x.1) && (backToKw cpos (keywordEach [] X.env)).all (fun x=>x.1.isSome)
   && decide (([e1,e2]:List Expr).length + ([]:List Keyword).length + (if ([]:List Keyword).isEmpty then 0 else 1) < 30)) = true:=by rfl)
  (hline:(apos.endLine == cpos.line) = true:=by rfl) (hs:starEach [e1,e2] X.env = (false,eval e1 X.env) :: starEach [e2] X.env:=by rfl) (hplain:(backTo cpos (starEach [e2] X.env)).any (·.1) = false:=by rfl) :
  PE X (.Call (.Attribute o "setdefault" apos) [e1,e2] [] cpos) (ziz P w td ta):=by
 subst hP
 subst hw
 refine ⟨?_⟩
 intro pins s σ H Q I h
 refine wpAny_Call_method_late hbase hfew hline rfl (thn (ho pins s σ H _ I h) fun u s1 ⟨x,H1,I1,r1,⟨a,kvs,ex,xs,exs,kb⟩,q1⟩=>?_)
 subst ex
 obtain rfl:u = Value.ref a:=r1
 have dd:=zgY I1.hok exs kb
 have nod:∀ b,Value.ref a = .ref b->∃ ob,s1.heap.get? b = some ob/\ob.dict = none:=fun b eb=>by
  cases eb
  obtain ⟨ob,_,_,g1,g2,_⟩:=dd
  exact ⟨ob,g1,g2.2.1⟩
 refine ⟨"dict","dict.setdefault",PySem.F.plainAttrs_dict,PySem.F.slot_dict_setdefault,PySem.F.type_dict_setdefault,dd.typeIs,nod,?_⟩
 have hA:=ha cpos pins s1 σ H1 _ I1 q1
 rw [hs] at hA |-
 refine Calls.callWith_builtin (by show (false || (backTo cpos (starEach [e2] X.env)).any (·.1)) = false; rw [hplain] <;> rfl) (Calls.evalArgs_plain ?_)
 refine thn hA fun us s2 ⟨vs,H2,I2,r2,a',b,kvs2,k,v,ea,ey,db2,hsys,l1000,hb,q2,q3⟩=>?_
 cases ea
 subst ey
 obtain ⟨u1,u2,rfl,ru1,ru2⟩:=zbW r2
 obtain rfl:u1 = Value.ref b:=ru1
 obtain ⟨xs2,exs2,kb2⟩:=db2
 have dd2:=zgY I2.hok exs2 kb2
 have hval:=kb2.val k
 have lz:xs2.length<=sizeLine:=by
  have e1:=kb2.length
  have e2 : 1000<=sizeLine:=by decide
  omega
 refine call_meetsIn PySem.F.slot_dict_setdefault dd2.typeIs PySem.F.entry_dict_setdefault (PySem.F.args_dict_setdefault_3 _ _ _) (jt (tupleKind (vc X.prog X.w)) a b hsys u2) ⟨tupleKind_room_in1 hu,k,xs2,zdL I2.hok hb,dd2,lz,fun p hp=>?_,fun hn h' hm' hs'=>?_⟩
 ·rw [hp] at hval
  cases ev:zA kvs2 k with
  | none=>rw [ev] at hval; exact absurd hval id
  | some v'=>
   rw [ev] at hval
   exact ⟨v',H2,I2.tok _,hval,q2 v' ev⟩
 ·rw [hn] at hval
  have ev:zA kvs2 k = none:=by
   cases ev:zA kvs2 k with
   | none=>rfl
   | some v'=>rw [ev] at hval; exact absurd hval id
  have kb3:=kb2.put k hb ru2
  have hφ : dBφ X.prog X.w a (storedH xs2 k b u2) h':=by
   obtain ⟨ob,es,ep,g1,g2,g3,g4,g5,g6⟩:=hm'
   exact ⟨ob,es,ep,g1,g2,g3,g4,g6⟩
  refine ⟨v,upd H2 a (.ext (dBφ X.prog X.w a (storedH xs2 k b u2))),?_,ru2,q3 ev _ ⟨_,rfl⟩ ⟨_,za,Paired.mapP kb3 fun _ q z=>⟨z.1,?_,z.2.2⟩⟩⟩
  ·exact I2.write (x:=a) (e:=a) (by rw [exs2]; exact True.intro) (.inl rfl) (fun b' q' hb' z=>(hs'.2 b' hb').trans z) (let ⟨ob,_,_,g1,_⟩:=hφ; ⟨ob,g1⟩) (zgZ hφ)
  ·rw [zf (fun e=>by have:=z.2.1; rw [e,exs2] at this; cases this)]
   exact z.2.1
end
section
variable {X:Cx} {pins:List (Addr × Obj)} {σ : St} {H:Hp} {s:Shared} {ok:Addr->Prop}
end
section
variable {X:Cx}
end
section
variable {P:Program} {w:World} {A:Around} {E:Value->Shared->Prop} {s:Shared}
end
section
variable {P:Program} {w:World} {A:Around} {R:Result->Shared->Prop} {I:Addr} {fp wr:List Addr} {G:Array GenState->Array GenState->Prop} {n:Nat} {Pr:Nat->Value->Prop} {Sg:Nat->Shared->Prop}
end
theorem wY {α : Type}:∀ (xs:List α) (i:Nat) (hi:i < xs.length),(xs[i] :: xs.eraseIdx i).Perm xs
 | [],i,hi=>absurd hi (Nat.not_lt_zero _)
 | x :: xs,0,_=>List.Perm.refl _
 | x :: xs,i + 1,hi=>(List.Perm.swap _ _ _).trans (List.Perm.cons x (wY xs i (Nat.lt_of_succ_lt_succ hi)))
namespace FS
end FS
section
variable {P:Program} {w:World} {A:Around} {E:Value->Shared->Prop} {s:Shared}
end
end L2
namespace L2
open PySem PySem.Spec PyProof.Rows
section
variable {P:Program} {w:World} {A:Around} {E:Value->Shared->Prop} {s:Shared}
end
section
variable {X:Cx}
end
section
variable {prog:Program} {w:World} {A:Around} {E:Value->Shared->Prop} {s:Shared}
end
section
variable {X:Cx}
end
section
variable {P:Program} {w:World} {A:Around} {E:Value->Shared->Prop} {s:Shared}
end
section
variable {prog:Program} {w:World} {A:Around} {E:Value->Shared->Prop} {s:Shared} {l I S:Addr} {vs:List Value} {kid:String}
def Kp (I S:Addr) (h h':Heap):Prop:=∀ b o,b ≠ I->b ≠ S->h.get? b = some o->h'.get? b = some o
theorem zcZ {R:Result->Shared->Prop} (kf:Nat->Int) (hh:A.handled = none) (h₀:Heap) (hl:h₀.IsList l vs.toArray) (hlI:l ≠ I) (hlS:l ≠ S) (hSI:S ≠ I)
  (turn:∀ (i:Nat) (v:Value),vs[i]? = some v->∀ (h:Heap) (tk:Nat),Kp I S h₀ h->∀ (Q:Value->Shared->Prop) (E:Value->Shared->Prop),(∀ t tk',Q (.int (kf i) t) { s with heap:=h,toks:=tk' })->wpAny (model prog w) A.in1 (call (.builtin kid) [v]) Q E { s with heap:=h,toks:=tk })
  (hR:∀ i v h' tk',vs[i]? = some v->(∀ j,j < vs.length->kf i<=kf j/\(j < i->kf i < kf j))->Kp I S h₀ h'->R (.ok (.ret v)) { s with heap:=h',toks:=tk' }) :
  ∀ (r j i:Nat) (h:Heap) (tk:Nat) (vb:Value) (tb:Tok) (c:Nat),vs.length - (j + 1) = r->j + 1<=vs.length->Kp I S h₀ h->h.get? S = some (seqObj "list" #[vb,.int (kf i) tb] c)->h.IsListIter I l (j + 1)->vs[i]? = some vb->i<=j->(∀ j',j'<=j->kf i<=kf j'/\(j' < i->kf i < kf j'))->
   codeAny (model prog w) A (.builtin "min.loop" ⟨[.ref I,.builtin kid,.ref S],[]⟩) R { s with heap:=h,toks:=tk }:=by
 have hname:(toString "min" ++ toString ".loop" : String) = "min.loop":=by decide
 have W:=Walks.list (prog:=prog) (w:=w) (A:=A.in1) hh I l hlI vs.toArray
 have hsz:vs.toArray.size = vs.length:=List.size_toArray ..
 have lat:∀ {h},Kp I S h₀ h->h.IsList l vs.toArray:=fun {h} k=>by
  obtain ⟨o,ho,q⟩:=hl
  exact ⟨o,k l o hlI hlS ho,q⟩
 intro r
 induction r with
 | zero=>
  intro j i h tk vb tb c hr hj F nS hit hvb hij hbest
  have hin:j + 1 = vs.length:=by omega
  refine codeAny_builtin PySem.F.entry_min_loop ?_
  rw [Around.under_plainId PySem.F.plain_min_loop _]
  show wpAny _ A.in1 (seqItems? (.ref S) >>= _) _ _ _
  refine wpAny_bind (wpAny_seqItems nS rfl ?_)
  show wpAny _ A.in1 (tryCatch (pyNext (.ref I)) _ >>= _) _ _ _
  refine wpAny_bind (wpAny_tryCatch (W.done _ _ _ ⟨by rw [hsz,<- hin]; exact hit,lat F⟩ fun h' tk' hk'=>?_))
  have hS':=hk' S _ (by simpa using hSI) nS
  show wpAny _ A.in1 (updateSeq S (fun _=>#[]) >>= _) _ _ _
  refine wpAny_bind ?_
  refine wpAny_updateSeq hS' rfl (wpAny_bind (wpAny_letGo (wpAny_pure ?_)))
  exact hR i vb _ _ hvb (fun j' hj'=>hbest j' (by omega)) fun b o hb1 hb2 e=>(Heap.get?_update_other _ _ (Ne.symm hb2)).trans (hk' b o (by simpa using hb1) (F b o hb1 hb2 e))
 | succ r ih=>
  intro j i h tk vb tb c hr hj F nS hit hvb hij hbest
  have hlt:j + 1 < vs.length:=by omega
  refine codeAny_builtin PySem.F.entry_min_loop ?_
  rw [Around.under_plainId PySem.F.plain_min_loop _]
  show wpAny _ A.in1 (seqItems? (.ref S) >>= _) _ _ _
  refine wpAny_bind (wpAny_seqItems nS rfl ?_)
  show wpAny _ A.in1 (tryCatch (pyNext (.ref I)) _ >>= _) _ _ _
  refine wpAny_bind (wpAny_tryCatch (W.item (j + 1) _ _ _ (by rw [hsz]; exact hlt) ⟨hit,lat F⟩ fun v h' tk' hP hst' hk'=>?_))
  have hv:vs[j + 1]? = some v:=by simpa using hP
  have F1:Kp I S h₀ h':=fun b o hb1 hb2 e=>hk' b o (by simpa using hb1) (F b o hb1 hb2 e)
  have nS1:=hk' S _ (by simpa using hSI) nS
  show wpAny _ A.in1 (tryCatch (holding [v] (call (.builtin kid) [v])) _ >>= _) _ _ _
  refine wpAny_bind (wpAny_tryCatch (wpAny_holding (turn (j + 1) v hv h' tk' F1 _ _ fun t2 tk2=>?_)))
  show wpAny _ A.in1 (tryCatch (holding [v,.int (kf (j + 1)) t2] (richCompare .Lt (.int (kf (j + 1)) t2) (.int (kf i) tb) >>= _)) _ >>= _) _ _ _
  refine wpAny_bind (wpAny_tryCatch (wpAny_holding (wpAny_bind (CmpOf.ints_lt (prog:=prog) (w:=w) (A:=A.in1) (P:=fun i v=>∃ t,v = .int (kf i) t) kf (fun i v h=>h) (j + 1) i _ _ _ _ _ ⟨t2,rfl⟩ ⟨tb,rfl⟩ ?_))))
  refine wpAny_bind (wpAny_holding (wpAny_truthy_bool ?_))
  refine wpAny_bind (wpAny_letGo (wpAny_pure ?_))
  by_cases hb':kf (j + 1) < kf i
  ·obtain ⟨c2,hc2⟩:∃ c2,(h'.update S (Obj.mapSeq fun _=>#[v,.int (kf (j + 1)) t2])).get? S = some (seqObj "list" #[v,.int (kf (j + 1)) t2] c2):=⟨_,get?_update_seq nS1 fun _=>#[v,.int (kf (j + 1)) t2]⟩
   simp only [hb',decide_true,if_true]
   refine wpAny_bind ?_
   refine wpAny_updateSeq nS1 rfl (wpAny_bind (wpAny_letGo ?_))
   rw [hname]
   refine wpAny_pure ⟨plainId_quiet PySem.F.plain_min_loop _,ih (j + 1) (j + 1) _ _ v t2 c2 (by omega) hlt (fun b o hb1 hb2 e=>(Heap.get?_update_other _ _ (Ne.symm hb2)).trans (F1 b o hb1 hb2 e)) hc2 (by
    obtain ⟨oI',hoI',q⟩:=hst'.1
    exact ⟨oI',(Heap.get?_update_other _ _ hSI).trans hoI',q⟩) hv (Nat.le_refl _) fun j' hj'=>?_⟩
   by_cases e:j' = j + 1
   ·subst e
    exact ⟨by omega,fun _=>by omega⟩
   ·have hb1:=hbest j' (by omega)
    have hb2:=hb1.1
    exact ⟨by omega,fun _=>by omega⟩
  ·simp only [hb',decide_false,Bool.false_eq_true,if_false]
   refine wpAny_bind (wpAny_letGo ?_)
   rw [hname]
   refine wpAny_pure ⟨plainId_quiet PySem.F.plain_min_loop _,ih (j + 1) i _ _ vb tb c (by omega) hlt F1 nS1 hst'.1 hvb (by omega) fun j' hj'=>?_⟩
   by_cases e:j' = j + 1
   ·subst e
    exact ⟨by omega,fun _=>by omega⟩
   ·exact hbest j' (by omega)
theorem zdl {Q:Value->Shared->Prop} (kf:Nat->Int) (hh:A.handled = none) (hl:s.heap.IsList l vs.toArray) (hne : 0 < vs.length)
  (turn:∀ (i:Nat) (v:Value),vs[i]? = some v->∀ (h:Heap) (tk:Nat),(∀ b o,s.heap.get? b = some o->h.get? b = some o)->∀ (Q:Value->Shared->Prop) (E:Value->Shared->Prop),(∀ t tk',Q (.int (kf i) t) { s with heap:=h,toks:=tk' })->wpAny (model prog w) A.in1 (call (.builtin kid) [v]) Q E { s with heap:=h,toks:=tk })
  (hQ:∀ i v h' tk',vs[i]? = some v->(∀ j,j < vs.length->kf i<=kf j/\(j < i->kf i < kf j))->(∀ b o,s.heap.get? b = some o->h'.get? b = some o)->Q v { s with heap:=h',toks:=tk' }) :
  wpAny (model prog w) A (call (.builtin "min") [.ref l] [(Str.ofString "key",.builtin kid)]) Q E s:=by
 have hname:(toString "min" ++ toString ".loop" : String) = "min.loop":=by decide
 obtain ⟨ol,hol,_⟩:=id hl
 have hll:l < s.heap.objs.size:=Heap.lt_size hol
 refine kmb_tree PySem.F.kind_min PySem.F.plain_min PySem.F.entry_min (kmb_min_key _ _) ?_
 show wpAny _ A.in1 (Builtin.Builtins.bindParams "min" ["key","default"] 0 ⟨[],[(Str.ofString "key",.builtin kid)]⟩ >>= _) _ _ s
 refine wpAny_bind (wpAny_of_eq (show Builtin.Builtins.bindParams "min" ["key","default"] 0 ⟨[],[(Str.ofString "key",.builtin kid)]⟩ = pure [some (.builtin kid),none] from rfl) ?_)
 refine wpAny_bind (wpAny_pure ?_)
 refine wpAny_bind (wpAny_pyIter_list hl ?_)
 refine wpAny_bind (wpAny_newList ?_ (Nat.zero_le _))
 rw [hname]
 have hS:(s.heap.push { cls:=.type "list_iterator",data:=.fields #[.ref l,.int 0 0] }).objs.size = s.heap.objs.size + 1:=size_push' ..
 have hlI:l ≠ s.heap.objs.size:=Nat.ne_of_lt hll
 have hSI:(s.heap.push { cls:=.type "list_iterator",data:=.fields #[.ref l,.int 0 0] }).objs.size ≠ s.heap.objs.size:=by rw [hS]; exact Nat.ne_of_gt (Nat.lt_succ_self _)
 have hlS:l ≠ (s.heap.push { cls:=.type "list_iterator",data:=.fields #[.ref l,.int 0 0] }).objs.size:=by rw [hS]; exact Nat.ne_of_lt (Nat.lt_succ_of_lt hll)
 refine wpAny_pure ⟨plainId_quiet PySem.F.plain_min_loop _,?_⟩
 have gI:((s.heap.push { cls:=.type "list_iterator",data:=.fields #[.ref l,.int 0 0] }).push (seqObj "list" #[] 0)).get? s.heap.objs.size = some { cls:=.type "list_iterator",data:=.fields #[.ref l,.int 0 0] }:=
  Heap.get?_push_of_some _ (Heap.get?_push_size _ rfl)
 have gS:((s.heap.push { cls:=.type "list_iterator",data:=.fields #[.ref l,.int 0 0] }).push (seqObj "list" #[] 0)).get? (s.heap.push { cls:=.type "list_iterator",data:=.fields #[.ref l,.int 0 0] }).objs.size = some (seqObj "list" #[] 0):=Heap.get?_push_size _ rfl
 have old:∀ b o,s.heap.get? b = some o->((s.heap.push { cls:=.type "list_iterator",data:=.fields #[.ref l,.int 0 0] }).push (seqObj "list" #[] 0)).get? b = some o:=fun b o e=>Heap.get?_push_of_some _ (Heap.get?_push_of_some _ e)
 have nold:∀ b o,s.heap.get? b = some o->b ≠ s.heap.objs.size/\b ≠ (s.heap.push { cls:=.type "list_iterator",data:=.fields #[.ref l,.int 0 0] }).objs.size:=fun b o e=>⟨Nat.ne_of_lt (Heap.lt_size e),by rw [hS]; exact Nat.ne_of_lt (Nat.lt_succ_of_lt (Heap.lt_size e))⟩
 generalize (s.heap.push { cls:=.type "list_iterator",data:=.fields #[.ref l,.int 0 0] }).push (seqObj "list" #[] 0) = hp at gI gS old |-
 generalize (s.heap.push { cls:=.type "list_iterator",data:=.fields #[.ref l,.int 0 0] }).objs.size = S at hSI hlS gS nold |-
 generalize hI0:s.heap.objs.size = I at hlI hSI gI nold |-
 have hl0:hp.IsList l vs.toArray:=by
  obtain ⟨o,ho,q⟩:=hl
  exact ⟨o,old l o ho,q⟩
 have W:=Walks.list (prog:=prog) (w:=w) (A:=A.in1) hh I l hlI vs.toArray
 have hsz:vs.toArray.size = vs.length:=List.size_toArray ..
 refine codeAny_builtin PySem.F.entry_min_loop ?_
 rw [Around.under_plainId PySem.F.plain_min_loop _]
 show wpAny _ A.in1 (seqItems? (.ref _) >>= _) _ _ _
 refine wpAny_bind (wpAny_seqItems gS rfl ?_)
 show wpAny _ A.in1 (tryCatch (pyNext (.ref I)) _ >>= _) _ _ _
 refine wpAny_bind (wpAny_tryCatch (W.item 0 _ _ _ (by rw [hsz]; exact hne) ⟨⟨_,gI,rfl,rfl⟩,hl0⟩ fun v h' tk' hP hst' hk'=>?_))
 have hv:vs[0]? = some v:=by simpa using hP
 have gS1:=hk' S _ (by simpa using hSI) gS
 have F1:Kp I S hp h':=fun b o hb1 hb2 e=>hk' b o (by simpa using hb1) e
 show wpAny _ A.in1 (tryCatch (holding [v] (call (.builtin kid) [v])) _ >>= _) _ _ _
 refine wpAny_bind (wpAny_tryCatch (wpAny_holding (turn 0 v hv h' tk' (fun b o e=>F1 b o (nold b o e).1 (nold b o e).2 (old b o e)) _ _ fun t2 tk2=>?_)))
 obtain ⟨c2,hc2⟩:∃ c2,(h'.update S (Obj.mapSeq fun _=>#[v,.int (kf 0) t2])).get? S = some (seqObj "list" #[v,.int (kf 0) t2] c2):=⟨_,get?_update_seq gS1 fun _=>#[v,.int (kf 0) t2]⟩
 show wpAny _ A.in1 (updateSeq S (fun _=>#[v,.int (kf 0) t2]) >>= _) _ _ _
 refine wpAny_bind ?_
 refine wpAny_updateSeq gS1 rfl ?_
 rw [hname]
 refine wpAny_pure ⟨plainId_quiet PySem.F.plain_min_loop _,zcZ kf hh hp hl0 hlI hlS hSI (fun i v hv h tk k Q E q=>turn i v hv h tk (fun b o e=>k b o (nold b o e).1 (nold b o e).2 (old b o e)) Q E q) (fun i v h' tk' hv hb k=>hQ i v h' tk' hv hb fun b o e=>k b o (nold b o e).1 (nold b o e).2 (old b o e)) _ 0 0 _ _ v t2 c2 rfl hne (fun b o hb1 hb2 e=>(Heap.get?_update_other _ _ (Ne.symm hb2)).trans (F1 b o hb1 hb2 e)) hc2 (by
  obtain ⟨oI',hoI',q⟩:=hst'.1
  exact ⟨oI',(Heap.get?_update_other _ _ hSI).trans hoI',q⟩) hv (Nat.le_refl _) fun j' hj'=>?_⟩
 have e:j' = 0:=by omega
 subst e
 exact ⟨by omega,fun h=>absurd h (Nat.lt_irrefl _)⟩
end
section
variable {X:Cx}
def zg2 (H:Hp) (x:V) (ys:List V):Prop:=∃ a,x = .ref a/\H a = some (.lst ys)
def zfm (K:Frag) (ta:TA):TE:=fun σ H Q=>ta σ H fun vs H1=>∃ (q:Addr) (xs:List V) (yss:List (List V)),vs = [.ref q]/\SqL K H1 q xs/\Paired (zg2 H1) xs yss/\0 < xs.length/\
 ∀ (i:Nat) (x:V) (ys:List V),xs[i]? = some x->yss[i]? = some ys->(∀ (j:Nat) (ys':List V),yss[j]? = some ys'->ys.length<=ys'.length/\(j < i->ys.length < ys'.length))->Q x H1
theorem zcR {a:Expr} {ta:TA} {p p2 pos kp:Pos} (hc:X.calm = true) (hg:Gl X "min") (hm:X.mg "min" = none) (hgl:Gl X "len") (hml:X.mg "len" = none) (ha:PA X [a] ta) (h1:xS a = false:=by rfl) :
  PE X (.Call (.Name "min" p) [a] [⟨some "key",.Name "len" p2,kp⟩] pos) (zfm X.K ta):=by
 refine ⟨?_⟩
 intro pins s σ H Q I h
 refine wpAny_Call_Name_kw (xD I hg hm boot_min ?_)
 refine callWith_kw (env:=X.env) (id:="min") (e:=a) (rest:=[]) (thn (ha pos pins s σ H _ I h) fun us s1 ⟨vs,H1,I1,r1,q,xs,yss,e,hS,hp,h0,k⟩=>?_) (by rw [z8 h1]; rfl) (by rw [z8 h1]; rfl) rfl rfl
 subst e
 cases r1 with
 | cons r rr=>
  cases rr
  cases r
  refine kws_cons (xD I1 hgl hml PySem.boot_len (kws_nil ?_))
  obtain ⟨its,rv,hpl,hz⟩:=I1.list hS
  have hlen:its.length = xs.length:=rv.length.symm
  have hly:xs.length = yss.length:=hp.length
  have at_:∀ (i:Nat) (v:Value),its[i]? = some v->∃ (b:Addr) (ys:List V),v = .ref b/\xs[i]? = some (.ref b)/\yss[i]? = some ys/\H1 b = some (.lst ys):=fun i v hv=>by
   have hi:i < xs.length:=by rw [<- hlen]; exact (List.getElem?_eq_some_iff.mp hv).1
   obtain ⟨ys,hy,b,e1,e2⟩:=Paired.get hp (List.getElem?_eq_getElem hi)
   obtain ⟨v',e3,e4⟩:=rv.get (i:=i) (List.getElem?_eq_getElem hi)
   rw [hv] at e3
   cases e3
   rw [e1] at e4
   cases e4
   exact ⟨b,ys,rfl,by rw [List.getElem?_eq_getElem hi,e1],hy,e2⟩
  refine zdl (fun i=>((yss.getD i []).length:Int)) (I1.ok.hd hc) hpl.isList (by rw [hlen]; exact h0) (fun i v hv h tk keep Q' E' q'=>?_) (fun i v h' tk' hv hb keep=>?_)
  ·obtain ⟨b,ys,rfl,ex,ey,eb⟩:=at_ i v hv
   obtain ⟨ib,vb,pb,hzb⟩:=I1.list (SqL.of eb)
   have e1:(yss.getD i []).length = ib.toArray.size:=by
    rw [List.getD_eq_getElem?_getD,ey,List.size_toArray]
    exact vb.length
   obtain ⟨ob,hob,qb⟩:=pb.isList
   have hn:=ve
   refine Calls.call_len_list (items:=ib.toArray) ⟨ob,keep b ob hob,qb⟩ (by have:=vb.length; simp only [List.size_toArray]; omega) ?_
   have:=q' (tk + 1) (tk + 1 + 1)
   rw [e1] at this
   exact this
  ·obtain ⟨b,ys,rfl,ex,ey,eb⟩:=at_ i v hv
   refine ⟨.ref b,H1,I1.kept keep,rfl,k i (.ref b) ys ex ey fun j ys' hj=>?_⟩
   have hjl:j < its.length:=by rw [hlen,hly]; exact (List.getElem?_eq_some_iff.mp hj).1
   have:=hb j hjl
   rw [List.getD_eq_getElem?_getD,List.getD_eq_getElem?_getD,ey,hj] at this
   exact ⟨by have:=this.1; simpa using this,fun c=>by have:=this.2 c; simpa using this⟩
end
end L2
namespace K34
open PySem L2 PyProof.Rows
abbrev ug:List Str:=[Str.ofString "less"]
abbrev uf:List Str:=[Str.ofString "more"]
abbrev cIn (z:Str):List Str:=[Str.ofString "in",z]
abbrev qK (z:Str):List Str:=[Str.ofString "out",z]
def mtC (rows:List Rw) (names:List Str) (m:Str × Nat):List Str:=if m.1 = Str.ofString "lacking" then cIn (((rows[m.2]?).map (·.z)).getD "") else qK (names.getD m.2 "")
def mtF (rows:List Rw) (bars:List Str) (w many:Nat) (names:List Str):List (List Str):=List.replicate (many - w) ug ++ List.replicate (w - many) uf ++ (zV rows bars w names).map (mtC rows names)
def wl (G:Nat->List Str->Prop):List (List Str)->Nat->List Str->Prop
 | [],m,ns=>G m ns
 | c :: r,m,ns=>(c = ug/\0 < m/\wl G r (m - 1) ns)\/(c = uf/\wl G r (m + 1) ns)\/(∃ z,c = cIn z/\wl G r m (ns ++ [z]))\/(∃ z,c = qK z/\z ∈ ns/\∀ i,ns[i]? = some z->wl G r m (ns.eraseIdx i))
section
variable {G:Nat->List Str->Prop}
theorem jG (r:List (List Str)) (ns:List Str):∀ (a m:Nat),a<=m->wl G r (m - a) ns->wl G (List.replicate a ug ++ r) m ns
 | 0,m,_,h=>h
 | a + 1,m,hm,h=>.inl ⟨rfl,by omega,jG r ns a (m - 1) (by omega) (by rw [show m - 1 - a = m - (a + 1) by omega]; exact h)⟩
theorem jF (r:List (List Str)) (ns:List Str):∀ (b m:Nat),wl G r (m + b) ns->wl G (List.replicate b uf ++ r) m ns
 | 0,m,h=>h
 | b + 1,m,h=>.inr (.inl ⟨rfl,jF r ns b (m + 1) (by rw [show m + 1 + b = m + (b + 1) by omega]; exact h)⟩)
theorem zcd (m:Nat):∀ (is ns:List Str),wl G [] m (ns ++ is)->wl G (is.map cIn) m ns
 | [],ns,h=>by rw [List.append_nil] at h; exact h
 | z :: is,ns,h=>.inr (.inr (.inl ⟨z,rfl,zcd m is (ns ++ [z]) (by rw [List.append_assoc]; exact h)⟩))
theorem zae (r:List (List Str)) (m:Nat):∀ (os rest ns:List Str),ns.Perm (os ++ rest)->(∀ ns',ns'.Perm rest->wl G r m ns')->wl G ((os.map qK) ++ r) m ns
 | [],rest,ns,hp,h=>h ns hp
 | z :: os,rest,ns,hp,h=>.inr (.inr (.inr ⟨z,rfl,hp.mem_iff.mpr List.mem_cons_self,fun i hi=>by
   obtain ⟨hl,e⟩:=List.getElem?_eq_some_iff.mp hi
   refine zae r m os rest (ns.eraseIdx i) ?_ h
   have h1:=wY ns i hl
   rw [e] at h1
   exact List.Perm.cons_inv (h1.trans hp)⟩))
end
theorem uw:∀ (zs:List Str) (i:Nat) (acc:List (Str × Nat)),(acc.map (·.1)).Nodup->∃ new:List (Str × Nat),fpF i acc zs = acc ++ new/\((acc ++ new).map (·.1)).Nodup/\∀ p ∈ new,i<=p.2/\zs[p.2 - i]? = some p.1
 | [],i,acc,h=>⟨[],by rw [List.append_nil]; rfl,by rw [List.append_nil]; exact h,fun p hp=>nomatch hp⟩
 | z :: zs,i,acc,h=>by
  unfold fpF
  by_cases c:(acc.any fun p=>decide (p.1 = z)) = true
  ·rw [if_pos c]
   obtain ⟨new,e1,e2,e3⟩:=uw zs (i + 1) acc h
   refine ⟨new,e1,e2,fun p hp=>?_⟩
   obtain ⟨h1,h2⟩:=e3 p hp
   refine ⟨by omega,?_⟩
   rw [show p.2 - i = (p.2 - (i + 1)) + 1 by omega]
   exact h2
  ·rw [if_neg c]
   have nd:((acc ++ [(z,i)]).map (·.1)).Nodup:=by
    rw [List.map_append,List.nodup_append]
    refine ⟨h,by simp,fun x hx y hy e=>?_⟩
    have hy:y = z:=by simpa using hy
    obtain ⟨p,hp,ep⟩:=List.mem_map.mp hx
    exact c (List.any_eq_true.mpr ⟨p,hp,decide_eq_true (ep.trans (e.trans hy))⟩)
   obtain ⟨new,e1,e2,e3⟩:=uw zs (i + 1) (acc ++ [(z,i)]) nd
   refine ⟨(z,i) :: new,by rw [e1,List.append_assoc]; rfl,by rw [List.append_assoc] at e2; exact e2,fun p hp=>?_⟩
   rcases List.mem_cons.mp hp with rfl | hp
   ·exact ⟨Nat.le_refl _,by rw [Nat.sub_self]; rfl⟩
   ·obtain ⟨h1,h2⟩:=e3 p hp
    refine ⟨by omega,?_⟩
    rw [show p.2 - i = (p.2 - (i + 1)) + 1 by omega]
    exact h2
theorem zds {fp:List (Str × Nat)} (nd:(fp.map (·.1)).Nodup) {z:Str} {j k:Nat} (h1:(z,j) ∈ fp) (h2:(z,k) ∈ fp):j = k:=by
 obtain ⟨a,ha,ea⟩:=List.mem_iff_getElem.mp h1
 obtain ⟨b,hb,eb⟩:=List.mem_iff_getElem.mp h2
 have:a = b:=by
  refine (List.getElem_inj (xs:=fp.map (·.1)) (i:=a) (j:=b) (h₀:=by simpa using ha) (h₁:=by simpa using hb) nd).mp ?_
  rw [List.getElem_map,List.getElem_map,ea,eb]
 subst this
 rw [ea] at eb
 exact congrArg Prod.snd eb
theorem zdp {fp:List (Str × Nat)} (nd:(fp.map (·.1)).Nodup) {z:Str} {j:Nat} (h:(z,j) ∈ fp):zA (kvP fp) (.inr z) = some (.int (j:Nat)):=by
 cases e:zA (kvP fp) (.inr z) with
 | none=>
  have:=xu fp z
  rw [e] at this
  have h2:(fp.any fun p=>decide (p.1 = z)) = true:=List.any_eq_true.mpr ⟨_,h,decide_eq_true rfl⟩
  rw [h2] at this
  cases this
 | some v=>
  obtain ⟨z',j',e1,e2,e3⟩:=ut e
  cases e1
  rw [e2,zds nd e3 h]
theorem jm (names:List Str):∀ (zs:List Str) (i:Nat) (acc fp:List (Str × Nat)),fpF i acc zs = fp->(acc.map (·.1)).Nodup->(∀ p ∈ acc,p.2 < i)->(∀ (j:Nat) (z:Str),zs[j]? = some z->names.getD (i + j) "" = z)->
  ∃ new,fp = acc ++ new/\zs.Perm ((xG (kvP fp) i zs).map (fun m=>names.getD m.2 "") ++ new.map (·.1))
 | [],i,acc,fp,e,_,_,_=>⟨[],by rw [List.append_nil]; exact e.symm,List.Perm.refl _⟩
 | z :: zs,i,acc,fp,e,h,hi,hn=>by
  obtain ⟨all,e1,nd,_⟩:=uw (z :: zs) i acc h
  rw [e] at e1
  rw [<- e1] at nd
  have e:fpF (i + 1) (if (acc.any fun p=>decide (p.1 = z)) = true then acc else acc ++ [(z,i)]) zs = fp:=e
  have hn':∀ (j:Nat) (y:Str),zs[j]? = some y->names.getD (i + 1 + j) "" = y:=fun j y hy=>by
   rw [show i + 1 + j = i + (j + 1) by omega]
   exact hn (j + 1) y (by simpa using hy)
  have hz:names.getD i "" = z:=hn 0 z rfl
  have ed:xG (kvP fp) i (z :: zs) = (if zA (kvP fp) (.inr z) = some (.int (i:Nat)) then [] else [(("doubled" : Str),i)]) ++ xG (kvP fp) (i + 1) zs:=rfl
  rw [ed]
  by_cases c:(acc.any fun p=>decide (p.1 = z)) = true
  ·rw [if_pos c] at e
   obtain ⟨new,e2,pm⟩:=jm names zs (i + 1) acc fp e h (fun p hp=>Nat.lt_succ_of_lt (hi p hp)) hn'
   obtain ⟨p,hp,ep⟩:=List.any_eq_true.mp c
   have hv:zA (kvP fp) (.inr z) = some (.int (p.2:Nat)):=zdp nd (by rw [e2]; refine List.mem_append_left _ ?_; rw [<- of_decide_eq_true ep]; exact hp)
   have ne:¬ zA (kvP fp) (.inr z) = some (.int (i:Nat)):=fun c=>by
    rw [hv] at c
    have:=hi p hp
    injection c with c
    injection c with c
    omega
   rw [if_neg ne]
   refine ⟨new,e2,?_⟩
   show (z :: zs).Perm (names.getD i "" :: _)
   rw [hz]
   exact List.Perm.cons z pm
  ·rw [if_neg c] at e
   have nd1:((acc ++ [(z,i)]).map (·.1)).Nodup:=by
    rw [List.map_append,List.nodup_append]
    refine ⟨h,by simp,fun x hx y hy e=>?_⟩
    have hy:y = z:=by simpa using hy
    obtain ⟨p,hp,ep⟩:=List.mem_map.mp hx
    exact c (List.any_eq_true.mpr ⟨p,hp,decide_eq_true (ep.trans (e.trans hy))⟩)
   obtain ⟨new,e2,pm⟩:=jm names zs (i + 1) (acc ++ [(z,i)]) fp e nd1 (fun p hp=>by
    rcases List.mem_append.mp hp with hp | hp
    ·exact Nat.lt_succ_of_lt (hi p hp)
    ·rw [List.mem_singleton.mp hp]; exact Nat.lt_succ_self i) hn'
   have hv:zA (kvP fp) (.inr z) = some (.int (i:Nat)):=zdp nd (by rw [e2]; simp)
   rw [if_pos hv]
   refine ⟨(z,i) :: new,by rw [e2,List.append_assoc]; rfl,?_⟩
   exact (List.Perm.cons z pm).trans List.perm_middle.symm
theorem vX (names:List Str):names.Perm ((xG (kvP (fpZ names)) 0 names).map (fun m=>names.getD m.2 "") ++ (fpZ names).map (·.1))/\((fpZ names).map (·.1)).Nodup/\∀ p ∈ fpZ names,names.getD p.2 "" = p.1:=by
 obtain ⟨new,e1,e2,e3⟩:=uw names 0 [] (by simp)
 obtain ⟨new',e4,pm⟩:=jm names names 0 [] (fpZ names) rfl (by simp) (fun p hp=>nomatch hp) (fun j z hj=>by rw [Nat.zero_add,List.getD_eq_getElem?_getD,hj]; rfl)
 have e5:fpZ names = new':=e4
 have e6:fpZ names = new:=e1
 rw [<- e5] at pm
 refine ⟨pm,by rw [e6]; exact e2,fun p hp=>?_⟩
 rw [e6] at hp
 have:=(e3 p hp).2
 rw [Nat.sub_zero] at this
 rw [List.getD_eq_getElem?_getD,this]
 rfl
theorem jl {fk:List (Key × V)}:∀ (zs:List Str) (i:Nat),∀ m ∈ xG fk i zs,m.1 = Str.ofString "doubled"
 | [],_,m,h=>nomatch h
 | z :: zs,i,m,h=>by
  have h:m ∈ (if zA fk (.inr z) = some (.int (i:Nat)) then [] else [(("doubled" : Str),i)]) ++ xG fk (i + 1) zs:=h
  rcases List.mem_append.mp h with h | h
  ·split at h
   ·cases h
   ·rw [List.mem_singleton.mp h]
  ·exact jl zs (i + 1) m h
def wB (many:Nat) (fk:List (Key × V)):Nat->List Rw->List Str
 | _,[]=>[]
 | i,r :: rs=>(if z6 r i many fk = true then [r.z] else []) ++ wB many fk (i + 1) rs
theorem zaD {many:Nat} {fk:List (Key × V)} {all:List Rw} {names:List Str}:∀ (rows:List Rw) (i:Nat),(∀ (j:Nat) (r:Rw),rows[j]? = some r->all[i + j]? = some r)->(yL many fk i rows).map (mtC all names) = (wB many fk i rows).map cIn
 | [],_,_=>rfl
 | r :: rs,i,h=>by
  have ih:=zaD (many:=many) (fk:=fk) (names:=names) rs (i + 1) fun j x hx=>by rw [show i + 1 + j = i + (j + 1) by omega]; exact h (j + 1) x (by simpa using hx)
  show ((if z6 r i many fk = true then [(("lacking" : Str),i)] else []) ++ yL many fk (i + 1) rs).map (mtC all names) = ((if z6 r i many fk = true then [r.z] else []) ++ wB many fk (i + 1) rs).map cIn
  rw [List.map_append,List.map_append,ih]
  have h0:=h 0 r rfl
  rw [Nat.add_zero] at h0
  split
  ·show [mtC all names (Str.ofString "lacking",i)] ++ _ = [cIn r.z] ++ _
   unfold mtC
   rw [if_pos rfl,h0]
   rfl
  ·rfl
theorem jO {many:Nat} {fk:List (Key × V)} {z:Str}:∀ (rows:List Rw) (i:Nat),z ∈ wB many fk i rows ↔ ∃ j r,rows[j]? = some r/\r.z = z/\z6 r (i + j) many fk = true
 | [],i=>by
  constructor
  ·intro h; cases h
  ·rintro ⟨j,r,h,_⟩; simp at h
 | r :: rs,i=>by
  show z ∈ (if z6 r i many fk = true then [r.z] else []) ++ wB many fk (i + 1) rs ↔ _
  rw [List.mem_append,jO rs (i + 1)]
  constructor
  ·rintro (h | ⟨j,x,h1,h2,h3⟩)
   ·split at h
    next e=>exact ⟨0,r,rfl,(List.mem_singleton.mp h).symm,e⟩
    ·cases h
   ·exact ⟨j + 1,x,by simpa using h1,h2,by rw [show i + (j + 1) = i + 1 + j by omega]; exact h3⟩
  ·rintro ⟨j,x,h1,h2,h3⟩
   cases j with
   | zero=>
    have:r = x:=by simpa using h1
    subst this
    rw [Nat.add_zero] at h3
    exact .inl (by rw [if_pos h3,h2]; exact List.mem_singleton.mpr rfl)
   | succ j=>exact .inr ⟨j,x,by simpa using h1,h2,by rw [show i + 1 + j = i + (j + 1) by omega]; exact h3⟩
theorem jN {many:Nat} {fk:List (Key × V)}:∀ (rows:List Rw) (i:Nat),(∀ (j:Nat) (r:Rw),rows[j]? = some r->z6 r (i + j) many fk = true->z3 r.k = true)->(wB many fk i rows).Sublist (nms rows)
 | [],_,_=>List.Sublist.slnil
 | r :: rs,i,h=>by
  have ih:=jN (many:=many) (fk:=fk) rs (i + 1) fun j x hx hl=>h (j + 1) x (by simpa using hx) (by rw [show i + (j + 1) = i + 1 + j by omega]; exact hl)
  have en:nms (r :: rs) = (if z3 r.k = true then [r.z] else []) ++ nms rs:=by
   unfold nms
   rw [List.filter_cons]
   split <;> rfl
  show ((if z6 r i many fk = true then [r.z] else []) ++ wB many fk (i + 1) rs).Sublist _
  rw [en]
  by_cases e:z6 r i many fk = true
  ·rw [if_pos e,if_pos (h 0 r rfl e)]
   exact List.Sublist.append (List.Sublist.refl _) ih
  ·rw [if_neg e]
   exact ih.trans (List.sublist_append_right _ _)
theorem zbZ {rows:List Rw} {bars:List Str} {w:Nat} {names:List Str}:∀ (fp:List (Str × Nat)),(∀ p ∈ fp,names.getD p.2 "" = p.1)->(wt rows bars w fp).map (mtC rows names) = ((fp.map (·.1)).filter fun z=>(ya rows bars w z).isSome).map qK
 | [],_=>rfl
 | p :: fp,h=>by
  have ih:=zbZ (rows:=rows) (bars:=bars) (w:=w) fp fun q hq=>h q (List.mem_cons_of_mem _ hq)
  unfold wt at *
  rw [List.filterMap_cons,List.map_cons,List.filter_cons]
  cases e:ya rows bars w p.1 with
  | none=>simpa using ih
  | some wd=>
   have e1:mtC rows names (wd,p.2) = qK p.1:=by
    unfold mtC
    rw [if_neg (qU e),h p List.mem_cons_self]
   simp only [Option.map_some,Option.isSome_some,if_true,List.map_cons]
   rw [ih,e1]
theorem zgd {rows:List Rw} (nd:(nms rows).Nodup):∀ {i j:Nat} {r r':Rw},rows[i]? = some r->rows[j]? = some r'->z3 r.k = true->z3 r'.k = true->r.z = r'.z->i = j:=by
 induction rows with
 | nil=>intro i j r r' h; simp at h
 | cons x rs ih=>
  intro i j r r' h h' b b' e
  have en:nms (x :: rs) = (if z3 x.k = true then [x.z] else []) ++ nms rs:=by
   unfold nms
   rw [List.filter_cons]
   split <;> rfl
  rw [en] at nd
  have nd2:=(List.nodup_append.mp nd).2.1
  have mem:∀ {k:Nat} {y:Rw},rs[k]? = some y->z3 y.k = true->y.z ∈ nms rs:=fun hk hb=>List.mem_map.mpr ⟨_,List.mem_filter.mpr ⟨List.mem_of_getElem? hk,hb⟩,rfl⟩
  cases i with
  | zero=>
   have:x = r:=by simpa using h
   subst this
   cases j with
   | zero=>rfl
   | succ j=>
    have hj:rs[j]? = some r':=by simpa using h'
    have:=mem hj b'
    rw [if_pos b] at nd
    exact absurd this (fun c=>(List.nodup_append.mp nd).2.2 x.z (by simp) r'.z this e)
  | succ i=>
   have hi:rs[i]? = some r:=by simpa using h
   cases j with
   | zero=>
    have:x = r':=by simpa using h'
    subst this
    rw [if_pos b'] at nd
    exact absurd (mem hi b) (fun c=>(List.nodup_append.mp nd).2.2 x.z (by simp) r.z c e.symm)
   | succ j=>rw [ih nd2 hi (by simpa using h') b b' e]
theorem zc0 {rows:List Rw} {bars names:List Str} {many w:Nat} (V1:x0 rows bars) (hw:(zE 2 0 rows).isSome = true\/w<=plN rows) (hf:wF (nms rows) rows (plN rows)<=w):wl (fun m ns=>zV rows bars m ns = []) (mtF rows bars w many names) many names:=by
 obtain ⟨pm,ndF,atF⟩:=vX names
 have ndn:(nms rows).Nodup:=(List.nodup_append.mp V1.nd).1
 unfold mtF
 rw [List.append_assoc]
 refine jG _ _ _ _ (by omega) (jF _ _ _ _ ?_)
 rw [show many - (many - w) + (w - many) = w by omega]
 have eo:wp rows w = []:=xY.mpr hw
 have e1:(zV rows bars w names).map (mtC rows names) = ((xG (kvP (fpZ names)) 0 names).map (fun m=>names.getD m.2 "") ++ ((fpZ names).map (·.1)).filter fun z=>(ya rows bars w z).isSome).map qK ++ (wB w (kvP (fpZ names)) 0 rows).map cIn:=by
  unfold zV
  rw [eo,List.append_nil,List.map_append,List.map_append,List.map_append,zbZ _ atF,zaD rows 0 (fun j r h=>by rw [Nat.zero_add]; exact h)]
  congr 2
  rw [List.map_map]
  refine List.map_congr_left fun m hm=>?_
  show mtC rows names m = qK (names.getD m.2 "")
  unfold mtC
  rw [if_neg (fun c=>absurd ((jl _ _ m hm).symm.trans c) (by decide +kernel))]
 rw [e1]
 refine zae _ _ _ (((fpZ names).map (·.1)).filter fun z=>!(ya rows bars w z).isSome) names ?_ fun ns' hns=>zcd _ _ _ ?_
 ·rw [List.append_assoc]
  exact pm.trans (List.Perm.append_left _ (List.filter_append_perm _ _).symm)
 show zV rows bars w (ns' ++ wB w (kvP (fpZ names)) 0 rows) = []
 have inR:∀ z,z ∈ ns' ↔ z ∈ names/\ya rows bars w z = none:=fun z=>by
  rw [hns.mem_iff,List.mem_filter,ux]
  cases ya rows bars w z <;> simp
 have doors:∀ (j:Nat) (r:Rw),rows[j]? = some r->z6 r j w (kvP (fpZ names)) = true->z3 r.k = true:=fun j r hj hl=>by
  rw [xP,Bool.and_eq_true] at hl
  obtain ⟨h1,h2⟩:=hl
  cases hb:z3 r.k with
  | true=>rfl
  | false=>
   exfalso
   have nr:yl (nms rows) r = true:=by
    unfold yl yp at h1 |-
    rw [hb] at h1 |-
    exact h1
   have rok:=V1.ok r (List.mem_of_getElem? hj)
   have hp:=v0 V1.ok V1.ord hj
   cases hpl:y7 r.k with
   | false=>
    have:=rok.1
    unfold yl at h1
    have hfr:fr r.k r.b = true:=by
     have hk:r.k = 2\/r.k = 4:=by
      have:r.k < 5:=rok.1
      match r.k,this,hb,hpl with
      | 0,_,_,h=>cases h
      | 1,_,_,h=>cases h
      | 2,_,_,_=>exact .inl rfl
      | 3,_,h,_=>cases h
      | 4,_,_,_=>exact .inr rfl
     rcases hk with e | e <;> rw [e] <;> rfl
    rw [hfr] at h1
    cases h1
   | true=>
    rw [hpl] at hp
    have hlt:j < plN rows:=of_decide_eq_true hp.symm
    have:=(vg (plN rows)).mp hf j r hlt hj nr
    rw [hpl,decide_eq_true this] at h2
    cases h2
 have inL:∀ z,z ∈ wB w (kvP (fpZ names)) 0 rows ↔ ∃ j r,rows[j]? = some r/\r.z = z/\z6 r j w (kvP (fpZ names)) = true:=fun z=>by
  rw [jO]
  simp only [Nat.zero_add]
 have lk:∀ {j:Nat} {r:Rw},z6 r j w (kvP (fpZ names)) = true ↔ (fr r.k r.b = false/\¬ (z3 r.k = true/\r.z ∈ names)/\¬ (y7 r.k = true/\j < w)):=fun {j r}=>by
  rw [xP]
  unfold yl yp
  cases fr r.k r.b <;> cases z3 r.k <;> cases y7 r.k <;> simp
 have has:∀ {j:Nat} {r:Rw},rows[j]? = some r->z3 r.k = true->fr r.k r.b = false->¬ (j < plN rows/\j < w)->r.z ∈ ns' ++ wB w (kvP (fpZ names)) 0 rows:=fun {j r} hj hb hfr hn=>by
  rw [List.mem_append]
  by_cases hm:r.z ∈ names
  ·exact .inl ((inR _).mpr ⟨hm,qV V1 hj hb rfl hn⟩)
  ·refine .inr ((inL _).mpr ⟨j,r,hj,rfl,lk.mpr ⟨hfr,fun c=>hm c.2,fun c=>hn ?_⟩⟩)
   have hp:=v0 V1.ok V1.ord hj
   rw [c.1] at hp
   exact ⟨of_decide_eq_true hp.symm,c.2⟩
 refine (zaz V1).mpr ⟨⟨?_,?_,?_⟩,hw,?_,?_⟩
 ·rw [List.nodup_append]
  refine ⟨hns.nodup_iff.mpr (ndF.sublist List.filter_sublist),ndn.sublist (jN rows 0 fun j r hj hl=>doors j r hj (by rw [Nat.zero_add] at hl; exact hl)),fun x hx y hy e=>?_⟩
  subst e
  obtain ⟨j,r,hj,ez,hl⟩:=(inL x).mp hy
  have:=(lk.mp hl).2.1
  exact this ⟨doors j r hj hl,by rw [ez]; exact ((inR x).mp hx).1⟩
 ·intro z hz
  rcases List.mem_append.mp hz with hz | hz
  ·exact ((vj V1).mp ((inR z).mp hz).2).1
  ·obtain ⟨j,r,hj,ez,hl⟩:=(inL z).mp hz
   exact qV V1 hj (doors j r hj hl) ez (fun c=>absurd c.2 (Nat.not_lt_zero _))
 ·intro i r hi hpl
  cases hfr:fr r.k r.b with
  | true=>exact .inl rfl
  | false=>
   refine .inr ?_
   have rok:=V1.ok r (List.mem_of_getElem? hi)
   have hp:=v0 V1.ok V1.ord hi
   rw [decide_eq_false (by omega)] at hp
   have hb:z3 r.k = true:=by
    have:r.k < 5:=rok.1
    match hk:r.k,this with
    | 0,_=>rw [hk] at hp; cases hp
    | 1,_=>rfl
    | 2,_=>rw [hk] at hfr; cases hfr
    | 3,_=>rfl
    | 4,_=>rw [hk] at hfr; cases hfr
   unfold yp
   rw [hb,decide_eq_true (has hi hb hfr (fun c=>by omega))]
   rfl
 ·intro l r hl h1 h2
  unfold yp
  cases hb:z3 r.k with
  | false=>rfl
  | true=>
   rw [decide_eq_false]
   ·rfl
   intro hm
   rcases List.mem_append.mp hm with hm | hm
   ·have:=((vj V1).mp ((inR _).mp hm).2).2 l r hl h1 h2 hb
    exact this rfl
   ·obtain ⟨j,r',hj,ez,hl'⟩:=(inL _).mp hm
    have e:=zgd ndn hl hj hb (doors j r' hj hl') ez.symm
    subst e
    rw [hl] at hj
    cases hj
    have hp:=v0 V1.ok V1.ord hl
    rw [decide_eq_true h1] at hp
    exact (lk.mp hl').2.2 ⟨hp,h2⟩
 ·refine (vg (plN rows)).mpr fun i r hi hr nr=>?_
  rcases Nat.lt_or_ge i w with c | c
  ·exact c
  exfalso
  unfold yl at nr
  rw [Bool.and_eq_true] at nr
  have hfr:fr r.k r.b = false:=by cases h:fr r.k r.b with | false=>rfl | true=>rw [h] at nr; cases nr.1
  cases hb:z3 r.k with
  | true=>
   have:=has hr hb hfr (fun c=>by omega)
   have h2:=nr.2
   unfold yp at h2
   rw [hb,decide_eq_true this] at h2
   cases h2
  | false=>
   have nr2:yl (nms rows) r = true:=by
    unfold yl yp
    rw [hfr,hb]
    rfl
   have:=(vg (plN rows)).mp hf i r hi hr nr2
   omega
end K34
namespace L2
open PySem PyProof.Rows
def zg5 (X:Cx) (ss:List Stmt):TS:=fun D σ H=>∃ t,PSs X ss t/\t D σ H
theorem xJ {X:Cx} {ss:List Stmt}:PSs X ss (zg5 X ss):=⟨fun pins s σ H D I ⟨_,p,h⟩=>p pins s σ H D I h⟩
theorem zT {X:Cx} {st:Stmt} {rest:List Stmt} {t:TS} {D:L2.wI} {σ : L2.St} {H:Hp} (p:PS X st t) (h:vK t (zg5 X rest) D σ H):zg5 X (st :: rest) D σ H:=⟨_,zi p xJ,h⟩
end L2
namespace L2
open PySem PySem.Spec PyProof.Rows
section
variable {P:Program} {w:World} {K:Frag} {mg:Str->Option Value} {base h:Heap} {x q p p2 p3 p4 p5:Str} {st:Stmt} {f C T:Addr} {fd:FuncData} {sp:Sp} {k n:Nat}
structure TB (P:Program) (w:World) (K:Frag) (mg:Str->Option Value) (base:Heap):Prop where
 mgo:∀ {x:Str} {v:Value},nsIn K mainGlobals x = some (some v)->mg x = some v
structure GD (K:Frag) (x:Str) (st:Stmt) (f:Addr) (fd:FuncData):Prop where
 a:nsIn K mainGlobals x = some (some (.ref f))
 F:Fun K x x st f fd
structure MD (K:Frag) (C:Addr) (x q:Str) (st:Stmt) (f:Addr) (fd:FuncData):Prop where
 m:yN K C x f
 F:Fun K x q st f fd
structure DD (K:Frag) (C:Addr) (x q:Str) (st:Stmt) (f:Addr) (fd:FuncData) (ds:List Value):Prop where
 m:yN K C x f
 F:jx K x q st f fd ds
structure CD (K:Frag) (x:Str) (C:Addr):Prop where
 a:nsIn K mainGlobals x = some (some (.ref C))
 c:Cls K C
 ms:makesIn K C = true
 kc:keepIn K (.ref C) = true
theorem zkm {oc:Value} {od an:Option Addr} {osl:Array (Option Value)} {kV doc pm cdv ct:Value} (a:nsIn K mainGlobals x = some (some (.ref f))) (l:K.lookup f = some ⟨oc,od,.func (fnOf x x (zX st) (zS st) (zg st) .none kV doc pm an cdv ct),osl⟩)
  (c:codeIn K cdv x = true) (k:keepIn K (.ref f) = true):GD K x st f (fnOf x x (zX st) (zS st) (zg st) .none kV doc pm an cdv ct):=⟨a,zeS l c k⟩
theorem zkl {oc:Value} {od an:Option Addr} {osl:Array (Option Value)} {kV doc pm cdv ct:Value} (a:findIn K (.ref C) x = some (some (.ref f))) (i:isFn K (.ref f) = true) (l:K.lookup f = some ⟨oc,od,.func (fnOf x q (zX st) (zS st) (zg st) .none kV doc pm an cdv ct),osl⟩)
  (c:codeIn K cdv q = true) (k:keepIn K (.ref f) = true):MD K C x q st f (fnOf x q (zX st) (zS st) (zg st) .none kV doc pm an cdv ct):=⟨⟨a,i,k⟩,zeS l c k⟩
theorem zkn {oc oT:Value} {od an dT:Option Addr} {osl sT:Array (Option Value)} {kV doc pm cdv ct d:Value} (a:findIn K (.ref C) x = some (some (.ref f))) (i:isFn K (.ref f) = true) (l:K.lookup f = some ⟨oc,od,.func (fnOf x q (zX st) (zS st) (zg st) (.ref T) kV doc pm an cdv ct),osl⟩)
  (c:codeIn K cdv q = true) (k:keepIn K (.ref f) = true) (t:K.lookup T = some ⟨oT,dT,.seq #[d] n,sT⟩):DD K C x q st f (fnOf x q (zX st) (zS st) (zg st) (.ref T) kV doc pm an cdv ct) [d]:=⟨⟨a,i,k⟩,zgr (items:=[d]) l c k t rfl⟩
theorem zko (a:nsIn K mainGlobals x = some (some (.ref C))) (pg:plainGet K C Str.empty = true) (hd:hasDictIn K C = true) (po:plainOver K C = true) (sa:findIn K (.ref C) "__setattr__" = some (some (.builtin "object.__setattr__"))) (mk:makesIn K C = true) (kc:keepIn K (.ref C) = true):CD K x C:=⟨a,⟨pg,hd,po,sa⟩,mk,kc⟩
theorem Fun.b1 (F:Fun K x q st f fd) (h:∀ (kV doc pm:Value) (an:Option Addr) (cdv ct u:Value),bindArgs (fnOf x q (zX st) (zS st) (zg st) .none kV doc pm an cdv ct) ⟨[u],[]⟩ = pure [(p,u)]:=by intros; rfl):zQ K fd [p] []:=
 F.binds fun _ _ _ _ _ _ us hl=>match us,hl with | [_],_=>h _ _ _ _ _ _ _
theorem Fun.b2 (F:Fun K x q st f fd) (h:∀ (kV doc pm:Value) (an:Option Addr) (cdv ct u u2:Value),bindArgs (fnOf x q (zX st) (zS st) (zg st) .none kV doc pm an cdv ct) ⟨[u,u2],[]⟩ = pure [(p,u),(p2,u2)]:=by intros; rfl):zQ K fd [p,p2] []:=
 F.binds fun _ _ _ _ _ _ us hl=>match us,hl with | [_,_],_=>h _ _ _ _ _ _ _ _
theorem Fun.b3 (F:Fun K x q st f fd) (h:∀ (kV doc pm:Value) (an:Option Addr) (cdv ct u u2 u3:Value),bindArgs (fnOf x q (zX st) (zS st) (zg st) .none kV doc pm an cdv ct) ⟨[u,u2,u3],[]⟩ = pure [(p,u),(p2,u2),(p3,u3)]:=by intros; rfl):zQ K fd [p,p2,p3] []:=
 F.binds fun _ _ _ _ _ _ us hl=>match us,hl with | [_,_,_],_=>h _ _ _ _ _ _ _ _ _
theorem Fun.b4 (F:Fun K x q st f fd) (h:∀ (kV doc pm:Value) (an:Option Addr) (cdv ct u u2 u3 u4:Value),bindArgs (fnOf x q (zX st) (zS st) (zg st) .none kV doc pm an cdv ct) ⟨[u,u2,u3,u4],[]⟩ = pure [(p,u),(p2,u2),(p3,u3),(p4,u4)]:=by intros; rfl):zQ K fd [p,p2,p3,p4] []:=
 F.binds fun _ _ _ _ _ _ us hl=>match us,hl with | [_,_,_,_],_=>h _ _ _ _ _ _ _ _ _ _
theorem GD.c1 (g:GD K x st f fd) (B:TB P w K mg base) (ok:zp P w K mg base CX0 k f fd [p] sp) (h:∀ (kV doc pm:Value) (an:Option Addr) (cdv ct u:Value),bindArgs (fnOf x x (zX st) (zS st) (zg st) .none kV doc pm an cdv ct) ⟨[u],[]⟩ = pure [(p,u)]:=by intros; rfl):zv P w K mg base k x f fd [p] sp:=⟨ok,B.mgo g.a,g.F.kp,g.F.b1 h⟩
theorem GD.c2 (g:GD K x st f fd) (B:TB P w K mg base) (ok:zp P w K mg base CX0 k f fd [p,p2] sp) (h:∀ (kV doc pm:Value) (an:Option Addr) (cdv ct u u2:Value),bindArgs (fnOf x x (zX st) (zS st) (zg st) .none kV doc pm an cdv ct) ⟨[u,u2],[]⟩ = pure [(p,u),(p2,u2)]:=by intros; rfl):zv P w K mg base k x f fd [p,p2] sp:=⟨ok,B.mgo g.a,g.F.kp,g.F.b2 h⟩
theorem GD.c3 (g:GD K x st f fd) (B:TB P w K mg base) (ok:zp P w K mg base CX0 k f fd [p,p2,p3] sp) (h:∀ (kV doc pm:Value) (an:Option Addr) (cdv ct u u2 u3:Value),bindArgs (fnOf x x (zX st) (zS st) (zg st) .none kV doc pm an cdv ct) ⟨[u,u2,u3],[]⟩ = pure [(p,u),(p2,u2),(p3,u3)]:=by intros; rfl):zv P w K mg base k x f fd [p,p2,p3] sp:=⟨ok,B.mgo g.a,g.F.kp,g.F.b3 h⟩
theorem GD.c4 (g:GD K x st f fd) (B:TB P w K mg base) (ok:zp P w K mg base CX0 k f fd [p,p2,p3,p4] sp) (h:∀ (kV doc pm:Value) (an:Option Addr) (cdv ct u u2 u3 u4:Value),bindArgs (fnOf x x (zX st) (zS st) (zg st) .none kV doc pm an cdv ct) ⟨[u,u2,u3,u4],[]⟩ = pure [(p,u),(p2,u2),(p3,u3),(p4,u4)]:=by intros; rfl):zv P w K mg base k x f fd [p,p2,p3,p4] sp:=⟨ok,B.mgo g.a,g.F.kp,g.F.b4 h⟩
theorem GD.law (g:GD K x st f fd) (h:∀ (kV doc pm:Value) (an:Option Addr) (cdv ct u:Value),bindArgs (fnOf x x (zX st) (zS st) (zg st) .none kV doc pm an cdv ct) ⟨[u],[]⟩ = pure [(p,u)]:=by intros; rfl):∀ (s:Shared) (v:Value),BindsTo s fd ⟨[v],[]⟩ [(p,v)]:=by
 obtain ⟨oc,od,kV,doc,pm,an,cdv,ct,osl,rfl,lk,hcd⟩:=g.F.ex
 exact fun s v=>.of_eq (h kV doc pm an cdv ct v)
theorem DD.b0 {d:Value} (D:DD K C x q st f fd [d]) (h:∀ (T:Addr) (kV doc pm:Value) (an:Option Addr) (cdv ct u u2 u3:Value),∃ k:Option (Array Value)->Sem (List (Str × Value)),bindArgs (fnOf x q (zX st) (zS st) (zg st) (.ref T) kV doc pm an cdv ct) ⟨[u,u2,u3],[]⟩ = seqItems? (.ref T) >>= k/\k (some [d].toArray) = pure [(p,u),(p2,u2),(p3,u3)]:=by exact fun _ _ _ _ _ _ _ _ _ _=>⟨_,rfl,rfl⟩):zQ K fd [p,p2,p3] []:=
 fun _ us KX hl=>match us,hl with | [_,_,_],_=>D.F.bindsTo (fun _ _ _ _ _ _ _=>h _ _ _ _ _ _ _ _ _ _) KX
end
end L2
namespace K34
open PySem L2 PyProof.Rows
def z4 (rows:List Rw) (many:Nat):Nat:=if (zE 2 0 rows).isSome = true then max (plN rows) many else plN rows
def yJ (rows:List Rw):Nat:=wF (nms rows) rows (plN rows)
theorem jh (names:List Str) (rows:List Rw):∀ n,wF names rows n<=n
 | 0=>Nat.le_refl _
 | n + 1=>by
  unfold wF
  split
  ·split
   ·exact Nat.le_refl _
   ·exact Nat.le_succ_of_le (jh names rows n)
  ·exact Nat.le_succ_of_le (jh names rows n)
theorem zas {o:Option Nat}:xr o = .non ↔ o.isSome = false:=by cases o <;> simp [xr]
structure zin (mg:Str->Option Value):Prop where
 max:mg "max" = none
 list:mg "list" = none
 range:mg "range" = none
 min:mg "min" = none
 len:mg "len" = none
def qY (c:C5) (CF:Addr):Sp:=fun vs H Q _=>∃ (f:Addr) (many:Nat) (rows:List Rw) (bars:List Str),vs = [.ref f,.int (many:Nat)]/\xH c CF H f rows bars/\rows.length<=24/\many<=800/\
 ∀ (l:Addr) (H':Hp),zl H H'->H l = none->H' l = some (.lst ((L2.yV (yJ rows) (z4 rows many + 1 - yJ rows)).map V.int))->Q (.ref l) H'
section
variable {P:Program} {w:World} {K:Frag} {mg:Str->Option Value} {base:Heap} {f CF:Addr} {fd:FuncData} {c:C5} {m:MA}
theorem vk:zm ["form","many","doors","most"] ["form","many"] (zg qp):=⟨rfl,rfl,rfl,by decide +kernel,rfl,by decide +kernel,by decide +kernel⟩
theorem zcW {g1 gP gL gT:Addr} {e1 eP eL eT gd:FuncData} (F:Fun K "wanted_numbers" "wanted_numbers" qp f fd) (U:zin mg) (FK:FC K CF) (PP:Pcs K m c) (cFw:zv P w K mg base 2 "fewest_by_place" g1 e1 ["form","names"] (zgQ c CF)) (mP:yN K CF "parameters" gP) (GP:zp P w K mg base CX0 1 gP eP ["self"] (vL c CF)) (bP:zQ K eP ["self"] []) (mL:yN K CF "places" gL) (GL:zp P w K mg base CX0 1 gL eL ["self"] (xT c CF)) (bL:zQ K eL ["self"] []) (mT:yN K CF "tail" gT) (GT:zp P w K mg base CX0 1 gT eT ["self"] (w9 c CF 2)) (bT:zQ K eT ["self"] []) (GB:zp P w K mg base CX0 1 m.fB gd ["self"] (uE K m bnL)) (bB:zQ K gd ["self"] []):zp P w K mg base CX0 3 f fd ["form","many"] (qY c CF):=by
 refine F.ok vk (fun vs H Q E h=>?_) (fun cdv A outer s H vs Q E hr h=>?_)
 ·obtain ⟨f,many,rows,bars,rfl,_⟩:=h
  rfl
 obtain ⟨f,many,rows,bars,rfl,hF,l24,m8,q⟩:=h
 have hr1:yb 1 _:=hr.mono (by decide)
 have hC:∀ C,Cs5 c C->Cls K C/\yN K C "by_name" m.fB:=fun C ⟨k,hk,e⟩=>by rw [e]; exact ⟨(PP k hk).cl,(PP k hk).mB⟩
 obtain ⟨dx,fs,lr,lb',ld,pps,h1,h2,h3,h4,h5,h6⟩:=id hF.at_
 have lpl:plN rows<=24:=Nat.le_trans (List.length_filter_le _ _) l24
 have hfp:=jh (nms rows) rows (plN rows)
 refine zT (zch (i:=2) [] ["parameter"] [none] vk.nd rfl (Or.inl rfl) rfl ⟨rfl,rfl,rfl,rfl⟩ (zZ (yn (pv 0) FK.cl mP GP hr1 bP .nil yc)) (z9 0) rfl rfl rfl
    (fun pins fp s H C=>⟨zk (i:=0) zh6 rfl (Or.inl rfl) (.inr rfl),wN (xi (xz (pv 0) hC GB hr1 bB yc)),qy (K:=K) rfl (pv 0) rfl⟩)) ?_
 refine ⟨_,rfl,f,dx,fs,rfl,h1,h2.no _ (by decide +kernel),f,rows,bars,rfl,hF.at_,fun a ps H1 s1 na ha hp=>?_⟩
 refine ⟨a,rfl,⟨_,SqL.of ha⟩,fun D hD=>?_⟩
 refine zbB (K:=K) (xs:=ps.map V.ref) rows (fun r=>z3 r.k) (fun r=>V.str r.z) hD (SqL.of ha) (by rw [List.length_map,hp.length]) (by rw [List.length_map,hp.length]; omega) (fun i x r H' Nn S hx hr' sH nn ss=>?_) (fun H2 s2 e2=>?_)
 ·obtain ⟨pa,hpa,rfl⟩:=xp hx
  obtain ⟨r',hr2,dx,hdx⟩:=yt hp hpa
  rw [hr'] at hr2
  cases hr2
  have rok:=hF.ok r (List.mem_of_getElem? hr')
  have C:=PP r.k rok.1
  have hd2:=sH _ _ hdx
  refine ⟨_,rfl,pa,_,dx,_,rfl,⟨r.k,rok.1,rfl⟩,hd2,vq (by decide +kernel) (by decide +kernel) (by decide +kernel),pa,dx,_,_,_,_,rfl,C,hd2,_,rfl,?_⟩
  rw [jS r.k rok.1]
  exact ⟨fun e=>⟨_,rfl,pa,_,dx,_,_,rfl,hd2,C.cl,C.nN,wc,nn _ (zl.refl _) e⟩,fun e=>ss _ (zl.refl _) e⟩
 have e2:H2 D = some (.lst ((nms rows).map V.str)):=by
  rw [e2]
  unfold nms
  rw [List.map_map]
  rfl
 have s02:=s1.trans s2
 dsimp only [zO]
 refine zT (zt (i:=3) vk.nd rfl (Or.inl rfl) (yn (pv 0) FK.cl mL GL hr1 bL .nil yc)) ?_
 refine ⟨_,rfl,f,dx,fs,rfl,s02 _ _ h1,h2.no _ (by decide +kernel),f,rows,bars,rfl,(hF.same s02).at_,?_⟩
 dsimp only [zO]
 refine zT (zP (x9 (ur (yn (pv 0) FK.cl mT GT hr1 bT .nil yc))) (zd (zt (i:=3) vk.nd rfl (Or.inl rfl) (cB (zdm rfl) U.max boot_max (ac (pv 3) (ac (pv 1) zb))))) zH) ?_
 refine wK (fun σ' H'=>σ' = [some (.ref f),some (.int (many:Nat)),some (.ref D),some (.int (z4 rows many:Nat))]/\H2 = H') ?_ (fun key=>?_)
 rotate_left
 ·refine ⟨_,rfl,f,dx,fs,rfl,s02 _ _ h1,h2.no _ (by decide +kernel),f,rows,bars,rfl,(hF.same s02).at_,_,rfl,?_⟩
  cases e:(zE 2 0 rows).isSome with
  | true=>
   refine je (by rw [decide_eq_false (fun c=>by rw [zas] at c; rw [e] at c; cases c)]; rfl) ?_
   refine ⟨_,rfl,_,rfl,_,_,rfl,?_⟩
   refine key _ _ ⟨?_,rfl⟩
   have:(if ((many:Nat):Int) > ((plN rows:Nat):Int) then ((many:Nat):Int) else ((plN rows:Nat):Int)) = ((z4 rows many:Nat):Int):=by
    unfold z4
    rw [if_pos e]
    split <;> omega
   rw [this]
   rfl
  | false=>
   refine vE (by rw [decide_eq_true (zas.mpr e)]; rfl) ?_
   refine key _ _ ⟨?_,rfl⟩
   have:z4 rows many = plN rows:=by unfold z4; rw [if_neg (by rw [e]; decide)]
   rw [this]
   rfl
 rintro σ _ ⟨rfl,rfl⟩
 have hm:z4 rows many<=850/\plN rows<=z4 rows many:=by
  unfold z4
  split <;> omega
 refine ⟨_,zd (zq (cTy (zaS rfl) U.list PyProof.Rows.boot_list (ac (cTy zdj U.range PyProof.Rows.boot_range (ac (cF cFw hr (ac (pv 0) (ac (pv 2) zb))) (ac (zy xC (pv 3) zh) zb))) zb))),?_⟩
 refine ⟨_,rfl,_,rfl,f,D,rows,bars,nms rows,rfl,hF.same s02,e2,fun H3 s3=>?_⟩
 refine ⟨_,rfl,_,_,rfl,rfl,yJ rows,z4 rows many + 1,rfl,fun p hp=>?_⟩
 have s4:=zc hp (.rng (yJ rows:Nat) ((z4 rows many + 1:Nat):Int))
 refine ⟨p,yJ rows,z4 rows many + 1,rfl,za,by unfold yJ; omega,by omega,fun l hl=>?_⟩
 have s5:=zc hl (.lst ((L2.yV (yJ rows) (z4 rows many + 1 - yJ rows)).map V.int))
 exact q l _ (s02.trans (s3.trans (s4.trans s5))) ((s02.trans (s3.trans s4)).free hl) za
end
abbrev F':Addr->Prop:=fun _=>False
abbrev chD (c:List Str):Dt:=.tup (c.map Dt.str)
theorem uQ {α : Type} (x : α):∀ k,(List.replicate k [x]).flatten = List.replicate k x
 | 0=>rfl
 | k + 1=>by rw [List.replicate_succ,List.flatten_cons,uQ x k]; rfl
theorem uJ {K:Frag} {ok:Addr->Prop} {H:Hp} {x:V} {d:Dt} (h:zu K ok H 1 x d):∀ k,Paired (zu K ok H 1) (List.replicate k x) (List.replicate k d)
 | 0=>.nil
 | k + 1=>.cons h (uJ h k)
theorem vM {K:Frag} {ok:Addr->Prop} {H:Hp} {t:Addr} {zs:List Str} (h:H t = some (.tup (zs.map V.str))):zu K ok H 1 (.ref t) (chD zs):=zu.tup (SqT.of h) (by
 induction zs generalizing t with
 | nil=>exact .nil
 | cons z zs ih=>
  have:∀ (zs:List Str),Paired (zu K ok H 0) (zs.map V.str) (zs.map Dt.str):=fun zs=>by
   induction zs with
   | nil=>exact .nil
   | cons z zs ih=>exact .cons .str ih
  exact this (z :: zs))
theorem ze4 {fk:List (Key × V)}:∀ (zs:List Str) (i:Nat),∀ m ∈ xG fk i zs,m.2 < i + zs.length
 | [],_,m,h=>nomatch h
 | z :: zs,i,m,h=>by
  have h:m ∈ (if zA fk (.inr z) = some (.int (i:Nat)) then [] else [(("doubled" : Str),i)]) ++ xG fk (i + 1) zs:=h
  rw [List.length_cons]
  rcases List.mem_append.mp h with h | h
  ·split at h
   ·cases h
   ·rw [List.mem_singleton.mp h]; show i < _; omega
  ·have:=ze4 zs (i + 1) m h
   omega
theorem zgf {rows:List Rw} {bars names:List Str} {w:Nat} (hw:(zE 2 0 rows).isSome = true\/w<=plN rows) {m:Str × Nat} (hm:m ∈ zV rows bars w names):(m.1 = Str.ofString "lacking"/\∃ r,rows[m.2]? = some r)\/(m.1 ≠ Str.ofString "lacking"/\m.2 < names.length):=by
 unfold zV at hm
 rw [xY.mpr hw,List.append_nil] at hm
 rcases List.mem_append.mp hm with hm | hm
 ·refine .inr ?_
  rcases List.mem_append.mp hm with hm | hm
  ·refine ⟨fun c=>absurd ((jl _ _ m hm).symm.trans c) (by decide +kernel),?_⟩
   have:=ze4 _ _ m hm
   omega
  ·unfold wt at hm
   obtain ⟨p,hp,e⟩:=List.mem_filterMap.mp hm
   cases e1:ya rows bars w p.1 with
   | none=>rw [e1] at e; cases e
   | some wd=>
    rw [e1] at e
    have e:(wd,p.2) = m:=Option.some.inj e
    subst e
    refine ⟨qU e1,?_⟩
    have:=zeU names 0 [] (fun p hp=>nomatch hp) p hp
    rw [Nat.zero_add] at this
    exact this
 ·obtain ⟨h1,j,r,hj,e,_⟩:=(zaC rows 0).mp hm
  rw [Nat.zero_add] at e
  exact .inl ⟨h1,r,by rw [e]; exact hj⟩
theorem zay {rows:List Rw} {bars names:List Str} {w:Nat} (hw:(zE 2 0 rows).isSome = true\/w<=plN rows):(zV rows bars w names).length<=2 * names.length + rows.length:=by
 unfold zV
 rw [xY.mpr hw,List.append_nil,List.length_append,List.length_append]
 have h1:∀ (zs:List Str) (i:Nat) (fk:List (Key × V)),(xG fk i zs).length<=zs.length:=fun zs=>by
  induction zs with
  | nil=>intro i fk; exact Nat.le_refl _
  | cons z zs ih=>
   intro i fk
   show ((if zA fk (.inr z) = some (.int (i:Nat)) then [] else [(("doubled" : Str),i)]) ++ xG fk (i + 1) zs).length<=_
   rw [List.length_append,List.length_cons]
   have:=ih (i + 1) fk
   split <;> simp <;> omega
 have h2:(wt rows bars w (fpZ names)).length<=names.length:=by
  unfold wt
  have:=qE names 0 []
  have h3:(fpZ names).length<=names.length:=by simpa [fpZ] using this
  exact Nat.le_trans (List.length_filterMap_le _ _) h3
 have h3:∀ (rows:List Rw) (i:Nat) (fk:List (Key × V)),(yL w fk i rows).length<=rows.length:=fun rows=>by
  induction rows with
  | nil=>intro i fk; exact Nat.le_refl _
  | cons r rs ih=>
   intro i fk
   show ((if z6 r i w fk = true then [(("lacking" : Str),i)] else []) ++ yL w fk (i + 1) rs).length<=_
   rw [List.length_append,List.length_cons]
   have:=ih (i + 1) fk
   split <;> simp <;> omega
 have a1:=h1 names 0 (kvP (fpZ names))
 have a3:=h3 rows 0 (kvP (fpZ names))
 omega
def zg1 (K:Frag) (H H':Hp) (l:Addr) (cs:List (List Str)):Prop:=H l = none/\∃ vs:List V,H' l = some (.lst vs)/\Paired (zu K F' H' 1) vs (cs.map chD)
def zgP (K:Frag) (c:C5) (CF:Addr):Sp:=fun vs H Q _=>∃ (f a:Addr) (w many:Nat) (rows:List Rw) (bars names:List Str),vs = [.ref f,.int (w:Nat),.int (many:Nat),.ref a]/\xH c CF H f rows bars/\rows.length<=24/\bars.length<=60/\w<=250/\many<=200/\names.length<=200/\H a = some (.lst (names.map V.str))/\((zE 2 0 rows).isSome = true\/w<=plN rows)/\
 ∀ (l:Addr) (H':Hp),zl H H'->zg1 K H H' l (mtF rows bars w many names)->Q (.ref l) H'
section
variable {P:Program} {w:World} {K:Frag} {mg:Str->Option Value} {base:Heap} {f CF:Addr} {fd:FuncData} {c:C5} {m:MA}
theorem zca:zm ["form","wanted","many","names","changes","word","number"] ["form","wanted","many","names"] (zg zhz):=⟨rfl,rfl,rfl,by decide +kernel,rfl,by decide +kernel,by decide +kernel⟩
theorem zhX {g1 gP:Addr} {e1 eP:FuncData} (F:Fun K "mends_to" "mends_to" zhz f fd) (FK:FC K CF) (PP:Pcs K m c) (cMo:zv P w K mg base 4 "misfits_of" g1 e1 ["form","many","names"] (zdB c CF)) (mP:yN K CF "parameters" gP) (GP:zp P w K mg base CX0 1 gP eP ["self"] (vL c CF)) (bP:zQ K eP ["self"] []):zp P w K mg base CX0 5 f fd ["form","wanted","many","names"] (zgP K c CF):=by
 refine F.ok zca (fun vs H Q E h=>?_) (fun cdv A outer s H vs Q E hr h=>?_)
 ·obtain ⟨f,a,w,many,rows,bars,names,rfl,_⟩:=h
  rfl
 obtain ⟨f,a,ww,many,rows,bars,names,rfl,hF,l24,l60,w8,m8,n1,ha,hw,q⟩:=h
 have hr1:yb 1 _:=hr.mono (by decide)
 obtain ⟨dx,fs,lr,lb',ld,pps,h1,h2,h3,h4,h5,h6⟩:=id hF.at_
 refine zT (zt (i:=4) zca.nd rfl (Or.inl rfl) (zy xB (zy zbs (zY (ac (zN (ac zr zb)) zb)) (zy wy (pv 2) (pv 1))) (zy zbs (zY (ac (zN (ac zr zb)) zb)) (zy wy (pv 1) (pv 2))))) ?_
 have sz : 1000<=sizeLine:=by decide
 refine ⟨zz1,fun t1 ht1=>⟨zz1,fun l1 hl1=>?_⟩⟩
 have s1:=zc ht1 (.tup [.str "less"])
 have g1:upd H t1 (.tup [.str "less"]) t1 = some (.tup (ug.map V.str)):=za
 have s2:=zc hl1 (.lst [.ref t1])
 have g2:upd (upd H t1 (.tup [.str "less"])) l1 (.lst [.ref t1]) l1 = some (.lst [.ref t1]):=za
 have s02:=s1.trans s2
 have g1:=s2 _ _ g1
 generalize upd (upd H t1 (.tup [.str "less"])) l1 (.lst [.ref t1]) = H2 at s2 g2 s02 g1 |-
 have k1:(((many:Nat):Int) - ((ww:Nat):Int)).toNat = many - ww:=by omega
 have k2:(((ww:Nat):Int) - ((many:Nat):Int)).toNat = ww - many:=by omega
 refine ⟨_,rfl,_,rfl,_,_,rfl,rfl,l1,_,_,rfl,rfl,g2,by omega,by omega,(by rw [k1]; show 1 * (many - ww)<=sizeLine; omega),fun l3 hl3=>?_⟩
 rw [k1,uQ]
 have s3:=zc hl3 (.lst (List.replicate (many - ww) (.ref t1)))
 have g3:upd H2 l3 (.lst (List.replicate (many - ww) (.ref t1))) l3 = some (.lst (List.replicate (many - ww) (.ref t1))):=za
 have s03:=s02.trans s3
 have g1:=s3 _ _ g1
 generalize upd H2 l3 (.lst (List.replicate (many - ww) (.ref t1))) = H3 at s3 g3 s03 g1 |-
 refine ⟨zz1,fun t4 ht4=>⟨zz1,fun l4 hl4=>?_⟩⟩
 have s4:=zc ht4 (.tup [.str "more"])
 have g4:upd H3 t4 (.tup [.str "more"]) t4 = some (.tup (uf.map V.str)):=za
 have s5:=zc hl4 (.lst [.ref t4])
 have g5:upd (upd H3 t4 (.tup [.str "more"])) l4 (.lst [.ref t4]) l4 = some (.lst [.ref t4]):=za
 have s45:=s4.trans s5
 have s05:=s03.trans s45
 have g1:=s45 _ _ g1
 have g3:=s45 _ _ g3
 have g4:=s5 _ _ g4
 generalize upd (upd H3 t4 (.tup [.str "more"])) l4 (.lst [.ref t4]) = H5 at s5 g5 s45 s05 g1 g3 g4 |-
 refine ⟨_,rfl,_,rfl,_,_,rfl,rfl,l4,_,_,rfl,rfl,g5,by omega,by omega,(by rw [k2]; show 1 * (ww - many)<=sizeLine; omega),fun l6 hl6=>?_⟩
 rw [k2,uQ]
 have s6:=zc hl6 (.lst (List.replicate (ww - many) (.ref t4)))
 have g6:upd H5 l6 (.lst (List.replicate (ww - many) (.ref t4))) l6 = some (.lst (List.replicate (ww - many) (.ref t4))):=za
 have s06:=s05.trans s6
 have g1:=s6 _ _ g1
 have g3:=s6 _ _ g3
 have g4:=s6 _ _ g4
 generalize upd H5 l6 (.lst (List.replicate (ww - many) (.ref t4))) = H6 at s6 g6 s06 g1 g3 g4 |-
 refine ⟨l3,l6,_,_,rfl,rfl,g3,g6,(by rw [List.length_replicate,List.length_replicate]; omega),fun lc hlc=>?_⟩
 have s7:=zc hlc (.lst (List.replicate (many - ww) (.ref t1) ++ List.replicate (ww - many) (.ref t4)))
 have g7:upd H6 lc (.lst (List.replicate (many - ww) (.ref t1) ++ List.replicate (ww - many) (.ref t4))) lc = some (.lst (List.replicate (many - ww) (.ref t1) ++ List.replicate (ww - many) (.ref t4))):=za
 have s07:=s06.trans s7
 have g1:=s7 _ _ g1
 have g4:=s7 _ _ g4
 have nlc:H lc = none:=s06.free hlc
 generalize upd H6 lc (.lst (List.replicate (many - ww) (.ref t1) ++ List.replicate (ww - many) (.ref t4))) = H7 at s7 g7 s07 g1 g4 |-
 have p7:Paired (zu K F' H7 1) (List.replicate (many - ww) (.ref t1) ++ List.replicate (ww - many) (.ref t4)) ((List.replicate (many - ww) ug ++ List.replicate (ww - many) uf).map chD):=by
  rw [List.map_append,List.map_replicate,List.map_replicate]
  exact yk (uJ (vM g1) _) (uJ (vM g4) _)
 have lv7:(List.replicate (many - ww) (V.ref t1) ++ List.replicate (ww - many) (V.ref t4)).length<=250:=by rw [List.length_append,List.length_replicate,List.length_replicate]; omega
 have l7:(List.replicate (many - ww) ug ++ List.replicate (ww - many) uf).length<=250:=by rw [List.length_append,List.length_replicate,List.length_replicate]; omega
 have eM:mtF rows bars ww many names = (List.replicate (many - ww) ug ++ List.replicate (ww - many) uf) ++ (zV rows bars ww names).map (mtC rows names):=rfl
 generalize List.replicate (many - ww) (V.ref t1) ++ List.replicate (ww - many) (V.ref t4) = v7 at g7 p7 lv7
 generalize List.replicate (many - ww) ug ++ List.replicate (ww - many) uf = c7 at p7 eM l7
 clear s6 g6 s06 s45 s05 g3 s5 g5 s4 s03 s3 s02 s2 s1 g2
 dsimp only [zO]
 have lms:(zV rows bars ww names).length<=2 * names.length + rows.length:=zay hw
 have atM:∀ m ∈ zV rows bars ww names,(m.1 = Str.ofString "lacking"/\∃ r,rows[m.2]? = some r)\/(m.1 ≠ Str.ofString "lacking"/\m.2 < names.length):=fun m hm=>zgf hw hm
 refine zT (yz PassesOwn.never rfl (zZ (cF cMo hr (ac (pv 0) (ac (pv 1) (ac (pv 3) zb))))) (yA rfl (zo (zk (i:=5) zca.nd rfl (Or.inl rfl)) (zo (zk (i:=6) zca.nd rfl (Or.inl rfl)) yh))) xJ) ?_
 refine ⟨_,rfl,_,rfl,_,rfl,f,a,ww,rows,bars,names,rfl,by omega,by omega,by omega,by omega,hF.ok,(hF.same s07).at_,s07 _ _ ha,fun lm H8 s8 ⟨us,nlm,hlm,hms⟩=>?_⟩
 generalize zV rows bars ww names = ms at eM lms atM hms
 have lu:us.length = ms.length:=hms.length
 refine ⟨lm,rfl,⟨_,SqL.of hlm⟩,yM (K:=K) (a:=lm) (xs:=us.map V.ref) (fun i σ H'=>∃ (v5 v6:Option V) (vs:List V),σ = [some (.ref f),some (.int (ww:Nat)),some (.int (many:Nat)),some (.ref a),some (.ref lc),v5,v6]/\zl H H'/\H' lm = some (.lst (us.map V.ref))/\xI H' us ms/\H' lc = some (.lst vs)/\Paired (zu K F' H' 1) vs ((c7 ++ (ms.take i).map (mtC rows names)).map chD)) ⟨_,_,v7,rfl,s07.trans s8,hlm,hms,s8 _ _ g7,by rw [List.take_zero,List.map_nil,List.append_nil]; exact Paired.imp' (fun _ _ z=>z.same s8) p7⟩ (fun i σ H' _ ⟨_,_,_,_,_,h,_⟩=>SqL.of h) ?_ ?_⟩
 ·rintro i x σ H9 hx ⟨v5,v6,vs,rfl,s9,hlm9,hms9,hlc9,pv9⟩
  obtain ⟨u,hu,rfl⟩:=xp hx
  obtain ⟨mm,hm,mu⟩:=yt hms9 hu
  have hi:i < ms.length:=(List.getElem?_eq_some_iff.mp hm).1
  have nlm9:lm ≠ lc:=fun e=>by
   rw [e] at nlm
   rw [g7] at nlm
   cases nlm
  have lvs:vs.length<=1000:=by
   rw [pv9.length,List.length_map,List.length_append,List.length_map,List.length_take]
   omega
  have tk:(c7 ++ (ms.take (i + 1)).map (mtC rows names)).map chD = (c7 ++ (ms.take i).map (mtC rows names)).map chD ++ [chD (mtC rows names mm)]:=by
   simp only [za1 hm,List.map_append,List.append_assoc]
   rfl
  have put:∀ (H10:Hp) (t:Addr) (zs:List Str),zl H9 H10->H10 t = some (.tup (zs.map V.str))->mtC rows names mm = zs->∃ (v5 v6:Option V) (vs':List V),([some (.ref f),some (.int (ww:Nat)),some (.int (many:Nat)),some (.ref a),some (.ref lc),some (.str mm.1),some (.int (mm.2:Nat))]:List (Option V)) = [some (.ref f),some (.int (ww:Nat)),some (.int (many:Nat)),some (.ref a),some (.ref lc),v5,v6]/\zl H (upd H10 lc (.lst (vs ++ [.ref t])))/\upd H10 lc (.lst (vs ++ [.ref t])) lm = some (.lst (us.map V.ref))/\xI (upd H10 lc (.lst (vs ++ [.ref t]))) us ms/\upd H10 lc (.lst (vs ++ [.ref t])) lc = some (.lst vs')/\Paired (zu K F' (upd H10 lc (.lst (vs ++ [.ref t]))) 1) vs' ((c7 ++ (ms.take (i + 1)).map (mtC rows names)).map chD):=fun H10 t zs s10 ht e=>by
   refine ⟨_,_,vs ++ [.ref t],rfl,zU (s9.trans s10) nlc _,by rw [zf nlm9]; exact s10 _ _ hlm9,(hms9.same s10).upd (s10 _ _ hlc9),za,?_⟩
   rw [tk,e]
   have hlc10:=s10 _ _ hlc9
   exact Paired.snoc (Paired.imp' (fun _ _ z=>xW (.inr ⟨_,hlc10⟩) (fun b hb _=>hb.elim) (z.same s10)) pv9) (xW (.inr ⟨_,hlc10⟩) (fun b (hb:F' b) _=>hb.elim) (vM ht))
  refine ⟨u,_,rfl,SqT.of mu,rfl,_,_,rfl,_,_,rfl,rfl,?_⟩
  dsimp only [zO]
  refine ⟨_,zd (zP (zn yE (pv 5) zr (zD _)) (zd (zB (yv PySem.F.plainAttrs_list PySem.F.slot_list_append PySem.F.type_list_append zG (pv 4) (ac (zN (ac zr (ac (yr (zF zI (yn (pv 0) FK.cl mP GP hr1 bP .nil yc) (pv 6) (fun _ _=>rfl)) rfl) zb))) zb))))
   (zd (zB (yv PySem.F.plainAttrs_list PySem.F.slot_list_append PySem.F.type_list_append zG (pv 4) (ac (zN (ac zr (ac (zF zI (pv 3) (pv 6) (fun _ _=>rfl)) zb))) zb))))),?_⟩
  refine ⟨_,rfl,rfl,_,rfl,?_⟩
  rcases atM mm (List.mem_of_getElem? hm) with ⟨el,r,hr'⟩ | ⟨el,hlt⟩
  ·refine je (decide_eq_true (by rw [el])) ?_
   refine ⟨_,rfl,.inl ⟨rfl,_,SqL.of hlc9⟩,_,rfl,f,dx,fs,rfl,s9 _ _ h1,h2.no _ (by decide +kernel),f,rows,bars,rfl,(hF.same s9).at_,fun lp ps H10 s10 nlp hlp hps=>?_⟩
   have hpl:mm.2 < ps.length:=by rw [hps.length]; exact (List.getElem?_eq_some_iff.mp hr').1
   obtain ⟨r2,hr2,dxp,hdx⟩:=yt hps (List.getElem?_eq_getElem hpl)
   rw [hr'] at hr2
   cases hr2
   have rok:=hF.ok r (List.mem_of_getElem? hr')
   have C:=PP r.k rok.1
   refine ⟨_,rfl,lp,_,_,.ref ps[mm.2],rfl,rfl,SqL.of hlp,xQ (by rw [List.getElem?_map,List.getElem?_eq_getElem hpl]; rfl),ps[mm.2],_,dxp,_,_,rfl,hdx,C.cl,C.nN,wc,zz2,fun tt htt=>?_⟩
   have s11:=zc htt (.tup ((cIn r.z).map V.str))
   refine ⟨lc,_,_,rfl,rfl,(s10.trans s11) _ _ hlc9,zx (by omega),?_⟩
   exact put _ tt (cIn r.z) (s10.trans s11) za (by unfold mtC; rw [if_pos el,hr']; rfl)
  ·refine vE (decide_eq_false (fun e=>el (V.str.inj e))) ?_
   refine ⟨_,rfl,.inl ⟨rfl,_,SqL.of hlc9⟩,_,rfl,_,rfl,a,_,_,.str (names.getD mm.2 ""),rfl,rfl,SqL.of (s9 _ _ ha),xQ (by rw [List.getElem?_map,List.getElem?_eq_getElem hlt,List.getD_eq_getElem?_getD,List.getElem?_eq_getElem hlt]; rfl),zz2,fun tt htt=>?_⟩
   have s11:=zc htt (.tup ((qK (names.getD mm.2 "")).map V.str))
   refine ⟨lc,_,_,rfl,rfl,s11 _ _ hlc9,zx (by omega),?_⟩
   exact put _ tt (qK (names.getD mm.2 "")) s11 za (by unfold mtC; rw [if_neg el])
 ·rintro σ H9 ⟨v5,v6,vs,rfl,s9,hlm9,hms9,hlc9,pv9⟩
  rw [List.length_map,lu,List.take_length,<- eM] at pv9
  exact ⟨_,zd (zq (pv 4)),_,rfl,q lc H9 s9 ⟨nlc,vs,hlc9,pv9⟩⟩
end
def ChL (K:Frag) (H0 H:Hp) (D:Addr) (x:V) (cs:List (List Str)):Prop:=∃ (l:Addr) (vs:List V),x = .ref l/\(l ≠ D/\H0 l = none)/\H l = some (.lst vs)/\Paired (zu K F' H 1) vs (cs.map chD)
theorem j4 {K:Frag} {H0 H:Hp} {D:Addr}:∀ {zs:List V} {css:List (List (List Str))},Paired (ChL K H0 H D) zs css->∃ yss:List (List V),Paired (zg2 H) zs yss/\∀ (i:Nat) (x:V) (ys:List V),zs[i]? = some x->yss[i]? = some ys->∃ (cs:List (List Str)) (l:Addr),css[i]? = some cs/\x = .ref l/\H0 l = none/\H l = some (.lst ys)/\Paired (zu K F' H 1) ys (cs.map chD)
 | [],_,.nil=>⟨[],.nil,fun i x ys h=>by simp at h⟩
 | _ :: _,_,.cons ⟨l,vs,e1,e0,e2,e3⟩ t=>by
  obtain ⟨yss,p,q⟩:=j4 t
  refine ⟨vs :: yss,.cons ⟨l,e1,e2⟩ p,fun i x ys hx hy=>?_⟩
  cases i with
  | zero=>
   rw [List.getElem?_cons_zero] at hx hy
   cases hx
   cases hy
   exact ⟨_,l,rfl,e1,e0.2,e2,e3⟩
  | succ i=>exact q i x ys (by simpa using hx) (by simpa using hy)
theorem zgn {a n i:Nat} {x:V} (h:((L2.yV a n).map V.int)[i]? = some x):i < n/\x = .int ((a + i:Nat):Int):=by
 unfold L2.yV at h
 rw [List.map_map,List.getElem?_map] at h
 cases e:(List.range n)[i]? with
 | none=>rw [e] at h; cases h
 | some j=>
  rw [e] at h
  have hi:i < n:=by have:=(List.getElem?_eq_some_iff.mp e).1; rwa [List.length_range] at this
  rw [List.getElem?_range hi] at e
  cases e
  exact ⟨hi,(Option.some.inj h).symm⟩
def qO (rows:List Rw) (bars:List Str) (many:Nat) (names:List Str) (w:Nat):Prop:=yJ rows<=w/\w<=z4 rows many/\∀ w',yJ rows<=w'->w'<=z4 rows many->(mtF rows bars w many names).length<=(mtF rows bars w' many names).length
def yW (K:Frag) (H:Hp) (a:Addr) (c:List yo):Prop:=∃ xs,SqL K H a xs/\Paired (zu K T' H 3) xs (c.map yu)
def qf (K:Frag) (c:C5) (CF:Addr):Sp:=fun vs H Q _=>∃ (f a:Addr) (it:List yo) (rows:List Rw) (bars:List Str),vs = [.ref f,.ref a]/\xH c CF H f rows bars/\rows.length<=24/\bars.length<=60/\yW K H a it/\(zw it).length<=200/\(zM it).length<=200/\
 ∀ (w:Nat) (l:Addr) (H':Hp),zl H H'->qO rows bars (zw it).length (zC it) w->zg1 K H H' l (mtF rows bars w (zw it).length (zC it))->Q (.ref l) H'
def zdz (K:Frag) (c:C5) (CF:Addr):Sp:=fun vs H Q _=>∃ (f a:Addr) (it:List yo) (rows:List Rw) (bars:List Str),vs = [.ref f,.ref a]/\xH c CF H f rows bars/\rows.length<=24/\bars.length<=60/\yW K H a it/\(zw it).length<=200/\(zM it).length<=200/\
 ∀ (w:Nat) (H':Hp),zl H H'->qO rows bars (zw it).length (zC it) w->Q (.int ((mtF rows bars w (zw it).length (zC it)).length:Nat)) H'
section
variable {P:Program} {w:World} {K:Frag} {mg:Str->Option Value} {base:Heap} {f CF:Addr} {fd:FuncData} {c:C5} {m:MA}
theorem zh5:([Str.ofString "wanted",Str.ofString "names",Str.ofString "many",Str.ofString "form"]:List Str).Nodup:=by decide +kernel
theorem qo:zm ["form","call","many","names"] ["form","call"] (zg zbi):=⟨rfl,rfl,rfl,by decide +kernel,rfl,by decide +kernel,by decide +kernel⟩
theorem zhj:zm ["form","call"] ["form","call"] (zg uL):=⟨rfl,rfl,rfl,by decide +kernel,rfl,by decide +kernel,by decide +kernel⟩
theorem zet {g1 g2 g3:Addr} {e1 e2 e3:FuncData} (F:Fun K "mends" "mends" zbi f fd) (U:zin mg) (cS:zv P w K mg base 2 "shape" g1 e1 ["call"] (qe K)) (cW:zv P w K mg base 3 "wanted_numbers" g2 e2 ["form","many"] (qY c CF)) (cM:zv P w K mg base 5 "mends_to" g3 e3 ["form","wanted","many","names"] (zgP K c CF)):zp P w K mg base CX0 6 f fd ["form","call"] (qf K c CF):=by
 refine F.ok qo (fun vs H Q E h=>?_) (fun cdv A outer s H vs Q E hr h=>?_)
 ·obtain ⟨f,a,it,rows,bars,rfl,_⟩:=h
  rfl
 obtain ⟨f,a,it,rows,bars,rfl,hF,l24,l60,⟨xs,hxs,hp⟩,t1,p1,q⟩:=h
 have hr2:yb 2 _:=hr.mono (by decide)
 have hr3:yb 3 _:=hr.mono (by decide)
 have ln:(zC it).length<=200:=by unfold zC; rw [List.length_map]; exact p1
 refine zT (wb (cF cS hr2 (ac (pv 1) zb)) (yA rfl (zo (zk (i:=2) qo.nd rfl (Or.inr rfl)) (zo (zk (i:=3) qo.nd rfl (Or.inr rfl)) yh)))) ?_
 refine ⟨_,rfl,a,it,xs,rfl,hxs,hp,by omega,by omega,fun p l H1 s1 nl hpt hl=>?_⟩
 refine ⟨p,_,rfl,SqT.of hpt,rfl,_,_,rfl,_,_,rfl,rfl,?_⟩
 dsimp only [zO]
 generalize (zw it).length = many at *
 generalize zC it = names at *
 have lpl:plN rows<=24:=Nat.le_trans (List.length_filter_le _ _) l24
 have hm:z4 rows many<=200/\plN rows<=z4 rows many:=by
  unfold z4
  split <;> omega
 have hfp:yJ rows<=plN rows:=jh (nms rows) rows (plN rows)
 have okw:∀ w,w<=z4 rows many->((zE 2 0 rows).isSome = true\/w<=plN rows):=fun w h=>by
  unfold z4 at h
  split at h
  next e=>exact .inl e
  ·exact .inr h
 refine ⟨_,zd (zq (zcR rfl rfl U.min rfl U.len (ac (xL ["names","many","form"] ["wanted","names","many","form"] [none,some 3,some 2,some 0] rfl ⟨rfl,rfl,rfl,rfl⟩ (zZ (cF cW hr3 (ac (pv 0) (ac (pv 2) zb)))) (z9 0) rfl rfl rfl
  (fun pins fp s H C=>⟨zk (i:=0) zh5 rfl (Or.inl rfl) (.inr rfl),yI,cF cM hr (ac (pv 3) (ac (pv 0) (ac (pv 2) (ac (pv 1) zb))))⟩)) zb))),?_⟩
 refine ⟨_,rfl,_,rfl,f,many,rows,bars,rfl,hF.same s1,l24,by omega,fun lw H2 s2 nlw hlw=>?_⟩
 have s02:=s1.trans s2
 refine ⟨lw,rfl,⟨_,SqL.of hlw⟩,fun D hD=>?_⟩
 have lx:((L2.yV (yJ rows) (z4 rows many + 1 - yJ rows)).map V.int).length = z4 rows many + 1 - yJ rows:=by unfold L2.yV; rw [List.length_map,List.length_map,List.length_range]
 have hl2:=s2 _ _ hl
 refine xt (K:=K) (xs:=(L2.yV (yJ rows) (z4 rows many + 1 - yJ rows)).map V.int) (fun i zs H'=>zl H2 H'/\H' D = some (.lst zs)/\Paired (ChL K H H' D) zs ((List.range i).map fun k=>mtF rows bars (yJ rows + k) many names)) ⟨zc hD _,za,.nil⟩ (fun i zs H' h=>h.1.seq (SqL.of hlw)) ?_ ?_
 ·rintro i x zs H3 hlt hx ⟨s3,hD3,pz⟩
  obtain ⟨hi,rfl⟩:=zgn hx
  have lz:zs.length = i:=by rw [pz.length,List.length_map,List.length_range]
  have hwm:yJ rows + i<=z4 rows many:=by omega
  refine ⟨fun _=>?_,fun e=>by cases e⟩
  refine ⟨_,rfl,_,rfl,_,rfl,_,rfl,f,l,yJ rows + i,many,rows,bars,names,rfl,hF.same (s02.trans s3),l24,l60,by omega,by omega,ln,s3 _ _ hl2,okw _ hwm,fun lm H4 s4 ⟨nlm,vs,hlm,hvs⟩=>?_⟩
  have hD4:=s4 _ _ hD3
  have nD:lm ≠ D:=fun e=>by rw [e,hD3] at nlm; cases nlm
  refine lcN.mk hlt (by rw [lx]; exact ym (by omega)) hD4 (by omega) ⟨zU (s3.trans s4) hD _,za,?_⟩
  rw [List.range_succ,List.map_append]
  refine Paired.snoc (Paired.imp' (fun x cs ⟨l,vs,e1,e2,e3,e4⟩=>⟨l,vs,e1,e2,by rw [zf e2.1]; exact s4 _ _ e3,Paired.imp' (fun _ _ z=>xW (.inr ⟨_,hD4⟩) (fun b (hb:F' b) _=>hb.elim) (z.same s4)) e4⟩) pz) ⟨lm,vs,rfl,⟨nD,(s02.trans s3).free nlm⟩,by rw [zf nD]; exact hlm,Paired.imp' (fun _ _ z=>xW (.inr ⟨_,hD4⟩) (fun b (hb:F' b) _=>hb.elim) z) hvs⟩
 ·rintro zs H3 ⟨s3,hD3,pz⟩
  rw [lx] at pz
  obtain ⟨yss,py,at_⟩:=j4 pz
  have lz:zs.length = z4 rows many + 1 - yJ rows:=by rw [pz.length,List.length_map,List.length_range]
  refine ⟨D,zs,yss,rfl,SqL.of hD3,py,by omega,fun i x ys hx hy hb=>?_⟩
  obtain ⟨cs,lm,hc,rfl,nlm,hlm,hys⟩:=at_ i x ys hx hy
  have hi:i < z4 rows many + 1 - yJ rows:=by rw [<- lz]; exact (List.getElem?_eq_some_iff.mp hx).1
  rw [List.getElem?_map,List.getElem?_range hi] at hc
  have hc:mtF rows bars (yJ rows + i) many names = cs:=Option.some.inj hc
  subst hc
  have len:∀ (j:Nat) (ys':List V),yss[j]? = some ys'->ys'.length = (mtF rows bars (yJ rows + j) many names).length/\j < z4 rows many + 1 - yJ rows:=fun j ys' hj=>by
   have hjl:j < zs.length:=by rw [py.length]; exact (List.getElem?_eq_some_iff.mp hj).1
   obtain ⟨cs,lm,hc,_,_,_,hys⟩:=at_ j _ ys' (List.getElem?_eq_getElem hjl) hj
   rw [lz] at hjl
   rw [List.getElem?_map,List.getElem?_range hjl] at hc
   have hc:mtF rows bars (yJ rows + j) many names = cs:=Option.some.inj hc
   subst hc
   exact ⟨by rw [hys.length,List.length_map],hjl⟩
  refine q (yJ rows + i) lm H3 (s02.trans s3) ⟨Nat.le_add_right _ _,by omega,fun w' h1 h2=>?_⟩ ⟨nlm,ys,hlm,hys⟩
  have hj:w' - yJ rows < yss.length:=by rw [<- py.length,lz]; omega
  have h3:=hb (w' - yJ rows) _ (List.getElem?_eq_getElem hj)
  rw [(len _ _ (List.getElem?_eq_getElem hj)).1,(len i ys hy).1,show yJ rows + (w' - yJ rows) = w' by omega] at h3
  exact h3.1
theorem zfZ {g1:Addr} {e1:FuncData} (F:Fun K "nearest" "nearest" uL f fd) (hln:mg "len" = none) (cM:zv P w K mg base 6 "mends" g1 e1 ["form","call"] (qf K c CF)):zp P w K mg base CX0 7 f fd ["form","call"] (zdz K c CF):=by
 refine F.ok zhj (fun vs H Q E h=>?_) (fun cdv A outer s H vs Q E hr h=>?_)
 ·obtain ⟨f,a,it,rows,bars,rfl,_⟩:=h
  rfl
 obtain ⟨f,a,it,rows,bars,rfl,hF,l24,l60,hc,t1,p1,q⟩:=h
 refine ⟨_,zd (zq (cB yi hln PySem.boot_len (ac (cF cM hr (ac (pv 0) (ac (pv 1) zb))) zb))),?_⟩
 refine ⟨_,rfl,_,rfl,f,a,it,rows,bars,rfl,hF,l24,l60,hc,t1,p1,fun w l H1 s1 hm ⟨nl,vs,hl,hp⟩=>?_⟩
 refine ⟨l,vs,rfl,.inl (SqL.of hl),?_⟩
 rw [hp.length,List.length_map]
 exact q w H1 s1 hm
end
end K34
namespace L2
open PySem PySem.Spec PyProof.Rows
section
variable {X:Cx}
end
end L2
namespace K34
open PySem L2 PyProof.Rows
theorem zi6 {rows:List Rw} {bars names:List Str} {many:Nat}:zV rows bars many names = [] ↔ names.Nodup/\((zE 2 0 rows).isSome = true\/many<=plN rows)/\(∀ z ∈ names,ya rows bars many z = none)/\∀ i r,rows[i]? = some r->(yl names r && !(y7 r.k && decide (i < many))) = false:=by
 unfold zV
 rw [List.append_eq_nil_iff,List.append_eq_nil_iff,List.append_eq_nil_iff,zcB,xY,zbY,vS]
 constructor
 ·rintro ⟨⟨⟨h1,h2⟩,h3⟩,h4⟩
  exact ⟨h1,h2,h3,fun i r hi=>by have:=h4 i r hi; rw [Nat.zero_add,xP] at this; exact this⟩
 ·rintro ⟨h1,h2,h3,h4⟩
  exact ⟨⟨⟨h1,h2⟩,h3⟩,fun i r hi=>by rw [Nat.zero_add,xP]; exact h4 i r hi⟩
section
variable {P:Program} {w:World} {K:Frag} {mg:Str->Option Value} {base:Heap} {f CF:Addr} {fd:FuncData} {c:C5} {m:MA}
end
def za4 (K:Frag):Sp:=fun vs H Q _=>∃ (a:Addr) (ns:List Int) (k:Nat),vs = [.ref a,.int k]/\SqL K H a (ns.map V.int)/\Q (.int (ns.getD k 0)) H
section
variable {P:Program} {w:World} {K:Frag} {mg:Str->Option Value} {base:Heap} {f CF:Addr} {fd:FuncData} {c:C5} {m:MA}
theorem zfY (F:Fun K "_law_nth" "_law_nth" zhw f fd) (T:zjh mg):zp P w K mg base CX0 1 f fd ["_law_script","_law_k"] (za4 K):=by
 refine F.ok ziO (fun vs H Q E h=>?_) (fun cdv A outer s H vs Q E hr h=>?_)
 ·obtain ⟨a,ns,k,rfl,_⟩:=h
  rfl
 obtain ⟨a,ns,k,rfl,hS,q⟩:=h
 refine ⟨_,zd (zq (zaj (zn ua (pv 1) (cB yi T.len PySem.boot_len (ac (pv 0) zb)) (zD _)) (zF zI (pv 0) (pv 1) (fun _ _=>rfl)) zh)),?_⟩
 refine ⟨_,rfl,_,rfl,a,_,rfl,.inl hS,_,_,rfl,rfl,_,rfl,?_⟩
 rw [List.length_map]
 refine vW (fun c=>?_) (fun c=>?_)
 ·have c':(k:Int) < (ns.length:Int):=of_decide_eq_true c
  have hk:k < ns.length:=by omega
  rw [List.getD_eq_getElem?_getD,List.getElem?_eq_getElem hk] at q
  refine ⟨_,rfl,_,rfl,a,_,(k:Int),.int ns[k],rfl,rfl,hS,xQ (by rw [List.getElem?_map,List.getElem?_eq_getElem hk]; rfl),q⟩
 ·have c':¬ (k:Int) < (ns.length:Int):=fun h=>c (decide_eq_true h)
  rw [List.getD_eq_getElem?_getD,List.getElem?_eq_none (by omega)] at q
  exact q
end
def jv (ns:List Int) (a b:Nat):List Int:=(ns.drop (min a ns.length)).take (min b ns.length - min a ns.length)
theorem ze7 (ns:List Int) (a b:Nat):jo (ns.map V.int) (some (a:Int)) (some (b:Int)) = (jv ns a b).map V.int/\(jv ns a b).length<=b - a:=by
 unfold jv
 refine ⟨?_,?_⟩
 ·unfold jo
  rw [HT.zjn,HT.zjn,List.length_map,List.map_take,List.map_drop]
 ·rw [List.length_take,List.length_drop]
  omega
section
variable {P:Program} {w:World} {K:Frag} {mg:Str->Option Value} {base:Heap} {f CF:Addr} {fd:FuncData} {c:C5} {m:MA}
end
theorem vN {H H2:Hp} {l:Addr} {o:HO} (s:zl H H2) (h:H l = none):zl H (upd H2 l o):=fun b u e=>by rw [zf (ze e h)]; exact s b u e
theorem PAt.upd {c:C5} {H:Hp} {v D:Addr} {r:Rw} {ys:List V} {o:HO} (h:PAt c H v r) (hD:H D = some (.lst ys)):PAt c (upd H D o) v r:=by
 obtain ⟨dx,h⟩:=h
 refine ⟨dx,?_⟩
 rw [zf (fun e=>by rw [e,hD] at h; cases h)]
 exact h
def zjH (n:Bool):R2:=fun x y H Q=>∃ (a c:Addr) (xs:List V),x = .ref a/\y = .ref c/\H a = some (.lst xs)/\H c = some (.lst [])/\Q (.bl (n != xs.isEmpty)) H
theorem uV {X:Cx} (hu:X.A.units + 64 < cLine):OpR X (compareOp .Eq) (zjH false):=by
 intro pins s σ H x y v u Q I rx ry h
 obtain ⟨a,c,xs,rfl,rfl,ha,hc,q⟩:=h
 cases xs with
 | nil=>exact zek hu pins s σ H _ _ v u Q I rx ry ⟨a,c,0,.lst [],fun _=>True,fun _=>True,rfl,rfl,by decide,zu.lst True.intro ha .nil,zu.lst True.intro hc .nil,q⟩
 | cons z zs=>exact zaq (by omega) pins s σ H _ _ v u Q I rx ry ⟨a,c,_,_,rfl,rfl,ha,hc,by simp,q⟩
theorem zcp {rows:List Rw} {bars names:List Str} {many:Nat} (V1:x0 rows bars) (h:zV rows bars many names = []):yJ rows<=many/\many<=z4 rows many/\mtF rows bars many many names = []:=by
 obtain ⟨_,h2,_,h4⟩:=(zaz V1).mp h
 refine ⟨?_,?_,?_⟩
 ·refine (vg (plN rows)).mpr fun i r hi hr nr=>(vg (plN rows)).mp h4 i r hi hr ?_
  unfold yl yp at nr |-
  rw [Bool.and_eq_true] at nr |-
  refine ⟨nr.1,?_⟩
  cases hb:z3 r.k with
  | false=>rfl
  | true=>
   have:r.z ∈ nms rows:=List.mem_map.mpr ⟨r,List.mem_filter.mpr ⟨List.mem_of_getElem? hr,hb⟩,rfl⟩
   have n2:=nr.2
   rw [hb,decide_eq_true this] at n2
   cases n2
 ·unfold z4
  rcases h2 with h2 | h2
  ·rw [if_pos h2]; omega
  ·split <;> omega
 ·unfold mtF
  rw [h,Nat.sub_self]
  rfl
theorem zgg {rows:List Rw} {bars names:List Str} {many w w':Nat} (h:qO rows bars many names w) (h':qO rows bars many names w'):(mtF rows bars w many names).length = (mtF rows bars w' many names).length:=
 Nat.le_antisymm (h.2.2 w' h'.1 h'.2.1) (h'.2.2 w h.1 h.2.1)
section
variable {P:Program} {w:World} {K:Frag} {mg:Str->Option Value} {base:Heap} {f CF:Addr} {fd:FuncData} {c:C5} {m:MA}
end
theorem vF {ts:List Int} {i:Nat} {x:V} (h:(ts.map V.int)[i]? = some x):∃ t,ts[i]? = some t/\x = .int t:=by
 rw [List.getElem?_map] at h
 cases e:ts[i]? with
 | none=>rw [e] at h; cases h
 | some it=>rw [e] at h; exact ⟨it,rfl,(Option.some.inj h).symm⟩
theorem zim:∀ m,m < 26->(Str.ofString "abcdefghijklmnopqrstuvwxyz").cps.toList[m]? = some (97 + m):=by decide +kernel
structure Abc (z:Str) (n:Nat):Prop where
 len:z.length = n
 pos : 0 < n
 le:n<=26
 at_:∀ m,m < n->z.cps.toList[m]? = some (97 + m)
theorem zg0:Abc "abcdefghijklmnopqrstuvwxyz" 26:=⟨by decide +kernel,by decide,by decide,zim⟩
end K34
namespace L2
open PySem PySem.Spec PyProof.Rows
section
variable {X:Cx}
theorem jI {val:Nat->Int} {n:Nat} (h:∀ i,i < n->0<=val i/\val i<=1000):∀ j,j<=n->0<=preSum val j/\preSum val j<=1000 * j
 | 0,_=>⟨Int.le_refl _,Int.le_refl _⟩
 | j + 1,hj=>by
  have ih:=jI h j (by omega)
  have:=h j (by omega)
  show 0<=preSum val j + val j/\preSum val j + val j<=_
  omega
theorem zdg (hc:X.calm = true):yX X (.builtin "sum") (fun xs H Q=>∃ (p:Addr) (ns:List Int),xs = [.ref p]/\SqL X.K H p (ns.map V.int)/\ns.length<=100/\(∀ n ∈ ns,0<=n/\n<=1000)/\∀ m:Int,0<=m->m<=100000->Q (.int m) H):=by
 intro pins s σ H xs us Q I r h
 obtain ⟨p,ns,rfl,hS,l1,hb,q⟩:=h
 obtain ⟨u,rfl,ru⟩:=wo r
 cases ru
 obtain ⟨its,rv,hp,hz⟩:=I.list hS
 have hlen:its.length = ns.length:=by rw [<- rv.length,List.length_map]
 have hlt:p < s.heap.objs.size:=by obtain ⟨_,e,_⟩:=hp.isList; exact Heap.lt_size e
 have hpne:p ≠ s.heap.objs.size:=Nat.ne_of_lt hlt
 have hval:∀ (i:Nat) (v:Value),its.toArray[i]? = some v->∃ t,v = .int (ns.getD i 0) t:=fun i v hP=>by
  have hv:its[i]? = some v:=by simpa using hP
  have hi:i < ns.length:=by rw [<- hlen]; exact (List.getElem?_eq_some_iff.mp hv).1
  obtain ⟨u',e1,t,e2⟩:=rv.get (i:=i) (x:=V.int ns[i]) (by rw [List.getElem?_map,List.getElem?_eq_getElem hi]; rfl)
  rw [hv] at e1
  cases e1
  refine ⟨t,?_⟩
  rw [e2,List.getD_eq_getElem?_getD,List.getElem?_eq_getElem hi]
  rfl
 have hn:its.toArray.size = ns.length:=by rw [List.size_toArray,hlen]
 have hv2:∀ i,i < ns.length->0<=ns.getD i 0/\ns.getD i 0<=1000:=fun i hi=>by
  rw [List.getD_eq_getElem?_getD,List.getElem?_eq_getElem hi]
  exact hb _ (List.getElem_mem hi)
 have ps:=jI (val:=fun i=>ns.getD i 0) hv2
 refine call_sum_walkS (wpAny_pyIter_list hp.isList ?_)
 refine ⟨s.heap.objs.size,_,_,_,_,_,_,fun i=>ns.getD i 0,rfl,(Walks.list (A:=X.A.in1) (I.ok.hd hc) s.heap.objs.size p hpne its.toArray).toS,⟨⟨_,Heap.get?_push_size _ rfl,rfl,rfl⟩,hp.isList.push _⟩,fun b hb=>?_,hval,fun j hj=>?_,fun s' t' hm=>?_⟩
 ·show b < (s.heap.push _).objs.size
  rw [Heap.size_push]
  rcases List.mem_cons.mp hb with e | hb
  ·rw [e]; exact Nat.lt_succ_self _
  ·rw [List.mem_singleton.mp hb]; exact Nat.lt_succ_of_lt hlt
 ·rw [hn] at hj
  have h1:=hv2 j hj
  have h2:=ps (j + 1) (by omega)
  have e:(2:Int) ^ 63 = 9223372036854775808:=by decide
  refine ⟨⟨?_,?_⟩,⟨?_,?_⟩⟩ <;> rw [e] <;> (try dsimp only) <;> omega
 ·have hq:=ps ns.length (Nat.le_refl _)
  rw [hn]
  have em:=Moved.eq_with hm
  rw [em]
  refine ⟨.int _,H,I.kept (t':=s'.toks) (fun b o e=>hm.heap b o (fun hmem=>?_) (Heap.get?_push_of_some _ e)),⟨t',rfl⟩,q _ hq.1 (by omega)⟩
  have:=List.mem_singleton.mp hmem
  rw [this] at e
  exact absurd (Heap.lt_size e) (Nat.lt_irrefl _)
theorem zc9:∀ (zs:List Str),(PySem.Builtin.Str.glued "" zs).cps.toList = (zs.map fun z=>z.cps.toList).flatten:=by
 intro zs
 have h:∀ (rest:List Str) (acc:Array Nat),(rest.foldl (fun acc p=>acc ++ ("" : Str).cps ++ p.cps) acc).toList = acc.toList ++ (rest.map fun z=>z.cps.toList).flatten:=fun rest=>by
  induction rest with
  | nil=>intro acc; simp
  | cons z rest ih=>
   intro acc
   rw [List.foldl_cons,ih]
   have e:("" : Str).cps = #[]:=by decide +kernel
   rw [e]
   simp
 cases zs with
 | nil=>decide +kernel
 | cons z rest=>
  show (rest.foldl (fun acc p=>acc ++ ("" : Str).cps ++ p.cps) z.cps).toList = _
  rw [h]
  rfl
theorem zb2:∀ {zs:List Str} {us:List Value},zJ (zs.map V.str) us->∃ l:List (Str × Tok),us = strValues l/\l.map (·.1) = zs
 | [],_,.nil=>⟨[],rfl,rfl⟩
 | z :: zs,_,.cons r t=>by
  obtain ⟨tk,rfl⟩:=r
  obtain ⟨l,e1,e2⟩:=zb2 t
  exact ⟨(z,tk) :: l,by rw [e1]; rfl,by rw [List.map_cons,e2]⟩
def zhH:V->List V->Hp->VK->Prop:=fun x vs H Q=>∃ (p:Addr) (zs:List Str),x = .str ""/\vs = [.ref p]/\H p = some (.lst (zs.map V.str))/\zs.length<=1000/\(∀ z ∈ zs,z.length<=100)/\∀ y:Str,y.cps.toList = (zs.map fun z=>z.cps.toList).flatten->Q (.str y) H
theorem zeG:MtR X "str.join" zhH:=by
 intro pins s σ H x vs v us Q I rx rv h
 obtain ⟨p,zs,rfl,rfl,hH,l1,hb,q⟩:=h
 obtain ⟨t,rfl⟩:=rx
 obtain ⟨u,rfl,ru⟩:=wo rv
 cases ru
 obtain ⟨its,rv,hp,hz⟩:=I.list (SqL.of hH)
 obtain ⟨l,e1,e2⟩:=zb2 rv
 subst e1
 refine SC.join (x:="") hp.isList e2 ?_ fun t' k=>?_
 ·unfold JoinOk
  rw [PySem.StrLaws.joinFits (B:=100) hb (by
   have e:("" : Str).length = 0:=by decide +kernel
   rw [e]
   omega)]
  rfl
 ·exact ⟨.str _,H,I.tok _,⟨t',rfl⟩,q _ (zc9 zs)⟩
end
end L2
namespace K34
open PySem L2 PyProof.Rows
def za3:Sp:=fun vs H Q _=>∃ c:Int,vs = [.int c]/\∀ n:Int,Q (.int n) H
def qd (K:Frag):Sp:=fun vs H Q _=>∃ (c:Int) (a:Addr) (ds:List Nat),vs = [.int c,.ref a]/\SqL K H a (ds.map fun d=>V.int (d:Nat))/\(∀ d ∈ ds,0 < d/\d<=64)/\ds.length<=30/\
 ∀ (t l:Addr) (fs:List Nat) (rest:Int) (H':Hp),zl H H'->H l = none->H' t = some (.tup [.ref l,.int rest])->H' l = some (.lst (fs.map fun x=>V.int (x:Nat)))->fs.length = ds.length->(∀ i,i < ds.length->fs.getD i 0 < ds.getD i 0)->Q (.ref t) H'
section
variable {P:Program} {w:World} {K:Frag} {mg:Str->Option Value} {base:Heap} {f CF:Addr} {fd:FuncData} {c:C5} {m:MA}
theorem qm:zm ["_law_cell","_law_number","_law_k"] ["_law_cell"] (zg zdQ):=⟨rfl,rfl,rfl,by decide +kernel,rfl,by decide +kernel,by decide +kernel⟩
theorem zfV {g1:Addr} {e1:FuncData} (F:Fun K "_law_rich" "_law_rich" zdQ f fd) (hrg:mg "range" = none) (cM:zv P w K mg base 1 "_law_mix" g1 e1 ["_law_cell","_law_k"] zgN):zp P w K mg base CX0 2 f fd ["_law_cell"] za3:=by
 refine F.ok qm (fun vs H Q E h=>?_) (fun cdv A outer s H vs Q E hr h=>?_)
 ·obtain ⟨c,rfl,_⟩:=h
  rfl
 obtain ⟨c,rfl,q⟩:=h
 refine zT (zt (i:=1) qm.nd rfl (Or.inl rfl) zh) ?_
 refine zT (yz PassesOwn.never rfl (wO rfl hrg (ac zh zb)) (zk (i:=2) qm.nd rfl (Or.inl rfl)) xJ) ?_
 refine ⟨9,rfl,by decide,by decide,?_⟩
 refine jV (n:=9) (fun i σ H'=>∃ (n:Int) (v2:Option V),σ = [some (.int c),some (.int n),v2]/\H = H') ⟨0,_,rfl,rfl⟩ ?_ ?_
 ·rintro i σ H' hi ⟨n,v2,rfl,rfl⟩
  rw [Int.zero_add]
  dsimp only [zO]
  refine ⟨_,zd (zt (i:=1) qm.nd rfl (Or.inl rfl) (zy xC (zy zfQ (pv 1) zh) (cF cM hr (ac (pv 0) (ac (pv 2) zb))))),?_⟩
  refine ⟨_,rfl,_,_,rfl,rfl,IntMulOk.of_right (intBits_le_64 (by decide) (by decide)),_,rfl,_,rfl,c,i,rfl,by omega,fun m m0 m1=>?_⟩
  exact ⟨_,_,rfl,rfl,_,_,rfl,rfl⟩
 ·rintro σ H' ⟨n,v2,rfl,rfl⟩
  exact ⟨_,zd (zq (pv 1)),_,rfl,q n⟩
theorem uG:zm ["_law_cell","_law_sizes","_law_found","_law_size"] ["_law_cell","_law_sizes"] (zg zdM):=⟨rfl,rfl,rfl,by decide +kernel,rfl,by decide +kernel,by decide +kernel⟩
theorem zfR {g1:Addr} {e1:FuncData} (F:Fun K "_law_take" "_law_take" zdM f fd) (hsm:mg "sum" = none) (hln:mg "len" = none) (cR:zv P w K mg base 2 "_law_rich" g1 e1 ["_law_cell"] za3):zp P w K mg base CX0 3 f fd ["_law_cell","_law_sizes"] (qd K):=by
 refine F.ok uG (fun vs H Q E h=>?_) (fun cdv A outer s H vs Q E hr h=>?_)
 ·obtain ⟨c,a,ds,rfl,_⟩:=h
  rfl
 obtain ⟨c,a,ds,rfl,ha,hd,l30,q⟩:=h
 refine zT (zt (i:=2) uG.nd rfl (Or.inl rfl) (zY zb)) ?_
 refine ⟨zz0,fun lf hlf=>?_⟩
 have s1:=zc hlf (.lst [])
 have g1:upd H lf (.lst []) lf = some (.lst []):=za
 dsimp only [zO]
 generalize upd H lf (.lst []) = H1 at s1 g1 |-
 refine zT (yz PassesOwn.never rfl (zZ (pv 1)) (zk (i:=3) uG.nd rfl (Or.inl rfl)) xJ) ?_
 refine ⟨_,rfl,a,rfl,⟨_,s1.seq ha⟩,yM (K:=K) (a:=a) (xs:=ds.map fun d=>V.int (d:Nat)) (fun i σ H'=>∃ (c:Int) (v3:Option V) (fs:List Nat),σ = [some (.int c),some (.ref a),some (.ref lf),v3]/\zl H H'/\H' lf = some (.lst (fs.map fun x=>V.int (x:Nat)))/\fs.length = i/\∀ j,j < i->fs.getD j 0 < ds.getD j 0) ⟨c,_,[],rfl,s1,g1,rfl,fun j hj=>absurd hj (Nat.not_lt_zero _)⟩ (fun i σ H' _ ⟨_,_,_,_,sH,_⟩=>sH.seq ha) ?_ ?_⟩
 ·rintro i x σ H2 hx ⟨c,v3,fs,rfl,s2,hf2,lf2,lt2⟩
  rw [List.getElem?_map] at hx
  obtain ⟨d,hd',rfl⟩:=Option.map_eq_some_iff.mp hx
  have hi:i < ds.length:=(List.getElem?_eq_some_iff.mp hd').1
  obtain ⟨d0,d64⟩:=hd d (List.mem_of_getElem? hd')
  have dsm:∀ j,j < ds.length->ds.getD j 0<=64:=fun j hj=>by
   rw [List.getD_eq_getElem?_getD,List.getElem?_eq_getElem hj]
   exact (hd _ (List.getElem_mem hj)).2
  dsimp only [zO]
  refine zT (zP (PW.pt (zd8 (zn yE (pv 0) zh (zD _)) (zbo (zn yE (pv 0) (ziW zg4 zh) (zD _))))) (zd (zt (i:=0) uG.nd rfl (Or.inl rfl) (cF cR hr (ac (zy xC (cB (zdg rfl) hsm boot_sum (ac (pv 2) zb)) (zy xR zh (cB yi hln PySem.boot_len (ac (pv 2) zb)))) zb)))) zH) ?_
  refine wK (fun σ' H'=>∃ c':Int,σ' = [some (.int c'),some (.ref a),some (.ref lf),some (.int (d:Nat))]/\H2 = H') ?_ (fun key=>?_)
  rotate_left
  ·refine ⟨_,rfl,rfl,_,rfl,?_⟩
   have e1:H2 lf = some (.lst ((fs.map fun (x:Nat)=>(x:Int)).map V.int)):=by rw [hf2,List.map_map]; rfl
   have hs:∀ n ∈ fs.map (fun (x:Nat)=>(x:Int)),0<=n/\n<=1000:=fun n hn=>by
    obtain ⟨y,hy,rfl⟩:=List.mem_map.mp hn
    obtain ⟨j,hj,ej⟩:=List.mem_iff_getElem.mp hy
    have h1:=lt2 j (by omega)
    have h2:=dsm j (by omega)
    rw [List.getD_eq_getElem?_getD,List.getElem?_eq_getElem hj] at h1
    have h1:fs[j] < ds.getD j 0:=h1
    rw [ej] at h1
    omega
   by_cases h0:V.int c = V.int 0
   ·refine dT h0 ?_
    refine wC ?_
    refine ⟨_,rfl,lf,_,rfl,SqL.of e1,by rw [List.length_map]; omega,hs,fun m m0 m1=>?_⟩
    refine ⟨_,rfl,lf,_,rfl,.inl (SqL.of hf2),_,_,rfl,rfl,.inl ⟨by omega,by omega⟩,_,_,rfl,rfl,_,rfl,fun n=>?_⟩
    exact key _ _ ⟨n,rfl,rfl⟩
   refine dF h0 ?_
   refine ⟨_,rfl,_,rfl,rfl,_,rfl,?_⟩
   by_cases h1:V.int c = V.int (-1)
   ·refine dT h1 ?_
    refine ⟨_,rfl,lf,_,rfl,SqL.of e1,by rw [List.length_map]; omega,hs,fun m m0 m1=>?_⟩
    refine ⟨_,rfl,lf,_,rfl,.inl (SqL.of hf2),_,_,rfl,rfl,.inl ⟨by omega,by omega⟩,_,_,rfl,rfl,_,rfl,fun n=>?_⟩
    exact key _ _ ⟨n,rfl,rfl⟩
   refine dF h1 ?_
   exact key _ _ ⟨c,rfl,rfl⟩
  rintro σ _ ⟨c',rfl,rfl⟩
  have e0:=Int.emod_nonneg c' (show ((d:Nat):Int) ≠ 0 by omega)
  have e1:=Int.emod_lt_of_pos c' (show (0:Int) < ((d:Nat):Int) by omega)
  obtain ⟨x,hx'⟩:=Int.eq_ofNat_of_zero_le e0
  refine zT (zB (yv PySem.F.plainAttrs_list PySem.F.slot_list_append PySem.F.type_list_append zG (pv 2) (ac (zy xA (pv 0) (pv 3)) zb))) ?_
  refine ⟨_,rfl,.inl ⟨rfl,_,SqL.of hf2⟩,_,rfl,_,rfl,_,_,rfl,rfl,(by show (0:Int) < ((d:Nat):Int); omega),lf,_,_,rfl,rfl,hf2,zx (by rw [List.length_map]; omega),?_⟩
  refine ⟨_,zd (zt (i:=0) uG.nd rfl (Or.inl rfl) (zy vB (pv 0) (pv 3))),?_⟩
  refine ⟨_,rfl,_,rfl,_,_,rfl,rfl,⟨by omega,by omega⟩,?_⟩
  refine ⟨_,_,fs ++ [x],rfl,zU s2 hlf _,by rw [za,hx',List.map_append]; rfl,by rw [List.length_append,lf2]; rfl,fun j hj=>?_⟩
  rcases Nat.lt_or_ge j i with c1 | c1
  ·rw [List.getD_eq_getElem?_getD,List.getElem?_append_left (by omega),<- List.getD_eq_getElem?_getD]
   exact lt2 j c1
  ·have:j = i:=by omega
   subst this
   have e2:(fs ++ [x]).getD j 0 = x:=by
    rw [List.getD_eq_getElem?_getD,List.getElem?_append_right (by omega),lf2,Nat.sub_self]
    rfl
   have e3:ds.getD j 0 = d:=by rw [List.getD_eq_getElem?_getD,hd']; rfl
   rw [e2,e3]
   omega
 ·rintro σ H2 ⟨c,v3,fs,rfl,s2,hf2,lf2,lt2⟩
  rw [List.length_map] at lf2 lt2
  refine ⟨_,zd (zq (zN (ac (pv 2) (ac (pv 0) zb)))),?_⟩
  refine ⟨_,rfl,_,rfl,zz2,fun t ht=>?_⟩
  have s3:=zc ht (.tup [.ref lf,.int c])
  exact q t lf fs c _ (s2.trans s3) hlf za (s3 _ _ hf2) lf2 lt2
end
end K34
namespace L2
open PySem PySem.Spec PyProof.Rows
def zjI:R2:=fun x y H Q=>∃ (a b:Addr) (xs:List V),x = .ref a/\y = .ref b/\H a = some (.lst xs)/\H b = some (.lst [])/\Q (.bl (!decide (xs = []))) H
theorem zhS {X:Cx} (hu:X.A.units < cLine):OpR X (compareOp .NotEq) zjI:=by
 intro pins s σ H x y v u Q I rx ry h
 obtain ⟨a,b,xs,rfl,rfl,ha,hb,q⟩:=h
 cases rx; cases ry
 obtain ⟨ia,va,pa,_⟩:=I.list (SqL.of ha)
 obtain ⟨ib,vb,pb,_⟩:=I.list (SqL.of hb)
 cases vb
 by_cases e:xs = []
 ·subst e
  cases va
  rw [decide_eq_true rfl] at q
  have t2:=SeqAt.RcNeAt.lists (A:=X.A) (s:=s) (e:=fun _=>true) pa.isList pb.isList rfl hu (fun j h1 h2=>absurd h1 (by simp))
  rw [wG] at t2
  exact t2 X.prog X.w X.xe _ ⟨.bl false,H,I,rfl,q⟩
 ·rw [decide_eq_false e] at q
  have l1:=va.length
  have:ia.length ≠ 0:=fun z=>e (List.eq_nil_of_length_eq_zero (by omega))
  exact SeqAt.RcNeAt.lists_lengths pa.isList pb.isList (by simp; exact fun z=>this (by rw [z]; rfl)) hu X.prog X.w X.xe _ ⟨.bl true,H,I,rfl,q⟩
end L2
namespace K34
open PySem L2 PyProof.Rows
def zdD (K:Frag):Sp:=fun vs H Q _=>∃ (a:Addr) (ns:List Int),vs = [.ref a]/\SqL K H a (ns.map V.int)/\ns.length<=63/\∀ (l:Addr) (cs:List Int) (H':Hp),zl H H'->H l = none->H' l = some (.lst (cs.map V.int))->cs.length = ns.length->Q (.ref l) H'
def uD (K:Frag):Sp:=fun vs H Q _=>∃ (c:Int) (a:Addr) (zs:List Str),vs = [.int c,.ref a]/\H a = some (.lst (zs.map V.str))/\(∀ z ∈ zs,yx z = true)/\zs.length<=500/\
 ∀ (t:Addr) (z:Str) (rest:Int) (H':Hp),zl H H'->H' t = some (.tup [.str z,.int rest])->yx z = true->Q (.ref t) H'
section
variable {P:Program} {w:World} {K:Frag} {mg:Str->Option Value} {base:Heap} {f CF:Addr} {fd:FuncData} {c:C5} {m:MA}
theorem zj0:([Str.ofString "_law_cell"]:List Str).Nodup:=by decide +kernel
theorem zjY:([Str.ofString "_law_letter"]:List Str).Nodup:=by decide +kernel
theorem zhl:zm ["_law_script"] ["_law_script"] (zg zdY):=⟨rfl,rfl,rfl,by decide +kernel,rfl,by decide +kernel,by decide +kernel⟩
theorem zf5 {g1 g2:Addr} {e1 e2:FuncData} (F:Fun K "_law_half" "_law_half" zdY f fd) (hls:mg "list" = none) (cN:zv P w K mg base 1 "_law_nth" g1 e1 ["_law_script","_law_k"] (za4 K)) (cR:zv P w K mg base 2 "_law_rich" g2 e2 ["_law_cell"] za3):zp P w K mg base CX0 3 f fd ["_law_script"] (zdD K):=by
 refine F.ok zhl (fun vs H Q E h=>?_) (fun cdv A outer s H vs Q E hr h=>?_)
 ·obtain ⟨a,ns,rfl,_⟩:=h
  rfl
 obtain ⟨a,ns,rfl,ha,l63,q⟩:=h
 have hr1:yb 1 _:=hr.mono (by decide)
 refine zT (zP (zn zap (cF cN hr1 (ac (pv 0) (ac zh zb))) (zy zbt zh zh) (zD _)) (zd (zq (cTy yK hls PyProof.Rows.boot_list (ac (pv 0) zb)))) zH) ?_
 refine ⟨_,rfl,a,ns,0,rfl,ha,_,_,rfl,rfl,⟨by decide,by decide,by decide⟩,_,_,rfl,rfl,_,rfl,?_⟩
 refine vW (fun _=>?_) (fun _=>?_)
 ·refine ⟨_,rfl,a,_,rfl,.inl ha,fun l hl=>?_⟩
  exact q l ns _ (zc hl _) hl za rfl
 refine ⟨_,zd (zq (xL [] ["_law_cell"] [none] rfl ⟨rfl,rfl,rfl,rfl⟩ (zZ (pv 0)) (z9 0) rfl rfl rfl
  (fun pins fp s H C=>⟨zk (i:=0) zj0 rfl (Or.inl rfl) (.inr rfl),yI,cF cR hr (ac (pv 0) zb)⟩))),?_⟩
 refine ⟨_,rfl,a,rfl,⟨_,ha⟩,fun D hD=>?_⟩
 refine xt (K:=K) (xs:=ns.map V.int) (fun i ys H'=>zl H H'/\H' D = some (.lst ys)/\∃ cs:List Int,ys = cs.map V.int/\cs.length = i) ⟨zc hD _,za,[],rfl,rfl⟩ (fun i ys H' h=>h.1.seq ha) ?_ ?_
 ·rintro i x ys H' hi hx ⟨sH,hDy,cs,ey,el⟩
  obtain ⟨k,hk,rfl⟩:=vF hx
  rw [List.length_map] at hi
  refine ⟨fun _=>⟨_,rfl,k,rfl,fun n=>?_⟩,fun z=>absurd z (by decide)⟩
  exact lcN.mk (by rw [List.length_map]; exact hi) (by rw [List.length_map]; exact ym (by omega)) hDy (by rw [ey,List.length_map]; omega) ⟨zU sH hD _,za,cs ++ [n],by rw [ey,List.map_append]; rfl,by rw [List.length_append,el]; rfl⟩
 ·rintro ys H' ⟨sH,hDy,cs,ey,el⟩
  rw [List.length_map] at el
  exact q D cs H' sH hD (by rw [hDy,ey]) el
theorem zba:zm ["_law_cell","_law_known","_law_told","_law_rest"] ["_law_cell","_law_known"] (zg zdT):=⟨rfl,rfl,rfl,by decide +kernel,rfl,by decide +kernel,by decide +kernel⟩
theorem zf0 {g1:Addr} {e1:FuncData} (F:Fun K "_law_name" "_law_name" zdT f fd) (hln:mg "len" = none) (cT:zv P w K mg base 3 "_law_take" g1 e1 ["_law_cell","_law_sizes"] (qd K)):zp P w K mg base CX0 4 f fd ["_law_cell","_law_known"] (uD K):=by
 refine F.ok zba (fun vs H Q E h=>?_) (fun cdv A outer s H vs Q E hr h=>?_)
 ·obtain ⟨c,a,zs,rfl,_⟩:=h
  rfl
 obtain ⟨c,a,zs,rfl,ha,hz,l5,q⟩:=h
 have hU:=hr.units
 have hU0:_ < cLine:=Nat.lt_of_le_of_lt (Nat.le_add_right _ 64) hU
 refine zT (wb (cF cT hr (ac (pv 0) (ac (zy xB (zY (ac zh (ac zh (ac zh zb)))) (zy zbs (zY (ac zh zb)) zh)) zb))) (yA rfl (zo (zk (i:=2) zba.nd rfl (Or.inl rfl)) (zo (zk (i:=3) zba.nd rfl (Or.inl rfl)) yh)))) ?_
 refine ⟨_,rfl,zz3,fun l1 hl1=>⟨zz1,fun l2 hl2=>?_⟩⟩
 have s1:=zc hl1 (.lst [.int 2,.int 64,.int 8])
 have s2:=zc hl2 (.lst [.int 26])
 refine ⟨l2,_,_,rfl,rfl,za,by decide,by decide,(by show 1 * 8<=sizeLine; decide),fun l3 hl3=>?_⟩
 have s3:=zc hl3 (.lst (List.replicate (8:Int).toNat [V.int 26]).flatten)
 refine ⟨l1,l3,_,_,rfl,rfl,(s2.trans s3) _ _ za,za,(by show 3 + 8<=sizeLine; decide),fun l4 hl4=>?_⟩
 have s4:=zc hl4 (.lst ([V.int 2,.int 64,.int 8] ++ (List.replicate (8:Int).toNat [V.int 26]).flatten))
 have s04:=s1.trans (s2.trans (s3.trans s4))
 refine ⟨c,l4,[2,64,8,26,26,26,26,26,26,26,26],rfl,SqL.of za,by decide,by decide,fun t lf fs rest H5 s5 nlf ht hlf lfs hfs=>?_⟩
 refine ⟨t,_,rfl,SqT.of ht,rfl,_,_,rfl,_,_,rfl,rfl,?_⟩
 have s05:=s04.trans s5
 clear s04 s5 nlf ht
 have lfs:fs.length = 11:=lfs
 have f0:=hfs 0 (by decide)
 have f1:=hfs 1 (by decide)
 have f2:fs.getD 2 0 < 8:=hfs 2 (by decide)
 have fL:∀ j,3<=j->j < 11->fs.getD j 0 < 26:=fun j h1 h2=>by
  have:=hfs j (by show j < 11; exact h2)
  have e:([2,64,8,26,26,26,26,26,26,26,26]:List Nat).getD j 0 = 26:=by
   have:∀ j:Nat,j < 11->3<=j->([2,64,8,26,26,26,26,26,26,26,26]:List Nat).getD j 0 = 26:=by decide
   exact this j h2 h1
  rw [e] at this
  exact this
 have fAt:∀ j:Nat,j < 11->atI (fs.map fun x=>V.int (x:Nat)) (j:Int) = some (.int (fs.getD j 0:Nat)):=fun j hj=>xQ (by rw [List.getElem?_map,List.getElem?_eq_getElem (by omega),List.getD_eq_getElem?_getD,List.getElem?_eq_getElem (by omega)]; rfl)
 dsimp only [zO]
 refine zT (zP (PW.pt (xh (zn yE (zF zI (pv 2) zh (fun _ _=>rfl)) zh (zD _)) (yO (zn (zhS hU0) (pv 1) (zY zb) (zD _))))) (zd (zq (zN (ac (zF zI (pv 1) (zy xA (zF zI (pv 2) zh (fun _ _=>rfl)) (cB yi hln PySem.boot_len (ac (pv 1) zb))) (fun _ _=>rfl)) (ac (pv 3) zb))))) zH) ?_
 refine wK (fun σ' H'=>σ' = [some (.int c),some (.ref a),some (.ref lf),some (.int rest)]/\zl H H'/\H' lf = some (.lst (fs.map fun x=>V.int (x:Nat)))) ?_ (fun key=>?_)
 rotate_left
 ·refine ⟨_,rfl,lf,_,0,_,rfl,rfl,SqL.of hlf,fAt 0 (by decide),rfl,_,rfl,?_⟩
  refine vW (fun _=>?_) (fun _=>?_)
  rotate_left
  ·exact key _ _ ⟨rfl,s05,hlf⟩
  refine ⟨_,rfl,zz0,fun le hle=>?_⟩
  have s6:=zc hle (.lst [])
  have s06:=s05.trans s6
  refine ⟨a,le,_,rfl,rfl,s06 _ _ ha,za,_,rfl,?_⟩
  by_cases hn:zs.map V.str = []
  ·refine vE (by rw [decide_eq_true hn]; rfl) ?_
   exact key _ _ ⟨rfl,s06,s6 _ _ hlf⟩
  refine je (by rw [decide_eq_false hn]; rfl) ?_
  have z0 : 0 < zs.length:=by
   rcases Nat.eq_zero_or_pos zs.length with h | h
   ·exact absurd (by rw [List.eq_nil_of_length_eq_zero h]; rfl) hn
   ·exact h
  have m0:=Int.emod_nonneg ((fs.getD 1 0:Nat):Int) (show ((zs.length:Nat):Int) ≠ 0 by omega)
  have m1:=Int.emod_lt_of_pos ((fs.getD 1 0:Nat):Int) (show (0:Int) < ((zs.length:Nat):Int) by omega)
  obtain ⟨j,hj⟩:=Int.eq_ofNat_of_zero_le m0
  have hjz:j < zs.length:=by omega
  refine ⟨_,rfl,_,rfl,lf,_,1,_,rfl,rfl,SqL.of (s6 _ _ hlf),fAt 1 (by decide),_,rfl,a,_,rfl,.inl (SqL.of (s06 _ _ ha)),_,_,rfl,rfl,(by rw [List.length_map]; show (0:Int) < _; omega),a,_,_,.str zs[j],rfl,rfl,SqL.of (s06 _ _ ha),(by rw [List.length_map,hj]; exact xQ (by rw [List.getElem?_map,List.getElem?_eq_getElem hjz]; rfl)),_,rfl,zz2,fun u hu=>?_⟩
  have s7:=zc hu (.tup [.str zs[j],.int rest])
  exact q u _ rest _ (s06.trans s7) za (hz _ (List.getElem_mem hjz))
 rintro σ H6 ⟨rfl,s06,hlf6⟩
 refine ⟨_,zd (zq (zN (ac (yv PySem.F.plainAttrs_str PySem.F.slot_str_join PySem.F.type_str_join zeG zr (ac (xL [] ["_law_letter"] [none] rfl ⟨rfl,rfl,rfl,rfl⟩ (zZ (vt uo (pv 2) (xK zh) (xK (zy xC zh (zF zI (pv 2) zh (fun _ _=>rfl)))))) (z9 0) rfl rfl rfl
  (fun pins fp s H C=>⟨zk (i:=0) zjY rfl (Or.inl rfl) (.inr rfl),yI,zF zid zr (pv 0) (fun _ _=>rfl)⟩)) zb)) (ac (pv 3) zb)))),?_⟩
 refine ⟨rfl,_,rfl,_,rfl,_,rfl,lf,_,2,_,rfl,rfl,SqL.of hlf6,fAt 2 (by decide),_,_,rfl,rfl,_,rfl,lf,_,rfl,SqL.of hlf6,fun l7 hl7=>?_⟩
 have ecut:jo (fs.map fun x=>V.int (x:Nat)) (some 3) (some ((4:Int) + ((fs.getD 2 0:Nat):Int))) = ((fs.drop 3).take (1 + fs.getD 2 0)).map fun x=>V.int (x:Nat):=by
  have h3:(some (3:Int)) = some ((3:Nat):Int):=rfl
  have h4:(some ((4:Int) + ((fs.getD 2 0:Nat):Int))) = some ((4 + fs.getD 2 0:Nat):Int):=rfl
  rw [h3,h4]
  unfold jo
  rw [HT.zjn,HT.zjn,List.length_map,lfs,List.map_take,List.map_drop]
  congr 1
  omega
 rw [ecut]
 clear ecut
 have s7:=zc hl7 (.lst (((fs.drop 3).take (1 + fs.getD 2 0)).map fun x=>V.int (x:Nat)))
 have g7:upd H6 l7 (.lst (((fs.drop 3).take (1 + fs.getD 2 0)).map fun x=>V.int (x:Nat))) l7 = some (.lst (((fs.drop 3).take (1 + fs.getD 2 0)).map fun x=>V.int (x:Nat))):=za
 have s07:=s06.trans s7
 generalize upd H6 l7 (.lst (((fs.drop 3).take (1 + fs.getD 2 0)).map fun x=>V.int (x:Nat))) = H7 at s7 g7 s07 |-
 have hds:∀ x ∈ (fs.drop 3).take (1 + fs.getD 2 0),x < 26:=fun x hx=>by
  have hx:=List.mem_of_mem_take hx
  obtain ⟨j,hj,ej⟩:=List.mem_iff_getElem.mp hx
  rw [List.length_drop,lfs] at hj
  have h1:=fL (3 + j) (by omega) (by omega)
  rw [List.getD_eq_getElem?_getD,List.getElem?_eq_getElem (by omega)] at h1
  rw [List.getElem_drop] at ej
  rw [<- ej]
  exact h1
 have hdl:((fs.drop 3).take (1 + fs.getD 2 0)).length = 1 + fs.getD 2 0:=by rw [List.length_take,List.length_drop,lfs]; omega
 generalize (fs.drop 3).take (1 + fs.getD 2 0) = gs at g7 hds hdl
 refine ⟨l7,rfl,⟨_,SqL.of g7⟩,fun D hD=>?_⟩
 have sz26:("abcdefghijklmnopqrstuvwxyz" : Str).length<=sizeLine:=by rw [zg0.len]; decide
 refine zbB (K:=K) (xs:=gs.map fun x=>V.int (x:Nat)) gs (fun _=>true) (fun x=>.str ⟨#[97 + x]⟩) hD (SqL.of g7) (by rw [List.length_map]) (by rw [List.length_map]; omega) (fun i x y H' N S hx hy sH n1 s1=>?_) (fun H8 s8 e8=>?_)
 ·rw [List.getElem?_map,hy] at hx
  have hx:V.int (y:Nat) = x:=Option.some.inj hx
  subst hx
  refine ⟨fun _=>?_,fun e=>by cases e⟩
  exact ⟨_,rfl,_,_,97 + y,rfl,rfl,sz26,xQ (zg0.at_ y (hds y (List.mem_of_getElem? hy))),n1 _ (zl.refl _) rfl⟩
 have e8:H8 D = some (.lst ((gs.map fun x=>(⟨#[97 + x]⟩:Str)).map V.str)):=by rw [e8,List.filter_eq_self.mpr (fun _ _=>rfl),List.map_map]; rfl
 refine ⟨D,_,rfl,rfl,e8,by rw [List.length_map]; omega,fun z hz=>?_,fun y hy=>?_⟩
 ·obtain ⟨x,_,rfl⟩:=List.mem_map.mp hz
  show 1<=100
  decide
 refine ⟨_,rfl,zz2,fun u hu=>?_⟩
 have s9:=zc hu (.tup [.str y,.int rest])
 refine q u y rest _ (s07.trans (s8.trans s9)) za ?_
 have ey:y.cps.toList = gs.map fun x=>97 + x:=by
  rw [hy,List.map_map]
  have:∀ (l:List Nat),(l.map ((fun z:Str=>z.cps.toList) ∘ fun x=>(⟨#[97 + x]⟩:Str))).flatten = l.map fun x=>97 + x:=fun l=>by
   induction l with
   | nil=>rfl
   | cons x l ih=>
    rw [List.map_cons,List.flatten_cons,ih]
    rfl
  exact this gs
 have el:y.length = gs.length:=by
  show y.cps.size = _
  rw [<- Array.length_toList,ey,List.length_map]
 refine vQ.mpr ⟨by omega,by omega,fun ch hc=>?_⟩
 rw [ey] at hc
 obtain ⟨x,hx,rfl⟩:=List.mem_map.mp hc
 have:=hds x hx
 omega
end
variable {H H' H'':Hp} {lg g0 g1 g2 g3 ll u:Addr} {S:FS} {r:Rw} {z:Str} {b:Bool} {us:List Addr}
theorem uY {α : Type} {xs:List α} {y : α} {p : α->Prop} (h:∀ x ∈ xs,p x) (hy:p y):∀ x ∈ xs ++ [y],p x:=fun x hx=>by
 rcases List.mem_append.mp hx with hx | hx
 ·exact h x hx
 ·rw [List.mem_singleton.mp hx]; exact hy
theorem zeE {a b:List Str} {z:Str} (h:(a ++ b).Nodup) (hz:z ∉ a ++ b):(a ++ [z] ++ b).Nodup:=by
 have p:(a ++ [z] ++ b).Perm (z :: (a ++ b)):=by
  rw [List.append_assoc]
  exact List.perm_middle
 exact p.nodup_iff.mpr (List.nodup_cons.mpr ⟨hz,h⟩)
def FS.add (S:FS) (k:Nat) (z:Str) (b:Bool):FS:=match k with
 | 0=>{ S with P:=S.P ++ [⟨0,z,b⟩] }
 | 1=>{ S with P:=S.P ++ [⟨1,z,b⟩],L:=S.L ++ [z] }
 | 2=>{ S with T:=[⟨2,z,b⟩] }
 | 3=>{ S with G:=S.G ++ [⟨3,z,b⟩],L:=S.L ++ [z] }
 | _=>{ S with B:=[⟨4,z,b⟩] }
theorem FM.zero:FM 0 ⟨[],[],[],[],[]⟩:=by
 refine ⟨?_,?_,?_,?_,?_,?_,?_,?_,?_,?_⟩ <;> first | exact (fun _ h=>nomatch h) | exact Nat.zero_le _ | exact List.nodup_nil | exact Nat.le_refl _
theorem FM.add {i:Nat} {S:FS} {k:Nat} {z:Str} {b:Bool} (h:FM i S) (hk:k < 5) (hz:yx z = true) (hn:z3 k = true->z ∉ S.L):FM (i + 1) (S.add k z b):=by
 have ln:=h.ln
 have lL:=h.lL
 have lT:=h.lT
 have lB:=h.lB
 match k,hk with
 | 0,_=>
  have e:nms (S.P ++ [⟨0,z,b⟩]) = nms S.P:=by rw [xM,vC]; simp [z3]
  exact ⟨uY h.okP ⟨⟨Nat.lt_of_sub_eq_succ rfl,hz⟩,rfl⟩,h.okT,h.okG,h.okB,h.lT,h.lB,by show (nms (S.P ++ _) ++ nms S.G).Nodup; rw [e]; exact h.nd,by show ∀ y ∈ nms (S.P ++ _) ++ nms S.G,y ∈ S.L; rw [e]; exact h.sn,
   by show (S.P ++ [_]).length + S.T.length + S.G.length + S.B.length<=i + 1; rw [List.length_append,List.length_singleton]; omega,Nat.le_succ_of_le h.lL⟩
 | 1,_=>
  have e:nms (S.P ++ [⟨1,z,b⟩]) = nms S.P ++ [z]:=by rw [xM,vC]; simp [z3]
  have nz:z ∉ nms S.P ++ nms S.G:=fun m=>hn rfl (h.sn z m)
  refine ⟨uY h.okP ⟨⟨Nat.lt_of_sub_eq_succ rfl,hz⟩,rfl⟩,h.okT,h.okG,h.okB,h.lT,h.lB,by show (nms (S.P ++ _) ++ nms S.G).Nodup; rw [e]; exact zeE h.nd nz,?_,
   by show (S.P ++ [_]).length + S.T.length + S.G.length + S.B.length<=i + 1; rw [List.length_append,List.length_singleton]; omega,by show (S.L ++ [_]).length<=i + 1; rw [List.length_append,List.length_singleton]; omega⟩
  show ∀ y ∈ nms (S.P ++ _) ++ nms S.G,y ∈ S.L ++ [z]
  rw [e]
  intro y hy
  rw [List.mem_append,List.mem_append] at hy
  rcases hy with (hy | hy) | hy
  ·exact List.mem_append_left _ (h.sn y (List.mem_append_left _ hy))
  ·exact List.mem_append_right _ hy
  ·exact List.mem_append_left _ (h.sn y (List.mem_append_right _ hy))
 | 2,_=>
  refine ⟨h.okP,fun r hr=>?_,h.okG,h.okB,Nat.le_refl _,h.lB,h.nd,h.sn,?_,Nat.le_succ_of_le h.lL⟩
  ·rw [List.mem_singleton.mp hr]; exact ⟨⟨Nat.lt_of_sub_eq_succ rfl,hz⟩,rfl⟩
  ·show S.P.length + 1 + S.G.length + S.B.length<=i + 1
   omega
 | 3,_=>
  have e:nms (S.G ++ [⟨3,z,b⟩]) = nms S.G ++ [z]:=by rw [xM,vC]; simp [z3]
  have nz:z ∉ nms S.P ++ nms S.G:=fun m=>hn rfl (h.sn z m)
  refine ⟨h.okP,h.okT,uY h.okG ⟨⟨Nat.lt_of_sub_eq_succ rfl,hz⟩,rfl⟩,h.okB,h.lT,h.lB,?_,?_,
   by show S.P.length + S.T.length + (S.G ++ [_]).length + S.B.length<=i + 1; rw [List.length_append,List.length_singleton]; omega,by show (S.L ++ [_]).length<=i + 1; rw [List.length_append,List.length_singleton]; omega⟩
  ·show (nms S.P ++ nms (S.G ++ _)).Nodup
   rw [e,<- List.append_assoc]
   have:=zeE (a:=nms S.P ++ nms S.G) (b:=[]) (z:=z) (by rw [List.append_nil]; exact h.nd) (by rw [List.append_nil]; exact nz)
   rwa [List.append_nil] at this
  ·show ∀ y ∈ nms S.P ++ nms (S.G ++ _),y ∈ S.L ++ [z]
   rw [e]
   intro y hy
   rw [List.mem_append,List.mem_append] at hy
   rcases hy with hy | hy | hy
   ·exact List.mem_append_left _ (h.sn y (List.mem_append_left _ hy))
   ·exact List.mem_append_left _ (h.sn y (List.mem_append_right _ hy))
   ·exact List.mem_append_right _ hy
 | 4,_=>
  refine ⟨h.okP,h.okT,h.okG,fun r hr=>?_,h.lT,Nat.le_refl _,h.nd,h.sn,?_,Nat.le_succ_of_le h.lL⟩
  ·rw [List.mem_singleton.mp hr]; exact ⟨⟨Nat.lt_of_sub_eq_succ rfl,hz⟩,rfl⟩
  ·show S.P.length + S.T.length + S.G.length + 1<=i + 1
   omega
theorem TAt.keep {H:Hp} {v D:Addr} {r:Rw} {o:HO} (h:TAt H v r) (hD:∀ vs,H D ≠ some (.tup vs)):TAt (upd H D o) v r:=by
 show upd H D o v = _
 rw [zf (fun e=>by subst e; exact hD _ h)]
 exact h
def vJ (H:Hp) (l:Addr) (rows:List Rw):Prop:=∃ us:List Addr,H l = some (.lst (us.map V.ref))/\Paired (TAt H) us rows
theorem yf {H H':Hp} {us:List Addr} {rows:List Rw} (s:zl H H') (h:Paired (TAt H) us rows):Paired (TAt H') us rows:=Paired.imp' (fun _ _ z=>s _ _ z) h
theorem vJ.same {H H':Hp} {l:Addr} {rows:List Rw} (h:vJ H l rows) (s:zl H H'):vJ H' l rows:=let ⟨us,h1,h2⟩:=h; ⟨us,s _ _ h1,yf s h2⟩
theorem vJ.keep {H:Hp} {l D:Addr} {rows:List Rw} {o:HO} (h:vJ H l rows) (ne:l ≠ D) (hD:∀ vs,H D ≠ some (.tup vs)):vJ (upd H D o) l rows:=
 let ⟨us,h1,h2⟩:=h
 ⟨us,by rw [zf ne]; exact h1,Paired.imp' (fun _ _ z=>z.keep hD) h2⟩
theorem vJ.snoc {H:Hp} {l u:Addr} {rows:List Rw} {r:Rw} {us:List Addr} (h1:H l = some (.lst (us.map V.ref))) (h2:Paired (TAt H) us rows) (hu:TAt H u r):vJ (upd H l (.lst (us.map V.ref ++ [.ref u]))) l (rows ++ [r]):=by
 have hD:∀ vs,H l ≠ some (.tup vs):=fun vs e=>by rw [h1] at e; cases e
 refine ⟨us ++ [u],by rw [za,List.map_append]; rfl,Paired.snoc (Paired.imp' (fun _ _ z=>z.keep hD) h2) (hu.keep hD)⟩
structure FI (H H':Hp) (lg g0 g1 g2 g3 ll:Addr) (S:FS):Prop where
 sm:zl H H'
 gg:H' lg = some (.lst [.ref g0,.ref g1,.ref g2,.ref g3])
 h0:vJ H' g0 S.P
 h1:vJ H' g1 S.T
 h2:vJ H' g2 S.G
 h3:vJ H' g3 S.B
 hl:H' ll = some (.lst (S.L.map V.str))
 nd:[lg,g0,g1,g2,g3,ll].Nodup
 fr:∀ x ∈ [lg,g0,g1,g2,g3,ll],H x = none
theorem FI.same (h:FI H H' lg g0 g1 g2 g3 ll S) (s:zl H' H''):FI H H'' lg g0 g1 g2 g3 ll S:=⟨h.sm.trans s,s _ _ h.gg,h.h0.same s,h.h1.same s,h.h2.same s,h.h3.same s,s _ _ h.hl,h.nd,h.fr⟩
theorem FI.smU (h:FI H H' lg g0 g1 g2 g3 ll S) {l:Addr} (hl:H l = none) {o:HO}:zl H (upd H' l o):=fun b u e=>by rw [zf (ze e hl)]; exact h.sm _ _ e
theorem FI.ne (h:FI H H' lg g0 g1 g2 g3 ll S):lg ≠ g0/\lg ≠ g1/\lg ≠ g2/\lg ≠ g3/\lg ≠ ll/\g0 ≠ g1/\g0 ≠ g2/\g0 ≠ g3/\g0 ≠ ll/\g1 ≠ g2/\g1 ≠ g3/\g1 ≠ ll/\g2 ≠ g3/\g2 ≠ ll/\g3 ≠ ll:=by
 have:=h.nd
 simp only [List.nodup_cons,List.mem_cons,List.not_mem_nil,or_false,not_or] at this
 obtain ⟨⟨a1,a2,a3,a4,a5⟩,⟨b1,b2,b3,b4⟩,⟨c1,c2,c3⟩,⟨d1,d2⟩,e1,_⟩:=this
 exact ⟨a1,a2,a3,a4,a5,b1,b2,b3,b4,c1,c2,c3,d1,d2,e1⟩
theorem FI.addL (h:FI H H' lg g0 g1 g2 g3 ll S):FI H (upd H' ll (.lst (S.L.map V.str ++ [.str z]))) lg g0 g1 g2 g3 ll { S with L:=S.L ++ [z] }:=by
 have hD:∀ vs,H' ll ≠ some (.tup vs):=fun vs e=>by rw [h.hl] at e; cases e
 obtain ⟨a1,a2,a3,a4,a5,b1,b2,b3,b4,c1,c2,c3,d1,d2,e1⟩:=h.ne
 exact ⟨h.smU (h.fr ll (by simp)),by rw [zf a5]; exact h.gg,h.h0.keep b4 hD,h.h1.keep c3 hD,h.h2.keep d2 hD,h.h3.keep e1 hD,by rw [za,List.map_append]; rfl,h.nd,h.fr⟩
theorem FI.add0 (h:FI H H' lg g0 g1 g2 g3 ll S) (hh:H' g0 = some (.lst (us.map V.ref))) (h2:Paired (TAt H') us S.P) (hu:TAt H' u r):FI H (upd H' g0 (.lst (us.map V.ref ++ [.ref u]))) lg g0 g1 g2 g3 ll { S with P:=S.P ++ [r] }:=by
 have hD:∀ vs,H' g0 ≠ some (.tup vs):=fun vs e=>by rw [hh] at e; cases e
 obtain ⟨a1,a2,a3,a4,a5,b1,b2,b3,b4,c1,c2,c3,d1,d2,e1⟩:=h.ne
 exact ⟨h.smU (h.fr g0 (by simp)),by rw [zf a1]; exact h.gg,.snoc hh h2 hu,h.h1.keep b1.symm hD,h.h2.keep b2.symm hD,h.h3.keep b3.symm hD,by rw [zf b4.symm]; exact h.hl,h.nd,h.fr⟩
theorem FI.add2 (h:FI H H' lg g0 g1 g2 g3 ll S) (hh:H' g2 = some (.lst (us.map V.ref))) (h2:Paired (TAt H') us S.G) (hu:TAt H' u r):FI H (upd H' g2 (.lst (us.map V.ref ++ [.ref u]))) lg g0 g1 g2 g3 ll { S with G:=S.G ++ [r] }:=by
 have hD:∀ vs,H' g2 ≠ some (.tup vs):=fun vs e=>by rw [hh] at e; cases e
 obtain ⟨a1,a2,a3,a4,a5,b1,b2,b3,b4,c1,c2,c3,d1,d2,e1⟩:=h.ne
 exact ⟨h.smU (h.fr g2 (by simp)),by rw [zf a3]; exact h.gg,h.h0.keep b2 hD,h.h1.keep c1 hD,.snoc hh h2 hu,h.h3.keep d1.symm hD,by rw [zf d2.symm]; exact h.hl,h.nd,h.fr⟩
theorem FI.add1 (h:FI H H' lg g0 g1 g2 g3 ll S) (hT:S.T = []) (hu:TAt H' u r):FI H (upd H' g1 (.lst [.ref u])) lg g0 g1 g2 g3 ll { S with T:=[r] }:=by
 obtain ⟨us,hh,h2⟩:=h.h1
 rw [hT] at h2
 cases h2
 have hD:∀ vs,H' g1 ≠ some (.tup vs):=fun vs e=>by rw [hh] at e; cases e
 obtain ⟨a1,a2,a3,a4,a5,b1,b2,b3,b4,c1,c2,c3,d1,d2,e1⟩:=h.ne
 have sn:=vJ.snoc hh .nil hu
 exact ⟨h.smU (h.fr g1 (by simp)),by rw [zf a2]; exact h.gg,h.h0.keep b1 hD,sn,h.h2.keep c1.symm hD,h.h3.keep c2.symm hD,by rw [zf c3.symm]; exact h.hl,h.nd,h.fr⟩
theorem FI.add3 (h:FI H H' lg g0 g1 g2 g3 ll S) (hT:S.B = []) (hu:TAt H' u r):FI H (upd H' g3 (.lst [.ref u])) lg g0 g1 g2 g3 ll { S with B:=[r] }:=by
 obtain ⟨us,hh,h2⟩:=h.h3
 rw [hT] at h2
 cases h2
 have hD:∀ vs,H' g3 ≠ some (.tup vs):=fun vs e=>by rw [hh] at e; cases e
 obtain ⟨a1,a2,a3,a4,a5,b1,b2,b3,b4,c1,c2,c3,d1,d2,e1⟩:=h.ne
 have sn:=vJ.snoc hh .nil hu
 exact ⟨h.smU (h.fr g3 (by simp)),by rw [zf a4]; exact h.gg,h.h0.keep b3 hD,h.h1.keep c2 hD,h.h2.keep d1 hD,sn,by rw [zf e1.symm]; exact h.hl,h.nd,h.fr⟩
structure FKn (H H':Hp) (lg g0 g1 g2 g3 ll lk:Addr) (S:FS) (ks:List Str):Prop where
 fi:FI H H' lg g0 g1 g2 g3 ll S
 hk:H' lk = some (.lst (ks.map V.str))
 hn:lk ∉ [lg,g0,g1,g2,g3,ll]
 hf:H lk = none
section
variable {H H' H'':Hp} {lg g0 g1 g2 g3 ll lk u:Addr} {S S':FS} {ks:List Str} {z:Str}
theorem FKn.same (h:FKn H H' lg g0 g1 g2 g3 ll lk S ks) (s:zl H' H''):FKn H H'' lg g0 g1 g2 g3 ll lk S ks:=⟨h.fi.same s,s _ _ h.hk,h.hn,h.hf⟩
theorem FKn.put (h:FKn H H' lg g0 g1 g2 g3 ll lk S ks) {g:Addr} {o:HO} (J:FI H (upd H' g o) lg g0 g1 g2 g3 ll S') (hg:g ∈ [lg,g0,g1,g2,g3,ll]):FKn H (upd H' g o) lg g0 g1 g2 g3 ll lk S' ks:=
 ⟨J,by
  have n:lk ≠ g:=fun e=>h.hn (by rw [e]; exact hg)
  rw [zf n]; exact h.hk,h.hn,h.hf⟩
theorem FKn.know (h:FKn H H' lg g0 g1 g2 g3 ll lk S ks):FKn H (upd H' lk (.lst (ks.map V.str ++ [.str z]))) lg g0 g1 g2 g3 ll lk S (ks ++ [z]):=by
 have hD:∀ vs,H' lk ≠ some (.tup vs):=fun vs e=>by rw [h.hk] at e; cases e
 have hn:=h.hn
 simp only [List.mem_cons,List.not_mem_nil,or_false,not_or] at hn
 obtain ⟨n1,n2,n3,n4,n5,n6⟩:=hn
 have k:=h.fi
 exact ⟨⟨k.smU h.hf,by rw [zf (Ne.symm n1)]; exact k.gg,k.h0.keep (Ne.symm n2) hD,k.h1.keep (Ne.symm n3) hD,k.h2.keep (Ne.symm n4) hD,k.h3.keep (Ne.symm n5) hD,by rw [zf (Ne.symm n6)]; exact k.hl,k.nd,k.fr⟩,by rw [za,List.map_append]; rfl,h.hn,h.hf⟩
end
def zb4 (K:Frag):Sp:=fun vs H Q _=>∃ (a:Addr) (cs:List Int),vs = [.ref a]/\SqL K H a (cs.map V.int)/\cs.length<=24/\
 ∀ (la:Addr) (us:List Addr) (rows:List Rw) (H':Hp),zl H H'->H la = none->H' la = some (.lst (us.map V.ref))->Paired (TAt H') us rows->VR rows->Q (.ref la) H'
section
variable {P:Program} {w:World} {K:Frag} {mg:Str->Option Value} {base:Heap} {f CF:Addr} {fd:FuncData} {c:C5} {m:MA}
theorem xn:zm ["_law_cells","_law_groups","_law_known","_law_seen","_law_cell","_law_told","_law_rest","_law_name_here","_law_word"] ["_law_cells"] (zg zbc):=⟨rfl,rfl,rfl,by decide +kernel,rfl,by decide +kernel,by decide +kernel⟩
theorem zen {t1 t2:Addr} {e1 e2:FuncData} (F:Fun K "_law_specs" "_law_specs" zbc f fd) (hint:mg "int" = none) (cT:zv P w K mg base 3 "_law_take" t1 e1 ["_law_cell","_law_sizes"] (qd K)) (cN:zv P w K mg base 4 "_law_name" t2 e2 ["_law_cell","_law_known"] (uD K)):zp P w K mg base CX0 5 f fd ["_law_cells"] (zb4 K):=by
 refine F.ok xn (fun vs H Q E h=>?_) (fun cdv A outer s H vs Q E hr h=>?_)
 ·obtain ⟨a,cs,rfl,_⟩:=h
  rfl
 obtain ⟨a,cs,rfl,hS,l24,q⟩:=h
 have hr3:yb 3 _:=hr.mono (by decide)
 have hU:=hr.units
 refine ⟨_,zi (zt (i:=1) xn.nd rfl (Or.inl rfl) (zY (ac (zY zb) (ac (zY zb) (ac (zY zb) (ac (zY zb) zb))))))
  (zi (zt (i:=2) xn.nd rfl (Or.inl rfl) (zY zb))
  (zi (zt (i:=3) xn.nd rfl (Or.inl rfl) (zY zb))
  (zi (yz PassesOwn.never rfl (zZ (pv 0)) (zk (i:=4) xn.nd rfl (Or.inl rfl))
   (zi (wb (cF cT hr3 (ac (pv 4) (ac (zY (ac zh (ac zh zb))) zb))) (yA rfl (zo (zk (i:=5) xn.nd rfl (Or.inl rfl)) (zo (zk (i:=6) xn.nd rfl (Or.inl rfl)) yh))))
   (zi (zt (i:=7) xn.nd rfl (Or.inl rfl) (zF yd (cF cN hr (ac (pv 6) (ac (pv 2) zb))) zh (fun _ _=>rfl)))
   (zi (zB (yv PySem.F.plainAttrs_list PySem.F.slot_list_append PySem.F.type_list_append zG (pv 2) (ac (pv 7) zb)))
   (zd (zP (zn ua (zF zI (pv 5) zh (fun _ _=>rfl)) zh (zD _)) (zd (zB (yv PySem.F.plainAttrs_list PySem.F.slot_list_append PySem.F.type_list_append zG (zF zI (pv 1) zh (fun _ _=>rfl)) (ac (zN (ac zr (ac (pv 7) (ac (y9 yE (zF zI (pv 5) zh (fun _ _=>rfl)) zh (zD _)) zb)))) zb))))
    (zd (zP (PW.pt (xh (zn yE (zF zI (pv 5) zh (fun _ _=>rfl)) zh (zD _)) (yO (zn (uV hU) (zF zI (pv 1) zh (fun _ _=>rfl)) (zY zb) (zD _))))) (zd (zB (yv PySem.F.plainAttrs_list PySem.F.slot_list_append PySem.F.type_list_append zG (zF zI (pv 1) zh (fun _ _=>rfl)) (ac (zN (ac zr (ac (pv 7) zb))) zb))))
     (zd (zP (PW.pt (xh (zn yE (zF zI (pv 5) zh (fun _ _=>rfl)) zh (zD _)) (yO (zn (uV hU) (zF zI (pv 1) zh (fun _ _=>rfl)) (zY zb) (zD _))))) (zd (zB (yv PySem.F.plainAttrs_list PySem.F.slot_list_append PySem.F.type_list_append zG (zF zI (pv 1) zh (fun _ _=>rfl)) (ac (zN (ac zr (ac (pv 7) zb))) zb))))
      (zd (zP (PW.pt (xh (zn xq (zF zI (pv 5) zh (fun _ _=>rfl)) (zN (ac zh (ac zh zb))) (by with_unfolding_all rfl)) (yO (zn xq (pv 7) (pv 3) (by with_unfolding_all rfl)))))
       (zi (zB (yv PySem.F.plainAttrs_list PySem.F.slot_list_append PySem.F.type_list_append zG (pv 3) (ac (pv 7) zb)))
       (zi (zt (i:=8) xn.nd rfl (Or.inl rfl) (zF zI (zY (ac zr (ac zr zb))) (cTy j5 hint PyProof.Rows.boot_int (ac (y9 zap (zF zI (pv 5) zh (fun _ _=>rfl)) zh (zD _)) zb)) (fun _ _=>rfl)))
       (zd (zB (yv PySem.F.plainAttrs_list PySem.F.slot_list_append PySem.F.type_list_append zG (zF zI (pv 1) (zy xR (cTy j5 hint PyProof.Rows.boot_int (ac (y9 yE (pv 8) zr (zD _)) zb)) zh) (fun _ _=>rfl)) (ac (zN (ac (pv 8) (ac (pv 7) (ac (y9 yE (zF zI (pv 5) zh (fun _ _=>rfl)) zh (zD _)) zb)))) zb)))))) zH))))))))))))
  (zd (zq (zy xB (zy xB (zy xB (zF zI (pv 1) zh (fun _ _=>rfl)) (zF zI (pv 1) zh (fun _ _=>rfl))) (zF zI (pv 1) zh (fun _ _=>rfl))) (zF zI (pv 1) zh (fun _ _=>rfl)))))))),?_⟩
 refine ⟨zz0,fun g0 h0=>?_⟩
 have s0:=zc h0 (.lst [])
 have e0:upd H g0 (.lst []) g0 = some (.lst []):=za
 generalize upd H g0 (.lst []) = H0 at s0 e0 |-
 refine ⟨zz0,fun g1 h1=>?_⟩
 have s1:=zc h1 (.lst [])
 have e1:upd H0 g1 (.lst []) g1 = some (.lst []):=za
 generalize upd H0 g1 (.lst []) = H1 at s1 e1 |-
 refine ⟨zz0,fun g2 h2=>?_⟩
 have s2:=zc h2 (.lst [])
 have e2:upd H1 g2 (.lst []) g2 = some (.lst []):=za
 generalize upd H1 g2 (.lst []) = H2 at s2 e2 |-
 refine ⟨zz0,fun g3 h3=>?_⟩
 have s3:=zc h3 (.lst [])
 have e3:upd H2 g3 (.lst []) g3 = some (.lst []):=za
 generalize upd H2 g3 (.lst []) = H3 at s3 e3 |-
 refine ⟨(by show 4<=sizeLine; decide),fun lg h4=>?_⟩
 have s4:=zc h4 (.lst [.ref g0,.ref g1,.ref g2,.ref g3])
 have e4:upd H3 lg (.lst [.ref g0,.ref g1,.ref g2,.ref g3]) lg = some (.lst [.ref g0,.ref g1,.ref g2,.ref g3]):=za
 dsimp only [zO]
 generalize upd H3 lg (.lst [.ref g0,.ref g1,.ref g2,.ref g3]) = H4 at s4 e4 |-
 refine ⟨zz0,fun lk hk=>?_⟩
 have sk:=zc hk (.lst [])
 have ek:upd H4 lk (.lst []) lk = some (.lst []):=za
 dsimp only [zO]
 generalize upd H4 lk (.lst []) = Hk at sk ek |-
 refine ⟨zz0,fun ll h5=>?_⟩
 have s5:=zc h5 (.lst [])
 have e5:upd Hk ll (.lst []) ll = some (.lst []):=za
 dsimp only [zO]
 generalize upd Hk ll (.lst []) = H5 at s5 e5 |-
 have s01:=s0.trans s1
 have s02:=s01.trans s2
 have s03:=s02.trans s3
 have s04:=s03.trans s4
 have s0k:=s04.trans sk
 have k0:=s4 _ _ (s3 _ _ (s2 _ _ (s1 _ _ e0)))
 have k1:=s4 _ _ (s3 _ _ (s2 _ _ e1))
 have k2:=s4 _ _ (s3 _ _ e2)
 have k3:=s4 _ _ e3
 have I0:FKn H H5 lg g0 g1 g2 g3 ll lk ⟨[],[],[],[],[]⟩ []:=by
  have sk5:=sk.trans s5
  refine ⟨⟨s0k.trans s5,sk5 _ _ e4,⟨[],sk5 _ _ k0,.nil⟩,⟨[],sk5 _ _ k1,.nil⟩,⟨[],sk5 _ _ k2,.nil⟩,⟨[],sk5 _ _ k3,.nil⟩,e5,?_,?_⟩,s5 _ _ ek,?_,s04.free hk⟩
  ·simp only [List.nodup_cons,List.mem_cons,List.not_mem_nil,or_false,not_or,List.nodup_nil,not_false_iff,and_true]
   exact ⟨⟨(ze (s3 _ _ (s2 _ _ (s1 _ _ e0))) h4).symm,(ze (s3 _ _ (s2 _ _ e1)) h4).symm,(ze (s3 _ _ e2) h4).symm,(ze e3 h4).symm,ze (sk _ _ e4) h5⟩,⟨ze e0 h1,ze (s1 _ _ e0) h2,ze (s2 _ _ (s1 _ _ e0)) h3,ze (sk _ _ k0) h5⟩,⟨ze e1 h2,ze (s2 _ _ e1) h3,ze (sk _ _ k1) h5⟩,⟨ze e2 h3,ze (sk _ _ k2) h5⟩,ze (sk _ _ k3) h5⟩
  ·intro x hx
   simp only [List.mem_cons,List.not_mem_nil,or_false] at hx
   rcases hx with rfl | rfl | rfl | rfl | rfl | rfl
   ·exact s03.free h4
   ·exact h0
   ·exact s0.free h1
   ·exact s01.free h2
   ·exact s02.free h3
   ·exact s0k.free h5
  ·simp only [List.mem_cons,List.not_mem_nil,or_false,not_or]
   exact ⟨(ze e4 hk).symm,(ze k0 hk).symm,(ze k1 hk).symm,(ze k2 hk).symm,(ze k3 hk).symm,ze ek h5⟩
 refine ⟨_,rfl,a,rfl,⟨_,I0.fi.sm.seq hS⟩,yM (K:=K) (a:=a) (xs:=cs.map V.int) (fun i σ H'=>∃ (S:FS) (ks:List Str) (v4 v5 v6 v7 v8:Option V),σ = [some (.ref a),some (.ref lg),some (.ref lk),some (.ref ll),v4,v5,v6,v7,v8]/\FKn H H' lg g0 g1 g2 g3 ll lk S ks/\FM i S/\ks.length = i/\∀ z ∈ ks,yx z = true)
  ⟨_,[],_,_,_,_,_,rfl,I0,FM.zero,rfl,fun _ h=>nomatch h⟩ (fun i σ H' _ ⟨_,_,_,_,_,_,_,_,h,_⟩=>h.fi.sm.seq hS) ?_ ?_⟩
 ·rintro i x σ H6 hx ⟨S,ks,v4,v5,v6,v7,v8,rfl,I6,M6,lks,nks⟩
  obtain ⟨n,hn,rfl⟩:=vF hx
  have hi:i < cs.length:=(List.getElem?_eq_some_iff.mp hn).1
  dsimp only [zO]
  refine ⟨_,rfl,zz2,fun l1 hl1=>?_⟩
  have s7:=zc hl1 (.lst [.int 9,.int 2])
  refine ⟨n,l1,[9,2],rfl,SqL.of za,by decide,by decide,fun t lf fs rest H8 s8 nlf ht hlf lfs hfs=>?_⟩
  obtain ⟨f0,f1,rfl⟩:∃ f0 f1,fs = [f0,f1]:=by
   match fs,lfs with
   | [x,y],_=>exact ⟨x,y,rfl⟩
  have b0:f0 < 9:=hfs 0 (by decide)
  have hlf:H8 lf = some (.lst [.int (f0:Nat),.int (f1:Nat)]):=hlf
  refine ⟨t,_,rfl,SqT.of ht,rfl,_,_,rfl,_,_,rfl,rfl,?_⟩
  have nlk:lf ≠ lk:=(ze (s7 _ _ I6.hk) nlf).symm
  have nll:lf ≠ ll:=(ze (s7 _ _ I6.fi.hl) nlf).symm
  have I8:=I6.same (s7.trans s8)
  clear I6 s7 s8 nlf ht
  dsimp only [zO]
  refine ⟨_,rfl,_,rfl,rest,lk,ks,rfl,I8.hk,nks,by omega,fun tn z rest' H9 s9 htn hz=>?_⟩
  refine ⟨tn,_,0,.str z,rfl,rfl,SqT.of htn,rfl,?_⟩
  have I9:=I8.same s9
  have hlf:=s9 _ _ hlf
  clear I8 s9 htn
  dsimp only [zO]
  refine ⟨_,rfl,.inl ⟨rfl,_,SqL.of I9.hk⟩,_,rfl,lk,_,_,rfl,rfl,I9.hk,zx (by rw [List.length_map]; omega),?_⟩
  have Ia:=I9.know (z:=z)
  have hlf:upd H9 lk (.lst (ks.map V.str ++ [.str z])) lf = some (.lst [.int (f0:Nat),.int (f1:Nat)]):=by rw [zf nlk]; exact hlf
  clear I9
  generalize upd H9 lk (.lst (ks.map V.str ++ [.str z])) = Ha at Ia hlf |-
  have lks':(ks ++ [z]).length = i + 1:=by rw [List.length_append,lks]; rfl
  have nks':∀ y ∈ ks ++ [z],yx y = true:=fun y hy=>by
   rcases List.mem_append.mp hy with h | h
   ·exact nks y h
   ·rw [List.mem_singleton.mp h]; exact hz
  have lnS:=M6.ln
  have lL:=M6.lL
  have skip:∀ {H':Hp} {v8:Option V},FKn H H' lg g0 g1 g2 g3 ll lk S (ks ++ [z])->∃ (S:FS) (ks:List Str) (v4 v5 v6 v7 v8':Option V),([some (.ref a),some (.ref lg),some (.ref lk),some (.ref ll),some (.int n),some (.ref lf),some (.int rest),some (.str z),v8]:L2.St) = [some (.ref a),some (.ref lg),some (.ref lk),some (.ref ll),v4,v5,v6,v7,v8']/\FKn H H' lg g0 g1 g2 g3 ll lk S ks/\FM (i + 1) S/\ks.length = i + 1/\∀ z ∈ ks,yx z = true:=fun I=>⟨S,_,_,_,_,_,_,rfl,I,⟨M6.okP,M6.okT,M6.okG,M6.okB,M6.lT,M6.lB,M6.nd,M6.sn,Nat.le_succ_of_le M6.ln,Nat.le_succ_of_le M6.lL⟩,lks',nks'⟩
  have fin:∀ {k:Nat} {H':Hp} {b:Bool} {v8:Option V},FKn H H' lg g0 g1 g2 g3 ll lk (S.add k z b) (ks ++ [z])->k < 5->(z3 k = true->z ∉ S.L)->∃ (S:FS) (ks:List Str) (v4 v5 v6 v7 v8':Option V),([some (.ref a),some (.ref lg),some (.ref lk),some (.ref ll),some (.int n),some (.ref lf),some (.int rest),some (.str z),v8]:L2.St) = [some (.ref a),some (.ref lg),some (.ref lk),some (.ref ll),v4,v5,v6,v7,v8']/\FKn H H' lg g0 g1 g2 g3 ll lk S ks/\FM (i + 1) S/\ks.length = i + 1/\∀ z ∈ ks,yx z = true:=fun {k H' b v8} I hk hn'=>⟨S.add k z b,_,_,_,_,_,_,rfl,I,M6.add hk hz hn',lks',nks'⟩
  have w0:=Ia.fi.h0
  refine ⟨_,rfl,lf,_,0,.int (f0:Nat),rfl,rfl,SqL.of hlf,rfl,_,_,rfl,rfl,_,rfl,?_⟩
  refine vW (fun _=>?_) (fun hge=>?_)
  ·obtain ⟨us,w1,w2⟩:=Ia.fi.h0
   have hlu:us.length<=24:=by rw [w2.length]; omega
   refine ⟨_,rfl,lg,_,0,.ref g0,rfl,rfl,SqL.of Ia.fi.gg,rfl,.inl ⟨rfl,_,SqL.of w1⟩,_,rfl,_,rfl,lf,_,1,.int (f1:Nat),rfl,rfl,SqL.of hlf,rfl,rfl,zz3,fun u hu=>?_⟩
   generalize decide (V.int ((f1:Nat):Int) = V.int 1) = fb
   have s7:=zc hu (.tup [.str "seat",.str z,.bl fb])
   have tu:TAt (upd Ha u (.tup [.str "seat",.str z,.bl fb])) u ⟨0,z,fb⟩:=za
   refine ⟨g0,_,_,rfl,rfl,s7 _ _ w1,zx (by rw [List.length_map]; omega),?_⟩
   exact fin (k:=0) ((Ia.same s7).put ((Ia.fi.same s7).add0 (s7 _ _ w1) (yf s7 w2) tu) (by simp)) (by decide) (fun e=>by cases e)
  have hge:¬ ((f0:Nat):Int) < 2:=fun e=>hge (decide_eq_true e)
  refine ⟨_,rfl,lf,_,0,.int (f0:Nat),rfl,rfl,SqL.of hlf,rfl,rfl,_,rfl,?_⟩
  by_cases hv:f0 = 5
  ·refine dT (by rw [hv]; rfl) ?_
   obtain ⟨us,w1,w2⟩:=Ia.fi.h1
   refine ⟨_,rfl,lg,_,1,.ref g1,rfl,rfl,SqL.of Ia.fi.gg,rfl,zz0,fun l0 hl0=>?_⟩
   have s7:=zc hl0 (.lst [])
   have e7:upd Ha l0 (.lst []) l0 = some (.lst []):=za
   have I7:=Ia.same s7
   have hlf7:=s7 _ _ hlf
   have w1:=s7 _ _ w1
   have w2:=yf s7 w2
   generalize upd Ha l0 (.lst []) = H7 at s7 e7 I7 w1 w2 hlf7 |-
   refine ⟨g1,l0,_,rfl,rfl,w1,e7,_,rfl,?_⟩
   by_cases hT:S.T = []
   ·rw [hT] at w2
    cases w2
    refine wC ?_
    refine ⟨_,rfl,lg,_,1,.ref g1,rfl,rfl,SqL.of I7.fi.gg,rfl,.inl ⟨rfl,_,SqL.of w1⟩,_,rfl,zz2,fun u hu=>?_⟩
    have s9:=zc hu (.tup [.str "tail",.str z])
    have tu:TAt (upd H7 u (.tup [.str "tail",.str z])) u ⟨2,z,true⟩:=za
    refine ⟨g1,_,_,rfl,rfl,s9 _ _ w1,zx (by show 0<=1000; decide),?_⟩
    exact fin (k:=2) ((I7.same s9).put ((I7.fi.same s9).add1 hT tu) (by simp)) (by decide) (fun e=>by cases e)
   have ne:(false != (us.map V.ref).isEmpty) = false:=by
    cases us with
    | nil=>exact absurd (List.eq_nil_of_length_eq_zero w2.length.symm) hT
    | cons _ _=>rfl
   refine vE ne ?_
   refine ⟨_,rfl,lf,_,0,.int (f0:Nat),rfl,rfl,SqL.of hlf7,rfl,rfl,_,rfl,?_⟩
   refine dF (fun e'=>by have:=V.int.inj e'; omega) ?_
   refine y6 ?_
   refine ⟨_,rfl,lf,_,0,.int (f0:Nat),rfl,rfl,SqL.of hlf7,rfl,zz2,fun tt htt=>?_⟩
   have st:=zc htt (.tup [.int 5,.int 8])
   have It:=I7.same st
   refine ⟨tt,_,rfl,.inr (SqT.of za),rfl,rfl,_,rfl,?_⟩
   refine vE (by rw [hv]; decide +kernel) ?_
   refine y6 ?_
   exact skip It
  refine dF (fun e'=>by have:=V.int.inj e'; omega) ?_
  refine y6 ?_
  refine ⟨_,rfl,lf,_,0,.int (f0:Nat),rfl,rfl,SqL.of hlf,rfl,rfl,_,rfl,?_⟩
  by_cases hv8:f0 = 8
  ·refine dT (by rw [hv8]; rfl) ?_
   obtain ⟨us,w1,w2⟩:=Ia.fi.h3
   refine ⟨_,rfl,lg,_,3,.ref g3,rfl,rfl,SqL.of Ia.fi.gg,rfl,zz0,fun l0 hl0=>?_⟩
   have s7:=zc hl0 (.lst [])
   have e7:upd Ha l0 (.lst []) l0 = some (.lst []):=za
   have I7:=Ia.same s7
   have hlf7:=s7 _ _ hlf
   have w1:=s7 _ _ w1
   have w2:=yf s7 w2
   generalize upd Ha l0 (.lst []) = H7 at s7 e7 I7 w1 w2 hlf7 |-
   refine ⟨g3,l0,_,rfl,rfl,w1,e7,_,rfl,?_⟩
   by_cases hT:S.B = []
   ·rw [hT] at w2
    cases w2
    refine wC ?_
    refine ⟨_,rfl,lg,_,3,.ref g3,rfl,rfl,SqL.of I7.fi.gg,rfl,.inl ⟨rfl,_,SqL.of w1⟩,_,rfl,zz2,fun u hu=>?_⟩
    have s9:=zc hu (.tup [.str "bag",.str z])
    have tu:TAt (upd H7 u (.tup [.str "bag",.str z])) u ⟨4,z,true⟩:=za
    refine ⟨g3,_,_,rfl,rfl,s9 _ _ w1,zx (by show 0<=1000; decide),?_⟩
    exact fin (k:=4) ((I7.same s9).put ((I7.fi.same s9).add3 hT tu) (by simp)) (by decide) (fun e=>by cases e)
   have ne:(false != (us.map V.ref).isEmpty) = false:=by
    cases us with
    | nil=>exact absurd (List.eq_nil_of_length_eq_zero w2.length.symm) hT
    | cons _ _=>rfl
   refine vE ne ?_
   refine ⟨_,rfl,lf,_,0,.int (f0:Nat),rfl,rfl,SqL.of hlf7,rfl,zz2,fun tt htt=>?_⟩
   have st:=zc htt (.tup [.int 5,.int 8])
   have It:=I7.same st
   refine ⟨tt,_,rfl,.inr (SqT.of za),rfl,rfl,_,rfl,?_⟩
   refine vE (by rw [hv8]; decide +kernel) ?_
   refine y6 ?_
   exact skip It
  refine dF (fun e'=>by have:=V.int.inj e'; omega) ?_
  refine y6 ?_
  refine ⟨_,rfl,lf,_,0,.int (f0:Nat),rfl,rfl,SqL.of hlf,rfl,zz2,fun tt htt=>?_⟩
  have st:=zc htt (.tup [.int 5,.int 8])
  have It:=Ia.same st
  refine ⟨tt,_,rfl,.inr (SqT.of za),rfl,rfl,_,rfl,?_⟩
  have hlft:=st _ _ hlf
  generalize upd Ha tt (.tup [.int 5,.int 8]) = Ht at It hlft |-
  have nin:∀ y:Nat,y < 9->y ≠ 5->y ≠ 8->inV (.int ((y:Nat):Int)) [.int 5,.int 8] = false:=by decide +kernel
  refine je (by rw [nin f0 b0 hv hv8]; rfl) ?_
  refine ⟨_,rfl,_,rfl,ll,_,rfl,.inl (SqL.of It.fi.hl),rfl,wE,_,rfl,?_⟩
  by_cases hm:z ∈ S.L
  ·refine vE (by rw [if_pos rfl,wD,decide_eq_true hm]; rfl) ?_
   exact skip It
  refine je (by rw [if_pos rfl,wD,decide_eq_false hm]; rfl) ?_
  refine ⟨_,rfl,.inl ⟨rfl,_,SqL.of It.fi.hl⟩,_,rfl,ll,_,_,rfl,rfl,It.fi.hl,zx (by rw [List.length_map]; omega),?_⟩
  have J:=It.put (It.fi.addL (z:=z)) (by simp)
  have hlfj:upd Ht ll (.lst (S.L.map V.str ++ [.str z])) lf = some (.lst [.int (f0:Nat),.int (f1:Nat)]):=by rw [zf nll]; exact hlft
  dsimp only [zgG]
  generalize upd Ht ll (.lst (S.L.map V.str ++ [.str z])) = Hj at J hlfj |-
  refine ⟨zz2,fun lw hlw=>?_⟩
  have sw:=zc hlw (.lst [.str "both",.str "tag"])
  have hlfw:=sw _ _ hlfj
  have Jw:=J.same sw
  by_cases h5:((f0:Nat):Int) > 5
  ·refine ⟨_,rfl,lf,_,0,.int (f0:Nat),rfl,rfl,SqL.of hlfw,rfl,_,_,rfl,rfl,.inr ⟨_,rfl,lw,_,_,.str "tag",rfl,rfl,SqL.of za,(by rw [decide_eq_true h5]; rfl),?_⟩⟩
   dsimp only [zO]
   generalize upd Hj lw (.lst [.str "both",.str "tag"]) = Hw at sw hlfw Jw |-
   obtain ⟨us,w1,w2⟩:=Jw.fi.h2
   have w2:Paired (TAt Hw) us S.G:=w2
   have hlu:us.length<=24:=by rw [w2.length]; omega
   refine ⟨_,rfl,_,rfl,rfl,.inr ⟨_,rfl,_,_,rfl,rfl,.inl ⟨by decide,by decide⟩,lg,_,_,.ref g2,rfl,rfl,SqL.of Jw.fi.gg,rfl,.inl ⟨rfl,_,SqL.of w1⟩,_,rfl,_,rfl,_,rfl,lf,_,1,.int (f1:Nat),rfl,rfl,SqL.of hlfw,rfl,rfl,zz3,fun u hu=>?_⟩⟩
   generalize decide (V.int ((f1:Nat):Int) = V.int 1) = fb
   have s9:=zc hu (.tup [.str "tag",.str z,.bl fb])
   have tu:TAt (upd Hw u (.tup [.str "tag",.str z,.bl fb])) u ⟨3,z,fb⟩:=za
   refine ⟨g2,_,_,rfl,rfl,s9 _ _ w1,zx (by rw [List.length_map]; omega),?_⟩
   exact fin (k:=3) ((Jw.same s9).put ((Jw.fi.same s9).add2 (s9 _ _ w1) (yf s9 w2) tu) (by simp)) (by decide) (fun _=>hm)
  ·refine ⟨_,rfl,lf,_,0,.int (f0:Nat),rfl,rfl,SqL.of hlfw,rfl,_,_,rfl,rfl,.inr ⟨_,rfl,lw,_,_,.str "both",rfl,rfl,SqL.of za,(by rw [decide_eq_false h5]; rfl),?_⟩⟩
   dsimp only [zO]
   generalize upd Hj lw (.lst [.str "both",.str "tag"]) = Hw at sw hlfw Jw |-
   obtain ⟨us,w1,w2⟩:=Jw.fi.h0
   have w2:Paired (TAt Hw) us S.P:=w2
   have hlu:us.length<=24:=by rw [w2.length]; omega
   refine ⟨_,rfl,_,rfl,rfl,.inr ⟨_,rfl,_,_,rfl,rfl,.inl ⟨by decide,by decide⟩,lg,_,_,.ref g0,rfl,rfl,SqL.of Jw.fi.gg,rfl,.inl ⟨rfl,_,SqL.of w1⟩,_,rfl,_,rfl,_,rfl,lf,_,1,.int (f1:Nat),rfl,rfl,SqL.of hlfw,rfl,rfl,zz3,fun u hu=>?_⟩⟩
   generalize decide (V.int ((f1:Nat):Int) = V.int 1) = fb
   have s9:=zc hu (.tup [.str "both",.str z,.bl fb])
   have tu:TAt (upd Hw u (.tup [.str "both",.str z,.bl fb])) u ⟨1,z,fb⟩:=za
   refine ⟨g0,_,_,rfl,rfl,s9 _ _ w1,zx (by rw [List.length_map]; omega),?_⟩
   exact fin (k:=1) ((Jw.same s9).put ((Jw.fi.same s9).add0 (s9 _ _ w1) (yf s9 w2) tu) (by simp)) (by decide) (fun _=>hm)
 ·rintro σ H6 ⟨S,ks,v4,v5,v6,v7,v8,rfl,I6,M6,_⟩
  rw [List.length_map] at M6
  have lnS:=M6.ln
  obtain ⟨u0,a0,b0⟩:=I6.fi.h0
  obtain ⟨u1,a1,b1⟩:=I6.fi.h1
  obtain ⟨u2,a2,b2⟩:=I6.fi.h2
  obtain ⟨u3,a3,b3⟩:=I6.fi.h3
  have c0:=b0.length
  have c1:=b1.length
  have c2:=b2.length
  have c3:=b3.length
  refine ⟨_,rfl,lg,_,0,.ref g0,rfl,rfl,SqL.of I6.fi.gg,rfl,_,rfl,lg,_,1,.ref g1,rfl,rfl,SqL.of I6.fi.gg,rfl,g0,g1,_,_,rfl,rfl,a0,a1,ym (by rw [List.length_map,List.length_map]; omega),fun p1 hp1=>?_⟩
  have t1:=zc hp1 (.lst (u0.map V.ref ++ u1.map V.ref))
  have f1:upd H6 p1 (.lst (u0.map V.ref ++ u1.map V.ref)) p1 = some (.lst (u0.map V.ref ++ u1.map V.ref)):=za
  generalize upd H6 p1 (.lst (u0.map V.ref ++ u1.map V.ref)) = H7 at t1 f1 |-
  refine ⟨_,rfl,lg,_,2,.ref g2,rfl,rfl,SqL.of (t1 _ _ I6.fi.gg),rfl,p1,g2,_,_,rfl,rfl,f1,t1 _ _ a2,ym (by rw [List.length_append,List.length_map,List.length_map,List.length_map]; omega),fun p2 hp2=>?_⟩
  have t2:=zc hp2 (.lst (u0.map V.ref ++ u1.map V.ref ++ u2.map V.ref))
  have f2:upd H7 p2 (.lst (u0.map V.ref ++ u1.map V.ref ++ u2.map V.ref)) p2 = some (.lst (u0.map V.ref ++ u1.map V.ref ++ u2.map V.ref)):=za
  generalize upd H7 p2 (.lst (u0.map V.ref ++ u1.map V.ref ++ u2.map V.ref)) = H8 at t2 f2 |-
  have t12:=t1.trans t2
  refine ⟨_,rfl,lg,_,3,.ref g3,rfl,rfl,SqL.of (t12 _ _ I6.fi.gg),rfl,p2,g3,_,_,rfl,rfl,f2,t12 _ _ a3,ym (by simp only [List.length_append,List.length_map]; omega),fun p3 hp3=>?_⟩
  have t3:=zc hp3 (.lst (u0.map V.ref ++ u1.map V.ref ++ u2.map V.ref ++ u3.map V.ref))
  have t13:=t12.trans t3
  refine q p3 (u0 ++ u1 ++ u2 ++ u3) S.rows _ (I6.fi.sm.trans t13) (I6.fi.sm.free (t12.free hp3)) ?_ ?_ (M6.vr (by omega))
  ·rw [za]
   simp only [List.map_append]
  ·have paired_app':∀ {α β : Type} {R : α->β->Prop} {a c:List α} {b d:List β},Paired R a b->Paired R c d->Paired R (a ++ c) (b ++ d):=by
    intro α β R a c b d h1 h2
    induction h1 with
    | nil=>exact h2
    | cons r t ih=>exact .cons r ih
   unfold FS.rows
   exact paired_app' (paired_app' (paired_app' (yf t13 b0) (yf t13 b1)) (yf t13 b2)) (yf t13 b3)
end
theorem zgc {R:Addr->Rw->Prop} {us:List Addr} {rows:List Rw} (h:Paired R us rows):((us.zip rows).filter fun p=>z3 p.2.k).map (fun p=>V.str p.2.z) = (nms rows).map V.str:=by
 have:=zbV h (fun r=>z3 r.k) (fun r=>V.str r.z)
 rw [this]
 unfold nms
 rw [List.map_map]
 rfl
theorem zcD {R:Addr->Rw->Prop} {us:List Addr} {rows:List Rw} (h:Paired R us rows):((us.zip rows).filter fun _=>true).map (fun p=>V.str p.2.z) = (rows.map Rw.z).map V.str:=by
 have:=zbV h (fun _=>true) (fun r=>V.str r.z)
 rw [this,List.filter_eq_self.mpr (fun _ _=>rfl),List.map_map]
 rfl
theorem qQ {rows:List Rw} (V1:VR rows):∀ z ∈ rows.map Rw.z,yx z = true:=fun z hz=>by
 obtain ⟨r,hr,rfl⟩:=List.mem_map.mp hz
 exact (V1.ok r hr).2
def zb7 (K:Frag):Sp:=fun vs H Q _=>∃ (a la:Addr) (cs:List Int) (us:List Addr) (rows:List Rw),vs = [.ref a,.ref la]/\SqL K H a (cs.map V.int)/\cs.length<=60/\H la = some (.lst (us.map V.ref))/\Paired (TAt H) us rows/\VR rows/\
 ∀ (l:Addr) (bars:List Str) (H':Hp),zl H H'->H l = none->H' l = some (.lst (bars.map V.str))->x0 rows bars->Q (.ref l) H'
section
variable {P:Program} {w:World} {K:Frag} {mg:Str->Option Value} {base:Heap} {f:Addr} {fd:FuncData}
theorem zeF:([Str.ofString "_law_one"]:List Str).Nodup:=by decide +kernel
theorem wL:zm ["_law_cells","_law_specs_here","_law_known","_law_seen","_law_shut","_law_cell","_law_name_here"] ["_law_cells","_law_specs_here"] (zg zd4):=⟨rfl,rfl,rfl,by decide +kernel,rfl,by decide +kernel,by decide +kernel⟩
theorem zeu {t1:Addr} {e1:FuncData} (F:Fun K "_law_bars" "_law_bars" zd4 f fd) (cN:zv P w K mg base 4 "_law_name" t1 e1 ["_law_cell","_law_known"] (uD K)):zp P w K mg base CX0 5 f fd ["_law_cells","_law_specs_here"] (zb7 K):=by
 refine F.ok wL (fun vs H Q E h=>?_) (fun cdv A outer s H vs Q E hr h=>?_)
 ·obtain ⟨a,la,cs,us,rows,rfl,_⟩:=h
  rfl
 obtain ⟨a,la,cs,us,rows,rfl,hS,l60,hla,hu,V1,q⟩:=h
 have l24:=V1.l24
 refine zT (zch (i:=2) [] ["_law_one"] [none] wL.nd rfl (Or.inl rfl) rfl ⟨rfl,rfl,rfl,rfl⟩ (zZ (pv 1)) (z9 0) rfl rfl rfl
   (fun pins fp s H C=>⟨zk (i:=0) zeF rfl (Or.inl rfl) (.inr rfl),yI,zF (r:=zd7 K) yd (pv 0) zh (fun _ _=>rfl)⟩)) ?_
 refine ⟨_,rfl,la,rfl,⟨_,SqL.of hla⟩,fun Dk hDk=>?_⟩
 refine zbA (K:=K) TAt (fun _=>true) (fun _ r=>.str r.z) hDk hla hu (by omega) (fun i u r H' N S hu' hr' tr sH n1 s1=>?_) (fun Hk sk hk=>?_)
 ·have rk:=V1.ok r (List.mem_of_getElem? hr')
  have tu:=sH _ _ tr
  exact ⟨fun e=>⟨_,rfl,u,_,1,_,rfl,rfl,SqT.of tu,qx rk,n1 _ (zl.refl _) rfl⟩,fun e=>by cases e⟩
 rw [zcD hu] at hk
 have hlak:=sk _ _ hla
 have huk:=yf sk hu
 dsimp only [zO]
 refine ⟨_,zi (zch (i:=3) [] ["_law_one"] [none] wL.nd rfl (Or.inl rfl) rfl ⟨rfl,rfl,rfl,rfl⟩ (zZ (pv 1)) (z9 0) rfl rfl rfl
   (fun pins fp s H C=>⟨zk (i:=0) zeF rfl (Or.inl rfl) (.inr rfl),wN (zn (r:=rIn K false) xZ (zF (r:=zd7 K) yd (pv 0) zh (fun _ _=>rfl)) (zN (ac zr (ac zr zb))) (by with_unfolding_all rfl)),zF (r:=zd7 K) yd (pv 0) zh (fun _ _=>rfl)⟩))
  (zi (zt (i:=4) wL.nd rfl (Or.inl rfl) (zY zb))
  (zi (yz PassesOwn.never rfl (zZ (pv 0)) (zk (i:=5) wL.nd rfl (Or.inl rfl))
   (zi (zt (i:=6) wL.nd rfl (Or.inl rfl) (zF yd (cF cN hr (ac (pv 5) (ac (pv 2) zb))) zh (fun _ _=>rfl)))
   (zd (zP (PW.pt (xh (zn xq (pv 6) (pv 3) (by with_unfolding_all rfl)) (yO (zn xq (pv 6) (pv 4) (by with_unfolding_all rfl))))) (zd (zB (yv PySem.F.plainAttrs_list PySem.F.slot_list_append PySem.F.type_list_append zG (pv 4) (ac (pv 6) zb)))) zH))))
  (zd (zq (pv 4))))),?_⟩
 refine ⟨_,rfl,la,rfl,⟨_,SqL.of hlak⟩,fun D hD=>?_⟩
 refine zbA (K:=K) TAt (fun r=>z3 r.k) (fun _ r=>.str r.z) hD hlak huk (by omega) (fun i u r H' N S hu' hr' tr sH n1 s1=>?_) (fun H1 s1 hD1=>?_)
 ·have rk:=V1.ok r (List.mem_of_getElem? hr')
  have tu:=sH _ _ tr
  refine ⟨_,rfl,u,_,0,_,rfl,rfl,SqT.of tu,zfz rk,zz2,fun l hl=>?_⟩
  have s2:=zc hl (.tup [.str "both",.str "tag"])
  refine ⟨l,_,rfl,.inr (SqT.of za),rfl,rfl,_,rfl,?_⟩
  rw [if_neg Bool.false_ne_true,zif rk.1]
  exact ⟨fun e=>⟨_,rfl,u,_,1,_,rfl,rfl,SqT.of (s2 _ _ tu),qx rk,n1 _ s2 e⟩,fun e=>s1 _ s2 e⟩
 rw [zgc huk] at hD1
 refine ⟨zz0,fun fo hfo=>?_⟩
 have s2:=zc hfo (.lst [])
 have g2:upd H1 fo (.lst []) fo = some (.lst []):=za
 dsimp only [zO]
 generalize upd H1 fo (.lst []) = H2 at s2 g2 |-
 have s12:=sk.trans (s1.trans s2)
 have nD:=s2 _ _ hD1
 have nfo:H fo = none:=(sk.trans s1).free hfo
 have neD:D ≠ fo:=ze hD1 hfo
 refine ⟨_,rfl,a,rfl,⟨_,s12.seq hS⟩,yM (K:=K) (a:=a) (xs:=cs.map V.int) (fun i σ H'=>∃ (bars:List Str) (v5 v6:Option V),σ = [some (.ref a),some (.ref la),some (.ref Dk),some (.ref D),some (.ref fo),v5,v6]/\zl H H'/\H' Dk = some (.lst ((rows.map Rw.z).map V.str))/\H' D = some (.lst ((nms rows).map V.str))/\H' fo = some (.lst (bars.map V.str))/\bars.Nodup/\(∀ z ∈ bars,yx z = true)/\(∀ z ∈ bars,z ∉ nms rows)/\bars.length<=i)
  ⟨[],_,_,rfl,s12,(s1.trans s2) _ _ hk,nD,g2,List.nodup_nil,(fun _ h=>nomatch h),(fun _ h=>nomatch h),Nat.le_refl _⟩ (fun i σ H' _ ⟨_,_,_,_,sH,_⟩=>sH.seq hS) ?_ ?_⟩
 ·rintro i x σ H3 hx ⟨bars,v5,v6,rfl,s3,eK,eD,eF,nd,nm,nk,ln⟩
  obtain ⟨n,hn,rfl⟩:∃ n,cs[i]? = some n/\x = .int n:=by
   rw [List.getElem?_map] at hx
   cases e:cs[i]? with
   | none=>rw [e] at hx; cases hx
   | some n=>rw [e] at hx; cases hx; exact ⟨n,rfl,rfl⟩
  have hi:i < cs.length:=(List.getElem?_eq_some_iff.mp hn).1
  dsimp only [zO]
  refine ⟨_,rfl,_,rfl,n,Dk,rows.map Rw.z,rfl,eK,qQ V1,by rw [List.length_map]; omega,fun tn z rest' H4 s4 htn hz=>?_⟩
  refine ⟨tn,_,0,.str z,rfl,rfl,SqT.of htn,rfl,?_⟩
  have s3:=s3.trans s4
  have eK:=s4 _ _ eK
  have eD:=s4 _ _ eD
  have eF:=s4 _ _ eF
  have neK:Dk ≠ fo:=ze (s1 _ _ hk) hfo
  refine ⟨_,rfl,_,rfl,D,_,rfl,.inl (SqL.of eD),rfl,wE,_,rfl,?_⟩
  by_cases hk:z ∈ nms rows
  ·refine vE (by rw [if_pos rfl,wD,decide_eq_true hk]; rfl) ?_
   refine y6 ?_
   exact ⟨bars,_,_,rfl,s3,eK,eD,eF,nd,nm,nk,Nat.le_succ_of_le ln⟩
  refine je (by rw [if_pos rfl,wD,decide_eq_false hk]; rfl) ?_
  refine ⟨_,rfl,_,rfl,fo,_,rfl,.inl (SqL.of eF),rfl,wE,_,rfl,?_⟩
  by_cases hb:z ∈ bars
  ·refine vE (by rw [if_pos rfl,wD,decide_eq_true hb]; rfl) ?_
   exact ⟨bars,_,_,rfl,s3,eK,eD,eF,nd,nm,nk,Nat.le_succ_of_le ln⟩
  refine je (by rw [if_pos rfl,wD,decide_eq_false hb]; rfl) ?_
  refine ⟨_,rfl,.inl ⟨rfl,_,SqL.of eF⟩,_,rfl,fo,_,_,rfl,rfl,eF,zx (by rw [List.length_map]; omega),?_⟩
  refine ⟨bars ++ [z],_,_,rfl,fun b u e=>by rw [zf (ze e nfo)]; exact s3 _ _ e,by rw [zf neK]; exact eK,by rw [zf neD]; exact eD,by rw [za,List.map_append]; rfl,List.nodup_append.mpr ⟨nd,by simp,fun x hx y hy e=>hb (by rw [<- List.mem_singleton.mp hy,<- e]; exact hx)⟩,fun y hy=>?_,fun y hy=>?_,by rw [List.length_append]; exact Nat.succ_le_succ ln⟩
  ·rcases List.mem_append.mp hy with hy | hy
   ·exact nm y hy
   ·rw [List.mem_singleton.mp hy]; exact hz
  ·rcases List.mem_append.mp hy with hy | hy
   ·exact nk y hy
   ·rw [List.mem_singleton.mp hy]; exact hk
 ·rintro σ H3 ⟨bars,v5,v6,rfl,s3,eK,eD,eF,nd,nm,nk,ln⟩
  rw [List.length_map] at ln
  exact ⟨_,rfl,q fo bars H3 s3 nfo eF ⟨V1.ok,V1.l24,by omega,V1.ord,nm,List.nodup_append.mpr ⟨V1.nd,nd,fun x hx y hy e=>nk y hy (e ▸ hx)⟩⟩⟩
end
theorem yZ {K:Frag} {ok:Addr->Prop} {H3:Hp} {o:HO} {l:Addr} (hl:H3 l = none\/(∃ zs,H3 l = some (.lst zs))):∀ {ps:List (Str × Int)} {zs:List V},Paired (zu K ok H3 1) zs (ps.map yG)->Paired (zu K ok (upd H3 l o) 1) zs (ps.map yG)
 | [],_,r=>by cases r; exact .nil
 | p :: ps,_,r=>by
  cases r with
  | cons h r=>
   refine .cons ?_ (yZ hl r)
   obtain ⟨b,ws,rfl,hS',r'⟩:=yU h
   exact .tup (uC hl hS') (Paired.imp' (fun _ _ z=>z) r')
theorem zam {K:Frag} {ok ok':Addr->Prop} {H3:Hp}:∀ {ps:List (Str × Int)} {zs:List V},Paired (zu K ok H3 1) zs (ps.map yG)->Paired (zu K ok' H3 1) zs (ps.map yG)
 | [],_,r=>by cases r; exact .nil
 | p :: ps,_,r=>by
  cases r with
  | cons h r=>
   refine .cons ?_ (zam r)
   obtain ⟨b,ws,rfl,hS',r'⟩:=yU h
   exact .tup hS' (Paired.imp' (fun _ _ z=>z) r')
theorem zfx {K:Frag} {ok ok':Addr->Prop} {H:Hp} (hk:∀ b,ok b->H b ≠ none->ok' b) {n:Nat} {x:V} {d:Dt} (h:zu K ok H n x d):zu K ok' H n x d:=
 h.frame (fun a xs z=>z) fun a xs oa z=>⟨hk a oa (by rw [z]; intro q; cases q),z⟩
def zdF (it:yo):Prop:=(itT it).length<=4/\(itP it).length<=4/\∀ p ∈ itP it,yx p.1 = true
def zb8 (K:Frag):Sp:=fun vs H Q _=>∃ (ca ka:Addr) (ns:List Int) (zs:List Str),vs = [.ref ca,.ref ka]/\SqL K H ca (ns.map V.int)/\ns.length<=63/\H ka = some (.lst (zs.map V.str))/\(∀ z ∈ zs,yx z = true)/\zs.length<=500/\
 ∀ (r:Addr) (xs:List V) (its:List yo) (H':Hp),zl H H'->H r = none->H' r = some (.lst xs)->Paired (zu K T' H' 3) xs (its.map yu)->its.length = ns.length->(∀ it ∈ its,zdF it)->Q (.ref r) H'
section
variable {P:Program} {w:World} {K:Frag} {mg:Str->Option Value} {base:Heap} {f CF:Addr} {fd:FuncData} {c:C5} {m:MA}
theorem ndK:([Str.ofString "_law_k",Str.ofString "_law_rest"]:List Str).Nodup:=by decide +kernel
theorem yT:zm ["_law_cells","_law_known","_law_items_here","_law_cell","_law_told","_law_rest","_law_k","_law_name_here","_law_pairs"] ["_law_cells","_law_known"] (zg zbj):=⟨rfl,rfl,rfl,by decide +kernel,rfl,by decide +kernel,by decide +kernel⟩
theorem zew {t1 t2 t3:Addr} {e1 e2 e3:FuncData} (F:Fun K "_law_items" "_law_items" zbj f fd) (hrg:mg "range" = none) (cK:zv P w K mg base 3 "_law_take" t1 e1 ["_law_cell","_law_sizes"] (qd K)) (cN:zv P w K mg base 4 "_law_name" t2 e2 ["_law_cell","_law_known"] (uD K)) (cT:zv P w K mg base 1 "_law_thing" t3 e3 ["_law_cell"] zb3):zp P w K mg base CX0 5 f fd ["_law_cells","_law_known"] (zb8 K):=by
 refine F.ok yT (fun vs H Q E h=>?_) (fun cdv A outer s H vs Q E hr h=>?_)
 ·obtain ⟨cs,pl,ns,zs,rfl,_⟩:=h
  rfl
 obtain ⟨ca,ka,ns,zs,rfl,hS,h63,hka,hz1,l5,q⟩:=h
 have hr1:yb 1 _:=hr.mono (by decide)
 have hr3:yb 3 _:=hr.mono (by decide)
 refine zT (zt (i:=2) yT.nd rfl (Or.inl rfl) (zY zb)) ?_
 refine ⟨zz0,fun r hrn=>?_⟩
 have sr:=zc hrn (.lst [])
 have g0:upd H r (.lst []) r = some (.lst []):=za
 dsimp only [zO]
 generalize upd H r (.lst []) = H1 at sr g0 |-
 refine zT (yz PassesOwn.never rfl (zZ (pv 0)) (zk (i:=3) yT.nd rfl (Or.inl rfl)) xJ) ?_
 refine ⟨_,rfl,ca,rfl,⟨_,sr.seq hS⟩,yM (K:=K) (a:=ca) (xs:=ns.map V.int) (fun i σ H2=>∃ (v3 v4 v5 v6 v7 v8:Option V) (xs:List V) (its:List yo),σ = [some (.ref ca),some (.ref ka),some (.ref r),v3,v4,v5,v6,v7,v8]/\zl H H2/\H2 r = some (.lst xs)/\Paired (zu K (fun b=>b ≠ r) H2 3) xs (its.map yu)/\its.length = i/\∀ it ∈ its,zdF it)
  ⟨_,_,_,_,_,_,[],[],rfl,sr,g0,.nil,rfl,fun _ h=>nomatch h⟩ (fun i σ H2 _ ⟨_,_,_,_,_,_,_,_,_,s2,_⟩=>s2.seq hS) ?_ ?_⟩
 ·rintro i y σ H2 hi ⟨v3,v4,v5,v6,v7,v8,xs,its,rfl,s2,g,hx,li,si⟩
  obtain ⟨n,hc,rfl⟩:=vF hi
  have hil:i < ns.length:=(List.getElem?_eq_some_iff.mp hc).1
  have lx:xs.length = i:=by rw [hx.length,List.length_map,li]
  dsimp only [zO]
  refine zT (wb (cF cK hr3 (ac (pv 3) (ac (zY (ac zh (ac zh zb))) zb))) (yA rfl (zo (zk (i:=4) yT.nd rfl (Or.inl rfl)) (zo (zk (i:=5) yT.nd rfl (Or.inr rfl)) yh)))) ?_
  refine ⟨_,rfl,zz2,fun l1 hl1=>?_⟩
  have s7:=zc hl1 (.lst [.int 8,.int 5])
  refine ⟨n,l1,[8,5],rfl,SqL.of za,by decide,by decide,fun t lf fs rest H8 s8 nlf ht hlf lfs hfs=>?_⟩
  obtain ⟨f0,f1,rfl⟩:∃ f0 f1,fs = [f0,f1]:=by
   match fs,lfs with
   | [x,y],_=>exact ⟨x,y,rfl⟩
  have b0:f0 < 8:=hfs 0 (by decide)
  have b1:f1 < 5:=hfs 1 (by decide)
  have hlf:H8 lf = some (.lst [.int (f0:Nat),.int (f1:Nat)]):=hlf
  refine ⟨t,_,rfl,SqT.of ht,rfl,_,_,rfl,_,_,rfl,rfl,?_⟩
  have s28:=s7.trans s8
  have s08:=s2.trans s28
  have g:=s28 _ _ g
  have hx:=Paired.imp' (fun _ _ z=>z.same s28) hx
  have hka8:=s08 _ _ hka
  clear s7 s8 nlf ht s28 lfs hfs s2
  dsimp only [zO]
  have fin:∀ {H3:Hp} {x:V} {it:yo} {v3 v4 v5 v6 v7 v8:Option V},zl H8 H3->zdF it->zu K (fun b=>b ≠ r) H3 3 x (yu it)->∃ (v3' v4' v5' v6' v7' v8':Option V) (xs':List V) (its':List yo),[some (V.ref ca),some (.ref ka),some (.ref r),v3,v4,v5,v6,v7,v8] = [some (V.ref ca),some (.ref ka),some (.ref r),v3',v4',v5',v6',v7',v8']/\zl H (upd H3 r (.lst (xs ++ [x])))/\upd H3 r (.lst (xs ++ [x])) r = some (.lst xs')/\Paired (zu K (fun b=>b ≠ r) (upd H3 r (.lst (xs ++ [x]))) 3) xs' (its'.map yu)/\its'.length = i + 1/\∀ it ∈ its',zdF it:=by
   intro H3 x it v3 v4 v5 v6 v7 v8 s3 hsm hsx
   refine ⟨_,_,_,_,_,_,xs ++ [x],its ++ [it],rfl,zU (s08.trans s3) hrn _,za,?_,by rw [List.length_append,li]; rfl,fun y hy=>?_⟩
   ·rw [List.map_append]
    exact yk (Paired.imp' (fun _ _ z=>xW (.inr ⟨_,s3 _ _ g⟩) (fun b hb _=>⟨hb,hb⟩) (z.same s3)) hx) (.cons (xW (.inr ⟨_,s3 _ _ g⟩) (fun b hb _=>⟨hb,hb⟩) hsx) .nil)
   ·rcases List.mem_append.mp hy with h | h
    ·exact si y h
    ·rw [List.mem_singleton.mp h]; exact hsm
  refine ⟨_,zd (zP (zn ua (zF zI (pv 4) zh (fun _ _=>rfl)) zh (zD _))
    (zd (zB (yv PySem.F.plainAttrs_list PySem.F.slot_list_append PySem.F.type_list_append zG (pv 2) (ac (zN (ac zr (ac (cF cT hr1 (ac (pv 5) zb)) zb))) zb))))
    (zd (zP (zn yE (zF zI (pv 4) zh (fun _ _=>rfl)) zh (zD _))
     (zd (zB (yv PySem.F.plainAttrs_list PySem.F.slot_list_append PySem.F.type_list_append zG (pv 2) (ac (zN (ac zr (ac (xL ["_law_rest"] ["_law_k","_law_rest"] [none,some 5] rfl ⟨rfl,rfl,rfl,rfl⟩ (wO rfl hrg (ac (zF zI (pv 4) zh (fun _ _=>rfl)) zb)) (z9 0) rfl rfl rfl
      (fun pins fp s H C=>⟨zk (i:=0) ndK rfl (Or.inl rfl) (.inr rfl),yI,cF cT hr1 (ac (zy xC (pv 1) (zy xR (pv 0) (pv 0))) zb)⟩)) zb))) zb))))
     (zd (zP (zn ua (zF zI (pv 4) zh (fun _ _=>rfl)) zh (zD _))
      (zi (wb (cF cN hr (ac (pv 5) (ac (pv 1) zb))) (yA rfl (zo (zk (i:=7) yT.nd rfl (Or.inl rfl)) (zo (zk (i:=5) yT.nd rfl (Or.inr rfl)) yh))))
      (zd (zB (yv PySem.F.plainAttrs_list PySem.F.slot_list_append PySem.F.type_list_append zG (pv 2) (ac (zN (ac zr (ac (pv 7) (ac (cF cT hr1 (ac (pv 5) zb)) zb)))) zb)))))
      (zi (zt (i:=8) yT.nd rfl (Or.inl rfl) (zY zb))
      (zi (yz PassesOwn.never rfl (wO rfl hrg (ac (zy xA (zF zI (pv 4) zh (fun _ _=>rfl)) zh) zb)) (zk (i:=6) yT.nd rfl (Or.inl rfl))
       (zi (wb (cF cN hr (ac (pv 5) (ac (pv 1) zb))) (yA rfl (zo (zk (i:=7) yT.nd rfl (Or.inl rfl)) (zo (zk (i:=5) yT.nd rfl (Or.inr rfl)) yh))))
       (zd (zB (yv PySem.F.plainAttrs_list PySem.F.slot_list_append PySem.F.type_list_append zG (pv 8) (ac (zN (ac (pv 7) (ac (cF cT hr1 (ac (zy xC (pv 5) (pv 6)) zb)) zb))) zb))))))
      (zd (zB (yv PySem.F.plainAttrs_list PySem.F.slot_list_append PySem.F.type_list_append zG (pv 2) (ac (zN (ac zr (ac (pv 8) zb))) zb))))))))))),?_⟩
  refine ⟨_,rfl,lf,_,0,.int (f0:Nat),rfl,rfl,SqL.of hlf,rfl,_,_,rfl,rfl,_,rfl,?_⟩
  refine vW (fun _=>?_) (fun c1=>?_)
  ·refine ⟨_,rfl,.inl ⟨rfl,_,SqL.of g⟩,_,rfl,rest,rfl,zz2,fun tp htp=>?_⟩
   have st:=zc htp (.tup [.str "one",.int (xw rest)])
   refine ⟨r,_,_,rfl,rfl,st _ _ g,zx (by omega),?_⟩
   exact fin (it:=.one (xw rest)) st ⟨by show 1<=4; decide,by show 0<=4; decide,fun _ h=>nomatch h⟩ (.tup (SqT.of za) (.cons .str (.cons .int .nil)))
  refine ⟨_,rfl,lf,_,0,.int (f0:Nat),rfl,rfl,SqL.of hlf,rfl,rfl,_,rfl,?_⟩
  refine vW (fun _=>?_) (fun c2=>?_)
  ·refine ⟨_,rfl,.inl ⟨rfl,_,SqL.of g⟩,_,rfl,lf,_,1,.int (f1:Nat),rfl,rfl,SqL.of hlf,rfl,(f1:Nat),rfl,by omega,by omega,fun D hD=>?_⟩
   have ef:((f1:Nat):Int).toNat = f1:=Int.toNat_natCast f1
   rw [ef]
   refine uZ (n:=f1) (fun j ys H'=>zl H8 H'/\H' D = some (.lst ys)/\ys = ((List.range j).map fun (k:Nat)=>xw (rest + (k:Int) * (k:Int))).map V.int) ⟨zc hD _,za,rfl⟩ ?_ ?_
   ·rintro j ys H' hj ⟨sH,hDy,ey⟩
    have e0:(0:Int) + (j:Int) = (j:Nat):=by omega
    rw [e0]
    refine ⟨fun _=>⟨_,rfl,_,rfl,_,rfl,_,_,rfl,rfl,.inl ⟨by omega,by omega⟩,_,_,rfl,rfl,_,rfl,lcN.mk hj (ym (by omega)) hDy (by rw [ey,List.length_map,List.length_map,List.length_range]; exact Nat.le_refl _) ⟨zU sH hD _,za,?_⟩⟩,fun z=>absurd z (by decide)⟩
    rw [ey,List.range_succ,List.map_append,List.map_append]
    rfl
   rintro ys H3 ⟨s3,hDy,ey⟩
   refine ⟨zz2,fun tp htp=>?_⟩
   have st:=zc htp (.tup [.str "row",.ref D])
   refine ⟨r,_,_,rfl,rfl,(s3.trans st) _ _ g,zx (by omega),?_⟩
   have hD3:=st _ _ hDy
   rw [ey] at hD3
   exact fin (it:=.row ((List.range f1).map fun (k:Nat)=>xw (rest + (k:Int) * (k:Int)))) (s3.trans st) ⟨by show ((List.range f1).map _).length<=4; rw [List.length_map,List.length_range]; omega,by show 0<=4; decide,fun _ h=>nomatch h⟩ (.tup (SqT.of za) (.cons .str (.cons (.lst (ze g hD).symm hD3 (jR _)) .nil)))
  refine ⟨_,rfl,lf,_,0,.int (f0:Nat),rfl,rfl,SqL.of hlf,rfl,_,_,rfl,rfl,_,rfl,?_⟩
  refine vW (fun _=>?_) (fun c3=>?_)
  ·refine ⟨_,rfl,_,rfl,rest,ka,zs,rfl,hka8,hz1,l5,fun tn z rest' H9 s9 htn hz=>?_⟩
   refine ⟨tn,_,rfl,SqT.of htn,rfl,_,_,rfl,_,_,rfl,rfl,?_⟩
   dsimp only [zO]
   refine ⟨_,rfl,.inl ⟨rfl,_,SqL.of (s9 _ _ g)⟩,_,rfl,_,rfl,rest',rfl,zz3,fun tp htp=>?_⟩
   have st:=zc htp (.tup [.str "named",.str z,.int (xw rest')])
   refine ⟨r,_,_,rfl,rfl,(s9.trans st) _ _ g,zx (by omega),?_⟩
   exact fin (it:=.named z (xw rest')) (s9.trans st) ⟨by show 0<=4; decide,by show 1<=4; decide,fun p hp=>by rw [List.mem_singleton.mp hp]; exact hz⟩ (.tup (SqT.of za) (.cons .str (.cons .str (.cons .int .nil))))
  refine ⟨zz0,fun lp hlp=>?_⟩
  have sp:=zc hlp (.lst [])
  have gp:upd H8 lp (.lst []) lp = some (.lst []):=za
  dsimp only [zO]
  generalize upd H8 lp (.lst []) = Hp0 at sp gp |-
  have m0 : 0<=((f1:Nat):Int) % 4:=Int.emod_nonneg _ (by decide)
  have m1:((f1:Nat):Int) % 4 < 4:=Int.emod_lt_of_pos _ (by decide)
  refine ⟨_,rfl,lf,_,1,.int (f1:Nat),rfl,rfl,SqL.of (sp _ _ hlf),rfl,_,_,rfl,rfl,(by show (0:Int) < 4; decide),((f1:Nat):Int) % 4,rfl,by omega,by omega,?_⟩
  obtain ⟨kk,hkk⟩:∃ kk:Nat,(((f1:Nat):Int) % 4).toNat = kk:=⟨_,rfl⟩
  rw [hkk]
  have k4:kk<=4:=by omega
  refine jV (n:=kk) (fun j σ H'=>∃ (rest:Int) (v6 v7:Option V) (ys:List V) (ps:List (Str × Int)),σ = [some (.ref ca),some (.ref ka),some (.ref r),some (.int n),some (.ref lf),some (.int rest),v6,v7,some (.ref lp)]/\zl H8 H'/\H' lp = some (.lst ys)/\Paired (zu K T' H' 1) ys (ps.map yG)/\ps.length = j/\∀ p ∈ ps,yx p.1 = true) ⟨rest,_,_,[],[],rfl,sp,gp,.nil,rfl,fun _ h=>nomatch h⟩ ?_ ?_
  ·rintro j σ H' hj ⟨rest,v6,v7,ys,ps,rfl,sH,hy,hp,lps,np⟩
   have e0:(0:Int) + (j:Int) = (j:Nat):=by omega
   rw [e0]
   dsimp only [zO]
   have lys:ys.length = j:=by rw [hp.length,List.length_map,lps]
   refine ⟨_,rfl,_,rfl,rest,ka,zs,rfl,sH _ _ hka8,hz1,l5,fun tn z rest' H9 s9 htn hz=>?_⟩
   refine ⟨tn,_,rfl,SqT.of htn,rfl,_,_,rfl,_,_,rfl,rfl,?_⟩
   dsimp only [zO]
   refine ⟨_,rfl,.inl ⟨rfl,_,SqL.of (s9 _ _ hy)⟩,_,rfl,_,rfl,_,rfl,_,_,rfl,rfl,_,rfl,zz2,fun tp htp=>?_⟩
   have st:=zc htp (.tup [.str z,.int (xw (rest' + (j:Nat)))])
   have hy':=(s9.trans st) _ _ hy
   refine ⟨lp,_,_,rfl,rfl,hy',zx (by omega),?_⟩
   refine ⟨rest',_,_,_,ps ++ [(z,xw (rest' + (j:Nat)))],rfl,zU (sH.trans (s9.trans st)) hlp _,za,?_,by rw [List.length_append,lps]; rfl,fun p hpp=>?_⟩
   ·rw [List.map_append]
    exact yk (yZ (.inr ⟨_,hy'⟩) (vd (s9.trans st) hp)) (.cons (.tup (xs:=[.str z,.int (xw (rest' + (j:Nat)))]) (SqT.of (by rw [zf (fun e=>by subst e; rw [s9 _ _ hy] at htp; cases htp)]; exact za)) (.cons .str (.cons .int .nil))) .nil)
   ·rcases List.mem_append.mp hpp with h | h
    ·exact np p h
    ·rw [List.mem_singleton.mp h]; exact hz
  rintro σ H4 ⟨rest,v6,v7,ys,ps,rfl,sH,hy,hp,lps,np⟩
  refine ⟨_,rfl,.inl ⟨rfl,_,SqL.of (sH _ _ g)⟩,_,rfl,zz2,fun tp htp=>?_⟩
  have st:=zc htp (.tup [.str "book",.ref lp])
  refine ⟨r,_,_,rfl,rfl,(sH.trans st) _ _ g,zx (by omega),?_⟩
  exact fin (it:=.book ps) (sH.trans st) ⟨by show 0<=4; decide,by show ps.length<=4; omega,np⟩ (.tup (SqT.of za) (.cons .str (.cons (.lst (ze g hlp).symm (st _ _ hy) (zam (vd st hp))) .nil)))
 ·rintro σ H2 ⟨v3,v4,v5,v6,v7,v8,xs,its,rfl,s2,g,hx,li,si⟩
  rw [List.length_map] at li
  exact ⟨_,zd (zq (pv 2)),_,rfl,q r xs its H2 s2 hrn g (Paired.imp' (fun _ _ z=>zfx (fun _ _ _=>True.intro) z) hx) li si⟩
theorem zjZ:([Str.ofString "_law_k",Str.ofString "_law_cells"]:List Str).Nodup:=by decide +kernel
end
def um (rows:List Rw) (bars:List Str) (w:Nat) (ys:List Str):Nat:=ys.countP fun z=>(ya rows bars w z).isSome
def xF (w:Nat) (names:List Str) (i:Nat) (r:Rw):Bool:=yl names r && !(y7 r.k && decide (i < w))
def xE (w:Nat) (names:List Str):Nat->List Rw->Nat
 | _,[]=>0
 | i,r :: rs=>(if xF w names i r = true then 1 else 0) + xE w names (i + 1) rs
def zaX (names ys:List Str):Prop:=ys.Nodup/\∀ z,z ∈ ys ↔ z ∈ names
def Vw (rows:List Rw) (w:Nat):Prop:=(zE 2 0 rows).isSome = true\/w<=plN rows
theorem zaE {w:Nat} {names:List Str}:∀ (rows:List Rw) (i:Nat),(yL w (kvP (fpZ names)) i rows).length = xE w names i rows
 | [],_=>rfl
 | r :: rs,i=>by
  show ((if z6 r i w (kvP (fpZ names)) = true then [(("lacking" : Str),i)] else []) ++ yL w (kvP (fpZ names)) (i + 1) rs).length = _
  rw [List.length_append,zaE rs (i + 1),xP]
  show _ = (if (yl names r && !(y7 r.k && decide (i < w))) = true then 1 else 0) + xE w names (i + 1) rs
  split <;> rfl
theorem zb0 {rows:List Rw} {bars:List Str} {w:Nat}:∀ (fp:List (Str × Nat)),(wt rows bars w fp).length = um rows bars w (fp.map (·.1))
 | []=>rfl
 | p :: fp=>by
  have ih:=zb0 (rows:=rows) (bars:=bars) (w:=w) fp
  unfold wt um at ih |-
  rw [List.filterMap_cons,List.map_cons,List.countP_cons]
  cases e:ya rows bars w p.1 with
  | none=>simp only [Option.map_none,e,Option.isSome_none]; rw [ih]; simp
  | some x=>simp only [Option.map_some,e,Option.isSome_some,List.length_cons]; rw [ih]; simp
theorem zaX.perm {names ys ys':List Str} (h:zaX names ys) (h':zaX names ys'):ys.Perm ys':=(List.perm_ext_iff_of_nodup h.1 h'.1).mpr fun z=>(h.2 z).trans (h'.2 z).symm
theorem uy (names:List Str):zaX names ((fpZ names).map (·.1)):=⟨(vX names).2.1,fun z=>ux⟩
theorem wj {rows:List Rw} {bars names ys:List Str} {w:Nat} (hd:zaX names ys) (tl:Vw rows w):(zV rows bars w names).length + ys.length = names.length + um rows bars w ys + xE w names 0 rows:=by
 have hp:=hd.perm (uy names)
 have h1:=(vX names).1.length_eq
 rw [List.length_append,List.length_map] at h1
 have h2:wp rows w = []:=xY.mpr tl
 have h3:um rows bars w ys = um rows bars w ((fpZ names).map (·.1)):=hp.countP_eq _
 unfold zV
 rw [h2,List.append_nil,List.length_append,List.length_append,zb0,zaE,h3,hp.length_eq]
 omega
theorem u9 {w:Nat} {names names':List Str} (h:∀ z,z ∈ names ↔ z ∈ names'):∀ (rows:List Rw) (i:Nat),xE w names i rows = xE w names' i rows
 | [],_=>rfl
 | r :: rs,i=>by
  unfold xE
  rw [u9 h rs (i + 1)]
  have:xF w names i r = xF w names' i r:=by
   unfold xF yl yp
   rw [decide_eq_decide.mpr (h r.z)]
  rw [this]
theorem zaF {w:Nat} {names:List Str} {z:Str}:∀ (rows:List Rw) (i:Nat),(nms rows).Nodup->xE w (names ++ [z]) i rows<=xE w names i rows/\xE w names i rows<=xE w (names ++ [z]) i rows + (if z ∈ nms rows then 1 else 0)
 | [],_,_=>⟨Nat.le_refl _,Nat.zero_le _⟩
 | r :: rs,i,nd=>by
  have en:nms (r :: rs) = (if z3 r.k = true then [r.z] else []) ++ nms rs:=by
   rw [show r :: rs = [r] ++ rs from rfl,xM,vC]
  rw [en] at nd |-
  have nd2:=List.nodup_append.mp nd
  obtain ⟨a,b⟩:=zaF (w:=w) (names:=names) (z:=z) rs (i + 1) nd2.2.1
  unfold xE
  by_cases hb:z3 r.k = true
  ·rw [if_pos hb] at nd2 |-
   by_cases hz:r.z = z
   ·have nz:z ∉ nms rs:=fun c=>nd2.2.2 r.z (List.mem_singleton.mpr rfl) z c hz
    rw [if_neg nz] at b
    rw [if_pos (List.mem_append_left _ (List.mem_singleton.mpr hz.symm))]
    have e:xF w (names ++ [z]) i r = false:=by
     unfold xF yl yp
     rw [hb,decide_eq_true (show r.z ∈ names ++ [z] by rw [hz]; exact List.mem_append_right _ (List.mem_singleton.mpr rfl))]
     cases fr r.k r.b <;> rfl
    rw [e]
    refine ⟨?_,?_⟩
    ·rw [if_neg Bool.false_ne_true]; omega
    ·rw [if_neg Bool.false_ne_true]; split <;> omega
   ·have e:xF w (names ++ [z]) i r = xF w names i r:=by
     unfold xF yl yp
     rw [decide_eq_decide.mpr (show r.z ∈ names ++ [z] ↔ r.z ∈ names by rw [List.mem_append,List.mem_singleton]; exact ⟨fun h=>h.elim id (fun c=>absurd c hz),.inl⟩)]
    have e2:(if z ∈ [r.z] ++ nms rs then 1 else 0) = (if z ∈ nms rs then 1 else 0):=by
     have:z ∈ [r.z] ++ nms rs ↔ z ∈ nms rs:=by rw [List.mem_append,List.mem_singleton]; exact ⟨fun h=>h.elim (fun c=>absurd c.symm hz) id,.inr⟩
     simp only [this]
    rw [e,e2]
    omega
  ·rw [if_neg hb,List.nil_append]
   have e:xF w (names ++ [z]) i r = xF w names i r:=by
    unfold xF yl yp
    rw [Bool.eq_false_iff.mpr hb]
    rfl
   rw [e]
   omega
theorem jK {rows:List Rw} {bars names names':List Str} {w:Nat} (hp:names.Perm names') (tl:Vw rows w):(zV rows bars w names).length = (zV rows bars w names').length:=by
 have d:=uy names
 have d':zaX names' ((fpZ names).map (·.1)):=⟨d.1,fun z=>(d.2 z).trans hp.mem_iff⟩
 have h1:=wj (bars:=bars) d tl
 have h2:=wj (bars:=bars) d' tl
 rw [u9 (fun z=>hp.mem_iff) rows 0,hp.length_eq] at h1
 omega
theorem zcq {rows:List Rw} {bars names:List Str} {w:Nat} {z:Str} (nd:(nms rows).Nodup) (tl:Vw rows w):(zV rows bars w (names ++ [z])).length<=(zV rows bars w names).length + 1/\(zV rows bars w names).length<=(zV rows bars w (names ++ [z])).length + 1:=by
 have d:=uy names
 have h1:=wj (bars:=bars) d tl
 by_cases hz:z ∈ names
 ·have m:∀ y,y ∈ names ++ [z] ↔ y ∈ names:=fun y=>by
   rw [List.mem_append,List.mem_singleton]
   exact ⟨fun h=>h.elim id (fun e=>by rw [e]; exact hz),.inl⟩
  have d':zaX (names ++ [z]) ((fpZ names).map (·.1)):=⟨d.1,fun y=>(d.2 y).trans (m y).symm⟩
  have h2:=wj (bars:=bars) d' tl
  rw [u9 m rows 0,List.length_append,List.length_singleton] at h2
  omega
 ·have d':zaX (names ++ [z]) ((fpZ names).map (·.1) ++ [z]):=⟨List.nodup_append.mpr ⟨d.1,List.nodup_cons.mpr ⟨List.not_mem_nil,List.nodup_nil⟩,fun a ha b hb e=>hz ((d.2 z).mp (by rw [<- List.mem_singleton.mp hb,<- e]; exact ha))⟩,fun y=>by rw [List.mem_append,List.mem_append,d.2 y]⟩
  have h2:=wj (bars:=bars) d' tl
  obtain ⟨a,b⟩:=zaF (w:=w) (names:=names) (z:=z) rows 0 nd
  have hb:um rows bars w ((fpZ names).map (·.1) ++ [z]) = um rows bars w ((fpZ names).map (·.1)) + um rows bars w [z]:=List.countP_append
  have hb1:um rows bars w [z]<=1:=List.countP_le_length
  rw [List.length_append,List.length_append,List.length_singleton,hb] at h2
  have:(if z ∈ nms rows then 1 else 0)<=1:=by split <;> omega
  omega
theorem zeH {rows:List Rw} {bars names:List Str} {w i:Nat} {z:Str} (nd:(nms rows).Nodup) (tl:Vw rows w) (hi:names[i]? = some z):(zV rows bars w (names.eraseIdx i)).length<=(zV rows bars w names).length + 1/\(zV rows bars w names).length<=(zV rows bars w (names.eraseIdx i)).length + 1:=by
 obtain ⟨hl,e⟩:=List.getElem?_eq_some_iff.mp hi
 have hp:(names.eraseIdx i ++ [z]).Perm names:=(List.perm_append_singleton z _).trans (by rw [<- e]; exact L2.wY names i hl)
 have h:=zcq (rows:=rows) (bars:=bars) (names:=names.eraseIdx i) (w:=w) (z:=z) nd tl
 rw [jK hp tl] at h
 exact ⟨h.2,h.1⟩
def LB (rows:List Rw) (bars:List Str) (many:Nat) (names:List Str) (n:Nat):Prop:=∀ w,yJ rows<=w->Vw rows w->n<=(mtF rows bars w many names).length
theorem wg {rows:List Rw} {bars names:List Str} {w many:Nat}:(mtF rows bars w many names).length = (many - w) + (w - many) + (zV rows bars w names).length:=by
 unfold mtF
 rw [List.length_append,List.length_append,List.length_replicate,List.length_replicate,List.length_map]
section
variable {rows:List Rw} {bars names:List Str} {many n:Nat} {z:Str}
theorem LB.less (h:LB rows bars many names n):LB rows bars (many - 1) names (n - 1):=fun w h1 h2=>by
 have:=h w h1 h2
 rw [wg] at this |-
 omega
theorem LB.more (h:LB rows bars many names n):LB rows bars (many + 1) names (n - 1):=fun w h1 h2=>by
 have:=h w h1 h2
 rw [wg] at this |-
 omega
theorem LB.in_ (h:LB rows bars many names n) (nd:(nms rows).Nodup):LB rows bars many (names ++ [z]) (n - 1):=fun w h1 h2=>by
 have:=h w h1 h2
 have m:=(zcq (bars:=bars) (names:=names) (z:=z) nd h2).2
 rw [wg] at this |-
 omega
theorem LB.out {i:Nat} (h:LB rows bars many names n) (nd:(nms rows).Nodup) (hi:names[i]? = some z):LB rows bars many (names.eraseIdx i) (n - 1):=fun w h1 h2=>by
 have:=h w h1 h2
 have m:=(zeH (bars:=bars) nd h2 hi).2
 rw [wg] at this |-
 omega
theorem LB.miss (V1:x0 rows bars) (h:LB rows bars many names n) (h0 : 0 < n):¬ zV rows bars many names = []:=fun e=>by
 obtain ⟨h1,_,h3⟩:=zcp V1 e
 have:=h many h1 (zi6.mp e).2.1
 rw [h3] at this
 have:n<=0:=this
 omega
theorem zeI {w w':Nat} (V1:x0 rows bars) (tl:(zE 2 0 rows).isSome = true) (h:plN rows<=w) (h':plN rows<=w'):(zV rows bars w names).length = (zV rows bars w' names).length:=by
 have d:=uy names
 have h1:=wj (bars:=bars) (w:=w) d (.inl tl)
 have h2:=wj (bars:=bars) (w:=w') d (.inl tl)
 have e1:um rows bars w ((fpZ names).map (·.1)) = um rows bars w' ((fpZ names).map (·.1)):=by
  unfold um
  refine List.countP_congr fun z _=>?_
  have:ya rows bars w z = ya rows bars w' z:=by
   unfold ya
   split
   ·rfl
   ·cases ya.lastD' z rows with
    | none=>rfl
    | some l=>
     dsimp only
     have:(l < plN rows/\l < w) ↔ (l < plN rows/\l < w'):=by omega
     simp only [this]
  rw [this]
 have e2:∀ (rs:List Rw) (i:Nat),(∀ j r,rs[j]? = some r->y7 r.k = true->i + j < plN rows)->xE w names i rs = xE w' names i rs:=by
  intro rs
  induction rs with
  | nil=>intro i _; rfl
  | cons r rs ih=>
   intro i hh
   unfold xE
   rw [ih (i + 1) fun j r' hj hb=>by have:=hh (j + 1) r' (by simpa using hj) hb; omega]
   have:xF w names i r = xF w' names i r:=by
    unfold xF
    cases hb:y7 r.k with
    | false=>rfl
    | true=>
     have:=hh 0 r rfl hb
     rw [decide_eq_true (show i < w by omega),decide_eq_true (show i < w' by omega)]
   rw [this]
 rw [e1] at h1
 rw [e2 rows 0 fun j r hj hb=>by have:=v0 V1.ok V1.ord hj; rw [hb] at this; have:=of_decide_eq_true this.symm; omega] at h1
 omega
theorem qO.lb {w:Nat} (V1:x0 rows bars) (h:qO rows bars many names w):LB rows bars many names (mtF rows bars w many names).length:=fun w' h1 h2=>by
 by_cases c:w'<=z4 rows many
 ·exact h.2.2 w' h1 c
 rcases h2 with tl | h2
 ·have em:z4 rows many = max (plN rows) many:=by unfold z4; rw [if_pos tl]
  have hf:yJ rows<=plN rows:=jh _ rows _
  have:=h.2.2 (z4 rows many) (by rw [em]; omega) (Nat.le_refl _)
  have e:=zeI (names:=names) V1 tl (w:=z4 rows many) (w':=w') (by rw [em]; omega) (by rw [em] at c; omega)
  rw [wg (w:=z4 rows many)] at this
  rw [wg (w:=w')]
  rw [e] at this
  rw [em] at this c
  omega
 ·exfalso
  unfold z4 at c
  split at c <;> omega
theorem qO.vw {w:Nat} (h:qO rows bars many names w) (hm:many<=200):yJ rows<=w/\Vw rows w/\w<=plN rows + many:=by
 refine ⟨h.1,?_,?_⟩
 ·have:=h.2.1
  unfold z4 at this
  unfold Vw
  split at this
  ·exact .inl (by assumption)
  ·exact .inr this
 ·have:=h.2.1
  unfold z4 at this
  split at this <;> omega
end
end K34
namespace L2
open PySem PySem.Spec PyProof.Rows
end L2
namespace K34
open PySem L2 PyProof.Rows
section
variable {P:Program} {w:World} {K:Frag} {mg:Str->Option Value} {base:Heap} {f CF:Addr} {fd:FuncData} {c:C5} {m:MA}
end
end K34
namespace L2
open PySem PySem.Spec PyProof.Rows
end L2
namespace K34
open PySem L2 PyProof.Rows
section
variable {P:Program} {w:World} {K:Frag} {mg:Str->Option Value} {base:Heap} {f CF:Addr} {fd:FuncData} {c:C5} {m:MA}
end
section
variable {P:Program} {w:World} {K:Frag} {mg:Str->Option Value} {base:Heap} {f C:Addr} {fd:FuncData} {H H':Hp} {p l l1 l2:Addr} {o:HO} {ys:List V} {ts:List Int} {ps:List (Str × Int)}
def plain (ts:List Int) (ps:List (Str × Int)):List yo:=ts.map .one ++ ps.map fun p=>.named p.1 p.2
def zh7 (p:Str × Int):yo:=.named p.1 p.2
def zhe (K:Frag):Sp:=fun vs H Q _=>∃ (a b:Addr) (ts:List Int) (ps:List (Str × Int)) (ys:List V),vs = [.ref a,.ref b]/\SqL K H a (ts.map V.int)/\SqL K H b ys/\Paired (zu K T' H 1) ys (ps.map yG)/\ts.length<=400/\ps.length<=400/\
 ∀ (r:Addr) (xs:List V) (H':Hp),zl H H'->H r = none->H' r = some (.lst xs)->Paired (zu K T' H' 1) xs ((plain ts ps).map yu)->Q (.ref r) H'
theorem ndT:([Str.ofString "thing"]:List Str).Nodup:=by decide +kernel
theorem ndN:([Str.ofString "name",Str.ofString "thing"]:List Str).Nodup:=by decide +kernel
theorem xy {K:Frag} {ok:Addr->Prop} {H3:Hp} {o:HO} {l:Addr} (hl:H3 l = none\/(∃ zs,H3 l = some (.lst zs))):∀ {xs:List V} {c:List yo},(∀ it ∈ c,∃ ds,yu it = .tup ds)->Paired (zu K ok H3 1) xs (c.map yu)->Paired (zu K ok (upd H3 l o) 1) xs (c.map yu)
 | _,[],_,r=>by cases r; exact .nil
 | _,it :: c,hc,r=>by
  cases r with
  | cons h r=>
   refine .cons ?_ (xy hl (fun j hj=>hc j (List.mem_cons_of_mem _ hj)) r)
   obtain ⟨ds,e⟩:=hc it (by simp)
   rw [e] at h |-
   obtain ⟨b,ws,rfl,hS',r'⟩:=yU h
   exact .tup (uC hl hS') (Paired.imp' (fun _ _ z=>z) r')
theorem vD (it:yo):∃ ds,yu it = .tup ds:=by cases it <;> exact ⟨_,rfl⟩
theorem jd {K:Frag} {ok:Addr->Prop} {n:Nat} {H H':Hp} {zs:List V} {c:List yo} (s:zl H H') (r:Paired (zu K ok H n) zs (c.map yu)):Paired (zu K ok H' n) zs (c.map yu):=Paired.imp' (fun _ _ z=>z.same s) r
theorem jB {α : Type} {l:List α} {i:Nat} {x : α} (h:l[i]? = some x):l.take (i + 1) = l.take i ++ [x]:=by
 rw [List.take_add_one,h]; rfl
theorem zjA:zm ["things","pairs"] ["things","pairs"] (zg sOf):=⟨rfl,rfl,rfl,by decide +kernel,rfl,by decide +kernel,by decide +kernel⟩
theorem zi0 (F:Fun K "call_of" "call_of" sOf f fd):zp P w K mg base CX0 1 f fd ["things","pairs"] (zhe K):=by
 refine F.ok zjA (fun vs H Q E h=>?_) (fun cdv A outer s H vs Q E hr h=>?_)
 ·obtain ⟨a,b,ts,ps,ys,rfl,_⟩:=h
  rfl
 obtain ⟨a,b,ts,ps,ys,rfl,ha,hb,hp,lt,lp,q⟩:=h
 refine ⟨_,zd (zq (zy xB (xL [] ["thing"] [none] rfl ⟨rfl,rfl,rfl,rfl⟩ (zZ (pv 0)) (z9 0) rfl rfl rfl
   (fun pins fp s H C=>⟨zk (i:=0) ndT rfl (Or.inl rfl) (.inr rfl),yI,zN (ac zr (ac (pv 0) zb))⟩))
  (xL [] ["name","thing"] [none,none] rfl ⟨rfl,rfl,rfl,rfl⟩ (zZ (pv 1)) (wQ (K:=K) (n:=2) 0 1) rfl rfl rfl
   (fun pins fp s H C=>⟨yA rfl (zo (zk (i:=0) ndN rfl (Or.inl rfl) (.inr rfl)) (zo (zk (i:=1) ndN rfl (Or.inl rfl) (.inr rfl)) yh)),yI,zN (ac zr (ac (pv 0) (ac (pv 1) zb)))⟩)))),?_⟩
 refine ⟨_,rfl,a,rfl,⟨_,ha⟩,fun D hD=>?_⟩
 refine xt (K:=K) (xs:=ts.map V.int) (fun i zs H'=>zl H H'/\H' D = some (.lst zs)/\Paired (zu K T' H' 1) zs (((ts.take i).map yo.one).map yu)) ⟨zc hD _,za,.nil⟩ (fun i zs H' h=>h.1.seq ha) ?_ ?_
 ·rintro i x zs H' hi hx ⟨sH,hDz,hz⟩
  obtain ⟨t,ht,rfl⟩:=vF hx
  rw [List.length_map] at hi |-
  have lz:zs.length = i:=by rw [hz.length]; simp; omega
  refine ⟨fun _=>⟨_,rfl,zz2,fun p hpn=>?_⟩,fun z=>absurd z (by decide)⟩
  have nD:=ze hDz hpn
  refine lcN.mk hi (ym (by omega)) (by rw [zf nD]; exact hDz) (by omega) ⟨zU (zU sH (sH.free hpn) _) hD _,za,?_⟩
  rw [jB ht,List.map_append,List.map_append]
  refine yk (xy (.inr ⟨_,by rw [zf nD]; exact hDz⟩) (fun it _=>vD it) (xy (.inl hpn) (fun it _=>vD it) hz)) (.cons (.tup (xs:=[.str "one",.int t]) (SqT.of ?_) (.cons .str (.cons .int .nil))) .nil)
  rw [zf nD.symm,za]
 rintro zs H1 ⟨s1,hDz,hz⟩
 rw [List.length_map,List.take_length] at hz
 have lzs:zs.length = ts.length:=by rw [hz.length]; simp
 refine ⟨_,rfl,b,rfl,⟨_,s1.seq hb⟩,fun D2 hD2=>?_⟩
 refine xt (K:=K) (xs:=ys) (fun i ws H'=>zl H1 H'/\H' D2 = some (.lst ws)/\Paired (zu K T' H' 1) ws (((ps.take i).map zh7).map yu)) ⟨zc hD2 _,za,.nil⟩ (fun i zs H' h=>(s1.trans h.1).seq hb) ?_ ?_
 ·rintro i x ws H' hi hx ⟨sH,hDw,hw⟩
  obtain ⟨d,hd,hx1⟩:=Paired.get hp hx
  obtain ⟨pr,hpr,rfl⟩:=uS hd
  obtain ⟨bb,rfl,hbb⟩:=vP (n:=0) hx1
  have hbb2:=(s1.trans sH).sqT hbb
  have lws:ws.length = i:=by
   rw [hw.length]
   have:i < ps.length:=by rw [hp.length,List.length_map] at hi; exact hi
   simp; omega
  refine ⟨bb,_,rfl,hbb2,rfl,_,_,rfl,_,_,rfl,rfl,⟨fun _=>⟨_,rfl,_,rfl,zz3,fun p hpn=>?_⟩,fun z=>absurd z (by decide)⟩⟩
  have nD:=ze hDw hpn
  have ly:ys.length = ps.length:=by rw [hp.length,List.length_map]
  refine lcN.mk hi (ym (by omega)) (by rw [zf nD]; exact hDw) (by omega) ⟨zU (zU sH (sH.free hpn) _) hD2 _,za,?_⟩
  rw [jB hpr,List.map_append,List.map_append]
  refine yk (xy (.inr ⟨_,by rw [zf nD]; exact hDw⟩) (fun it _=>vD it) (xy (.inl hpn) (fun it _=>vD it) hw)) (.cons (.tup (xs:=[.str "named",.str pr.1,.int pr.2]) (SqT.of ?_) (.cons .str (.cons .str (.cons .int .nil)))) .nil)
  rw [zf nD.symm,za]
 rintro ws H2 ⟨s2,hDw,hw⟩
 have ly:ys.length = ps.length:=by rw [hp.length,List.length_map]
 rw [ly,List.take_length] at hw
 have lws:ws.length = ps.length:=by rw [hw.length]; simp
 refine ⟨D,D2,_,_,rfl,rfl,s2 _ _ hDz,hDw,ym (by omega),fun r hrn=>?_⟩
 refine q r _ _ (s1.trans (s2.trans (zc hrn _))) (s1.free (s2.free hrn)) za ?_
 unfold plain
 rw [List.map_append]
 exact yk (jd (s2.trans (zc hrn _)) hz) (jd (zc hrn _) hw)
theorem yR (ts:List Int) (ps:List (Str × Int)):zw (plain ts ps) = ts:=by
 unfold zw plain
 rw [List.map_append,List.flatten_append,List.map_map,List.map_map]
 have h1:(ts.map (itT ∘ yo.one)).flatten = ts:=by
  induction ts with
  | nil=>rfl
  | cons t ts ih=>rw [List.map_cons,List.flatten_cons,ih]; rfl
 have h2:(ps.map (itT ∘ fun p=>yo.named p.1 p.2)).flatten = []:=by
  induction ps with
  | nil=>rfl
  | cons t ts ih=>rw [List.map_cons,List.flatten_cons,ih]; rfl
 rw [h1,h2,List.append_nil]
theorem wA (ts:List Int) (ps:List (Str × Int)):zM (plain ts ps) = ps:=by
 unfold zM plain
 rw [List.map_append,List.flatten_append,List.map_map,List.map_map]
 have h1:(ts.map (itP ∘ yo.one)).flatten = []:=by
  induction ts with
  | nil=>rfl
  | cons t ts ih=>rw [List.map_cons,List.flatten_cons,ih]; rfl
 have h2:(ps.map (itP ∘ fun p=>yo.named p.1 p.2)).flatten = ps:=by
  induction ps with
  | nil=>rfl
  | cons t ts ih=>rw [List.map_cons,List.flatten_cons,ih]; rfl
 rw [h1,h2,List.nil_append]
structure zfd (K:Frag) (H:Hp) (p l1 l2:Addr) (ys:List V) (ts:List Int) (ps:List (Str × Int)):Prop where
 hp:H p = some (.tup [.ref l1,.ref l2])
 h1:H l1 = some (.lst (ts.map V.int))
 h2:H l2 = some (.lst ys)
 hy:Paired (zu K T' H 1) ys (ps.map yG)
 ne:l1 ≠ l2
theorem zfd.of {H H':Hp} {p:Addr} {ts:List Int} {ps:List (Str × Int)} (h:Two K H H' p ts ps):∃ l1 l2 ys,H p = none/\H l1 = none/\H l2 = none/\zfd K H' p l1 l2 ys ts ps:=
 let ⟨l1,l2,xs,a1,a2,a3,a4,a5,a6,a7,a8⟩:=h
 ⟨l1,l2,xs,a4,a1,a2,a5,a6,a7,a8,a3⟩
inductive Chg where
 | less | more | out (n:Str) | inn (n:Str)
def zgz:Chg->List V
 | .less=>[.str "less"]
 | .more=>[.str "more"]
 | .out n=>[.str "out",.str n]
 | .inn n=>[.str "in",.str n]
def z5 (n:Str):List (Str × Int)->Option Nat
 | []=>none
 | p :: r=>match z5 n r with
  | some k=>some (k + 1)
  | none=>if p.1 = n then some 0 else none
theorem jM {n:Str}:∀ {ps:List (Str × Int)} {k:Nat},z5 n ps = some k->k < ps.length
 | [],_,h=>by cases h
 | p :: r,k,h=>by
  unfold z5 at h
  cases e:z5 n r with
  | some j=>
   rw [e] at h
   cases h
   have:=jM e
   simp; omega
  | none=>
   rw [e] at h
   dsimp only at h
   split at h
   ·cases h; simp
   ·cases h
theorem vR {n:Str}:∀ {ps:List (Str × Int)} {k:Nat},z5 n ps = some k->∃ q,ps[k]? = some q/\q.1 = n
 | [],_,h=>by cases h
 | p :: r,k,h=>by
  unfold z5 at h
  cases e:z5 n r with
  | some j=>
   rw [e] at h
   cases h
   obtain ⟨q,h1,h2⟩:=vR e
   exact ⟨q,by simpa using h1,h2⟩
  | none=>
   rw [e] at h
   dsimp only at h
   split at h
   ·rename_i z; cases h; exact ⟨p,by simp,z⟩
   ·cases h
theorem uc {n:Str}:∀ {ps:List (Str × Int)} {k:Nat} {p:Str × Int},ps[k]? = some p->p.1 = n->(∀ (j:Nat) (q:Str × Int),k < j->ps[j]? = some q->¬ q.1 = n)->z5 n ps = some k
 | [],k,p,h,_,_=>by simp at h
 | x :: r,0,p,h,e,ho=>by
  have hx:x = p:=by simpa using h
  subst hx
  have hr:z5 n r = none:=by
   cases q:z5 n r with
   | none=>rfl
   | some j=>
    obtain ⟨y,hy,ey⟩:=vR q
    exact absurd ey (ho (j + 1) y (by omega) (by simpa using hy))
  unfold z5
  rw [hr]
  simp [e]
 | x :: r,k + 1,p,h,e,ho=>by
  have:=uc (ps:=r) (k:=k) (p:=p) (by simpa using h) e fun j q hj hq=>ho (j + 1) q (by omega) (by simpa using hq)
  unfold z5
  rw [this]
theorem ud {n:Str}:∀ {ps:List (Str × Int)},(∀ (j:Nat) (q:Str × Int),ps[j]? = some q->¬ q.1 = n)->z5 n ps = none
 | [],_=>rfl
 | p :: r,h=>by
  have hr:=ud (ps:=r) fun j q e=>h (j + 1) q (by simpa using e)
  unfold z5
  rw [hr]
  have:=h 0 p (by simp)
  simp [this]
def yH (ts:List Int) (ps:List (Str × Int)):Chg->Option (List Int × List (Str × Int))
 | .less=>if ts = [] then none else some (ts.dropLast,ps)
 | .more=>some (ts ++ [0],ps)
 | .out n=>(z5 n ps).map fun k=>(ts,ps.eraseIdx k)
 | .inn n=>some (ts,ps ++ [(n,0)])
theorem qF (ts:List Int):(ts.map V.int).dropLast = ts.dropLast.map V.int:=by
 rw [List.map_dropLast]
theorem vA {α β : Type} {F : α->β->Prop}:∀ {a:List α} {b:List β} (k:Nat),Paired F a b->Paired F (a.eraseIdx k) (b.eraseIdx k)
 | _,_,_,.nil=>by simp; exact .nil
 | _,_,0,.cons r t=>t
 | _,_,k + 1,.cons r t=>.cons r (vA k t)
theorem wR {α β : Type} (f : α->β):∀ (l:List α) (k:Nat),(l.map f).eraseIdx k = (l.eraseIdx k).map f
 | [],_=>by simp
 | _ :: _,0=>rfl
 | x :: l,k + 1=>by
  show f x :: (l.map f).eraseIdx k = f x :: (l.eraseIdx k).map f
  rw [wR f l k]
theorem w1:¬ (V.str "more" = V.str "less"):=by decide +kernel
theorem w2:¬ (V.str "out" = V.str "less"):=by decide +kernel
theorem w3:¬ (V.str "in" = V.str "less"):=by decide +kernel
theorem w4:¬ (V.str "out" = V.str "more"):=by decide +kernel
theorem w5:¬ (V.str "in" = V.str "more"):=by decide +kernel
theorem w6:¬ (V.str "in" = V.str "out"):=by decide +kernel
theorem jp {ts ts':List Int} {ps ps':List (Str × Int)} {ch:Chg} (h:yH ts ps ch = some (ts',ps')):ts'.length<=ts.length + 1/\ps'.length<=ps.length + 1:=by
 cases ch with
 | less=>
  unfold yH at h
  by_cases e:ts = []
  ·rw [if_pos e] at h; cases h
  ·rw [if_neg e] at h
   cases h
   rw [List.length_dropLast]
   omega
 | more=>
  cases h
  rw [List.length_append]
  exact ⟨Nat.le_refl _,Nat.le_succ _⟩
 | out n=>
  have h':(z5 n ps).map (fun k=>(ts,ps.eraseIdx k)) = some (ts',ps'):=h
  cases e:z5 n ps with
  | none=>rw [e] at h'; cases h'
  | some k=>
   rw [e] at h'
   cases h'
   have:=List.length_eraseIdx_le ps k
   omega
 | inn n=>
  cases h
  rw [List.length_append]
  exact ⟨Nat.le_succ _,Nat.le_refl _⟩
end
abbrev EB:List Value:=[.type "ValueError",.type "Exception",.type "BaseException",.type "object"]
structure zkd (K:Frag) (mg:Str->Option Value) (base:Heap) (x:Str) (C:Addr):Prop where
 own:OwnCls x C EB "ValueError.__new__" mg base
 kp:keepIn K (.ref C) = true
 ex:zff K C
 xm:zfi K C = true
structure zio (K:Frag) (mg:Str->Option Value) (base:Heap) (C:Addr):Prop where
 pc:zkd K mg base "NoChange" C
 len:mg "len" = none
 range:mg "range" = none
 rev:mg "reversed" = none
theorem uK {H H2:Hp} {x:Addr} {o:HO} (s:zl H H2) (hx:H2 x = none):zl H (drop (upd H2 x o) x):=fun b u e=>by
 have nx:b ≠ x:=ze (s _ _ e) hx
 rw [wk nx,zf nx]
 exact s _ _ e
def za5 (K:Frag) (C:Addr):Sp:=fun vs H Q E=>∃ (a:Addr) (ps:List (Str × Int)) (ys:List V) (n:Str),vs = [.ref a,.str n]/\H a = some (.lst ys)/\Paired (zu K T' H 1) ys (ps.map yG)/\ps.length<=900/\
 match z5 n ps with
 | some k=>Q (.int k) H
 | none=>∀ od H',zl H H'->E (.ref C) od H'
def wJ (K:Frag) (C:Addr):Sp:=fun vs H Q E=>∃ (a cp:Addr) (c:List yo) (xs:List V) (ch:Chg),vs = [.ref a,.ref cp]/\SqL K H a xs/\Paired (zu K T' H 3) xs (c.map yu)/\(zw c).length<=300/\(zM c).length<=300/\SqT K H cp (zgz ch)/\
 match yH (zw c) (zM c) ch with
 | some (ts,ps)=>∀ (r:Addr) (xs:List V) (H':Hp),zl H H'->H r = none->H' r = some (.lst xs)->Paired (zu K T' H' 1) xs ((plain ts ps).map yu)->Q (.ref r) H'
 | none=>∀ od H',zl H H'->E (.ref C) od H'
section
variable {P:Program} {w:World} {K:Frag} {mg:Str->Option Value} {base:Heap} {f C:Addr} {fd:FuncData}
theorem zdJ:zm ["pairs","name","number"] ["pairs","name"] (zg zdU):=⟨rfl,rfl,rfl,by decide +kernel,rfl,by decide +kernel,by decide +kernel⟩
theorem zf2 (F:Fun K "last_number" "last_number" zdU f fd) (T:zio K mg base C):zp P w K mg base (CXs P w) 1 f fd ["pairs","name"] (za5 K C):=by
 refine F.okS zdJ (fun vs H Q E h=>?_) (fun cdv A outer s H vs Q E hr h=>?_)
 ·obtain ⟨a,ps,ys,n,rfl,_⟩:=h
  rfl
 obtain ⟨a,ps,ys,n,rfl,ha,hy,lp,q⟩:=h
 refine ⟨_,zi (PS.nox (yz PassesOwn.never rfl (zec rfl T.range rfl T.rev (ac (cB yi T.len PySem.boot_len (ac (pv 0) zb)) zb)) (zk (i:=2) zdJ.nd rfl (Or.inl rfl))
   (zd (zP (zn yE (zF yd (zF zI (pv 0) (pv 2) (fun _ _=>rfl)) zh (fun _ _=>rfl)) (pv 1) (zD _)) (zd (zq (pv 2))) zH))))
  (zd (jH uR rfl (zai T.pc.own T.pc.kp PySem.F.excBase_ValueError (by decide) PySem.F.excBase_ValueError (ac zr zb)))),?_⟩
 have ly:ys.length = ps.length:=by rw [hy.length,List.length_map]
 refine ⟨_,rfl,a,_,rfl,.inl (SqL.of ha),ys.length,rfl,(by omega),zcv (n:=ys.length) (fun i σ H2=>∃ v2,σ = [some (.ref a),some (.str n),v2]/\H2 = H/\∀ (j:Nat) (q:Str × Int),ys.length - i<=j->ps[j]? = some q->¬ q.1 = n)
  ⟨_,rfl,rfl,fun j q hj hq=>?_⟩ ?_ ?_⟩
 ·have:=(List.getElem?_eq_some_iff.mp hq).1
  omega
 ·rintro i σ H2 hi ⟨v2,rfl,rfl,ho⟩
  obtain ⟨k,hk⟩:∃ k:Nat,k = ys.length - 1 - i:=⟨_,rfl⟩
  have ek:((ys.length:Int) - 1 - (i:Int)) = (k:Int):=by omega
  have hky:k < ys.length:=by omega
  obtain ⟨d,hd,hx⟩:=Paired.get hy (List.getElem?_eq_getElem hky)
  obtain ⟨pr,hpr,rfl⟩:=uS hd
  obtain ⟨b,hb0,hb⟩:=vP (n:=0) hx
  rw [ek]
  refine ⟨_,rfl,_,rfl,a,_,_,.ref b,rfl,rfl,SqL.of ha,xQ (by rw [List.getElem?_eq_getElem hky,hb0]),b,_,_,.str pr.1,rfl,rfl,hb,rfl,_,rfl,rfl,_,rfl,?_⟩
  by_cases hn:pr.1 = n
  ·refine dT (by rw [hn]) ?_
   refine ⟨_,rfl,?_⟩
   have e:=uc hpr hn fun j q hj hq=>ho j q (by omega) hq
   rw [e] at q
   exact q
  ·refine dF (fun z=>hn (V.str.inj z)) ?_
   refine ⟨_,rfl,rfl,fun j q hj hq=>?_⟩
   by_cases hjk:j = k
   ·subst hjk
    rw [hpr] at hq
    cases hq
    exact hn
   ·exact ho j q (by omega) hq
 ·rintro σ H2 ⟨v2,rfl,rfl,ho⟩
  have e:=ud (n:=n) (ps:=ps) fun j q hq=>ho j q (by omega) hq
  rw [e] at q
  exact ⟨by show 1<=sizeLine; decide,fun x tu hx=>⟨x,C,none,tu,rfl,za,T.pc.ex,T.pc.xm,hx,q _ _ (uK (zl.refl _) hx)⟩⟩
theorem xV:zm ["call","change","things","pairs","word","number"] ["call","change"] (zg uN):=⟨rfl,rfl,rfl,by decide +kernel,rfl,by decide +kernel,by decide +kernel⟩
theorem zbv {g1 g2 g3:Addr} {d1 d2 d3:FuncData} (F:Fun K "changed" "changed" uN f fd) (T:zio K mg base C) (cL:zv P w K mg base 1 "laid" g1 d1 ["call"] (za6 K)) (cO:zv P w K mg base 1 "call_of" g2 d2 ["things","pairs"] (zhe K))
  (cN:wn P w K mg base 1 "last_number" g3 d3 ["pairs","name"] (za5 K C)):zp P w K mg base (CXs P w) 2 f fd ["call","change"] (wJ K C):=by
 refine F.okS xV (fun vs H Q E h=>?_) (fun cdv A outer s H vs Q E hr h=>?_)
 ·obtain ⟨a,cp,c,xs,ch,rfl,_⟩:=h
  rfl
 obtain ⟨a,cp,c,xs,ch,rfl,hS,hc,lT,lP,hcp,q⟩:=h
 refine ⟨_,zi (wb (cF cL hr (ac (pv 0) zb)) (yA rfl (zo (zk (i:=2) xV.nd rfl (Or.inl rfl)) (zo (zk (i:=3) xV.nd rfl (Or.inl rfl)) yh))))
  (zi (zt (i:=4) xV.nd rfl (Or.inl rfl) (zF yd (pv 1) zh (fun _ _=>rfl)))
  (zi (zP (zn yE (pv 4) zr (zD _))
   (zi (zP (wx (zd9 (pv 2) (fun _=>rfl))) (zd (jH uR rfl (zai T.pc.own T.pc.kp PySem.F.excBase_ValueError (by decide) PySem.F.excBase_ValueError (ac zr zb)))) zH)
    (zd (zB (zhP PySem.F.plainAttrs_list PySem.F.slot_list_pop PySem.F.type_list_pop zh8 (pv 2)))))
   (zd (zP (zn yE (pv 4) zr (zD _)) (zd (zB (yv PySem.F.plainAttrs_list PySem.F.slot_list_append PySem.F.type_list_append zG (pv 2) (ac zh zb))))
    (zd (zP (zn yE (pv 4) zr (zD _)) (zi (zt (i:=5) xV.nd rfl (Or.inl rfl) (cS cN (ziY (fun _ _ _ z=>z)) hr (ac (pv 3) (ac (zF yd (pv 1) zh (fun _ _=>rfl)) zb)))) (zd (zfG (pv 3) (pv 5))))
     (zd (zB (yv PySem.F.plainAttrs_list PySem.F.slot_list_append PySem.F.type_list_append zG (pv 3) (ac (zN (ac (zF yd (pv 1) zh (fun _ _=>rfl)) (ac zh zb))) zb)))))))))
  (zd (zq (cF cO hr (ac (pv 2) (ac (pv 3) zb))))))),?_⟩
 refine ⟨_,rfl,a,c,xs,rfl,hS,hc,by omega,by omega,fun p H1 s1 two=>?_⟩
 obtain ⟨l1,l2,ys,fp,f1,f2,W⟩:=zfd.of two
 have hcp1:=s1.sqT hcp
 have ly:ys.length = (zM c).length:=by rw [W.hy.length,List.length_map]
 refine ⟨p,_,rfl,SqT.of W.hp,rfl,_,_,rfl,_,_,rfl,rfl,?_⟩
 have fin:∀ {H2:Hp} {ts:List Int} {ps:List (Str × Int)} {zs:List V},yH (zw c) (zM c) ch = some (ts,ps)->zl H H2->H2 l1 = some (.lst (ts.map V.int))->H2 l2 = some (.lst zs)->Paired (zu K T' H2 1) zs (ps.map yG)->ts.length<=400->ps.length<=400->
   zhe K [.ref l1,.ref l2] H2 Q E0:=by
  intro H2 ts ps zs e s2 g1 g2 gp t1 t2
  rw [e] at q
  exact ⟨l1,l2,ts,ps,zs,rfl,SqL.of g1,SqL.of g2,gp,t1,t2,fun r xs H' s3 hr3 hx hp=>q r xs H' (s2.trans s3) (s2.free hr3) hx hp⟩
 cases ch with
 | less=>
  refine ⟨_,rfl,cp,_,_,.str "less",rfl,rfl,hcp1,rfl,?_⟩
  refine ⟨_,rfl,rfl,_,rfl,?_⟩
  refine dT rfl ?_
  by_cases ht:zw c = []
  ·refine ⟨_,rfl,false,.inl ⟨_,SqL.of W.h1,by rw [ht]; rfl⟩,?_⟩
   refine wC ?_
   have e:yH (zw c) (zM c) .less = none:=by unfold yH; rw [if_pos ht]
   rw [e] at q
   exact ⟨by show 1<=sizeLine; decide,fun x tu hx=>⟨x,C,none,tu,rfl,za,T.pc.ex,T.pc.xm,s1.free hx,q _ _ (uK s1 hx)⟩⟩
  ·refine ⟨_,rfl,true,.inl ⟨_,SqL.of W.h1,by cases z:zw c with | nil=>exact absurd z ht | cons _ _=>rfl⟩,?_⟩
   refine y6 ?_
   have e:yH (zw c) (zM c) .less = some ((zw c).dropLast,zM c):=by unfold yH; rw [if_neg ht]
   obtain ⟨y,hy⟩:∃ y,((zw c).map V.int)[((zw c).map V.int).length - 1]? = some y:=by
    have:((zw c).map V.int).length ≠ 0:=by rw [List.length_map]; intro z; exact ht (List.length_eq_zero_iff.mp z)
    exact ⟨_,List.getElem?_eq_getElem (by omega)⟩
   refine ⟨_,rfl,.inl ⟨rfl,_,SqL.of W.h1⟩,l1,_,y,rfl,rfl,W.h1,hy,?_⟩
   refine ⟨_,rfl,_,rfl,fin e (zU s1 f1 _) (by rw [za,qF]) (by rw [zf W.ne.symm]; exact W.h2) (yZ (.inr ⟨_,W.h1⟩) W.hy) (by rw [List.length_dropLast]; omega) (by omega)⟩
 | more=>
  refine ⟨_,rfl,cp,_,_,.str "more",rfl,rfl,hcp1,rfl,?_⟩
  refine ⟨_,rfl,rfl,_,rfl,?_⟩
  refine dF w1 ?_
  refine ⟨_,rfl,rfl,_,rfl,?_⟩
  refine dT rfl ?_
  refine ⟨_,rfl,.inl ⟨rfl,_,SqL.of W.h1⟩,l1,_,_,rfl,rfl,W.h1,(by rw [List.length_map]; exact zx (by omega)),?_⟩
  refine ⟨_,rfl,_,rfl,fin (ts:=zw c ++ [0]) rfl (zU s1 f1 _) (by rw [za,List.map_append]; rfl) (by rw [zf W.ne.symm]; exact W.h2) (yZ (.inr ⟨_,W.h1⟩) W.hy) (by rw [List.length_append]; show _ + 1<=400; omega) (by omega)⟩
 | out n=>
  refine ⟨_,rfl,cp,_,_,.str "out",rfl,rfl,hcp1,rfl,?_⟩
  refine ⟨_,rfl,rfl,_,rfl,?_⟩
  refine dF w2 ?_
  refine ⟨_,rfl,rfl,_,rfl,?_⟩
  refine dF w4 ?_
  refine ⟨_,rfl,rfl,_,rfl,?_⟩
  refine dT rfl ?_
  refine ⟨_,rfl,_,rfl,cp,_,_,.str n,rfl,rfl,hcp1,rfl,l2,zM c,ys,n,rfl,W.h2,W.hy,by omega,?_⟩
  cases e:z5 n (zM c) with
  | none=>
   have e2:yH (zw c) (zM c) (.out n) = none:=by show Option.map _ (z5 n (zM c)) = _; rw [e]; rfl
   rw [e2] at q
   exact fun od H2 s2=>q od H2 (s1.trans s2)
  | some k=>
   have e2:yH (zw c) (zM c) (.out n) = some (zw c,(zM c).eraseIdx k):=by show Option.map _ (z5 n (zM c)) = _; rw [e]; rfl
   have hk:=jM e
   refine ⟨_,rfl,_,rfl,l2,_,k,rfl,rfl,W.h2,by omega,by omega,?_⟩
   have hp2:Paired (zu K T' (upd H1 l2 (.lst (ys.eraseIdx k))) 1) (ys.eraseIdx k) (((zM c).eraseIdx k).map yG):=by
    have:=vA k (yZ (o:=.lst (ys.eraseIdx k)) (.inr ⟨_,W.h2⟩) W.hy)
    rw [wR] at this
    exact this
   refine ⟨_,rfl,_,rfl,fin e2 (zU s1 f2 _) (by rw [zf W.ne]; exact W.h1) za hp2 (by omega) (by have:=List.length_eraseIdx_le (zM c) k; omega)⟩
 | inn n=>
  refine ⟨_,rfl,cp,_,_,.str "in",rfl,rfl,hcp1,rfl,?_⟩
  refine ⟨_,rfl,rfl,_,rfl,?_⟩
  refine dF w3 ?_
  refine ⟨_,rfl,rfl,_,rfl,?_⟩
  refine dF w5 ?_
  refine ⟨_,rfl,rfl,_,rfl,?_⟩
  refine dF w6 ?_
  refine ⟨_,rfl,.inl ⟨rfl,_,SqL.of W.h2⟩,_,rfl,cp,_,_,.str n,rfl,rfl,hcp1,rfl,zz2,fun tp htp=>?_⟩
  have st:=zc htp (.tup [.str n,.int 0])
  have n2:=ze W.h2 htp
  refine ⟨l2,_,_,rfl,rfl,st _ _ W.h2,(by rw [ly]; exact zx (by omega)),?_⟩
  refine ⟨_,rfl,_,rfl,fin (ps:=zM c ++ [(n,0)]) rfl (zU (s1.trans st) f2 _) (by rw [zf W.ne]; exact st _ _ W.h1) za ?_ (by omega) (by rw [List.length_append]; show _ + 1<=400; omega)⟩
  rw [List.map_append]
  refine yk (yZ (.inr ⟨_,st _ _ W.h2⟩) (vd st W.hy)) (.cons (.tup (xs:=[.str n,.int 0]) (SqT.of ?_) (.cons .str (.cons .int .nil))) .nil)
  rw [zf n2.symm,za]
def zdw (K:Frag):Sp:=fun vs H Q E=>∃ (a cp:Addr) (c:List yo) (xs:List V) (ch:Chg),vs = [.ref a,.ref cp]/\SqL K H a xs/\Paired (zu K T' H 3) xs (c.map yu)/\(zw c).length<=300/\(zM c).length<=300/\SqT K H cp (zgz ch)/\
 match yH (zw c) (zM c) ch with
 | some (ts,ps)=>∀ (r:Addr) (xs:List V) (H':Hp),zl H H'->H r = none->H' r = some (.lst xs)->Paired (zu K T' H' 1) xs ((plain ts ps).map yu)->Q (.ref r) H'
 | none=>∀ H',zl H H'->Q .non H'
theorem qk:zm ["_law_handed","_law_change","_law_found"] ["_law_handed","_law_change"] (zg zdO):=⟨rfl,rfl,rfl,by decide +kernel,rfl,by decide +kernel,by decide +kernel⟩
theorem zfT {g1:Addr} {d1:FuncData} (F:Fun K "_law_step" "_law_step" zdO f fd) (hm:mg "NoChange" = some (.ref C)) (em:exmOne K (.ref C) (.ref C) = some true) (cC:wn P w K mg base 2 "changed" g1 d1 ["call","change"] (wJ K C)):zp P w K mg base CX0 3 f fd ["_law_handed","_law_change"] (zdw K):=by
 refine F.ok qk (fun vs H Q E h=>?_) (fun cdv A outer s H vs Q E hr h=>?_)
 ·obtain ⟨a,cp,c,xs,ch,rfl,_⟩:=h
  rfl
 obtain ⟨a,cp,c,xs,ch,rfl,hS,hc,lT,lP,hcp,q⟩:=h
 refine ⟨_,zi (zt (i:=2) qk.nd rfl (Or.inl rfl) zbp)
  (zi (zfF rfl rfl
    (ziV rfl hm (fun ea=>zd (zt (i:=2) qk.nd rfl (Or.inl rfl) zbp)) zhK)
   (fun pins σ xe E hp=>zhE (i:=2) qk.nd rfl (Or.inl rfl) (zfO cC hp hr (ac (pv 0) (ac (pv 1) zb)))))
  (zd (zq (pv 2)))),?_⟩
 refine ⟨_,rfl,_,rfl,a,cp,c,xs,ch,rfl,hS,hc,lT,lP,hcp,?_⟩
 cases hb:yH (zw c) (zM c) ch with
 | some z=>
  obtain ⟨ts,ps⟩:=z
  rw [hb] at q
  intro r ys H1 s1 hr1 hx hp
  exact ⟨_,rfl,q r ys H1 s1 hr1 hx hp⟩
 | none=>
  rw [hb] at q
  intro od H1 s1
  refine ⟨C,rfl,fun t ea hea=>.inl ⟨em,?_⟩⟩
  exact ⟨_,rfl,q _ (s1.trans (zc hea _))⟩
end
theorem zjX:([Str.ofString "_law_one",Str.ofString "_law_like"]:List Str).Nodup:=by decide +kernel
def zaf (r:Rw):List SB:=match r.k with
 | 0=>[.inl "seat",.inl r.z,.inr r.b] | 1=>[.inl "both",.inl r.z,.inr r.b] | 2=>[.inl "tail",.inl r.z] | 3=>[.inl "tag",.inl r.z,.inr r.b] | _=>[.inl "bag",.inl r.z]
theorem zhG {r:Rw}:(zaf r).map sbV = rv r:=by
 obtain ⟨k,z,b⟩:=r
 match k with
 | 0=>rfl
 | 1=>rfl
 | 2=>rfl
 | 3=>rfl
 | n + 4=>rfl
theorem zi8:∀ i:Nat,i < 5->∀ j:Nat,j < 5->kw i = kw j->i = j:=by decide +kernel
theorem zcf {r:Rw}:(zaf r)[0]? = some (.inl (kw r.k)):=by
 obtain ⟨k,z,b⟩:=r
 match k with
 | 0=>rfl
 | 1=>rfl
 | 2=>rfl
 | 3=>rfl
 | n + 4=>rfl
theorem zce {r:Rw}:(zaf r)[1]? = some (.inl r.z):=by
 obtain ⟨k,z,b⟩:=r
 match k with
 | 0=>rfl
 | 1=>rfl
 | 2=>rfl
 | 3=>rfl
 | n + 4=>rfl
def sbB:Option SB->Bool
 | some (.inr b)=>b
 | _=>true
theorem zcg {r:Rw}:fr r.k r.b = sbB ((zaf r)[2]?):=by
 obtain ⟨k,z,b⟩:=r
 match k with
 | 0=>rfl
 | 1=>rfl
 | 2=>rfl
 | 3=>rfl
 | n + 4=>rfl
theorem zd6 {c:C5} {H:Hp} {p:Addr} {r r':Rw} (h:zaf r = zaf r') (o:r.ok) (o':r'.ok) (hp:PAt c H p r'):PAt c H p r:=by
 have e1:kw r.k = kw r'.k:=by
  have h1:=zcf (r:=r)
  rw [h,zcf] at h1
  exact (Sum.inl.inj (Option.some.inj h1)).symm
 have e2:r.z = r'.z:=by
  have h1:=zce (r:=r)
  rw [h,zce] at h1
  exact (Sum.inl.inj (Option.some.inj h1)).symm
 have e3:fr r.k r.b = fr r'.k r'.b:=by rw [zcg,zcg,h]
 have ek:=zi8 _ o.1 _ o'.1 e1
 obtain ⟨dx,hp⟩:=hp
 exact ⟨dx,by show H p = some (.ins (c.at r.k) dx (pf (kw r.k) (.str r.z) (fr r.k r.b))); rw [e3,e2,ek]; exact hp⟩
theorem PAt.ext {c:C5} {H:Hp} {v a:Addr} {r:Rw} {x:Heap->Prop} {o:HO} (h:PAt c H v r) (hD:H a = some (.ext x)):PAt c (L2.upd H a o) v r:=by
 obtain ⟨dx,h⟩:=h
 refine ⟨dx,?_⟩
 rw [zf (fun e=>by rw [e,hD] at h; cases h)]
 exact h
theorem ze6 {P:Program} {w:World} {H:Hp} {a D:Addr} {ys:List V} {o:HO} {kvs:List (List SB × V)} (h:DB P w H a kvs) (hD:H D = some (.lst ys)):DB P w (L2.upd H D o) a kvs:=by
 obtain ⟨xs,e,kb⟩:=h
 refine ⟨xs,by rw [zf (fun z=>by rw [z,hD] at e; cases e)]; exact e,Paired.mapP kb fun _ _ z=>⟨z.1,?_,z.2.2⟩⟩
 rw [zf (fun e'=>by have:=z.2.1; rw [e',hD] at this; cases this)]
 exact z.2.1
theorem zcF {kvs:List (List SB × V)} {k k':List SB} {v v':V} (hn:zA kvs k = none) (h:zA (yq kvs k v) k' = some v'):zA kvs k' = some v'\/(k' = k/\v' = v):=by
 rw [zah v hn] at h
 unfold zA at h |-
 rw [List.find?_append] at h
 cases e:kvs.find? fun kv=>decide (kv.1 = k') with
 | some p=>rw [e] at h; exact .inl h
 | none=>
  rw [e] at h
  by_cases ek:k = k'
  ·rw [List.find?_cons_of_pos (by simpa using ek)] at h
   cases h
   exact .inr ⟨ek.symm,rfl⟩
  ·rw [List.find?_cons_of_neg (by simpa using ek)] at h
   cases h
theorem zfE {kvs:List (List SB × V)} {k:List SB} {v:V} (hn:zA kvs k = none):(yq kvs k v).length = kvs.length + 1:=by rw [zah v hn,List.length_append]; rfl
theorem zfy {K:Frag} {ok:Addr->Prop} {H:Hp} {x:V} {c:List Str} (h:zu K ok H 1 x (chD c)):∃ t,x = .ref t/\SqT K H t (c.map V.str):=by
 rcases h with h | ⟨a,xs,ds,ex,e,hs,q⟩ | ⟨a,xs,ds,_,e,_⟩
 ·cases x <;> exact h.elim
 ·cases e
  have:∀ (c:List Str) (xs:List V),Paired (zu K ok H 0) xs (c.map Dt.str)->xs = c.map V.str:=fun c=>by
   induction c with
   | nil=>intro xs h; cases h; rfl
   | cons z c ih=>
    intro xs h
    cases h with
    | cons h t=>
     rename_i x1 x2
     rw [ih _ t]
     cases x1 <;> first | exact h.elim | skip
     cases h
     rfl
  rw [this c xs q] at hs
  exact ⟨a,ex,hs⟩
 ·cases e
def zcr (rows:List Rw) (bars:List Str) (c:List yo):List (Str × Nat):=zV rows bars (zw c).length (zC c)
structure zfg (K:Frag) (H:Hp) (a:Addr) (ct:List yo):Prop where
 at_:∃ xs,SqL K H a xs/\Paired (zu K T' H 3) xs (ct.map yu)
 lt:(zw ct).length<=900
 lp:(zM ct).length<=900
def zgO (K:Frag) (c:C5) (CF:Addr):Sp:=fun vs H Q _=>∃ (f a:Addr) (rows:List Rw) (bars:List Str) (ct:List yo),vs = [.ref f,.ref a]/\xH c CF H f rows bars/\zfg K H a ct/\∀ (l:Addr) (H':Hp),zl H H'->zaV H H' l (zcr rows bars ct)->Q (.ref l) H'
def zdE (K:Frag) (c:C5) (CF:Addr):Sp:=fun vs H Q _=>∃ (f a:Addr) (rows:List Rw) (bars:List Str) (ct:List yo),vs = [.ref f,.ref a]/\xH c CF H f rows bars/\zfg K H a ct/\∀ (H':Hp),zl H H'->Q (.bl (zcr rows bars ct).isEmpty) H'
section
variable {P:Program} {w:World} {K:Frag} {mg:Str->Option Value} {base:Heap} {f CF:Addr} {fd:FuncData} {c:C5} {m:MA}
theorem zdH:zm ["form","call","many","names"] ["form","call"] (zg zhy):=⟨rfl,rfl,rfl,by decide +kernel,rfl,by decide +kernel,by decide +kernel⟩
theorem zh0 {g1 g2:Addr} {d1 d2:FuncData} (F:Fun K "misfits" "misfits" zhy f fd) (c1:zv P w K mg base 2 "shape" g1 d1 ["call"] (qe K)) (c2:zv P w K mg base 4 "misfits_of" g2 d2 ["form","many","names"] (zdB c CF)):zp P w K mg base CX0 5 f fd ["form","call"] (zgO K c CF):=by
 refine F.ok zdH (fun vs H Q E h=>?_) (fun cdv A outer s H vs Q E hr h=>?_)
 ·obtain ⟨f,a,rows,bars,ct,rfl,_⟩:=h
  rfl
 obtain ⟨f,a,rows,bars,ct,rfl,hF,⟨⟨xs,hx,hc⟩,lt,lp⟩,q⟩:=h
 have hr2:yb 2 _:=hr.mono (by decide)
 refine ⟨_,zi (wb (cF c1 hr2 (ac (pv 1) zb)) (yA rfl (zo (zk (i:=2) zdH.nd rfl (Or.inl rfl)) (zo (zk (i:=3) zdH.nd rfl (Or.inl rfl)) yh))))
  (zd (zq (cF c2 hr (ac (pv 0) (ac (pv 2) (ac (pv 3) zb)))))),?_⟩
 refine ⟨_,rfl,a,ct,xs,rfl,hx,hc,lt,lp,fun p l H1 s1 nl ep el=>?_⟩
 refine ⟨p,_,rfl,SqT.of ep,rfl,_,_,rfl,_,_,rfl,rfl,?_⟩
 have hF1:=hF.same s1
 have ln:(zC ct).length<=900:=by unfold zC; rw [List.length_map]; exact lp
 exact ⟨_,rfl,_,rfl,_,rfl,f,l,(zw ct).length,rows,bars,zC ct,rfl,hF.lr,hF.lb,lt,ln,hF.ok,hF1.at_,el,fun l2 H2 s2 ⟨us,n2,e2,m2⟩=>q l2 H2 (s1.trans s2) ⟨us,s1.free n2,e2,m2⟩⟩
theorem zhn:zm ["form","call"] ["form","call"] (zg zd0):=⟨rfl,rfl,rfl,by decide +kernel,rfl,by decide +kernel,by decide +kernel⟩
theorem zf8 {g1:Addr} {d1:FuncData} (F:Fun K "fits" "fits" zd0 f fd) (c1:zv P w K mg base 5 "misfits" g1 d1 ["form","call"] (zgO K c CF)):zp P w K mg base CX0 6 f fd ["form","call"] (zdE K c CF):=by
 refine F.ok zhn (fun vs H Q E h=>?_) (fun cdv A outer s H vs Q E hr h=>?_)
 ·obtain ⟨f,a,rows,bars,ct,rfl,_⟩:=h
  rfl
 obtain ⟨f,a,rows,bars,ct,rfl,hF,hC,q⟩:=h
 have hU:=hr.units
 have hU0:=hr.units0
 refine ⟨_,zd (zq (y9 (OpR.or (zek hU) (zaq hU0)) (cF c1 hr (ac (pv 0) (ac (pv 1) zb))) (zY zb) (zD _))),?_⟩
 refine ⟨_,rfl,_,rfl,f,a,rows,bars,ct,rfl,hF,hC,fun l H1 s1 ⟨us,nl,el,ml⟩=>?_⟩
 refine ⟨zz0,fun l2 hl2=>?_⟩
 have s2:=zc hl2 (.lst [])
 have lu:=ml.length
 cases e:zcr rows bars ct with
 | nil=>
  rw [e] at ml
  cases ml
  refine .inl ⟨l,l2,0,.lst [],fun _=>True,fun _=>True,rfl,rfl,by decide,zu.lst True.intro (s2 _ _ el) .nil,zu.lst True.intro za .nil,?_⟩
  have:=q _ (s1.trans s2)
  rw [e] at this
  exact this
 | cons x xs=>
  refine .inr ⟨l,l2,_,_,rfl,rfl,s2 _ _ el,za,(by rw [List.length_map,lu,e]; exact Nat.succ_ne_zero _),?_⟩
  have:=q _ (s1.trans s2)
  rw [e] at this
  exact this
end
section
variable {rows:List Rw} {bars names:List Str} {many n:Nat} {z:Str}
theorem LB.perm {names':List Str} (hp:names.Perm names') (h:LB rows bars many names n):LB rows bars many names' n:=fun w h1 h2=>by
 have:=h w h1 h2
 rw [wg,jK hp h2] at this
 rw [wg]
 exact this
theorem u7 {n:Str} {ps:List (Str × Int)} {k:Nat} (h:z5 n ps = some k):(ps.map (·.1))[k]? = some n:=by
 obtain ⟨q,h1,h2⟩:=vR h
 rw [List.getElem?_map,h1]
 exact congrArg some h2
theorem u5 {n:Str}:∀ {ps:List (Str × Int)},n ∈ ps.map (·.1)->∃ k,z5 n ps = some k
 | [],h=>nomatch h
 | p :: r,h=>by
  unfold z5
  cases e:z5 n r with
  | some k=>exact ⟨k + 1,rfl⟩
  | none=>
   rw [List.map_cons] at h
   rcases List.mem_cons.mp h with h | h
   ·exact ⟨0,by dsimp only; rw [if_pos h.symm]⟩
   ·obtain ⟨k,hk⟩:=u5 h
    rw [hk] at e
    cases e
theorem uh {ts ts':List Int} {ps ps':List (Str × Int)} {ch:Chg} (nd:(nms rows).Nodup) (h:yH ts ps ch = some (ts',ps')) :
  (∀ n,LB rows bars ts.length (ps.map (·.1)) n->LB rows bars ts'.length (ps'.map (·.1)) (n - 1))/\(∀ n,LB rows bars ts'.length (ps'.map (·.1)) n->LB rows bars ts.length (ps.map (·.1)) (n - 1)):=by
 cases ch with
 | less=>
  unfold yH at h
  by_cases e:ts = []
  ·rw [if_pos e] at h; cases h
  rw [if_neg e] at h
  cases h
  have hl:ts.length ≠ 0:=fun z=>e (List.length_eq_zero_iff.mp z)
  rw [List.length_dropLast]
  refine ⟨fun n h=>h.less,fun n h=>?_⟩
  have:=h.more
  rw [show ts.length - 1 + 1 = ts.length by omega] at this
  exact this
 | more=>
  cases h
  rw [List.length_append]
  refine ⟨fun n h=>h.more,fun n h=>?_⟩
  have:=h.less
  exact this
 | out z=>
  have h:Option.map (fun k=>(ts,ps.eraseIdx k)) (z5 z ps) = some (ts',ps'):=h
  cases e:z5 z ps with
  | none=>rw [e] at h; cases h
  | some k=>
   rw [e] at h
   cases h
   have hk:=u7 e
   rw [<- wR]
   refine ⟨fun n h=>h.out nd hk,fun n h=>?_⟩
   have:=h.in_ (z:=z) nd
   obtain ⟨hl,e2⟩:=List.getElem?_eq_some_iff.mp hk
   exact this.perm ((List.perm_append_singleton z _).trans (by have:=L2.wY (ps.map (·.1)) k hl; rw [e2] at this; exact this))
 | inn z=>
  cases h
  rw [List.map_append]
  refine ⟨fun n h=>h.in_ nd,fun n h=>?_⟩
  have hk:(ps.map (·.1) ++ [z])[(ps.map (·.1)).length]? = some z:=List.getElem?_concat_length
  have:=h.out nd hk
  rw [List.eraseIdx_append_of_length_le (Nat.le_refl _),Nat.sub_self] at this
  simpa using this
theorem vo (V1:x0 rows bars) (nd:(nms rows).Nodup):∀ (r:List (List Str)) (m:Nat) (ns:List Str) (n:Nat),wl (fun m ns=>zV rows bars m ns = []) r m ns->LB rows bars m ns n->n<=r.length
 | [],m,ns,n,h,hl=>by
  rcases Nat.eq_zero_or_pos n with h0 | h0
  ·omega
  ·exact absurd h (hl.miss V1 h0)
 | c :: r,m,ns,n,h,hl=>by
  rw [List.length_cons]
  rcases h with ⟨_,_,h⟩ | ⟨_,h⟩ | ⟨z,_,h⟩ | ⟨z,_,hz,h⟩
  ·have:=vo V1 nd r _ _ _ h hl.less; omega
  ·have:=vo V1 nd r _ _ _ h hl.more; omega
  ·have:=vo V1 nd r _ _ _ h (hl.in_ nd); omega
  ·obtain ⟨i,hi⟩:=List.getElem?_of_mem hz
   have:=vo V1 nd r _ _ _ (h i hi) (hl.out nd hi); omega
theorem zeD {w:Nat} {r:List (List Str)} (V1:x0 rows bars) (nd:(nms rows).Nodup) (hm:many<=200) (h:qO rows bars many names w) (hr:wl (fun m ns=>zV rows bars m ns = []) r many names) (hl:LB rows bars many names r.length):(mtF rows bars w many names).length = r.length:=
 Nat.le_antisymm (vo V1 nd _ _ _ _ hr (h.lb V1)) (hl w (h.vw hm).1 (h.vw hm).2.1)
theorem zcN {G:Nat->List Str->Prop} {c:List Str} {r:List (List Str)} {ts:List Int} {ps:List (Str × Int)} (h:wl G (c :: r) ts.length (ps.map (·.1))):∃ (ch:Chg) (ts':List Int) (ps':List (Str × Int)),c.map V.str = zgz ch/\yH ts ps ch = some (ts',ps')/\wl G r ts'.length (ps'.map (·.1)):=by
 rcases h with ⟨e,h0,h⟩ | ⟨e,h⟩ | ⟨z,e,h⟩ | ⟨z,e,hz,h⟩
 ·refine ⟨.less,ts.dropLast,ps,by rw [e]; rfl,?_,by rw [List.length_dropLast]; exact h⟩
  unfold yH
  rw [if_neg (fun z=>by rw [z] at h0; exact Nat.lt_irrefl _ h0)]
 ·exact ⟨.more,ts ++ [0],ps,by rw [e]; rfl,rfl,by rw [List.length_append]; exact h⟩
 ·exact ⟨.inn z,ts,ps ++ [(z,0)],by rw [e]; rfl,rfl,by rw [List.map_append]; exact h⟩
 ·obtain ⟨k,hk⟩:=u5 hz
  refine ⟨.out z,ts,ps.eraseIdx k,by rw [e]; rfl,?_,?_⟩
  ·show Option.map _ (z5 z ps) = _
   rw [hk]; rfl
  ·rw [<- wR]
   exact h k (u7 hk)
end
theorem xN (ts:List Int) (ps:List (Str × Int)):zC (plain ts ps) = ps.map (·.1):=by
 unfold zC
 rw [wA]
def qg (K:Frag):Sp:=fun vs H Q _=>∃ (a:Addr) (ns:List Int),vs = [.ref a]/\SqL K H a (ns.map V.int)/\ns.length<=63/\(∀ m ∈ ns,Builtin.Int.intBits m<=1048576)/\∀ H',Q (.bl true) H'
structure zka (mg:Str->Option Value):Prop where
 range:mg "range" = none
 abs:mg "abs" = none
theorem yW.same {K:Frag} {H H':Hp} {a:Addr} {c:List yo} (h:yW K H a c) (s:zl H H'):yW K H' a c:=let ⟨xs,h1,h2⟩:=h; ⟨xs,s.seq h1,Paired.imp' (fun _ _ z=>z.same s) h2⟩
theorem yW.plain {K:Frag} {H:Hp} {r:Addr} {xs:List V} {c:List yo} (h1:H r = some (.lst xs)) (h2:Paired (zu K T' H 1) xs (c.map yu)):yW K H r c:=⟨xs,SqL.of h1,Paired.imp' (fun _ _ z=>z.up.up) h2⟩
theorem jP:∀ {its:List yo},(∀ it ∈ its,zdF it)->(zw its).length<=4 * its.length/\(zM its).length<=4 * its.length
 | [],_=>⟨Nat.le_refl _,Nat.le_refl _⟩
 | it :: its,h=>by
  obtain ⟨h1,h2⟩:=jP fun x hx=>h x (List.mem_cons_of_mem _ hx)
  obtain ⟨a,b,_⟩:=h it List.mem_cons_self
  have e1:zw (it :: its) = itT it ++ zw its:=by unfold zw; rw [List.map_cons,List.flatten_cons]
  have e2:zM (it :: its) = itP it ++ zM its:=by unfold zM; rw [List.map_cons,List.flatten_cons]
  rw [e1,e2,List.length_append,List.length_append,List.length_cons]
  omega
section
variable {P:Program} {w:World} {K:Frag} {mg:Str->Option Value} {base:Heap} {f CF C:Addr} {fd:FuncData} {c:C5} {m:MA}
theorem xk:zm ["_law_script","_law_cells","_law_specs_here","_law_shut","_law_known","_law_like","_law_shape","_law_handed","_law_cell","_law_name_here","_law_behind","_law_left","_law_change"] ["_law_script"] (zg zhB):=⟨rfl,rfl,rfl,by decide +kernel,rfl,by decide +kernel,by decide +kernel⟩
theorem zh1 {f1 f2 f3 f4 f5 f6 f7 f8 f9 f10 f11 f12 gF:Addr} {e1 e2 e3 e4 e5 e6 e7 e8 e9 e10 e11 e12 eF:FuncData} (F:Fun K "law" "law" zhB f fd) (U:zka mg) (cHf:zv P w K mg base 3 "_law_half" f1 e1 ["_law_script"] (zdD K)) (cN:zv P w K mg base 1 "_law_nth" f2 e2 ["_law_script","_law_k"] (za4 K)) (cSp:zv P w K mg base 5 "_law_specs" f3 e3 ["_law_cells"] (zb4 K)) (cB':zv P w K mg base 5 "_law_bars" f5 e5 ["_law_cells","_law_specs_here"] (zb7 K)) (cIt:zv P w K mg base 5 "_law_items" f6 e6 ["_law_cells","_law_known"] (zb8 K))
  (mCF:mg "Form" = some (.ref CF)) (MF:Mk K CF gF) (GF:zp P w K mg base CX0 3 gF eF ["self","parameters","bars"] (ziL c CF)) (bF:zQ K eF ["self","parameters","bars"] []) (cP:zv P w K mg base 5 "parameter_of" f8 e8 ["told"] (zgL K c)) (cM:zv P w K mg base 6 "mends" f4 e4 ["form","call"] (qf K c CF)) (cNe:zv P w K mg base 7 "nearest" f9 e9 ["form","call"] (zdz K c CF)) (cNm:zv P w K mg base 4 "_law_name" f12 e12 ["_law_cell","_law_known"] (uD K)) (cC:wn P w K mg base 2 "changed" f7 e7 ["call","change"] (wJ K C)) (cSt:zv P w K mg base 3 "_law_step" f10 e10 ["_law_handed","_law_change"] (zdw K)) (cFt:zv P w K mg base 6 "fits" f11 e11 ["form","call"] (zdE K c CF)):zp P w K mg base CX0 8 f fd ["_law_script"] (qg K):=by
 refine F.ok xk (fun vs H Q E h=>?_) (fun cdv A outer s H vs Q E hr h=>?_)
 ·obtain ⟨a,ns,rfl,_⟩:=h
  rfl
 obtain ⟨sa,ns,rfl,hS,h63,hbit,q⟩:=h
 have hr1:yb 1 _:=hr.mono (by decide)
 have hr2:yb 2 _:=hr.mono (by decide)
 have hr3:yb 3 _:=hr.mono (by decide)
 have hr4:yb 4 _:=hr.mono (by decide)
 have hr5:yb 5 _:=hr.mono (by decide)
 have hr6:yb 6 _:=hr.mono (by decide)
 have hU:=hr.units
 have hu1:=zaJ hr
 refine zT (zt (i:=1) xk.nd rfl (Or.inr rfl) (cF cHf hr3 (ac (pv 0) zb))) ?_
 refine ⟨_,rfl,sa,ns,rfl,hS,h63,fun cl cs H1 s1 _ hcl lcs=>?_⟩
 clear hS hbit
 dsimp only [zO]
 refine zT (zt (i:=2) xk.nd rfl (Or.inl rfl) (cF cSp hr5 (ac (vt uo (pv 1) (xK zh) (xK zh)) zb))) ?_
 refine ⟨_,rfl,_,rfl,_,rfl,cl,_,rfl,SqL.of hcl,fun c1 hc1=>?_⟩
 obtain ⟨ec1,lc1⟩:=ze7 cs 3 23
 rw [show jo (cs.map V.int) (some 3) (some 23) = (jv cs 3 23).map V.int from ec1]
 have s2:=zc hc1 (.lst ((jv cs 3 23).map V.int))
 refine ⟨c1,_,rfl,SqL.of za,by omega,fun la us rows H7 s7 nla hla hu vr=>?_⟩
 have s17:=s2.trans s7
 have hcl:=s17 _ _ hcl
 clear s2 s7 hc1 ec1 s17 nla
 dsimp only [zO]
 refine zT (zt (i:=3) xk.nd rfl (Or.inl rfl) (cF cB' hr5 (ac (xL ["_law_cells"] ["_law_k","_law_cells"] [none,some 1] rfl ⟨rfl,rfl,rfl,rfl⟩ (wO rfl U.range (ac (zy xA (cF cN hr1 (ac (pv 1) (ac zh zb))) zh) zb)) (z9 0) rfl rfl rfl
  (fun pins fp s H C=>⟨zk (i:=0) zjZ rfl (Or.inl rfl) (.inr rfl),yI,zy vB (cF cN hr1 (ac (pv 1) (ac (pv 0) zb))) zh⟩)) (ac (pv 2) zb)))) ?_
 have m5:=Int.emod_lt_of_pos (cs.getD 1 0) (show (0:Int) < 5 by decide)
 have m50:=Int.emod_nonneg (cs.getD 1 0) (show (5:Int) ≠ 0 by decide)
 refine ⟨_,rfl,cl,cs,1,rfl,SqL.of hcl,_,_,rfl,rfl,(by show (0:Int) < 5; decide),cs.getD 1 0 % 5,rfl,by omega,by omega,fun D1 hD1=>?_⟩
 obtain ⟨nn,hnn⟩:∃ nn:Nat,(cs.getD 1 0 % 5).toNat = nn:=⟨_,rfl⟩
 rw [hnn]
 have hn5:nn<=5:=by omega
 refine uZ (n:=nn) (fun j ys H'=>zl H7 H'/\H' D1 = some (.lst ys)/\∃ ms:List Int,ys = ms.map V.int/\ms.length = j) ⟨zc hD1 _,za,[],rfl,rfl⟩ ?_ ?_
 ·rintro j ys H' hj ⟨sH,hDy,ms,ey,el⟩
  rw [Int.zero_add]
  refine ⟨fun _=>⟨_,rfl,_,rfl,cl,cs,j,rfl,SqL.of (sH _ _ hcl),_,_,rfl,rfl,⟨by decide,by decide⟩,lcN.mk hj (ym (by omega)) hDy (by rw [ey,List.length_map]; omega) ⟨zU sH hD1 _,za,ms ++ [_],by rw [ey,List.map_append]; rfl,by rw [List.length_append,el]; rfl⟩⟩,fun z=>absurd z (by decide)⟩
 rintro ys H8 ⟨s8,hD8,ms0,rfl,el0⟩
 have hcl:=s8 _ _ hcl
 have hla:=s8 _ _ hla
 have hu:=yf s8 hu
 refine ⟨_,rfl,D1,la,ms0,us,rows,rfl,SqL.of hD8,by omega,hla,hu,vr,fun lb bars H10 s10 nlb hlb V1=>?_⟩
 have hcl:=s10 _ _ hcl
 have hla:=s10 _ _ hla
 have hu:=yf s10 hu
 have l24:=V1.l24
 have l60:=V1.l60
 have hok:=V1.ok
 have lu:us.length = rows.length:=hu.length
 clear s8 s10 nlb hD8 hD1 el0
 dsimp only [zO]
 refine zT (zt (i:=4) xk.nd rfl (Or.inl rfl) (zy xB (xL [] ["_law_one"] [none] rfl ⟨rfl,rfl,rfl,rfl⟩ (zZ (pv 2)) (z9 0) rfl rfl rfl
   (fun pins fp s H C=>⟨zk (i:=0) zeF rfl (Or.inl rfl) (.inr rfl),yI,zF (r:=zd7 K) yd (pv 0) zh (fun _ _=>rfl)⟩)) (pv 3))) ?_
 refine ⟨_,rfl,la,rfl,⟨_,SqL.of hla⟩,fun D3 hD3=>?_⟩
 refine zbA (K:=K) TAt (fun _=>true) (fun _ r=>.str r.z) hD3 hla hu (by omega) (fun i u r H' N S hu' hr' tr sH n1 s1'=>?_) (fun H11 s11 h11=>?_)
 ·have rk:=hok r (List.mem_of_getElem? hr')
  exact ⟨fun e=>⟨_,rfl,u,_,1,_,rfl,rfl,SqT.of (sH _ _ tr),qx rk,n1 _ (zl.refl _) rfl⟩,fun e=>by cases e⟩
 rw [zcD hu] at h11
 refine ⟨_,rfl,D3,lb,_,_,rfl,rfl,h11,s11 _ _ hlb,ym (by rw [List.length_map,List.length_map,List.length_map]; omega),fun lk hlk=>?_⟩
 rw [<- List.map_append]
 have s12:=s11.trans (zc hlk (.lst ((rows.map Rw.z ++ bars).map V.str)))
 have gk:upd H11 lk (.lst ((rows.map Rw.z ++ bars).map V.str)) lk = some (.lst ((rows.map Rw.z ++ bars).map V.str)):=za
 generalize upd H11 lk (.lst ((rows.map Rw.z ++ bars).map V.str)) = H8 at s12 gk |-
 have kn:∀ z ∈ rows.map Rw.z ++ bars,yx z = true:=fun z hz=>by
  rcases List.mem_append.mp hz with h | h
  ·exact qQ vr z h
  ·exact V1.bn z h
 have kl:(rows.map Rw.z ++ bars).length<=84:=by rw [List.length_append,List.length_map]; omega
 generalize rows.map Rw.z ++ bars = ks at gk kn kl
 have hcl:=s12 _ _ hcl
 have hla:=s12 _ _ hla
 have hu:=yf s12 hu
 have hlb:=s12 _ _ hlb
 clear s12 s11 h11 hD3 hlk
 dsimp only [zO]
 refine zT (zt (i:=5) xk.nd rfl (Or.inr rfl) (zhO (P:=P) (w:=w) rfl rfl)) ?_
 intro kd hkd hsys
 dsimp only [zO]
 have s9:=zc hkd (.ext (dBφ P w kd []))
 have g9:upd H8 kd (.ext (dBφ P w kd [])) kd = some (.ext (dBφ P w kd [])):=za
 generalize upd H8 kd (.ext (dBφ P w kd [])) = H9 at s9 g9 |-
 have hla9:=s9 _ _ hla
 refine zT (zt (i:=6) xk.nd rfl (Or.inl rfl) (zcj MF GF hr4 rfl mCF bF .nil yc (ac (xL ["_law_like"] ["_law_one","_law_like"] [none,some 5] rfl ⟨rfl,rfl,rfl,rfl⟩ (zZ (pv 2)) (z9 0) rfl rfl rfl
   (fun pins fp s H C=>⟨zk (i:=0) zjX rfl (Or.inl rfl) (.inr rfl),yI,zee (P:=P) (w:=w) rfl rfl hu1 (pv 1) (ac (pv 0) (ac (cF cP hr5 (ac (pv 0) zb)) zb))⟩)) (ac (pv 3) zb)))) ?_
 refine ⟨_,rfl,la,rfl,⟨_,SqL.of hla9⟩,fun D hD=>?_⟩
 have neD:D ≠ kd:=fun e=>by rw [e,g9] at hD; cases hD
 have nD:H8 D = none:=s9.free hD
 refine xt (K:=K) (xs:=us.map V.ref) (fun i ys H'=>∃ (ps:List Addr) (kvs:List (List SB × V)),ys = ps.map V.ref/\zl H8 H'/\H' D = some (.lst ys)/\Paired (PAt c H') ps (rows.take i)/\DB P w H' kd kvs/\kvs.length<=i/\∀ k v,zA kvs k = some v->∃ r pa,r.ok/\k = zaf r/\v = .ref pa/\PAt c H' pa r)
  ⟨[],[],rfl,s9.trans (zc hD _),za,.nil,⟨[],by rw [zf neD.symm]; exact g9,.nil⟩,Nat.le_refl _,(fun k v h=>by cases h)⟩ (fun i ys H' ⟨_,_,_,sH,_⟩=>SqL.of (sH _ _ hla)) ?_ ?_
 ·rintro i x ys H2 hi hx ⟨ps,kvs,rfl,s2,hD2,hp2,db2,lk,hv2⟩
  obtain ⟨u,hu',rfl⟩:=xp hx
  obtain ⟨r,hr',tr⟩:=yt hu hu'
  have rk:=V1.ok r (List.mem_of_getElem? hr')
  have hil:i < rows.length:=(List.getElem?_eq_some_iff.mp hr').1
  have er:rows[i] = r:=(List.getElem?_eq_some_iff.mp hr').2
  have lps:ps.length<=i:=by rw [hp2.length,List.length_take]; omega
  refine ⟨fun _=>?_,fun e=>Bool.noConfusion e⟩
  refine ⟨_,rfl,⟨kd,kvs,rfl,db2⟩,_,rfl,_,rfl,u,r.k,.str r.z,r.b,rfl,rk.1,s2 _ _ tr,.inl ⟨r.z,rfl,zav rk.2⟩,rk.2,fun pa dx H3 s3 ho=>?_⟩
  have pa3:PAt c H3 pa r:=⟨dx,ho⟩
  have s23:=s2.trans s3
  have db3:=db2.same s3
  refine ⟨kd,u,kvs,zaf r,.ref pa,rfl,rfl,db3,hsys,by omega,by rw [zhG]; exact s23 _ _ tr,fun v' hv'=>?_,fun hn H4 ⟨o4,e4⟩ db4=>?_⟩
  ·obtain ⟨r',pa',rk',ek,ev,hp'⟩:=hv2 _ _ hv'
   subst ev
   have hq:PAt c H3 pa' r:=(zd6 ek rk rk' hp').same s3
   refine lcN.mk hi (ym (by rw [List.length_map]; omega)) (s3 _ _ hD2) (by rw [List.length_map]; exact lps) ⟨ps ++ [pa'],kvs,by rw [List.map_append]; rfl,vN s23 nD,za,?_,?_,by omega,fun k v hkv=>?_⟩
   ·rw [List.take_succ_eq_append_getElem hil,er]
    exact Paired.snoc (Paired.imp' (fun _ _ z=>PAt.upd (z.same s3) (s3 _ _ hD2)) hp2) (PAt.upd hq (s3 _ _ hD2))
   ·exact ze6 db3 (s3 _ _ hD2)
   ·obtain ⟨r1,p1,a1,a2,a3,a4⟩:=hv2 k v hkv
    exact ⟨r1,p1,a1,a2,a3,PAt.upd (a4.same s3) (s3 _ _ hD2)⟩
  ·obtain ⟨xs3,ex3,_⟩:=id db3
   have s4:zl H8 H4:=by rw [e4]; exact vN s23 hkd
   have hD4:H4 D = some (.lst (ps.map V.ref)):=by rw [e4,zf neD]; exact s3 _ _ hD2
   have ups:∀ {v:Addr} {r:Rw},PAt c H3 v r->PAt c H4 v r:=fun z=>by rw [e4]; exact PAt.ext z ex3
   refine lcN.mk hi (ym (by rw [List.length_map]; omega)) hD4 (by rw [List.length_map]; exact lps) ⟨ps ++ [pa],_,by rw [List.map_append]; rfl,vN s4 nD,za,?_,ze6 db4 hD4,by rw [zfE hn]; omega,fun k v hkv=>?_⟩
   ·rw [List.take_succ_eq_append_getElem hil,er]
    exact Paired.snoc (Paired.imp' (fun _ _ z=>PAt.upd (ups (z.same s3)) hD4) hp2) (PAt.upd (ups pa3) hD4)
   ·rcases zcF hn hkv with h | ⟨h1,h2⟩
    ·obtain ⟨r1,p1,a1,a2,a3,a4⟩:=hv2 k v h
     exact ⟨r1,p1,a1,a2,a3,PAt.upd (ups (a4.same s3)) hD4⟩
    ·exact ⟨r,pa,rk,h1,h2,PAt.upd (ups pa3) hD4⟩
 rintro ys1 H10 ⟨ps,kvs,rfl,s10,hD10,hp10,_,_,_⟩
 rw [List.length_map,lu,List.take_length] at hp10
 refine ⟨_,rfl,?_⟩
 intro x dx hx hdx hne
 have smk:zl H10 (upd (upd H10 dx (.own x)) x (.ins CF dx [])):=yP hx hdx
 have hx1:upd (upd H10 dx (.own x)) x (.ins CF dx []) x = some (.ins CF dx []):=za
 generalize upd (upd H10 dx (.own x)) x (.ins CF dx []) = H11 at smk hx1 |-
 refine ⟨x,D,dx,.ref lb,ps,rows,bars,rfl,hx1,smk _ _ hD10,yY smk hp10,.inr ⟨lb,rfl,(s10.trans smk) _ _ hlb⟩,V1,fun H12 sx F6 L6=>?_⟩
 refine ⟨rfl,?_⟩
 have s812:zl H8 H12:=fun b' u e=>sx b' u (smk _ _ (s10 _ _ e)) (ze (s10 _ _ e) hx)
 have hF:xH c CF H12 x rows bars:=⟨let ⟨dx,fs,lr,lb,ld,ps,h1,h2,h3,h4,h5,h6,_,_⟩:=F6; ⟨dx,fs,lr,lb,ld,ps,h1,h2,h3,h4,h5,h6⟩,by omega,by omega,V1.ok⟩
 have hcl:=s812 _ _ hcl
 have gk:=s812 _ _ gk
 clear s9 g9 hla9 neD nD hD hkd hsys smk hx1 s10 hD10 hp10 sx F6 L6 s812 hla hu hlb
 dsimp only [zO]
 refine zT (zt (i:=7) xk.nd rfl (Or.inl rfl) (cF cIt hr5 (ac (vt uo (pv 1) (xK zh) (xK zh)) (ac (pv 4) zb)))) ?_
 refine ⟨_,rfl,_,rfl,_,rfl,cl,_,rfl,SqL.of hcl,fun c2 hc2=>?_⟩
 obtain ⟨ec2,lc2⟩:=ze7 cs 23 30
 rw [show jo (cs.map V.int) (some 23) (some 30) = (jv cs 23 30).map V.int from ec2]
 have s13:=zc hc2 (.lst ((jv cs 23 30).map V.int))
 refine ⟨_,rfl,c2,lk,_,ks,rfl,SqL.of za,by omega,s13 _ _ gk,kn,by omega,fun hd0 xs0 it0 H14 s14 nhd hhd hxs li sm=>?_⟩
 have sA:=s13.trans s14
 have hF:=hF.same sA
 have hcl:=sA _ _ hcl
 have gk:=sA _ _ gk
 have hcall:yW K H14 hd0 it0:=⟨xs0,SqL.of hhd,hxs⟩
 obtain ⟨t0,p0⟩:=jP sm
 have nd:(nms rows).Nodup:=(List.nodup_append.mp V1.nd).1
 clear s13 s14 sA nhd hhd hxs hc2 ec2
 dsimp only [zO]
 refine zT (yz PassesOwn.never rfl (zZ (vt uo (pv 1) (xK zh) (xK zh))) (zk (i:=8) xk.nd rfl (Or.inl rfl)) xJ) ?_
 refine ⟨_,rfl,_,rfl,_,rfl,cl,_,rfl,SqL.of hcl,fun lc hlc=>?_⟩
 obtain ⟨ec,lcc⟩:=ze7 cs 30 38
 rw [show jo (cs.map V.int) (some 30) (some 38) = (jv cs 30 38).map V.int from ec]
 have lct:(jv cs 30 38).length<=8:=by omega
 generalize jv cs 30 38 = ts at lct
 have s15:=zc hlc (.lst (ts.map V.int))
 have g15:upd H14 lc (.lst (ts.map V.int)) lc = some (.lst (ts.map V.int)):=za
 generalize upd H14 lc (.lst (ts.map V.int)) = H15 at s15 g15 |-
 have hF:=hF.same s15
 have gk:=s15 _ _ gk
 have hcall:=hcall.same s15
 refine ⟨lc,rfl,⟨_,SqL.of g15⟩,yM (K:=K) (a:=lc) (xs:=ts.map V.int) (fun i σ H'=>∃ (v8 v9 v10:Option V) (hd:Addr) (it:List yo),σ = [some (.ref sa),some (.ref cl),some (.ref la),some (.ref lb),some (.ref lk),some (.ref kd),some (.ref x),some (.ref hd),v8,v9,v10,none,none]/\zl H15 H'/\yW K H' hd it/\(zw it).length<=28 + i/\(zM it).length<=28 + i) ⟨_,_,_,hd0,it0,rfl,zl.refl _,hcall,by omega,by omega⟩ (fun i σ H' _ ⟨_,_,_,_,_,_,sH,_⟩=>SqL.of (sH _ _ g15)) ?_ ?_⟩
 ·rintro i y σ H2 hy ⟨v8,v9,v10,hd,it,rfl,s2,hc2,lT,lP⟩
  obtain ⟨k,hk,rfl⟩:=vF hy
  have hi:i < ts.length:=(List.getElem?_eq_some_iff.mp hk).1
  dsimp only [zO]
  refine zT (zt (i:=9) xk.nd rfl (Or.inl rfl) (zF yd (cF cNm hr4 (ac (zy vB (pv 8) zh) (ac (pv 4) zb))) zh (fun _ _=>rfl))) ?_
  refine ⟨_,rfl,_,_,rfl,rfl,⟨by decide,by decide⟩,_,rfl,_,lk,ks,rfl,s2 _ _ gk,kn,by omega,fun tn z rest H3 s3 htn' hz=>?_⟩
  refine ⟨tn,_,0,.str z,rfl,rfl,SqT.of htn',rfl,?_⟩
  have hc3:=hc2.same s3
  have s23:=s2.trans s3
  clear htn'
  dsimp only [zO]
  refine zT (zt (i:=10) xk.nd rfl (Or.inl rfl) (cF cSt hr3 (ac (pv 7) (ac (zF zI (zY (ac (zN (ac zr zb)) (ac (zN (ac zr zb)) (ac (zN (ac zr (ac (pv 9) zb))) (ac (zN (ac zr (ac (pv 9) zb))) zb))))) (zy xA (pv 8) zh) (fun _ _=>rfl)) zb)))) ?_
  refine ⟨_,rfl,zz1,fun t0 ht0=>⟨zz1,fun t1 ht1'=>⟨_,rfl,zz2,fun t2 ht2=>⟨_,rfl,zz2,fun t3 ht3=>⟨(by show 4<=sizeLine; decide),fun tl htl=>?_⟩⟩⟩⟩⟩
  have a0:=zc ht0 (.tup [.str "less"])
  have a1:=zc ht1' (.tup [.str "more"])
  have a2:=zc ht2 (.tup [.str "out",.str z])
  have a3:=zc ht3 (.tup [.str "in",.str z])
  have a4:=zc htl (.lst [.ref t0,.ref t1,.ref t2,.ref t3])
  have b3:=a4 _ _ (za (a:=t3) (o:=.tup [.str "in",.str z]))
  have b2:=(a3.trans a4) _ _ (za (a:=t2) (o:=.tup [.str "out",.str z]))
  have b1:=(a2.trans (a3.trans a4)) _ _ (za (a:=t1) (o:=.tup [.str "more"]))
  have b0:=(a1.trans (a2.trans (a3.trans a4))) _ _ (za (a:=t0) (o:=.tup [.str "less"]))
  have a04:=a0.trans (a1.trans (a2.trans (a3.trans a4)))
  have b4:upd (upd (upd (upd (upd H3 t0 (.tup [.str "less"])) t1 (.tup [.str "more"])) t2 (.tup [.str "out",.str z])) t3 (.tup [.str "in",.str z])) tl (.lst [.ref t0,.ref t1,.ref t2,.ref t3]) tl = some (.lst [.ref t0,.ref t1,.ref t2,.ref t3]):=za
  generalize upd (upd (upd (upd (upd H3 t0 (.tup [.str "less"])) t1 (.tup [.str "more"])) t2 (.tup [.str "out",.str z])) t3 (.tup [.str "in",.str z])) tl (.lst [.ref t0,.ref t1,.ref t2,.ref t3]) = H4 at a4 b0 b1 b2 b3 b4 a04 |-
  clear a0 a1 a2 a3 a4 ht0 ht1' ht2 ht3 htl
  obtain ⟨tk,ch,hat,htk⟩:∃ (tk:Addr) (ch:Chg),atI [V.ref t0,V.ref t1,V.ref t2,V.ref t3] (k % 4) = some (V.ref tk)/\H4 tk = some (.tup (zgz ch)):=by
   have h0:=Int.emod_nonneg k (show (4:Int) ≠ 0 by decide)
   have h1:=Int.emod_lt_of_pos k (show (0:Int) < 4 by decide)
   have:k % 4 = 0\/k % 4 = 1\/k % 4 = 2\/k % 4 = 3:=by omega
   rcases this with e | e | e | e <;> rw [e]
   ·exact ⟨t0,.less,rfl,b0⟩
   ·exact ⟨t1,.more,rfl,b1⟩
   ·exact ⟨t2,.out z,rfl,b2⟩
   ·exact ⟨t3,.inn z,rfl,b3⟩
  refine ⟨_,rfl,_,_,rfl,rfl,(by show (0:Int) < 4; decide),tl,_,_,.ref tk,rfl,rfl,SqL.of b4,hat,?_⟩
  have hc4:=hc3.same a04
  have s24:=s23.trans a04
  clear b0 b1 b2 b3 b4 hat a04 hc3 s23
  obtain ⟨xs4,hx4,hp4⟩:=id hc4
  refine ⟨hd,tk,it,xs4,ch,rfl,hx4,hp4,by omega,by omega,SqT.of htk,?_⟩
  cases hb:yH (zw it) (zM it) ch with
  | none=>
   intro H5 s5
   dsimp only [zO]
   refine ⟨_,zd (zP (x9 (ur (pv 10))) (xJ) zH),?_⟩
   refine ⟨_,rfl,_,rfl,?_⟩
   refine vE (by simp) ?_
   exact ⟨_,_,_,hd,it,rfl,s24.trans s5,hc4.same s5,by omega,by omega⟩
  | some zz=>
   obtain ⟨ts',ps'⟩:=zz
   intro r xs5 H5 s5 nr hr5' hp5
   have bl:=jp hb
   obtain ⟨bn1,bn2⟩:=uh (bars:=bars) nd hb
   have hc5:yW K H5 r (plain ts' ps'):=yW.plain hr5' hp5
   have s25:=s24.trans s5
   have hT:(zw (plain ts' ps')).length = ts'.length:=by rw [yR]
   have hP:(zM (plain ts' ps')).length = ps'.length:=by rw [wA]
   dsimp only [zO]
   refine ⟨_,zd (zP (x9 (ur (pv 10))) (zi (zP (zn zap (cB zfa U.abs boot_abs (ac (zy wy (cF cNe hr (ac (pv 6) (ac (pv 10) zb))) (cF cNe hr (ac (pv 6) (ac (pv 7) zb)))) zb)) zh (zD _)) (zd (zq zal)) zH) (zd (zt (i:=7) xk.nd rfl (Or.inl rfl) (pv 10)))) zH),?_⟩
   refine ⟨_,rfl,_,rfl,?_⟩
   refine je (by simp) ?_
   refine ⟨_,rfl,_,rfl,x,r,plain ts' ps',rows,bars,rfl,hF.same s25,l24,l60,hc5,by omega,by omega,fun w2 H6 s6 hm2=>?_⟩
   refine ⟨_,rfl,_,rfl,x,hd,it,rows,bars,rfl,hF.same (s25.trans s6),l24,l60,hc4.same (s5.trans s6),by omega,by omega,fun w1 H7 s7 hm1=>?_⟩
   rw [yR,xN] at hm2
   have u2:=bn2 _ (hm2.lb V1)
   have u1:=bn1 _ (hm1.lb V1)
   have v2:=hm2.vw (by omega)
   have v1:=hm1.vw (by omega)
   have q1:=u1 w2 v2.1 v2.2.1
   have q2:=u2 w1 v1.1 v1.2.1
   rw [yR,xN]
   have q2:(mtF rows bars w2 ts'.length (ps'.map (·.1))).length - 1<=(mtF rows bars w1 (zw it).length (zC it)).length:=q2
   have q1:(mtF rows bars w1 (zw it).length (zC it)).length - 1<=(mtF rows bars w2 ts'.length (ps'.map (·.1))).length:=q1
   generalize (mtF rows bars w2 ts'.length (ps'.map (·.1))).length = n2 at q1 q2 |-
   generalize (mtF rows bars w1 (zw it).length (zC it)).length = n1 at q1 q2 |-
   refine ⟨_,_,rfl,rfl,_,rfl,_,_,rfl,rfl,_,rfl,?_⟩
   refine dF (by show ¬ (1:Int) < _; split <;> omega) ?_
   refine ⟨_,rfl,?_⟩
   exact ⟨_,_,_,r,plain ts' ps',rfl,s25.trans (s6.trans s7),hc5.same (s6.trans s7),by omega,by omega⟩
 rintro σ H2 ⟨v8,v9,v10,hd,it,rfl,s2,hc2,lT,lP⟩
 rw [List.length_map] at lT lP
 have hF:=hF.same s2
 clear hcall gk g15 s15 hcl s2
 refine zT (zt (i:=11) xk.nd rfl (Or.inl rfl) (cF cNe hr (ac (pv 6) (ac (pv 7) zb)))) ?_
 refine ⟨_,rfl,_,rfl,x,hd,it,rows,bars,rfl,hF,l24,l60,hc2,by omega,by omega,fun w0 H3 s3 hm0=>?_⟩
 dsimp only [zO]
 have hF:=hF.same s3
 have hc3:=hc2.same s3
 refine zT (yz PassesOwn.never rfl (zZ (cF cM hr6 (ac (pv 6) (ac (pv 7) zb)))) (zk (i:=12) xk.nd rfl (Or.inl rfl)) xJ) ?_
 refine ⟨_,rfl,_,rfl,x,hd,it,rows,bars,rfl,hF,l24,l60,hc3,by omega,by omega,fun ww lf H4 s4 hmin ⟨nlf,vs,hlf,hvs⟩=>?_⟩
 rw [zgg hm0 hmin]
 have lvs:vs.length = (mtF rows bars ww (zw it).length (zC it)).length:=by rw [hvs.length,List.length_map]
 have hvw:=hmin.vw (by omega)
 have run0:=zc0 (names:=zC it) (many:=(zw it).length) V1 hvw.2.1 hmin.1
 have lb0:=hmin.lb V1
 have ln:(zC it).length<=36:=by unfold zC; rw [List.length_map]; omega
 have lms:(mtF rows bars ww (zw it).length (zC it)).length<=160:=by
  rw [wg]
  have h1:=zay (rows:=rows) (bars:=bars) (names:=zC it) hvw.2.1
  have h2:plN rows<=24:=Nat.le_trans (List.length_filter_le _ _) l24
  have h3:=hvw.2.2
  omega
 generalize mtF rows bars ww (zw it).length (zC it) = ms at *
 have hF:=hF.same s4
 refine ⟨lf,rfl,⟨_,SqL.of hlf⟩,yM (K:=K) (a:=lf) (xs:=vs) (fun i σ H'=>∃ (v12:Option V) (hd:Addr) (it:List yo) (lft:Int),σ = [some (.ref sa),some (.ref cl),some (.ref la),some (.ref lb),some (.ref lk),some (.ref kd),some (.ref x),some (.ref hd),v8,v9,v10,some (.int lft),v12]/\lft + (i:Int) = (ms.length:Int)/\zl H4 H'/\yW K H' hd it/\(zw it).length<=36 + i/\(zM it).length<=36 + i/\wl (fun m ns=>zV rows bars m ns = []) (ms.drop i) (zw it).length (zC it)/\LB rows bars (zw it).length (zC it) (ms.length - i)) ⟨_,hd,it,_,rfl,by simp,zl.refl _,hc3.same s4,by omega,by omega,run0,lb0⟩ (fun i σ H' _ ⟨_,_,_,_,_,_,s,_⟩=>SqL.of (s _ _ hlf)) ?_ ?_⟩
 ·rintro i y σ H5 hy ⟨v12,hd,it,lft,rfl,elft,s5,hc5,lT,lP,run,lbr⟩
  obtain ⟨d,hd',sy⟩:=Paired.get hvs hy
  rw [List.getElem?_map] at hd'
  obtain ⟨c',hc',rfl⟩:=Option.map_eq_some_iff.mp hd'
  obtain ⟨t',rfl,ht'⟩:=zfy (sy.same s5)
  have hi:i < ms.length:=(List.getElem?_eq_some_iff.mp hc').1
  have ed:ms.drop i = c' :: ms.drop (i + 1):=by rw [List.drop_eq_getElem_cons hi,(List.getElem?_eq_some_iff.mp hc').2]
  rw [ed] at run
  obtain ⟨ch,ts',ps',ech,hb,run⟩:=zcN (ts:=zw it) (ps:=zM it) run
  rw [ech] at ht'
  have bl:=jp hb
  have lbr:=(uh (bars:=bars) nd hb).1 _ lbr
  rw [Nat.sub_sub] at lbr
  obtain ⟨xs5,hx5,hp5⟩:=hc5
  dsimp only [zO]
  refine zT (zt (i:=7) xk.nd rfl (Or.inl rfl) (cS (E:=fun _ _ _=>False) cC (fun pins σ H1 s1 e s' I q=>by obtain ⟨_,_,_,_,_,_,_,q⟩:=q; exact q.elim) hr2 (ac (pv 7) (ac (pv 12) zb)))) ?_
  refine ⟨_,rfl,_,rfl,hd,t',it,xs5,ch,rfl,hx5,hp5,by omega,by omega,ht',?_⟩
  rw [hb]
  intro r xs6 H6 s6 nr hr6' hp6
  have hc6:yW K H6 r (plain ts' ps'):=yW.plain hr6' hp6
  have hT:(zw (plain ts' ps')).length = ts'.length:=by rw [yR]
  have hP:(zM (plain ts' ps')).length = ps'.length:=by rw [wA]
  dsimp only [zO]
  refine zT (zt (i:=11) xk.nd rfl (Or.inl rfl) (zy wy (pv 11) zh)) ?_
  refine ⟨_,rfl,_,_,rfl,rfl,?_⟩
  dsimp only [zO]
  refine ⟨_,zd (zP (zn zgU (cF cNe hr (ac (pv 6) (ac (pv 7) zb))) (pv 11) (zD _)) (zd (zq zal)) zH),?_⟩
  have s46:=s5.trans s6
  refine ⟨_,rfl,_,rfl,x,r,plain ts' ps',rows,bars,rfl,hF.same s46,l24,l60,hc6,by omega,by omega,fun w2 H7 s7 hm2=>?_⟩
  refine ⟨_,rfl,rfl,_,rfl,?_⟩
  have run':wl (fun m ns=>zV rows bars m ns = []) (ms.drop (i + 1)) (zw (plain ts' ps')).length (zC (plain ts' ps')):=by rw [yR,xN]; exact run
  have lbr':LB rows bars (zw (plain ts' ps')).length (zC (plain ts' ps')) (ms.length - (i + 1)):=by rw [yR,xN]; exact lbr
  have nr:=zeD V1 nd (by omega) hm2 run' (by rw [List.length_drop]; exact lbr')
  rw [nr,List.length_drop]
  refine vE (by rw [show ((ms.length - (i + 1):Nat):Int) = lft - 1 by omega,decide_eq_true rfl]; rfl) ?_
  exact ⟨_,r,plain ts' ps',lft - 1,rfl,by omega,s46.trans s7,hc6.same s7,by omega,by omega,run',lbr'⟩
 rintro σ H5 ⟨v12,hd,it,lft,rfl,elft,s5,hc5,lT,lP,run,lbr⟩
 have e0:lft = 0:=by omega
 subst e0
 rw [List.drop_of_length_le (by omega)] at run
 have run:zV rows bars (zw it).length (zC it) = []:=run
 refine ⟨_,zd (zq (zei (y9 yE (pv 11) zh (zD _)) (zei (cF cFt hr6 (ac (pv 6) (ac (pv 7) zb))) (zhM (y9 (uV hU) (cF cM hr6 (ac (pv 6) (ac (pv 7) zb))) (zY zb) (zD _)))))),?_⟩
 refine ⟨_,rfl,rfl,_,rfl,?_⟩
 refine dT rfl ?_
 refine ⟨_,rfl,_,rfl,x,hd,rows,bars,it,rfl,hF.same s5,⟨hc5,by omega,by omega⟩,fun H6 s6=>?_⟩
 refine ⟨_,rfl,?_⟩
 refine je (by unfold zcr; rw [run]; rfl) ?_
 refine ⟨_,rfl,_,rfl,x,hd,it,rows,bars,rfl,hF.same (s5.trans s6),l24,l60,hc5.same s6,by omega,by omega,fun w3 lz H7 s7 hm3 ⟨nlz,vz,hlz,hvz⟩=>?_⟩
 refine ⟨zz0,fun le hle=>?_⟩
 refine ⟨lz,le,vz,rfl,rfl,zc hle _ _ _ hlz,za,?_⟩
 have:vz = []:=by
  obtain ⟨h1,h2,h3⟩:=zcp V1 run
  have:=hm3.2.2 _ h1 h2
  rw [h3] at this
  have l0:=hvz.length
  rw [List.length_map] at l0
  exact List.eq_nil_of_length_eq_zero (by rw [l0]; exact Nat.le_zero.mp this)
 subst this
 exact q _
end
end K34
def PySem.W.Fast.tw18168592301221821571:Unit:=()
def PySem.W.Fast.tw7138808234612347437:Unit:=()
def PySem.W.Fast.tw8737264109572169887:Unit:=()
def PySem.W.Fast.tw1080031031404891991:Unit:=()
def PySem.W.Fast.tw1381260935760762944:Unit:=()
def PySem.W.Fast.tw10411919170265065658:Unit:=()
def PySem.W.Fast.tw6039418929682387560:Unit:=()
def PySem.W.Fast.tw13948685276319889077:Unit:=()
def PySem.W.Fast.tw7697452069218060210:Unit:=()
def PySem.W.Fast.tw17180494402133769237:Unit:=()
def PySem.W.Fast.tw15536062985721841792:Unit:=()
def PySem.W.Fast.tw11250466323911491425:Unit:=()
def PySem.W.Fast.tw13171397940491570098:Unit:=()
def PySem.W.Fast.tw15996454962910592856:Unit:=()
def PySem.W.Fast.tw2487849267242759306:Unit:=()
def PySem.W.Fast.tw8520429038535751163:Unit:=()
def PySem.W.Fast.tw3702394518665859370:Unit:=()
def PySem.W.Fast.tw12890853944846792672:Unit:=()
def PySem.W.Fast.tw5940521454611047783:Unit:=()
def PySem.W.Fast.tw17163651726220473637:Unit:=()
def PySem.W.Fast.tw6532693780129427463:Unit:=()
def PySem.W.Fast.tw7701984060883787753:Unit:=()
def PySem.W.Fast.tw17275859038795483209:Unit:=()
def PySem.W.Fast.tw11122328782741805312:Unit:=()
def PySem.W.Fast.tw8486285130747854214:Unit:=()
def PySem.W.Fast.tw7115671179360133477:Unit:=()
def PySem.W.Fast.tw6713149645179683352:Unit:=()
def PySem.W.Fast.tw17813033754805861382:Unit:=()
def PySem.W.Fast.tw4217947373684356263:Unit:=()
def PySem.W.Fast.tw7720432137903394995:Unit:=()
def PySem.W.Fast.tw8692872611714203640:Unit:=()
def PySem.W.Fast.tw4377521036373173813:Unit:=()
def PySem.W.Fast.tw18046453049679218410:Unit:=()
def PySem.W.Fast.tw5680511670110556687:Unit:=()
def PySem.W.Fast.tw8499217657024899649:Unit:=()
def PySem.W.Fast.tw1416517671250415874:Unit:=()
def PySem.W.Fast.tw9573009924142123962:Unit:=()
def PySem.W.Fast.tw14824004565501580891:Unit:=()
def PySem.W.Fast.tw8656900109569709735:Unit:=()
def PySem.W.Fast.tw1220502211348748445:Unit:=()
def PySem.W.Fast.tw11521628114260156585:Unit:=()
def PySem.W.Fast.tw10685215152440280989:Unit:=()
def PySem.W.Fast.tw724750819765523940:Unit:=()
def PySem.W.Fast.tw1253806048543297714:Unit:=()
def PySem.W.Fast.tw3115532275530954217:Unit:=()
def PySem.W.Fast.tw2024556899650676988:Unit:=()
def PySem.W.Fast.tw11554166327503244964:Unit:=()
def PySem.W.Fast.tw14894678703319791165:Unit:=()
def PySem.W.Fast.tw7233043752114160835:Unit:=()
def PySem.W.Fast.tw529676222683129664:Unit:=()
def PySem.W.Fast.tw5173730586072411732:Unit:=()
def PySem.W.Fast.tw5027803207164271549:Unit:=()
def PySem.W.Fast.tw16825459738670724544:Unit:=()
def PySem.W.Fast.tw2736877143676761694:Unit:=()
def PySem.W.Fast.tw9866771780194130533:Unit:=()
namespace K34
open PySem L2 PyProof.Rows
theorem zgl {w:World} {K:Frag} {Gr:Addr} {es:Array DictEntry} {n:Nat} {t0 t1 t2 t3 t4:Tok} (hl:K.lookup Gr = some ⟨.type "dict",none,.dict es n,#[]⟩) (hk:KeysLit w.params es.toList) (h0:nsIn K Gr "seat" = some (some (.int 0 t0))) (h1:nsIn K Gr "both" = some (some (.int 0 t1))) (h2:nsIn K Gr "tail" = some (some (.int 1 t2)))
  (h3:nsIn K Gr "tag" = some (some (.int 2 t3))) (h4:nsIn K Gr "bag" = some (some (.int 3 t4))):zis w K Gr zgp:=by
 refine ⟨⟨es,n,hl,hk⟩,fun x v h=>?_⟩
 unfold zgp at h
 by_cases e0:x = "seat"
 ·subst e0; rw [List.lookup_cons_self] at h; cases h; exact ⟨_,h0,_,rfl⟩
 rw [List.lookup_cons,beq_eq_false_iff_ne.mpr e0] at h
 by_cases e1:x = "both"
 ·subst e1; rw [List.lookup_cons_self] at h; cases h; exact ⟨_,h1,_,rfl⟩
 rw [List.lookup_cons,beq_eq_false_iff_ne.mpr e1] at h
 by_cases e2:x = "tail"
 ·subst e2; rw [List.lookup_cons_self] at h; cases h; exact ⟨_,h2,_,rfl⟩
 rw [List.lookup_cons,beq_eq_false_iff_ne.mpr e2] at h
 by_cases e3:x = "tag"
 ·subst e3; rw [List.lookup_cons_self] at h; cases h; exact ⟨_,h3,_,rfl⟩
 rw [List.lookup_cons,beq_eq_false_iff_ne.mpr e3] at h
 by_cases e4:x = "bag"
 ·subst e4; rw [List.lookup_cons_self] at h; cases h; exact ⟨_,h4,_,rfl⟩
 rw [List.lookup_cons,beq_eq_false_iff_ne.mpr e4] at h
 cases h
theorem zhR {K:Frag} {h:Heap} {mg:Str->Option Value} {x:Str} {C:Addr} {bm:List Value} {nid:String} (X:K.In h) (G:h.Ns mainGlobals mg) (e:nsIn K mainGlobals x = some (some (.ref C))) (q:excIn K C bm nid = true):OwnCls x C bm nid mg h:=by
 have b:mg x = some (.ref C):=mg_of X G e
 refine ⟨b,?_⟩
 simp only [excIn] at q
 split at q
 case h_2=>cases q
 rename_i dd cd sl ho
 obtain ⟨nm,bs,mro,ns,qn,hd,sn,sub,ab,col,del⟩:=cd
 obtain ⟨l⟩:=sl
 dsimp only at q
 split at q
 case h_2=>cases q
 rename_i C' m k0 k1 k2 k3 n k5
 simp only [Bool.and_eq_true,beq_iff_eq,Bool.not_eq_true'] at q
 obtain ⟨⟨⟨⟨⟨rfl,rfl⟩,rfl⟩,ht⟩,hok⟩,hni⟩:=q
 exact ⟨m,ns,nm,qn,bs,hd,sn,sub,ab,col,dd,k0,k1,k2,k3,k5,_,X _ _ ho,.of_isNs (PySem.W.isNs_of_in X hok),PySem.W.nsMap_none_of_in X hok hni,PySem.W.tail_of_in X ht⟩
theorem zj7 {l:PySem.W.OpenLaw} {w:World} {K:Frag} {h:Heap} {mg:Str->Option Value} {fa D C0 C1 C2 C3 C4 FM f1 f2 f3 f4 f5 f6 f7 f8 f9 f10 f11 f12 f13 f14 f15 f16 f17 f18 f19 f20 f21 f22 f23 f24 f25 f26 f27 f28 f29 f30 f31 f32 f33 f34 f35 f36 f37 f38 f39 f40 f41 f42 f43 f44 f45 f46 f47 f48 f49 f50 f51 f52 f53 f54 f55 f56 f57 NC:Addr} {e1 e2 e3 e4 e5 e6 e7 e8 e9 e10 e11 e12 e13 e14 e15 e16 e17 e18 e19 e20 e21 e22 e23 e24 e25 e26 e27 e28 e29 e30 e31 e32 e33 e34 e35 e36 e37 e38 e39 e40 e41 e42 e43 e44 e45 e46 e47 e48 e49 e50 e51 e52 e53 e54 e55 e56 e57:FuncData} {tP tB tO sg Gr:Addr} {tL tN tMP tMB ktP0 ktP1 ktB0 ktB1 ktO0 ktO1 ktO2 ksg0 ksg1 kG0 kG1 kG2 kG3 kG4:Tok} {odtP odtB odtO odsg:Option Addr} {ntP ntB ntO nsg nG:Nat} {sltP sltB sltO slsg:Array (Option Value)} {esG:Array DictEntry} (X:K.In h) (G:h.Ns mainGlobals mg) (hfa:mg "law" = some (.ref fa))
  (cD:CD K "Parameter" D)
  (cC0:CD K "Seat" C0)
  (nC0:findIn K (.ref C0) "word" = some none/\findIn K (.ref C0) "name" = some none/\findIn K (.ref C0) "may_lack" = some none)
  (cC1:CD K "Both" C1)
  (nC1:findIn K (.ref C1) "word" = some none/\findIn K (.ref C1) "name" = some none/\findIn K (.ref C1) "may_lack" = some none)
  (cC2:CD K "Tail" C2)
  (nC2:findIn K (.ref C2) "word" = some none/\findIn K (.ref C2) "name" = some none/\findIn K (.ref C2) "may_lack" = some none)
  (cC3:CD K "Tag" C3)
  (nC3:findIn K (.ref C3) "word" = some none/\findIn K (.ref C3) "name" = some none/\findIn K (.ref C3) "may_lack" = some none)
  (cC4:CD K "Bag" C4)
  (nC4:findIn K (.ref C4) "word" = some none/\findIn K (.ref C4) "name" = some none/\findIn K (.ref C4) "may_lack" = some none)
  (cFM:CD K "Form" FM)
  (nFM:findIn K (.ref FM) "row" = some none/\findIn K (.ref FM) "bar_names" = some none/\findIn K (.ref FM) "place_count" = some none/\findIn K (.ref FM) "tail_number" = some none/\findIn K (.ref FM) "bag_number" = some none/\findIn K (.ref FM) "doors" = some none)
  (g1:GD K "is_name" sIs f1 e1)
  (g2:MD K D "__init__" "Parameter.__init__" zbg f2 e2)
  (g3:MD K D "free" "Parameter.free" zdZ f3 e3)
  (g4:MD K D "by_place" "Parameter.by_place" uO f4 e4)
  (g5:MD K D "by_name" "Parameter.by_name" qw f5 e5)
  (g6:MD K D "takes_one" "Parameter.takes_one" zht f6 e6)
  (g7:MD K D "told" "Parameter.told" ziR f7 e7)
  (g8:DD K C0 "__init__" "Seat.__init__" zdP f8 e8 [Value.bool false])
  (g9:DD K C1 "__init__" "Both.__init__" zd3 f9 e9 [Value.bool false])
  (g10:MD K C2 "__init__" "Tail.__init__" zdN f10 e10)
  (g11:DD K C3 "__init__" "Tag.__init__" zhu f11 e11 [Value.bool false])
  (g12:MD K C4 "__init__" "Bag.__init__" zhD f12 e12)
  (g13:DD K FM "__init__" "Form.__init__" zbm f13 e13 [Value.none])
  (g14:MD K FM "keep" "Form.keep" zdX f14 e14)
  (g15:MD K FM "parameters" "Form.parameters" zbl f15 e15)
  (g16:MD K FM "bars" "Form.bars" zbn f16 e16)
  (g17:MD K FM "places" "Form.places" uM f17 e17)
  (g18:MD K FM "tail" "Form.tail" zbk f18 e18)
  (g19:MD K FM "bag" "Form.bag" zd2 f19 e19)
  (g20:MD K FM "number_of" "Form.number_of" zd1 f20 e20)
  (g21:MD K FM "told" "Form.told" zhC f21 e21)
  (g22:GD K "parameter_of" zhv f22 e22)
  (g23:GD K "refuse_too_many" zbe f23 e23)
  (g24:GD K "refuse_bad_order" qt f24 e24)
  (g25:GD K "refuse_bars_without_name" zbf f25 e25)
  (g26:GD K "refuse_twice" qr f26 e26)
  (g27:GD K "number_of_word" zdS f27 e27)
  (g28:GD K "laid" zdV f28 e28)
  (g29:GD K "call_of" sOf f29 e29)
  (g30:GD K "misfits" zhy f30 e30)
  (g31:GD K "fits" zd0 f31 e31)
  (g32:GD K "shape" zbd f32 e32)
  (g33:GD K "first_numbers" qu f33 e33)
  (g34:GD K "misfits_of" zhA f34 e34)
  (g35:GD K "overs" zbh f35 e35)
  (g36:GD K "unwelcomes" zhs f36 e36)
  (g37:GD K "lackings" zdW f37 e37)
  (g38:GD K "one_entry" zdR f38 e38)
  (g39:GD K "fewest_by_place" qv f39 e39)
  (g40:GD K "nearest" uL f40 e40)
  (g41:GD K "mends" zbi f41 e41)
  (g42:GD K "wanted_numbers" qp f42 e42)
  (g43:GD K "mends_to" zhz f43 e43)
  (g44:GD K "changed" uN f44 e44)
  (g45:GD K "last_number" zdU f45 e45)
  (g46:GD K "_law_nth" zhw f46 e46)
  (g47:GD K "_law_mix" zhx f47 e47)
  (g48:GD K "_law_rich" zdQ f48 e48)
  (g49:GD K "_law_half" zdY f49 e49)
  (g50:GD K "_law_take" zdM f50 e50)
  (g51:GD K "_law_name" zdT f51 e51)
  (g52:GD K "_law_specs" zbc f52 e52)
  (g53:GD K "_law_bars" zd4 f53 e53)
  (g54:GD K "_law_thing" zbb f54 e54)
  (g55:GD K "_law_items" zbj f55 e55)
  (g56:GD K "_law_step" zdO f56 e56)
  (g57:GD K "law" zhB f57 e57)
  (zisinstance:nsIn K mainGlobals "isinstance" = some none)
  (zstr:nsIn K mainGlobals "str" = some none)
  (zbool:nsIn K mainGlobals "bool" = some none)
  (zlen:nsIn K mainGlobals "len" = some none)
  (zall:nsIn K mainGlobals "all" = some none)
  (zrange:nsIn K mainGlobals "range" = some none)
  (zlist:nsIn K mainGlobals "list" = some none)
  (zenumerate:nsIn K mainGlobals "enumerate" = some none)
  (zset:nsIn K mainGlobals "set" = some none)
  (zmin:nsIn K mainGlobals "min" = some none)
  (zmax:nsIn K mainGlobals "max" = some none)
  (zint:nsIn K mainGlobals "int" = some none)
  (zzip:nsIn K mainGlobals "zip" = some none)
  (zreversed:nsIn K mainGlobals "reversed" = some none)
  (zsum:nsIn K mainGlobals "sum" = some none)
  (zsorted:nsIn K mainGlobals "sorted" = some none)
  (zabs:nsIn K mainGlobals "abs" = some none)
  (gL:nsIn K mainGlobals "LETTERS" = some (some (.str letters tL)))
  (gN:nsIn K mainGlobals "LONGEST" = some (some (.int 8 tN)))
  (gMP:nsIn K mainGlobals "MOST_PARAMETERS" = some (some (.int 24 tMP)))
  (gMB:nsIn K mainGlobals "MOST_BARS" = some (some (.int 60 tMB)))
  (ytP:nsIn K mainGlobals "BY_PLACE" = some (some (.ref tP)))
  (utP:K.lookup tP = some ⟨.type "tuple",odtP,.seq #[.str "seat" ktP0,.str "both" ktP1] ntP,sltP⟩)
  (ytB:nsIn K mainGlobals "BY_NAME" = some (some (.ref tB)))
  (utB:K.lookup tB = some ⟨.type "tuple",odtB,.seq #[.str "both" ktB0,.str "tag" ktB1] ntB,sltB⟩)
  (ytO:nsIn K mainGlobals "OF_ONE_THING" = some (some (.ref tO)))
  (utO:K.lookup tO = some ⟨.type "tuple",odtO,.seq #[.str "seat" ktO0,.str "both" ktO1,.str "tag" ktO2] ntO,sltO⟩)
  (ysg:nsIn K mainGlobals "SINGLE_GROUPS" = some (some (.ref sg)))
  (usg:K.lookup sg = some ⟨.type "tuple",odsg,.seq #[.int 1 ksg0,.int 3 ksg1] nsg,slsg⟩)
  (yGr:nsIn K mainGlobals "GROUPS" = some (some (.ref Gr)))
  (lGr:K.lookup Gr = some ⟨.type "dict",none,.dict esG nG,#[]⟩)
  (kGr:KeysLit w.params esG.toList)
  (eG0:nsIn K Gr "seat" = some (some (.int 0 kG0)))
  (eG1:nsIn K Gr "both" = some (some (.int 0 kG1)))
  (eG2:nsIn K Gr "tail" = some (some (.int 1 kG2)))
  (eG3:nsIn K Gr "tag" = some (some (.int 2 kG3)))
  (eG4:nsIn K Gr "bag" = some (some (.int 3 kG4)))
  (dga:jr K D "__init__" f2)
  (h0:findIn K (.ref C0) "free" = some (some (.ref f3))/\findIn K (.ref C0) "by_place" = some (some (.ref f4))/\findIn K (.ref C0) "by_name" = some (some (.ref f5))/\findIn K (.ref C0) "takes_one" = some (some (.ref f6))/\findIn K (.ref C0) "told" = some (some (.ref f7)))
  (h1:findIn K (.ref C1) "free" = some (some (.ref f3))/\findIn K (.ref C1) "by_place" = some (some (.ref f4))/\findIn K (.ref C1) "by_name" = some (some (.ref f5))/\findIn K (.ref C1) "takes_one" = some (some (.ref f6))/\findIn K (.ref C1) "told" = some (some (.ref f7)))
  (h2:findIn K (.ref C2) "free" = some (some (.ref f3))/\findIn K (.ref C2) "by_place" = some (some (.ref f4))/\findIn K (.ref C2) "by_name" = some (some (.ref f5))/\findIn K (.ref C2) "takes_one" = some (some (.ref f6))/\findIn K (.ref C2) "told" = some (some (.ref f7)))
  (h3:findIn K (.ref C3) "free" = some (some (.ref f3))/\findIn K (.ref C3) "by_place" = some (some (.ref f4))/\findIn K (.ref C3) "by_name" = some (some (.ref f5))/\findIn K (.ref C3) "takes_one" = some (some (.ref f6))/\findIn K (.ref C3) "told" = some (some (.ref f7)))
  (h4:findIn K (.ref C4) "free" = some (some (.ref f3))/\findIn K (.ref C4) "by_place" = some (some (.ref f4))/\findIn K (.ref C4) "by_name" = some (some (.ref f5))/\findIn K (.ref C4) "takes_one" = some (some (.ref f6))/\findIn K (.ref C4) "told" = some (some (.ref f7)))
  (yNC:nsIn K mainGlobals "NoChange" = some (some (.ref NC)))
  (xg:specialIn K (.builtin "object.__class__") "__get__" = some (some (.builtin "getset_descriptor.__get__"))/\PySem.W.takesIn K (.builtin "object.__class__") = some true)
  (ec:(PySem.W.clsIn K NC).isSome = true/\L2.zfi K NC = true)
  (ea:findIn K (.ref NC) "__getattribute__" = some (some (.builtin "BaseException.__getattribute__"))/\findIn K (.ref NC) "__getattr__" = some none/\findIn K (.ref NC) "__class__" = some (some (.builtin "object.__class__"))/\mroIn K NC (.type "BaseException") = some true/\mroIn K NC (.type "object") = some true/\keepIn K (.ref NC) = true)
  (xo:excIn K NC [.type "ValueError",.type "Exception",.type "BaseException",.type "object"] "ValueError.__new__" = true)
  (em:exmOne K (.ref NC) (.ref NC) = some true)
  : ∃ fd:FuncData,(∀ (s:Shared) (v:Value),BindsTo s fd ⟨[v],[]⟩ [("_law_script",v)])/\∀ base:Heap,K.In base->base.Ns mainGlobals mg->zp l.prog w K mg base CX0 8 fa fd ["_law_script"] (qg K):=by
 have e:=hfa.symm.trans (mg_of X G g57.a)
 cases e
 have no:∀ {x:Str},nsIn K mainGlobals x = some none->mg x = none:=fun z=>PySem.W.mg_none_of X G z
 have T:zji K mg:=⟨no zisinstance,no zstr,no zbool,no zlen,no zall,no zrange,⟨tL,mg_of X G gL⟩,⟨tN,mg_of X G gN⟩,uj K,zbF K,zaI K,zaG K,qA K,zaH K,zbE K,qB K⟩
 have Wd:Wds K mg tP tB tO:=⟨mg_of X G ytP,mg_of X G ytB,mg_of X G ytO,fun H=>.inr ⟨_,_,_,utP,rfl,rfl,zz2,.cons ⟨_,rfl⟩ (.cons ⟨_,rfl⟩ (.nil))⟩,fun H=>.inr ⟨_,_,_,utB,rfl,rfl,zz2,.cons ⟨_,rfl⟩ (.cons ⟨_,rfl⟩ (.nil))⟩,fun H=>.inr ⟨_,_,_,utO,rfl,rfl,zz3,.cons ⟨_,rfl⟩ (.cons ⟨_,rfl⟩ (.cons ⟨_,rfl⟩ (.nil)))⟩⟩
 have TF:zaU w K mg Gr sg:=⟨no zlen,no zenumerate,no zlist,no zset,⟨tMP,mg_of X G gMP⟩,⟨tMB,mg_of X G gMB⟩,mg_of X G yGr,zgl lGr kGr eG0 eG1 eG2 eG3 eG4,mg_of X G ysg,fun H=>.inr ⟨_,_,_,usg,rfl,rfl,zz2,.cons ⟨_,rfl⟩ (.cons ⟨_,rfl⟩ .nil)⟩⟩
 have pc0:PC K ⟨f3,f4,f5,f6,f7⟩ C0:=⟨cC0.c,nC0.1,nC0.2.1,nC0.2.2,⟨h0.1,g3.m.fn,g3.F.kp⟩,⟨h0.2.1,g4.m.fn,g4.F.kp⟩,⟨h0.2.2.1,g5.m.fn,g5.F.kp⟩,⟨h0.2.2.2.1,g6.m.fn,g6.F.kp⟩,⟨h0.2.2.2.2,g7.m.fn,g7.F.kp⟩⟩
 have pc1:PC K ⟨f3,f4,f5,f6,f7⟩ C1:=⟨cC1.c,nC1.1,nC1.2.1,nC1.2.2,⟨h1.1,g3.m.fn,g3.F.kp⟩,⟨h1.2.1,g4.m.fn,g4.F.kp⟩,⟨h1.2.2.1,g5.m.fn,g5.F.kp⟩,⟨h1.2.2.2.1,g6.m.fn,g6.F.kp⟩,⟨h1.2.2.2.2,g7.m.fn,g7.F.kp⟩⟩
 have pc2:PC K ⟨f3,f4,f5,f6,f7⟩ C2:=⟨cC2.c,nC2.1,nC2.2.1,nC2.2.2,⟨h2.1,g3.m.fn,g3.F.kp⟩,⟨h2.2.1,g4.m.fn,g4.F.kp⟩,⟨h2.2.2.1,g5.m.fn,g5.F.kp⟩,⟨h2.2.2.2.1,g6.m.fn,g6.F.kp⟩,⟨h2.2.2.2.2,g7.m.fn,g7.F.kp⟩⟩
 have pc3:PC K ⟨f3,f4,f5,f6,f7⟩ C3:=⟨cC3.c,nC3.1,nC3.2.1,nC3.2.2,⟨h3.1,g3.m.fn,g3.F.kp⟩,⟨h3.2.1,g4.m.fn,g4.F.kp⟩,⟨h3.2.2.1,g5.m.fn,g5.F.kp⟩,⟨h3.2.2.2.1,g6.m.fn,g6.F.kp⟩,⟨h3.2.2.2.2,g7.m.fn,g7.F.kp⟩⟩
 have pc4:PC K ⟨f3,f4,f5,f6,f7⟩ C4:=⟨cC4.c,nC4.1,nC4.2.1,nC4.2.2,⟨h4.1,g3.m.fn,g3.F.kp⟩,⟨h4.2.1,g4.m.fn,g4.F.kp⟩,⟨h4.2.2.1,g5.m.fn,g5.F.kp⟩,⟨h4.2.2.2.1,g6.m.fn,g6.F.kp⟩,⟨h4.2.2.2.2,g7.m.fn,g7.F.kp⟩⟩
 have PP:Pcs K ⟨f3,f4,f5,f6,f7⟩ ⟨C0,C1,C2,C3,C4⟩:=fun k hk=>by
  rcases lt5 hk with rfl | rfl | rfl | rfl | rfl
  ·exact pc0
  ·exact pc1
  ·exact pc2
  ·exact pc3
  ·exact pc4
 have FK:FC K FM:=⟨cFM.c,nFM.1,nFM.2.1,nFM.2.2.1,nFM.2.2.2.1,nFM.2.2.2.2.1,nFM.2.2.2.2.2⟩
 have UM:zin mg:=⟨no zmax,no zlist,no zrange,no zmin,no zlen⟩
 have UL:zjh mg:=⟨no zisinstance,no zint,no zlen,no zrange,no zlist,no zzip,no zmax⟩
 refine ⟨_,g57.law,fun base KB GB=>?_⟩
 have B:TB l.prog w K mg base:=⟨fun e=>mg_of X G e⟩
 have cI:=g1.c1 B (zi1 g1.F T)
 have GP:zp l.prog w K mg base CX0 2 f2 _ ["self","word","name","may_lack"] (spP K ⟨f3,f4,f5,f6,f7⟩):=zeq g2.F cI
 have mD:=mg_of X G cD.a
 have UC:zg3 l.prog w K mg base ⟨C0,C1,C2,C3,C4⟩ f8 f9 f10 f11 f12 _ _ _ _ _:=⟨⟨⟨cC0.ms,g8.m.at_,g8.m.fn,cC0.kc⟩,zfU g8.F pc0 dga mD GP g2.F.b4,mg_of X G cC0.a,g8.b0⟩,⟨⟨cC1.ms,g9.m.at_,g9.m.fn,cC1.kc⟩,zga g9.F pc1 dga mD GP g2.F.b4,mg_of X G cC1.a,g9.b0⟩,⟨⟨cC2.ms,g10.m.at_,g10.m.fn,cC2.kc⟩,zfS g10.F pc2 dga mD GP g2.F.b4,mg_of X G cC2.a,g10.F.b2⟩,⟨⟨cC3.ms,g11.m.at_,g11.m.fn,cC3.kc⟩,zhV g11.F pc3 dga mD GP g2.F.b4,mg_of X G cC3.a,g11.b0⟩,⟨⟨cC4.ms,g12.m.at_,g12.m.fn,cC4.kc⟩,zh3 g12.F pc4 dga mD GP g2.F.b4,mg_of X G cC4.a,g12.F.b2⟩⟩
 have GF:zp l.prog w K mg base CX0 1 f3 _ ["self"] (qh K ⟨f3,f4,f5,f6,f7⟩):=zf6 g3.F
 have GQ:zp l.prog w K mg base CX0 1 f4 _ ["self"] (uE K ⟨f3,f4,f5,f6,f7⟩ bpL):=zar g4.F Wd
 have GN:zp l.prog w K mg base CX0 1 f5 _ ["self"] (uE K ⟨f3,f4,f5,f6,f7⟩ bnL):=zbw g5.F Wd
 have cM1:=g23.c2 B (zf1 g23.F TF)
 have cM2:=g24.c1 B (zes g24.F TF PP)
 have cM3:=g25.c1 B (zep g25.F cI)
 have cM4:=g26.c2 B (zel g26.F TF PP GN g5.F.b1)
 have cW:=g27.c2 B (zfX g27.F TF PP)
 have GK:=zf4 g14.F TF PP FK cW GQ g4.F.b1 GN g5.F.b1
 have GI:=zez g13.F FK g14.m cM1 cM2 cM3 cM4 GK (g14.F.b3)
 have Gpa:zp l.prog w K mg base CX0 1 f15 _ ["self"] (vL ⟨C0,C1,C2,C3,C4⟩ FM):=zey g15.F TF FK
 have Gba:zp l.prog w K mg base CX0 1 f16 _ ["self"] (za7 ⟨C0,C1,C2,C3,C4⟩ FM):=zeA g16.F TF FK
 have Gpl:zp l.prog w K mg base CX0 1 f17 _ ["self"] (xT ⟨C0,C1,C2,C3,C4⟩ FM):=zbu g17.F FK
 have Gta:zp l.prog w K mg base CX0 1 f18 _ ["self"] (w9 ⟨C0,C1,C2,C3,C4⟩ FM 2):=zex g18.F FK
 have Gbg:zp l.prog w K mg base CX0 1 f19 _ ["self"] (w9 ⟨C0,C1,C2,C3,C4⟩ FM 4):=zf9 g19.F FK
 have Gnu:zp l.prog w K mg base CX0 1 f20 _ ["self","name"] (zdy ⟨C0,C1,C2,C3,C4⟩ FM):=zf7 g20.F FK
 have TE:zio K mg base NC:=⟨⟨zhR KB GB yNC xo,ea.2.2.2.2.2,⟨ec.1,ea.1,ea.2.1,ea.2.2.1,xg.1,xg.2,ea.2.2.2.1,ea.2.2.2.2.1⟩,ec.2⟩,no zlen,no zrange,no zreversed⟩
 have cL:=g28.c1 B (zf3 g28.F)
 have cO:=g29.c2 B (zi0 g29.F)
 have cSh:=g32.c1 B (zeo g32.F (no zlen) cL)
 have cFn:=g33.c1 B (zcX g33.F (no zenumerate))
 have cOv:=g35.c2 B (zer g35.F (no zrange) FK g18.m Gta (g18.F.b1) g17.m Gpl (g17.F.b1))
 have cUn:=g36.c3 B (zhU g36.F (no zset) FK g16.m Gba (g16.F.b1) g20.m Gnu (g20.F.b2) g19.m Gbg (g19.F.b1) g17.m Gpl (g17.F.b1))
 have cEn:=g38.c4 B (zfW g38.F PP GQ g4.F.b1 GN g5.F.b1)
 have cLa:=g37.c3 B (zev g37.F (no zenumerate) PP FK g15.m Gpa (g15.F.b1) GF g3.F.b1 cEn)
 have cMo:=g34.c3 B (zhY g34.F (no zenumerate) cFn cOv cUn cLa)
 have cMi:=g30.c2 B (zh0 g30.F cSh cMo)
 have cFt:=g31.c2 B (zf8 g31.F cMi)
 have cPf:=g22.c1 B (zhW g22.F UC)
 have cFw:=g39.c2 B (zh2 g39.F (no zrange) (no zreversed) FK PP g15.m Gpa (g15.F.b1) g17.m Gpl (g17.F.b1) GN g5.F.b1 GF g3.F.b1)
 have cWn:=g42.c2 B (zcW g42.F UM FK PP cFw g15.m Gpa (g15.F.b1) g17.m Gpl (g17.F.b1) g18.m Gta (g18.F.b1) GN g5.F.b1)
 have cMt:=g43.c4 B (zhX g43.F FK PP cMo g15.m Gpa (g15.F.b1))
 have cMe:=g41.c2 B (zet g41.F UM cSh cWn cMt)
 have cNe:=g40.c2 B (zfZ g40.F (no zlen) cMe)
 have cN:=g46.c2 B (zfY g46.F UL)
 have cMx:=g47.c2 B (zhZ g47.F)
 have cRi:=g48.c1 B (zfV g48.F (no zrange) cMx)
 have cHf:=g49.c1 B (zf5 g49.F (no zlist) cN cRi)
 have cTk:=g50.c2 B (zfR g50.F (no zsum) (no zlen) cRi)
 have cNm:=g51.c2 B (zf0 g51.F (no zlen) cTk)
 have cSp:=g52.c1 B (zen g52.F (no zint) cTk cNm)
 have cBa:=g53.c2 B (zeu g53.F cNm)
 have cTh:=g54.c1 B (zem g54.F)
 have cIt:=g55.c2 B (zew g55.F (no zrange) cTk cNm cTh)
 have cLn:wn l.prog w K mg base 1 "last_number" f45 _ ["pairs","name"] (za5 K NC):=⟨zf2 g45.F TE,B.mgo g45.a,g45.F.kp,g45.F.b2⟩
 have cCh:wn l.prog w K mg base 2 "changed" f44 _ ["call","change"] (wJ K NC):=⟨zbv g44.F TE cL cO cLn,B.mgo g44.a,g44.F.kp,g44.F.b2⟩
 have cSt:=g56.c2 B (zfT g56.F (mg_of X G yNC) em cCh)
 exact zh1 g57.F ⟨no zrange,no zabs⟩ cHf cN cSp cBa cIt (mg_of X G cFM.a) ⟨cFM.ms,g13.m.at_,g13.m.fn,cFM.kc⟩ GI g13.b0 cPf cMe cNe cNm cCh cSt cFt
theorem zkp {l:PySem.W.OpenLaw} {q:Program} {loose:List Str} {XP:(Str->Option Value)->Heap->Prop} {YP:World->Heap->Prop} {d:DefRec} {K:Params->Frag} (hn:l.most = some 63) (hdf:d.params.defaults = [])
  (hY:∀ (w:World) (h:Heap),YP w h->(K w.params).In h)
  (F:∀ (w:World) (mg:Str->Option Value) (fa:Addr) (h:Heap),(K w.params).In h->h.Ns mainGlobals mg->mg d.name = some (.ref fa)->
   ∃ fd:FuncData,(∀ (s:Shared) (u:Value),BindsTo s fd ⟨[u],[]⟩ [("_law_script",u)])/\∀ base:Heap,(K w.params).In base->base.Ns mainGlobals mg->zp l.prog w (K w.params) mg base CX0 8 fa fd ["_law_script"] (qg (K w.params))) :
  PySem.W.WalkO q loose XP YP l.row.toRowW d [] (fun f vs=>PySem.call f vs):=
 L2.ziu (n:=63) (k:=8) (x:="_law_script") (CX:=fun _=>CX0) (sp:=fun w=>qg (K w.params)) hn (by decide) hdf ⟨rfl,by decide,by decide⟩ hY F (fun _ _ a ns hl hb _ hS=>⟨a,ns,rfl,hS,hl,hb,fun _=>rfl⟩) fun _ _ _ _ _ z=>z
end K34
open PySem PySem.W PyProof.Rows
set_option maxRecDepth 100000 in
set_option maxHeartbeats 0 in
theorem PySem.Challenge.cw_callbinds_k34_whole_by_one_at_most_holds : PySem.Challenge.rw_callbinds_k34_whole_by_one_at_most.Holds := by
 w_on; o_law; k_head; (case hw => w_witness2)
 k_fill
 refine K34.zkp (l := PySem.Challenge.rw_callbinds_k34_whole_by_one_at_most) rfl rfl (fun w h Y => PySem.W.kIn_of Y) ?F
 case F =>
  intro w mg fa h KX G hmg
  refine' K34.zj7 KX G hmg ?cD ?cC0 ?nC0 ?cC1 ?nC1 ?cC2 ?nC2 ?cC3 ?nC3 ?cC4 ?nC4 ?cFM ?nFM ?g1 ?g2 ?g3 ?g4 ?g5 ?g6 ?g7 ?g8 ?g9 ?g10 ?g11 ?g12 ?g13 ?g14 ?g15 ?g16 ?g17 ?g18 ?g19 ?g20 ?g21 ?g22 ?g23 ?g24 ?g25 ?g26 ?g27 ?g28 ?g29 ?g30 ?g31 ?g32 ?g33 ?g34 ?g35 ?g36 ?g37 ?g38 ?g39 ?g40 ?g41 ?g42 ?g43 ?g44 ?g45 ?g46 ?g47 ?g48 ?g49 ?g50 ?g51 ?g52 ?g53 ?g54 ?g55 ?g56 ?g57 ?zisinstance ?zstr ?zbool ?zlen ?zall ?zrange ?zlist ?zenumerate ?zset ?zmin ?zmax ?zint ?zzip ?zreversed ?zsum ?zsorted ?zabs ?gL ?gN ?gMP ?gMB ?ytP ?utP ?ytB ?utB ?ytO ?utO ?ysg ?usg ?yGr ?lGr ?kGr ?eG0 ?eG1 ?eG2 ?eG3 ?eG4 ?dga ?h0 ?h1 ?h2 ?h3 ?h4 ?yNC ?xg ?ec ?ea ?xo ?em
  (case cD | cC0 => apply L2.zko <;> k_is)
  (case nC0 => exact ⟨by k_is, by k_is, by k_is⟩)
  (case cC1 => apply L2.zko <;> k_is)
  (case nC1 => exact ⟨by k_is, by k_is, by k_is⟩)
  (case cC2 => apply L2.zko <;> k_is)
  (case nC2 => exact ⟨by k_is, by k_is, by k_is⟩)
  (case cC3 => apply L2.zko <;> k_is)
  (case nC3 => exact ⟨by k_is, by k_is, by k_is⟩)
  (case cC4 => apply L2.zko <;> k_is)
  (case nC4 => exact ⟨by k_is, by k_is, by k_is⟩)
  (case cFM => apply L2.zko <;> k_is)
  (case nFM => exact ⟨by k_is, by k_is, by k_is, by k_is, by k_is, by k_is⟩)
  (case g1 => apply L2.zkm <;> k_is)
  (case g2 | g3 | g4 | g5 | g6 | g7 => apply L2.zkl <;> k_is)
  (case g8 | g9 => apply L2.zkn <;> k_is)
  (case g10 => apply L2.zkl <;> k_is)
  (case g11 => apply L2.zkn <;> k_is)
  (case g12 => apply L2.zkl <;> k_is)
  (case g13 => apply L2.zkn <;> k_is)
  (case g14 | g15 | g16 | g17 | g18 | g19 | g20 | g21 => apply L2.zkl <;> k_is)
  (case g22 | g23 | g24 | g25 | g26 | g27 | g28 | g29 | g30 | g31 | g32 | g33 | g34 | g35 | g36 | g37 | g38 | g39 | g40 | g41 | g42 | g43 | g44 | g45 | g46 | g47 | g48 | g49 | g50 | g51 | g52 | g53 | g54 | g55 | g56 | g57 => apply L2.zkm <;> k_is)
  (case zisinstance | zstr | zbool | zlen | zall | zrange | zlist | zenumerate | zset | zmin | zmax | zint | zzip | zreversed | zsum | zsorted | zabs | gL | gN | gMP | gMB | ytP | utP | ytB | utB | ytO | utO | ysg | usg | yGr | lGr => k_is)
  (case kGr => k_keys)
  (case eG0 | eG1 | eG2 | eG3 | eG4 => k_is)
  (case dga => exact ⟨by k_is, by k_is, by k_is, by k_is⟩)
  (case h0 | h1 | h2 | h3 | h4 => exact ⟨by k_is, by k_is, by k_is, by k_is, by k_is⟩)
  (case yNC => k_is)
  (case xg => exact ⟨by k_is, by k_is⟩)
  (case ec => exact ⟨by first | kernel_rfl | exact rfl, by first | kernel_rfl | exact rfl⟩)
  (case ea => exact ⟨by k_is, by k_is, by k_is, by k_is, by k_is, by k_is⟩)
  (case xo => k_exc)
  (case em => kts_exm)
#print axioms PySem.Challenge.cw_callbinds_k34_whole_by_one_at_most_holds
