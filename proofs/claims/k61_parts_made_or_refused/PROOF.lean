import PyProof.Rows.All
import Wide.All
import OpenK.AllK
import Wide.FinOn
import Lean
import PyProof.EqAt
import PyProof.EqKinds
import PyProof.TupleCall
import KE.KTryMore
import PyProof.ExcAttrAll.ValueError
import KE.KRevIter
import PyProof.SetNew
import PyProof.SetRoads
import PyProof.Rows.SetObj
import PyProof.DictCompW
import PyProof.DictItems
import PyProof.Rows.SetFrom
import PyProof.ListRange
import PyProof.Rows.Range3
import KE.IntBitsLaws
import KE.RegKIsAll
import KE.RegKTryMore
import PySem.Challenge.RW_callbinds_k61_parts_made_or_refused
set_option Elab.async false
set_option linter.all false
set_option maxRecDepth 100000
set_option maxHeartbeats 4000000
open PySem.W (instObj methodObj hideAll hideAll_get of_hideAll hideAll_none lookIn plainGet plainGet_of plainOver takerIn makesIn emptyDict methodCall_KW kitOne kia_one callWith_K fnOf codeIn KeysLit nsIn exmOne excIn mg_of Frag findIn specialIn keepIn isFn hasDictIn clsIn mroIn instIn Looks)
namespace L2
open PySem PySem.Spec PyProof.Rows
theorem zz0 : 0<=sizeLine:=by decide
theorem zz3 : 3<=sizeLine:=by decide
theorem zz2 : 2<=sizeLine:=by decide
theorem zz1 : 1<=sizeLine:=by decide
theorem zp2:(0:Int) < 2:=by decide
theorem zp8:(0:Int) < 8:=by decide
theorem zp26:(0:Int) < 26:=by decide
theorem zp4:(0:Int) < 4:=by decide
theorem zp16:(0:Int) < 16:=by decide
abbrev Key:=Sum Int Str
def keyIs:Key->Value->Bool
 | .inl k,v=>Value.isInt k v
 | .inr x,v=>Value.isStrOf x v
def keyH (w:World):Key->Int
 | .inl k=>hashInt k
 | .inr x=>hashStr w x
theorem keyIs_shape:∀ {k:Key} {v:Value},keyIs k v = true->(∃ i t,k = Sum.inl i/\v = Value.int i t)\/(∃ x t,k = Sum.inr x/\v = Value.str x t)
 | .inl i,v,h=>by
  obtain ⟨t,e⟩:=Value.isInt_shape (k:=i) (v:=v) h
  exact .inl ⟨i,t,rfl,e⟩
 | .inr x,v,h=>by
  obtain ⟨t,e⟩:=Value.isStrOf_shape (x:=x) (v:=v) h
  exact .inr ⟨x,t,rfl,e⟩
theorem keyIs_int (i:Int) (t:Tok):keyIs (.inl i) (.int i t) = true:=by simp [keyIs,Value.isInt]
theorem keyIs_str (x:Str) (t:Tok):keyIs (.inr x) (.str x t) = true:=by simp [keyIs,Value.isStrOf]
theorem key_ll (a b:Int):decide ((Sum.inl a:Key) = Sum.inl b) = (a == b):=by
 by_cases e:a = b
 ·subst e; simp
 ·have h:¬ (Sum.inl a:Key) = Sum.inl b:=fun q=>e (Sum.inl.inj q)
  rw [decide_eq_false h]
  exact (beq_eq_false_iff_ne.mpr e).symm
theorem key_rr (a b:Str):decide ((Sum.inr a:Key) = Sum.inr b) = decide (a = b):=by
 by_cases e:a = b
 ·subst e; simp
 ·have h:¬ (Sum.inr a:Key) = Sum.inr b:=fun q=>e (Sum.inr.inj q)
  rw [decide_eq_false h,decide_eq_false e]
theorem key_lr (a:Int) (b:Str):decide ((Sum.inl a:Key) = Sum.inr b) = false:=decide_eq_false (fun q=>nomatch q)
theorem key_rl (a:Str) (b:Int):decide ((Sum.inr a:Key) = Sum.inl b) = false:=decide_eq_false (fun q=>nomatch q)
def mixKind (prog:Program) (w:World):PySem.KeyKind prog w Key where
 is:=keyIs
 hash:=keyH w
 inj:=fun v a b ha hb=>by
  rcases keyIs_shape ha with ⟨i,t,rfl,rfl⟩ | ⟨x,t,rfl,rfl⟩
  ·rcases keyIs_shape hb with ⟨j,u,rfl,e⟩ | ⟨y,u,rfl,e⟩
   ·injection e with e1 _; rw [e1]
   ·exact nomatch e
  ·rcases keyIs_shape hb with ⟨j,u,rfl,e⟩ | ⟨y,u,rfl,e⟩
   ·exact nomatch e
   ·injection e with e1 _; rw [e1]
 byValue:=fun k v h=>by
  rcases keyIs_shape h with ⟨i,t,rfl,rfl⟩ | ⟨x,t,rfl,rfl⟩ <;> rfl
 pyHash:=fun hv h=>by
  rcases keyIs_shape hv with ⟨i,t,rfl,rfl⟩ | ⟨x,t,rfl,rfl⟩
  ·exact wpAny_pyHash_int h
  ·exact wpAny_pyHash_str h
 eqBool:=fun hu hv h=>by
  rcases keyIs_shape hu with ⟨i,t,rfl,rfl⟩ | ⟨x,t,rfl,rfl⟩
  ·rcases keyIs_shape hv with ⟨j,u,rfl,rfl⟩ | ⟨y,u,rfl,rfl⟩
   ·rw [key_ll] at h; exact wpAny_eqBool_int h
   ·rw [key_lr] at h; exact SeqAt.EqAt.int_str i t y u _ _ _ _ h
  ·rcases keyIs_shape hv with ⟨j,u,rfl,rfl⟩ | ⟨y,u,rfl,rfl⟩
   ·rw [key_rl] at h; exact SeqAt.EqAt.str_int x t j u _ _ _ _ h
   ·rw [key_rr] at h; exact wpAny_eqBool_str h
 «strs»:=fun k x t v h=>by
  rcases keyIs_shape h with ⟨i,u,rfl,e⟩ | ⟨y,u,rfl,e⟩
  ·exact nomatch e
  ·injection e with e1 _
   subst e1
   cases v <;> rfl
theorem mixKind_int (prog:Program) (w:World) (i:Int) (t:Tok):(mixKind prog w).is (.inl i) (.int i t) = true:=keyIs_int i t
theorem mixKind_str (prog:Program) (w:World) (x:Str) (t:Tok):(mixKind prog w).is (.inr x) (.str x t) = true:=keyIs_str x t
inductive V where
 | non | bl (b:Bool) | int (i:Int) | str (x:Str) | byt (b:Array UInt8) | flt (b:UInt64) | ref (a:Addr) | ty (n:String)
 deriving DecidableEq
def RelV:V->Value->Prop
 | .non,u=>u = Value.none
 | .bl b,u=>u = Value.bool b
 | .int i,u=>∃ t,u = Value.int i t
 | .str x,u=>∃ t,u = Value.str x t
 | .byt b,u=>∃ t,u = Value.bytes b t
 | .flt b,u=>∃ t,u = Value.float b t
 | .ref a,u=>u = Value.ref a
 | .ty n,u=>u = Value.type n
abbrev Vals:List V->List Value->Prop:=Paired RelV
theorem Vals.length {xs:List V} {us:List Value} (r:Vals xs us):xs.length = us.length:=Paired.length r
theorem Vals.get:∀ {xs:List V} {us:List Value} {i:Nat} {x:V},Vals xs us->xs[i]? = some x->∃ u,us[i]? = some u/\RelV x u
 | _,_,_,_,.nil,e=>by simp at e
 | _,_,0,_,.cons r _,e=>by simp at e; subst e; exact ⟨_,rfl,r⟩
 | _,_,i + 1,x,.cons _ t,e=>by
  obtain ⟨u,h1,h2⟩:=Vals.get (i:=i) (x:=x) t (by simpa using e)
  exact ⟨u,by simpa using h1,h2⟩
theorem Vals.append:∀ {xs ys:List V} {us ws:List Value},Vals xs us->Vals ys ws->Vals (xs ++ ys) (us ++ ws)
 | _,_,_,_,.nil,s=>s
 | _,_,_,_,.cons r t,s=>.cons r (Vals.append t s)
theorem Vals.take:∀ {xs:List V} {us:List Value} (n:Nat),Vals xs us->Vals (xs.take n) (us.take n)
 | _,_,0,_=>.nil
 | _,_,_ + 1,.nil=>.nil
 | _,_,n + 1,.cons r t=>.cons r (Vals.take n t)
theorem Vals.drop:∀ {xs:List V} {us:List Value} (n:Nat),Vals xs us->Vals (xs.drop n) (us.drop n)
 | _,_,0,r=>r
 | _,_,_ + 1,.nil=>.nil
 | _,_,n + 1,.cons _ t=>Vals.drop n t
def RelO:Option V->Option Value->Prop
 | some v,some u=>RelV v u
 | none,none=>True
 | _,_=>False
def KV {κ : Type}:List (κ × V)->List (κ × Value)->Prop:=Paired fun (p : κ × V) (q : κ × Value)=>p.1 = q.1/\RelV p.2 q.2
def kV:Key->V
 | .inl i=>.int i
 | .inr x=>.str x
inductive HO where
 | lst (xs:List V)
 | tup (xs:List V)
 | dK (kvs:List (Key × V)) | dT (kvs:List (List Key × V))
 | set (S:Int->Bool) (n:Nat)
 | ins (C dx:Addr) (fs:List (Str × V))
 | own (x:Addr)
 | xd (fs:List (Str × V))
 | met (f x:Addr)
 | rng (lo hi:Int)
 | frz (o:Obj) (u:HO)
 | tbl (ps:Array Value)
 | ext (φ : Heap->Prop)
abbrev Hp:=Addr->Option HO
def upd (H:Hp) (a:Addr) (o:HO):Hp:=fun b=>if b = a then some o else H b
theorem upd_same {H:Hp} {a:Addr} {o:HO}:upd H a o a = some o:=by unfold upd; rw [if_pos rfl]
theorem upd_ne {H:Hp} {a b:Addr} {o:HO} (h:b ≠ a):upd H a o b = H b:=by unfold upd; rw [if_neg h]
theorem upd_upd {H:Hp} {a:Addr} {o u:HO}:upd (upd H a o) a u = upd H a u:=by
 funext b; unfold upd; split <;> rfl
theorem ne_of {H:Hp} {a b:Addr} {o u:HO} (h:H a = some o) (h':H b = some u) (d:o ≠ u):a ≠ b:=by
 intro e; subst e; rw [h] at h'; exact d (Option.some.inj h')
theorem ne_of_none {H:Hp} {a b:Addr} {o:HO} (h:H a = some o) (h':H b = none):a ≠ b:=by
 intro e; subst e; rw [h] at h'; cases h'
section
variable (P:Program) (w:World)
def ObjOk (H:Hp) (h:Heap) (a:Addr):HO->Prop
 | .lst xs=>xs.length<=sizeLine/\∃ (its:List Value) (n:Nat),Vals xs its/\h.get? a = some { cls:=.type "list",data:=.seq its.toArray n }
 | .tup xs=>xs.length<=sizeLine/\∃ its:List Value,Vals xs its/\IsTup h a its.toArray
 | .dK kvs=>kvs.length<=sizeLine/\(a == sysModules) = false/\∃ vs,KV kvs vs/\h.DictOf (mixKind P w) a vs
 | .dT kvs=>kvs.length<=sizeLine/\(a == sysModules) = false/\∃ xs:List (List Key × Addr × Value),
   Paired (fun (p:List Key × V) (q:List Key × Addr × Value)=>p.1 = q.1/\H q.2.1 = some (.tup (p.1.map kV))/\RelV p.2 q.2.2) kvs xs/\
   ∃ o es ep,h.get? a = some o/\o.ExactDict/\o.data = .dict es ep/\es.toList = xs.map (entryOfKey (tupleKind (mixKind P w)))/\(xs.map (·.1)).Nodup
 | .set S n=>h.SetOf (intKind P w) a S n
 | .ins C dx fs=>H dx = some (.own a)/\fs.length<=1000/\dx ≠ a/\h.get? a = some (instObj C dx)/\
   ∃ mA,h.Ns1 dx mA/\(∀ f,RelO (fs.lookup f) (mA f))/\PySem.Within mA (fs.map (·.1))
 | .own _=>∃ o,h.get? a = some o
 | .xd fs=>∃ mA,h.Ns1 a mA/\∀ f,RelO (fs.lookup f) (mA f)
 | .rng lo hi=>∃ t u v,h.get? a = some { cls:=.type "range",data:=.fields #[.int lo t,.int hi u,.int 1 v] }
 | .frz o u=>h.get? a = some o/\ObjOk H h a u
 | .tbl ps=>h.get? a = some { cls:=.none,data:=.fields ps }
 | .met f x=>h.get? a = some (methodObj (.ref f) (.ref x))
 | .ext φ=>φ h/\(∃ o,h.get? a = some o)/\∀ h1 h2:Heap,φ h1->(∀ o,h1.get? a = some o->h2.get? a = some o)->φ h2
def HOk (H:Hp) (h:Heap):Prop:=∀ a o,H a = some o->ObjOk P w H h a o
end
section
variable {P:Program} {w:World} {H H':Hp} {h h':Heap} {a:Addr} {o:HO}
theorem ObjOk.lt (x:ObjOk P w H h a o):a < h.objs.size:=by
 cases o with
 | lst xs=>obtain ⟨_,_,_,_,e⟩:=x; exact Heap.lt_size e
 | tup xs=>obtain ⟨_,_,_,p⟩:=x; exact p.lt
 | dK kvs=>obtain ⟨_,_,_,_,o,_,_,e,_⟩:=x; exact Heap.lt_size e
 | dT kvs=>obtain ⟨_,_,_,_,o,_,_,e,_⟩:=x; exact Heap.lt_size e
 | set S n=>obtain ⟨o,_,_,_,e,_⟩:=x; exact Heap.lt_size e
 | ins C dx fs=>obtain ⟨_,_,_,e,_⟩:=x; exact Heap.lt_size e
 | own y=>obtain ⟨_,e⟩:=x; exact Heap.lt_size e
 | xd fs=>obtain ⟨_,⟨_,_,_,e,_⟩,_⟩:=x; exact Heap.lt_size e
 | rng lo hi=>obtain ⟨_,_,_,e⟩:=x; exact Heap.lt_size e
 | frz ob u=>obtain ⟨e,_⟩:=x; exact Heap.lt_size e
 | tbl ps=>exact Heap.lt_size (show h.get? a = some _ from x)
 | met f y=>exact Heap.lt_size (show h.get? a = some _ from x)
 | ext φ=>obtain ⟨_,⟨_,e⟩,_⟩:=x; exact Heap.lt_size e
theorem Paired.mapP {α β : Type} {F G : α->β->Prop}:∀ {l₁:List α} {l₂:List β},Paired F l₁ l₂->(∀ a b,F a b->G a b)->Paired G l₁ l₂
 | _,_,.nil,_=>.nil
 | _,_,.cons r t,f=>.cons (f _ _ r) (Paired.mapP t f)
theorem Paired.imp' {α β : Type} {F G : α->β->Prop} (f:∀ a b,F a b->G a b) {l₁:List α} {l₂:List β} (r:Paired F l₁ l₂):Paired G l₁ l₂:=Paired.mapP r f
theorem ObjOk.stay (x:ObjOk P w H h a o) (k:∀ b u,(b = a\/H b = some (.own a))->h.get? b = some u->h'.get? b = some u)
  (ho:∀ b,H b = some (.own a)->H' b = some (.own a)) (ht:∀ b xs,H b = some (.tup xs)->H' b = some (.tup xs)):ObjOk P w H' h' a o:=by
 induction o with
 | lst xs=>obtain ⟨z,its,n,r,e⟩:=x; exact ⟨z,its,n,r,k _ _ (.inl rfl) e⟩
 | tup xs=>obtain ⟨z,its,r,ob,e,c⟩:=x; exact ⟨z,its,r,ob,k _ _ (.inl rfl) e,c⟩
 | dK kvs=>obtain ⟨z,y,vs,r,ob,es,ep,e,c⟩:=x; exact ⟨z,y,vs,r,ob,es,ep,k _ _ (.inl rfl) e,c⟩
 | dT kvs=>
  obtain ⟨z,y,xs,r,ob,es,ep,e,c⟩:=x
  exact ⟨z,y,xs,Paired.mapP r fun p q z=>⟨z.1,ht _ _ z.2.1,z.2.2⟩,ob,es,ep,k _ _ (.inl rfl) e,c⟩
 | set S n=>obtain ⟨ob,es,ep,t,e,c⟩:=x; exact ⟨ob,es,ep,t,k _ _ (.inl rfl) e,c⟩
 | ins C dx fs=>
  obtain ⟨d,z,ne,e,mA,⟨od,es,ep,e2,c⟩,r⟩:=x
  exact ⟨ho _ d,z,ne,k _ _ (.inl rfl) e,mA,⟨od,es,ep,k _ _ (.inr d) e2,c⟩,r⟩
 | own y=>obtain ⟨ob,e⟩:=x; exact ⟨ob,k _ _ (.inl rfl) e⟩
 | xd fs=>obtain ⟨mA,⟨od,es,ep,e,c⟩,r⟩:=x; exact ⟨mA,⟨od,es,ep,k _ _ (.inl rfl) e,c⟩,r⟩
 | rng lo hi=>obtain ⟨t,u,v,e⟩:=x; exact ⟨t,u,v,k _ _ (.inl rfl) e⟩
 | frz ob u ih=>obtain ⟨e,q⟩:=x; exact ⟨k _ _ (.inl rfl) e,ih q⟩
 | tbl ps=>
  have e:h.get? a = some { cls:=.none,data:=.fields ps }:=x
  show h'.get? a = some { cls:=.none,data:=.fields ps }
  exact k a _ (.inl rfl) e
 | met f y=>
  have e:h.get? a = some (methodObj (.ref f) (.ref y)):=x
  show h'.get? a = some (methodObj (.ref f) (.ref y))
  exact k a _ (.inl rfl) e
 | ext φ=>obtain ⟨p,⟨o,e⟩,st⟩:=x; exact ⟨st _ _ p fun o q=>k _ _ (.inl rfl) q,⟨o,k _ _ (.inl rfl) e⟩,st⟩
theorem HOk.lt (x:HOk P w H h) (e:H a = some o):a < h.objs.size:=(x a o e).lt
theorem HOk.fresh (x:HOk P w H h) (e:h.objs.size<=a):H a = none:=by
 cases q:H a with
 | none=>rfl
 | some u=>exact absurd (Nat.lt_of_lt_of_le (x.lt q) e) (Nat.lt_irrefl _)
theorem HOk.kept (x:HOk P w H h) (k:∀ b u,h.get? b = some u->h'.get? b = some u):HOk P w H h':=fun a o e=>
 (x a o e).stay (fun b u _ q=>k b u q) (fun _ q=>q) fun _ _ q=>q
theorem HOk.laid (x:HOk P w H h) (k:∀ b u,h.get? b = some u->h'.get? b = some u) (hp:h.objs.size<=a) (new:ObjOk P w (upd H a o) h' a o):HOk P w (upd H a o) h':=fun b u e=>by
 have hn:=x.fresh hp
 by_cases hb:b = a
 ·subst hb; rw [upd_same] at e; cases e; exact new
 ·rw [upd_ne hb] at e
  exact (x b u e).stay (fun c v _ q=>k c v q) (fun c q=>by rw [upd_ne (ne_of_none q hn)]; exact q) fun c xs q=>by rw [upd_ne (ne_of_none q hn)]; exact q
end
def Rd (H:Hp) (a:Addr) (u:HO):Prop:=H a = some u\/∃ o,H a = some (.frz o u)
theorem Rd.ok {P:Program} {w:World} {H:Hp} {h:Heap} {a:Addr} {u:HO} (r:Rd H a u) (x:HOk P w H h):ObjOk P w H h a u:=by
 rcases r with r | ⟨o,r⟩
 ·exact x a u r
 ·obtain ⟨_,q⟩:=x a _ r
  exact q
def Mut:Option HO->Prop
 | some (.lst _)=>True
 | some (.dK _)=>True
 | some (.dT _)=>True
 | some (.set _ _)=>True
 | some (.ins _ _ _)=>True
 | some (.ext _)=>True
 | _=>False
section
variable {P:Program} {w:World} {H:Hp} {h h':Heap} {x e:Addr} {o':HO}
theorem HOk.write (ok:HOk P w H h) (mu:Mut (H x)) (he:e = x\/H e = some (.own x)) (k:∀ b u,b ≠ e->h.get? b = some u->h'.get? b = some u) (heo:∃ u,h'.get? e = some u)
  (new:ObjOk P w (upd H x o') h' x o'):HOk P w (upd H x o') h':=fun b u q=>by
 have nown:∀ c y,H c = some (.own y)->c ≠ x:=fun c y r z=>by subst z; rw [r] at mu; exact mu
 have ntup:∀ c xs,H c = some (.tup xs)->c ≠ x:=fun c xs r z=>by subst z; rw [r] at mu; exact mu
 by_cases hb:b = x
 ·subst hb; rw [upd_same] at q; cases q; exact new
 ·rw [upd_ne hb] at q
  by_cases hbe:b = e
  ·have q':H b = some (.own x):=by
    rcases he with z | z
    ·exact absurd (hbe.trans z) hb
    ·rw [hbe]; exact z
   rw [q] at q'; cases q'
   obtain ⟨v,hv⟩:=heo
   exact ⟨v,by rw [hbe]; exact hv⟩
  ·refine (ok b u q).stay (fun c v hc r=>k c v ?_ r) (fun c r=>by rw [upd_ne (nown c b r)]; exact r) fun c xs r=>by rw [upd_ne (ntup c xs r)]; exact r
   rcases hc with rfl | hc
   ·exact hbe
   ·rintro rfl
    rcases he with z | z
    ·exact nown c b hc z
    ·rw [hc] at z; cases z; exact hb rfl
end
structure Un (fs ex:List Addr) (H H':Hp) (h h':Heap):Prop where
 keep:∀ b o,h.get? b = some o->H b = none->b ∉ fs->b ∉ ex->h'.get? b = some o
 slot:∀ b o,h.get? b = some o->H b = none->b ∈ fs->b ∉ ex->∃ sl,h'.get? b = some { o with slots:=sl }
 free:∀ b o,h.get? b = some o->H b = none->b ∉ ex->H' b = none
 there:∀ b o,h.get? b = some o->b ∉ ex->∃ o',h'.get? b = some o'
 tups:∀ b xs,H b = some (.tup xs)->H' b = some (.tup xs)
 frzs:∀ b o u,H b = some (.frz o u)->H' b = some (.frz o u)
 tbls:∀ b ps,H b = some (.tbl ps)->∃ more,H' b = some (.tbl (ps ++ more))
section
variable {fs fs' ex ex':List Addr} {H H1 H2:Hp} {h h1 h2 h':Heap} {a x e:Addr} {o:HO}
theorem Un.any (u:Un fs ex H H1 h h1) {b:Addr} {ob:Obj} (q:h.get? b = some ob) (n:H b = none) (hx:b ∉ ex):∃ sl,h1.get? b = some { ob with slots:=sl }:=by
 by_cases hb:b ∈ fs
 ·exact u.slot b ob q n hb hx
 ·exact ⟨ob.slots,u.keep b ob q n hb hx⟩
theorem Un.kept (k:∀ b u,h.get? b = some u->h'.get? b = some u):Un fs ex H H h h':=
 ⟨fun b ob q _ _ _=>k b ob q,fun b ob q _ _ _=>⟨ob.slots,k b ob q⟩,fun _ _ _ n _=>n,fun b ob q _=>⟨ob,k b ob q⟩,fun _ _ q=>q,fun _ _ _ q=>q,fun _ ps q=>⟨#[],by rw [q]; simp⟩⟩
theorem Un.refl:Un fs ex H H h h:=Un.kept fun _ _ q=>q
theorem Un.laid (k:∀ b u,h.get? b = some u->h'.get? b = some u) (hp:h.objs.size<=a) (hn:H a = none):Un fs ex H (upd H a o) h h' where
 keep:=fun b u q _ _ _=>k b u q
 slot:=fun b u q _ _ _=>⟨u.slots,k b u q⟩
 free:=fun b u q n _=>by rw [upd_ne (Nat.ne_of_lt (Nat.lt_of_lt_of_le (Heap.lt_size q) hp))]; exact n
 there:=fun b u q _=>⟨u,k b u q⟩
 tups:=fun b xs q=>by rw [upd_ne (ne_of_none q hn)]; exact q
 frzs:=fun b u xs q=>by rw [upd_ne (ne_of_none q hn)]; exact q
 tbls:=fun b ps q=>⟨#[],by rw [upd_ne (ne_of_none q hn),q]; simp⟩
theorem Un.write (mu:Mut (H x)) (he:e = x\/H e = some (.own x)) (k:∀ b u,b ≠ e->h.get? b = some u->h'.get? b = some u) (heo:∃ u,h'.get? e = some u):Un fs ex H (upd H x o) h h':=by
 have hx:∀ b,H b = none->b ≠ x:=fun b n z=>by subst z; rw [n] at mu; exact mu
 have hb:∀ b,H b = none->b ≠ e:=fun b n z=>by
  subst z
  rcases he with r | r
  ·exact hx b n r
  ·rw [n] at r; cases r
 have hm:∀ b u,H b = some u->¬ Mut (some u)->b ≠ x:=fun b u q nm z=>by subst z; rw [q] at mu; exact nm mu
 refine ⟨fun b u q n _ _=>k b u (hb b n) q,fun b u q n _ _=>⟨u.slots,k b u (hb b n) q⟩,fun b u q n _=>by rw [upd_ne (hx b n)]; exact n,fun b u q _=>?_,
  fun b xs q=>by rw [upd_ne (hm b _ q fun z=>z)]; exact q,fun b u xs q=>by rw [upd_ne (hm b _ q fun z=>z)]; exact q,fun b ps q=>⟨#[],by rw [upd_ne (hm b _ q fun z=>z),q]; simp⟩⟩
 by_cases hbe:b = e
 ·subst hbe; exact heo
 ·exact ⟨u,k b u hbe q⟩
end
def trk (h:Heap) (H:Hp):List Addr:=(List.range h.objs.size).filter fun a=>(H a).isSome
def hidT (h:Heap) (H:Hp):Heap:=hideAll h (trk h H)
theorem hidT_size (h:Heap) (H:Hp):(hidT h H).objs.size = h.objs.size:=PySem.W.hideAll_size _ _
theorem hidT_get {h:Heap} {H:Hp} {b:Addr} {o:Obj} (e:h.get? b = some o) (n:H b = none):(hidT h H).get? b = some o:=
 hideAll_get _ e fun hm=>by
  have q:(H b).isSome = true:=(List.mem_filter.mp hm).2
  rw [n] at q; simp at q
theorem of_hidT {h:Heap} {H:Hp} {b:Addr} {o:Obj} (e:(hidT h H).get? b = some o):h.get? b = some o/\H b = none:=by
 have e':h.get? b = some o:=of_hideAll (trk h H) e
 refine ⟨e',?_⟩
 cases q:H b with
 | none=>rfl
 | some x=>
  have hm:b ∈ trk h H:=List.mem_filter.mpr ⟨List.mem_range.mpr (Heap.lt_size e'),by simp [q]⟩
  have z:(hidT h H).get? b = none:=hideAll_none (trk h H) hm
  rw [z] at e; cases e
def allNews (g h:Heap) (L:Addr):List (Addr × Obj):=(List.range h.objs.size).filterMap fun a=>if a = L\/(g.get? a).isSome = true then none else (h.get? a).map fun o=>(a,o)
def rest (g h:Heap) (L d:Addr):List (Addr × Obj):=(allNews g h L).filter fun p=>decide (p.1 ≠ d)
structure Mod (K:Frag) (mg:Str->Option Value) (base:Heap):Prop where
 kin:K.In base
 glob:base.Ns mainGlobals mg
 blt:∃ mb,base.Ns builtinsNs mb/\∀ x:Str,x ≠ "__name__"->mb x = bootBuiltins x
 nolimit:base.NoLimit
structure Cx where
 prog:Program
 w:World
 K:Frag
 mg:Str->Option Value
 base:Heap
 A:Around
 N:List Str
 s₀:Shared
 H₀:Hp
 env:Env
 outer:List Env
 stack:List Env
 ex:List Addr
 fn:Str->Bool
 calm:Bool
 pn:List (Addr × Obj)
 xe:Value->Shared->Prop
def frs (l:List Env):List Addr:=l.filterMap (·.frame)
abbrev Cx.fs (X:Cx):List Addr:=frs X.outer
def Vis (sc:Scope) (x:Str):Prop:=sc.names.lookup x = some .local\/sc.names.lookup x = some .cell\/sc.names.lookup x = some .free
def Loc (sc:Scope) (x:Str):Prop:=sc.names.lookup x = some .local\/sc.names.lookup x = some .cell
def Look (env:Env) (h:Heap) (m:Str->Option Value) (x:Str) (u:Value):Prop:=
 (env.kindOf x = some .local/\m x = some u)\/((env.kindOf x = some .cell\/env.kindOf x = some .free)/\∃ c,env.cells.lookup x = some c/\h.IsCell c (some u))
structure Cx.Ok (X:Cx):Prop where
 mod:Mod X.K X.mg X.base
 kind:X.env.scope.kind = .function
 glob:X.env.globals = mainGlobals
 blt:X.env.builtins = builtinsNs
 above:X.s₀.heap.objs.size<=X.env.locals
 inj:∀ x y c,X.env.cells.lookup x = some c->X.env.cells.lookup y = some c->x = y
 has:∀ x,(X.env.kindOf x = some .cell\/X.env.kindOf x = some .free)->∃ c,X.env.cells.lookup x = some c
 cab:∀ x c,X.fn x = true->X.env.cells.lookup x = some c->X.s₀.heap.objs.size<=c
 hd:X.calm = true->X.A.handled = none
 frames:X.A.frames = some X.stack
 stk:X.stack = X.outer\/(X.stack = X.env :: X.outer/\X.env.frame = some X.env.locals)
 exf:∀ b ∈ X.ex,b ≠ X.env.locals/\∀ x c,X.env.cells.lookup x = some c->c ≠ b
 bs:∀ b o,X.base.get? b = some o->X.s₀.heap.get? b = some o/\X.H₀ b = none
 bsz:X.base.objs.size<=X.s₀.heap.objs.size
 noex:∀ b o,X.base.get? b = some o->b ∉ X.ex
 exfs:∀ b ∈ X.ex,b ∉ X.fs
 funs:X.s₀.heap.FunFrames X.base X.outer
 frf:∀ b ∈ X.fs,X.H₀ b = none
structure Inv (X:Cx) (pins:List (Addr × Obj)) (σ : List (Option V)) (H:Hp) (s:Shared):Prop where
 ok:X.Ok
 os:s.os = X.s₀.os
 bare:AllBare s.gens
 base:Un X.fs X.ex X.H₀ H X.s₀.heap s.heap
 loc:∃ m,s.heap.Ns X.env.locals m/\∀ (i:Nat) (x:Str) (v:V),X.N[i]? = some x->σ[i]? = some (some v)->Vis X.env.scope x->∃ u,RelV v u/\Look X.env s.heap m x u
 cell:∀ x c,X.env.cells.lookup x = some c->∃ v,s.heap.IsCell c v
 free:H X.env.locals = none
 freeC:∀ x c,X.env.cells.lookup x = some c->H c = none
 pin:∀ p ∈ X.pn ++ pins,s.heap.get? p.1 = some p.2/\H p.1 = none/\p.1 ≠ X.env.locals/\p.1 ∉ X.fs/\∀ v,p.2.data ≠ .cell v
 hok:HOk X.prog X.w H s.heap
 len : σ.length = X.N.length
section
variable {X:Cx} {pins:List (Addr × Obj)} {σ : List (Option V)} {H H':Hp} {s:Shared} {h':Heap}
theorem Cx.Ok.nofr (ok:X.Ok) {b:Addr} {o:Obj} (e:X.base.get? b = some o):b ∉ X.fs:=fun hb=>by
 have:=(ok.funs.mem hb).1
 rw [e] at this; cases this
theorem Inv.bs (I:Inv X pins σ H s):∀ b o,X.base.get? b = some o->s.heap.get? b = some o/\H b = none:=fun b o e=>
 ⟨I.base.keep b o (I.ok.bs b o e).1 (I.ok.bs b o e).2 (I.ok.nofr e) (I.ok.noex b o e),I.base.free b o (I.ok.bs b o e).1 (I.ok.bs b o e).2 (I.ok.noex b o e)⟩
theorem Inv.bk (I:Inv X pins σ H s):∀ b o,X.base.get? b = some o->s.heap.get? b = some o:=fun b o e=>(I.bs b o e).1
theorem Inv.mod (I:Inv X pins σ H s):Mod X.K X.mg X.base:=I.ok.mod
theorem Inv.kIn (I:Inv X pins σ H s):X.K.In s.heap:=I.ok.mod.kin.keeps I.bk
theorem Inv.fr (I:Inv X pins σ H s):∃ m,Fr X.base X.env.locals s.heap m:=
 let ⟨m,hn,_⟩:=I.loc
 ⟨m,hn,I.bk,Nat.le_trans I.ok.bsz I.ok.above⟩
theorem Inv.lt (I:Inv X pins σ H s):X.env.locals < s.heap.objs.size:=let ⟨_,hn,_⟩:=I.loc; hn.lt
theorem Inv.sz (I:Inv X pins σ H s):X.s₀.heap.objs.size<=s.heap.objs.size:=Nat.le_trans I.ok.above (Nat.le_of_lt I.lt)
theorem Inv.nofs (I:Inv X pins σ H s) {a:Addr} (h:s.heap.objs.size<=a):a ∉ X.fs:=fun hb=>by
 obtain ⟨_,o,ho,_⟩:=I.ok.funs.mem hb
 exact absurd (Nat.lt_of_lt_of_le (Heap.lt_size ho) (Nat.le_trans I.sz h)) (Nat.lt_irrefl _)
theorem Inv.cne (I:Inv X pins σ H s):∀ x c,X.env.cells.lookup x = some c->c ≠ X.env.locals:=fun x c e z=>by
 obtain ⟨v,o,ho,hd⟩:=I.cell x c e
 obtain ⟨m,⟨o',es,ep,ho',hd',_⟩,_⟩:=I.loc
 rw [z,ho'] at ho; cases ho; rw [hd'] at hd; cases hd
theorem Inv.funs (I:Inv X pins σ H s):s.heap.FunFrames X.base X.outer:=by
 have all:∀ (l:List Env),(∀ b ∈ frs l,b ∈ X.fs)->X.s₀.heap.FunFrames X.base l->s.heap.FunFrames X.base l:=by
  intro l
  induction l with
  | nil=>intro _ _; trivial
  | cons env r ih=>
   intro hs hl
   obtain ⟨hk,⟨L,o,hf,hn,ho,hd⟩,hr⟩:=hl
   have hL:L ∈ X.fs:=hs L (by unfold frs; rw [List.filterMap_cons,hf]; exact List.mem_cons_self)
   obtain ⟨sl,e⟩:=I.base.slot L o ho (I.ok.frf L hL) hL fun z=>I.ok.exfs L z hL
   exact ⟨hk,⟨L,_,hf,hn,e,hd⟩,ih (fun b hb=>hs b (by unfold frs; rw [List.filterMap_cons,hf]; exact List.mem_cons_of_mem _ hb)) hr⟩
 exact all X.outer (fun _ hb=>hb) I.ok.funs
theorem Inv.stack (I:Inv X pins σ H s):s.heap.FunFrames X.base X.stack:=by
 rcases I.ok.stk with e | ⟨e,hf⟩
 ·rw [e]; exact I.funs
 ·rw [e]
  obtain ⟨m,hn,_⟩:=I.loc
  refine .cons (by rw [I.ok.kind]; decide) hf hn ?_ I.funs
  exact Heap.get?_none_of_le (Nat.le_trans I.ok.bsz I.ok.above)
theorem Inv.stkSub (I:Inv X pins σ H s):∀ b ∈ frs X.stack,b ∈ X.env.locals :: X.fs:=fun b hb=>by
 rcases I.ok.stk with e | ⟨e,hf⟩
 ·rw [e] at hb; exact List.mem_cons_of_mem _ hb
 ·rw [e] at hb
  unfold frs at hb
  rw [List.filterMap_cons,hf] at hb
  exact hb
theorem Inv.stkFree (I:Inv X pins σ H s):∀ b ∈ frs X.stack,H b = none:=fun b hb=>by
 rcases List.mem_cons.mp (I.stkSub b hb) with e | hb
 ·rw [e]; exact I.free
 ·obtain ⟨_,o,ho,_⟩:=I.ok.funs.mem hb
  exact I.base.free b o ho (I.ok.frf b hb) fun z=>I.ok.exfs b z hb
theorem Inv.step {g':Array GenState} {t':Nat} {d':Drawn} {ch:List Addr} (I:Inv X pins σ H s)
  (hch:∀ b ∈ ch,(b ∈ X.ex\/X.s₀.heap.objs.size<=b)/\b ≠ X.env.locals/\(∀ x c,X.env.cells.lookup x = some c->c ≠ b)/\∀ p ∈ X.pn ++ pins,p.1 ≠ b)
  (keep:∀ b o,b ≠ X.env.locals->b ∉ X.fs->b ∉ ch->s.heap.get? b = some o->H b = none->h'.get? b = some o)
  (slot:∀ b o,b ≠ X.env.locals->b ∈ X.fs->b ∉ ch->s.heap.get? b = some o->H b = none->∃ sl,h'.get? b = some { o with slots:=sl }) (free:∀ b o,b ∉ ch->s.heap.get? b = some o->H b = none->H' b = none)
  (there:∀ b o,b ∉ ch->s.heap.get? b = some o->∃ o',h'.get? b = some o')
  (tups:∀ b xs,H b = some (.tup xs)->H' b = some (.tup xs)) (frzs:∀ b o u,H b = some (.frz o u)->H' b = some (.frz o u)) (tbls:∀ b ps,H b = some (.tbl ps)->∃ more,H' b = some (.tbl (ps ++ more)))
  (ns:∀ m,s.heap.Ns X.env.locals m->h'.Ns X.env.locals m) (hok:HOk X.prog X.w H' h') (hg:AllBare g') :
  Inv X pins σ H' { s with heap:=h',gens:=g',drawn:=d',toks:=t' }:=by
 have neL:∀ b o,X.s₀.heap.get? b = some o->b ≠ X.env.locals:=fun b o e=>Nat.ne_of_lt (Nat.lt_of_lt_of_le (Heap.lt_size e) I.ok.above)
 have neC:∀ b o,X.s₀.heap.get? b = some o->b ∉ X.ex->b ∉ ch:=fun b o e hx hb=>by
  rcases (hch b hb).1 with z | z
  ·exact hx z
  ·exact absurd (Nat.lt_of_lt_of_le (Heap.lt_size e) z) (Nat.lt_irrefl _)
 have cellK:∀ x c,X.env.cells.lookup x = some c->∀ v,s.heap.IsCell c v->h'.IsCell c v:=fun x c e v ⟨o,ho,hd⟩=>by
  have nch:c ∉ ch:=fun z=>(hch c z).2.2.1 x c e rfl
  by_cases hc:c ∈ X.fs
  ·obtain ⟨sl,q⟩:=slot c o (I.cne x c e) hc nch ho (I.freeC x c e)
   exact ⟨_,q,hd⟩
  ·exact ⟨o,keep c o (I.cne x c e) hc nch ho (I.freeC x c e),hd⟩
 refine ⟨I.ok,I.os,hg,⟨fun b o e n hb hx=>?_,fun b o e n hb hx=>?_,fun b o e n hx=>?_,fun b o e hx=>?_,fun b xs e=>tups b xs (I.base.tups b xs e),fun b o xs e=>frzs b o xs (I.base.frzs b o xs e),fun b ps e=>?_⟩,?_,fun x c e=>?_,?_,fun x c e=>?_,fun p hp=>?_,hok,I.len⟩
 ·exact keep b o (neL b o e) hb (neC b o e hx) (I.base.keep b o e n hb hx) (I.base.free b o e n hx)
 ·obtain ⟨sl,e1⟩:=I.base.slot b o e n hb hx
  obtain ⟨sl',e2⟩:=slot b _ (neL b o e) hb (neC b o e hx) e1 (I.base.free b o e n hx)
  exact ⟨sl',e2⟩
 ·obtain ⟨o',e1⟩:=I.base.there b o e hx
  exact free b o' (neC b o e hx) e1 (I.base.free b o e n hx)
 ·obtain ⟨o',e1⟩:=I.base.there b o e hx
  exact there b o' (neC b o e hx) e1
 ·obtain ⟨m1,e1⟩:=I.base.tbls b ps e
  obtain ⟨m2,e2⟩:=tbls b _ e1
  exact ⟨m1 ++ m2,by rw [e2,Array.append_assoc]⟩
 ·obtain ⟨m,hn,hl⟩:=I.loc
  refine ⟨m,ns m hn,fun i x v e1 e2 e3=>?_⟩
  obtain ⟨u,r,l⟩:=hl i x v e1 e2 e3
  refine ⟨u,r,?_⟩
  rcases l with l | ⟨k,c,e,z⟩
  ·exact .inl l
  ·exact .inr ⟨k,c,e,cellK x c e _ z⟩
 ·obtain ⟨v,z⟩:=I.cell x c e
  exact ⟨v,cellK x c e v z⟩
 ·obtain ⟨m,⟨o,_,_,ho,_⟩,_⟩:=I.loc
  exact free _ o (fun z=>(hch _ z).2.1 rfl) ho I.free
 ·obtain ⟨v,o,ho,hd⟩:=I.cell x c e
  exact free c o (fun z=>(hch c z).2.2.1 x c e rfl) ho (I.freeC x c e)
 ·obtain ⟨e,n,ne,nf,d⟩:=I.pin p hp
  have nch:p.1 ∉ ch:=fun z=>(hch p.1 z).2.2.2 p hp rfl
  exact ⟨keep p.1 p.2 ne nf nch e n,free p.1 p.2 nch e n,ne,nf,d⟩
theorem Inv.un {t':Nat} (I:Inv X pins σ H s) (u:Un X.fs [] H H' s.heap h') (hok:HOk X.prog X.w H' h'):Inv X pins σ H' { s with heap:=h',toks:=t' }:=by
 obtain ⟨m,⟨o,es,ep,ho,r⟩,_⟩:=id I.loc
 obtain ⟨sl,hL⟩:=u.any ho I.free (by simp)
 exact I.step (g':=s.gens) (d':=s.drawn) (ch:=[]) (fun _ z=>nomatch z) (fun b o _ hb _ e n=>u.keep b o e n hb (by simp)) (fun b o _ hb _ e n=>u.slot b o e n hb (by simp)) (fun b o _ e n=>u.free b o e n (by simp)) (fun b o _ e=>u.there b o e (by simp)) u.tups u.frzs u.tbls (fun m' hm=>by
  obtain ⟨o',es',ep',ho',r'⟩:=hm
  rw [ho] at ho'; cases ho'
  exact ⟨_,es',ep',hL,r'⟩) hok I.bare
theorem Inv.call {g':Array GenState} {t':Nat} {d':Drawn} {ch:List Addr} (I:Inv X pins σ H s) (u:Un (frs X.stack) ch H H' s.heap h') (hok:HOk X.prog X.w H' h') (hg:AllBare g')
  (hch:∀ b ∈ ch,(b ∈ X.ex\/X.s₀.heap.objs.size<=b)/\b ≠ X.env.locals/\(∀ x c,X.env.cells.lookup x = some c->c ≠ b)/\∀ p ∈ X.pn ++ pins,p.1 ≠ b) :
  Inv X pins σ H' { s with heap:=h',gens:=g',drawn:=d',toks:=t' }:=by
 obtain ⟨m,⟨o,es,ep,ho,r⟩,_⟩:=id I.loc
 obtain ⟨sl,hL⟩:=u.any ho I.free fun z=>(hch _ z).2.1 rfl
 exact I.step (ch:=ch) hch (fun b o hL hb hc e n=>u.keep b o e n (fun z=>(List.mem_cons.mp (I.stkSub b z)).elim hL hb) hc) (fun b o _ _ hc e n=>u.any e n hc) (fun b o hc e n=>u.free b o e n hc) (fun b o hc e=>u.there b o e hc) u.tups u.frzs u.tbls (fun m' hm=>by
  obtain ⟨o',es',ep',ho',r'⟩:=hm
  rw [ho] at ho'; cases ho'
  exact ⟨_,es',ep',hL,r'⟩) hok hg
theorem Inv.turned {t':Nat} {it:Addr} (I:Inv X pins σ H s) (k:∀ b o,b ≠ it->s.heap.get? b = some o->h'.get? b = some o) (hn:H it = none) (hL:it ≠ X.env.locals)
  (h1:it ∈ X.ex\/X.s₀.heap.objs.size<=it) (h2:∀ x c,X.env.cells.lookup x = some c->c ≠ it) (h3:∀ p ∈ X.pn ++ pins,p.1 ≠ it):Inv X pins σ H { s with heap:=h',toks:=t' }:=by
 have nit:∀ b u,H b = some u->b ≠ it:=fun b u e z=>by rw [z,hn] at e; cases e
 refine I.step (g':=s.gens) (d':=s.drawn) (ch:=[it]) (fun b hb=>?_) (fun b o _ _ hc e _=>k b o (fun z=>hc (by simp [z])) e) (fun b o _ _ hc e _=>⟨o.slots,k b o (fun z=>hc (by simp [z])) e⟩) (fun _ _ _ _ n=>n)
  (fun b o hc e=>⟨o,k b o (fun z=>hc (by simp [z])) e⟩) (fun _ _ e=>e) (fun _ _ _ e=>e) (fun b ps e=>⟨#[],by rw [e]; simp⟩) (fun m hm=>?_) (fun b u e=>?_) I.bare
 ·have e:b = it:=by simpa using hb
  subst e
  exact ⟨h1,hL,h2,h3⟩
 ·obtain ⟨o,es,ep,ho,r⟩:=hm
  exact ⟨o,es,ep,k _ o (Ne.symm hL) ho,r⟩
 ·refine (I.hok b u e).stay (fun c v hc q=>k c v ?_ q) (fun _ q=>q) fun _ _ q=>q
  rcases hc with z | z
  ·rw [z]; exact nit b u e
  ·exact nit c _ z
theorem Inv.tok (I:Inv X pins σ H s) (t:Nat):Inv X pins σ H { s with toks:=t }:=I.un (h':=s.heap) (t':=t) Un.refl I.hok
theorem Inv.kept {t':Nat} (I:Inv X pins σ H s) (k:∀ b u,s.heap.get? b = some u->h'.get? b = some u):Inv X pins σ H { s with heap:=h',toks:=t' }:=I.un (Un.kept k) (I.hok.kept k)
theorem Inv.laid {a:Addr} {o:HO} {t':Nat} (I:Inv X pins σ H s) (k:∀ b u,s.heap.get? b = some u->h'.get? b = some u) (hp:s.heap.objs.size<=a) (new:ObjOk X.prog X.w (upd H a o) h' a o) :
  Inv X pins σ (upd H a o) { s with heap:=h',toks:=t' }:=I.un (Un.laid k hp (I.hok.fresh hp)) (I.hok.laid k hp new)
theorem Inv.write {x e:Addr} {o:HO} {t':Nat} (I:Inv X pins σ H s) (mu:Mut (H x)) (he:e = x\/H e = some (.own x)) (k:∀ b u,b ≠ e->s.heap.get? b = some u->h'.get? b = some u) (heo:∃ u,h'.get? e = some u)
  (new:ObjOk X.prog X.w (upd H x o) h' x o):Inv X pins σ (upd H x o) { s with heap:=h',toks:=t' }:=I.un (Un.write mu he k heo) (I.hok.write mu he k heo new)
theorem Inv.weak {σ':List (Option V)} (I:Inv X pins σ H s) (hl : σ'.length = σ.length) (w:∀ (i:Nat) v,σ'[i]? = some (some v)->σ[i]? = some (some v)):Inv X pins σ' H s:=
 ⟨I.ok,I.os,I.bare,I.base,let ⟨m,hn,hl'⟩:=I.loc; ⟨m,hn,fun i x v e1 e2 e3=>hl' i x v e1 (w i v e2) e3⟩,I.cell,I.free,I.freeC,I.pin,I.hok,hl.trans I.len⟩
theorem Inv.pins_of {pins':List (Addr × Obj)} (I:Inv X pins σ H s) (h:∀ p ∈ pins',s.heap.get? p.1 = some p.2/\H p.1 = none/\p.1 ≠ X.env.locals/\p.1 ∉ X.fs/\∀ v,p.2.data ≠ .cell v):Inv X pins' σ H s:=
 ⟨I.ok,I.os,I.bare,I.base,I.loc,I.cell,I.free,I.freeC,fun p hp=>(List.mem_append.mp hp).elim (fun z=>I.pin p (List.mem_append_left _ z)) (h p),I.hok,I.len⟩
theorem nodup_ix {N:List Str} (hN:N.Nodup) {i j:Nat} {x:Str} (a:N[i]? = some x) (b:N[j]? = some x):i = j:=by
 obtain ⟨h1,e1⟩:=List.getElem?_eq_some_iff.mp a
 obtain ⟨h2,e2⟩:=List.getElem?_eq_some_iff.mp b
 exact (List.getElem_inj hN).mp (e1.trans e2.symm)
theorem store_ok2 {M:Model} {A:Around} {E:Value->Shared->Prop} {i:Nat} {x:Str} {v:V} {u:Value} {Q:Unit->Shared->Prop} (I:Inv X pins σ H s) (hN:X.N.Nodup) (hi:X.N[i]? = some x) (hx:Loc X.env.scope x) (r:RelV v u)
  (h:∀ s',Inv X pins (σ.set i (some v)) H s'->(∃ a,Heap.SameBut a s.heap s'.heap/\(a = X.env.locals\/X.env.cells.lookup x = some a))->Q () s') (hf:X.fn x = true\/X.env.scope.names.lookup x = some .local:=by first | exact .inl rfl | exact .inr rfl | assumption):wpAny M A (storeName X.env x u) Q E s:=by
 obtain ⟨m,hn,hl⟩:=id I.loc
 have hcls:(X.env.scope.kind == .class || (X.env.scope.kind == .module && X.env.locals != X.env.globals)) = false:=by rw [I.ok.kind]; rfl
 have hiσ : i < σ.length:=by rw [I.len]; exact (List.getElem?_eq_some_iff.mp hi).1
 have cne:=I.cne
 have tracked:∀ {a:Addr} {h':Heap},(∃ o,s.heap.get? a = some o/\H a = none)->Heap.SameBut a s.heap h'->HOk X.prog X.w H h':=fun {a h'} ha hs b ob e=>by
  obtain ⟨_,_,hfree⟩:=ha
  refine (I.hok b ob e).stay (fun c w' hc q=>(hs.2 c ?_).trans q) (fun _ q=>q) fun _ _ q=>q
  rintro rfl
  rcases hc with rfl | hc
  ·rw [hfree] at e; cases e
  ·rw [hfree] at hc; cases hc
 rcases hx with hk | hk
 ·refine wpAny_storeName_local hk hn (fun h' hn' hs=>?_) hcls
  obtain ⟨oL,_,_,hoL,_⟩:=id hn
  refine h _ ⟨I.ok,I.os,I.bare,⟨fun b o e n hb hx=>?_,fun b o e n hb hx=>?_,I.base.free,fun b o e hx=>?_,I.base.tups,I.base.frzs,I.base.tbls⟩,⟨_,hn',fun j y v' e1 e2 e3=>?_⟩,fun y c e=>?_,I.free,I.freeC,fun p hp=>?_,tracked ⟨oL,hoL,I.free⟩ hs,by simpa using I.len⟩ ⟨_,hs,.inl rfl⟩
  ·exact (hs.2 b (Nat.ne_of_lt (Nat.lt_of_lt_of_le (Heap.lt_size e) I.ok.above))).trans (I.base.keep b o e n hb hx)
  ·obtain ⟨sl,e1⟩:=I.base.slot b o e n hb hx
   exact ⟨sl,(hs.2 b (Nat.ne_of_lt (Nat.lt_of_lt_of_le (Heap.lt_size e) I.ok.above))).trans e1⟩
  ·obtain ⟨o',e1⟩:=I.base.there b o e hx
   exact ⟨o',(hs.2 b (Nat.ne_of_lt (Nat.lt_of_lt_of_le (Heap.lt_size e) I.ok.above))).trans e1⟩
  ·by_cases hj:j = i
   ·subst hj
    rw [hi] at e1; cases e1
    rw [List.getElem?_set_self hiσ] at e2
    cases e2
    exact ⟨u,r,.inl ⟨hk,by simp⟩⟩
   ·rw [List.getElem?_set_ne (Ne.symm hj)] at e2
    obtain ⟨u',r',q⟩:=hl j y v' e1 e2 e3
    refine ⟨u',r',?_⟩
    rcases q with ⟨k,e⟩ | ⟨k,c,e,z⟩
    ·refine .inl ⟨k,?_⟩
     have:y ≠ x:=fun e=>hj (nodup_ix hN e1 (e ▸ hi))
     simp [this,e]
    ·exact .inr ⟨k,c,e,z.sameBut hs (cne y c e)⟩
  ·obtain ⟨w',z⟩:=I.cell y c e
   exact ⟨w',z.sameBut hs (cne y c e)⟩
  ·obtain ⟨e,n,ne,nf,d⟩:=I.pin p hp
   exact ⟨(hs.2 p.1 ne).trans e,n,ne,nf,d⟩
 ·have hfn:X.fn x = true:=by
   rcases hf with z | z
   ·exact z
   ·rw [z] at hk; cases hk
  obtain ⟨c,hc⟩:=I.ok.has x (.inl hk)
  obtain ⟨w',z⟩:=I.cell x c hc
  refine wpAny_storeName_cell I.ok.kind hk hc z (fun h' hc' hs=>?_)
  obtain ⟨oc,hoc,hocd⟩:=id z
  refine h { s with heap:=h' } ⟨I.ok,I.os,I.bare,⟨fun b o e n hb hx=>?_,fun b o e n hb hx=>?_,I.base.free,fun b o e hx=>?_,I.base.tups,I.base.frzs,I.base.tbls⟩,⟨m,hn.sameBut hs (Ne.symm (cne x c hc)),fun j y v' e1 e2 e3=>?_⟩,fun y c' e=>?_,I.free,I.freeC,fun p hp=>?_,tracked ⟨oc,hoc,I.freeC x c hc⟩ hs,by simpa using I.len⟩ ⟨c,hs,.inr hc⟩
  ·exact (hs.2 b (Nat.ne_of_lt (Nat.lt_of_lt_of_le (Heap.lt_size e) (I.ok.cab x c hfn hc)))).trans (I.base.keep b o e n hb hx)
  ·obtain ⟨sl,e1⟩:=I.base.slot b o e n hb hx
   exact ⟨sl,(hs.2 b (Nat.ne_of_lt (Nat.lt_of_lt_of_le (Heap.lt_size e) (I.ok.cab x c hfn hc)))).trans e1⟩
  ·obtain ⟨o',e1⟩:=I.base.there b o e hx
   exact ⟨o',(hs.2 b (Nat.ne_of_lt (Nat.lt_of_lt_of_le (Heap.lt_size e) (I.ok.cab x c hfn hc)))).trans e1⟩
  ·by_cases hj:j = i
   ·subst hj
    rw [hi] at e1; cases e1
    rw [List.getElem?_set_self hiσ] at e2
    cases e2
    exact ⟨u,r,.inr ⟨.inl hk,c,hc,hc'⟩⟩
   ·rw [List.getElem?_set_ne (Ne.symm hj)] at e2
    obtain ⟨u',r',q⟩:=hl j y v' e1 e2 e3
    refine ⟨u',r',?_⟩
    rcases q with q | ⟨k,c',e,z'⟩
    ·exact .inl q
    ·refine .inr ⟨k,c',e,z'.sameBut hs ?_⟩
     rintro rfl
     exact hj (nodup_ix hN e1 (I.ok.inj _ _ _ e hc ▸ hi))
  ·by_cases hcc:c' = c
   ·subst hcc; exact ⟨_,hc'⟩
   ·obtain ⟨w2,z2⟩:=I.cell y c' e
    exact ⟨w2,z2.sameBut hs hcc⟩
  ·obtain ⟨e,n,ne,nf,d⟩:=I.pin p hp
   refine ⟨(hs.2 p.1 ?_).trans e,n,ne,nf,d⟩
   intro q
   rw [q,hoc] at e
   have q':oc = p.2:=Option.some.inj e
   exact d w' (by rw [<- q']; exact hocd)
theorem store_ok {M:Model} {A:Around} {E:Value->Shared->Prop} {i:Nat} {x:Str} {v:V} {u:Value} {Q:Unit->Shared->Prop} (I:Inv X pins σ H s) (hN:X.N.Nodup) (hi:X.N[i]? = some x) (hx:Loc X.env.scope x) (r:RelV v u)
  (h:∀ s',Inv X pins (σ.set i (some v)) H s'->Q () s') (hf:X.fn x = true\/X.env.scope.names.lookup x = some .local:=by first | exact .inl rfl | exact .inr rfl | assumption):wpAny M A (storeName X.env x u) Q E s:=
 store_ok2 I hN hi hx r (fun s' I' _=>h s' I') hf
theorem Inv.call' {s':Shared} {ch:List Addr} (I:Inv X pins σ H s) (ho:s'.os = s.os) (u:Un (frs X.stack) ch H H' s.heap s'.heap) (hok:HOk X.prog X.w H' s'.heap) (hg:AllBare s'.gens)
  (hch:∀ b ∈ ch,(b ∈ X.ex\/X.s₀.heap.objs.size<=b)/\b ≠ X.env.locals/\(∀ x c,X.env.cells.lookup x = some c->c ≠ b)/\∀ p ∈ X.pn ++ pins,p.1 ≠ b):Inv X pins σ H' s':=by
 obtain ⟨h',g',d',t',o'⟩:=s'
 have e:o' = s.os:=ho
 subst e
 exact I.call (g':=g') (t':=t') (d':=d') u hok hg hch
end
abbrev XK:=Value->Option Addr->Hp->Prop
abbrev St:=List (Option V)
abbrev VK:=V->Hp->Prop
abbrev TE:=St->Hp->VK->Prop
abbrev TT:=St->Hp->(Bool->Hp->Prop)->Prop
abbrev TA:=St->Hp->(List V->Hp->Prop)->Prop
structure Ends where
 nx:St->Hp->Prop
 rt:VK
 bk:St->Hp->Prop:=fun _ _=>False
 ct:St->Hp->Prop:=fun _ _=>False
abbrev TS:=Ends->St->Hp->Prop
def EP (X:Cx) (pins:List (Addr × Obj)) (σ : St) (Q:VK) (u:Value) (s':Shared):Prop:=∃ v H',Inv X pins σ H' s'/\RelV v u/\Q v H'
def TP (X:Cx) (pins:List (Addr × Obj)) (σ : St) (Q:Bool->Hp->Prop) (b:Bool) (s':Shared):Prop:=∃ H',Inv X pins σ H' s'/\Q b H'
def AP (X:Cx) (pins:List (Addr × Obj)) (σ : St) (Q:List V->Hp->Prop) (us:List Value) (s':Shared):Prop:=∃ vs H',Inv X pins σ H' s'/\Vals vs us/\Q vs H'
def SP (X:Cx) (pins:List (Addr × Obj)) (D:Ends) (f:Flow) (s':Shared):Prop:=
 match f with
 | .next=>∃ σ' H',Inv X pins σ' H' s'/\D.nx σ' H'
 | .brk=>∃ σ' H',Inv X pins σ' H' s'/\D.bk σ' H'
 | .cont=>∃ σ' H',Inv X pins σ' H' s'/\D.ct σ' H'
 | .ret u=>∃ v σ' H',Inv X pins σ' H' s'/\RelV v u/\D.rt v H'
structure PE (X:Cx) (e:Expr) (t:TE):Prop where
 run:∀ (pins:List (Addr × Obj)) (s:Shared) (σ : St) (H:Hp) (Q:VK),Inv X pins σ H s->t σ H Q->wpAny (model X.prog X.w) X.A (eval e X.env) (EP X pins σ Q) X.xe s
instance {X:Cx} {e:Expr} {t:TE}:CoeFun (PE X e t) (fun _=>∀ (pins:List (Addr × Obj)) (s:Shared) (σ : St) (H:Hp) (Q:VK),Inv X pins σ H s->t σ H Q->wpAny (model X.prog X.w) X.A (eval e X.env) (EP X pins σ Q) X.xe s):=⟨PE.run⟩
structure PT (X:Cx) (e:Expr) (t:TT):Prop where
 run:∀ (pins:List (Addr × Obj)) (s:Shared) (σ : St) (H:Hp) (Q:Bool->Hp->Prop),Inv X pins σ H s->t σ H Q->wpAny (model X.prog X.w) X.A (isTrue e X.env (eval e X.env)) (TP X pins σ Q) X.xe s
instance {X:Cx} {e:Expr} {t:TT}:CoeFun (PT X e t) (fun _=>∀ (pins:List (Addr × Obj)) (s:Shared) (σ : St) (H:Hp) (Q:Bool->Hp->Prop),Inv X pins σ H s->t σ H Q->wpAny (model X.prog X.w) X.A (isTrue e X.env (eval e X.env)) (TP X pins σ Q) X.xe s):=⟨PT.run⟩
structure PW (X:Cx) (e:Expr) (t:TT):Prop where
 run:∀ (whole:Sem Value) (pins:List (Addr × Obj)) (s:Shared) (σ : St) (H:Hp) (Q:Bool->Hp->Prop),Inv X pins σ H s->t σ H Q->wpAny (model X.prog X.w) X.A (isTrue e X.env whole) (TP X pins σ Q) X.xe s
instance {X:Cx} {e:Expr} {t:TT}:CoeFun (PW X e t) (fun _=>∀ (whole:Sem Value) (pins:List (Addr × Obj)) (s:Shared) (σ : St) (H:Hp) (Q:Bool->Hp->Prop),Inv X pins σ H s->t σ H Q->wpAny (model X.prog X.w) X.A (isTrue e X.env whole) (TP X pins σ Q) X.xe s):=⟨PW.run⟩
theorem PW.pt {X:Cx} {e:Expr} {t:TT} (h:PW X e t):PT X e t:=⟨h _⟩
structure PA (X:Cx) (es:List Expr) (t:TA):Prop where
 run:∀ (pos:Pos) (pins:List (Addr × Obj)) (s:Shared) (σ : St) (H:Hp) (Q:List V->Hp->Prop),Inv X pins σ H s->t σ H Q->wpAny (model X.prog X.w) X.A (spliced (backTo pos (starEach es X.env))) (AP X pins σ Q) X.xe s
instance {X:Cx} {es:List Expr} {t:TA}:CoeFun (PA X es t) (fun _=>∀ (pos:Pos) (pins:List (Addr × Obj)) (s:Shared) (σ : St) (H:Hp) (Q:List V->Hp->Prop),Inv X pins σ H s->t σ H Q->wpAny (model X.prog X.w) X.A (spliced (backTo pos (starEach es X.env))) (AP X pins σ Q) X.xe s):=⟨PA.run⟩
structure PS (X:Cx) (st:Stmt) (t:TS):Prop where
 run:∀ (pins:List (Addr × Obj)) (s:Shared) (σ : St) (H:Hp) (D:Ends),Inv X pins σ H s->t D σ H->wpAny (model X.prog X.w) X.A (exec st X.env) (SP X pins D) X.xe s
instance {X:Cx} {st:Stmt} {t:TS}:CoeFun (PS X st t) (fun _=>∀ (pins:List (Addr × Obj)) (s:Shared) (σ : St) (H:Hp) (D:Ends),Inv X pins σ H s->t D σ H->wpAny (model X.prog X.w) X.A (exec st X.env) (SP X pins D) X.xe s):=⟨PS.run⟩
structure PSs (X:Cx) (st:List Stmt) (t:TS):Prop where
 run:∀ (pins:List (Addr × Obj)) (s:Shared) (σ : St) (H:Hp) (D:Ends),Inv X pins σ H s->t D σ H->wpAny (model X.prog X.w) X.A (execs st X.env) (SP X pins D) X.xe s
instance {X:Cx} {st:List Stmt} {t:TS}:CoeFun (PSs X st t) (fun _=>∀ (pins:List (Addr × Obj)) (s:Shared) (σ : St) (H:Hp) (D:Ends),Inv X pins σ H s->t D σ H->wpAny (model X.prog X.w) X.A (execs st X.env) (SP X pins D) X.xe s):=⟨PSs.run⟩
theorem thn {α : Type} {t:Sem α} {Q Q' : α->Shared->Prop} {M:Model} {A:Around} {E:Value->Shared->Prop} {s:Shared} (h:wpAny M A t Q E s) (hQ:∀ a s,Q a s->Q' a s):wpAny M A t Q' E s:=wpAny_mono h hQ fun _ _ x=>x
section
variable {X:Cx}
theorem bin {a b:Expr} {ta tb:TE} (ha:PE X a ta) (hb:PE X b tb) {pins:List (Addr × Obj)} {s:Shared} {σ : St} {H:Hp} {R:V->V->Hp->Prop} (I:Inv X pins σ H s) (h:ta σ H fun x H1=>tb σ H1 fun y H2=>R x y H2)
  {α : Type} {Q : α->Shared->Prop} {f:Value->Value->Sem α}
  (hf:∀ v u s2 x y H2,Inv X pins σ H2 s2->RelV x v->RelV y u->R x y H2->wpAny (model X.prog X.w) X.A (f v u) Q X.xe s2) :
  wpAny (model X.prog X.w) X.A (eval a X.env) (fun v s₁=>wpAny (model X.prog X.w) X.A (eval b X.env) (fun u s₂=>wpAny (model X.prog X.w) X.A (f v u) Q X.xe s₂) X.xe s₁) X.xe s:=by
 refine thn (ha pins s σ H _ I h) fun v s1 ⟨x,H1,I1,r1,q1⟩=>?_
 refine thn (hb pins s1 σ H1 _ I1 q1) fun u s2 ⟨y,H2,I2,r2,q2⟩=>?_
 exact hf v u s2 x y H2 I2 r1 r2 q2
def tVar (i:Nat):TE:=fun σ H Q=>∃ v,σ[i]? = some (some v)/\Q v H
def tC (v:V):TE:=fun _ H Q=>Q v H
theorem pe_var {i:Nat} {x:Str} {pos:Pos} (hN:X.N[i]? = some x) (hv:Vis X.env.scope x) (hd:(x == ("__debug__" : Str)) = false:=by decide) (hcd:(x == ("__classdict__" : Str)) = false:=by decide):PE X (.Name x pos) (tVar i):=by
 refine ⟨?_⟩
 intro pins s σ H Q I h
 obtain ⟨v,e,h⟩:=h
 obtain ⟨m,hn,hl⟩:=I.loc
 obtain ⟨u,r,l⟩:=hl i x v hN e hv
 have fin:EP X pins σ Q u s:=⟨v,H,I,r,h⟩
 rcases l with ⟨hk,hm⟩ | ⟨hk,c,hc,hcell⟩
 ·exact wpAny_Name (wpAny_loadName_local I.ok.kind hk hn hm fin) hd
 ·rcases hk with hk | hk
  ·exact wpAny_Name (wpAny_loadName_cell I.ok.kind hk hc hcell fin) hd
  ·exact wpAny_Name (wpAny_loadName_free I.ok.kind hk hc hcell fin hcd) hd
theorem pe_int {i j pos}:PE X (.Constant (.int i) j pos) (tC (.int i)):=⟨fun _ _ _ H _ I h=>wpAny_Constant_int ⟨.int i,H,I.tok _,⟨_,rfl⟩,h⟩⟩
theorem pe_bl {b j pos}:PE X (.Constant (.bool b) j pos) (tC (.bl b)):=⟨fun _ _ _ H _ I h=>Constant_bool ⟨.bl b,H,I,rfl,h⟩⟩
theorem pe_non {j pos}:PE X (.Constant .none j pos) (tC .non):=⟨fun _ _ _ H _ I h=>Constant_none ⟨.non,H,I,rfl,h⟩⟩
theorem pe_str {x j pos}:PE X (.Constant (.str x) j pos) (tC (.str x)):=⟨fun _ _ _ H _ I h=>Calls.Constant_str ⟨.str x,H,I.tok _,⟨_,rfl⟩,h⟩⟩
def Gl (X:Cx) (x:Str):Prop:=X.env.kindOf x = some .globalImplicit
theorem ld_glob {E:Value->Shared->Prop} {pins:List (Addr × Obj)} {s:Shared} {σ : St} {H:Hp} {x:Str} {u:Value} {pos:Pos} {Q:Value->Shared->Prop} (I:Inv X pins σ H s) (hg:Gl X x) (hm:X.mg x = some u) (h:Q u s)
  (hd:(x == ("__debug__" : Str)) = false:=by decide):wpAny (model X.prog X.w) X.A (eval (.Name x pos) X.env) Q E s:=
 Calls.Name_function_global I.ok.kind hg (Calls.loadGlobal_global (by rw [I.ok.glob]; exact I.mod.glob.keeps I.bk) hm h) hd
theorem ld_blt {E:Value->Shared->Prop} {pins:List (Addr × Obj)} {s:Shared} {σ : St} {H:Hp} {x:Str} {u:Value} {pos:Pos} {Q:Value->Shared->Prop} (I:Inv X pins σ H s) (hg:Gl X x) (hm:X.mg x = none) (hv:bootBuiltins x = some u) (h:Q u s)
  (hn:x ≠ "__name__":=by decide) (hd:(x == ("__debug__" : Str)) = false:=by decide):wpAny (model X.prog X.w) X.A (eval (.Name x pos) X.env) Q E s:=by
 obtain ⟨mb,h1,h2⟩:=I.mod.blt
 exact Calls.Name_function_global I.ok.kind hg (Calls.loadGlobal_builtin (by rw [I.ok.glob]; exact I.mod.glob.keeps I.bk) hm (by rw [I.ok.blt]; exact h1.keeps I.bk) ((h2 x hn).trans hv) h) hd
theorem pe_glob {x:Str} {v:V} {u:Value} {pos:Pos} (hg:Gl X x) (hm:X.mg x = some u) (r:RelV v u) (hd:(x == ("__debug__" : Str)) = false:=by decide):PE X (.Name x pos) (tC v):=⟨fun _ _ _ H _ I h=>ld_glob I hg hm ⟨v,H,I,r,h⟩ hd⟩
theorem pe_bltn {x:Str} {v:V} {u:Value} {pos:Pos} (hg:Gl X x) (hm:X.mg x = none) (hv:bootBuiltins x = some u) (r:RelV v u) (hn:x ≠ "__name__":=by decide) (hd:(x == ("__debug__" : Str)) = false:=by decide):PE X (.Name x pos) (tC v):=⟨fun _ _ _ H _ I h=>ld_blt I hg hm hv ⟨v,H,I,r,h⟩ hn hd⟩
variable {a b:Expr} {ta tb:TE} {pos:Pos}
structure PC (X:Cx) (op:CmpOp) (a b:Expr) (t:TE):Prop where
 run:∀ (pins:List (Addr × Obj)) (s:Shared) (σ : St) (H:Hp) (Q:VK),Inv X pins σ H s->t σ H Q->
  wpAny (model X.prog X.w) X.A (eval a X.env) (fun v s₁=>wpAny (model X.prog X.w) X.A (eval b X.env) (fun u s₂=>wpAny (model X.prog X.w) X.A (compareOp op v u) (EP X pins σ Q) X.xe s₂) X.xe s₁) X.xe s
instance {X:Cx} {op:CmpOp} {a b:Expr} {t:TE}:CoeFun (PC X op a b t) (fun _=>∀ (pins:List (Addr × Obj)) (s:Shared) (σ : St) (H:Hp) (Q:VK),Inv X pins σ H s->t σ H Q->
  wpAny (model X.prog X.w) X.A (eval a X.env) (fun v s₁=>wpAny (model X.prog X.w) X.A (eval b X.env) (fun u s₂=>wpAny (model X.prog X.w) X.A (compareOp op v u) (EP X pins σ Q) X.xe s₂) X.xe s₁) X.xe s):=⟨PC.run⟩
theorem nobehind (b:Expr) {op:CmpOp} (h:op ≠ .In) (h2:op ≠ .NotIn):behindInMarks op b = false:=by
 have e1:(op == CmpOp.In) = false:=by cases op <;> first | rfl | exact absurd rfl h
 have e2:(op == CmpOp.NotIn) = false:=by cases op <;> first | rfl | exact absurd rfl h2
 cases b <;> simp [behindInMarks,e1,e2]
def tIsN (ta:TE):TE:=fun σ H Q=>ta σ H fun x H1=>Q (.bl (decide (x = .non))) H1
def tNotN (ta:TE):TE:=fun σ H Q=>ta σ H fun x H1=>Q (.bl (!decide (x = .non))) H1
theorem RelV.none_iff {x:V} {v:Value} (r:RelV x v):(v == Value.none) = decide (x = .non):=by
 cases x with
 | non=>cases r; rfl
 | bl _=>cases r; rfl
 | int _=>obtain ⟨t,rfl⟩:=r; rfl
 | str _=>obtain ⟨t,rfl⟩:=r; rfl
 | byt _=>obtain ⟨t,rfl⟩:=r; rfl
 | flt _=>obtain ⟨t,rfl⟩:=r; rfl
 | ref _=>cases r; rfl
 | ty _=>cases r; rfl
theorem pc_isN {j pos'} (ha:PE X a ta):PC X .Is a (.Constant .none j pos') (tIsN ta):=by
 refine ⟨?_⟩
 intro pins s σ H Q I h
 refine thn (ha pins s σ H _ I h) fun v s1 ⟨x,H1,I1,r1,q1⟩=>?_
 exact Constant_none (is_none_gen ⟨.bl _,H1,I1,by rw [r1.none_iff]; rfl,q1⟩)
theorem pc_notN {j pos'} (ha:PE X a ta):PC X .IsNot a (.Constant .none j pos') (tNotN ta):=by
 refine ⟨?_⟩
 intro pins s σ H Q I h
 refine thn (ha pins s σ H _ I h) fun v s1 ⟨x,H1,I1,r1,q1⟩=>?_
 exact Constant_none (isnot_none_gen ⟨.bl _,H1,I1,by rw [r1.none_iff]; rfl,q1⟩)
def tB (t:TE):TT:=fun σ H Q=>t σ H fun x H1=>∃ c,x = .bl c/\Q c H1
theorem pt_cmp {op:CmpOp} {t:TE} (h:PC X op a b t) (h1:behindInMarks op b = false:=by first | exact nobehind _ (by decide) (by decide) | rfl):PT X (.Compare a [op] [b] pos) (tB t):=by
 refine ⟨?_⟩
 intro pins s σ H Q I hw
 refine wpAny_isTrue_Compare1 (thn (h pins s σ H _ I hw) fun v s1 h1=>thn h1 fun u s2 h2=>thn h2 fun c s3 ⟨x,H1,I1,r1,q1⟩=>?_) h1
 obtain ⟨d,rfl,q⟩:=q1
 cases r1
 exact wpAny_truthy_bool ⟨H1,I1,q⟩
theorem pt_val {e:Expr} {t:TE} (h:PE X e t) (he:∀ whole,isTrue e X.env whole = (do let v <- whole; standAt e.pos; holding [v] (truthy v)):=by intro _; rfl):PT X e (tB t):=by
 refine ⟨?_⟩
 intro pins s σ H Q I hw
 refine isTrue_plain (thn (h pins s σ H _ I hw) fun v s1 ⟨x,H1,I1,r1,q1⟩=>?_) (he _)
 obtain ⟨d,rfl,q⟩:=q1
 cases r1
 exact wpAny_truthy_bool ⟨H1,I1,q⟩
variable {tA tB':TT} {rest:List Expr}
def tAnd (t u:TT):TT:=fun σ H Q=>t σ H fun c H1=>if c = true then u σ H1 Q else Q false H1
def tOr (t u:TT):TT:=fun σ H Q=>t σ H fun c H1=>if c = true then Q true H1 else u σ H1 Q
def tNot (t:TT):TT:=fun σ H Q=>t σ H fun c H1=>Q (!c) H1
theorem pw_and1 (ha:PT X a tA):PW X (.BoolOp .And [a] pos) tA:=by
 refine ⟨?_⟩
 intro wh pins s σ H Q I h
 refine isTrue_and (thn (ha pins s σ H Q I h) fun c s1 e=>?_)
 cases c with
 | true=>exact isTrue_and_nil e
 | false=>exact e
theorem pw_or1 (ha:PT X a tA):PW X (.BoolOp .Or [a] pos) tA:=by
 refine ⟨?_⟩
 intro wh pins s σ H Q I h
 refine isTrue_or (thn (ha pins s σ H Q I h) fun c s1 e=>?_)
 cases c with
 | false=>exact isTrue_or_nil e
 | true=>exact e
theorem pw_and (ha:PT X a tA) (hb:PW X (.BoolOp .And (b :: rest) pos) tB'):PW X (.BoolOp .And (a :: b :: rest) pos) (tAnd tA tB'):=by
 refine ⟨?_⟩
 intro wh pins s σ H Q I h
 refine isTrue_and (thn (ha pins s σ H _ I h) fun c s1 ⟨H1,I1,q1⟩=>?_)
 cases c with
 | true=>exact hb wh pins s1 σ H1 Q I1 q1
 | false=>exact ⟨H1,I1,q1⟩
theorem pw_or (ha:PT X a tA) (hb:PW X (.BoolOp .Or (b :: rest) pos) tB'):PW X (.BoolOp .Or (a :: b :: rest) pos) (tOr tA tB'):=by
 refine ⟨?_⟩
 intro wh pins s σ H Q I h
 refine isTrue_or (thn (ha pins s σ H _ I h) fun c s1 ⟨H1,I1,q1⟩=>?_)
 cases c with
 | true=>exact ⟨H1,I1,q1⟩
 | false=>exact hb wh pins s1 σ H1 Q I1 q1
theorem pt_not (ha:PT X a tA):PT X (.UnaryOp .Not a pos) (tNot tA):=by
 refine ⟨?_⟩
 intro pins s σ H Q I h
 exact isTrue_not (ha pins s σ H (fun c H1=>Q (!c) H1) I h)
def tAndV (ta tb:TE):TE:=fun σ H Q=>ta σ H fun x H1=>∃ c,x = .bl c/\if c = true then tb σ H1 Q else Q (.bl false) H1
theorem pe_one {op} {t:TE} (h:PE X a t):PE X (.BoolOp op [a] pos) t:=⟨fun pins s σ H Q I hw=>BoolOp_one (h pins s σ H Q I hw)⟩
theorem pe_and (ha:PE X a ta) (hb:PE X (.BoolOp .And (b :: rest) pos) tb):PE X (.BoolOp .And (a :: b :: rest) pos) (tAndV ta tb):=by
 refine ⟨?_⟩
 intro pins s σ H Q I h
 refine BoolOp_and (thn (ha pins s σ H _ I h) fun v s1 ⟨x,H1,I1,r1,q1⟩=>?_)
 obtain ⟨c,rfl,q1⟩:=q1
 cases r1
 refine wpAny_truthy_bool ?_
 cases c with
 | true=>exact hb pins s1 σ H1 Q I1 q1
 | false=>exact ⟨.bl false,H1,I1,rfl,q1⟩
def tIf (t:TT) (ta tb:TE):TE:=fun σ H Q=>t σ H fun c H1=>if c = true then ta σ H1 Q else tb σ H1 Q
theorem pe_ifExp {c:Expr} (hc:PT X c tA) (ha:PE X a ta) (hb:PE X b tb):PE X (.IfExp c a b pos) (tIf tA ta tb):=by
 refine ⟨?_⟩
 intro pins s σ H Q I h
 refine wpAny_IfExp (thn (hc pins s σ H _ I h) fun d s1 ⟨H1,I1,q1⟩=>?_)
 cases d with
 | true=>exact ha pins s1 σ H1 Q I1 q1
 | false=>exact hb pins s1 σ H1 Q I1 q1
end
def SqL (K:Frag) (H:Hp) (a:Addr) (xs:List V):Prop:=
 Rd H a (.lst xs)\/
  ∃ (o:Obj) (its:Array Value) (n:Nat),K.lookup a = some o/\o.cls = .type "list"/\o.dict = none/\o.data = .seq its n/\its.size<=sizeLine/\Vals xs its.toList
def SqT (K:Frag) (H:Hp) (a:Addr) (xs:List V):Prop:=
 Rd H a (.tup xs)\/
  ∃ (o:Obj) (its:Array Value) (n:Nat),K.lookup a = some o/\o.cls = .type "tuple"/\o.data = .seq its n/\its.size<=sizeLine/\Vals xs its.toList
def absV:Value->Option V
 | .none=>some .non
 | .bool b=>some (.bl b)
 | .int i _=>some (.int i)
 | .str x _=>some (.str x)
 | .bytes b _=>some (.byt b)
 | .float b _=>some (.flt b)
 | .ref a=>some (.ref a)
 | .type n=>some (.ty n)
 | _=>none
theorem RelV.abs {x:V} {u:Value} (r:RelV x u):absV u = some x:=by
 cases x with
 | non=>cases r; rfl
 | bl _=>cases r; rfl
 | int _=>obtain ⟨t,rfl⟩:=r; rfl
 | str _=>obtain ⟨t,rfl⟩:=r; rfl
 | byt _=>obtain ⟨t,rfl⟩:=r; rfl
 | flt _=>obtain ⟨t,rfl⟩:=r; rfl
 | ref _=>cases r; rfl
 | ty _=>cases r; rfl
theorem RelV.inj {x y:V} {u:Value} (r:RelV x u) (q:RelV y u):x = y:=Option.some.inj (r.abs.symm.trans q.abs)
theorem Vals.inj:∀ {xs ys:List V} {us:List Value},Vals xs us->Vals ys us->xs = ys
 | _,_,_,.nil,.nil=>rfl
 | _,_,_,.cons r t,.cons r' t'=>by rw [r.inj r',Vals.inj t t']
section
variable {X:Cx} {pins:List (Addr × Obj)} {σ : St} {H:Hp} {s:Shared} {a:Addr} {xs ys:List V}
theorem SqL.of {K:Frag} (h:H a = some (.lst xs)):SqL K H a xs:=.inl (.inl h)
theorem SqT.of {K:Frag} (h:H a = some (.tup xs)):SqT K H a xs:=.inl (.inl h)
theorem Inv.list (I:Inv X pins σ H s) (h:SqL X.K H a xs):∃ its:List Value,Vals xs its/\PlainL s.heap a its.toArray/\xs.length<=sizeLine:=by
 rcases h with h | ⟨o,its,n,hk,hc,hd,hs,hz,r⟩
 ·obtain ⟨z,its,n,r,e⟩:=h.ok I.hok
  exact ⟨its,r,⟨_,n,e,rfl,rfl,rfl⟩,z⟩
 ·refine ⟨its.toList,r,⟨o,n,I.kIn a o hk,hc,hd,by simpa using hs⟩,?_⟩
  have e:=r.length
  simp only [Array.length_toList] at e
  omega
theorem Inv.tuple (I:Inv X pins σ H s) (h:SqT X.K H a xs):∃ its:List Value,Vals xs its/\IsTup s.heap a its.toArray/\xs.length<=sizeLine:=by
 rcases h with h | ⟨o,its,n,hk,hc,hs,hz,r⟩
 ·obtain ⟨z,its,r,p⟩:=h.ok I.hok
  exact ⟨its,r,p,z⟩
 ·refine ⟨its.toList,r,⟨o,I.kIn a o hk,hc,n,by simpa using hs⟩,?_⟩
  have e:=r.length
  simp only [Array.length_toList] at e
  omega
theorem Inv.list_inj (I:Inv X pins σ H s) (h:SqL X.K H a xs) (h':SqL X.K H a ys):xs = ys:=by
 obtain ⟨its,r,⟨o,n,e,_,_,d⟩,_⟩:=I.list h
 obtain ⟨its',r',⟨o',n',e',_,_,d'⟩,_⟩:=I.list h'
 rw [e] at e'; cases e'
 rw [d] at d'
 injection d' with d1 _
 have:its = its':=by simpa using congrArg Array.toList d1
 subst this
 exact r.inj r'
theorem Inv.tuple_inj (I:Inv X pins σ H s) (h:SqT X.K H a xs) (h':SqT X.K H a ys):xs = ys:=by
 obtain ⟨its,r,⟨o,e,_,n,d⟩,_⟩:=I.tuple h
 obtain ⟨its',r',⟨o',e',_,n',d'⟩,_⟩:=I.tuple h'
 rw [e] at e'; cases e'
 rw [d] at d'
 injection d' with d1 _
 have:its = its':=by simpa using congrArg Array.toList d1
 subst this
 exact r.inj r'
end
abbrev Cx.wish (X:Cx) (E:Value->Shared->Prop):Cx:={ X with xe:=E }
abbrev Cx.nox (X:Cx):Cx:=X.wish fun _ _=>False
theorem Cx.Ok.wish {X:Cx} (ok:X.Ok) (E:Value->Shared->Prop):(X.wish E).Ok:=
 ⟨ok.mod,ok.kind,ok.glob,ok.blt,ok.above,ok.inj,ok.has,ok.cab,ok.hd,ok.frames,ok.stk,ok.exf,ok.bs,ok.bsz,ok.noex,ok.exfs,ok.funs,ok.frf⟩
theorem Cx.Ok.unwish {X:Cx} {E:Value->Shared->Prop} (ok:(X.wish E).Ok):X.Ok:=
 ⟨ok.mod,ok.kind,ok.glob,ok.blt,ok.above,ok.inj,ok.has,ok.cab,ok.hd,ok.frames,ok.stk,ok.exf,ok.bs,ok.bsz,ok.noex,ok.exfs,ok.funs,ok.frf⟩
section
variable {X:Cx} {pins:List (Addr × Obj)} {σ : St} {H:Hp} {s:Shared} {E:Value->Shared->Prop}
theorem Inv.wish (I:Inv X pins σ H s) (E:Value->Shared->Prop):Inv (X.wish E) pins σ H s:=⟨I.ok.wish E,I.os,I.bare,I.base,I.loc,I.cell,I.free,I.freeC,I.pin,I.hok,I.len⟩
theorem Inv.unwish (I:Inv (X.wish E) pins σ H s):Inv X pins σ H s:=⟨I.ok.unwish,I.os,I.bare,I.base,I.loc,I.cell,I.free,I.freeC,I.pin,I.hok,I.len⟩
theorem SP.unwish {D:Ends} {f:Flow} {s':Shared} (h:SP (X.wish E) pins D f s'):SP X pins D f s':=by
 cases f with
 | next=>obtain ⟨σ',H',I,q⟩:=h; exact ⟨σ',H',I.unwish,q⟩
 | brk=>obtain ⟨σ',H',I,q⟩:=h; exact ⟨σ',H',I.unwish,q⟩
 | cont=>obtain ⟨σ',H',I,q⟩:=h; exact ⟨σ',H',I.unwish,q⟩
 | ret u=>obtain ⟨v,σ',H',I,r,q⟩:=h; exact ⟨v,σ',H',I.unwish,r,q⟩
theorem PSs.nox {st:List Stmt} {t:TS} (h:PSs X.nox st t):PSs X st t:=⟨fun pins s σ H D I hw=>
 wpAny_mono (h pins s σ H D (I.wish _) hw) (fun _ _ q=>q.unwish) fun _ _ z=>False.elim z⟩
end
section
variable {X:Cx} {st:Stmt} {rest:List Stmt} {t u:TS} {e:Expr} {te:TE} {pos:Pos}
def tNext:TS:=fun D σ H=>D.nx σ H
def tSeq (t u:TS):TS:=fun D σ H=>t { D with nx:=u D } σ H
theorem pss_nil:PSs X [] tNext:=⟨fun _ _ σ H _ I h=>wpAny_execs_nil ⟨σ,H,I,h⟩⟩
theorem pss_cons (h1:PS X st t) (h2:PSs X rest u):PSs X (st :: rest) (tSeq t u):=by
 refine ⟨?_⟩
 intro pins s σ H D I h
 refine wpAny_execs_cons (thn (h1 pins s σ H { D with nx:=u D } I h) fun f s1 q=>?_)
 cases f with
 | next=>
  obtain ⟨σ',H',I',q⟩:=q
  exact h2 pins s1 σ' H' D I' q
 | ret v=>exact q
 | brk=>exact q
 | cont=>exact q
theorem pss_one (h1:PS X st t):PSs X [st] t:=by
 refine ⟨?_⟩
 intro pins s σ H D I h
 refine wpAny_execs_cons (thn (h1 pins s σ H D I h) fun f s1 q=>?_)
 cases f with
 | next=>exact wpAny_execs_nil q
 | ret v=>exact q
 | brk=>exact q
 | cont=>exact q
theorem Inv.quiet {pins:List (Addr × Obj)} {σ : St} {H:Hp} {s:Shared} (I:Inv X pins σ H s):interactive X.env = false:=by simp [interactive,I.ok.kind]
def tDrop (te:TE):TS:=fun D σ H=>te σ H fun _ H1=>D.nx σ H1
theorem ps_expr (he:PE X e te) (hs:swapsWith e none pos.line X.env = pure false:=by rfl):PS X (.Expr e pos) (tDrop te):=by
 refine ⟨?_⟩
 intro pins s σ H D I h
 exact wpAny_Expr_any (thn (he pins s σ H _ I h) fun v s1 ⟨x,H1,I1,r1,q1⟩=>⟨σ,H1,I1,q1⟩) I.quiet hs
def tRet (te:TE):TS:=fun D σ H=>te σ H D.rt
theorem ps_ret (he:PE X e te):PS X (.Return (some e) pos) (tRet te):=by
 refine ⟨?_⟩
 intro pins s σ H D I h
 exact wpAny_Return_some (thn (he pins s σ H _ I h) fun v s1 ⟨x,H1,I1,r1,q1⟩=>⟨x,σ,H1,I1,r1,q1⟩)
def tIfS (c:TT) (t u:TS):TS:=fun D σ H=>c σ H fun b H1=>if b = true then t D σ H1 else u D σ H1
theorem ps_if {c:Expr} {a b:List Stmt} {tc:TT} (hc:PT X c tc) (ha:PSs X a t) (hb:PSs X b u):PS X (.If c a b pos) (tIfS tc t u):=by
 refine ⟨?_⟩
 intro pins s σ H D I h
 refine wpAny_If (thn (hc pins s σ H _ I h) fun d s1 ⟨H1,I1,q1⟩=>?_)
 cases d with
 | true=>exact ha pins s1 σ H1 D I1 q1
 | false=>exact hb pins s1 σ H1 D I1 q1
end
abbrev TG:=V->St->Hp->(St->Hp->Prop)->Prop
abbrev TGs:=List V->St->Hp->(St->Hp->Prop)->Prop
structure PG (X:Cx) (target:Expr) (t:TG):Prop where
 run:∀ (pins:List (Addr × Obj)) (s:Shared) (σ : St) (H:Hp) (v:V) (u:Value) (Q:St->Hp->Prop),Inv X pins σ H s->RelV v u->t v σ H Q->
  wpAny (model X.prog X.w) X.A (assign target X.env u) (fun _ s'=>∃ σ' H',Inv X pins σ' H' s'/\Q σ' H') X.xe s
instance {X:Cx} {target:Expr} {t:TG}:CoeFun (PG X target t) (fun _=>∀ (pins:List (Addr × Obj)) (s:Shared) (σ : St) (H:Hp) (v:V) (u:Value) (Q:St->Hp->Prop),Inv X pins σ H s->RelV v u->t v σ H Q->
  wpAny (model X.prog X.w) X.A (assign target X.env u) (fun _ s'=>∃ σ' H',Inv X pins σ' H' s'/\Q σ' H') X.xe s):=⟨PG.run⟩
structure PGs (X:Cx) (ts:List Expr) (t:TGs):Prop where
 run:∀ (pins:List (Addr × Obj)) (s:Shared) (σ : St) (H:Hp) (vs:List V) (us:List Value) (Q:St->Hp->Prop),Inv X pins σ H s->Vals vs us->t vs σ H Q->
  wpAny (model X.prog X.w) X.A (assignInOrder ((assignEach ts X.env).map (·.2)) us) (fun _ s'=>∃ σ' H',Inv X pins σ' H' s'/\Q σ' H') X.xe s
instance {X:Cx} {ts:List Expr} {t:TGs}:CoeFun (PGs X ts t) (fun _=>∀ (pins:List (Addr × Obj)) (s:Shared) (σ : St) (H:Hp) (vs:List V) (us:List Value) (Q:St->Hp->Prop),Inv X pins σ H s->Vals vs us->t vs σ H Q->
  wpAny (model X.prog X.w) X.A (assignInOrder ((assignEach ts X.env).map (·.2)) us) (fun _ s'=>∃ σ' H',Inv X pins σ' H' s'/\Q σ' H') X.xe s):=⟨PGs.run⟩
section
variable {X:Cx} {pos:Pos}
def gName (i:Nat):TG:=fun v σ H Q=>Q (σ.set i (some v)) H
theorem pg_name {i:Nat} {x:Str} (hN:X.N.Nodup) (hi:X.N[i]? = some x) (hx:Loc X.env.scope x) (hf:X.fn x = true\/X.env.scope.names.lookup x = some .local:=by first | exact .inl rfl | exact .inr rfl | assumption):PG X (.Name x pos) (gName i):=by
 refine ⟨?_⟩
 intro pins s σ H v u Q I r h
 exact wpAny_assign_Name (store_ok I hN hi hx r (fun s' I'=>⟨_,H,I',h⟩) hf)
def gNil:TGs:=fun vs σ H Q=>vs = []/\Q σ H
def gCons (t:TG) (u:TGs):TGs:=fun vs σ H Q=>∃ v r,vs = v :: r/\t v σ H fun σ' H'=>u r σ' H' Q
theorem pgs_nil:PGs X [] gNil:=by
 refine ⟨?_⟩
 intro pins s σ H vs us Q I r h
 obtain ⟨e,h⟩:=h
 subst e
 cases r
 exact assignInOrder_nil ⟨σ,H,I,h⟩
theorem pgs_cons {e:Expr} {es:List Expr} {t:TG} {u:TGs} (h1:PG X e t) (h2:PGs X es u)
  (hs:(assignEach (e :: es) X.env).map (·.2) = assign e X.env :: (assignEach es X.env).map (·.2):=by rfl):PGs X (e :: es) (gCons t u):=by
 refine ⟨?_⟩
 intro pins s σ H vs us Q I r h
 obtain ⟨v,vr,e1,h⟩:=h
 subst e1
 cases r with
 | cons r rr=>
  rw [hs]
  refine assignInOrder_cons (thn (h1 pins s σ H _ _ _ I r h) fun _ s1 ⟨σ1,H1,I1,q1⟩=>?_)
  exact h2 pins s1 σ1 H1 _ _ Q I1 rr q1
def gTup (K:Frag) (n:Nat) (t:TGs):TG:=fun v σ H Q=>∃ a xs,v = .ref a/\SqT K H a xs/\xs.length = n/\t xs σ H Q
theorem pg_tup {es:List Expr} {k:Nat} {t:TGs} {n:Nat} (hc:X.calm = true) (h:PGs X es t)
  (hn:(assignEach es X.env).length = n:=by rfl) (hst:(assignEach es X.env).findIdx? (·.1) = none:=by rfl):PG X (.Tuple es k pos) (gTup X.K n t):=by
 refine ⟨?_⟩
 intro pins s σ H v u Q I r hw
 obtain ⟨a,xs,e1,hq,hl,hw⟩:=hw
 subst e1
 cases r
 obtain ⟨its,rv,ht,hz⟩:=I.tuple hq
 refine assign_Tuple_tuple (I.ok.hd hc) ht (by simp [hn,<- hl,rv.length]) hst fun h' hx=>?_
 have I1:Inv X pins σ H { s with heap:=h' }:=I.kept (t':=s.toks) fun b o e=>hx b o (Nat.ne_of_lt (Heap.lt_size e)) e
 exact h pins _ σ H xs _ Q I1 (by simpa using rv) hw
def tAsg (te:TE) (g:TG):TS:=fun D σ H=>te σ H fun x H1=>g x σ H1 D.nx
theorem ps_asg {tg e:Expr} {te:TE} {g:TG} (he:PE X e te) (hg:PG X tg g) (hs:swapsWithSole [tg] e pos.line X.env = pure false:=by rfl) (hw:swappedStores [tg] e X.env = pure none:=by rfl)
  (h1:(assignEach [tg] X.env).map (·.2) = [assign tg X.env]:=by rfl):PS X (.Assign [tg] e pos) (tAsg te g):=by
 refine ⟨?_⟩
 intro pins s σ H D I h
 refine wpAny_Assign_stores (thn (he pins s σ H _ I h) fun v s1 ⟨x,H1,I1,r1,q1⟩=>?_) hs hw
 rw [h1]
 exact thn (hg pins s1 σ H1 x v _ I1 r1 q1) fun _ s2 q=>q
theorem ps_set {i:Nat} {x:Str} {e:Expr} {te:TE} {pos':Pos} (hN:X.N.Nodup) (hi:X.N[i]? = some x) (hx:Loc X.env.scope x) (he:PE X e te) (hs:swapsWith e (some (.Name x pos')) pos.line X.env = pure false:=by rfl) (hf:X.fn x = true\/X.env.scope.names.lookup x = some .local:=by first | exact .inl rfl | exact .inr rfl | assumption) :
  PS X (.Assign [.Name x pos'] e pos) (tAsg te (gName i)):=by
 refine ⟨?_⟩
 intro pins s σ H D I h
 refine wpAny_Assign_Name (thn (he pins s σ H _ I h) fun v s1 ⟨y,H1,I1,r1,q1⟩=>?_) hs
 exact store_ok I1 hN hi hx r1 (fun s2 I2=>⟨_,H1,I2,q1⟩) hf
end
structure It where
 go:Nat->Hp->Prop
 yld:Nat->Hp->V->Hp->Prop
 stop:Nat->Hp->Prop
def FpOk (X:Cx) (pins:List (Addr × Obj)) (H:Hp) (b:Addr):Prop:=
 H b = none/\b ≠ X.env.locals/\b ∉ X.fs/\(b ∈ X.ex\/X.s₀.heap.objs.size<=b)/\(∀ x c,X.env.cells.lookup x = some c->c ≠ b)/\∀ p ∈ X.pn ++ pins,p.1 ≠ b
theorem Inv.fpOk {X:Cx} {pins:List (Addr × Obj)} {σ : St} {H H':Hp} {s:Shared} {b:Addr} (I:Inv X pins σ H s) (hb:s.heap.objs.size<=b) (hn:H' b = none):FpOk X pins H' b:=by
 refine ⟨hn,Nat.ne_of_gt (Nat.lt_of_lt_of_le I.lt hb),I.nofs hb,.inr (Nat.le_trans I.sz hb),fun x c e z=>?_,fun p hp z=>?_⟩
 ·obtain ⟨v,q⟩:=I.cell x c e
  exact absurd (Nat.lt_of_lt_of_le q.lt (by rw [z]; exact hb)) (Nat.lt_irrefl _)
 ·exact absurd (Nat.lt_of_lt_of_le (Heap.lt_size (I.pin p hp).1) (by rw [z]; exact hb)) (Nat.lt_irrefl _)
structure Turn (P:Program) (w:World) (K:Frag) (tg:Expr) (J:It) (fp:List Addr) (it:Addr) (tn:Nat->Heap->Prop):Prop where
 mem:it ∈ fp
 obj:∀ i h,tn i h->∀ b ∈ fp,∃ o,h.get? b = some o/\∀ v,o.data ≠ .cell v
 keep:∀ i h h',tn i h->(∀ b ∈ fp,∀ o,h.get? b = some o->h'.get? b = some o)->tn i h'
 item:∀ (X:Cx),X.prog = P->X.w = w->X.K = K->X.calm = true->∀ (i:Nat) (pins:List (Addr × Obj)) (s:Shared) (σ : St) (H:Hp) (E:Value->Shared->Prop),Inv X pins σ H s->(∀ b ∈ fp,FpOk X pins H b)->tn i s.heap->J.go i H->
  wpAny (model P w) X.A (pyNext (.ref it)) (fun r s1=>∃ u,r = some u/\
   wpAny (model P w) X.A (letOwnedTupleGo tg (.ref it) u) (fun _ s2=>∃ x H',Inv X pins σ H' s2/\RelV x u/\J.yld i H x H'/\tn (i + 1) s2.heap/\∀ b ∈ fp,H' b = none) E s1) E s
 done:∀ (X:Cx),X.prog = P->X.w = w->X.K = K->X.calm = true->∀ (i:Nat) (pins:List (Addr × Obj)) (s:Shared) (σ : St) (H:Hp) (E:Value->Shared->Prop),Inv X pins σ H s->(∀ b ∈ fp,FpOk X pins H b)->tn i s.heap->J.stop i H->
  wpAny (model P w) X.A (pyNext (.ref it)) (fun r s1=>r = none/\Inv X pins σ H s1) E s
 self:∀ (A:Around) (i:Nat) (s:Shared) (Q:Value->Shared->Prop) (E:Value->Shared->Prop),tn i s.heap->Q (.ref it) s->wpAny (model P w) A (pyIter (.ref it)) Q E s
abbrev TI:=St->Hp->(It->Hp->Prop)->Prop
def PIE (X:Cx) (pins:List (Addr × Obj)) (σ : St) (tg:Expr) (R:It->Hp->Prop) (itv:Value) (s2:Shared):Prop:=
 ∃ (it:Addr) (fp:List Addr) (tn:Nat->Heap->Prop) (J:It) (H':Hp),itv = .ref it/\Inv X pins σ H' s2/\Turn X.prog X.w X.K tg J fp it tn/\tn 0 s2.heap/\(∀ b ∈ fp,FpOk X pins H' b)/\R J H'
structure PI (X:Cx) (tg iter:Expr) (wi:TI):Prop where
 run:∀ (pins:List (Addr × Obj)) (s:Shared) (σ : St) (H:Hp) (R:It->Hp->Prop),Inv X pins σ H s->wi σ H R->
  wpAny (model X.prog X.w) X.A (eval iter X.env) (fun v s1=>wpAny (model X.prog X.w) X.A (pyIter v) (PIE X pins σ tg R) X.xe s1) X.xe s
instance {X:Cx} {tg iter:Expr} {wi:TI}:CoeFun (PI X tg iter wi) (fun _=>∀ (pins:List (Addr × Obj)) (s:Shared) (σ : St) (H:Hp) (R:It->Hp->Prop),Inv X pins σ H s->wi σ H R->
  wpAny (model X.prog X.w) X.A (eval iter X.env) (fun v s1=>wpAny (model X.prog X.w) X.A (pyIter v) (PIE X pins σ tg R) X.xe s1) X.xe s):=⟨PI.run⟩
theorem go_of {M:Model} {A:Around} {E:Value->Shared->Prop} {s:Shared} {tg:Expr} {it:Addr} {u:Value} {o:Obj} {n:String} {vs:Array Value} {Q:Unit->Shared->Prop} (ho:s.heap.get? it = some o) (hc:o.cls = .type n) (hd:o.data = .fields vs)
  (hn:["enumerate","zip","dict_itemiterator","dict_reverseitemiterator","odict_iterator","itertools.zip_longest","itertools.pairwise"].contains n = false) (hQ:Q () s):wpAny M A (letOwnedTupleGo tg (.ref it) u) Q E s:=by
 unfold letOwnedTupleGo
 cases tg <;> first
  | exact wpAny_pure hQ
  | (cases u <;> first
    | exact wpAny_pure hQ
    | (refine wpAny_bind (wpAny_load ho ?_)
       rw [hc,hd]
       show wpAny M A (if (["enumerate","zip","dict_itemiterator","dict_reverseitemiterator","odict_iterator","itertools.zip_longest","itertools.pairwise"].contains n && vs[0]? == some (rawInt _)) = true then _ else _) Q E s
       rw [if_neg (by intro h; rw [hn,Bool.false_and] at h; cases h)]
       exact wpAny_pure hQ))
def Itl (K:Frag) (a:Addr):It:=
 ⟨fun i H=>∃ xs x,SqL K H a xs/\xs[i]? = some x,fun i H x H'=>H' = H/\∀ xs,SqL K H a xs->xs[i]? = some x,fun i H=>∃ xs,SqL K H a xs/\xs.length<=i⟩
def Itt (K:Frag) (a:Addr):It:=
 ⟨fun i H=>∃ xs x,SqT K H a xs/\xs[i]? = some x,fun i H x H'=>H' = H/\∀ xs,SqT K H a xs->xs[i]? = some x,fun i H=>∃ xs,SqT K H a xs/\xs.length<=i⟩
def Itr (lo:Int) (n:Nat):It:=⟨fun i _=>i < n,fun i H x H'=>H' = H/\x = .int (lo + i),fun i _=>n<=i⟩
theorem turn_list {P:Program} {w:World} {K:Frag} {tg:Expr} (a it:Addr):Turn P w K tg (Itl K a) [it] it (fun i h=>h.IsListIter it a i) where
 mem:=by simp
 obj:=fun i h st b hb=>by
  have e:b = it:=by simpa using hb
  subst e
  obtain ⟨o,e,c,d⟩:=st
  exact ⟨o,e,fun v z=>by rw [d] at z; cases z⟩
 keep:=fun i h h' st k=>st.at fun o e=>k it (by simp) o e
 item:=by
  intro X hP hw hK hc i pins s σ H E I hf st hg
  subst hP hw hK
  obtain ⟨xs,x,hq,hx⟩:=hg
  obtain ⟨its,rv,p,hz⟩:=I.list hq
  obtain ⟨u,hu,ru⟩:=rv.get hx
  obtain ⟨f0,f1,f2,f3,f4,f5⟩:=hf it (by simp)
  refine wpAny_pyNext_list_item st p.isList (x:=u) (by simpa using hu) fun h' st' sb=>?_
  have I1:Inv X pins σ H { s with heap:=h' }:=I.turned (t':=s.toks) (fun b o hb e=>(sb.2 b hb).trans e) f0 f1 f3 f4 f5
  obtain ⟨o,e,c,d⟩:=id st'
  exact ⟨u,rfl,go_of (s:={ s with heap:=h' }) e c d (by decide) ⟨x,H,I1,ru,⟨rfl,fun ys hy=>by rw [I.list_inj hy hq]; exact hx⟩,st',fun b hb=>(hf b hb).1⟩⟩
 done:=by
  intro X hP hw hK hc i pins s σ H E I hf st hg
  subst hP hw hK
  obtain ⟨xs,hq,hx⟩:=hg
  obtain ⟨its,rv,p,hz⟩:=I.list hq
  obtain ⟨f0,f1,f2,f3,f4,f5⟩:=hf it (by simp)
  have hl:=rv.length
  exact wpAny_pyNext_list_end (I.ok.hd hc) st p.isList (by simp; omega) fun h' eb=>⟨rfl,I.turned (t':=s.toks) (fun b o hb e=>eb b o hb e) f0 f1 f3 f4 f5⟩
 self:=fun _ _ _ _ _ st h=>wpAny_pyIter_listiter st h
theorem turn_tuple {P:Program} {w:World} {K:Frag} {tg:Expr} (a it:Addr):Turn P w K tg (Itt K a) [it] it (fun i h=>h.IsTupleIter it a i) where
 mem:=by simp
 obj:=fun i h st b hb=>by
  have e:b = it:=by simpa using hb
  subst e
  obtain ⟨o,e,c,d⟩:=st
  exact ⟨o,e,fun v z=>by rw [d] at z; cases z⟩
 keep:=fun i h h' st k=>st.at fun o e=>k it (by simp) o e
 item:=by
  intro X hP hw hK hc i pins s σ H E I hf st hg
  subst hP hw hK
  obtain ⟨xs,x,hq,hx⟩:=hg
  obtain ⟨its,rv,p,hz⟩:=I.tuple hq
  obtain ⟨u,hu,ru⟩:=rv.get hx
  obtain ⟨f0,f1,f2,f3,f4,f5⟩:=hf it (by simp)
  refine wpAny_pyNext_tuple_item st (show s.heap.IsTuple a its.toArray from p) (x:=u) (by simpa using hu) fun h' st' sb=>?_
  have I1:Inv X pins σ H { s with heap:=h' }:=I.turned (t':=s.toks) (fun b o hb e=>(sb.2 b hb).trans e) f0 f1 f3 f4 f5
  obtain ⟨o,e,c,d⟩:=id st'
  exact ⟨u,rfl,go_of (s:={ s with heap:=h' }) e c d (by decide) ⟨x,H,I1,ru,⟨rfl,fun ys hy=>by rw [I.tuple_inj hy hq]; exact hx⟩,st',fun b hb=>(hf b hb).1⟩⟩
 done:=by
  intro X hP hw hK hc i pins s σ H E I hf st hg
  subst hP hw hK
  obtain ⟨xs,hq,hx⟩:=hg
  obtain ⟨its,rv,p,hz⟩:=I.tuple hq
  obtain ⟨f0,f1,f2,f3,f4,f5⟩:=hf it (by simp)
  have hl:=rv.length
  exact wpAny_pyNext_tuple_end (I.ok.hd hc) st (show s.heap.IsTuple a its.toArray from p) (by simp; omega) fun h' eb=>⟨rfl,I.turned (t':=s.toks) (fun b o hb e=>eb b o hb e) f0 f1 f3 f4 f5⟩
 self:=fun _ _ _ _ _ st h=>wpAny_pyIter_tupleiter st h
theorem turn_range {P:Program} {w:World} {K:Frag} {tg:Expr} (it:Addr) (lo:Int) (n:Nat):Turn P w K tg (Itr lo n) [it] it (fun i h=>IsRangeIter h it (lo + (i:Nat) * 1) ((n:Int) - (i:Nat)) 1) where
 mem:=by simp
 obj:=fun i h st b hb=>by
  have e:b = it:=by simpa using hb
  subst e
  exact ⟨_,st,fun v z=>by
   have z':Data.fields _ = Data.cell v:=z
   cases z'⟩
 keep:=fun i h h' st k=>k it (by simp) _ st
 item:=by
  intro X hP hw hK hc i pins s σ H E I hf st hg
  subst hP hw hK
  obtain ⟨f0,f1,f2,f3,f4,f5⟩:=hf it (by simp)
  have W:=Walks.range (prog:=X.prog) (w:=X.w) (I.ok.hd hc) it lo 1 n
  refine W.item i s _ _ hg st fun v h' tk hv st' kk=>?_
  obtain ⟨t,rfl⟩:=hv
  have I1:Inv X pins σ H { s with heap:=h',toks:=tk }:=I.turned (fun b o hb e=>kk b o (by simpa using hb) e) f0 f1 f3 f4 f5
  refine ⟨_,rfl,go_of (s:={ s with heap:=h',toks:=tk }) (n:="range_iterator") st' rfl rfl (by decide) ⟨.int (lo + i),H,I1,⟨t,?_⟩,⟨rfl,rfl⟩,st',fun b hb=>(hf b hb).1⟩⟩
  rw [Int.mul_one]
 done:=by
  intro X hP hw hK hc i pins s σ H E I hf st hg
  subst hP hw hK
  obtain ⟨f0,f1,f2,f3,f4,f5⟩:=hf it (by simp)
  exact wpAny_pyNext_range_end (I.ok.hd hc) st (by have:n<=i:=hg; omega) fun h' eb=>⟨rfl,I.turned (t':=s.toks) (fun b o hb e=>eb b o hb e) f0 f1 f3 f4 f5⟩
 self:=fun _ _ _ _ _ st h=>wpAny_pyIter_rangeiter st h
section
variable {X:Cx} {tg:Expr}
def iList (K:Frag) (tl:TE):TI:=fun σ H R=>tl σ H fun x H1=>∃ a,x = .ref a/\(∃ xs,SqL K H1 a xs)/\R (Itl K a) H1
def iTup (K:Frag) (tl:TE):TI:=fun σ H R=>tl σ H fun x H1=>∃ a,x = .ref a/\(∃ xs,SqT K H1 a xs)/\R (Itt K a) H1
theorem pi_list {l:Expr} {tl:TE} (hl:PE X l tl):PI X tg l (iList X.K tl):=by
 refine ⟨?_⟩
 intro pins s σ H R I h
 refine thn (hl pins s σ H _ I h) fun v s1 ⟨x,H1,I1,r1,q1⟩=>?_
 obtain ⟨a,e,⟨xs,hq⟩,q⟩:=q1
 subst e
 cases r1
 obtain ⟨its,rv,p,hz⟩:=I1.list hq
 refine wpAny_pyIter_list p.isList ?_
 refine ⟨s1.heap.objs.size,[s1.heap.objs.size],_,_,H1,rfl,I1.kept (t':=s1.toks) fun b o e=>Heap.get?_push_of_some _ e,turn_list a _,⟨_,Heap.get?_push_size _ rfl,rfl,rfl⟩,fun b hb=>?_,q⟩
 have e:b = s1.heap.objs.size:=by simpa using hb
 subst e
 exact I1.fpOk (Nat.le_refl _) (I1.hok.fresh (Nat.le_refl _))
theorem pi_tup {l:Expr} {tl:TE} (hl:PE X l tl):PI X tg l (iTup X.K tl):=by
 refine ⟨?_⟩
 intro pins s σ H R I h
 refine thn (hl pins s σ H _ I h) fun v s1 ⟨x,H1,I1,r1,q1⟩=>?_
 obtain ⟨a,e,⟨xs,hq⟩,q⟩:=q1
 subst e
 cases r1
 obtain ⟨its,rv,p,hz⟩:=I1.tuple hq
 refine wpAny_pyIter_tuple (show s1.heap.IsTuple a its.toArray from p) ?_
 refine ⟨s1.heap.objs.size,[s1.heap.objs.size],_,_,H1,rfl,I1.kept (t':=s1.toks) fun b o e=>Heap.get?_push_of_some _ e,turn_tuple a _,⟨_,Heap.get?_push_size _ rfl,rfl,rfl⟩,fun b hb=>?_,q⟩
 have e:b = s1.heap.objs.size:=by simpa using hb
 subst e
 exact I1.fpOk (Nat.le_refl _) (I1.hok.fresh (Nat.le_refl _))
theorem range_it {pins:List (Addr × Obj)} {σ : St} {H:Hp} {s:Shared} {R:It->Hp->Prop} {E:Value->Shared->Prop} {lo hi:Int} {t u v:Tok} {tk:Nat} (I:Inv X pins σ H s) (h1 : -(2 ^ 62)<=lo) (h2:lo < 2 ^ 62) (h3 : -(2 ^ 62)<=hi) (h4:hi < 2 ^ 62)
  (q:R (Itr lo (hi - lo).toNat) H):wpAny (model X.prog X.w) X.A (pyIter (.ref s.heap.objs.size)) (PIE X pins σ tg R) E { s with heap:=s.heap.push { cls:=.type "range",data:=.fields #[.int lo t,.int hi u,.int 1 v] },toks:=tk }:=by
 refine wpAny_pyIter_range (IsRange.new ..) (small_one h1 h2 h3 h4) ?_
 have I1:Inv X pins σ H { s with heap:=s.heap.push { cls:=.type "range",data:=.fields #[.int lo t,.int hi u,.int 1 v] },toks:=tk }:=I.kept fun b o e=>Heap.get?_push_of_some _ e
 refine ⟨(s.heap.push { cls:=.type "range",data:=.fields #[.int lo t,.int hi u,.int 1 v] }).objs.size,[(s.heap.push { cls:=.type "range",data:=.fields #[.int lo t,.int hi u,.int 1 v] }).objs.size],_,_,H,rfl,
  I1.kept (t':=tk) fun b o e=>Heap.get?_push_of_some _ e,turn_range _ lo (hi - lo).toNat,?_,fun b hb=>?_,q⟩
 ·have e1:lo + ((0:Nat):Int) * 1 = lo:=by simp
  have e2:(((hi - lo).toNat:Nat):Int) - ((0:Nat):Int) = Builtin.Range.rangeSize lo hi 1:=by rw [rangeSize_one]; split <;> omega
  show IsRangeIter _ _ (lo + ((0:Nat):Int) * 1) ((((hi - lo).toNat:Nat):Int) - ((0:Nat):Int)) 1
  rw [e1,e2]
  exact Heap.get?_push_size _ rfl
 ·have e:b = (s.heap.push { cls:=.type "range",data:=.fields #[.int lo t,.int hi u,.int 1 v] }).objs.size:=by simpa using hb
  subst e
  exact I1.fpOk (Nat.le_refl _) (I1.hok.fresh (Nat.le_refl _))
def iRng1 (ta:TA):TI:=fun σ H R=>ta σ H fun vs H1=>∃ j:Int,vs = [.int j]/\-(2 ^ 62)<=j/\j < 2 ^ 62/\R (Itr 0 j.toNat) H1
def iRng2 (ta:TA):TI:=fun σ H R=>ta σ H fun vs H1=>∃ i j:Int,vs = [.int i,.int j]/\(-(2 ^ 62)<=i/\i < 2 ^ 62/\-(2 ^ 62)<=j/\j < 2 ^ 62)/\R (Itr i (j - i).toNat) H1
theorem pi_range1 {a:Expr} {ta:TA} {p pos:Pos} (hg:Gl X "range") (hm:X.mg "range" = none) (ha:PA X [a] ta) (hs:starEach [a] X.env = [(false,eval a X.env)]:=by rfl):PI X tg (.Call (.Name "range" p) [a] [] pos) (iRng1 ta):=by
 refine ⟨?_⟩
 intro pins s σ H R I h
 refine Call_ (ld_blt I hg hm boot_range (PyProof.Rows.callWith_type1 (thn (ha pos pins s σ H _ I h) fun us s1 ⟨vs,H1,I1,r1,q1⟩=>?_) hs rfl))
 obtain ⟨j,e,q1,q2,q⟩:=q1
 subst e
 cases r1 with
 | cons r rr=>
  cases rr
  obtain ⟨t,rfl⟩:=r
  exact call_range_1 (range_it I1 (by omega) (by omega) q1 q2 (by simpa using q))
theorem pi_range2 {a b:Expr} {ta:TA} {p pos:Pos} (hg:Gl X "range") (hm:X.mg "range" = none) (ha:PA X [a,b] ta) (hs:starEach [a,b] X.env = [(false,eval a X.env),(false,eval b X.env)]:=by rfl) (hs2:starEach [b] X.env = [(false,eval b X.env)]:=by rfl) :
  PI X tg (.Call (.Name "range" p) [a,b] [] pos) (iRng2 ta):=by
 refine ⟨?_⟩
 intro pins s σ H R I h
 refine Call_ (ld_blt I hg hm boot_range (PyProof.Rows.callWith_type1 (thn (ha pos pins s σ H _ I h) fun us s1 ⟨vs,H1,I1,r1,q1⟩=>?_) (by rw [hs,hs2]) (by rw [hs2]; rfl)))
 obtain ⟨i,j,e,⟨q1,q2,q3,q4⟩,q⟩:=q1
 subst e
 cases r1 with
 | cons r rr=>
  cases rr with
  | cons r' rr=>
   cases rr
   obtain ⟨t,rfl⟩:=r
   obtain ⟨t',rfl⟩:=r'
   exact call_range_2 (range_it I1 q1 q2 q3 q4 q)
def tFor (wi:TI) (g:TG) (tb:TS):TS:=fun D σ H=>wi σ H fun J H1=>∃ W:Nat->Nat->St->Hp->Prop,(∃ m,W 0 m σ H1)/\∀ i m σ H,W i m σ H->
 (J.stop i H/\D.nx σ H)\/(J.go i H/\∃ N:St->Hp->Prop,(∀ σ' H',N σ' H'->∃ m',m' < m/\W (i + 1) m' σ' H')/\∀ x H',J.yld i H x H'->g x σ H' fun σ2 H2=>tb { D with nx:=N,ct:=N,bk:=D.nx } σ2 H2)
def pinsAt (fp:List Addr) (h:Heap):List (Addr × Obj):=fp.filterMap fun b=>(h.get? b).map fun o=>(b,o)
theorem mem_pinsAt {fp:List Addr} {h:Heap} {b:Addr} {o:Obj} (hb:b ∈ fp) (e:h.get? b = some o):(b,o) ∈ pinsAt fp h:=List.mem_filterMap.mpr ⟨b,hb,by rw [e]; rfl⟩
theorem of_pinsAt {fp:List Addr} {h:Heap} {p:Addr × Obj} (hp:p ∈ pinsAt fp h):p.1 ∈ fp/\h.get? p.1 = some p.2:=by
 obtain ⟨b,hb,e⟩:=List.mem_filterMap.mp hp
 cases q:h.get? b with
 | none=>rw [q] at e; cases e
 | some o=>
  rw [q] at e
  have e':(b,o) = p:=Option.some.inj e
  subst e'
  exact ⟨hb,q⟩
theorem Inv.pinned {pins:List (Addr × Obj)} {σ : St} {H:Hp} {s:Shared} {fp:List Addr} (I:Inv X pins σ H s) (hf:∀ b ∈ fp,FpOk X pins H b) (ho:∀ b ∈ fp,∃ o,s.heap.get? b = some o/\∀ v,o.data ≠ .cell v):Inv X (pins ++ pinsAt fp s.heap) σ H s:=
 I.pins_of fun p hp=>(List.mem_append.mp hp).elim (fun z=>I.pin p (List.mem_append_right _ z)) fun z=>by
  obtain ⟨hb,e⟩:=of_pinsAt z
  obtain ⟨f0,f1,f2,_⟩:=hf p.1 hb
  obtain ⟨o,e',d⟩:=ho p.1 hb
  rw [e] at e'; cases e'
  exact ⟨e,f0,f1,f2,d⟩
theorem Inv.unpinned {pins pl:List (Addr × Obj)} {σ : St} {H:Hp} {s:Shared} (I:Inv X (pins ++ pl) σ H s):Inv X pins σ H s:=I.pins_of fun p hp=>I.pin p (List.mem_append_right _ (List.mem_append_left _ hp))
theorem ps_for {iter:Expr} {body:List Stmt} {wi:TI} {g:TG} {tb:TS} {pos:Pos} (hp:PassesOwn (model X.prog X.w) X.A X.env X.xe) (hc:X.calm = true) (hi:PI X tg iter wi) (hg:PG X tg g) (hb:PSs X body tb)
  (hs:∀ x,foldedSetIterable iter X.env x = pure x:=by intro _; rfl):PS X (.For tg iter body [] pos) (tFor wi g tb):=by
 refine ⟨?_⟩
 intro pins s σ H D I h
 refine wpAny_For (thn (hi pins s σ H _ I h) fun v s1 h1=>thn h1 fun itv s2 h2=>?_) hs
 obtain ⟨it,fp,tn,J,H2,e,I2,T,st2,f2,W,⟨m0,w0⟩,turn⟩:=h2
 subst e
 have stat:∀ {H':Hp},(∀ b ∈ fp,H' b = none)->∀ b ∈ fp,FpOk X pins H' b:=fun hn b hb=>⟨hn b hb,(f2 b hb).2⟩
 refine codeAny_forLoop_any (fun n s'=>∃ i σ' H',Inv X pins σ' H' s'/\tn i s'.heap/\(∀ b ∈ fp,H' b = none)/\W i n σ' H') ?_ m0 ⟨0,σ,H2,I2,st2,fun b hb=>(f2 b hb).1,w0⟩
 rintro n s3 ⟨i,σ3,H3,I3,st3,fr3,w3⟩
 rcases turn i n σ3 H3 w3 with ⟨stop,qn⟩ | ⟨go,N,hN,step⟩
 ·refine wpAny_passesOwn hp (thn (T.done X rfl rfl rfl hc i pins s3 σ3 H3 X.xe I3 (stat fr3) st3 stop) fun r s4 ⟨hr,I4⟩=>?_)
  subst hr
  exact wpAny_execs_nil ⟨σ3,H3,I4,qn⟩
 ·refine wpAny_passesOwn hp (thn (T.item X rfl rfl rfl hc i pins s3 σ3 H3 X.xe I3 (stat fr3) st3 go) fun r s4 ⟨u,hr,h4⟩=>?_)
  subst hr
  refine wpAny_passesOwn hp (thn h4 fun _ s5 ⟨x,H5,I5,r5,y5,st5,fr5⟩=>?_)
  have I5':=I5.pinned (stat fr5) (T.obj _ _ st5)
  refine wpAny_passesOwn hp (thn (hg _ s5 σ3 H5 x u _ I5' r5 (step x H5 y5)) fun _ s6 ⟨σ6,H6,I6,q6⟩=>?_)
  refine wpAny_passesOwn hp (thn (hb _ s6 σ6 H6 _ I6 q6) fun f s7 q7=>?_)
  have again:∀ {σ7:St} {H7:Hp},Inv X (pins ++ pinsAt fp s5.heap) σ7 H7 s7->N σ7 H7->∃ m,m < n/\∃ i σ' H',Inv X pins σ' H' s7/\tn i s7.heap/\(∀ b ∈ fp,H' b = none)/\W i m σ' H':=fun {σ7 H7} I7 n7=>by
   obtain ⟨m',hm,w7⟩:=hN σ7 H7 n7
   refine ⟨m',hm,i + 1,σ7,H7,I7.unpinned,T.keep _ _ _ st5 fun b hb o e=>(I7.pin (b,o) (List.mem_append_right _ (List.mem_append_right _ (mem_pinsAt hb e)))).1,fun b hb=>?_,w7⟩
   obtain ⟨o,e,d⟩:=T.obj _ _ st5 b hb
   exact (I7.pin (b,o) (List.mem_append_right _ (List.mem_append_right _ (mem_pinsAt hb e)))).2.1
  cases f with
  | next=>obtain ⟨σ7,H7,I7,n7⟩:=q7; exact again I7 n7
  | cont=>obtain ⟨σ7,H7,I7,n7⟩:=q7; exact again I7 n7
  | brk=>obtain ⟨σ7,H7,I7,q7⟩:=q7; exact ⟨σ7,H7,I7.unpinned,q7⟩
  | ret v=>obtain ⟨x7,σ7,H7,I7,r7,q7⟩:=q7; exact ⟨x7,σ7,H7,I7.unpinned,r7,q7⟩
end
theorem for_list {K:Frag} {a:Addr} {xs:List V} {g:TG} {tb:TS} {D:Ends} {σ : St} {H:Hp} (Pv:Nat->St->Hp->Prop) (h0:Pv 0 σ H) (hl:∀ i σ H,i<=xs.length->Pv i σ H->SqL K H a xs)
  (hs:∀ i x σ H,xs[i]? = some x->Pv i σ H->g x σ H fun σ2 H2=>tb { D with nx:=Pv (i + 1),ct:=Pv (i + 1),bk:=D.nx } σ2 H2) (hd:∀ σ H,Pv xs.length σ H->D.nx σ H) :
  ∃ W:Nat->Nat->St->Hp->Prop,(∃ m,W 0 m σ H)/\∀ i m σ H,W i m σ H->
   ((Itl K a).stop i H/\D.nx σ H)\/((Itl K a).go i H/\∃ N:St->Hp->Prop,(∀ σ' H',N σ' H'->∃ m',m' < m/\W (i + 1) m' σ' H')/\∀ x H',(Itl K a).yld i H x H'->g x σ H' fun σ2 H2=>tb { D with nx:=N,ct:=N,bk:=D.nx } σ2 H2):=by
 refine ⟨fun i m σ H=>m = xs.length - i/\i<=xs.length/\Pv i σ H,⟨xs.length,by simp,Nat.zero_le _,h0⟩,?_⟩
 rintro i m σ H ⟨rfl,hi,p⟩
 have q:=hl i σ H hi p
 by_cases hlt:i < xs.length
 ·refine .inr ⟨⟨xs,xs[i],q,by simp [hlt]⟩,Pv (i + 1),fun σ' H' p'=>⟨xs.length - (i + 1),by omega,rfl,hlt,p'⟩,fun x H' y=>?_⟩
  obtain ⟨e,y⟩:=y
  subst e
  exact hs i x σ _ (y xs q) p
 ·have e:i = xs.length:=by omega
  subst e
  exact .inl ⟨⟨xs,q,Nat.le_refl _⟩,hd σ H p⟩
theorem for_range {lo:Int} {n:Nat} {g:TG} {tb:TS} {D:Ends} {σ : St} {H:Hp} (Pv:Nat->St->Hp->Prop) (h0:Pv 0 σ H)
  (hs:∀ i σ H,i < n->Pv i σ H->g (.int (lo + i)) σ H fun σ2 H2=>tb { D with nx:=Pv (i + 1),ct:=Pv (i + 1),bk:=D.nx } σ2 H2) (hd:∀ σ H,Pv n σ H->D.nx σ H) :
  ∃ W:Nat->Nat->St->Hp->Prop,(∃ m,W 0 m σ H)/\∀ i m σ H,W i m σ H->
   ((Itr lo n).stop i H/\D.nx σ H)\/((Itr lo n).go i H/\∃ N:St->Hp->Prop,(∀ σ' H',N σ' H'->∃ m',m' < m/\W (i + 1) m' σ' H')/\∀ x H',(Itr lo n).yld i H x H'->g x σ H' fun σ2 H2=>tb { D with nx:=N,ct:=N,bk:=D.nx } σ2 H2):=by
 refine ⟨fun i m σ H=>m = n - i/\i<=n/\Pv i σ H,⟨n,by simp,Nat.zero_le _,h0⟩,?_⟩
 rintro i m σ H ⟨rfl,hi,p⟩
 by_cases hlt:i < n
 ·refine .inr ⟨hlt,Pv (i + 1),fun σ' H' p'=>⟨n - (i + 1),by omega,rfl,hlt,p'⟩,fun x H' y=>?_⟩
  obtain ⟨e,y⟩:=y
  subst e y
  exact hs i σ _ hlt p
 ·have e:i = n:=by omega
  subst e
  exact .inl ⟨Nat.le_refl _,hd σ H p⟩
abbrev R2:=V->V->Hp->VK->Prop
def OpR (X:Cx) (f:Value->Value->Sem Value) (r:R2):Prop:=
 ∀ (pins:List (Addr × Obj)) (s:Shared) (σ : St) (H:Hp) (x y:V) (v u:Value) (Q:VK),Inv X pins σ H s->RelV x v->RelV y u->r x y H Q->
  wpAny (model X.prog X.w) X.A (f v u) (EP X pins σ Q) X.xe s
def UnR (X:Cx) (f:Value->Sem Value) (r:V->Hp->VK->Prop):Prop:=
 ∀ (pins:List (Addr × Obj)) (s:Shared) (σ : St) (H:Hp) (x:V) (v:Value) (Q:VK),Inv X pins σ H s->RelV x v->r x H Q->
  wpAny (model X.prog X.w) X.A (f v) (EP X pins σ Q) X.xe s
def CallR (X:Cx) (f:Value) (r:List V->Hp->VK->Prop):Prop:=
 ∀ (pins:List (Addr × Obj)) (s:Shared) (σ : St) (H:Hp) (xs:List V) (us:List Value) (Q:VK),Inv X pins σ H s->Vals xs us->r xs H Q->
  wpAny (model X.prog X.w) X.A (call f us) (EP X pins σ Q) X.xe s
def tOp (r:R2) (ta tb:TE):TE:=fun σ H Q=>ta σ H fun x H1=>tb σ H1 fun y H2=>r x y H2 Q
def tUn (r:V->Hp->VK->Prop) (ta:TE):TE:=fun σ H Q=>ta σ H fun x H1=>r x H1 Q
def rI (C:Int->Int->Prop) (g:Int->Int->V):R2:=fun x y H Q=>∃ i j,x = .int i/\y = .int j/\C i j/\Q (g i j) H
def rI0 (g:Int->Int->V):R2:=fun x y H Q=>∃ i j,x = .int i/\y = .int j/\Q (g i j) H
def rU (g:Int->V):V->Hp->VK->Prop:=fun x H Q=>∃ i,x = .int i/\Q (g i) H
section
variable {X:Cx} {a b c:Expr} {ta tb tc:TE} {pos:Pos}
theorem binT (ha:PE X a ta) (hb:PE X b tb) {pins:List (Addr × Obj)} {s:Shared} {σ : St} {H:Hp} {R:V->V->Hp->Prop} (I:Inv X pins σ H s)
  (h:ta σ H fun x H1=>tb σ H1 fun y H2=>R x y H2) {Q:Value->Shared->Prop} {f:Value->Value->Sem Value}
  (hf:∀ v u s2 x y H2,Inv X pins σ H2 s2->RelV x v->RelV y u->R x y H2->wpAny (model X.prog X.w) X.A (f v u) Q X.xe s2) :
  wpAny (model X.prog X.w) X.A (eval a X.env) (fun v s₁=>wpAny (model X.prog X.w) X.A (eval b X.env) (fun u s₂=>wpAny (model X.prog X.w) X.A (f v u) Q X.xe s₂) X.xe s₁) X.xe s:=by
 refine thn (ha pins s σ H _ I h) fun v s1 ⟨x,H1,I1,r1,q1⟩=>?_
 refine thn (hb pins s1 σ H1 _ I1 q1) fun u s2 ⟨y,H2,I2,r2,q2⟩=>?_
 exact hf v u s2 x y H2 I2 r1 r2 q2
theorem pe_op {op:Operator} {r:R2} (ho:OpR X (binaryOp op) r) (ha:PE X a ta) (hb:PE X b tb):PE X (.BinOp a op b pos) (tOp r ta tb):=by
 refine ⟨?_⟩
 intro pins s σ H Q I h
 exact wpAny_BinOp (binT ha hb I h fun v u s2 x y H2 I2 rx ry q=>ho pins s2 σ H2 x y v u Q I2 rx ry q)
theorem pe_un {op:UnaryOp} {r:V->Hp->VK->Prop} (ho:UnR X (unaryOp op) r) (ha:PE X a ta):PE X (.UnaryOp op a pos) (tUn r ta):=by
 refine ⟨?_⟩
 intro pins s σ H Q I h
 exact UnaryOp_ (thn (ha pins s σ H _ I h) fun v s1 ⟨x,H1,I1,r1,q1⟩=>ho pins s1 σ H1 x v Q I1 r1 q1)
theorem opI {f:Value->Value->Sem Value} {C:Int->Int->Prop} {g:Int->Int->Int}
  (rule:∀ (i j:Int) (t u:Tok) (s:Shared) (Q:Value->Shared->Prop) (E:Value->Shared->Prop),C i j->Q (.int (g i j) s.toks) { s with toks:=s.toks + 1 }->wpAny (model X.prog X.w) X.A (f (.int i t) (.int j u)) Q E s) :
  OpR X f (rI C fun i j=>.int (g i j)):=by
 intro pins s σ H x y v u Q I rx ry h
 obtain ⟨i,j,rfl,rfl,hc,q⟩:=h
 obtain ⟨t,rfl⟩:=rx
 obtain ⟨t',rfl⟩:=ry
 exact rule i j t t' s _ _ hc ⟨.int (g i j),H,I.tok _,⟨_,rfl⟩,q⟩
theorem opI0 {f:Value->Value->Sem Value} {g:Int->Int->Int}
  (rule:∀ (i j:Int) (t u:Tok) (s:Shared) (Q:Value->Shared->Prop) (E:Value->Shared->Prop),Q (.int (g i j) s.toks) { s with toks:=s.toks + 1 }->wpAny (model X.prog X.w) X.A (f (.int i t) (.int j u)) Q E s) :
  OpR X f (rI0 fun i j=>.int (g i j)):=by
 intro pins s σ H x y v u Q I rx ry h
 obtain ⟨i,j,rfl,rfl,q⟩:=h
 obtain ⟨t,rfl⟩:=rx
 obtain ⟨t',rfl⟩:=ry
 exact rule i j t t' s _ _ ⟨.int (g i j),H,I.tok _,⟨_,rfl⟩,q⟩
theorem opB0 {f:Value->Value->Sem Value} {g:Int->Int->Bool}
  (rule:∀ (i j:Int) (t u:Tok) (s:Shared) (Q:Value->Shared->Prop) (E:Value->Shared->Prop),Q (.bool (g i j)) s->wpAny (model X.prog X.w) X.A (f (.int i t) (.int j u)) Q E s) :
  OpR X f (rI0 fun i j=>.bl (g i j)):=by
 intro pins s σ H x y v u Q I rx ry h
 obtain ⟨i,j,rfl,rfl,q⟩:=h
 obtain ⟨t,rfl⟩:=rx
 obtain ⟨t',rfl⟩:=ry
 exact rule i j t t' s _ _ ⟨.bl (g i j),H,I,rfl,q⟩
def CDiv (i j:Int):Prop:=0 < j/\j < 1073741824
def CPow (i j:Int):Prop:=0<=j/\j<=1000000/\i.natAbs < 2 ^ 64
def CMul (i j:Int):Prop:=(-(2 ^ 64) < i/\i < 2 ^ 64)\/(-(2 ^ 64) < j/\j < 2 ^ 64)
theorem CMul.ok {i j:Int} (h:CMul i j):IntMulOk i j:=by
 rcases h with ⟨h1,h2⟩ | ⟨h1,h2⟩
 ·exact .of_left (intBits_le_64 h1 h2)
 ·exact .of_right (intBits_le_64 h1 h2)
theorem op_add:OpR X (binaryOp .Add) (rI0 fun i j=>.int (i + j)):=opI0 fun _ _ _ _ _ _ _ q=>add_int q
theorem op_sub:OpR X (binaryOp .Sub) (rI0 fun i j=>.int (i - j)):=opI0 fun _ _ _ _ _ _ _ q=>sub_int q
theorem op_mul:OpR X (binaryOp .Mult) (rI CMul fun i j=>.int (i * j)):=opI fun _ _ _ _ _ _ _ hc q=>mul_int q hc.ok
theorem op_fdiv:OpR X (binaryOp .FloorDiv) (rI CDiv fun i j=>.int (i / j)):=opI fun i j _ _ _ _ _ hc q=>by
 have h1:(0:Int) < j:=hc.1
 have h2:j < 1073741824:=hc.2
 exact floordiv_int (by omega) (by rw [Int.fdiv_eq_ediv_of_nonneg i (by omega)]; exact q) (.inl (PyProof.noPylong_small (by omega)))
theorem op_mod:OpR X (binaryOp .Mod) (rI (fun _ j=>0 < j) fun i j=>.int (i % j)):=opI fun i j _ _ _ _ _ hc q=>by
 have h1:(0:Int) < j:=hc
 exact mod_int' (by omega) (by rw [Int.fmod_eq_emod_of_nonneg i (by omega)]; exact q)
theorem op_pow:OpR X (binaryOp .Pow) (rI CPow fun i j=>.int (i ^ j.toNat)):=opI fun _ _ _ _ _ _ _ hc q=>pow_int_small hc.1 hc.2.1 hc.2.2 q
theorem unI {f:Value->Sem Value} {g:Int->Int}
  (rule:∀ (i:Int) (t:Tok) (s:Shared) (Q:Value->Shared->Prop) (E:Value->Shared->Prop),Q (.int (g i) s.toks) { s with toks:=s.toks + 1 }->wpAny (model X.prog X.w) X.A (f (.int i t)) Q E s) :
  UnR X f (rU fun i=>.int (g i)):=by
 intro pins s σ H x v Q I rx h
 obtain ⟨i,rfl,q⟩:=h
 obtain ⟨t,rfl⟩:=rx
 exact rule i t s _ _ ⟨.int (g i),H,I.tok _,⟨_,rfl⟩,q⟩
theorem un_neg:UnR X (unaryOp .USub) (rU fun i=>.int (-i)):=unI fun _ _ _ _ _ q=>neg_int q
end
def scal:V->V->Bool
 | .non,.non=>true | .non,.int _=>true | .int _,.non=>true | .non,.bl _=>true | .bl _,.non=>true | .non,.str _=>true | .str _,.non=>true
 | .int _,.int _=>true | .bl _,.bl _=>true | .str _,.str _=>true | .byt _,.byt _=>true
 | .int _,.str _=>true | .str _,.int _=>true | .bl _,.str _=>true | .str _,.bl _=>true
 | _,_=>false
def rEq:R2:=fun x y H Q=>scal x y = true/\Q (.bl (decide (x = y))) H
def rNe:R2:=fun x y H Q=>scal x y = true/\Q (.bl (!decide (x = y))) H
theorem dec_int {i j:Int}:decide (V.int i = V.int j) = (i == j):=by
 rw [Bool.eq_iff_iff]
 simp
theorem dec_bl {i j:Bool}:decide (V.bl i = V.bl j) = (i == j):=by
 rw [Bool.eq_iff_iff]
 simp
theorem dec_str {i j:Str}:decide (V.str i = V.str j) = (i == j):=by
 rw [Bool.eq_iff_iff]
 simp
theorem dec_byt {i j:Array UInt8}:decide (V.byt i = V.byt j) = (i.toList == j.toList):=by
 rw [Bool.eq_iff_iff]
 cases i
 cases j
 simp
section
variable {X:Cx} {a b c:Expr} {ta tb tc:TE} {pos:Pos}
theorem fin_bl {pins:List (Addr × Obj)} {σ : St} {H:Hp} {s:Shared} {Q:VK} {k k':Bool} (I:Inv X pins σ H s) (q:Q (.bl k) H) (e:k = k'):EP X pins σ Q (.bool k') s:=by
 subst e
 exact ⟨.bl k,H,I,rfl,q⟩
theorem op_eq:OpR X (compareOp .Eq) rEq:=by
 intro pins s σ H x y v u Q I rx ry h
 obtain ⟨hs,q⟩:=h
 cases x with
 | non=>
  cases rx
  cases y with
  | non=>cases ry; exact PySem.EqNone.eq_none_none (fin_bl I q (by simp))
  | bl j=>cases ry; exact PySem.EqNone.eq_none_bool (fin_bl I q (by simp))
  | int j=>obtain ⟨t',rfl⟩:=ry; exact PySem.EqNone.eq_none_int (fin_bl I q (by simp))
  | str j=>obtain ⟨t',rfl⟩:=ry; exact PySem.EqNone.eq_none_str (fin_bl I q (by simp))
  | _=>exact absurd (show false = true from hs) Bool.false_ne_true
 | bl i=>
  cases rx
  cases y with
  | non=>cases ry; exact PySem.EqNone.eq_bool_none (fin_bl I q (by simp))
  | bl j=>cases ry; exact eq_bool (fin_bl I q dec_bl)
  | str j=>obtain ⟨t',rfl⟩:=ry; exact PySem.EqMixed.eq_bool_str (fin_bl I q (by simp))
  | _=>exact absurd (show false = true from hs) Bool.false_ne_true
 | int i=>
  obtain ⟨t,rfl⟩:=rx
  cases y with
  | non=>cases ry; exact PySem.EqNone.eq_int_none (fin_bl I q (by simp))
  | int j=>obtain ⟨t',rfl⟩:=ry; exact eq_int (fin_bl I q dec_int)
  | str j=>obtain ⟨t',rfl⟩:=ry; exact PySem.EqMixed.eq_int_str (fin_bl I q (by simp))
  | _=>exact absurd (show false = true from hs) Bool.false_ne_true
 | str i=>
  obtain ⟨t,rfl⟩:=rx
  cases y with
  | non=>cases ry; exact PySem.EqNone.eq_str_none (fin_bl I q (by simp))
  | bl j=>cases ry; exact PySem.EqMixed.eq_str_bool (fin_bl I q (by simp))
  | int j=>obtain ⟨t',rfl⟩:=ry; exact PySem.EqMixed.eq_str_int (fin_bl I q (by simp))
  | str j=>obtain ⟨t',rfl⟩:=ry; exact eq_str (fin_bl I q dec_str)
  | _=>exact absurd (show false = true from hs) Bool.false_ne_true
 | byt i=>
  obtain ⟨t,rfl⟩:=rx
  cases y with
  | byt j=>obtain ⟨t',rfl⟩:=ry; exact PySem.W.eq_bytes (fin_bl I q dec_byt)
  | _=>exact absurd (show false = true from hs) Bool.false_ne_true
 | _=>cases y <;> exact absurd (show false = true from hs) Bool.false_ne_true
theorem op_ne:OpR X (compareOp .NotEq) rNe:=by
 intro pins s σ H x y v u Q I rx ry h
 obtain ⟨hs,q⟩:=h
 cases x with
 | non=>
  cases rx
  cases y with
  | non=>cases ry; exact PySem.EqNone.ne_none_none (fin_bl I q (by simp))
  | bl j=>cases ry; exact PySem.EqNone.ne_none_bool (fin_bl I q (by simp))
  | int j=>obtain ⟨t',rfl⟩:=ry; exact PySem.EqNone.ne_none_int (fin_bl I q (by simp))
  | str j=>obtain ⟨t',rfl⟩:=ry; exact PySem.EqNone.ne_none_str (fin_bl I q (by simp))
  | _=>exact absurd (show false = true from hs) Bool.false_ne_true
 | bl i=>
  cases rx
  cases y with
  | non=>cases ry; exact PySem.EqNone.ne_bool_none (fin_bl I q (by simp))
  | bl j=>cases ry; exact ne_bool (fin_bl I q (congrArg not dec_bl))
  | str j=>obtain ⟨t',rfl⟩:=ry; exact PySem.EqMixed.ne_bool_str (fin_bl I q (by simp))
  | _=>exact absurd (show false = true from hs) Bool.false_ne_true
 | int i=>
  obtain ⟨t,rfl⟩:=rx
  cases y with
  | non=>cases ry; exact PySem.EqNone.ne_int_none (fin_bl I q (by simp))
  | int j=>obtain ⟨t',rfl⟩:=ry; exact ne_int (fin_bl I q (congrArg not dec_int))
  | str j=>obtain ⟨t',rfl⟩:=ry; exact PySem.EqMixed.ne_int_str (fin_bl I q (by simp))
  | _=>exact absurd (show false = true from hs) Bool.false_ne_true
 | str i=>
  obtain ⟨t,rfl⟩:=rx
  cases y with
  | non=>cases ry; exact PySem.EqNone.ne_str_none (fin_bl I q (by simp))
  | bl j=>cases ry; exact PySem.EqMixed.ne_str_bool (fin_bl I q (by simp))
  | int j=>obtain ⟨t',rfl⟩:=ry; exact PySem.EqMixed.ne_str_int (fin_bl I q (by simp))
  | str j=>obtain ⟨t',rfl⟩:=ry; exact ne_str (fin_bl I q (congrArg not dec_str))
  | _=>exact absurd (show false = true from hs) Bool.false_ne_true
 | byt i=>
  obtain ⟨t,rfl⟩:=rx
  cases y with
  | byt j=>obtain ⟨t',rfl⟩:=ry; exact PySem.W.ne_bytes (fin_bl I q (congrArg not dec_byt))
  | _=>exact absurd (show false = true from hs) Bool.false_ne_true
 | _=>cases y <;> exact absurd (show false = true from hs) Bool.false_ne_true
theorem op_lt:OpR X (compareOp .Lt) (rI0 fun i j=>.bl (decide (i < j))):=opB0 fun _ _ _ _ _ _ _ q=>lt_int q
theorem op_le:OpR X (compareOp .LtE) (rI0 fun i j=>.bl (decide (i<=j))):=opB0 fun _ _ _ _ _ _ _ q=>le_int q
theorem op_gt:OpR X (compareOp .Gt) (rI0 fun i j=>.bl (decide (j < i))):=opB0 fun _ _ _ _ _ _ _ q=>gt_int q
theorem op_in_str:OpR X (compareOp .In) (fun x y H Q=>∃ i j,x = .str i/\y = .str j/\Q (.bl (!(Builtin.Str.occurrences j i 0 j.length 1).isEmpty)) H):=by
 intro pins s σ H x y v u Q I rx ry h
 obtain ⟨i,j,rfl,rfl,q⟩:=h
 obtain ⟨t,rfl⟩:=rx
 obtain ⟨t',rfl⟩:=ry
 exact in_str (fin_bl I q rfl)
theorem OpR.or {f:Value->Value->Sem Value} {r r':R2} (h:OpR X f r) (h':OpR X f r'):OpR X f (fun x y H Q=>r x y H Q\/r' x y H Q):=by
 intro pins s σ H x y v u Q I rx ry q
 rcases q with q | q
 ·exact h pins s σ H x y v u Q I rx ry q
 ·exact h' pins s σ H x y v u Q I rx ry q
theorem nomark (b:Expr) {op:CmpOp} (h:op ≠ .In:=by decide) (h2:op ≠ .NotIn:=by decide):behindInMarks op b = false:=by
 have e1:(op == CmpOp.In) = false:=by cases op <;> first | rfl | exact absurd rfl h
 have e2:(op == CmpOp.NotIn) = false:=by cases op <;> first | rfl | exact absurd rfl h2
 cases b <;> simp [behindInMarks,e1,e2]
theorem pe_cmpR {op:CmpOp} {r:R2} (ho:OpR X (compareOp op) r) (ha:PE X a ta) (hb:PE X b tb) (hm:behindInMarks op b = false):PE X (.Compare a [op] [b] pos) (tOp r ta tb):=by
 refine ⟨?_⟩
 intro pins s σ H Q I h
 exact wpAny_Compare1 (binT ha hb I h fun v u s2 x y H2 I2 rx ry q=>ho pins s2 σ H2 x y v u Q I2 rx ry q) hm
def tTest (t:TE):TT:=fun σ H Q=>t σ H fun x H'=>∃ k,x = .bl k/\Q k H'
theorem pt_cmpR {op:CmpOp} {r:R2} (ho:OpR X (compareOp op) r) (ha:PE X a ta) (hb:PE X b tb) (hm:behindInMarks op b = false):PT X (.Compare a [op] [b] pos) (tTest (tOp r ta tb)):=by
 refine ⟨?_⟩
 intro pins s σ H Q I h
 refine wpAny_isTrue_Compare1 (thn (ha pins s σ H _ I h) fun v s1 ⟨x,H1,I1,r1,q1⟩=>thn (hb pins s1 σ H1 _ I1 q1) fun u s2 ⟨y,H2,I2,r2,q2⟩=>
  thn (ho pins s2 σ H2 x y v u _ I2 r1 r2 q2) fun c s3 ⟨z,H3,I3,r3,k,e,q3⟩=>?_) hm
 subst e
 cases r3
 exact wpAny_truthy_bool ⟨H3,I3,q3⟩
def tChain (r r':R2) (ta tb tc:TE):TE:=fun σ H Q=>ta σ H fun x H1=>tb σ H1 fun y H2=>r x y H2 fun z H3=>∃ k,z = .bl k/\
 (if k = true then tc σ H3 fun w' H4=>r' y w' H4 Q else Q (.bl false) H3)
theorem pt_chain {op op':CmpOp} {r r':R2} (ho:OpR X (compareOp op) r) (ho':OpR X (compareOp op') r') (ha:PE X a ta) (hb:PE X b tb) (hc:PE X c tc)
  (hm:lastMarks [op,op'] [b,c] = false:=by with_unfolding_all rfl):PT X (.Compare a [op,op'] [b,c] pos) (tTest (tChain r r' ta tb tc)):=by
 refine ⟨?_⟩
 intro pins s σ H Q I h
 refine isTrue_chain (thn (ha pins s σ H _ I h) fun v s1 ⟨x,H1,I1,r1,q1⟩=>test_link (thn (hb pins s1 σ H1 _ I1 q1) fun u s2 ⟨y,H2,I2,r2,q2⟩=>
  thn (ho pins s2 σ H2 x y v u _ I2 r1 r2 q2) fun d s3 ⟨z,H3,I3,r3,k,e,q3⟩=>?_)) hm
 subst e
 cases r3
 refine wpAny_truthy_bool ?_
 cases k with
 | false=>
  obtain ⟨k',e',q'⟩:=q3
  cases e'
  exact ite_ff ⟨H3,I3,q'⟩
 | true=>
  refine ite_tt (test_last (thn (hc pins s3 σ H3 _ I3 q3) fun w' s4 ⟨z',H4,I4,r4,q4⟩=>thn (ho' pins s4 σ H4 y z' u w' _ I4 r2 r4 q4) fun d' s5 ⟨z2,H5,I5,r5,k2,e2,q5⟩=>?_))
  subst e2
  cases r5
  exact wpAny_truthy_bool ⟨H5,I5,q5⟩
theorem line63:(sizeLine:Nat) < 2 ^ 63:=by rw [sizeLine_eq]; decide
theorem op_add_str:OpR X (binaryOp .Add) (fun x y H Q=>∃ i j,x = .str i/\y = .str j/\i.length + j.length<=sizeLine/\Q (.str (i ++ j)) H):=by
 intro pins s σ H x y v u Q I rx ry h
 obtain ⟨i,j,rfl,rfl,hz,q⟩:=h
 obtain ⟨t,rfl⟩:=rx
 obtain ⟨t',rfl⟩:=ry
 exact add_str (fun t' tk=>⟨.str (i ++ j),H,I.tok _,⟨_,rfl⟩,q⟩) hz
theorem vals1 {x:V} {us:List Value} (r:Vals [x] us):∃ u,us = [u]/\RelV x u:=by
 cases r with
 | cons r1 r2=>cases r2; exact ⟨_,rfl,r1⟩
theorem vals2 {x y:V} {us:List Value} (r:Vals [x,y] us):∃ u w',us = [u,w']/\RelV x u/\RelV y w':=by
 cases r with
 | cons r1 r2=>
  cases r2 with
  | cons r3 r4=>cases r4; exact ⟨_,_,rfl,r1,r3⟩
end
structure ObjM (h:Heap) (x dx C:Addr) (mA:Str->Option Value):Prop where
 obj:h.get? x = some (instObj C dx)
 ns:h.Ns1 dx mA
 ne:dx ≠ x
theorem lookIn_ns {h:Heap} {dx:Addr} {mA:Str->Option Value} (n:h.Ns1 dx mA):∃ od,h.get? dx = some od/\∀ name,lookIn name od = some (mA name):=by
 obtain ⟨o,es,ep,ho,hd,hk,_,hm⟩:=n
 refine ⟨o,ho,fun name=>?_⟩
 have e:=hm name
 unfold nsFind findBy at e
 rw [<- Array.find?_toList] at e
 unfold lookIn
 rw [hd]
 dsimp only
 split
 ·rename_i y q
  rw [q] at e
  exact congrArg some e
 ·rename_i q
  rw [q] at e
  have a:es.toList.any (·.refKey) = false:=by
   rw [List.any_eq_false]
   intro y hy
   obtain ⟨z,t,hkey⟩:=hk y (Array.mem_toList_iff.mp hy)
   simp [DictEntry.refKey,hkey]
  have a':¬ es.toList.any (·.refKey) = true:=by rw [a]; exact Bool.false_ne_true
  rw [if_neg a']
  exact congrArg some e
theorem ObjM.look {h:Heap} {x dx C:Addr} {mA:Str->Option Value} (I:ObjM h x dx C mA):∃ od,PySem.W.InstAt h x (instObj C dx) C (some od)/\∀ name,lookIn name od = some (mA name):=
 let ⟨od,ho,hl⟩:=lookIn_ns I.ns
 ⟨od,⟨I.obj,rfl,rfl,ho⟩,hl⟩
section
variable {prog:Program} {w:World} {A:Around} {E:Value->Shared->Prop} {s:Shared} {K:Frag} {x dx C f:Addr} {mA:Str->Option Value} {name:Str} {v:Value}
theorem get_map {expr:Bool} {Q:Value->Shared->Prop} (X:K.In s.heap) (I:ObjM s.heap x dx C mA) (hg:plainGet K C name = true) (hh:hasDictIn K C = true)
  (ha:findIn K (.ref C) name = some none) (hv:mA name = some v) (hv':PySem.W.handedIn v = true) (h:Q v { s with toks:=s.toks + 1 }) :
  wpAny (model prog w) A (getAttr (.ref x) name expr) Q E s:=by
 obtain ⟨od,J,hl⟩:=I.look
 exact PySem.W.get_value X J (plainGet_of hg).1 (PySem.W.findObj_own hh ha rfl (by rw [hl,hv])) hv' h
theorem get_meth {pl:Sem Bool} {Q:Value × List Value->Shared->Prop} (X:K.In s.heap) (I:ObjM s.heap x dx C mA) (hg:plainGet K C name = true)
  (hf:findIn K (.ref C) name = some (some (.ref f))) (ht:isFn K (.ref f) = true) (hv:mA name = none) (h:Q (.ref f,[.ref x]) s) :
  wpAny (model prog w) A (getMethod (.ref x) name pl) Q E s:=by
 obtain ⟨od,J,hl⟩:=I.look
 exact PySem.W.method_fn X J (plainGet_of hg).1 (plainGet_of hg).2 hf (beq_iff_eq.mp ht) (by show (lookIn name od).map (·.isSome) = some false; rw [hl,hv]; rfl) h
theorem set_map {ns:List Str} {Q:Unit->Shared->Prop} (X:K.In s.heap) (I:ObjM s.heap x dx C mA)
  (hs:findIn K (.ref C) "__setattr__" = some (some (.builtin "object.__setattr__"))) (hp:plainOver K C = true) (ht:takerIn K C name = some none) (hh:hasDictIn K C = true)
  (hw:PySem.Within mA ns) (hsz:ns.length<=sizeLine)
  (h:∀ h',ObjM h' x dx C (fun y=>if y = name then some v else mA y)->Heap.SameBut dx s.heap h'->Q () { s with heap:=h',toks:=s.toks + 2 }) :
  wpAny (model prog w) A (setAttr (.ref x) name v) Q E s:=by
 obtain ⟨od,J,hl⟩:=I.look
 refine PySem.W.set_plain X J hs (PySem.W.osa_open (s:={ s with toks:=s.toks + 1 }) (r:=none) X J hp ht fun b=>?_)
 obtain ⟨cd,hc,hd'⟩:=PySem.W.any_some hh
 have hx:s.heap.get? x = some ⟨.ref C,some dx,.plain,#[]⟩:=I.obj
 refine wpAny_bind (wpAny_pure (wpAny_bind (wpAny_bind (wpAny_loadPart hx (wpAny_bind (PySem.W.Looks.here (s:={ s with toks:=s.toks + 1 }) (PySem.W.looks_clsIn X hc) ?_))))))
 rw [hd']
 refine wpAny_pure (a:=some dx) (wpAny_bind (wpAny_pure (wpAny_bind ?_)))
 refine wpAny_nsSet1 (s:={ s with toks:=s.toks + 1 }) I.ns fun h' hn2 hs2=>?_
 obtain ⟨oD,esD,epD,hoD,hdD,hcD⟩:=hn2.count (PySem.Within.cons name v hw)
 refine wpAny_bind (wpAny_lookBehind hoD (by rw [hdD]; exact pastItsLine_dict (Nat.le_trans hcD (by rw [List.length_cons]; omega))) ?_)
 exact wpAny_pure (h _ ⟨(hs2.2 _ (Ne.symm I.ne)).trans I.obj,hn2,I.ne⟩ hs2)
theorem make_map {R:Result->Shared->Prop} {vs:List Value} {kw:List (Str × Value)} (X:K.In s.heap) (hm:makesIn K C = true)
  (hi:findIn K (.ref C) "__init__" = some (some (.ref f))) (hf:PySem.W.typeIn K (.ref f) = some (.type "function"))
  (h:codeAny (model prog w) (A.under (.builtin "type.__call__" ⟨.ref C :: vs,kw⟩)) (.call (.ref f) ⟨.ref (s.heap.objs.size + 1) :: vs,kw⟩) (PySem.W.InitBack (s.heap.objs.size + 1) R)
   { s with heap:=(s.heap.push emptyDict).push (instObj C s.heap.objs.size) }) :
  codeAny (model prog w) A (.call (.ref C) ⟨vs,kw⟩) R s:=by
 obtain ⟨hh,g,d,t,os⟩:=s
 exact PySem.W.make_core (PySem.W.makes_of X hm) (PySem.W.looks_findIn X hi) (fun self=>PySem.W.bind_fn X self hf) (.inl rfl) h
end
def putF (f:Str) (v:V):List (Str × V)->List (Str × V)
 | []=>[(f,v)]
 | (g,x) :: r=>if g = f then (g,v) :: r else (g,x) :: putF f v r
theorem lookup_putF (f g:Str) (v:V):∀ fs:List (Str × V),(putF f v fs).lookup g = if g = f then some v else fs.lookup g
 | []=>by
  show List.lookup g [(f,v)] = _
  by_cases h:g = f
  ·have hb:(g == f) = true:=beq_iff_eq.mpr h
   simp only [List.lookup,hb,if_pos h]
  ·have hb:(g == f) = false:=beq_eq_false_iff_ne.mpr h
   simp only [List.lookup,hb,if_neg h]
 | (k,x) :: r=>by
  have ih:=lookup_putF f g v r
  rw [show putF f v ((k,x) :: r) = (if k = f then (k,v) :: r else (k,x) :: putF f v r) from rfl]
  by_cases hk:k = f
  ·rw [if_pos hk]
   by_cases h:g = k
   ·have hb:(g == k) = true:=beq_iff_eq.mpr h
    simp only [List.lookup,hb,if_pos (h.trans hk)]
   ·have hb:(g == k) = false:=beq_eq_false_iff_ne.mpr h
    simp only [List.lookup,hb,if_neg (fun e:g = f=>h (e.trans hk.symm))]
  ·rw [if_neg hk]
   by_cases h:g = k
   ·have hb:(g == k) = true:=beq_iff_eq.mpr h
    simp only [List.lookup,hb,if_neg (fun e:g = f=>hk (h.symm.trans e))]
   ·have hb:(g == k) = false:=beq_eq_false_iff_ne.mpr h
    simp only [List.lookup,hb]
    exact ih
theorem keys_putF (f:Str) (v:V):∀ fs:List (Str × V),f ∈ (putF f v fs).map (·.1)/\∀ g,g ∈ fs.map (·.1)->g ∈ (putF f v fs).map (·.1)
 | []=>⟨by simp [putF],fun g h=>by simp at h⟩
 | (k,x) :: r=>by
  obtain ⟨i1,i2⟩:=keys_putF f v r
  rw [show putF f v ((k,x) :: r) = (if k = f then (k,v) :: r else (k,x) :: putF f v r) from rfl]
  by_cases hk:k = f
  ·rw [if_pos hk]
   subst hk
   exact ⟨by simp,fun g h=>by simpa using h⟩
  ·rw [if_neg hk]
   refine ⟨?_,fun g h=>?_⟩
   ·rw [List.map_cons]
    exact List.mem_cons_of_mem _ i1
   ·rw [List.map_cons] at h |-
    rcases List.mem_cons.mp h with e | e
    ·exact List.mem_cons.mpr (.inl e)
    ·exact List.mem_cons_of_mem _ (i2 g e)
theorem length_putF (f:Str) (v:V):∀ fs:List (Str × V),(putF f v fs).length<=fs.length + 1
 | []=>by simp [putF]
 | (k,x) :: r=>by
  have ih:=length_putF f v r
  rw [show putF f v ((k,x) :: r) = (if k = f then (k,v) :: r else (k,x) :: putF f v r) from rfl]
  by_cases hk:k = f
  ·rw [if_pos hk,List.length_cons,List.length_cons]; omega
  ·rw [if_neg hk,List.length_cons,List.length_cons]; omega
theorem RelO.some_of {v:V} {o:Option Value} (r:RelO (some v) o):∃ u,o = some u/\RelV v u:=by
 cases o with
 | none=>exact (show False from r).elim
 | some u=>exact ⟨u,rfl,r⟩
theorem RelO.none_of {o:Option Value} (r:RelO none o):o = none:=by
 cases o with
 | none=>rfl
 | some u=>exact (show False from r).elim
theorem handed_of {v:V} {u:Value} (r:RelV v u):PySem.W.handedIn u = true:=by
 cases v with
 | non=>cases (show u = Value.none from r); rfl
 | bl b=>cases (show u = Value.bool b from r); rfl
 | int i=>obtain ⟨t,e⟩:=(show ∃ t,u = Value.int i t from r); cases e; rfl
 | str x=>obtain ⟨t,e⟩:=(show ∃ t,u = Value.str x t from r); cases e; rfl
 | byt b=>obtain ⟨t,e⟩:=(show ∃ t,u = Value.bytes b t from r); cases e; rfl
 | flt b=>obtain ⟨t,e⟩:=(show ∃ t,u = Value.float b t from r); cases e; rfl
 | ref a=>cases (show u = Value.ref a from r); rfl
 | ty n=>cases (show u = Value.type n from r); rfl
section
variable {P:Program} {w:World} {H H':Hp} {h h':Heap} {a C dx:Addr} {fs fs':List (Str × V)}
theorem ins_get (hok:HOk P w H h) (e:H a = some (.ins C dx fs)):∃ mA,ObjM h a dx C mA/\(∀ f,RelO (fs.lookup f) (mA f))/\PySem.Within mA (fs.map (·.1))/\fs.length<=1000/\H dx = some (.own a):=by
 obtain ⟨d,z,ne,ob,mA,n,r,q⟩:=(show ObjOk P w H h a (.ins C dx fs) from hok a _ e)
 exact ⟨mA,⟨ob,n,ne⟩,r,q,z,d⟩
end
structure Cls (K:Frag) (C:Addr):Prop where
 pg:plainGet K C Str.empty = true
 hd:hasDictIn K C = true
 po:plainOver K C = true
 sa:findIn K (.ref C) "__setattr__" = some (some (.builtin "object.__setattr__"))
theorem Cls.get {K:Frag} {C:Addr} (c:Cls K C) (f:Str):plainGet K C f = true:=c.pg
def NoAttr (K:Frag) (C:Addr) (f:Str):Prop:=findIn K (.ref C) f = some none
theorem NoAttr.taker {K:Frag} {C:Addr} {f:Str} (n:NoAttr K C f):takerIn K C f = some none:=by
 unfold takerIn
 rw [show findIn K (.ref C) f = some none from n]
 rfl
structure Meth (K:Frag) (C:Addr) (m:Str) (f:Addr):Prop where
 at_:findIn K (.ref C) m = some (some (.ref f))
 fn:isFn K (.ref f) = true
 kp:keepIn K (.ref f) = true
section
variable {X:Cx} {pins:List (Addr × Obj)} {σ : St} {H:Hp} {s:Shared} {a C dx:Addr} {fs:List (Str × V)} {f:Str} {v:V} {A:Around} {E:Value->Shared->Prop}
theorem getattr_ok {b:Bool} {Q:Value->Shared->Prop} (I:Inv X pins σ H s) (e:H a = some (.ins C dx fs)) (c:Cls X.K C) (n:NoAttr X.K C f) (l:fs.lookup f = some v)
  (h:∀ u s',Inv X pins σ H s'->RelV v u->Q u s'):wpAny (model X.prog X.w) A (getAttr (.ref a) f b) Q E s:=by
 obtain ⟨mA,O,r,_,_,_⟩:=ins_get I.hok e
 obtain ⟨u,hu,ru⟩:=RelO.some_of (v:=v) (o:=mA f) (by rw [<- l]; exact r f)
 exact get_map I.kIn O (c.get f) c.hd n hu (handed_of ru) (h u _ (I.tok _) ru)
theorem getmeth_ok {m:Str} {g:Addr} {pl:Sem Bool} {Q:Value × List Value->Shared->Prop} (I:Inv X pins σ H s) (e:H a = some (.ins C dx fs)) (c:Cls X.K C) (k:Meth X.K C m g) (l:fs.lookup m = none)
  (h:Q (.ref g,[.ref a]) s):wpAny (model X.prog X.w) A (getMethod (.ref a) m pl) Q E s:=by
 obtain ⟨mA,O,r,_,_,_⟩:=ins_get I.hok e
 have hn:mA m = none:=RelO.none_of (by rw [<- l]; exact r m)
 exact get_meth I.kIn O (c.get m) k.at_ k.fn hn h
theorem setattr_ok {y:V} {u:Value} {Q:Unit->Shared->Prop} (I:Inv X pins σ H s) (e:H a = some (.ins C dx fs)) (c:Cls X.K C) (n:NoAttr X.K C f) (hl:fs.length < 1000) (ry:RelV y u)
  (h:∀ s',Inv X pins σ (upd H a (.ins C dx (putF f y fs))) s'->Q () s'):wpAny (model X.prog X.w) A (setAttr (.ref a) f u) Q E s:=by
 obtain ⟨mA,O,r,wi,_,ho⟩:=ins_get I.hok e
 have hz:(fs.map (·.1)).length<=sizeLine:=by rw [List.length_map,sizeLine_eq]; omega
 refine set_map I.kIn O c.sa c.po n.taker c.hd wi hz fun h' O' sb=>h _ ?_
 have hd:∃ o,h'.get? dx = some o:=let ⟨o,_,_,e',_⟩:=O'.ns; ⟨o,e'⟩
 refine I.write (x:=a) (e:=dx) (by rw [e]; exact True.intro) (.inr ho) (fun b q hb z=>(sb.2 b hb).trans z) hd ?_
 refine ⟨by rw [upd_ne O.ne]; exact ho,?_,O.ne,O'.obj,_,O'.ns,fun g=>?_,fun g hg=>?_⟩
 ·have:=length_putF f y fs; omega
 ·show RelO ((putF f y fs).lookup g) (if g = f then some u else mA g)
  rw [lookup_putF]
  by_cases q:g = f
  ·rw [if_pos q,if_pos q]; exact ry
  ·rw [if_neg q,if_neg q]; exact r g
 ·by_cases q:g = f
  ·rw [q]; exact (keys_putF f y fs).1
  ·refine (keys_putF f y fs).2 g (wi g fun z=>hg ?_)
   show (if g = f then some u else mA g) = none
   rw [if_neg q]; exact z
theorem Inv.made (I:Inv X pins σ H s):Inv X pins σ (upd (upd H s.heap.objs.size (.own (s.heap.objs.size + 1))) (s.heap.objs.size + 1) (.ins C s.heap.objs.size []))
  { s with heap:=(s.heap.push emptyDict).push (instObj C s.heap.objs.size) }:=by
 have e1:(s.heap.push emptyDict).get? s.heap.objs.size = some emptyDict:=Heap.get?_push_size s.heap rfl
 have e2:((s.heap.push emptyDict).push (instObj C s.heap.objs.size)).get? (s.heap.objs.size + 1) = some (instObj C s.heap.objs.size):=by
  have:=Heap.get?_push_size (s.heap.push emptyDict) (o:=instObj C s.heap.objs.size) rfl
  rwa [Heap.size_push] at this
 have e3:(s.heap.push emptyDict).Ns s.heap.objs.size (fun _=>none):=⟨emptyDict,#[],_,e1,rfl,(fun e he=>absurd he (by simp)),fun _=>rfl⟩
 have I1:=I.laid (a:=s.heap.objs.size) (o:=.own (s.heap.objs.size + 1)) (h':=s.heap.push emptyDict) (t':=s.toks) (fun b u q=>Heap.get?_push_of_some _ q) (Nat.le_refl _) ⟨_,e1⟩
 refine I1.laid (a:=s.heap.objs.size + 1) (o:=.ins C s.heap.objs.size []) (t':=s.toks) (fun b u q=>Heap.get?_push_of_some _ q) (Nat.le_of_eq (Heap.size_push _ _)) ?_
 have ne:s.heap.objs.size ≠ s.heap.objs.size + 1:=Nat.ne_of_lt (Nat.lt_succ_self _)
 refine ⟨by rw [upd_ne ne,upd_same],Nat.zero_le _,ne,e2,fun _=>none,(Heap.Ns1.of_empty e3).at fun o q=>Heap.get?_push_of_some _ q,fun _=>True.intro,fun y hy=>absurd rfl hy⟩
theorem attr_of {prog:Program} {w:World} {env:Env} {e:Expr} {f:Str} {pos:Pos} {s:Shared} {Q:Value->Shared->Prop} (hb:attributeBase e f env (eval e env) = eval e env)
  (h:wpAny (model prog w) A (eval e env) (fun o s₁=>wpAny (model prog w) A (getAttr o f true) Q E s₁) E s):wpAny (model prog w) A (eval (.Attribute e f pos) env) Q E s:=
 Attribute_any_ h (by rw [arm_eval_Attribute,hb])
end
def tFld (K:Frag) (ta:TE) (f:Str):TE:=fun σ H Q=>ta σ H fun x H1=>∃ a C dx fs v,x = .ref a/\H1 a = some (.ins C dx fs)/\Cls K C/\NoAttr K C f/\fs.lookup f = some v/\Q v H1
def sFld (K:Frag) (ta tv:TE) (f:Str):TS:=fun D σ H=>tv σ H fun y H1=>ta σ H1 fun x H2=>∃ a C dx fs,x = .ref a/\H2 a = some (.ins C dx fs)/\Cls K C/\NoAttr K C f/\fs.length < 1000/\
 D.nx σ (upd H2 a (.ins C dx (putF f y fs)))
section
variable {X:Cx} {o e value:Expr} {f:Str} {pos pos' tpos:Pos} {ta tv:TE}
theorem pe_fld (he:PE X e ta) (hb:attributeBase e f X.env (eval e X.env) = eval e X.env):PE X (.Attribute e f pos) (tFld X.K ta f):=by
 refine ⟨?_⟩
 intro pins s σ H Q I h
 refine attr_of hb (thn (he pins s σ H _ I h) fun u s1 ⟨x,H1,I1,rx,a,C,dx,fs,v,ex,ea,c,n,l,q⟩=>?_)
 subst ex
 obtain rfl:u = Value.ref a:=rx
 exact getattr_ok I1 ea c n l fun u' s2 I2 ru=>⟨v,H1,I2,ru,q⟩
theorem ps_fld (ha:PE X o ta) (hv:PE X value tv) (hs:swapsWith value (some (.Attribute o f pos')) pos.line X.env = pure false):PS X (.Assign [.Attribute o f pos'] value pos) (sFld X.K ta tv f):=by
 refine ⟨?_⟩
 intro pins s σ H D I h
 refine plainObj_wpAny_Assign_Attribute (thn (hv pins s σ H _ I h) fun u s1 ⟨y,H1,I1,ry,q⟩=>thn (ha pins s1 σ H1 _ I1 q) fun ov s2 ⟨x,H2,I2,rx,a,C,dx,fs,ex,ea,c,n,l,q2⟩=>?_) hs
 subst ex
 obtain rfl:ov = Value.ref a:=rx
 exact setattr_ok I2 ea c n l ry fun s3 I3=>⟨σ,_,I3,q2⟩
theorem methcall_of {pl:Sem Bool} {m:Str} {apos:Pos} {args:List Expr} {pins:List (Addr × Obj)} {s:Shared} {σ : St} {H:Hp} {Q:Value->Shared->Prop} {te:TE} (he:PE X e te) (I:Inv X pins σ H s)
  (h:te σ H fun x H1=>∃ a C dx fs g,x = .ref a/\H1 a = some (.ins C dx fs)/\Cls X.K C/\Meth X.K C m g/\fs.lookup m = none/\
   ∀ s1,Inv X pins σ H1 s1->wpAny (model X.prog X.w) X.A (callWith pos (.ref g) [.ref a] (backTo pos (starEach args X.env)) (backToKw pos (keywordEach [] X.env))) Q X.xe s1)
  (ht:eval (.Call (.Attribute e m apos) args [] pos) X.env = (do
   let ov <- eval e X.env
   standAt apos.atName
   let (f,first) <- holding [ov] (getMethod ov m pl)
   callWith pos f first (backTo pos (starEach args X.env)) (backToKw pos (keywordEach [] X.env)))) :
  wpAny (model X.prog X.w) X.A (eval (.Call (.Attribute e m apos) args [] pos) X.env) Q X.xe s:=by
 refine methodCall_KW (pl:=pl) (thn (he pins s σ H _ I h) fun u s1 ⟨x,H1,I1,rx,a,C,dx,fs,g,ex,ea,c,k,l,q⟩=>?_) ht
 subst ex
 obtain rfl:u = Value.ref a:=rx
 exact getmeth_ok I1 ea c k l (q s1 I1)
end
section
variable {X:Cx} {pins:List (Addr × Obj)} {σ : St} {H:Hp} {s:Shared} {A:Around} {E:Value->Shared->Prop} {Q:Value->Shared->Prop} {c:Value} {b:Bool}
inductive TyOf (K:Frag) (H:Hp):V->Value->Prop where
 | non:TyOf K H .non (.type "NoneType")
 | bl (x:Bool):TyOf K H (.bl x) (.type "bool")
 | int (i:Int):TyOf K H (.int i) (.type "int")
 | str (x:Str):TyOf K H (.str x) (.type "str")
 | flt (x:UInt64):TyOf K H (.flt x) (.type "float")
 | lst {a:Addr} {xs:List V} (e:H a = some (.lst xs)):TyOf K H (.ref a) (.type "list")
 | frz {a:Addr} {o:Obj} {xs:List V} (e:H a = some (.frz o (.lst xs))):TyOf K H (.ref a) (.type "list")
 | tup {a:Addr} {xs:List V} (e:H a = some (.tup xs)):TyOf K H (.ref a) (.type "tuple")
 | dK {a:Addr} {kvs:List (Key × V)} (e:H a = some (.dK kvs)):TyOf K H (.ref a) (.type "dict")
 | dT {a:Addr} {kvs:List (List Key × V)} (e:H a = some (.dT kvs)):TyOf K H (.ref a) (.type "dict")
 | ins {a C dx:Addr} {fs:List (Str × V)} (e:H a = some (.ins C dx fs)) (cl:Cls K C) (ha:findIn K (.ref C) "__class__" = some (some (.builtin "object.__class__")))
   (hn:specialIn K (.builtin "object.__class__") "__get__" = some (some (.builtin "getset_descriptor.__get__"))) (htk:PySem.W.takesIn K (.builtin "object.__class__") = some true)
   (hm:mroIn K C (.type "object") = some true):TyOf K H (.ref a) (.ref C)
theorem isinst_ok {x:V} {u t:Value} (I:Inv X pins σ H s) (rx:RelV x u) (ty:TyOf X.K H x t) (e:kitOne X.K t c = some b) (h:∀ tk,Q (.bool b) { s with toks:=tk }) :
  wpAny (model X.prog X.w) A (call (.builtin "isinstance") [u,c]) Q E s:=by
 cases ty with
 | non=>cases (show u = Value.none from rx); exact kia_one PySem.W.kitx_none I.kIn True.intro e (fun z=>nomatch z) h
 | bl y=>cases (show u = Value.bool y from rx); exact kia_one PySem.W.kitx_bool I.kIn True.intro e (fun z=>nomatch z) h
 | int i=>obtain ⟨t,q⟩:=(show ∃ t,u = Value.int i t from rx); cases q; exact kia_one PySem.W.kitx_int I.kIn True.intro e (fun z=>nomatch z) h
 | str y=>obtain ⟨t,q⟩:=(show ∃ t,u = Value.str y t from rx); cases q; exact kia_one PySem.W.kitx_str I.kIn True.intro e (fun z=>nomatch z) h
 | flt y=>obtain ⟨t,q⟩:=(show ∃ t,u = Value.float y t from rx); cases q; exact kia_one PySem.W.kitx_float I.kIn True.intro e (fun z=>nomatch z) h
 | @lst a xs ea=>
  cases (show u = Value.ref a from rx)
  obtain ⟨_,_,n,_,h1⟩:=(show ObjOk X.prog X.w H s.heap a (.lst xs) from I.hok a _ ea)
  exact kia_one PySem.W.kitx_list I.kIn ⟨_,h1,rfl⟩ e (fun z=>nomatch z) h
 | @frz a ob xs ea=>
  cases (show u = Value.ref a from rx)
  obtain ⟨_,_,_,n,_,h1⟩:=(show ObjOk X.prog X.w H s.heap a (.frz ob (.lst xs)) from I.hok a _ ea)
  exact kia_one PySem.W.kitx_list I.kIn ⟨_,h1,rfl⟩ e (fun z=>nomatch z) h
 | @tup a xs ea=>
  cases (show u = Value.ref a from rx)
  obtain ⟨_,_,_,p⟩:=(show ObjOk X.prog X.w H s.heap a (.tup xs) from I.hok a _ ea)
  obtain ⟨o,h1,h2,_⟩:=p
  exact kia_one PySem.W.kitx_tuple I.kIn ⟨o,h1,h2⟩ e (fun z=>nomatch z) h
 | @dK a kvs ea=>
  cases (show u = Value.ref a from rx)
  obtain ⟨_,_,vs,_,p⟩:=(show ObjOk X.prog X.w H s.heap a (.dK kvs) from I.hok a _ ea)
  obtain ⟨o,es,ep,h1,h2,_⟩:=p
  exact kia_one PySem.W.kitx_dict I.kIn ⟨o,h1,h2.1⟩ e (fun z=>nomatch z) h
 | @dT a kvs ea=>
  cases (show u = Value.ref a from rx)
  obtain ⟨_,_,xs,_,o,es,ep,h1,h2,_⟩:=(show ObjOk X.prog X.w H s.heap a (.dT kvs) from I.hok a _ ea)
  exact kia_one PySem.W.kitx_dict I.kIn ⟨o,h1,h2.1⟩ e (fun z=>nomatch z) h
 | @ins a C dx fs ea cl ha hn htk hm=>
  cases (show u = Value.ref a from rx)
  obtain ⟨mA,O,_⟩:=ins_get I.hok ea
  obtain ⟨od,J,_⟩:=O.look
  exact kia_one (PySem.W.kitx_own (cl.get _) cl.hd ha hn htk hm) I.kIn J e (fun z=>nomatch z) h
end
structure Room (k:Nat) (A:Around):Prop where
 hd:A.handled = none
 dp:A.depth + 3 * k + 5 < recursionLimit
 un:A.units + 16 * k + 200 < cLine
theorem Room.mono {j k:Nat} {A:Around} (r:Room k A) (h:j<=k):Room j A:=⟨r.hd,by have:=r.dp; omega,by have:=r.un; omega⟩
theorem Room.deeper {k:Nat} {A:Around} (r:Room (k + 1) A) (env:Env):Room k (A.deeper env):=
 ⟨r.hd,by have:=r.dp; show A.depth + 1 + 3 * k + 5 < _; omega,by have:=r.un; show A.units + 3 + 16 * k + 200 < _; omega⟩
theorem make_depth {A:Around} {C:Addr} {us:List Value} {kw:List (Str × Value)}:(A.under (.builtin "type.__call__" ⟨.ref C :: us,kw⟩)).depth = A.depth + 1:=by
 first | rfl | simp [Around.under,Code.weight,Code.isCreation,Code.isGuard,Code.isCaller,Code.frames,Code.isFrame,guardIds]
theorem make_units {A:Around} {C:Addr} {us:List Value} {kw:List (Str × Value)}:(A.under (.builtin "type.__call__" ⟨.ref C :: us,kw⟩)).units = A.units + 1:=by
 first | rfl | simp [Around.under,Code.cUnits,Code.frames,Code.isFrame]
theorem Room.make {k:Nat} {A:Around} (r:Room (k + 1) A) (C:Addr) (us:List Value) (kw:List (Str × Value)):Room k (A.under (.builtin "type.__call__" ⟨.ref C :: us,kw⟩)):=
 ⟨r.hd,by have:=r.dp; rw [make_depth]; omega,by have:=r.un; rw [make_units]; omega⟩
theorem Room.depth {k:Nat} {A:Around} (r:Room k A):A.depth < recursionLimit:=by have:=r.dp; omega
theorem Room.units {k:Nat} {A:Around} (r:Room k A):A.units + 64 < cLine:=by have:=r.un; omega
def tNil:TA:=fun _ H Q=>Q [] H
def tCons (ta:TE) (tr:TA):TA:=fun σ H Q=>ta σ H fun x H1=>tr σ H1 fun xs H2=>Q (x :: xs) H2
section
variable {X:Cx} {e:Expr} {es:List Expr} {te:TE} {t:TA} {pos:Pos}
theorem pa_nil:PA X [] tNil:=⟨fun _ _ _ _ H Q I h=>Calls.spliced_nil ⟨[],H,I,.nil,h⟩⟩
theorem pa_cons (ha:PE X e te) (hr:PA X es t) (hs:starEach (e :: es) X.env = (false,eval e X.env) :: starEach es X.env:=by rfl):PA X (e :: es) (tCons te t):=by
 refine ⟨?_⟩
 intro pos pins s σ H Q I h
 rw [hs]
 show wpAny _ _ (spliced ((false,eval e X.env) :: backTo pos (starEach es X.env))) _ _ s
 refine Calls.spliced_cons (thn (ha pins s σ H _ I h) fun u s1 ⟨x,H1,I1,r1,q1⟩=>?_)
 exact thn (hr pos pins s1 σ H1 _ I1 q1) fun us s2 ⟨xs,H2,I2,r2,q2⟩=>⟨x :: xs,H2,I2,.cons r1 r2,q2⟩
def tTup (t:TA):TE:=fun σ H Q=>t σ H fun xs H1=>xs.length<=sizeLine/\∀ p,H1 p = none->Q (.ref p) (upd H1 p (.tup xs))
def tLst (t:TA):TE:=fun σ H Q=>t σ H fun xs H1=>xs.length<=sizeLine/\∀ p,H1 p = none->Q (.ref p) (upd H1 p (.lst xs))
theorem pe_tup {x1} (h:PA X es t):PE X (.Tuple es x1 pos) (tTup t):=by
 refine ⟨?_⟩
 intro pins s σ H Q I hq
 refine wpAny_Tuple_spliced (thn (h pos pins s σ H _ I hq) fun us s1 ⟨xs,H1,I1,r,z,q⟩=>⟨by rw [<- r.length]; exact z,?_⟩)
 have hf:H1 s1.heap.objs.size = none:=I1.hok.fresh (Nat.le_refl _)
 refine ⟨.ref s1.heap.objs.size,upd H1 s1.heap.objs.size (.tup xs),I1.laid (t':=s1.toks) (fun b u e=>Heap.get?_push_of_some _ e) (Nat.le_refl _) ?_,rfl,q _ hf⟩
 exact ⟨z,us,r,⟨_,Heap.get?_push_size _ rfl,rfl,_,rfl⟩⟩
theorem pe_lst (h:PA X es t):PE X (.List es pos) (tLst t):=by
 refine ⟨?_⟩
 intro pins s σ H Q I hq
 refine wpAny_List_spliced (thn (h pos pins s σ H _ I hq) fun us s1 ⟨xs,H1,I1,r,z,q⟩=>⟨by rw [<- r.length]; exact z,?_⟩)
 have hf:H1 s1.heap.objs.size = none:=I1.hok.fresh (Nat.le_refl _)
 refine ⟨.ref s1.heap.objs.size,upd H1 s1.heap.objs.size (.lst xs),I1.laid (t':=s1.toks) (fun b u e=>Heap.get?_push_of_some _ e) (Nat.le_refl _) ?_,rfl,q _ hf⟩
 exact ⟨z,us,0,r,Heap.get?_push_size _ rfl⟩
end
abbrev Sp:=List V->Hp->VK->XK->Prop
abbrev CXT:=List Env->Hp->Shared->XK->Value->Shared->Prop
structure Env0 (P:Program) (w:World) (K:Frag) (mg:Str->Option Value) (base:Heap) (A:Around) (outer:List Env) (s:Shared) (H:Hp):Prop where
 frames:A.frames = some outer
 mod:Mod K mg base
 bs:∀ b o,base.get? b = some o->s.heap.get? b = some o/\H b = none
 bsz:base.objs.size<=s.heap.objs.size
 funs:s.heap.FunFrames base outer
 frf:∀ b ∈ frs outer,H b = none
 hok:HOk P w H s.heap
 bare:AllBare s.gens
def CE (outer:List Env) (P:Program) (w:World) (H:Hp) (s:Shared) (Q:VK) (u:Value) (s':Shared):Prop:=
 ∃ v H',s'.os = s.os/\AllBare s'.gens/\Un (frs outer) [] H H' s.heap s'.heap/\HOk P w H' s'.heap/\RelV v u/\Q v H'
def CR (CX:CXT) (outer:List Env) (P:Program) (w:World) (H:Hp) (s:Shared) (Q:VK) (E:XK) (r:Result) (s':Shared):Prop:=
 match r with
 | .ok (.ret u)=>CE outer P w H s Q u s'
 | .ok _=>False
 | .error e=>CX outer H s E e s'
structure FnOk (P:Program) (w:World) (K:Frag) (mg:Str->Option Value) (base:Heap) (CX:CXT) (k:Nat) (f:Addr) (fd:FuncData) (ps:List Str) (sp:Sp):Prop where
 len:∀ vs H Q E,sp vs H Q E->vs.length = ps.length
 run:∀ (A:Around) (outer:List Env) (s:Shared) (H:Hp) (args:Args) (us:List Value) (vs:List V) (Q:VK) (E:XK),Room k A->Env0 P w K mg base A outer s H->BindsTo s fd args (ps.zip us)->Vals vs us->sp vs H Q E->
  codeAny (model P w) A (.call (.ref f) args) (CR CX outer P w H s Q E) s
theorem Env0.make {P:Program} {w:World} {K:Frag} {mg:Str->Option Value} {base:Heap} {A:Around} {outer:List Env} {s:Shared} {H:Hp} (e:Env0 P w K mg base A outer s H) (C:Addr) (us:List Value) (kw:List (Str × Value)) :
  Env0 P w K mg base (A.under (.builtin "type.__call__" ⟨.ref C :: us,kw⟩)) outer s H:=⟨by first | exact e.frames | (simpa [Around.under,Code.envs,Code.isFrame,pushEnvs] using e.frames),e.mod,e.bs,e.bsz,e.funs,e.frf,e.hok,e.bare⟩
section
variable {X:Cx} {pins:List (Addr × Obj)} {σ : St} {H:Hp} {s s':Shared}
theorem Inv.env0 (I:Inv X pins σ H s):Env0 X.prog X.w X.K X.mg X.base X.A X.stack s H:=
 ⟨I.ok.frames,I.ok.mod,I.bs,Nat.le_trans I.ok.bsz I.sz,I.stack,I.stkFree,I.hok,I.bare⟩
theorem Inv.after {Q:VK} {u:Value} (I:Inv X pins σ H s) (h:CE X.stack X.prog X.w H s Q u s'):EP X pins σ Q u s':=by
 obtain ⟨v,H',os,bare,un,hok,r,q⟩:=h
 obtain ⟨hh,g,d,t,os'⟩:=s'
 obtain rfl:os' = s.os:=os
 exact ⟨v,H',I.call (h':=hh) (g':=g) (d':=d) (t':=t) (ch:=[]) un hok bare (fun b z=>absurd z (by simp)),r,q⟩
end
def tCall (sp:Sp) (dvs:List V) (E:XK) (t:TA):TE:=fun σ H Q=>t σ H fun vs H1=>sp (vs ++ dvs) H1 Q E
def tMeth (C:Addr) (m:Str) (sp:Sp) (dvs:List V) (E:XK) (ta:TE) (t:TA):TE:=fun σ H Q=>ta σ H fun x H1=>∃ a dx fs,x = .ref a/\H1 a = some (.ins C dx fs)/\fs.lookup m = none/\
 t σ H1 fun vs H2=>sp (x :: (vs ++ dvs)) H2 Q E
def tMake (C:Addr) (sp:Sp) (dvs:List V) (E:XK) (t:TA):TE:=fun σ H Q=>t σ H fun vs H1=>∀ x dx,H1 x = none->H1 dx = none->dx ≠ x->
 sp (.ref x :: (vs ++ dvs)) (upd (upd H1 dx (.own x)) x (.ins C dx [])) (fun v H2=>v = .non/\Q (.ref x) H2) E
def Binds (K:Frag) (fd:FuncData) (ps:List Str) (ds:List Value):Prop:=
 ∀ (s:Shared) (us:List Value),K.In s.heap->(us ++ ds).length = ps.length->BindsTo s fd ⟨us,[]⟩ (ps.zip (us ++ ds))
theorem Binds.all {K:Frag} {fd:FuncData} {ps:List Str} (h:∀ us:List Value,us.length = ps.length->bindArgs fd ⟨us,[]⟩ = pure (ps.zip us)):Binds K fd ps []:=fun s us _ hl=>by
 rw [List.append_nil] at hl |-
 exact .of_eq (h us hl)
def Passes (CX:CXT) (X:Cx) (E:XK):Prop:=∀ (pins:List (Addr × Obj)) (σ : St) (H:Hp) (s:Shared) (e:Value) (s':Shared),Inv X pins σ H s->CX X.stack H s E e s'->X.xe e s'
section
variable {X:Cx} {CX:CXT} {k:Nat} {f C:Addr} {fd:FuncData} {ps:List Str} {sp:Sp} {dvs:List V} {ds:List Value} {E:XK} {x m:Str} {p pos apos:Pos} {e o:Expr} {es:List Expr} {ta:TE} {t:TA}
theorem run_fn {pins:List (Addr × Obj)} {σ : St} {H:Hp} {s:Shared} {Q:VK} {us:List Value} {vs:List V} (F:FnOk X.prog X.w X.K X.mg X.base CX k f fd ps sp) (hr:Room k X.A) (hb:Binds X.K fd ps ds) (hd:Vals dvs ds) (hx:Passes CX X E)
  (I:Inv X pins σ H s) (r:Vals vs us) (h:sp (vs ++ dvs) H Q E):wpAny (model X.prog X.w) X.A (call (.ref f) us) (EP X pins σ Q) X.xe s:=by
 have r2:Vals (vs ++ dvs) (us ++ ds):=r.append hd
 have hl:(us ++ ds).length = ps.length:=by rw [<- r2.length]; exact F.len _ _ _ _ h
 refine wpAny_call (codeAny_mono (F.run X.A X.stack s H ⟨us,[]⟩ (us ++ ds) (vs ++ dvs) Q E hr I.env0 (hb s us I.kIn hl) r2 h) fun r s' hq=>?_)
 cases r with
 | error e=>exact hx pins σ H s e s' I hq
 | ok fl=>
  cases fl with
  | ret u=>exact I.after hq
  | next=>exact False.elim hq
  | brk=>exact False.elim hq
  | cont=>exact False.elim hq
theorem pe_call (F:FnOk X.prog X.w X.K X.mg X.base CX k f fd ps sp) (hr:Room k X.A) (hg:Gl X x) (hm:X.mg x = some (.ref f)) (hk:keepIn X.K (.ref f) = true) (hb:Binds X.K fd ps ds) (hd:Vals dvs ds) (hx:Passes CX X E)
  (ha:PA X (e :: es) t) (hdb:(x == ("__debug__" : Str)) = false:=by decide) (he:starEach (e :: es) X.env = (false,eval e X.env) :: starEach es X.env:=by rfl) (hpl:(backTo pos (starEach es X.env)).any (·.1) = false:=by rfl) :
  PE X (.Call (.Name x p) (e :: es) [] pos) (tCall sp dvs E t):=by
 refine ⟨?_⟩
 intro pins s σ H Q I h
 refine wpAny_Call_Name_kw (ld_glob I hg hm ?_ hdb)
 refine callWith_K (h₀:=X.base) I.ok.mod.kin hk (thn (ha pos pins s σ H _ I h) fun us s1 ⟨vs,H1,I1,r,q⟩=>⟨I1.kIn,?_⟩) he hpl
 exact run_fn F hr hb hd hx I1 r q
theorem pe_meth {pl:Sem Bool} (he:PE X o ta) (c:Cls X.K C) (hm:Meth X.K C m f) (F:FnOk X.prog X.w X.K X.mg X.base CX k f fd ps sp) (hr:Room k X.A) (hb:Binds X.K fd ps ds) (hd:Vals dvs ds) (hx:Passes CX X E) (ha:PA X (e :: es) t)
  (hst:starEach (e :: es) X.env = (false,eval e X.env) :: starEach es X.env:=by rfl) (hpl:(backTo pos (starEach es X.env)).any (·.1) = false:=by rfl)
  (ht:eval (.Call (.Attribute o m apos) (e :: es) [] pos) X.env = (do
   let ov <- eval o X.env
   standAt apos.atName
   let (f,first) <- holding [ov] (getMethod ov m pl)
   callWith pos f first (backTo pos (starEach (e :: es) X.env)) (backToKw pos (keywordEach [] X.env))):=by rfl) :
  PE X (.Call (.Attribute o m apos) (e :: es) [] pos) (tMeth C m sp dvs E ta t):=by
 refine ⟨?_⟩
 intro pins s σ H Q I h
 refine methodCall_KW (pl:=pl) (thn (he pins s σ H _ I h) fun u s1 ⟨x,H1,I1,rx,a,dx,fs,ex,ea,l,q⟩=>?_) ht
 subst ex
 obtain rfl:u = Value.ref a:=rx
 refine getmeth_ok I1 ea c hm l ?_
 refine callWith_K (first:=[.ref a]) (h₀:=X.base) I.ok.mod.kin hm.kp (thn (ha pos pins s1 σ H1 _ I1 q) fun us s2 ⟨vs,H2,I2,r,q2⟩=>⟨I2.kIn,?_⟩) hst hpl
 exact run_fn (us:=.ref a :: us) (vs:=.ref a :: vs) F hr hb hd hx I2 (.cons rfl r) q2
theorem pe_meth0 {pl:Sem Bool} (he:PE X o ta) (c:Cls X.K C) (hm:Meth X.K C m f) (F:FnOk X.prog X.w X.K X.mg X.base CX k f fd ps sp) (hr:Room k X.A) (hb:Binds X.K fd ps ds) (hd:Vals dvs ds) (hx:Passes CX X E)
  (ht:eval (.Call (.Attribute o m apos) [] [] pos) X.env = (do
   let ov <- eval o X.env
   standAt apos.atName
   let (f,first) <- holding [ov] (getMethod ov m pl)
   callWith pos f first (backTo pos (starEach [] X.env)) (backToKw pos (keywordEach [] X.env))):=by rfl) :
  PE X (.Call (.Attribute o m apos) [] [] pos) (tMeth C m sp dvs E ta tNil):=by
 refine ⟨?_⟩
 intro pins s σ H Q I h
 refine methodCall_KW (pl:=pl) (thn (he pins s σ H _ I h) fun u s1 ⟨x,H1,I1,rx,a,dx,fs,ex,ea,l,q⟩=>?_) ht
 subst ex
 obtain rfl:u = Value.ref a:=rx
 refine getmeth_ok I1 ea c hm l ?_
 exact PySem.W.callWith_K0 (first:=[.ref a]) I1.kIn hm.kp (run_fn (us:=[.ref a]) (vs:=[.ref a]) F hr hb hd hx I1 (.cons rfl .nil) q)
structure Mk (K:Frag) (C f:Addr):Prop where
 makes:makesIn K C = true
 init:findIn K (.ref C) "__init__" = some (some (.ref f))
 fn:isFn K (.ref f) = true
 kp:keepIn K (.ref C) = true
theorem run_make {pins:List (Addr × Obj)} {σ : St} {H:Hp} {s:Shared} {Q:VK} {us:List Value} {vs:List V} (M:Mk X.K C f) (F:FnOk X.prog X.w X.K X.mg X.base CX k f fd ps sp) (hr:Room (k + 1) X.A) (hb:Binds X.K fd ps ds) (hd:Vals dvs ds)
  (hx:Passes CX X E) (I:Inv X pins σ H s) (r:Vals vs us)
  (h:∀ x dx,H x = none->H dx = none->dx ≠ x->sp (.ref x :: (vs ++ dvs)) (upd (upd H dx (.own x)) x (.ins C dx [])) (fun v H2=>v = .non/\Q (.ref x) H2) E) :
  wpAny (model X.prog X.w) X.A (call (.ref C) us) (EP X pins σ Q) X.xe s:=by
 have hq:=h (s.heap.objs.size + 1) s.heap.objs.size (I.hok.fresh (Nat.le_succ _)) (I.hok.fresh (Nat.le_refl _)) (Nat.ne_of_lt (Nat.lt_succ_self _))
 have I2:=Inv.made (C:=C) I
 have r2:Vals (V.ref (s.heap.objs.size + 1) :: (vs ++ dvs)) (Value.ref (s.heap.objs.size + 1) :: (us ++ ds)):=.cons rfl (r.append hd)
 have hl:(Value.ref (s.heap.objs.size + 1) :: us ++ ds).length = ps.length:=by
  have e:=r2.length
  rw [F.len _ _ _ _ hq] at e
  exact e.symm
 refine wpAny_call (make_map (f:=f) I.kIn M.makes M.init (beq_iff_eq.mp M.fn) (codeAny_mono (F.run _ X.stack _ _ ⟨Value.ref (s.heap.objs.size + 1) :: us,[]⟩ (Value.ref (s.heap.objs.size + 1) :: (us ++ ds)) _ _ E (hr.make C us [])
  (I2.env0.make C us []) (hb _ (Value.ref (s.heap.objs.size + 1) :: us) I2.kIn hl) r2 hq) fun r s' hq'=>?_))
 cases r with
 | error e=>exact hx pins σ _ _ e s' I2 hq'
 | ok fl=>
  cases fl with
  | ret u=>
   obtain ⟨v,H',I3,rv,ev,q3⟩:=I2.after hq'
   subst ev
   exact ⟨rv,⟨V.ref (s.heap.objs.size + 1),H',I3,rfl,q3⟩⟩
  | next=>exact False.elim hq'
  | brk=>exact False.elim hq'
  | cont=>exact False.elim hq'
theorem pe_make (M:Mk X.K C f) (F:FnOk X.prog X.w X.K X.mg X.base CX k f fd ps sp) (hr:Room (k + 1) X.A) (hg:Gl X x) (hm:X.mg x = some (.ref C)) (hb:Binds X.K fd ps ds) (hd:Vals dvs ds) (hx:Passes CX X E)
  (ha:PA X (e :: es) t) (hdb:(x == ("__debug__" : Str)) = false:=by decide) (he:starEach (e :: es) X.env = (false,eval e X.env) :: starEach es X.env:=by rfl) (hpl:(backTo pos (starEach es X.env)).any (·.1) = false:=by rfl) :
  PE X (.Call (.Name x p) (e :: es) [] pos) (tMake C sp dvs E t):=by
 refine ⟨?_⟩
 intro pins s σ H Q I h
 refine wpAny_Call_Name_kw (ld_glob I hg hm ?_ hdb)
 refine callWith_K (h₀:=X.base) I.ok.mod.kin M.kp (thn (ha pos pins s σ H _ I h) fun us s1 ⟨vs,H1,I1,r,q⟩=>⟨I1.kIn,?_⟩) he hpl
 exact run_make M F hr hb hd hx I1 r q
end
section
variable {X:Cx} {CX:CXT} {k:Nat} {f C:Addr} {fd:FuncData} {ps ks:List Str} {sp:Sp} {E:XK} {x m:Str} {p pos apos kpos:Pos} {e o:Expr} {es:List Expr} {kws:List Keyword} {te ta:TE} {t tk:TA} {nm:Option Str}
structure KBinds (K:Frag) (fd:FuncData) (ps ks:List Str) (g:List Value->List Value->List Value) (gV:List V->List V->List V):Prop where
 to:∀ (s:Shared) (us ws:List Value),K.In s.heap->(g us ws).length = ps.length->BindsTo s fd ⟨us,ks.zip ws⟩ (ps.zip (g us ws))
 rel:∀ {vs:List V} {us:List Value} {zs:List V} {ws:List Value},Vals vs us->Vals zs ws->Vals (gV vs zs) (g us ws)
variable {g:List Value->List Value->List Value} {gV:List V->List V->List V}
end
structure FnScope (N P:List Str) (sc:Scope):Prop where
 kind:sc.kind = .function
 co:sc.isCoroutine = false
 gen:sc.isGenerator = false
 nd:N.Nodup
 pre:N.take P.length = P
 par:∀ x ∈ P,sc.names.lookup x = some .local\/sc.names.lookup x = some .cell
 nofree:∀ y ∈ sc.names,y.2 ≠ .free
theorem bindL_out {kindOf:Str->Option NameKind} {x:Str}:∀ {binds:List (Str × Value)} {m:Str->Option Value},(∀ v,(x,v) ∉ binds)->bindL kindOf binds m x = m x
 | [],_,_=>rfl
 | (n,v) :: r,m,h=>by
  unfold bindL
  rw [bindL_out fun w hw=>h w (List.mem_cons_of_mem _ hw)]
  split
  ·have:x ≠ n:=by rintro rfl; exact h v List.mem_cons_self
   simp [this]
  ·rfl
theorem bindC_out {kindOf:Str->Option NameKind} {x:Str}:∀ {binds:List (Str × Value)} {m:Str->Option Value},(∀ v,(x,v) ∉ binds)->bindC kindOf binds m x = m x
 | [],_,_=>rfl
 | (n,v) :: r,m,h=>by
  unfold bindC
  rw [bindC_out fun w hw=>h w (List.mem_cons_of_mem _ hw)]
  split
  ·rfl
  ·have:x ≠ n:=by rintro rfl; exact h v List.mem_cons_self
   simp [this]
theorem bindL_get {kindOf:Str->Option NameKind} {x:Str} {v:Value}:∀ {P:List Str} {vs:List Value} {i:Nat} {m:Str->Option Value},P.Nodup->P[i]? = some x->vs[i]? = some v->kindOf x = some .local->
  bindL kindOf (P.zip vs) m x = some v
 | [],_,_,_,_,h,_,_=>by simp at h
 | _ :: _,[],_,_,_,_,h,_=>by simp at h
 | p :: P,w :: vs,0,m,nd,h1,h2,hk=>by
  simp at h1 h2; subst h1; subst h2
  show bindL kindOf ((p,w) :: P.zip vs) m p = _
  unfold bindL
  rw [bindL_out fun v hv=>(List.nodup_cons.mp nd).1 (List.of_mem_zip hv).1,if_pos hk]
  simp
 | p :: P,w :: vs,i + 1,m,nd,h1,h2,hk=>by
  show bindL kindOf ((p,w) :: P.zip vs) m x = _
  unfold bindL
  exact bindL_get (i:=i) (List.nodup_cons.mp nd).2 (by simpa using h1) (by simpa using h2) hk
theorem bindC_get {kindOf:Str->Option NameKind} {x:Str} {v:Value}:∀ {P:List Str} {vs:List Value} {i:Nat} {m:Str->Option Value},P.Nodup->P[i]? = some x->vs[i]? = some v->kindOf x ≠ some .local->
  bindC kindOf (P.zip vs) m x = some v
 | [],_,_,_,_,h,_,_=>by simp at h
 | _ :: _,[],_,_,_,_,h,_=>by simp at h
 | p :: P,w :: vs,0,m,nd,h1,h2,hk=>by
  simp at h1 h2; subst h1; subst h2
  show bindC kindOf ((p,w) :: P.zip vs) m p = _
  unfold bindC
  rw [bindC_out fun v hv=>(List.nodup_cons.mp nd).1 (List.of_mem_zip hv).1,if_neg hk]
  simp
 | p :: P,w :: vs,i + 1,m,nd,h1,h2,hk=>by
  show bindC kindOf ((p,w) :: P.zip vs) m x = _
  unfold bindC
  exact bindC_get (i:=i) (List.nodup_cons.mp nd).2 (by simpa using h1) (by simpa using h2) hk
def start (N:List Str) (vs:List V):St:=vs.map some ++ List.replicate (N.length - vs.length) none
def cxOf (CX:CXT) (P:Program) (w:World) (K:Frag) (mg:Str->Option Value) (base:Heap) (N:List Str) (qual:Str) (scope:Scope) (f:Addr) (cd:Value) (A:Around) (outer:List Env) (s:Shared) (H:Hp) (E:XK):Cx where
 prog:=P
 w:=w
 K:=K
 mg:=mg
 base:=base
 A:=A.deeper (envOfC qual scope s.heap.objs.size f cd)
 N:=N
 s₀:=s
 H₀:=H
 env:=envOfC qual scope s.heap.objs.size f cd
 outer:=outer
 stack:=envOfC qual scope s.heap.objs.size f cd :: outer
 ex:=[]
 calm:=true
 fn:=fun _=>true
 pn:=[]
 xe:=fun e s'=>wpAny (model P w) (A.deeper (envOfC qual scope s.heap.objs.size f cd)) (leaving (envOfC qual scope s.heap.objs.size f cd) e) (fun _ s''=>CX outer H s E e s'') (fun e' s''=>CX outer H s E e' s'') s'
theorem cell_has {sc:Scope} {n:Nat} {x:Str} (h:sc.names.lookup x = some .cell):∃ c,(cellsFrom n sc.names []).lookup x = some c:=by
 have q:=PySem.W.cellsFrom_some sc.names n [] (.inl h)
 exact Option.isSome_iff_exists.mp q
theorem inv_start {CX:CXT} {P:Program} {w:World} {K:Frag} {mg:Str->Option Value} {base:Heap} {N ps:List Str} {qual:Str} {scope:Scope} {f:Addr} {cd:Value} {A:Around} {outer:List Env} {s s1:Shared} {H:Hp} {E:XK} {us:List Value} {vs:List V}
  (S:FnScope N ps scope) (hd:A.handled = none) (e0:Env0 P w K mg base A outer s H) (hl:vs.length = ps.length) (r:Vals vs us)
  (x:InCallC s s.heap.objs.size (bindL (envOfC qual scope s.heap.objs.size f cd).kindOf (ps.zip us) fun _=>none) (cellsFrom (s.heap.objs.size + 1) scope.names []) (bindC (envOfC qual scope s.heap.objs.size f cd).kindOf (ps.zip us) fun _=>none) s1) :
  Inv (cxOf CX P w K mg base N qual scope f cd A outer s H E) [] (start N vs) H s1:=by
 have hpl:ps.length<=N.length:=by have:=congrArg List.length S.pre; rw [List.length_take] at this; omega
 obtain ⟨h1,tk,rfl,hk⟩:=x.done
 have noA:∀ b:Addr,b ∉ (cxOf CX P w K mg base N qual scope f cd A outer s H E).ex:=fun b z=>absurd (show b ∈ ([]:List Addr) from z) (by simp)
 refine ⟨⟨e0.mod,S.kind,rfl,rfl,Nat.le_refl _,fun y z c h1 h2=>?_,fun y hy=>?_,fun y c _ h=>?_,fun _=>hd,Around.frames_deeper e0.frames,.inr ⟨rfl,rfl⟩,fun b z=>absurd z (noA b),e0.bs,e0.bsz,fun b _ _=>noA b,fun b z=>absurd z (noA b),e0.funs,e0.frf⟩,
  rfl,e0.bare,Un.kept hk,⟨_,x.toInCall.ns,fun i y v h1 h2 h3=>?_⟩,fun y c h=>⟨_,x.cell y c h⟩,e0.hok.fresh (Nat.le_refl _),fun y c h=>?_,fun p hp=>absurd (show p ∈ ([]:List (Addr × Obj)) from hp) (by simp),e0.hok.kept hk,?_⟩
 ·exact name_of_addr x.apart (PySem.mem_of_lookup h1) (PySem.mem_of_lookup h2)
 ·have hy:scope.names.lookup y = some .cell\/scope.names.lookup y = some .free:=hy
  rcases hy with hy | hy
  ·exact cell_has hy
  ·exact absurd rfl (S.nofree _ (PySem.mem_of_lookup hy))
 ·exact Nat.le_of_lt (x.above y c (PySem.mem_of_lookup h))
 ·have hi:i < vs.length:=by
   unfold start at h2
   by_cases hi:i < vs.length
   ·exact hi
   ·rw [List.getElem?_append_right (by simpa using hi)] at h2
    rw [List.getElem?_replicate] at h2
    split at h2 <;> cases h2
  have ha:vs[i]? = some v:=by
   unfold start at h2
   rw [List.getElem?_append_left (by simpa using hi),List.getElem?_map] at h2
   cases e:vs[i]? with
   | none=>rw [e] at h2; cases h2
   | some a=>rw [e] at h2; cases h2; rfl
  obtain ⟨u,hu,rv⟩:=r.get ha
  have hp:ps[i]? = some y:=by
   rw [<- S.pre,List.getElem?_take_of_lt (by omega)]; exact h1
  have ndP:ps.Nodup:=by rw [<- S.pre]; exact S.nd.sublist (List.take_sublist _ _)
  refine ⟨u,rv,?_⟩
  rcases S.par y (List.mem_of_getElem? hp) with k | k
  ·exact .inl ⟨k,bindL_get ndP hp hu k⟩
  ·obtain ⟨c,e⟩:=cell_has (n:=s.heap.objs.size + 1) k
   refine .inr ⟨.inl k,c,e,?_⟩
   have q:=x.cell y c e
   rw [bindC_get ndP hp hu (by show scope.names.lookup y ≠ _; rw [k]; decide)] at q
   exact q
 ·exact e0.hok.fresh (Nat.le_of_lt (x.above y c (PySem.mem_of_lookup h)))
 ·unfold start
  show _ = N.length
  rw [List.length_append,List.length_map,List.length_replicate]
  omega
theorem fn_of {CX:CXT} {P:Program} {w:World} {K:Frag} {mg:Str->Option Value} {base:Heap} {k:Nat} {f:Addr} {name qual:Str} {params:Arguments} {body:List Stmt} {scope:Scope} {dV kV doc pm cdv ct oc:Value} {an od:Option Addr}
  {osl:Array (Option Value)} {N ps:List Str} {sp:Sp} (lk:K.lookup f = some ⟨oc,od,.func (fnOf name qual params body scope dV kV doc pm an cdv ct),osl⟩) (hcd:codeIn K cdv qual = true) (S:FnScope N ps scope)
  (len:∀ vs H Q E,sp vs H Q E->vs.length = ps.length)
  (hbody:∀ (A:Around) (outer:List Env) (s:Shared) (H:Hp) (vs:List V) (Q:VK) (E:XK),Room k (A.deeper (envOfC qual scope s.heap.objs.size f cdv))->sp vs H Q E->
   ∃ t,PSs (cxOf CX P w K mg base N qual scope f cdv A outer s H E) body t/\t { nx:=fun _ H'=>Q .non H',rt:=Q } (start N vs) H) :
  FnOk P w K mg base CX (k + 1) f (fnOf name qual params body scope dV kV doc pm an cdv ct) ps sp:=by
 refine ⟨len,fun A outer s H args us vs Q E hr e0 hb r hsp=>?_⟩
 have hl:=len _ _ _ _ hsp
 have KX:K.In s.heap:=e0.mod.kin.keeps fun b o e=>(e0.bs b o e).1
 have lim:s.heap.NoLimit:=e0.mod.nolimit.keeps fun b o e=>(e0.bs b o e).1
 have hkind:∀ y ∈ ps.zip us,scope.names.lookup y.1 = some .local\/(scope.names.lookup y.1 = some .cell/\((cellsFrom (s.heap.objs.size + 1) scope.names []).lookup y.1).isSome = true):=fun ⟨n,v⟩ hy=>by
  rcases S.par n (List.of_mem_zip hy).1 with q | q
  ·exact .inl q
  ·exact .inr ⟨q,PySem.W.cellsFrom_some _ _ _ (.inl q)⟩
 refine codeAny_call_function hr.depth (KX _ _ lk) rfl S.co S.gen rfl (PySem.W.codeRec_of KX hcd) (hb _ _ _ _ ?_)
 refine wpAny_newFunctionEnv_cells S.kind hkind fun env he s1 x=>?_
 subst he
 refine ⟨lim.keeps x.toInCall.keep,codeAny_func ?_⟩
 obtain ⟨t,ht,hq⟩:=hbody A outer s H vs Q E (hr.deeper _) hsp
 have I:Inv (cxOf CX P w K mg base N qual scope f cdv A outer s H E) [] (start N vs) H s1:=inv_start S hr.hd e0 hl r x
 refine wpAny_mono (ht [] s1 (start N vs) H _ I hq) (fun fl s' hs=>?_) fun e s' hs=>hs
 have fin:∀ {σ':St} {H':Hp} {v:V} {u:Value},Inv (cxOf CX P w K mg base N qual scope f cdv A outer s H E) [] σ' H' s'->RelV v u->Q v H'->CE outer P w H s Q u s':=
  fun {σ' H' v u} J rv q=>⟨v,H',J.os,J.bare,J.base,J.hok,rv,q⟩
 cases fl with
 | ret u=>
  obtain ⟨v,σ',H',J,rv,q⟩:=hs
  exact fin J rv q
 | next=>
  obtain ⟨σ',H',J,q⟩:=hs
  exact fin (v:=V.non) (u:=Value.none) J rfl q
 | brk=>
  obtain ⟨_,_,_,q⟩:=hs
  exact False.elim q
 | cont=>
  obtain ⟨_,_,_,q⟩:=hs
  exact False.elim q
section
variable {X:Cx} {x:Str} {p pos:Pos} {e:Expr} {es:List Expr} {t:TA} {id T:String} {r:List V->Hp->VK->Prop}
def tCB (r:List V->Hp->VK->Prop) (t:TA):TE:=fun σ H Q=>t σ H fun vs H1=>r vs H1 Q
theorem pe_callB (hc:CallR X (.builtin id) r) (hg:Gl X x) (hm:X.mg x = none) (hv:bootBuiltins x = some (.builtin id)) (ha:PA X (e :: es) t) (hn:x ≠ "__name__":=by decide) (hdb:(x == ("__debug__" : Str)) = false:=by decide)
  (he:starEach (e :: es) X.env = (false,eval e X.env) :: starEach es X.env:=by rfl) (hpl:(backTo pos (starEach es X.env)).any (·.1) = false:=by rfl):PE X (.Call (.Name x p) (e :: es) [] pos) (tCB r t):=by
 refine ⟨?_⟩
 intro pins s σ H Q I h
 refine wpAny_Call_Name_kw (ld_blt I hg hm hv ?_ hn hdb)
 exact PyProof.Rows.callWith_builtin1 (thn (ha pos pins s σ H _ I h) fun us s1 ⟨vs,H1,I1,r1,q1⟩=>hc pins s1 σ H1 vs us Q I1 r1 q1) he hpl
theorem pe_callTy (hc:CallR X (.type T) r) (hg:Gl X x) (hm:X.mg x = none) (hv:bootBuiltins x = some (.type T)) (ha:PA X (e :: es) t) (hn:x ≠ "__name__":=by decide) (hdb:(x == ("__debug__" : Str)) = false:=by decide)
  (he:starEach (e :: es) X.env = (false,eval e X.env) :: starEach es X.env:=by rfl) (hpl:(backTo pos (starEach es X.env)).any (·.1) = false:=by rfl):PE X (.Call (.Name x p) (e :: es) [] pos) (tCB r t):=by
 refine ⟨?_⟩
 intro pins s σ H Q I h
 refine wpAny_Call_Name_kw (ld_blt I hg hm hv ?_ hn hdb)
 exact PyProof.Rows.callWith_type1 (thn (ha pos pins s σ H _ I h) fun us s1 ⟨vs,H1,I1,r1,q1⟩=>hc pins s1 σ H1 vs us Q I1 r1 q1) he hpl
theorem pe_callTy0 (hc:CallR X (.type T) r) (hg:Gl X x) (hm:X.mg x = none) (hv:bootBuiltins x = some (.type T)) (hn:x ≠ "__name__":=by decide) (hdb:(x == ("__debug__" : Str)) = false:=by decide) :
  PE X (.Call (.Name x p) [] [] pos) (tCB r tNil):=by
 refine ⟨?_⟩
 intro pins s σ H Q I h
 refine wpAny_Call_Name_kw (ld_blt I hg hm hv ?_ hn hdb)
 exact PyProof.Rows.callWith_type0 (hc pins s σ H [] [] Q I .nil h)
end
end L2
namespace HT
open PySem PyProof.Rows
section
open PySem.SeqAt
open PySem.AutoSeq1 (wpAny_loadPart')
open PySem.MeetsSeq PySem.MeetsSeq2 PySem.MeetsSeq3
end
section
variable {prog:Program} {w:World} {A:Around} {E:Value->Shared->Prop} {s:Shared}
theorem cat_tup {t b:Addr} {vs ws:List Value} {Q:Value->Shared->Prop} (ht:IsTup s.heap t vs.toArray) (hb:IsTup s.heap b ws.toArray) (hv:vs ≠ [])
  (h1:ws = []->Q (.ref t) s) (h2:ws ≠ []->Q (.ref s.heap.objs.size) { s with heap:=s.heap.push { cls:=.type "tuple",data:=.seq (vs ++ ws).toArray } })
  (hsz:vs.length + ws.length<=sizeLine):wpAny (model prog w) A (binaryOp .Add (.ref t) (.ref b)) Q E s:=by
 obtain ⟨⟨cls,dd,data,sl⟩,ho,hc,n,hd⟩:=id ht
 obtain ⟨⟨cls2,dd2,data2,sl2⟩,ho2,hc2,n2,hd2⟩:=id hb
 simp only at hc hd hc2 hd2
 subst hc hd hc2 hd2
 have e:vs.toArray ++ ws.toArray = (vs ++ ws).toArray:=by simp
 by_cases hw:ws = []
 ·exact concat_meets ⟨_,ho,rfl⟩ ⟨_,ho2,rfl⟩ noFill_tuple_add seq_tuple_add PySem.F.slot_tuple_add PySem.F.entry_tuple_add (PySem.F.args_tuple_add_2 _ _)
   (tuple_addW1 t b vs.toArray ws.toArray n n2 dd dd2 sl sl2 (by simpa using hv) (by simp [hw])) ⟨ho,ho2,h1 hw⟩
 ·refine concat_meets ⟨_,ho,rfl⟩ ⟨_,ho2,rfl⟩ noFill_tuple_add seq_tuple_add PySem.F.slot_tuple_add PySem.F.entry_tuple_add (PySem.F.args_tuple_add_2 _ _)
   (tuple_addW2 t b vs.toArray ws.toArray n n2 dd dd2 sl sl2 (by simpa using hv) (by simpa using hw) (by rw [List.size_toArray,List.size_toArray]; exact hsz)) ⟨ho,ho2,?_⟩
  rw [e]
  exact h2 hw
def sIx (n d:Nat):Option Int->Nat
 | none=>d
 | some v=>if v < 0 then (v + (n:Int)).toNat else min v.toNat n
theorem sIx_none (n d:Nat):sIx n d none = d:=rfl
theorem sIx_nat (n d k:Nat):sIx n d (some (k:Int)) = min k n:=by
 show (if (k:Int) < 0 then ((k:Int) + (n:Int)).toNat else min (k:Int).toNat n) = min k n
 rw [if_neg (by omega),Int.toNat_natCast]
theorem sIx_le (n d:Nat) (hd:d<=n) (o:Option Int):sIx n d o<=n:=by
 cases o with
 | none=>exact hd
 | some v=>
  show (if v < 0 then (v + (n:Int)).toNat else min v.toNat n)<=n
  by_cases hv:v < 0
  ·rw [if_pos hv]; omega
  ·rw [if_neg hv]; exact Nat.min_le_right _ _
theorem clip_eq (v:Int) (n d:Nat):(if v < 0 then max (v + (n:Int)) 0 else min v (n:Int)) = ((sIx n d (some v):Nat):Int):=by
 show (if v < 0 then max (v + (n:Int)) 0 else min v (n:Int)) = (((if v < 0 then (v + (n:Int)).toNat else min v.toNat n):Nat):Int)
 by_cases hv:v < 0
 ·simp only [if_pos hv]; omega
 ·simp only [if_neg hv]; omega
theorem adjust_gen (lo hi:Option Int) (n:Nat):Builtin.Slice.sliceAdjust lo hi 1 (n:Int) = (((sIx n 0 lo:Nat):Int),((sIx n n hi:Nat):Int)):=by
 have h1:¬ ((1:Int) < 0):=by omega
 unfold Builtin.Slice.sliceAdjust
 simp only [h1,if_false]
 refine Prod.ext ?_ ?_
 ·cases lo with
  | none=>rfl
  | some v=>exact clip_eq v n 0
 ·cases hi with
  | none=>rfl
  | some v=>exact clip_eq v n n
theorem places_gen (i j:Nat):Builtin.Slice.slicePlaces (i:Int) (j:Int) 1 = j - i:=by
 unfold Builtin.Slice.slicePlaces
 have h1:(1:Int) > 0:=by omega
 simp only [h1,if_true,Int.ediv_one]
 split <;> omega
theorem slicePart_ {v:Value} {o:Option Int} {Q:Option Int->Shared->Prop} (p:IsPart v o) (h:Q o s):wpAny (model prog w) A (Builtin.Slice.slicePartIndex v) Q E s:=by
 cases p with
 | none=>exact slicePart_none h
 | int i t=>exact slicePart_int h
theorem sliceApplied_gen {sl:Addr} {vl vu:Value} {lo hi:Option Int} {n:Nat} {Q:Int × Int × Nat->Shared->Prop} (hs:s.heap.IsSliceOf sl vl vu .none) (pl:IsPart vl lo) (pu:IsPart vu hi)
  (h:Q (((sIx n 0 lo:Nat):Int),1,sIx n n hi - sIx n 0 lo) s):wpAny (model prog w) A (Builtin.Slice.sliceApplied (.ref sl) (pure (n:Int))) Q E s:=by
 obtain ⟨os,hos,hcs,hds⟩:=id hs
 unfold Builtin.Slice.sliceApplied Builtin.Slice.sliceFields
 refine wpAny_bind (wpAny_bind (wpAny_field hos hds (x:=vl) rfl (wpAny_bind (wpAny_field hos hds (x:=vu) rfl (wpAny_bind (wpAny_field hos hds (x:=.none) rfl (wpAny_pure ?_)))))))
 refine wpAny_bind (slicePart_none ?_)
 show wpAny _ _ (if ((1:Int) == 0) = true then _ else _) _ _ s
 rw [if_neg (by decide)]
 refine wpAny_bind (slicePart_ pl (wpAny_bind (slicePart_ pu (wpAny_bind (wpAny_pure ?_)))))
 show wpAny _ _ (match Builtin.Slice.sliceAdjust lo hi 1 (n:Int) with | (lo,hi)=>pure (lo,(1:Int),Builtin.Slice.slicePlaces lo hi 1)) _ _ s
 rw [adjust_gen lo hi n]
 show wpAny _ _ (pure (((sIx n 0 lo:Nat):Int),(1:Int),Builtin.Slice.slicePlaces ((sIx n 0 lo:Nat):Int) ((sIx n n hi:Nat):Int) 1)) _ _ s
 rw [places_gen]
 exact wpAny_pure h
theorem pick_gen (xs:Array Value) (i k:Nat):((List.range k).filterMap fun (m:Nat)=>xs[((i:Int) + (m:Int) * 1).toNat]?).toArray = ((xs.toList.drop i).take k).toArray:=by
 have e:(fun (m:Nat)=>xs[((i:Int) + (m:Int) * 1).toNat]?) = fun m=>xs[i + m]?:=by
  funext m
  have:((i:Int) + (m:Int) * 1).toNat = i + m:=by omega
  rw [this]
 rw [e]
 have:=pick_run xs i k
 rw [List.filterMap_map] at this
 have e2:((fun x=>xs[x]?) ∘ fun x=>i + x) = fun m=>xs[i + m]?:=rfl
 rw [e2] at this
 rw [this]
theorem getItem_tuple_cut {t sl:Addr} {items:Array Value} {vl vu:Value} {lo hi:Option Int} {Q:Value->Shared->Prop} (ht:IsTup s.heap t items) (hs:s.heap.IsSliceOf sl vl vu .none) (pl:IsPart vl lo) (pu:IsPart vu hi)
  (hw:¬ (sIx items.size 0 lo = 0/\sIx items.size items.size hi = items.size))
  (h:Q (.ref s.heap.objs.size) { s with heap:=s.heap.push { cls:=.type "tuple",data:=.seq ((items.toList.drop (sIx items.size 0 lo)).take (sIx items.size items.size hi - sIx items.size 0 lo)).toArray } })
  (hsz:items.size<=sizeLine):wpAny (model prog w) A (getItem (.ref t) (.ref sl)) Q E s:=by
 have htake:sizeOk (.seq ((items.toList.drop (sIx items.size 0 lo)).take (sIx items.size items.size hi - sIx items.size 0 lo)).toArray):=by
  show ((items.toList.drop (sIx items.size 0 lo)).take (sIx items.size items.size hi - sIx items.size 0 lo)).toArray.size<=sizeLine
  rw [List.size_toArray,List.length_take,List.length_drop,Array.length_toList]
  omega
 have hj:sIx items.size items.size hi<=items.size:=sIx_le _ _ (Nat.le_refl _) hi
 obtain ⟨os,hos,hcs,hds⟩:=id hs
 have hTs:s.TypeIs (.ref sl) "slice":=⟨os,hos,hcs⟩
 unfold getItem
 try with_reducible refine wpAny_holding ?_
 first | refine wpAny_bind (wpAny_pure ?_) | skip
 refine wpAny_bind (wpAny_sequenceKey ht.typeIs (by decide) ?_)
 refine wpAny_bind (wpAny_callSpecial?_slot (name:=Str.ofString "__getitem__") ht.typeIs PyProof.Rows.slot_tuple_getitem
  (wpAny_call_entry PyProof.Rows.slot_tuple_getitem ht.typeIs entry_tuple_getitem ?_ (args_tuple_getitem _ _)))
 show wpAny _ _ (Builtin.Tuple.tupleItemsOf (.ref t) >>= _) _ _ s
 refine wpAny_bind (tupleItemsOf_ ht ?_)
 refine wpAny_bind (wpAny_typeOf hTs ?_)
 rw [if_pos (by decide)]
 refine wpAny_bind (sliceApplied_gen hs pl pu ?_)
 have hno:¬ ((((sIx items.size 0 lo:Nat):Int) == 0 && (1:Int) == 1 && (sIx items.size items.size hi - sIx items.size 0 lo) == items.size) = true):=by
  intro q
  rw [Bool.and_eq_true,Bool.and_eq_true] at q
  have q1:((sIx items.size 0 lo:Nat):Int) = 0:=eq_of_beq q.1.1
  have q2:sIx items.size items.size hi - sIx items.size 0 lo = items.size:=eq_of_beq q.2
  exact hw ⟨by omega,by omega⟩
 show wpAny _ _ (if (((sIx items.size 0 lo:Nat):Int) == 0 && (1:Int) == 1 && (sIx items.size items.size hi - sIx items.size 0 lo) == items.size) = true then _ else _) _ _ s
 rw [if_neg hno,pick_gen]
 first
  | exact wpAny_bind (m:=Builtin.Tuple.tupleExact _) (wpAny_newObj_type (wpAny_pure ⟨_,rfl,wpAny_pure h⟩) htake)
  | exact wpAny_bind (m:=Builtin.Tuple.tupleExact _) (wpAny_newObj_type (wpAny_bind (wpAny_pure (wpAny_pure ⟨_,rfl,wpAny_pure h⟩))) htake)
  | exact wpAny_bind (wpAny_bind (m:=Builtin.Tuple.tupleExact _) (wpAny_newObj_type (wpAny_pure (wpAny_pure ⟨_,rfl,wpAny_pure h⟩)) htake))
  | exact wpAny_bind (wpAny_bind (m:=Builtin.Tuple.tupleExact _) (wpAny_newObj_type (wpAny_pure ⟨_,rfl,wpAny_pure h⟩) htake))
end
end HT
namespace L2
open PySem PySem.Spec PyProof.Rows
abbrev TO:=St->Hp->(Option Int->Hp->Prop)->Prop
structure PO (X:Cx) (e:Option Expr) (t:TO):Prop where
 run:∀ (pins:List (Addr × Obj)) (s:Shared) (σ : St) (H:Hp) (Q:Option Int->Hp->Prop),Inv X pins σ H s->t σ H Q->
  wpAny (model X.prog X.w) X.A (evalPart e X.env) (fun u s'=>∃ o H',Inv X pins σ H' s'/\IsPart u o/\Q o H') X.xe s
instance {X:Cx} {e:Option Expr} {t:TO}:CoeFun (PO X e t) (fun _=>∀ (pins:List (Addr × Obj)) (s:Shared) (σ : St) (H:Hp) (Q:Option Int->Hp->Prop),Inv X pins σ H s->t σ H Q->
  wpAny (model X.prog X.w) X.A (evalPart e X.env) (fun u s'=>∃ o H',Inv X pins σ H' s'/\IsPart u o/\Q o H') X.xe s):=⟨PO.run⟩
def tNoPart:TO:=fun _ H Q=>Q none H
def tPart (t:TE):TO:=fun σ H Q=>t σ H fun x H1=>∃ i,x = .int i/\Q (some i) H1
section
variable {X:Cx} {e:Expr} {te:TE} {lo hi:Option Expr} {tl th:TO} {pos p2:Pos}
theorem po_none:PO X none tNoPart:=by
 refine ⟨?_⟩
 intro pins s σ H Q I h
 rw [evalPart_none]
 exact wpAny_pure ⟨none,H,I,.none,h⟩
theorem po_some (h:PE X e te):PO X (some e) (tPart te):=by
 refine ⟨?_⟩
 intro pins s σ H Q I hw
 rw [evalPart_some]
 refine thn (h pins s σ H _ I hw) fun u s1 ⟨x,H1,I1,r1,q1⟩=>?_
 obtain ⟨i,rfl,q⟩:=q1
 obtain ⟨t,rfl⟩:=r1
 exact ⟨some i,H1,I1,.int i t,q⟩
def SlR (X:Cx) (r:V->Option Int->Option Int->Hp->VK->Prop):Prop:=
 ∀ (pins:List (Addr × Obj)) (s:Shared) (σ : St) (H:Hp) (x:V) (v vl vu:Value) (lo hi:Option Int) (sl:Addr) (Q:VK),Inv X pins σ H s->RelV x v->s.heap.IsSliceOf sl vl vu .none->IsPart vl lo->IsPart vu hi->r x lo hi H Q->
  ∃ T id,typeLookup (.type T) "__getitem__" = pure (some (.builtin id))/\s.TypeIs v T/\wpAny (model X.prog X.w) X.A (getItem v (.ref sl)) (EP X pins σ Q) X.xe s
def tSl (r:V->Option Int->Option Int->Hp->VK->Prop) (te:TE) (tl th:TO):TE:=fun σ H Q=>te σ H fun x H1=>tl σ H1 fun l H2=>th σ H2 fun u H3=>r x l u H3 Q
theorem pe_slice {r:V->Option Int->Option Int->Hp->VK->Prop} (hr:SlR X r) (he:PE X e te) (hl:PO X lo tl) (hu:PO X hi th):PE X (.Subscript e (.Slice lo hi none p2) pos) (tSl r te tl th):=by
 refine ⟨?_⟩
 intro pins s σ H Q I h
 refine Subscript_ (thn (he pins s σ H _ I h) fun v s1 ⟨x,H1,I1,r1,q1⟩=>?_)
 refine wpAny_Slice (thn (hl pins s1 σ H1 _ I1 q1) fun vl s2 ⟨l,H2,I2,pl,q2⟩=>thn (hu pins s2 σ H2 _ I2 q2) fun vu s3 ⟨u,H3,I3,pu,q3⟩=>?_)
 rw [evalPart_none]
 refine wpAny_pure ?_
 have I4:Inv X pins σ H3 { s3 with heap:=s3.heap.push { cls:=.type "slice",data:=.fields #[vl,vu,.none] } }:=I3.kept (t':=s3.toks) fun b ob q=>Heap.get?_push_of_some _ q
 obtain ⟨T,id,hT,ht,hg⟩:=hr pins { s3 with heap:=s3.heap.push { cls:=.type "slice",data:=.fields #[vl,vu,.none] } } σ H3 x v vl vu l u s3.heap.objs.size Q I4 r1 (Heap.IsSliceOf.new ..) pl pu q3
 show wpAny (model X.prog X.w) X.A (subscriptTail e (.Slice lo hi none p2) v (.ref s3.heap.objs.size)) (EP X pins σ Q) X.xe { s3 with heap:=s3.heap.push { cls:=.type "slice",data:=.fields #[vl,vu,.none] } }
 exact tail_any (ops:=[.ref s3.heap.objs.size,v]) ht hT hg (by with_unfolding_all rfl)
def cutV (xs:List V) (lo hi:Option Int):List V:=(xs.drop (HT.sIx xs.length 0 lo)).take (HT.sIx xs.length xs.length hi - HT.sIx xs.length 0 lo)
theorem cutV_length (xs:List V) (lo hi:Option Int):(cutV xs lo hi).length<=xs.length:=by
 unfold cutV
 rw [List.length_take,List.length_drop]
 omega
def rSlT (K:Frag):V->Option Int->Option Int->Hp->VK->Prop:=fun x lo hi H Q=>∃ a xs,x = .ref a/\SqT K H a xs/\
 ¬ (HT.sIx xs.length 0 lo = 0/\HT.sIx xs.length xs.length hi = xs.length)/\∀ p,H p = none->Q (.ref p) (upd H p (.tup (cutV xs lo hi)))
theorem sl_tup:SlR X (rSlT X.K):=by
 intro pins s σ H x v vl vu lo hi sl Q I rx hs pl pu h
 obtain ⟨a,xs,rfl,hx,hw,q⟩:=h
 cases rx
 obtain ⟨its,r,ht,hz⟩:=I.tuple hx
 have hlen:its.toArray.size = xs.length:=by rw [List.size_toArray]; exact r.length.symm
 refine ⟨"tuple",_,PyProof.Rows.slot_tuple_getitem.lookup,ht.typeIs,?_⟩
 refine HT.getItem_tuple_cut ht hs pl pu (by rw [hlen]; exact hw) ?_ (by rw [hlen]; exact hz)
 rw [hlen]
 refine ⟨.ref s.heap.objs.size,_,I.laid (t':=s.toks) (o:=.tup (cutV xs lo hi)) (fun b ob q=>Heap.get?_push_of_some _ q) (Nat.le_refl _) ?_,rfl,q _ (I.hok.fresh (Nat.le_refl _))⟩
 exact ⟨Nat.le_trans (cutV_length xs lo hi) hz,_,(r.drop (HT.sIx xs.length 0 lo)).take (HT.sIx xs.length xs.length hi - HT.sIx xs.length 0 lo),IsTup.new _ _⟩
def rCatT (K:Frag):R2:=fun x y H Q=>∃ a b xs ys,x = .ref a/\y = .ref b/\SqT K H a xs/\SqT K H b ys/\xs ≠ []/\xs.length + ys.length<=sizeLine/\
 (ys = []->Q (.ref a) H)/\(ys ≠ []->∀ p,H p = none->Q (.ref p) (upd H p (.tup (xs ++ ys))))
theorem Vals.nil_iff {xs:List V} {us:List Value} (r:Vals xs us):us = [] ↔ xs = []:=by
 cases r with
 | nil=>simp
 | cons _ _=>simp
theorem op_catT:OpR X (binaryOp .Add) (rCatT X.K):=by
 intro pins s σ H x y v u Q I rx ry h
 obtain ⟨a,b,xs,ys,rfl,rfl,ha,hb,hx,hz,q1,q2⟩:=h
 cases rx
 cases ry
 obtain ⟨its,r1,p1,_⟩:=I.tuple ha
 obtain ⟨its2,r2,p2,_⟩:=I.tuple hb
 refine HT.cat_tup p1 p2 (fun z=>hx (r1.nil_iff.mp z)) (fun z=>⟨.ref a,H,I,rfl,q1 (r2.nil_iff.mp z)⟩) (fun z=>?_) (by rw [<- r1.length,<- r2.length]; exact hz)
 refine ⟨.ref s.heap.objs.size,_,I.laid (t':=s.toks) (o:=.tup (xs ++ ys)) (fun b ob q=>Heap.get?_push_of_some _ q) (Nat.le_refl _) ?_,rfl,q2 (fun w=>z (r2.nil_iff.mpr w)) _ (I.hok.fresh (Nat.le_refl _))⟩
 exact ⟨by rw [List.length_append]; exact hz,_,r1.append r2,IsTup.new _ _⟩
end
def ixN (n:Nat) (i:Int):Option Nat:=if 0<=i then (if i < n then some i.toNat else none) else if -(n:Int)<=i then some (i + n).toNat else none
def atI {α : Type} (xs:List α) (i:Int):Option α:=(ixN xs.length i).bind fun j=>xs[j]?
theorem ixN_seq {n:Nat} {i:Int} {j:Nat} (h:ixN n i = some j):seqIndex? i n = some j/\j < n/\-(n:Int)<=i/\i < n:=by
 unfold ixN at h
 by_cases h0 : 0<=i
 ·rw [if_pos h0] at h
  by_cases h1:i < n
  ·rw [if_pos h1] at h
   have e:i.toNat = j:=Option.some.inj h
   exact ⟨by rw [seqIndex_of h0 h1,e],by omega,by omega,h1⟩
  ·rw [if_neg h1] at h; cases h
 ·rw [if_neg h0] at h
  by_cases h1 : -(n:Int)<=i
  ·rw [if_pos h1] at h
   have e:(i + n).toNat = j:=Option.some.inj h
   exact ⟨by rw [seqIndex_neg (by omega) h1,e],by omega,h1,by omega⟩
  ·rw [if_neg h1] at h; cases h
theorem atI_get {α : Type} {xs:List α} {i:Int} {v : α} (h:atI xs i = some v):∃ j,seqIndex? i xs.length = some j/\xs[j]? = some v/\j < xs.length/\-(xs.length:Int)<=i/\i < xs.length:=by
 unfold atI at h
 cases e:ixN xs.length i with
 | none=>rw [e] at h; cases h
 | some j=>
  rw [e] at h
  obtain ⟨h1,h2,h3,h4⟩:=ixN_seq e
  exact ⟨j,h1,h,h2,h3,h4⟩
theorem atI_nat {α : Type} {xs:List α} {j:Nat} {v : α} (h:xs[j]? = some v):atI xs (j:Int) = some v:=by
 have hj:j < xs.length:=(List.getElem?_eq_some_iff.mp h).1
 have e:ixN xs.length (j:Int) = some j:=by
  unfold ixN
  rw [if_pos (by omega),if_pos (by omega)]; simp
 unfold atI; rw [e]; exact h
def PlainIx (b:Expr):Prop:=∀ o i,subscripted b false o i = operate [o,i] (getItem o i)
def IxR (X:Cx) (r:R2):Prop:=
 ∀ (value slice:Expr) (pins:List (Addr × Obj)) (s:Shared) (σ : St) (H:Hp) (x y:V) (v u:Value) (Q:VK),Inv X pins σ H s->RelV x v->RelV y u->r x y H Q->
  subscripted slice false v u = operate [v,u] (getItem v u)->wpAny (model X.prog X.w) X.A (subscriptTail value slice v u) (EP X pins σ Q) X.xe s
def MtR (X:Cx) (id:String) (r:V->List V->Hp->VK->Prop):Prop:=
 ∀ (pins:List (Addr × Obj)) (s:Shared) (σ : St) (H:Hp) (x:V) (xs:List V) (v:Value) (us:List Value) (Q:VK),Inv X pins σ H s->RelV x v->Vals xs us->r x xs H Q->
  wpAny (model X.prog X.w) X.A (call (.builtin id) (v :: us)) (EP X pins σ Q) X.xe s
section
variable {X:Cx} {a b:Expr} {ta tb:TE} {pos:Pos}
theorem pe_ix {r:R2} (hr:IxR X r) (ha:PE X a ta) (hb:PE X b tb) (hs:PlainIx b):PE X (.Subscript a b pos) (tOp r ta tb):=by
 refine ⟨?_⟩
 intro pins s σ H Q I h
 exact Subscript_ (binT ha hb I h fun v u s2 x y H2 I2 rx ry q=>hr a b pins s2 σ H2 x y v u Q I2 rx ry q (hs _ _))
def rIxL (K:Frag):R2:=fun x y H Q=>∃ p xs i v,x = .ref p/\y = .int i/\SqL K H p xs/\atI xs i = some v/\Q v H
def rIxT (K:Frag):R2:=fun x y H Q=>∃ p xs i v,x = .ref p/\y = .int i/\SqT K H p xs/\atI xs i = some v/\Q v H
def rIxS:R2:=fun x y H Q=>∃ z i c,x = .str z/\y = .int i/\z.length<=sizeLine/\atI z.cps.toList i = some c/\Q (.str ⟨#[c]⟩) H
theorem ix_list:IxR X (rIxL X.K):=by
 intro value slice pins s σ H x y v u Q I rx ry h hs
 obtain ⟨p,xs,i,z,rfl,rfl,hq,he,q⟩:=h
 cases rx
 obtain ⟨t,rfl⟩:=ry
 obtain ⟨its,r,pl,hz⟩:=I.list hq
 obtain ⟨j,h1,h2,h3,h4,h5⟩:=atI_get he
 obtain ⟨w,ew,rw'⟩:=r.get h2
 have hl:=r.length
 have hn:=line63
 have fin:EP X pins σ Q w s:=⟨z,H,I,rw',q⟩
 by_cases h0 : 0<=i
 ·have hj:i.toNat = j:=by
   rw [seqIndex_of h0 h5] at h1
   exact Option.some.inj h1
  exact item_listR pl.isList h0 (by omega) (by rw [hj]; simpa using ew) fin hs
 ·have hj:(i + (its.toArray.size:Int)).toNat = j:=by
   rw [seqIndex_neg (by omega) h4] at h1
   rw [List.size_toArray,<- hl]
   exact Option.some.inj h1
  exact subscriptTail_builtinR (x:=w) pl.isList.typeIs slot_list_getitem.lookup
   (wpAny_getItem_list_neg (Q:=fun r s'=>r = w/\EP X pins σ Q r s') pl.isList (by omega) (by rw [List.size_toArray] <;> omega) (by omega) (by rw [hj]; simpa using ew) ⟨rfl,fin⟩) hs
theorem ix_tup:IxR X (rIxT X.K):=by
 intro value slice pins s σ H x y v u Q I rx ry h hs
 obtain ⟨p,xs,i,z,rfl,rfl,hq,he,q⟩:=h
 cases rx
 obtain ⟨t,rfl⟩:=ry
 obtain ⟨its,r,pl,hz⟩:=I.tuple hq
 obtain ⟨j,h1,h2,h3,h4,h5⟩:=atI_get he
 obtain ⟨w,ew,rw'⟩:=r.get h2
 have hl:=r.length
 have hn:=line63
 have fin:EP X pins σ Q w s:=⟨z,H,I,rw',q⟩
 exact subscriptTail_builtinR (x:=w) pl.typeIs slot_tuple_getitem.lookup
  (getItem_tuple (j:=j) (Q:=fun r s'=>r = w/\EP X pins σ Q r s') pl (by omega) (by omega) (by rw [List.size_toArray,<- hl]; exact h1) (by simpa using ew) ⟨rfl,fin⟩) hs
theorem ix_str:IxR X rIxS:=by
 intro value slice pins s σ H x y v u Q I rx ry h hs
 obtain ⟨z,i,c,rfl,rfl,hz,he,q⟩:=h
 obtain ⟨t,rfl⟩:=rx
 obtain ⟨t',rfl⟩:=ry
 obtain ⟨j,h1,h2,h3,h4,h5⟩:=atI_get he
 have hl:z.cps.toList.length = z.length:=by simp [Str.length]
 rw [hl] at h1 h4 h5
 have hn:=line63
 exact tail_any (typeIs_str s z t) slot_str_getitem.lookup (getItem_str (c:=c) (by
  have e1:decide (i < -(2 ^ 63:Int)) = false:=decide_eq_false (by omega)
  have e2:decide (i>=2 ^ 63) = false:=decide_eq_false (by omega)
  rw [e1,e2,Bool.or_false]) (by rw [h1]; simpa using h2) ⟨.str ⟨#[c]⟩,H,I.tok _,⟨_,rfl⟩,q⟩) hs
theorem slice_bounds (lo hi:Option Int) (n:Nat):(sliceBounds lo hi none n).1 = ((HT.sIx n 0 lo:Nat):Int)/\(sliceBounds lo hi none n).2.1 = ((HT.sIx n n hi:Nat):Int)/\(sliceBounds lo hi none n).2.2 = 1:=by
 refine ⟨?_,?_,rfl⟩
 ·cases lo with
  | none=>simp [sliceBounds,HT.sIx]
  | some i=>
   simp only [sliceBounds,HT.sIx,Option.getD_none,show (1:Int) > 0 by decide,if_true]
   by_cases h:i < 0
   ·simp only [h,if_true] <;> omega
   ·simp only [h,if_false] <;> omega
 ·cases hi with
  | none=>simp [sliceBounds,HT.sIx]
  | some i=>
   simp only [sliceBounds,HT.sIx,Option.getD_none,show (1:Int) > 0 by decide,if_true]
   by_cases h:i < 0
   ·simp only [h,if_true] <;> omega
   ·simp only [h,if_false] <;> omega
theorem slicePick_cut (its:List Value) (lo hi:Option Int):slicePick its.toArray lo hi none = ((its.drop (HT.sIx its.length 0 lo)).take (HT.sIx its.length its.length hi - HT.sIx its.length 0 lo)).toArray:=by
 obtain ⟨h1,h2,h3⟩:=slice_bounds lo hi its.toArray.size
 unfold slicePick
 rw [h1,h2,h3]
 simp only [sliceRange_one,pick_run,List.size_toArray] <;> rfl
def rSlL (K:Frag):V->Option Int->Option Int->Hp->VK->Prop:=fun x lo hi H Q=>∃ a xs,x = .ref a/\SqL K H a xs/\∀ p,H p = none->Q (.ref p) (upd H p (.lst (cutV xs lo hi)))
theorem sl_list:SlR X (rSlL X.K):=by
 intro pins s σ H x v vl vu lo hi sl Q I rx hs pl pu h
 obtain ⟨a,xs,rfl,hx,q⟩:=h
 cases rx
 obtain ⟨its,r,ht,hz⟩:=I.list hx
 have hlen:=r.length
 refine ⟨"list",_,slot_list_getitem.lookup,ht.isList.typeIs,?_⟩
 refine wpAny_getItem_list_slice ht.isList hs pl pu .none (by simp) ?_ (by rw [List.size_toArray] <;> omega)
 rw [slicePick_cut,<- hlen]
 refine ⟨.ref s.heap.objs.size,_,I.laid (t':=s.toks) (o:=.lst (cutV xs lo hi)) (fun b ob q=>Heap.get?_push_of_some _ q) (Nat.le_refl _) ?_,rfl,q _ (I.hok.fresh (Nat.le_refl _))⟩
 exact ⟨Nat.le_trans (cutV_length xs lo hi) hz,_,0,(r.drop (HT.sIx xs.length 0 lo)).take (HT.sIx xs.length xs.length hi - HT.sIx xs.length 0 lo),Heap.get?_push_size _ rfl⟩
def flatV:V->Bool
 | .non=>true
 | .bl _=>true
 | .int _=>true
 | .str _=>true
 | _=>false
def eqV:V->V->Bool
 | .non,.non=>true
 | .bl a,.bl b=>a == b
 | .bl a,.int b=>(if a then 1 else 0) == b
 | .int a,.bl b=>a == (if b then 1 else 0)
 | .int a,.int b=>a == b
 | .str a,.str b=>a == b
 | _,_=>false
theorem eqAt_V {A:Around} {s:Shared} {y x:V} {u v:Value} (ry:RelV y u) (rx:RelV x v) (fy:flatV y = true) (fx:flatV x = true):SeqAt.EqAt A s u v (eqV y x):=by
 cases y with
 | non=>
  cases ry
  cases x with
  | non=>cases rx; exact SeqAt.EqAt.same _
  | bl b=>cases rx; exact SeqAt.EqAt.none_bool b
  | int b=>obtain ⟨t,rfl⟩:=rx; exact SeqAt.EqAt.none_int b t
  | str b=>obtain ⟨t,rfl⟩:=rx; exact SeqAt.EqAt.none_str b t
  | _=>exact absurd (show false = true from fx) Bool.false_ne_true
 | bl a=>
  cases ry
  cases x with
  | non=>cases rx; exact SeqAt.EqAt.bool_none a
  | bl b=>cases rx; exact SeqAt.EqAt.bool_bool a b
  | int b=>obtain ⟨t,rfl⟩:=rx; exact SeqAt.EqAt.bool_int a b t
  | str b=>obtain ⟨t,rfl⟩:=rx; exact SeqAt.EqAt.bool_str a b t
  | _=>exact absurd (show false = true from fx) Bool.false_ne_true
 | int a=>
  obtain ⟨t',rfl⟩:=ry
  cases x with
  | non=>cases rx; exact SeqAt.EqAt.int_none a t'
  | bl b=>cases rx; exact SeqAt.EqAt.int_bool a t' b
  | int b=>obtain ⟨t,rfl⟩:=rx; exact SeqAt.EqAt.int_int a t' b t
  | str b=>obtain ⟨t,rfl⟩:=rx; exact SeqAt.EqAt.int_str a t' b t
  | _=>exact absurd (show false = true from fx) Bool.false_ne_true
 | str a=>
  obtain ⟨t',rfl⟩:=ry
  cases x with
  | non=>cases rx; exact SeqAt.EqAt.str_none a t'
  | bl b=>cases rx; exact SeqAt.EqAt.str_bool a t' b
  | int b=>obtain ⟨t,rfl⟩:=rx; exact SeqAt.EqAt.str_int a t' b t
  | str b=>obtain ⟨t,rfl⟩:=rx; exact SeqAt.EqAt.str_str a t' b t
  | _=>exact absurd (show false = true from fx) Bool.false_ne_true
 | _=>exact absurd (show false = true from fy) Bool.false_ne_true
def eqU (x:V) (u:Value):Bool:=match u with
 | .none=>eqV .non x
 | .bool b=>eqV (.bl b) x
 | .int i _=>eqV (.int i) x
 | .str z _=>eqV (.str z) x
 | _=>false
theorem eqU_of {x y:V} {u:Value} (r:RelV y u) (f:flatV y = true):eqU x u = eqV y x:=by
 cases y with
 | non=>cases r; rfl
 | bl b=>cases r; rfl
 | int i=>obtain ⟨t,rfl⟩:=r; rfl
 | str z=>obtain ⟨t,rfl⟩:=r; rfl
 | _=>exact absurd (show false = true from f) Bool.false_ne_true
theorem any_eqU {x:V}:∀ {xs:List V} {us:List Value},Vals xs us->xs.all flatV = true->us.any (eqU x) = xs.any fun y=>eqV y x
 | _,_,.nil,_=>rfl
 | y :: xs,u :: us,.cons r t,f=>by
  rw [List.all_cons,Bool.and_eq_true] at f
  rw [List.any_cons,List.any_cons,eqU_of r f.1,any_eqU t f.2]
theorem mem_eqAt {A:Around} {s:Shared} {x:V} {v:Value} (rx:RelV x v) (fx:flatV x = true):∀ {xs:List V} {us:List Value},Vals xs us->xs.all flatV = true->∀ u ∈ us,SeqAt.EqAt A s u v (eqU x u)
 | _,_,.nil,_=>fun u hu=>by cases hu
 | y :: xs,u :: us,.cons r t,f=>fun u' hu=>by
  rw [List.all_cons,Bool.and_eq_true] at f
  rcases List.mem_cons.mp hu with rfl | hu
  ·rw [eqU_of r f.1]; exact eqAt_V r rx f.1 fx
  ·exact mem_eqAt rx fx t f.2 u' hu
def inV (x:V) (xs:List V):Bool:=xs.any fun y=>eqV y x
def rIn (K:Frag) (neg:Bool):R2:=fun x y H Q=>∃ p xs,y = .ref p/\(SqL K H p xs\/SqT K H p xs)/\flatV x = true/\xs.all flatV = true/\Q (.bl (if neg then !inV x xs else inV x xs)) H
theorem op_in_seq:OpR X (compareOp .In) (rIn X.K false):=by
 intro pins s σ H x y v u Q I rx ry h
 obtain ⟨p,xs,rfl,hq,fx,fs,q⟩:=h
 cases ry
 rcases hq with hq | hq
 ·obtain ⟨its,r,pl,hz⟩:=I.list hq
  refine SeqAt.in_listAt (eqU x) pl.isList (fun w hw=>mem_eqAt rx fx r fs w (by simpa using hw)) ⟨.bl _,H,I,rfl,?_⟩
  rw [show its.toArray.any (eqU x) = its.any (eqU x) by simp,any_eqU r fs]
  exact q
 ·obtain ⟨its,r,pl,hz⟩:=I.tuple hq
  refine SeqAt.in_tupleAt (eqU x) pl (fun w hw=>mem_eqAt rx fx r fs w (by simpa using hw)) ⟨.bl _,H,I,rfl,?_⟩
  rw [show its.toArray.any (eqU x) = its.any (eqU x) by simp,any_eqU r fs]
  exact q
theorem op_notIn_seq:OpR X (compareOp .NotIn) (rIn X.K true):=by
 intro pins s σ H x y v u Q I rx ry h
 obtain ⟨p,xs,rfl,hq,fx,fs,q⟩:=h
 cases ry
 rcases hq with hq | hq
 ·obtain ⟨its,r,pl,hz⟩:=I.list hq
  refine SeqAt.notIn_listAt (eqU x) pl.isList (fun w hw=>mem_eqAt rx fx r fs w (by simpa using hw)) ⟨.bl _,H,I,rfl,?_⟩
  rw [show its.toArray.any (eqU x) = its.any (eqU x) by simp,any_eqU r fs]
  exact q
 ·obtain ⟨its,r,pl,hz⟩:=I.tuple hq
  refine SeqAt.notIn_tupleAt (eqU x) pl (fun w hw=>mem_eqAt rx fx r fs w (by simpa using hw)) ⟨.bl _,H,I,rfl,?_⟩
  rw [show its.toArray.any (eqU x) = its.any (eqU x) by simp,any_eqU r fs]
  exact q
theorem call_len_seq:CallR X (.builtin "len") (fun xs H Q=>∃ p ys,xs = [.ref p]/\(SqL X.K H p ys\/SqT X.K H p ys)/\Q (.int ys.length) H):=by
 intro pins s σ H xs us Q I r h
 obtain ⟨p,ys,rfl,hq,q⟩:=h
 obtain ⟨u,rfl,rx⟩:=vals1 r
 cases rx
 have hn:=line63
 rcases hq with hq | hq
 ·obtain ⟨its,r',pl,hz⟩:=I.list hq
  have hlen:=r'.length
  exact Calls.call_len_list pl.isList (by simp only [List.size_toArray] <;> omega) ⟨.int ys.length,H,I.tok _,⟨s.toks + 1,by rw [List.size_toArray,hlen]⟩,q⟩
 ·obtain ⟨its,r',pl,hz⟩:=I.tuple hq
  have hlen:=r'.length
  exact len_tuple pl (by simp only [List.size_toArray] <;> omega) ⟨.int ys.length,H,I.tok _,⟨s.toks + 1,by rw [List.size_toArray,hlen]⟩,q⟩
theorem call_len_str:CallR X (.builtin "len") (fun xs H Q=>∃ z,xs = [.str z]/\z.length<=sizeLine/\Q (.int z.length) H):=by
 intro pins s σ H xs us Q I r h
 obtain ⟨z,rfl,hz,q⟩:=h
 obtain ⟨u,rfl,t,rfl⟩:=vals1 r
 have hn:=line63
 exact len_str (by omega) ⟨.int z.length,H,I.tok _,⟨_,rfl⟩,q⟩
theorem call_list_of:CallR X (.type "list") (fun xs H Q=>∃ p ys,xs = [.ref p]/\(SqL X.K H p ys\/SqT X.K H p ys)/\∀ l,H l = none->Q (.ref l) (upd H l (.lst ys))):=by
 intro pins s σ H xs us Q I r h
 obtain ⟨p,ys,rfl,hq,q⟩:=h
 obtain ⟨u,rfl,rx⟩:=vals1 r
 cases rx
 have fin:∀ (its:List Value),Vals ys its->ys.length<=sizeLine->∀ (h':Heap) (c':Nat),(∀ b o',s.heap.get? b = some o'->h'.get? b = some o')->
   h'.get? s.heap.objs.size = some { cls:=.type "list",dict:=none,data:=.seq its.toArray c',slots:=#[] }->EP X pins σ Q (.ref s.heap.objs.size) { s with heap:=h' }:=fun its r' hz h' c' kp e=>
  ⟨.ref s.heap.objs.size,_,I.laid (t':=s.toks) kp (Nat.le_refl _) (show ObjOk X.prog X.w _ h' _ (.lst ys) from ⟨hz,its,c',r',e⟩),rfl,q _ (I.hok.fresh (Nat.le_refl _))⟩
 rcases hq with hq | hq
 ·obtain ⟨its,r',pl,hz⟩:=I.list hq
  have hlen:=r'.length
  obtain ⟨o,ho,hc,n,hd⟩:=pl.isList
  exact call_list_seq p (.inl rfl) ho hc hd (fun h' c' kp e=>fin its r' hz h' c' kp e) (by simp only [List.size_toArray] <;> omega)
 ·obtain ⟨its,r',pl,hz⟩:=I.tuple hq
  have hlen:=r'.length
  obtain ⟨o,ho,hc,n,hd⟩:=pl
  exact call_list_seq p (.inr rfl) ho hc hd (fun h' c' kp e=>fin its r' hz h' c' kp e) (by simp only [List.size_toArray] <;> omega)
theorem call_tuple_of:CallR X (.type "tuple") (fun xs H Q=>∃ p ys,xs = [.ref p]/\((SqL X.K H p ys/\∀ l,H l = none->Q (.ref l) (upd H l (.tup ys)))\/(SqT X.K H p ys/\Q (.ref p) H))):=by
 intro pins s σ H xs us Q I r h
 obtain ⟨p,ys,rfl,h⟩:=h
 obtain ⟨u,rfl,rx⟩:=vals1 r
 cases rx
 rcases h with ⟨hq,q⟩ | ⟨hq,q⟩
 ·obtain ⟨its,r',pl,hz⟩:=I.list hq
  have hlen:=r'.length
  refine call_tuple_list pl.isList (fun h' kp=>?_) (by simp only [List.size_toArray] <;> omega)
  have I1:Inv X pins σ H { s with heap:=h' }:=I.kept (t':=s.toks) kp
  have I2:Inv X pins σ (upd H h'.objs.size (.tup ys)) { s with heap:=h'.push { cls:=.type "tuple",data:=.seq its.toArray } }:=
   I1.laid (t':=s.toks) (fun b o e=>Heap.get?_push_of_some _ e) (Nat.le_refl _) (show ObjOk X.prog X.w _ _ _ (.tup ys) from ⟨hz,its,r',IsTup.new _ _⟩)
  exact ⟨.ref h'.objs.size,_,I2,rfl,q _ (I1.hok.fresh (Nat.le_refl _))⟩
 ·obtain ⟨its,r',pl,hz⟩:=I.tuple hq
  exact call_tuple_same pl ⟨.ref p,H,I,rfl,q⟩
def tyV (K:Frag) (T:String) (x:V) (H:Hp):Prop:=match x with
 | .str _=>T = "str"
 | .int _=>T = "int"
 | .ref p=>(T = "list"/\∃ xs,SqL K H p xs)\/(T = "tuple"/\∃ o,K.lookup p = some o/\o.cls = .type "tuple"/\o.dict = none)\/
   (T = "dict"/\((∃ kvs,H p = some (.dK kvs))\/∃ kvs,H p = some (.dT kvs)))\/(T = "set"/\∃ S n,H p = some (.set S n))
 | _=>False
theorem tyV_is {pins:List (Addr × Obj)} {σ : St} {H:Hp} {s:Shared} {T:String} {x:V} {v:Value} (I:Inv X pins σ H s) (r:RelV x v) (ty:tyV X.K T x H) :
  s.TypeIs v T/\∀ a,v = .ref a->∃ ob,s.heap.get? a = some ob/\ob.dict = none:=by
 cases x with
 | str z=>
  obtain ⟨t,rfl⟩:=r
  cases (show T = "str" from ty)
  exact ⟨typeIs_str s z t,fun _ e=>nomatch e⟩
 | int i=>
  obtain ⟨t,rfl⟩:=r
  cases (show T = "int" from ty)
  exact ⟨typeIs_int s i t,fun _ e=>nomatch e⟩
 | ref p=>
  cases r
  rcases ty with ⟨rfl,xs,hq⟩ | ⟨rfl,o,hk,hc,hd⟩ | ⟨rfl,hk⟩ | ⟨rfl,S,n,hk⟩
  ·obtain ⟨its,_,pl,_⟩:=I.list hq
   refine ⟨pl.isList.typeIs,fun a e=>?_⟩
   cases e
   obtain ⟨o,n,e,c,hd,_⟩:=pl
   exact ⟨o,e,hd⟩
  ·refine ⟨⟨o,I.kIn p o hk,hc⟩,fun a e=>?_⟩
   cases e
   exact ⟨o,I.kIn _ o hk,hd⟩
  ·have z:∃ o,s.heap.get? p = some o/\o.ExactDict:=by
    rcases hk with ⟨kvs,hk⟩ | ⟨kvs,hk⟩
    ·obtain ⟨_,_,_,_,o,_,_,e,ex,_⟩:=I.hok p _ hk
     exact ⟨o,e,ex⟩
    ·obtain ⟨_,_,_,_,o,_,_,e,ex,_⟩:=I.hok p _ hk
     exact ⟨o,e,ex⟩
   obtain ⟨o,e,ex⟩:=z
   refine ⟨⟨o,e,ex.1⟩,fun a e2=>?_⟩
   cases e2
   exact ⟨o,e,ex.2.1⟩
  ·obtain ⟨o,_,_,_,e,ex,_⟩:=I.hok p _ hk
   refine ⟨⟨o,e,ex.1⟩,fun a e2=>?_⟩
   cases e2
   exact ⟨o,e,ex.2.1⟩
 | _=>exact False.elim ty
def tBM (K:Frag) (T:String) (r:V->List V->Hp->VK->Prop) (to:TE) (t:TA):TE:=fun σ H Q=>to σ H fun x H1=>tyV K T x H1/\t σ H1 fun xs H2=>r x xs H2 Q
variable {o e:Expr} {es:List Expr} {to:TE} {t:TA} {name:Str} {apos cpos:Pos} {T id:String} {r:V->List V->Hp->VK->Prop}
theorem pe_bm (pa:PlainAttrs T) (slot:Slot T name id) (hty:typeOf (.builtin id) = pure (.type "method_descriptor")) (hm:MtR X id r) (ho:PE X o to) (ha:PA X (e :: es) t)
  (hbase:attributeBase o name X.env (eval o X.env) = eval o X.env:=by rfl)
  (hfew:((backTo cpos (starEach (e :: es) X.env)).all (fun x=>!x.1) && (backToKw cpos (keywordEach [] X.env)).all (fun x=>x.1.isSome)
   && decide ((e :: es).length + ([]:List Keyword).length + (if ([]:List Keyword).isEmpty then 0 else 1) < 30)) = true:=by rfl)
  (hline:(apos.endLine == cpos.line) = true:=by rfl) (hs:starEach (e :: es) X.env = (false,eval e X.env) :: starEach es X.env:=by rfl) (hplain:(backTo cpos (starEach es X.env)).any (·.1) = false:=by rfl) :
  PE X (.Call (.Attribute o name apos) (e :: es) [] cpos) (tBM X.K T r to t):=by
 refine ⟨?_⟩
 intro pins s σ H Q I h
 refine wpAny_Call_method_late hbase hfew hline rfl (thn (ho pins s σ H _ I h) fun v s1 ⟨x,H1,I1,r1,ty,q1⟩=>?_)
 obtain ⟨h1,h2⟩:=tyV_is I1 r1 ty
 refine ⟨T,id,pa,slot,hty,h1,h2,?_⟩
 have hA:=ha cpos pins s1 σ H1 _ I1 q1
 rw [hs] at hA |-
 refine Calls.callWith_builtin (by show (false || (backTo cpos (starEach es X.env)).any (·.1)) = false; rw [hplain] <;> rfl) (Calls.evalArgs_plain ?_)
 exact thn hA fun us s2 ⟨vs,H2,I2,r2,q2⟩=>hm pins s2 σ H2 x vs v us Q I2 r1 r2 q2
end
def MtM (X:Cx) (id:String) (r:V->List V->Hp->VK->Prop):Prop:=
 ∀ (pins:List (Addr × Obj)) (s:Shared) (σ : St) (H:Hp) (x:V) (xs:List V) (v:Value) (us:List Value) (Q:VK),Inv X pins σ H s->RelV x v->Vals xs us->r x xs H Q->
  wpAny (model X.prog X.w) X.A (call (.builtin id) (v :: us)) (EP X pins σ Q) X.xe s
theorem Vals.one:∀ {x:V} {us:List Value},Vals [x] us->∃ u,us = [u]/\RelV x u
 | _,_,.cons r .nil=>⟨_,rfl,r⟩
theorem Vals.rep {xs:List V} {us:List Value} (h:Vals xs us):∀ k:Nat,Vals (List.replicate k xs).flatten (List.replicate k us).flatten
 | 0=>.nil
 | k + 1=>by
  rw [List.replicate_succ,List.replicate_succ,List.flatten_cons,List.flatten_cons]
  exact Vals.append h (Vals.rep h k)
theorem foldl_rep (its:List Value):∀ (k:Nat) (acc:List Value),
  List.foldl (fun x1 x2=>x1 ++ x2) acc.toArray (List.replicate k its.toArray) = (acc ++ (List.replicate k its).flatten).toArray
 | 0,acc=>by simp
 | k + 1,acc=>by
  have e:acc.toArray ++ its.toArray = (acc ++ its).toArray:=by simp
  have e2:(acc ++ its) ++ (List.replicate k its).flatten = acc ++ (List.replicate (k + 1) its).flatten:=by
   rw [List.replicate_succ,List.flatten_cons,List.append_assoc]
  rw [<- e2,<- foldl_rep its k (acc ++ its),<- e,List.replicate_succ,List.foldl_cons]
section
variable {X:Cx} {pins:List (Addr × Obj)} {σ : St} {H:Hp} {s:Shared} {l b:Addr} {xs ys zs:List V}
theorem Inv.lset {its its':List Value} {n:Nat} {f:Array Value->Array Value} {t':Nat} (I:Inv X pins σ H s) (hH:H l = some (.lst xs))
  (e:s.heap.get? l = some { cls:=.type "list",data:=.seq its.toArray n }) (hf:f its.toArray = its'.toArray) (hv:Vals ys its') (hz:ys.length<=sizeLine) :
  Inv X pins σ (upd H l (.lst ys)) { s with heap:=s.heap.update l (Obj.mapSeq f),toks:=t' }:=by
 have q:=PySem.IsL.update e f
 rw [hf] at q
 refine I.write (x:=l) (e:=l) (by rw [hH]; exact trivial) (.inl rfl) (fun b' u hb hu=>(Heap.get?_update_other s.heap (Obj.mapSeq f) (Ne.symm hb)).trans hu) ⟨_,q⟩ ?_
 exact ⟨hz,its',_,hv,q⟩
theorem Inv.lnew {its:List Value} {t':Nat} (I:Inv X pins σ H s) (hv:Vals ys its) (hz:ys.length<=sizeLine) :
  Inv X pins σ (upd H s.heap.objs.size (.lst ys)) { s with heap:=s.heap.push { cls:=.type "list",data:=.seq its.toArray },toks:=t' }:=
 I.laid (fun _ _ q=>Heap.get?_push_of_some _ q) (Nat.le_refl _) ⟨hz,its,0,hv,Heap.get?_push_size _ rfl⟩
theorem Inv.fresh (I:Inv X pins σ H s):H s.heap.objs.size = none:=I.hok.fresh (Nat.le_refl _)
theorem Inv.lstM (I:Inv X pins σ H s) (hH:H l = some (.lst xs)):xs.length<=sizeLine/\∃ (its:List Value) (n:Nat),Vals xs its/\xs.length = its.length/\s.heap.get? l = some { cls:=.type "list",data:=.seq its.toArray n }:=by
 obtain ⟨z,its,n,r,e⟩:=I.hok l _ hH
 exact ⟨z,its,n,r,r.length,e⟩
theorem notLongL {n:Nat} (h:n<=sizeLine):Builtin.List.listTooLong n = false:=by
 unfold Builtin.List.listTooLong
 exact decide_eq_false (by omega)
end
section
variable {X:Cx}
def rAppend:V->List V->Hp->VK->Prop:=fun x vs H Q=>∃ l xs y,x = .ref l/\vs = [y]/\H l = some (.lst xs)/\xs.length < sizeLine/\Q .non (upd H l (.lst (xs ++ [y])))
theorem mt_append:MtM X "list.append" rAppend:=by
 intro pins s σ H x vs v us Q I rx rv h
 obtain ⟨l,xs,y,rfl,rfl,hH,hz,q⟩:=h
 cases rx
 obtain ⟨u,rfl,ru⟩:=rv.one
 obtain ⟨z,its,n,r,hl,e⟩:=I.lstM hH
 refine call_meets F.slot_list_append ⟨_,e,rfl⟩ F.entry_list_append (F.args_list_append_2 _ _) (PySem.list_append l its.toArray n u (by rw [List.size_toArray]; omega)) ⟨e,?_⟩
 refine ⟨.non,_,I.lset (its':=its ++ [u]) hH e (by simp) (r.append (.cons ru .nil)) ?_,rfl,q⟩
 rw [List.length_append,List.length_singleton]
 omega
def rExtend:V->List V->Hp->VK->Prop:=fun x vs H Q=>∃ l b xs zs,x = .ref l/\vs = [.ref b]/\H l = some (.lst xs)/\H b = some (.lst zs)/\xs.length + zs.length<=sizeLine/\Q .non (upd H l (.lst (xs ++ zs)))
theorem mt_extend:MtM X "list.extend" rExtend:=by
 intro pins s σ H x vs v us Q I rx rv h
 obtain ⟨l,b,xs,zs,rfl,rfl,hH,hB,hz,q⟩:=h
 cases rx
 obtain ⟨u,rfl,ru⟩:=rv.one
 cases ru
 obtain ⟨z,its,n,r,hl,e⟩:=I.lstM hH
 obtain ⟨z2,its2,n2,r2,hl2,e2⟩:=I.lstM hB
 have hsz:its.toArray.size + its2.toArray.size<=sizeLine:=by rw [List.size_toArray,List.size_toArray]; omega
 have hlong:¬ (!its.toArray.isEmpty && Builtin.List.listTooLong (its.toArray.size + its2.toArray.size)) = true:=by
  rw [notLongL hsz,Bool.and_false]
  exact Bool.false_ne_true
 refine call_meets F.slot_list_extend ⟨_,e,rfl⟩ F.entry_list_extend (F.args_list_extend_2 _ _)
  (AutoSeq1.list_extend_list_list_0 l its.toArray n b its2.toArray n2 hlong (by rw [List.size_toArray]; omega) (by omega)) ⟨e,e2,?_⟩
 refine ⟨.non,_,I.lset (its':=its ++ its2) hH e (by simp) (r.append r2) ?_,rfl,q⟩
 rw [List.length_append]
 omega
def rCat:R2:=fun x y H Q=>∃ l b xs zs,x = .ref l/\y = .ref b/\H l = some (.lst xs)/\H b = some (.lst zs)/\xs.length + zs.length<=sizeLine/\∀ p,H p = none->Q (.ref p) (upd H p (.lst (xs ++ zs)))
theorem op_cat:OpR X (binaryOp .Add) rCat:=by
 intro pins s σ H x y v u Q I rx ry h
 obtain ⟨l,b,xs,zs,rfl,rfl,hH,hB,hz,q⟩:=h
 cases rx
 cases ry
 obtain ⟨z,its,n,r,hl,e⟩:=I.lstM hH
 obtain ⟨z2,its2,n2,r2,hl2,e2⟩:=I.lstM hB
 refine PySem.P.add_list e e2 ?_ (by rw [List.size_toArray,List.size_toArray]; omega)
 have ea:its.toArray ++ its2.toArray = (its ++ its2).toArray:=by simp
 rw [ea]
 exact ⟨.ref _,_,I.lnew (t':=s.toks) (r.append r2) (by rw [List.length_append]; omega),rfl,q _ I.fresh⟩
def rRep:R2:=fun x y H Q=>∃ l k xs,x = .ref l/\y = .int k/\H l = some (.lst xs)/\-(2 ^ 63)<=k/\k < 2 ^ 63/\xs.length * k.toNat<=sizeLine/\
 ∀ p,H p = none->Q (.ref p) (upd H p (.lst (List.replicate k.toNat xs).flatten))
theorem len_rep {α : Type} (xs:List α) (k:Nat):(List.replicate k xs).flatten.length = k * xs.length:=by
 induction k with
 | zero=>simp
 | succ k ih=>rw [List.replicate_succ,List.flatten_cons,List.length_append,ih,Nat.succ_mul,Nat.add_comm]
theorem op_rep:OpR X (binaryOp .Mult) rRep:=by
 intro pins s σ H x y v u Q I rx ry h
 obtain ⟨l,k,xs,rfl,rfl,hH,h1,h2,hz,q⟩:=h
 cases rx
 obtain ⟨t,rfl⟩:=ry
 obtain ⟨z,its,n,r,hl,e⟩:=I.lstM hH
 have hlen:its.toArray.size * k.toNat<=sizeLine:=by rw [List.size_toArray,<- hl]; exact hz
 have hcap:¬ its.toArray.size * k.toNat > (2 ^ 63 - 1) / 8:=by
  have:(sizeLine:Nat)<=(2 ^ 63 - 1) / 8:=by decide
  omega
 have hfit:¬ (!Builtin.List.listFitsIndex k) = true:=by
  rw [fitsIndex_both h1 h2]
  exact Bool.false_ne_true
 have hlong:¬ Builtin.List.listTooLong (its.toArray.size * k.toNat) = true:=by
  rw [notLongL hlen]
  exact Bool.false_ne_true
 have hnew:List.foldl (fun x1 x2=>x1 ++ x2) #[] (List.replicate (if its.toArray.isEmpty = true then 0 else k.toNat) its.toArray) = (List.replicate k.toNat its).flatten.toArray:=by
  have f0:∀ m:Nat,List.foldl (fun x1 x2=>x1 ++ x2) #[] (List.replicate m its.toArray) = (List.replicate m its).flatten.toArray:=fun m=>by
   have:=foldl_rep its m []
   rw [List.nil_append] at this
   exact this
  rw [f0]
  cases its with
  | nil=>simp
  | cons a r'=>rw [if_neg (by simp)]
 refine wpAny_binaryOp_repeat_ref (T:="list") (U:="int") (by decide) ⟨_,e,rfl⟩ (fun s'=>typeIs_int s' k t) noFill_list_mul F.fills_int_mul F.slot_int_rmul repeat_list F.slot_int_index.lookup
  (call_meets F.slot_int_rmul (typeIs_int s k t) F.entry_int_rmul (F.args_int_rmul_2 _ _) (int___rmul___int_list k t l its.toArray n)
   ⟨e,rfl,⟨_,e,rfl⟩,call_meets F.slot_list_mul ⟨_,e,rfl⟩ F.entry_list_mul (F.args_list_mul_2 _ _) (AutoListH.list___mul___list_int_3 l its.toArray n k t hfit hcap hlong) ⟨e,?_⟩⟩)
 rw [hnew]
 exact ⟨.ref _,_,I.lnew (t':=s.toks) (r.rep k.toNat) (by rw [len_rep,Nat.mul_comm]; exact hz),rfl,q _ I.fresh⟩
end
section
variable {prog:Program} {w:World} {A:Around} {E:Value->Shared->Prop} {s:Shared}
end
section
variable {X:Cx}
end
section
variable {κ : Type} [DecidableEq κ]
def valV (kvs:List (κ × V)) (k : κ):Option V:=(kvs.find? fun kv=>decide (kv.1 = k)).map (·.2)
def putK (kvs:List (κ × V)) (k : κ) (v:V):List (κ × V):=
 if (kvs.any fun kv=>decide (kv.1 = k)) = true then kvs.map (fun kv=>if kv.1 = k then (kv.1,v) else kv) else kvs ++ [(k,v)]
theorem valV_pos {p : κ × V} {r:List (κ × V)} {k : κ} (e:p.1 = k):valV (p :: r) k = some p.2:=by simp [valV,List.find?_cons,e]
theorem valV_neg {p : κ × V} {r:List (κ × V)} {k : κ} (e:¬ p.1 = k):valV (p :: r) k = valV r k:=by simp [valV,List.find?_cons,e]
theorem valV_any (k : κ):∀ kvs:List (κ × V),(kvs.any fun kv=>decide (kv.1 = k)) = (valV kvs k).isSome
 | []=>rfl
 | p :: r=>by
  rw [List.any_cons]
  by_cases e:p.1 = k
  ·simp only [valV_pos e,decide_eq_true e,Bool.true_or,Option.isSome_some]
  ·rw [valV_neg e,decide_eq_false e,Bool.false_or]; exact valV_any k r
theorem valV_map (k j : κ) (y:V):∀ kvs:List (κ × V),valV (kvs.map fun kv=>if kv.1 = k then (kv.1,y) else kv) j = (valV kvs j).map fun x=>if j = k then y else x
 | []=>rfl
 | p :: r=>by
  have ih:=valV_map k j y r
  rw [List.map_cons]
  by_cases h:p.1 = k
  ·rw [if_pos h]
   by_cases e:p.1 = j
   ·rw [valV_pos (p:=(p.1,y)) e,valV_pos e,Option.map_some,if_pos (e.symm.trans h)]
   ·rw [valV_neg (p:=(p.1,y)) e,valV_neg e,ih]
  ·rw [if_neg h]
   by_cases e:p.1 = j
   ·rw [valV_pos (p:=p) e,valV_pos e,Option.map_some,if_neg (fun z=>h (e.trans z))]
   ·rw [valV_neg (p:=p) e,valV_neg e,ih]
theorem valV_snoc (k j : κ) (y:V):∀ kvs:List (κ × V),valV kvs k = none->valV (kvs ++ [(k,y)]) j = if j = k then some y else valV kvs j
 | [],_=>by
  by_cases e:k = j
  ·rw [if_pos e.symm]; exact valV_pos (p:=(k,y)) e
  ·rw [if_neg (fun z=>e z.symm)]; exact valV_neg (p:=(k,y)) e
 | p :: r,hn=>by
  rw [List.cons_append]
  have hk:¬ p.1 = k:=fun z=>by rw [valV_pos z] at hn; cases hn
  rw [valV_neg hk] at hn
  have ih:=valV_snoc k j y r hn
  by_cases e:p.1 = j
  ·rw [valV_pos e,valV_pos e,if_neg (fun z=>hk (e.trans z))]
  ·rw [valV_neg e,valV_neg e,ih]
theorem valV_put (kvs:List (κ × V)) (k j : κ) (y:V):valV (putK kvs k y) j = if j = k then some y else valV kvs j:=by
 unfold putK
 by_cases a:(kvs.any fun kv=>decide (kv.1 = k)) = true
 ·rw [if_pos a,valV_map]
  rw [valV_any] at a
  by_cases e:j = k
  ·obtain ⟨x,hx⟩:=Option.isSome_iff_exists.mp a
   rw [if_pos e,e,hx,Option.map_some,if_pos rfl]
  ·rw [if_neg e]
   cases valV kvs j with
   | none=>rfl
   | some x=>rw [Option.map_some,if_neg e]
 ·rw [if_neg a]
  refine valV_snoc k j y kvs ?_
  rw [valV_any] at a
  cases q:valV kvs k with
  | none=>rfl
  | some x=>rw [q] at a; exact (a rfl).elim
theorem length_putK (kvs:List (κ × V)) (k : κ) (v:V):(putK kvs k v).length<=kvs.length + 1:=by
 unfold putK
 split
 ·rw [List.length_map]; omega
 ·rw [List.length_append,List.length_cons,List.length_nil]; omega
theorem RelO.isSome_eq {o:Option V} {u:Option Value} (r:RelO o u):o.isSome = u.isSome:=by
 cases o with
 | none=>cases u with
  | none=>rfl
  | some _=>exact (show False from r).elim
 | some _=>cases u with
  | none=>exact (show False from r).elim
  | some _=>rfl
theorem RelO.getD {o:Option V} {u:Option Value} {d:V} {d':Value} (r:RelO o u) (rd:RelV d d'):RelV (o.getD d) (u.getD d'):=by
 cases o with
 | none=>cases u with
  | none=>exact rd
  | some _=>exact (show False from r).elim
 | some _=>cases u with
  | none=>exact (show False from r).elim
  | some _=>exact r
theorem KV.val {kvs:List (κ × V)} {vs:List (κ × Value)} (r:KV kvs vs) (k : κ):RelO (valV kvs k) (valueAt vs k):=by
 unfold KV at r
 induction r with
 | nil=>exact True.intro
 | @cons p q ps qs h t ih=>
  obtain ⟨h1,h2⟩:=h
  by_cases e:p.1 = k
  ·have e':q.1 = k:=h1.symm.trans e
   have b:valueAt (q :: qs) k = some q.2:=by simp [valueAt,List.find?_cons,e']
   rw [valV_pos e,b]; exact h2
  ·have e':¬ q.1 = k:=fun z=>e (h1.trans z)
   have b:valueAt (q :: qs) k = valueAt qs k:=by simp [valueAt,List.find?_cons,e']
   rw [valV_neg e,b]; exact ih
theorem KV.any {kvs:List (κ × V)} {vs:List (κ × Value)} (r:KV kvs vs) (k : κ):(kvs.any fun kv=>decide (kv.1 = k)) = vs.any fun kv=>decide (kv.1 = k):=by
 unfold KV at r
 induction r with
 | nil=>rfl
 | cons h t ih=>rw [List.any_cons,List.any_cons,ih,h.1]
theorem KV.repl {kvs:List (κ × V)} {vs:List (κ × Value)} (r:KV kvs vs) (k : κ) {y:V} {u:Value} (ry:RelV y u) :
  KV (kvs.map fun kv=>if kv.1 = k then (kv.1,y) else kv) (vs.map fun kv=>if kv.1 = k then (kv.1,u) else kv):=by
 unfold KV at r |-
 induction r with
 | nil=>exact .nil
 | @cons p q ps qs h t ih=>
  rw [List.map_cons,List.map_cons]
  refine .cons ?_ ih
  obtain ⟨h1,h2⟩:=h
  by_cases e:p.1 = k
  ·rw [if_pos e,if_pos (h1.symm.trans e)]; exact ⟨h1,ry⟩
  ·rw [if_neg e,if_neg (fun z=>e (h1.trans z))]; exact ⟨h1,h2⟩
theorem KV.put {kvs:List (κ × V)} {vs:List (κ × Value)} (r:KV kvs vs) (k : κ) {y:V} {u:Value} (ry:RelV y u):KV (putK kvs k y) (stored vs k u):=by
 unfold putK stored
 rw [r.any k]
 by_cases e:(vs.any fun kv=>decide (kv.1 = k)) = true
 ·rw [if_pos e,if_pos e]; exact r.repl k ry
 ·rw [if_neg e,if_neg e]; exact Paired.snoc r ⟨rfl,ry⟩
theorem KV.length {kvs:List (κ × V)} {vs:List (κ × Value)} (r:KV kvs vs):kvs.length = vs.length:=Paired.length r
end
theorem kV_is {P:Program} {w:World} {k:Key} {u:Value} (r:RelV (kV k) u):(mixKind P w).is k u = true:=by
 cases k with
 | inl i=>obtain ⟨t,e⟩:=(show ∃ t,u = Value.int i t from r); subst e; exact mixKind_int P w i t
 | inr x=>obtain ⟨t,e⟩:=(show ∃ t,u = Value.str x t from r); subst e; exact mixKind_str P w x t
theorem items_are {P:Program} {w:World}:∀ {ks:List Key} {us:List Value},Vals (ks.map kV) us->ItemsAre (mixKind P w) ks us
 | [],_,r=>by rw [List.map_nil] at r; cases r; exact .nil
 | k :: ks,_,r=>by
  rw [List.map_cons] at r
  cases r with
  | cons h t=>exact .cons (kV_is h) (items_are t)
abbrev KT (H:Hp):List (List Key × V)->List (List Key × Addr × Value)->Prop:=Paired fun p q=>p.1 = q.1/\H q.2.1 = some (.tup (p.1.map kV))/\RelV p.2 q.2.2
theorem KT.val {H:Hp} {kvs:List (List Key × V)} {xs:List (List Key × Addr × Value)} (r:KT H kvs xs) (k:List Key):RelO (valV kvs k) ((atKey xs k).map (·.2)):=by
 induction r with
 | nil=>exact True.intro
 | @cons p q ps qs h t ih=>
  obtain ⟨h1,_,h2⟩:=h
  by_cases e:p.1 = k
  ·have e':q.1 = k:=h1.symm.trans e
   have b:atKey (q :: qs) k = some q.2:=by simp [atKey,List.find?_cons,e']
   rw [valV_pos e,b]; exact h2
  ·have e':¬ q.1 = k:=fun z=>e (h1.trans z)
   have b:atKey (q :: qs) k = atKey qs k:=by simp [atKey,List.find?_cons,e']
   rw [valV_neg e,b]; exact ih
theorem KT.repl {H:Hp} {kvs:List (List Key × V)} {xs:List (List Key × Addr × Value)} (r:KT H kvs xs) (k:List Key) {y:V} {u:Value} (ry:RelV y u) :
  KT H (kvs.map fun kv=>if kv.1 = k then (kv.1,y) else kv) (xs.map (putAt k u)):=by
 induction r with
 | nil=>exact .nil
 | @cons p q ps qs h t ih=>
  rw [List.map_cons,List.map_cons]
  refine .cons ?_ ih
  obtain ⟨h1,h2,h3⟩:=h
  unfold putAt
  by_cases e:p.1 = k
  ·rw [if_pos e,if_pos (h1.symm.trans e)]; exact ⟨h1,h2,ry⟩
  ·rw [if_neg e,if_neg (fun z=>e (h1.trans z))]; exact ⟨h1,h2,h3⟩
theorem KT.put {H:Hp} {kvs:List (List Key × V)} {xs:List (List Key × Addr × Value)} (r:KT H kvs xs) (k:List Key) {b:Addr} {y:V} {u:Value} (hb:H b = some (.tup (k.map kV))) (ry:RelV y u) :
  KT H (putK kvs k y) (storedH xs k b u):=by
 have e:(kvs.any fun kv=>decide (kv.1 = k)) = (atKey xs k).isSome:=by
  rw [valV_any,(r.val k).isSome_eq,Option.isSome_map]
 unfold putK storedH
 rw [e]
 by_cases q:(atKey xs k).isSome = true
 ·rw [if_pos q,if_pos q]; exact r.repl k ry
 ·rw [if_neg q,if_neg q]; exact Paired.snoc r ⟨rfl,hb,ry⟩
theorem KT.keeps {H H':Hp} {kvs:List (List Key × V)} {xs:List (List Key × Addr × Value)} (r:KT H kvs xs) (ht:∀ b ys,H b = some (.tup ys)->H' b = some (.tup ys)):KT H' kvs xs:=
 Paired.mapP r fun _ _ z=>⟨z.1,ht _ _ z.2.1,z.2.2⟩
section
variable {P:Program} {w:World} {H:Hp} {h:Heap} {a:Addr}
theorem rd_of {u:HO} (ok:HOk P w H h) (e:Rd H a u):ObjOk P w H h a u:=e.ok ok
theorem dk_rd {kvs:List (Key × V)} (ok:HOk P w H h) (e:Rd H a (.dK kvs)):kvs.length<=sizeLine/\(a == sysModules) = false/\∃ vs,KV kvs vs/\h.DictOf (mixKind P w) a vs:=
 show ObjOk P w H h a (.dK kvs) from rd_of ok e
theorem dk_of {kvs:List (Key × V)} (ok:HOk P w H h) (e:H a = some (.dK kvs)):kvs.length<=sizeLine/\(a == sysModules) = false/\∃ vs,KV kvs vs/\h.DictOf (mixKind P w) a vs:=dk_rd ok (.inl e)
theorem key_of {ks:List Key} (ok:HOk P w H h) (e:H a = some (.tup (ks.map kV))):(tupleKind (mixKind P w)).is h ks a:=by
 obtain ⟨_,its,r,o,h1,h2,n,h3⟩:=(show ObjOk P w H h a (.tup (ks.map kV)) from ok a _ e)
 exact ⟨o,its.toArray,n,h1,h2,h3,by simpa using items_are r⟩
theorem dt_rd {kvs:List (List Key × V)} (ok:HOk P w H h) (e:Rd H a (.dT kvs)):kvs.length<=sizeLine/\(a == sysModules) = false/\
  ∃ xs,KT H kvs xs/\h.DictOfH (tupleKind (mixKind P w)) a xs:=by
 obtain ⟨z,y,xs,r,o,es,ep,h1,h2,h3,h4,h5⟩:=(show ObjOk P w H h a (.dT kvs) from rd_of ok e)
 refine ⟨z,y,xs,r,o,es,ep,h1,h2,h3,h4,fun x hx=>?_,h5⟩
 have all:∀ {l:List (List Key × V)} {m:List (List Key × Addr × Value)},KT H l m->∀ x ∈ m,(tupleKind (mixKind P w)).is h x.1 x.2.1:=by
  intro l m q
  induction q with
  | nil=>intro x hx; exact nomatch hx
  | @cons p q ps qs hq t ih=>
   intro x hx
   rcases List.mem_cons.mp hx with e | hx
   ·subst e
    exact key_of ok (by rw [<- hq.1]; exact hq.2.1)
   ·exact ih x hx
 exact all r x hx
theorem dt_of {kvs:List (List Key × V)} (ok:HOk P w H h) (e:H a = some (.dT kvs)):kvs.length<=sizeLine/\(a == sysModules) = false/\
  ∃ xs,KT H kvs xs/\h.DictOfH (tupleKind (mixKind P w)) a xs:=dt_rd ok (.inl e)
end
def DGet (H:Hp) (a:Addr) (y:V) (r:Option V):Prop:=
 (∃ kvs k,Rd H a (.dK kvs)/\y = kV k/\r = valV kvs k)\/∃ kvs k b,Rd H a (.dT kvs)/\y = .ref b/\H b = some (.tup (k.map kV))/\r = valV kvs k
def DPut (H:Hp) (a:Addr) (y v:V) (H':Hp):Prop:=
 (∃ kvs k,H a = some (.dK kvs)/\y = kV k/\kvs.length < sizeLine/\H' = upd H a (.dK (putK kvs k v)))\/
 ∃ kvs k b,H a = some (.dT kvs)/\y = .ref b/\H b = some (.tup (k.map kV))/\kvs.length < sizeLine/\H' = upd H a (.dT (putK kvs k v))
section
variable {X:Cx} {pins:List (Addr × Obj)} {σ : St} {H:Hp} {s:Shared} {a:Addr} {y v:V} {u r:Value} {o:Option V} {A:Around} {E:Value->Shared->Prop}
theorem Inv.big (I:Inv X pins σ H s):sysModules < s.heap.objs.size:=by
 have h:mainGlobals < s.heap.objs.size:=(I.mod.glob.keeps I.bk).lt
 exact Nat.lt_trans (by decide) h
theorem d_getItem {Q:Value->Shared->Prop} (hu:A.units + 1 < cLine) (I:Inv X pins σ H s) (g:DGet H a y (some v)) (ry:RelV y u) (h:∀ w' s',Inv X pins σ H s'->RelV v w'->Q w' s') :
  wpAny (model X.prog X.w) A (getItem (.ref a) u) Q E s:=by
 rcases g with ⟨kvs,k,e,ey,l⟩ | ⟨kvs,k,b,e,ey,eb,l⟩
 ·subst ey
  obtain ⟨z,hd,vs,rel,dd⟩:=dk_rd I.hok e
  obtain ⟨w',hw,rw'⟩:=RelO.some_of (v:=v) (o:=valueAt vs k) (by rw [l]; exact rel.val k)
  exact wpAny_getItem_of (kV_is ry) dd.mapOf hw (h w' _ (I.tok _) rw')
 ·subst ey
  cases (show u = Value.ref b from ry)
  obtain ⟨z,hd,xs,rel,dd⟩:=dt_rd I.hok e
  obtain ⟨w',hw,rw'⟩:=RelO.some_of (v:=v) (o:=(atKey xs k).map (·.2)) (by rw [l]; exact rel.val k)
  obtain ⟨p,hp,hp2⟩:=Option.map_eq_some_iff.mp hw
  refine wpAny_getItem_heap (tupleKind_room_in1 hu) (key_of I.hok eb) dd hp ?_
  rw [hp2]
  exact h w' _ (I.tok _) rw'
theorem d_in {Q:Value->Shared->Prop} (hu:A.units + 1 < cLine) (I:Inv X pins σ H s) (g:DGet H a y o) (ry:RelV y u) (h:∀ s',Inv X pins σ H s'->Q (.bool o.isSome) s') :
  wpAny (model X.prog X.w) A (compareOp .In u (.ref a)) Q E s:=by
 rcases g with ⟨kvs,k,e,ey,l⟩ | ⟨kvs,k,b,e,ey,eb,l⟩
 ·subst ey
  obtain ⟨z,hd,vs,rel,dd⟩:=dk_rd I.hok e
  refine wpAny_in_of (kV_is ry) hd dd.mapOf ?_
  rw [<- (rel.val k).isSome_eq,<- l]
  exact h _ (I.tok _)
 ·subst ey
  cases (show u = Value.ref b from ry)
  obtain ⟨z,hd,xs,rel,dd⟩:=dt_rd I.hok e
  refine wpAny_in_heap (tupleKind_room_in1 hu) (key_of I.hok eb) hd dd ?_
  have q:=(rel.val k).isSome_eq
  rw [Option.isSome_map] at q
  rw [<- q,<- l]
  exact h _ (I.tok _)
theorem d_notIn {Q:Value->Shared->Prop} (hu:A.units + 1 < cLine) (I:Inv X pins σ H s) (g:DGet H a y o) (ry:RelV y u) (h:∀ s',Inv X pins σ H s'->Q (.bool (!o.isSome)) s') :
  wpAny (model X.prog X.w) A (compareOp .NotIn u (.ref a)) Q E s:=by
 rcases g with ⟨kvs,k,e,ey,l⟩ | ⟨kvs,k,b,e,ey,eb,l⟩
 ·subst ey
  obtain ⟨z,hd,vs,rel,dd⟩:=dk_rd I.hok e
  refine wpAny_notIn_of (kV_is ry) hd dd.mapOf ?_
  rw [<- (rel.val k).isSome_eq,<- l]
  exact h _ (I.tok _)
 ·subst ey
  cases (show u = Value.ref b from ry)
  obtain ⟨z,hd,xs,rel,dd⟩:=dt_rd I.hok e
  refine wpAny_notIn_heap (tupleKind_room_in1 hu) (key_of I.hok eb) hd dd ?_
  have q:=(rel.val k).isSome_eq
  rw [Option.isSome_map] at q
  rw [<- q,<- l]
  exact h _ (I.tok _)
theorem d_write {h':Heap} {t':Nat} {ob:HO} (I:Inv X pins σ H s) (mu:Mut (H a)) (hs:Heap.SameBut a s.heap h') (he:∃ q,h'.get? a = some q) (new:ObjOk X.prog X.w (upd H a ob) h' a ob) :
  Inv X pins σ (upd H a ob) { s with heap:=h',toks:=t' }:=
 I.write (x:=a) (e:=a) mu (.inl rfl) (fun b q hb z=>(hs.2 b hb).trans z) he new
theorem dk_new {P:Program} {w:World} {H':Hp} {h':Heap} {kvs:List (Key × V)} {vs:List (Key × Value)} (z:kvs.length<=sizeLine) (hd:(a == sysModules) = false) (rel:KV kvs vs) (dd:h'.DictOf (mixKind P w) a vs) :
  ObjOk P w H' h' a (.dK kvs):=⟨z,hd,vs,rel,dd⟩
theorem d_setItem {H':Hp} {Q:Unit->Shared->Prop} (hu:A.units + 1 < cLine) (I:Inv X pins σ H s) (g:DPut H a y v H') (ry:RelV y u) (rv:RelV v r) (h:∀ s',Inv X pins σ H' s'->Q () s') :
  wpAny (model X.prog X.w) A (setItem (.ref a) u r) Q E s:=by
 rcases g with ⟨kvs,k,e,ey,l,eH⟩ | ⟨kvs,k,b,e,ey,eb,l,eH⟩
 ·subst ey eH
  obtain ⟨z,hd,vs,rel,dd⟩:=dk_of I.hok e
  have hz:vs.length<=sizeLine:=by rw [<- rel.length]; exact z
  have hl:(putK kvs k v).length<=sizeLine:=by have:=length_putK kvs k v; omega
  refine wpAny_setItem_pairs (hsz:=hz) (kV_is ry) dd fun h' dd' hs=>h _ ?_
  have he:∃ q,h'.get? a = some q:=let ⟨q,_,_,hq,_⟩:=dd'; ⟨q,hq⟩
  exact d_write I (by rw [e]; exact True.intro) hs he (dk_new hl hd (rel.put k rv) dd')
 ·subst ey eH
  cases (show u = Value.ref b from ry)
  obtain ⟨z,hd,xs,rel,dd⟩:=dt_of I.hok e
  have hz:xs.length<=sizeLine:=by rw [<- Paired.length rel]; exact z
  have hl:(putK kvs k v).length<=sizeLine:=by have:=length_putK kvs k v; omega
  refine wpAny_setItem_heap (hsz:=hz) (tupleKind_room_in1 hu) (key_of I.hok eb) dd fun h' dd' hs=>h _ ?_
  obtain ⟨q,es,ep,hq,h2,h3,h4,_,h5⟩:=dd'
  refine d_write I (by rw [e]; exact True.intro) hs ⟨q,hq⟩ ⟨hl,hd,_,(rel.put k eb rv).keeps fun c ys ec=>?_,q,es,ep,hq,h2,h3,h4,h5⟩
  rw [upd_ne (ne_of ec e (fun z=>nomatch z))]
  exact ec
end
section
variable {X:Cx} {pins:List (Addr × Obj)} {σ : St} {H:Hp} {s:Shared} {a:Addr} {kvs:List (Key × V)} {k:Key} {u:Value} {A:Around} {E:Value->Shared->Prop}
end
def NoSl (i:Expr):Prop:=∀ ov iv,subscripted i false ov iv = operate [ov,iv] (getItem ov iv)
theorem subD_of {prog:Program} {w:World} {A:Around} {E:Value->Shared->Prop} {s:Shared} {env:Env} {value slice:Expr} {pos:Pos} {T id:String} {Q:Value->Shared->Prop}
  (hl:typeLookup (.type T) "__getitem__" = pure (some (.builtin id))) (hs:NoSl slice)
  (h:wpAny (model prog w) A (eval value env) (fun o s₁=>wpAny (model prog w) A (eval slice env) (fun i s₂=>s₂.TypeIs o T/\wpAny (model prog w) A (getItem o i) Q E s₂) E s₁) E s) :
  wpAny (model prog w) A (eval (.Subscript value slice pos) env) Q E s:=by
 refine Subscript_ (wpAny_mono h (fun o s₁ h₁=>wpAny_mono h₁ (fun i s₂ h₂=>?_) fun _ _ x=>x) fun _ _ x=>x)
 obtain ⟨hT,h₂⟩:=h₂
 unfold subscriptTail
 refine wpAny_bind ?_
 rw [getitemInPython_of_ne hT.not_modules]
 refine wpAny_bind (wpAny_specialOf hT hl ?_)
 have fin:wpAny (model prog w) A (subscripted slice false o i) (fun r s₃=>wpAny (model prog w) A (letTemporaryGo value o r >>= fun _=>pure r) Q E s₃) E s₂:=by
  rw [hs o i]
  exact wpAny_operating (wpAny_mono h₂ (fun r s₃ h₃=>wpAny_bind (wpAny_letTemporaryGo (wpAny_pure h₃))) fun _ _ x=>x)
 first
  | exact wpAny_pure (wpAny_bind fin)
  | exact wpAny_bind (wpAny_pure (wpAny_bind fin))
  | exact wpAny_bind fin
theorem dict_typeIs {X:Cx} {pins:List (Addr × Obj)} {σ : St} {H:Hp} {s:Shared} {a:Addr} {y:V} {o:Option V} (I:Inv X pins σ H s) (g:DGet H a y o):s.TypeIs (.ref a) "dict":=by
 rcases g with ⟨kvs,k,e,_,_⟩ | ⟨kvs,k,b,e,_,_,_⟩
 ·obtain ⟨_,_,vs,_,dd⟩:=dk_rd I.hok e
  exact dd.typeIs
 ·obtain ⟨_,_,xs,_,dd⟩:=dt_rd I.hok e
  exact dd.typeIs
def tDGet (td ty:TE):TE:=fun σ H Q=>td σ H fun x H1=>ty σ H1 fun y H2=>∃ a v,x = .ref a/\DGet H2 a y (some v)/\Q v H2
def tDIn (ty td:TE):TE:=fun σ H Q=>ty σ H fun y H1=>td σ H1 fun x H2=>∃ a o,x = .ref a/\DGet H2 a y o/\Q (.bl o.isSome) H2
def tDNotIn (ty td:TE):TE:=fun σ H Q=>ty σ H fun y H1=>td σ H1 fun x H2=>∃ a o,x = .ref a/\DGet H2 a y o/\Q (.bl (!o.isSome)) H2
def sDPut (td ty tv:TE):TS:=fun D σ H=>tv σ H fun v H1=>td σ H1 fun x H2=>ty σ H2 fun y H3=>∃ a H4,x = .ref a/\DPut H3 a y v H4/\D.nx σ H4
section
variable {X:Cx} {o i e value:Expr} {pos pos' tpos:Pos} {td ty tv:TE}
theorem pe_dget (hu:X.A.units + 1 < cLine) (ho:PE X o td) (hi:PE X i ty) (hs:NoSl i):PE X (.Subscript o i pos) (tDGet td ty):=by
 refine ⟨?_⟩
 intro pins s σ H Q I h
 refine subD_of PySem.F.slot_dict_getitem.lookup hs (thn (ho pins s σ H _ I h) fun u s1 ⟨x,H1,I1,rx,q1⟩=>thn (hi pins s1 σ H1 _ I1 q1) fun iv s2 ⟨y,H2,I2,ry,a,v,ex,g,q2⟩=>?_)
 subst ex
 obtain rfl:u = Value.ref a:=rx
 exact ⟨dict_typeIs I2 g,d_getItem hu I2 g ry fun w' s3 I3 rw'=>⟨v,H2,I3,rw',q2⟩⟩
theorem pc_din (hu:X.A.units + 1 < cLine) (hi:PE X i ty) (ho:PE X o td):PC X .In i o (tDIn ty td):=by
 refine ⟨?_⟩
 intro pins s σ H Q I h
 refine thn (hi pins s σ H _ I h) fun iv s1 ⟨y,H1,I1,ry,q1⟩=>thn (ho pins s1 σ H1 _ I1 q1) fun u s2 ⟨x,H2,I2,rx,a,ov,ex,g,q2⟩=>?_
 subst ex
 obtain rfl:u = Value.ref a:=rx
 exact d_in hu I2 g ry fun s3 I3=>⟨.bl ov.isSome,H2,I3,rfl,q2⟩
theorem pc_dnotin (hu:X.A.units + 1 < cLine) (hi:PE X i ty) (ho:PE X o td):PC X .NotIn i o (tDNotIn ty td):=by
 refine ⟨?_⟩
 intro pins s σ H Q I h
 refine thn (hi pins s σ H _ I h) fun iv s1 ⟨y,H1,I1,ry,q1⟩=>thn (ho pins s1 σ H1 _ I1 q1) fun u s2 ⟨x,H2,I2,rx,a,ov,ex,g,q2⟩=>?_
 subst ex
 obtain rfl:u = Value.ref a:=rx
 exact d_notIn hu I2 g ry fun s3 I3=>⟨.bl (!ov.isSome),H2,I3,rfl,q2⟩
theorem ps_dput (hu:X.A.units + 1 < cLine) (ho:PE X o td) (hi:PE X i ty) (hv:PE X value tv) (hs:swapsWith value (some (.Subscript o i pos')) pos.line X.env = pure false) :
  PS X (.Assign [.Subscript o i pos'] value pos) (sDPut td ty tv):=by
 refine ⟨?_⟩
 intro pins s σ H D I h
 refine wpAny_Assign_Subscript (thn (hv pins s σ H _ I h) fun r s1 ⟨v,H1,I1,rv,q1⟩=>thn (ho pins s1 σ H1 _ I1 q1) fun u s2 ⟨x,H2,I2,rx,q2⟩=>thn (hi pins s2 σ H2 _ I2 q2) fun iv s3 ⟨y,H3,I3,ry,a,H4,ex,g,q3⟩=>?_) hs
 subst ex
 obtain rfl:u = Value.ref a:=rx
 exact d_setItem hu I3 g ry rv fun s4 I4=>⟨σ,H4,I4,q3⟩
end
theorem dk_empty {P:Program} {w:World} {H:Hp} (h:Heap) (hb:sysModules < h.objs.size):ObjOk P w H (h.push { cls:=.type "dict",data:=.dict #[] }) h.objs.size (.dK []):=
 ⟨Nat.zero_le _,beq_eq_false_iff_ne.mpr (Ne.symm (Nat.ne_of_lt hb)),[],.nil,Heap.DictOf.new h⟩
def tDNewK:TE:=fun _ H Q=>∀ p,H p = none->Q (.ref p) (upd H p (.dK []))
section
variable {X:Cx} {pos:Pos}
theorem pe_dnewK:PE X (.Dict [] [] pos) tDNewK:=⟨fun pins s σ H Q I h=>
 wpAny_Dict_empty ⟨.ref s.heap.objs.size,_,I.laid (a:=s.heap.objs.size) (o:=.dK []) (t':=s.toks) (fun _ _ q=>Heap.get?_push_of_some _ q) (Nat.le_refl _) (dk_empty s.heap I.big),rfl,h _ (I.hok.fresh (Nat.le_refl _))⟩⟩
end
def tPairs:List (TE × TE)->St->Hp->(List (V × V)->Hp->Prop)->Prop
 | [],_,H,Q=>Q [] H
 | (tk,tv) :: r,σ,H,Q=>tk σ H fun x H1=>tv σ H1 fun y H2=>tPairs r σ H2 fun ps H3=>Q ((x,y) :: ps) H3
structure M1 (X:Cx) (o:Expr) (m:Str) (apos:Pos) (e:Expr) (cpos:Pos):Prop where
 base:attributeBase o m X.env (eval o X.env) = eval o X.env
 few:((backTo cpos (starEach [e] X.env)).all (fun x=>!x.1) && (backToKw cpos (keywordEach [] X.env)).all (fun x=>x.1.isSome)
  && decide (([e]:List Expr).length + ([]:List Keyword).length + (if ([]:List Keyword).isEmpty then 0 else 1) < 30)) = true
 line:(apos.endLine == cpos.line) = true
 trees:backTo cpos (starEach [e] X.env) = [(false,eval e X.env)]
def IsD (H:Hp) (a:Addr):Prop:=(∃ kvs,Rd H a (.dK kvs))\/∃ kvs,Rd H a (.dT kvs)
theorem isD_at {X:Cx} {pins:List (Addr × Obj)} {σ : St} {H:Hp} {s:Shared} {a:Addr} (I:Inv X pins σ H s) (d:IsD H a) :
  s.TypeIs (.ref a) "dict"/\(∀ b,Value.ref a = .ref b->∃ ob,s.heap.get? b = some ob/\ob.dict = none)/\(a == sysModules) = false:=by
 rcases d with ⟨kvs,e⟩ | ⟨kvs,e⟩
 ·obtain ⟨_,hd,vs,_,dd⟩:=dk_rd I.hok e
  refine ⟨dd.typeIs,fun b q=>?_,hd⟩
  cases q
  obtain ⟨ob,_,_,h1,h2,_⟩:=dd
  exact ⟨ob,h1,h2.2.1⟩
 ·obtain ⟨_,hd,xs,_,dd⟩:=dt_rd I.hok e
  refine ⟨dd.typeIs,fun b q=>?_,hd⟩
  cases q
  obtain ⟨ob,_,_,h1,h2,_⟩:=dd
  exact ⟨ob,h1,h2.2.1⟩
section
variable {X:Cx} {pins:List (Addr × Obj)} {σ : St} {H:Hp} {s:Shared} {a:Addr} {y d:V} {u r:Value} {o:Option V} {A:Around} {E:Value->Shared->Prop}
theorem d_get1 {Q:Value->Shared->Prop} (hu:A.units + 1 < cLine) (I:Inv X pins σ H s) (g:DGet H a y o) (ry:RelV y u) (h:∀ w' s',Inv X pins σ H s'->RelV (o.getD .non) w'->Q w' s') :
  wpAny (model X.prog X.w) A (call (.builtin "dict.get") [.ref a,u]) Q E s:=by
 rcases g with ⟨kvs,k,e,ey,l⟩ | ⟨kvs,k,b,e,ey,eb,l⟩
 ·subst ey
  obtain ⟨z,hd,vs,rel,dd⟩:=dk_rd I.hok e
  refine call_meetsIn PySem.F.slot_dict_get dd.typeIs PySem.F.entry_dict_get (PySem.F.args_dict_get_2 _ _) (meets_dict_get (mixKind X.prog X.w) a (kV_is ry) hd) ⟨_,dd.mapOf,h _ _ (I.tok _) ?_⟩
  rw [l]
  exact (rel.val k).getD rfl
 ·subst ey
  cases (show u = Value.ref b from ry)
  obtain ⟨z,hd,xs,rel,dd⟩:=dt_rd I.hok e
  refine call_meetsIn PySem.F.slot_dict_get dd.typeIs PySem.F.entry_dict_get (PySem.F.args_dict_get_2 _ _) (meetsH_dict_get (tupleKind (mixKind X.prog X.w)) a b hd) ⟨tupleKind_room_in1 hu,k,xs,key_of I.hok eb,dd,h _ _ (I.tok _) ?_⟩
  rw [l]
  exact (rel.val k).getD rfl
end
def tDGet1 (td ty:TE):TE:=fun σ H Q=>td σ H fun x H1=>∃ a,x = .ref a/\IsD H1 a/\ty σ H1 fun y H2=>∃ o,DGet H2 a y o/\Q (o.getD .non) H2
section
variable {X:Cx} {o e f:Expr} {apos cpos:Pos} {td ty tx:TE}
theorem pe_dget1 (hu:X.A.units + 1 < cLine) (ho:PE X o td) (he:PE X e ty) (m:M1 X o "get" apos e cpos):PE X (.Call (.Attribute o "get" apos) [e] [] cpos) (tDGet1 td ty):=by
 refine ⟨?_⟩
 intro pins s σ H Q I h
 refine wpAny_Call_method m.base m.few m.line PySem.F.plainAttrs_dict PySem.F.slot_dict_get PySem.F.type_dict_get (thn (ho pins s σ H _ I h) fun u s1 ⟨x,H1,I1,rx,a,ex,d,q1⟩=>?_)
 subst ex
 obtain rfl:u = Value.ref a:=rx
 obtain ⟨t1,t2,_⟩:=isD_at I1 d
 refine ⟨t1,t2,?_⟩
 rw [m.trees]
 refine Calls.callWith_builtin rfl (Calls.evalArgs_plain (Calls.spliced_cons (thn (he pins s1 σ H1 _ I1 q1) fun iv s2 ⟨y,H2,I2,ry,ov,g,q2⟩=>Calls.spliced_nil ?_)))
 exact d_get1 hu I2 g ry fun w' s3 I3 rw'=>⟨_,H2,I3,rw',q2⟩
end
section
variable {X:Cx} {pins:List (Addr × Obj)} {σ : St} {H:Hp} {s:Shared} {a:Addr} {kvs:List (Key × V)} {A:Around} {E:Value->Shared->Prop}
end
section
variable {X:Cx} {pins:List (Addr × Obj)} {σ : St} {H:Hp} {s:Shared} {a:Addr} {y:V} {u:Value} {A:Around} {E:Value->Shared->Prop}
end
end L2
namespace Att
open PySem PySem.W PySem.Calls PyProof.Rows
theorem ints_of_wellAll {P:Params} {h:Heap}:∀ (ns:List Int) (vs:List Value),WellAll P h vs (ns.map WData.int)->IntsAre vs ns:=by
 intro ns
 induction ns with
 | nil=>
  intro vs w
  rw [List.map_nil] at w
  cases w
  exact .nil
 | cons n ns ih=>
  intro vs w
  rw [List.map_cons] at w
  cases w with
  | cons a b=>
   cases a
   exact .cons _ _ (ih _ b)
theorem script_of {l:OpenLaw} {n:Nat} (hn:l.most = some n) {P:Params} {h:Heap} {args:List WData} {vals:List Value}
  (hpre:l.row.toRowW.claim.pre args = true) (hwl:WellAll P h vals args) :
  ∃ a vs ns,vals = [Value.ref a]/\args = [WData.list (ns.map WData.int)]/\h.get? a = some { cls:=.type "list",data:=.seq vs.toArray }/\IntsAre vs ns/\ns.length<=n:=by
 have hsh:WShape.hasAll [] args [.list .int] = true:=(pre_splitW hpre).1
 have hc:l.pre.holds [] { args:=args } = true:=(pre_splitW hpre).2
 obtain ⟨d,r,rfl,h1,h2⟩:=hasAllW_cons hsh
 obtain rfl:=hasAllW_nil h2
 obtain ⟨xs,rfl,h3⟩:=hasW_list h1
 obtain ⟨ns,rfl⟩:=items_int h3
 have hlen:ns.length<=n:=by
  unfold OpenLaw.pre at hc
  have h4:(WTm.not (.lt (.lit (.int (n:Int))) (.len (.arg 0)))).holds [] { args:=[.list (ns.map .int)] } = true:=by
   have h4:=(holds_andW hc).1
   rw [hn] at h4
   exact h4
  have h5:=condW_of h4 (w_not (w_lt w_lit (w_len_list (w_arg rfl))))
  rw [List.length_map] at h5
  refine Nat.le_of_not_lt fun q=>?_
  have q':(n:Int) < ((ns.length:Nat):Int):=by omega
  first
   | (rw [decide_eq_true q'] at h5; exact absurd h5 (by decide))
   | (simp at h5; omega)
 cases hwl with
 | cons w1 w2=>
  cases w2
  cases w1 with
  | list ho hall=>exact ⟨_,_,ns,rfl,rfl,ho,ints_of_wellAll ns _ hall,hlen⟩
theorem post_true (l:OpenLaw) (args:List WData):l.row.toRowW.claim.post args (.bool true) args = true:=
 postW_of (r:=l.row.toRowW) (X:=(true == true))
  (show WShape.has [] (.bool true) .bool = true by first | rfl | decide | simp [WShape.has,WShape.arms,WShape.armsAll])
  (show (WTm.eq .res (.lit (.bool true))).value [] { args:=args,res:=some (.bool true),after:=args } = some (.bool (true == true)) from w_eq_bool (w_res rfl) w_lit) rfl
theorem attach_call {l:OpenLaw} {n:Nat} {q:Program} {loose:List Str} {XP:(Str->Option Value)->Heap->Prop} {YP:World->Heap->Prop} {d:DefRec}
  (hn:l.most = some n) (hdf:d.params.defaults = [])
  (call:∀ (w:World) (s₀ s₁:Shared) (mg mb:Str->Option Value) (fa:Addr) (o:Obj) (pm cd doc:Value) (a:Addr) (vs:List Value) (ns:List Int),
   Ground q loose [] XP w s₀ mg mb s₁.heap->YP w s₁.heap->
   s₁.heap.get? fa = some o->o.data = .func (docDef d.name d.params d.body d.scope pm cd doc)->s₁.heap.CodeRec cd d.name->mg d.name = some (.ref fa)->
   s₁.heap.get? a = some { cls:=.type "list",data:=.seq vs.toArray }->IntsAre vs ns->ns.length<=n->s₁.gens = #[]->
   codeAny (model l.prog w) callerA (.call (.ref fa) ⟨[.ref a],[]⟩) (fun r s'=>r = .ok (.ret (.bool true))/\OldK s₁.heap s'.heap/\s'.os = s₁.os/\AllBare s'.gens) s₁) :
  WalkO q loose XP YP l.row.toRowW d [] (fun f vs=>PySem.call f vs):=by
 intro w s₀ s₁ mg mb G Y fa o pm cd doc dV kV ho hd hcd hD hmg hg args vals as hpre hlay hrd hwl hlo
 obtain rfl:dV = .none:=Dflts.none hD hdf
 obtain rfl:kV = .none:=Dflts.noKw hD
 obtain ⟨a,vs,ns,rfl,rfl,hobj,hints,hlen⟩:=script_of hn hpre hwl
 refine enter_call (codeAny_mono (call w s₀ s₁ mg mb fa o pm cd doc a vs ns G Y ho (fd_plain hd) hcd hmg hobj hints hlen hg) fun r s' hq=>?_)
 obtain ⟨rfl,h2,h3,h4⟩:=hq
 exact ⟨.inl ⟨.bool true,.bool true,[],rfl,fun _=>rfl,.bool true,post_true l _,fun _=>⟨List.Pairwise.nil,fun _ hm=>(nomatch hm)⟩⟩,h2,h3,h4⟩
section
variable {prog:Program} {w:World} {A:Around} {E:Value->Shared->Prop} {s:Shared} {K:Frag}
def ledger (h:Heap) (L d:Addr):List (Addr × Obj):=(List.range h.objs.size).filterMap fun a=>if a = L\/a = d then none else (h.get? a).map fun o=>(a,o)
end
end Att
namespace L2
open PySem PySem.Spec PyProof.Rows
theorem vals_ints:∀ {vs:List Value} {ns:List Int},IntsAre vs ns->Vals (ns.map V.int) vs
 | _,_,.nil=>.nil
 | _,_,.cons n t h=>.cons ⟨t,rfl⟩ (vals_ints h)
def Only (H:Hp):Prop:=∀ b,H b = none\/∃ o xs,H b = some (.frz o (.lst xs))
theorem law_call {P:Program} {w:World} {K:Frag} {mg mb:Str->Option Value} {CX:CXT} {k:Nat} {fa a:Addr} {fd:FuncData} {x:Str} {sp:Sp} {s₁:Shared} {vs:List Value} {ns:List Int}
  (KX:K.In s₁.heap) (hns:s₁.heap.Ns mainGlobals mg) (hb:s₁.heap.Ns builtinsNs mb) (hbb:∀ x:Str,x ≠ "__name__"->mb x = bootBuiltins x) (hlim:s₁.heap.NoLimit) (hg:s₁.gens = #[])
  (ha:s₁.heap.get? a = some { cls:=.type "list",data:=.seq vs.toArray }) (hi:IntsAre vs ns) (hl:ns.length<=sizeLine) (hr:Room k callerA)
  (F:∀ base:Heap,K.In base->base.Ns mainGlobals mg->FnOk P w K mg base CX k fa fd [x] sp) (hbind:∀ (s:Shared) (u:Value),BindsTo s fd ⟨[u],[]⟩ [(x,u)])
  (hsp:∀ H:Hp,Only H->SqL K H a (ns.map V.int)->sp [.ref a] H (fun v _=>v = .bl true) fun _ _ _=>False)
  (hCX:∀ H e s',CX [] H s₁ (fun _ _ _=>False) e s'->False) :
  codeAny (model P w) callerA (.call (.ref fa) ⟨[.ref a],[]⟩) (fun r s'=>r = .ok (.ret (.bool true))/\OldK s₁.heap s'.heap/\s'.os = s₁.os/\AllBare s'.gens) s₁:=by
 have rv:=vals_ints hi
 have lenV:=hi.length
 have core:∀ H:Hp,Only H->SqL K H a (ns.map V.int)->HOk P w H s₁.heap->(∀ b,H b ≠ none->b = a)->(H a ≠ none->K.lookup a = none)->
   codeAny (model P w) callerA (.call (.ref fa) ⟨[.ref a],[]⟩) (fun r s'=>r = .ok (.ret (.bool true))/\OldK s₁.heap s'.heap/\s'.os = s₁.os/\AllBare s'.gens) s₁:=by
  intro H hO hS hok hA hK
  have base_of:∀ {b:Addr} {o:Obj},s₁.heap.get? b = some o->H b = none->(hidT s₁.heap H).get? b = some o:=fun e n=>hidT_get e n
  have noA:∀ {b:Addr} {o:Obj} {es:Array DictEntry} {ep:Nat},s₁.heap.get? b = some o->o.data = .dict es ep->H b = none:=fun {b o es ep} e d=>by
   cases q:H b with
   | none=>rfl
   | some u=>
    have e':b = a:=hA b (by rw [q]; simp)
    subst e'
    rw [ha] at e; cases e
    have d':Data.seq vs.toArray _ = Data.dict es ep:=d
    cases d'
  have nsK:∀ {b:Addr} {m:Str->Option Value},s₁.heap.Ns b m->(hidT s₁.heap H).Ns b m:=fun {b m} ⟨o,es,ep,e,d,r⟩=>⟨o,es,ep,base_of e (noA e d),d,r⟩
  have hKb:K.In (hidT s₁.heap H):=fun b o e=>base_of (KX b o e) (by
   cases q:H b with
   | none=>rfl
   | some u=>
    have e':b = a:=hA b (by rw [q]; simp)
    subst e'
    rw [hK (by rw [q]; simp)] at e; cases e)
  have hM:Mod K mg (hidT s₁.heap H):=⟨hKb,nsK hns,⟨mb,nsK hb,hbb⟩,let ⟨mc,h1,h2⟩:=hlim; ⟨mc,nsK h1,h2⟩⟩
  have e0:Env0 P w K mg (hidT s₁.heap H) callerA [] s₁ H:=⟨rfl,hM,fun b o e=>of_hidT e,Nat.le_of_eq (hidT_size _ _),trivial,fun b hb=>absurd (show b ∈ ([]:List Addr) from hb) (by simp),hok,.of_eq hg⟩
  refine codeAny_mono ((F _ hKb (nsK hns)).run callerA [] s₁ H ⟨[.ref a],[]⟩ [.ref a] [.ref a] _ _ hr e0 (hbind s₁ (.ref a)) (.cons rfl .nil) (hsp H hO hS)) fun r s' h=>?_
  cases r with
  | error e=>exact (hCX H e s' h).elim
  | ok fl=>
   cases fl with
   | next=>exact False.elim h
   | brk=>exact False.elim h
   | cont=>exact False.elim h
   | ret u=>
    obtain ⟨v,H',os,bare,un,hok',r',q⟩:=h
    have q':v = .bl true:=q
    subst q'
    obtain rfl:u = Value.bool true:=r'
    refine ⟨rfl,OldK.of_keep fun b o e=>?_,os,bare⟩
    cases q:H b with
    | none=>exact un.keep b o e q (by intro z; exact absurd (show b ∈ ([]:List Addr) from z) (by simp)) (by simp)
    | some u=>
     rcases hO b with z | ⟨ob,xs,z⟩
     ·rw [q] at z; cases z
     ·have z2:=un.frzs b ob _ z
      obtain ⟨e1,_⟩:=hok b _ z
      obtain ⟨e2,_⟩:=hok' b _ z2
      rw [e] at e1; cases e1
      exact e2
 cases hk:K.lookup a with
 | some o=>
  have e:=KX a o hk
  rw [ha] at e
  cases e
  refine core (fun _=>none) (fun _=>.inl rfl) (.inr ⟨_,vs.toArray,_,hk,rfl,rfl,rfl,by rw [List.size_toArray,lenV]; exact hl,by simpa using rv⟩) (fun b u z=>by have z':(none:Option HO) = some u:=z; cases z') (fun b z=>absurd rfl z) fun z=>absurd rfl z
 | none=>
  refine core (fun b=>if b = a then some (.frz { cls:=.type "list",data:=.seq vs.toArray } (.lst (ns.map V.int))) else none) (fun b=>?_) (.inl (.inr ⟨{ cls:=.type "list",data:=.seq vs.toArray },if_pos rfl⟩)) (fun b u z=>?_) (fun b z=>?_) fun _=>hk
  ·by_cases hb:b = a
   ·exact .inr ⟨_,_,if_pos hb⟩
   ·exact .inl (if_neg hb)
  ·by_cases hb:b = a
   ·have z':=(if_pos hb).symm.trans z
    cases z'
    subst hb
    exact ⟨ha,by rw [List.length_map]; exact hl,vs,_,rv,ha⟩
   ·have z':=(if_neg hb).symm.trans z
    cases z'
  ·by_cases hb:b = a
   ·exact hb
   ·exact absurd (if_neg hb) z
theorem walk_of {l:PySem.W.OpenLaw} {n k:Nat} {q:Program} {loose:List Str} {XP:(Str->Option Value)->Heap->Prop} {YP:World->Heap->Prop} {d:DefRec} {K:Params->Frag} {CX:World->CXT} {sp:World->Sp} {x:Str}
  (hn:l.most = some n) (hn2:n<=sizeLine) (hdf:d.params.defaults = []) (hr:Room k callerA)
  (hY:∀ (w:World) (h:Heap),YP w h->(K w.params).In h)
  (F:∀ (w:World) (mg:Str->Option Value) (fa:Addr) (h:Heap),(K w.params).In h->h.Ns mainGlobals mg->mg d.name = some (.ref fa)->
   ∃ fd:FuncData,(∀ (s:Shared) (u:Value),BindsTo s fd ⟨[u],[]⟩ [(x,u)])/\
    ∀ base:Heap,(K w.params).In base->base.Ns mainGlobals mg->FnOk l.prog w (K w.params) mg base (CX w) k fa fd [x] (sp w))
  (hsp:∀ (w:World) (H:Hp) (a:Addr) (ns:List Int),ns.length<=n->Only H->SqL (K w.params) H a (ns.map V.int)->sp w [.ref a] H (fun v _=>v = .bl true) fun _ _ _=>False)
  (hCX:∀ (w:World) (H:Hp) (s:Shared) (e:Value) (s':Shared),CX w [] H s (fun _ _ _=>False) e s'->False) :
  PySem.W.WalkO q loose XP YP l.row.toRowW d [] (fun f vs=>PySem.call f vs):=by
 refine Att.attach_call hn hdf fun w s₀ s₁ mg mb fa o pm cd doc a vs ns G Y ho hd hcd hmg hobj hints hlen hg=>?_
 have KX:=hY w _ Y
 obtain ⟨fd,hb,hF⟩:=F w mg fa _ KX G.T.g hmg
 exact law_call KX G.T.g G.T.b G.T.builtins G.T.nolimit hg hobj hints (Nat.le_trans hlen hn2) hr hF hb (fun H hO hS=>hsp w H a ns hlen hO hS) fun H e s'=>hCX w H s₁ e s'
def inClass (s:Stmt) (j:Nat):Stmt:=match s with
 | .ClassDef _ _ _ body _ _ _ _ _ _ _=>body.getD j (.Pass ⟨0,0,0,0⟩)
 | _=>.Pass ⟨0,0,0,0⟩
def defArgs (s:Stmt):Arguments:=match s with
 | .FunctionDef _ a _ _ _ _ _ _ _ _=>a
 | _=>{ posonlyargs:=[],args:=[],vararg:=none,kwonlyargs:=[],kw_defaults:=[],kwarg:=none,defaults:=[] }
def defBody (s:Stmt):List Stmt:=match s with
 | .FunctionDef _ _ b _ _ _ _ _ _ _=>b
 | _=>[]
def defScope (s:Stmt):Scope:=match s with
 | .FunctionDef _ _ _ _ _ _ sc _ _ _=>sc
 | _=>{ kind:=.function,names:=[],isGenerator:=false,isCoroutine:=false }
abbrev CX0:CXT:=fun _ _ _ _ _ _=>False
abbrev E0:XK:=fun _ _ _=>False
theorem pass0 {X:Cx}:Passes CX0 X E0:=fun _ _ _ _ _ _ _ h=>h.elim
structure Fun (K:Frag) (x qual:Str) (st:Stmt) (f:Addr) (fd:FuncData):Prop where
 ex:∃ (oc:Value) (od:Option Addr) (kV doc pm:Value) (an:Option Addr) (cdv ct:Value) (osl:Array (Option Value)),
  fd = fnOf x qual (defArgs st) (defBody st) (defScope st) .none kV doc pm an cdv ct/\K.lookup f = some ⟨oc,od,.func fd,osl⟩/\codeIn K cdv qual = true
 kp:keepIn K (.ref f) = true
section
variable {P:Program} {w:World} {K:Frag} {mg:Str->Option Value} {base:Heap}
theorem Fun.ok {x qual:Str} {st:Stmt} {f:Addr} {fd:FuncData} {N ps:List Str} {k:Nat} {sp:Sp} (F:Fun K x qual st f fd) (S:FnScope N ps (defScope st)) (len:∀ vs H Q E,sp vs H Q E->vs.length = ps.length)
  (hbody:∀ (cdv:Value) (A:Around) (outer:List Env) (s:Shared) (H:Hp) (vs:List V) (Q:VK) (E:XK),Room k (A.deeper (envOfC qual (defScope st) s.heap.objs.size f cdv))->sp vs H Q E->
   ∃ t,PSs (cxOf CX0 P w K mg base N qual (defScope st) f cdv A outer s H E).nox (defBody st) t/\t { nx:=fun _ H'=>Q .non H',rt:=Q } (start N vs) H):FnOk P w K mg base CX0 (k + 1) f fd ps sp:=by
 obtain ⟨oc,od,kV,doc,pm,an,cdv,ct,osl,rfl,lk,hcd⟩:=F.ex
 refine fn_of lk hcd S len fun A outer s H vs Q E hr hsp=>?_
 obtain ⟨t,h,q⟩:=hbody cdv A outer s H vs Q E hr hsp
 exact ⟨t,h.nox,q⟩
theorem Fun.binds {x qual:Str} {st:Stmt} {f:Addr} {fd:FuncData} {ps:List Str} (F:Fun K x qual st f fd)
  (h:∀ (kV doc pm:Value) (an:Option Addr) (cdv ct:Value) (us:List Value),us.length = ps.length->bindArgs (fnOf x qual (defArgs st) (defBody st) (defScope st) .none kV doc pm an cdv ct) ⟨us,[]⟩ = pure (ps.zip us)):Binds K fd ps []:=by
 obtain ⟨oc,od,kV,doc,pm,an,cdv,ct,osl,rfl,lk,hcd⟩:=F.ex
 exact .all (h kV doc pm an cdv ct)
theorem fun_mk {x qual:Str} {st:Stmt} {f:Addr} {oc:Value} {od an:Option Addr} {osl:Array (Option Value)} {kV doc pm cdv ct:Value} (l:K.lookup f = some ⟨oc,od,.func (fnOf x qual (defArgs st) (defBody st) (defScope st) .none kV doc pm an cdv ct),osl⟩)
  (c:codeIn K cdv qual = true) (k:keepIn K (.ref f) = true):Fun K x qual st f (fnOf x qual (defArgs st) (defBody st) (defScope st) .none kV doc pm an cdv ct):=⟨⟨oc,od,kV,doc,pm,an,cdv,ct,osl,rfl,l,c⟩,k⟩
end
theorem hu_of {A:Around} {k:Nat} (hr:Room k A):A.units + 1 < cLine:=Nat.lt_of_le_of_lt (Nat.add_le_add_left (by decide : 1<=64) _) hr.units
theorem small1000 {n:Nat} (h:n<=1000):n < sizeLine:=Nat.lt_of_le_of_lt h (by decide)
section
variable {X:Cx}
theorem pv (i:Nat) {x:Str} {pos:Pos} (hN:X.N[i]? = some x:=by rfl) (hv:Vis X.env.scope x:=by first | exact Or.inl rfl | exact Or.inr (Or.inl rfl) | exact Or.inr (Or.inr rfl)) (hd:(x == ("__debug__" : Str)) = false:=by decide)
  (hcd:(x == ("__classdict__" : Str)) = false:=by decide):PE X (.Name x pos) (tVar i):=pe_var hN hv hd hcd
end
theorem iteF {A B:Prop} (h:B):if false = true then A else B:=by
 rw [if_neg Bool.false_ne_true]
 exact h
theorem iteT {A B:Prop} (h:A):if true = true then A else B:=by
 rw [if_pos rfl]
 exact h
theorem ite2 {c A B:Prop} [Decidable c] (h1:c->A) (h2:¬ c->B):if c then A else B:=by
 by_cases h:c
 ·rw [if_pos h]
  exact h1 h
 ·rw [if_neg h]
  exact h2 h
theorem iteNS {c A B:Prop} [Decidable c] (hc:c) (h:B):if (!decide c) = true then A else B:=by
 rw [decide_eq_true hc]
 exact iteF h
def Same (H H':Hp):Prop:=∀ b o,H b = some o->H' b = some o
theorem Same.refl (H:Hp):Same H H:=fun _ _ h=>h
theorem Same.trans {H H1 H2:Hp} (a:Same H H1) (b:Same H1 H2):Same H H2:=fun c o h=>b c o (a c o h)
theorem Same.free {H H':Hp} (e:Same H H') {l:Addr} (h:H' l = Option.none):H l = Option.none:=by
 cases q:H l with
 | none=>rfl
 | some o=>
  rw [e l o q] at h
  cases h
theorem Same.seq {K:Frag} {H H':Hp} {a:Addr} {xs:List V} (e:Same H H') (h:SqL K H a xs):SqL K H' a xs:=by
 rcases h with (h | ⟨o,h⟩) | h
 ·exact .inl (.inl (e _ _ h))
 ·exact .inl (.inr ⟨o,e _ _ h⟩)
 ·exact .inr h
section
variable {X:Cx}
end
section
variable {κ : Type} [DecidableEq κ]
end
def clB (env:Env) (fr:List Str):List (Str × Addr):=fr.map fun n=>(n,(env.cells.lookup n).getD 0)
theorem clB_look {env:Env}:∀ {fr:List Str} {x:Str} {c:Addr},(clB env fr).lookup x = some c->x ∈ fr/\c = (env.cells.lookup x).getD 0
 | [],x,c,h=>by simp [clB] at h
 | n :: r,x,c,h=>by
  have h':List.lookup x ((n,(env.cells.lookup n).getD 0) :: clB env r) = some c:=h
  rw [List.lookup_cons] at h'
  cases e:x == n with
  | true=>
   rw [e] at h'
   have e':x = n:=by simpa using e
   subst e'
   exact ⟨List.mem_cons_self,(Option.some.inj h').symm⟩
  | false=>
   rw [e] at h'
   obtain ⟨h1,h2⟩:=clB_look h'
   exact ⟨List.mem_cons_of_mem _ h1,h2⟩
theorem clB_in {env:Env}:∀ {fr:List Str} {x:Str},x ∈ fr->(clB env fr).lookup x = some ((env.cells.lookup x).getD 0)
 | n :: r,x,h=>by
  show List.lookup x ((n,(env.cells.lookup n).getD 0) :: clB env r) = _
  rw [List.lookup_cons]
  cases e:x == n with
  | true=>
   have e':x = n:=by simpa using e
   subst e'
   rfl
  | false=>
   rcases List.mem_cons.mp h with z | z
   ·subst z; simp at e
   ·exact clB_in z
theorem relabel_mem {env:Env}:∀ {names:List (Str × NameKind)} {x:Str} {k:NameKind},
  (names.map fun (n,k)=>if (k == NameKind.free && env.scope.kind == .function && env.kindOf n == some .cell) then (n,NameKind.cell) else (n,k)).lookup x = some k->
  ∃ k0,(x,k0) ∈ names/\(k = k0\/(k0 = .free/\k = .cell))
 | [],_,_,h=>by simp at h
 | (n,k0) :: r,x,k,h=>by
  have h':List.lookup x ((if (k0 == NameKind.free && env.scope.kind == .function && env.kindOf n == some .cell) = true then (n,NameKind.cell) else (n,k0)) ::
   (r.map fun (n,k)=>if (k == NameKind.free && env.scope.kind == .function && env.kindOf n == some .cell) then (n,NameKind.cell) else (n,k))) = some k:=h
  by_cases hc:(k0 == NameKind.free && env.scope.kind == .function && env.kindOf n == some .cell) = true
  ·rw [if_pos hc,List.lookup_cons] at h'
   cases e:x == n with
   | true=>
    rw [e] at h'
    have e':x = n:=by simpa using e
    subst e'
    simp only [Bool.and_eq_true] at hc
    exact ⟨k0,List.mem_cons_self,.inr ⟨by simpa using hc.1.1,(Option.some.inj h').symm⟩⟩
   | false=>
    rw [e] at h'
    obtain ⟨k1,h1,h2⟩:=relabel_mem h'
    exact ⟨k1,List.mem_cons_of_mem _ h1,h2⟩
  ·rw [if_neg hc,List.lookup_cons] at h'
   cases e:x == n with
   | true=>
    rw [e] at h'
    have e':x = n:=by simpa using e
    subst e'
    exact ⟨k0,List.mem_cons_self,.inl (Option.some.inj h').symm⟩
   | false=>
    rw [e] at h'
    obtain ⟨k1,h1,h2⟩:=relabel_mem h'
    exact ⟨k1,List.mem_cons_of_mem _ h1,h2⟩
theorem relabel_free {env:Env} (hk:env.scope.kind = .function):∀ {names:List (Str × NameKind)} {x:Str},names.lookup x = some .free->env.kindOf x = some .cell->
  (names.map fun (n,k)=>if (k == NameKind.free && env.scope.kind == .function && env.kindOf n == some .cell) then (n,NameKind.cell) else (n,k)).lookup x = some .cell
 | [],_,h,_=>by simp at h
 | (n,k0) :: r,x,h,hx=>by
  show List.lookup x ((if (k0 == NameKind.free && env.scope.kind == .function && env.kindOf n == some .cell) = true then (n,NameKind.cell) else (n,k0)) ::
   (r.map fun (n,k)=>if (k == NameKind.free && env.scope.kind == .function && env.kindOf n == some .cell) then (n,NameKind.cell) else (n,k))) = some .cell
  rw [List.lookup_cons] at h
  cases e:x == n with
  | true=>
   rw [e] at h
   have e':x = n:=by simpa using e
   subst e'
   have h0:k0 = .free:=Option.some.inj h
   subst h0
   rw [if_pos (by rw [hk,hx]; decide),List.lookup_cons]
   simp
  | false=>
   rw [e] at h
   have ih:=relabel_free hk h hx
   split
   ·rw [List.lookup_cons,e]; exact ih
   ·rw [List.lookup_cons,e]; exact ih
abbrev compCx (X:Cx) (pins:List (Addr × Obj)) (sc:Scope) (fr Nc:List Str) (fp:List Addr) (s:Shared) (H:Hp) (C:Addr):Cx:=
 { prog:=X.prog,w:=X.w,K:=X.K,mg:=X.mg,base:=X.base,A:=X.A,N:=Nc,s₀:=s,H₀:=H,env:=compEnvC sc (clB X.env fr) C X.env,outer:=X.stack,stack:=X.stack,ex:=fp,fn:=fun _=>false,calm:=X.calm,pn:=X.pn ++ pins,xe:=fun _ _=>False }
structure BlockOk (env:Env) (sc:Scope) (fr:List Str):Prop where
 kind:sc.kind = .function
 clos:closureFor sc env = pure (clB env fr)
 cells:(fr.all fun n=>(env.cells.lookup n).isSome) = true
 names:(sc.names.all fun y=>(y.2 != .cell) && (y.2 != .free || fr.contains y.1) && (y.2 != .local || sc.names.lookup y.1 == some .local)) = true
def capChk (N Nc:List Str) (caps:List (Option Nat)) (env:Env) (sc:Scope) (fr:List Str):Bool:=
 (Nc.zip caps).all fun p=>match p.2 with
  | none=>true
  | some j=>(N[j]? == some p.1) && (env.kindOf p.1 == some .cell) && (sc.names.lookup p.1 == some .free) && fr.contains p.1
def capS (caps:List (Option Nat)) (σ : St):St:=caps.map fun o=>match o with
 | none=>none
 | some j=>(σ[j]?).join
section
variable {X:Cx} {pins:List (Addr × Obj)} {σ : St} {H:Hp} {s:Shared} {sc:Scope} {fr Nc:List Str} {fp:List Addr} {C:Addr}
theorem BlockOk.sub {env:Env} (B:BlockOk env sc fr) {x:Str} {c:Addr} (h:(clB env fr).lookup x = some c):env.cells.lookup x = some c:=by
 obtain ⟨h1,h2⟩:=clB_look h
 have h3:=List.all_eq_true.mp B.cells x h1
 obtain ⟨d,hd⟩:=Option.isSome_iff_exists.mp h3
 rw [hd] at h2 |-
 rw [h2]; rfl
theorem BlockOk.free {env:Env} (B:BlockOk env sc fr) {x:Str} {k:NameKind} (h:(relabel sc env).names.lookup x = some k) (hk:k = .cell\/k = .free):x ∈ fr:=by
 obtain ⟨k0,h1,h2⟩:=relabel_mem h
 have h3:=List.all_eq_true.mp B.names _ h1
 simp only [Bool.and_eq_true,Bool.or_eq_true,bne_iff_ne,ne_eq,List.contains_iff_mem] at h3
 have h4:k0 = .free:=by
  rcases h2 with h2 | ⟨h2,_⟩
  ·subst h2
   rcases hk with z | z
   ·exact absurd z h3.1.1
   ·exact z
  ·exact h2
 rcases h3.1.2 with z | z
 ·exact absurd h4 z
 ·exact z
theorem comp_ok (I:Inv X pins σ H s) (B:BlockOk X.env sc fr) (hf:∀ b ∈ fp,FpOk X pins H b) (ho:∀ b ∈ fp,∃ o,s.heap.get? b = some o) (hC:s.heap.objs.size<=C):(compCx X pins sc fr Nc fp s H C).Ok where
 mod:=I.ok.mod
 kind:=B.kind
 glob:=I.ok.glob
 blt:=I.ok.blt
 above:=hC
 inj:=fun x y c h1 h2=>I.ok.inj x y c (B.sub h1) (B.sub h2)
 has:=fun x h=>by
  have hx:x ∈ fr:=by
   rcases h with h | h
   ·exact B.free h (.inl rfl)
   ·exact B.free h (.inr rfl)
  exact ⟨_,clB_in hx⟩
 cab:=fun x c h=>absurd h (by simp)
 hd:=I.ok.hd
 frames:=I.ok.frames
 stk:=.inl rfl
 exf:=fun b hb=>by
  obtain ⟨o,e⟩:=ho b hb
  refine ⟨fun z=>?_,fun x c h=>(hf b hb).2.2.2.2.1 x c (B.sub h)⟩
  have z':b = C:=z
  have:=Heap.lt_size e
  rw [z'] at this
  exact absurd (Nat.lt_of_lt_of_le this hC) (Nat.lt_irrefl _)
 bs:=I.bs
 bsz:=Nat.le_trans I.ok.bsz I.sz
 noex:=fun b o e hb=>by
  rcases (hf b hb).2.2.2.1 with z | z
  ·exact I.ok.noex b o e z
  ·exact absurd (Nat.lt_of_lt_of_le (Heap.lt_size (I.ok.bs b o e).1) z) (Nat.lt_irrefl _)
 exfs:=fun b hb h=>by
  rcases List.mem_cons.mp (I.stkSub b h) with z | z
  ·exact (hf b hb).2.1 z
  ·exact (hf b hb).2.2.1 z
 funs:=I.stack
 frf:=I.stkFree
theorem Inv.pin_lt (I:Inv X pins σ H s) {p:Addr × Obj} (hp:p ∈ X.pn ++ pins):p.1 < s.heap.objs.size:=Heap.lt_size (I.pin p hp).1
theorem comp_start {caps:List (Option Nat)} {h':Heap} {D:Addr} {m:Str->Option Value} {t' n0:Nat} (I:Inv X pins σ H s) (B:BlockOk X.env sc fr) (hf:∀ b ∈ fp,FpOk X pins H b) (ho:∀ b ∈ fp,∃ o,s.heap.get? b = some o)
  (hC:s.heap.objs.size<=C) (hD:s.heap.objs.size<=D) (hDC:D ≠ C) (keep:∀ b o,s.heap.get? b = some o->h'.get? b = some o) (hl:h'.get? D = some { cls:=.type "list",data:=.seq ([]:List Value).toArray n0 }) (hn:h'.Ns C m)
  (hcap:capChk X.N Nc caps X.env sc fr = true) (hlen:caps.length = Nc.length) :
  Inv (compCx X pins sc fr Nc fp s H C) [] (capS caps σ) (upd H D (.lst [])) { s with heap:=h',toks:=t' }:=by
 have hk:X.env.scope.kind = .function:=I.ok.kind
 have fresh:∀ a,s.heap.objs.size<=a->H a = none:=fun a ha=>I.hok.fresh ha
 refine ⟨comp_ok I B hf ho hC,rfl,I.bare,Un.laid keep hD (fresh D hD),⟨m,hn,fun i x v e1 e2 e3=>?_⟩,fun x c h=>?_,?_,fun x c h=>?_,fun p hp=>?_,?_,?_⟩
 ·
  have e2':(caps[i]?).map (fun o=>match o with | none=>none | some j=>(σ[j]?).join) = some (some v):=by
   have:(capS caps σ)[i]? = some (some v):=e2
   unfold capS at this
   rw [List.getElem?_map] at this
   exact this
  cases hc:caps[i]? with
  | none=>rw [hc] at e2'; cases e2'
  | some o=>
   rw [hc] at e2'
   cases o with
   | none=>simp at e2'
   | some j=>
    have e4:(σ[j]?).join = some v:=by simpa using e2'
    have e5 : σ[j]? = some (some v):=by
     cases q : σ[j]? with
     | none=>rw [q] at e4; cases e4
     | some w'=>rw [q] at e4; simp at e4; rw [e4]
    have e6:(Nc.zip caps)[i]? = some (x,some j):=by
     rw [List.getElem?_zip_eq_some]
     exact ⟨e1,hc⟩
    have e7:=List.all_eq_true.mp hcap _ (List.mem_of_getElem? e6)
    simp only [Bool.and_eq_true,beq_iff_eq,List.contains_iff_mem] at e7
    obtain ⟨⟨⟨a1,a2⟩,a3⟩,a4⟩:=e7
    obtain ⟨m0,hn0,hl0⟩:=I.loc
    obtain ⟨u,r,l⟩:=hl0 j x v a1 e5 (.inr (.inl a2))
    refine ⟨u,r,.inr ⟨.inl (relabel_free hk a3 a2),_,clB_in a4,?_⟩⟩
    rcases l with ⟨z,_⟩ | ⟨_,c,ec,hcell⟩
    ·rw [a2] at z; cases z
    ·have:(X.env.cells.lookup x).getD 0 = c:=by rw [ec]; rfl
     rw [this]
     exact hcell.keeps keep
 ·obtain ⟨v,hv⟩:=I.cell x c (B.sub h)
  exact ⟨v,hv.keeps keep⟩
 ·show upd H D (.lst []) C = none
  rw [upd_ne (Ne.symm hDC)]; exact fresh C hC
 ·obtain ⟨v,hv⟩:=I.cell x c (B.sub h)
  have:c ≠ D:=fun z=>by have:=hv.lt; rw [z] at this; exact absurd (Nat.lt_of_lt_of_le this hD) (Nat.lt_irrefl _)
  rw [upd_ne this]; exact I.freeC x c (B.sub h)
 ·have hp':p ∈ X.pn ++ pins:=by simpa using hp
  obtain ⟨e,n,ne,nf,d⟩:=I.pin p hp'
  have hlt:=I.pin_lt hp'
  refine ⟨keep _ _ e,?_,?_,fun z=>?_,d⟩
  ·rw [upd_ne (fun z=>by rw [z] at hlt; exact absurd (Nat.lt_of_lt_of_le hlt hD) (Nat.lt_irrefl _))]; exact n
  ·intro z
   have z':p.1 = C:=z
   rw [z'] at hlt; exact absurd (Nat.lt_of_lt_of_le hlt hC) (Nat.lt_irrefl _)
  ·rcases List.mem_cons.mp (I.stkSub p.1 z) with q | q
   ·exact ne q
   ·exact nf q
 ·exact I.hok.laid keep hD ⟨Nat.zero_le _,[],n0,.nil,hl⟩
 ·show (capS caps σ).length = Nc.length
  unfold capS
  rw [List.length_map,hlen]
theorem comp_back {pl:List (Addr × Obj)} {σ':St} {H':Hp} {s':Shared} (I:Inv X pins σ H s) (hf:∀ b ∈ fp,FpOk X pins H b) (J:Inv (compCx X pins sc fr Nc fp s H C) pl σ' H' s'):Inv X pins σ H' s':=
 I.call' J.os J.base J.hok J.bare fun b hb=>⟨(hf b hb).2.2.2.1,(hf b hb).2.1,(hf b hb).2.2.2.2.1,(hf b hb).2.2.2.2.2⟩
theorem comp_gone {pl:List (Addr × Obj)} {σ' σ2:St} {H':Hp} {s':Shared} {h2:Heap} {t2:Nat} (I:Inv X pins σ H s) (J:Inv (compCx X pins sc fr Nc fp s H C) pl σ' H' s') (J2:Inv X pins σ2 H' s') (hs:Heap.SameBut C s'.heap h2):Inv X pins σ2 H' { s' with heap:=h2,toks:=t2 }:=by
 have hC:s.heap.objs.size<=C:=J.ok.above
 refine J2.turned (it:=C) (fun b o hb e=>(hs.2 b hb).trans e) J.free ?_ (.inr (Nat.le_trans I.sz hC)) (fun x c h z=>?_) fun p hp z=>?_
 ·intro z
  have:=I.lt
  rw [<- z] at this
  exact absurd (Nat.lt_of_lt_of_le this hC) (Nat.lt_irrefl _)
 ·obtain ⟨v,hv⟩:=I.cell x c h
  have:=hv.lt
  rw [z] at this
  exact absurd (Nat.lt_of_lt_of_le this hC) (Nat.lt_irrefl _)
 ·have:=I.pin_lt hp
  rw [z] at this
  exact absurd (Nat.lt_of_lt_of_le this hC) (Nat.lt_irrefl _)
end
def tTrue:TT:=fun _ H Q=>Q true H
structure PIf (X:Cx) (ifs:List Expr) (t:TT):Prop where
 run:∀ (pins:List (Addr × Obj)) (s:Shared) (σ : St) (H:Hp) (Q:Bool->Hp->Prop),Inv X pins σ H s->t σ H Q->
  wpAny (model X.prog X.w) X.A (forIn ifs true fun c r=>if r = true then do let ok <- isTrue c X.env (eval c X.env); pure (ForInStep.yield ok) else pure (ForInStep.yield r)) (TP X pins σ Q) X.xe s
instance {X:Cx} {ifs:List Expr} {t:TT}:CoeFun (PIf X ifs t) (fun _=>∀ (pins:List (Addr × Obj)) (s:Shared) (σ : St) (H:Hp) (Q:Bool->Hp->Prop),Inv X pins σ H s->t σ H Q->
  wpAny (model X.prog X.w) X.A (forIn ifs true fun c r=>if r = true then do let ok <- isTrue c X.env (eval c X.env); pure (ForInStep.yield ok) else pure (ForInStep.yield r)) (TP X pins σ Q) X.xe s):=⟨PIf.run⟩
theorem pif_nil {X:Cx}:PIf X [] tTrue:=⟨fun _ _ _ H _ I h=>wpAny_tests_nil ⟨H,I,h⟩⟩
theorem pif_one {X:Cx} {c:Expr} {t:TT} (hc:PT X c t):PIf X [c] t:=⟨fun pins s σ H Q I h=>wpAny_tests_one (hc pins s σ H Q I h)⟩
def GOwn (g:TG) (ow:List Nat):Prop:=
 ∀ (v:V) (σ : St) (H:Hp) (Q:St->Hp->Prop),g v σ H Q->g v σ H fun σ2 H2=>Q σ2 H2/\σ2.length = σ.length/\∀ i,i ∉ ow->σ2[i]? = σ[i]?
theorem gown_name (i:Nat):GOwn (gName i) [i]:=fun v σ H Q h=>⟨h,List.length_set ..,fun j hj=>List.getElem?_set_ne (fun e=>hj (by simp [e]))⟩
theorem gown_tup2 {K:Frag} {n:Nat} (i j:Nat):GOwn (gTup K n (gCons (gName i) (gCons (gName j) gNil))) [i,j]:=by
 rintro v σ H Q ⟨a,xs,e1,e2,e3,v1,r1,e4,v2,r2,e5,e6,q⟩
 refine ⟨a,xs,e1,e2,e3,v1,r1,e4,v2,r2,e5,e6,q,by rw [List.length_set,List.length_set],fun k hk=>?_⟩
 have h1:i ≠ k:=fun e=>hk (by simp [e])
 have h2:j ≠ k:=fun e=>hk (by simp [e])
 rw [List.getElem?_set_ne h2,List.getElem?_set_ne h1]
section
variable {prog:Program} {w:World} {A:Around} {R:Result->Shared->Prop} {s:Shared}
theorem compLoop_any {elt target iter:Expr} {ifs:List Expr} {scope:Scope} {pos:Pos} {it acc:Value} {env:Env} (I:Nat->Shared->Prop)
  (turn:∀ n s,I n s->wpAny (model prog w) A (pyNext it) (fun r s₁=>match r with
   | none=>R (.ok .next) s₁
   | some v=>wpAny (model prog w) A (letOwnedTupleGo target it v) (fun _ s₀=>wpAny (model prog w) A (assign target env v) (fun _ s₂=>
     wpAny (model prog w) A (forIn ifs true fun c r=>if r = true then do let ok <- isTrue c env (eval c env); pure (ForInStep.yield ok) else pure (ForInStep.yield r)) (fun ok s₃=>
      if ok = true then wpAny (model prog w) A (eval elt env) (fun x s₄=>
       wpAny (model prog w) A (call (.builtin "list.append") [acc,x]) (fun _ s₅=>∃ m,m < n/\I m s₅) (fun _ _=>False) s₄) (fun _ _=>False) s₃
      else ∃ m,m < n/\I m s₃) (fun _ _=>False) s₂) (fun _ _=>False) s₀) (fun _ _=>False) s₁) (fun _ _=>False) s)
  (n:Nat) (h:I n s) :
  codeAny (model prog w) A (.compLoop (.ListComp elt [⟨target,iter,ifs,0⟩] scope pos) 0 it acc env) R s:=by
 refine codeAny_loop rfl I (fun n s hI=>?_) n h
 show wpAny _ A ((compTurn (.ListComp elt [⟨target,iter,ifs,0⟩] scope pos) 0 it acc env).onRaise (fun x=>do noteFrame x env; theTreesLotGoes x)) _ _ s
 refine wpAny_noted ?_
 rw [compTurn_list]
 refine wpAny_bind (wpAny_standAt (wpAny_bind (wpAny_mono (turn n s hI) (fun r s₁ h₁=>?_) fun _ _ z=>z.elim)))
 cases r with
 | none=>exact wpAny_pure h₁
 | some v=>
  refine wpAny_bind (wpAny_mono h₁ (fun _ s₀ h₀=>?_) fun _ _ z=>z.elim)
  refine wpAny_bind (wpAny_mono h₀ (fun _ s₂ h₂=>wpAny_bind (wpAny_mono h₂ (fun ok s₃ h₃=>?_) fun _ _ z=>z.elim)) fun _ _ z=>z.elim)
  cases ok with
  | false=>exact wpAny_pure ⟨rfl,h₃⟩
  | true=>
   exact wpAny_bind (wpAny_bind (wpAny_mono h₃ (fun x s₄ h₄=>wpAny_bind (wpAny_mono h₄ (fun _ s₅ h₅=>wpAny_pure (wpAny_pure ⟨rfl,h₅⟩)) fun _ _ z=>z.elim)) fun _ _ z=>z.elim))
end
def LCr (J:It) (caps:List (Option Nat)) (g:TG) (tt:TT) (te:TE) (σ : St) (H1:Hp) (Q:VK) (D:Addr):Prop:=
 ∃ W:Nat->Nat->List V->Hp->Prop,(∃ m,W 0 m [] (upd H1 D (.lst [])))/\∀ i m ys H,W i m ys H->
  (J.stop i H/\Q (.ref D) H)\/
  (J.go i H/\∀ x H',J.yld i H x H'->g x (capS caps σ) H' fun σ2 H2=>tt σ2 H2 fun ok H3=>
   (ok = true->te σ2 H3 fun v H4=>H4 D = some (.lst ys)/\ys.length < sizeLine/\∃ m',m' < m/\W (i + 1) m' (ys ++ [v]) (upd H4 D (.lst (ys ++ [v]))))/\
   (ok = false->∃ m',m' < m/\W (i + 1) m' ys H3))
def tLC (wi:TI) (caps:List (Option Nat)) (g:TG) (tt:TT) (te:TE):TE:=fun σ H Q=>wi σ H fun J H1=>∀ D,H1 D = none->LCr J caps g tt te σ H1 Q D
section
variable {X:Cx} {pins:List (Addr × Obj)} {σ : St} {s:Shared} {sc:Scope} {fr Nc:List Str} {caps:List (Option Nat)} {elt tg iter:Expr} {ifs:List Expr} {g:TG} {tt:TT} {te:TE} {ow:List Nat} {pos pos2:Pos} {E:Value->Shared->Prop}
theorem comp_run {H2:Hp} {it:Addr} {fp:List Addr} {tn:Nat->Heap->Prop} {J:It} {Q:VK} {RR:Value->Addr->Result->Shared->Prop}
  (hc:X.calm = true) (B:BlockOk X.env sc fr) (go:GOwn g ow) (how:(ow.all fun i=>caps[i]? == some none) = true) (hcap:capChk X.N Nc caps X.env sc fr = true) (hlen:caps.length = Nc.length)
  (hb:∀ (pins:List (Addr × Obj)) (fp:List Addr) (s:Shared) (H:Hp) (C:Addr),PG (compCx X pins sc fr Nc fp s H C) tg g/\PIf (compCx X pins sc fr Nc fp s H C) ifs tt/\PE (compCx X pins sc fr Nc fp s H C) elt te)
  (I2:Inv X pins σ H2 s) (T:Turn X.prog X.w X.K tg J fp it tn) (st2:tn 0 s.heap) (f2:∀ b ∈ fp,FpOk X pins H2 b) (h:∀ D,H2 D = none->LCr J caps g tt te σ H2 Q D)
  (fin:∀ (D C:Addr) (σ':St) (H':Hp) (s':Shared),Inv (compCx X pins sc fr Nc fp s H2 C) [] σ' H' s'->Q (.ref D) H'->RR (.ref D) C (.ok .next) s') :
  wpAny (model X.prog X.w) X.A (newList []) (fun acc s₃=>wpAny (model X.prog X.w) X.A (newFunctionEnv sc X.env.globals (clB X.env fr) [] X.env.qual none .none (some X.env)) (fun cenv s₄=>
   codeAny (model X.prog X.w) X.A (.compStart (.ListComp elt [⟨tg,iter,ifs,0⟩] sc pos) 0 (.ref it) acc { cenv with scope:=relabel sc X.env }) (RR acc cenv.locals) s₄) E s₃) E s:=by
 have hcell:∀ y ∈ sc.names,y.2 ≠ .cell:=fun y hy=>by
  have h3:=List.all_eq_true.mp B.names _ hy
  simp only [Bool.and_eq_true,bne_iff_ne,ne_eq] at h3
  exact h3.1.1
 refine wpAny_newObj_type (wpAny_newFunctionEnv hcell (by intro y hy; simp at hy) (fun h₁ hns₁ hsb₁=>?_) B.kind)
 dsimp only at hns₁ hsb₁ |-
 generalize hH2:s.heap.push { cls:=.type "list",dict:=none,data:=.seq ([]:List Value).toArray } = H3 at hns₁ hsb₁ |-
 have hCs:H3.objs.size = s.heap.objs.size + 1:=by rw [<- hH2,Heap.size_push]
 have hDC:s.heap.objs.size ≠ H3.objs.size:=by rw [hCs]; exact Nat.ne_of_lt (Nat.lt_succ_self _)
 have hC:s.heap.objs.size<=H3.objs.size:=by rw [hCs]; exact Nat.le_succ _
 have old:∀ b o,s.heap.get? b = some o->h₁.get? b = some o:=fun b o e=>
  hsb₁.extBut b o (Nat.ne_of_lt (Nat.lt_of_lt_of_le (Heap.lt_size e) hC)) (Heap.get?_push_of_some _ (hH2 ▸ Heap.get?_push_of_some _ e))
 have hD:h₁.get? s.heap.objs.size = some { cls:=.type "list",data:=.seq ([]:List Value).toArray }:=hsb₁.extBut _ _ hDC (Heap.get?_push_of_some _ (hH2 ▸ Heap.get?_push_size _ rfl))
 have ho:∀ b ∈ fp,∃ o,s.heap.get? b = some o:=fun b hb'=>let ⟨o,e,_⟩:=T.obj 0 _ st2 b hb'; ⟨o,e⟩
 have I4:∀ t',Inv (compCx X pins sc fr Nc fp s H2 H3.objs.size) [] (capS caps σ) (upd H2 s.heap.objs.size (.lst [])) { s with heap:=h₁,toks:=t' }:=fun t'=>
  comp_start I2 B f2 ho hC (Nat.le_refl _) hDC old hD hns₁ hcap hlen
 have ok:=(I4 0).ok
 obtain ⟨hbg,hbt,hbe⟩:=hb pins fp s H2 H3.objs.size
 obtain ⟨W,⟨m0,w0⟩,turn⟩:=h s.heap.objs.size (I2.hok.fresh (Nat.le_refl _))
 have stat:∀ {H':Hp},(∀ b ∈ fp,H' b = none)->∀ b ∈ fp,FpOk (compCx X pins sc fr Nc fp s H2 H3.objs.size) [] H' b:=fun hn b hb'=>
  ⟨hn b hb',(ok.exf b hb').1,ok.exfs b hb',.inl hb',(ok.exf b hb').2,fun p hp=>(f2 b hb').2.2.2.2.2 p (by simpa using hp)⟩
 have hfp0:∀ b ∈ fp,upd H2 s.heap.objs.size (.lst []) b = none:=fun b hb'=>by
  obtain ⟨o,e⟩:=ho b hb'
  rw [upd_ne (Nat.ne_of_lt (Heap.lt_size e))]
  exact (f2 b hb').1
 have loop:∀ s₃:Shared,s₃ = { s with heap:=h₁,toks:=s.toks + ([]:List (Str × Value)).length }->
   codeAny (model X.prog X.w) X.A (.compLoop (.ListComp elt [⟨tg,iter,ifs,0⟩] sc pos) 0 (.ref it) (.ref s.heap.objs.size) (compEnvC sc (clB X.env fr) H3.objs.size X.env)) (RR (.ref s.heap.objs.size) H3.objs.size) s₃:=by
  rintro s₃ rfl
  refine compLoop_any (fun n s'=>∃ i σ' H' ys,Inv (compCx X pins sc fr Nc fp s H2 H3.objs.size) [] σ' H' s'/\tn i s'.heap/\(∀ b ∈ fp,H' b = none)/\W i n ys H'/\
   (∀ (k:Nat) (v:V),(capS caps σ)[k]? = some (some v)->σ'[k]? = some (some v))) ?_ m0
   ⟨0,_,_,[],I4 _,T.keep _ _ _ st2 (fun b _ o e=>old b o e),hfp0,w0,fun _ _ e=>e⟩
  rintro n s3 ⟨i,σ3,H4,ys,I3,st3,fr3,w3,wk3⟩
  have I3':Inv (compCx X pins sc fr Nc fp s H2 H3.objs.size) [] (capS caps σ) H4 s3:=I3.weak (by rw [I3.len]; exact (I4 0).len) wk3
  rcases turn i n ys H4 w3 with ⟨stop,qn⟩ | ⟨gg,step⟩
  ·refine thn (T.done (compCx X pins sc fr Nc fp s H2 H3.objs.size) rfl rfl rfl hc i [] s3 _ H4 (fun _ _=>False) I3' (stat fr3) st3 stop) fun r s4 ⟨hr,I4'⟩=>?_
   subst hr
   exact fin _ _ _ _ _ I4' qn
  ·refine thn (T.item (compCx X pins sc fr Nc fp s H2 H3.objs.size) rfl rfl rfl hc i [] s3 _ H4 (fun _ _=>False) I3' (stat fr3) st3 gg) fun r s4 ⟨u,hr,h4⟩=>?_
   subst hr
   refine thn h4 fun _ s5 ⟨x,H5,I5,r5,y5,st5,fr5⟩=>?_
   have I5':=I5.pinned (stat fr5) (T.obj _ _ st5)
   refine thn (hbg _ s5 _ H5 x u _ I5' r5 (go _ _ _ _ (step x H5 y5))) fun _ s6 ⟨σ6,H6,I6,q6,l6,k6⟩=>?_
   have wk6:∀ (k:Nat) (v:V),(capS caps σ)[k]? = some (some v)->σ6[k]? = some (some v):=fun k v e=>by
    rw [k6 k fun hk=>?_]
    ·exact e
    ·have h1:=List.all_eq_true.mp how k hk
     have h2:caps[k]? = some none:=by simpa using h1
     unfold capS at e
     rw [List.getElem?_map,h2] at e
     cases e
   refine thn (hbt _ s6 σ6 H6 _ I6 q6) fun ok s7 ⟨H7,I7,q7⟩=>?_
   have again:∀ {H8:Hp} {s8:Shared} {ys':List V},Inv (compCx X pins sc fr Nc fp s H2 H3.objs.size) ([] ++ pinsAt fp s5.heap) σ6 H8 s8->(∃ m',m' < n/\W (i + 1) m' ys' H8)->
     ∃ m,m < n/\∃ i σ' H' ys,Inv (compCx X pins sc fr Nc fp s H2 H3.objs.size) [] σ' H' s8/\tn i s8.heap/\(∀ b ∈ fp,H' b = none)/\W i m ys H'/\(∀ (k:Nat) (v:V),(capS caps σ)[k]? = some (some v)->σ'[k]? = some (some v)):=fun {H8 s8 ys'} I8 ⟨m',hm,w8⟩=>by
    refine ⟨m',hm,i + 1,σ6,H8,ys',I8.unpinned,T.keep _ _ _ st5 fun b hb' o e=>(I8.pin (b,o) (List.mem_append_right _ (List.mem_append_right _ (mem_pinsAt hb' e)))).1,fun b hb'=>?_,w8,wk6⟩
    obtain ⟨o,e,d⟩:=T.obj _ _ st5 b hb'
    exact (I8.pin (b,o) (List.mem_append_right _ (List.mem_append_right _ (mem_pinsAt hb' e)))).2.1
   cases ok with
   | false=>
    rw [if_neg Bool.false_ne_true]
    exact again I7 (q7.2 rfl)
   | true=>
    rw [if_pos rfl]
    refine thn (hbe _ s7 σ6 H7 _ I7 (q7.1 rfl)) fun uv s8 ⟨v,H8,I8,r8,hD8,hz,q8⟩=>?_
    refine thn (mt_append (X:=compCx X pins sc fr Nc fp s H2 H3.objs.size) _ s8 σ6 H8 (.ref s.heap.objs.size) [v] _ [uv] (fun _ H'=>H' = upd H8 s.heap.objs.size (.lst (ys ++ [v]))) I8 rfl (.cons r8 .nil) ⟨_,ys,v,rfl,rfl,hD8,hz,rfl⟩) fun _ s9 ⟨_,H9,I9,_,e9⟩=>?_
    subst e9
    exact again I9 q8
 exact codeAny_compStart_list (loop _ rfl) (T.self _ 0 _ _ _ (T.keep _ _ _ st2 (fun b _ o e=>old b o e)) (loop _ rfl))
theorem BlockOk.loc {env:Env} (B:BlockOk env sc fr):∀ x ∈ sc.names,x.2 = .local->sc.names.lookup x.1 = some .local:=fun y hy e=>by
 have h3:=List.all_eq_true.mp B.names _ hy
 simp only [Bool.and_eq_true,Bool.or_eq_true,bne_iff_ne,ne_eq,beq_iff_eq] at h3
 rcases h3.2 with z | z
 ·exact absurd e z
 ·exact z
theorem pe_lc {wi:TI} (fr Nc:List Str) (caps:List (Option Nat)) (hc:X.calm = true) (B:BlockOk X.env sc fr) (hi:PI X tg iter wi) (go:GOwn g ow) (how:(ow.all fun i=>caps[i]? == some none) = true)
  (hcap:capChk X.N Nc caps X.env sc fr = true) (hlen:caps.length = Nc.length)
  (hb:∀ (pins:List (Addr × Obj)) (fp:List Addr) (s:Shared) (H:Hp) (C:Addr),PG (compCx X pins sc fr Nc fp s H C) tg g/\PIf (compCx X pins sc fr Nc fp s H C) ifs tt/\PE (compCx X pins sc fr Nc fp s H C) elt te)
  (hs:∀ x,foldedSetIterable iter X.env x = pure x:=by intro _; rfl):PE X (.ListComp elt [⟨tg,iter,ifs,0⟩] sc pos) (tLC wi caps g tt te):=by
 refine ⟨?_⟩
 intro pins s σ H Q I h
 rw [eval_ListComp]
 refine wpAny_comprehension_free (use:=none) rfl hs B.clos B.kind B.loc (thn (hi pins s σ H _ I h) fun v s1 h1=>thn h1 fun itv s2 h2=>?_)
 obtain ⟨it,fp,tn,J,H2,e,I2,T,st2,f2,q⟩:=h2
 subst e
 refine comp_run (RR:=fun acc C=>compPost (model X.prog X.w) X.A X.xe none (EP X pins σ Q) acc C) hc B go how hcap hlen hb I2 T st2 f2 q ?_
 intro D C σ' H' s' J' qq
 obtain ⟨m,hn,_⟩:=J'.loc
 exact ⟨m,hn,fun h' hs'=>⟨.ref D,H',comp_gone I2 J' (comp_back I2 f2 J') hs',rfl,qq⟩⟩
theorem ps_lc {wi:TI} {i:Nat} {x:Str} {pos':Pos} (fr Nc:List Str) (caps:List (Option Nat)) (hN:X.N.Nodup) (hix:X.N[i]? = some x) (hx:Loc X.env.scope x) (hc:X.calm = true) (B:BlockOk X.env sc fr) (hi:PI X tg iter wi) (go:GOwn g ow) (how:(ow.all fun i=>caps[i]? == some none) = true)
  (hcap:capChk X.N Nc caps X.env sc fr = true) (hlen:caps.length = Nc.length)
  (hb:∀ (pins:List (Addr × Obj)) (fp:List Addr) (s:Shared) (H:Hp) (C:Addr),PG (compCx X pins sc fr Nc fp s H C) tg g/\PIf (compCx X pins sc fr Nc fp s H C) ifs tt/\PE (compCx X pins sc fr Nc fp s H C) elt te)
  (hsw:swapsWith (.ListComp elt [⟨tg,iter,ifs,0⟩] sc pos) (some (.Name x pos')) pos2.line X.env = pure true:=by rfl)
  (hs:∀ x,foldedSetIterable iter X.env x = pure x:=by intro _; rfl) (hf:X.fn x = true\/X.env.scope.names.lookup x = some .local:=by first | exact .inl rfl | exact .inr rfl | assumption) :
  PS X (.Assign [.Name x pos'] (.ListComp elt [⟨tg,iter,ifs,0⟩] sc pos) pos2) (tAsg (tLC wi caps g tt te) (gName i)):=by
 refine ⟨?_⟩
 intro pins s σ H D0 I h
 rw [exec_Assign_Name_used _ _ _ _ hsw]
 refine wpAny_bind (wpAny_standAt (wpAny_bind ?_))
 show wpAny _ X.A (do let _ <- comprehension (.ListComp elt [⟨tg,iter,ifs,0⟩] sc pos) sc X.env _ (newList []) false (eval iter X.env) (some (assign (.Name x pos') X.env))) _ _ s
 refine wpAny_bind (wpAny_mono (wpAny_comprehension_free (use:=some (assign (.Name x pos') X.env)) (Q:=fun _ s'=>SP X pins D0 .next s') rfl hs B.clos B.kind B.loc
  (thn (hi pins s σ H _ I h) fun v s1 h1=>thn h1 fun itv s2 h2=>?_)) (fun _ s' hq=>wpAny_pure (wpAny_pure hq)) fun _ _ e=>e)
 obtain ⟨it,fp,tn,J,H2,e,I2,T,st2,f2,q⟩:=h2
 subst e
 refine comp_run (Q:=fun v H1=>gName i v σ H1 D0.nx) (RR:=fun acc C=>compPost (model X.prog X.w) X.A X.xe (some (assign (.Name x pos') X.env)) (fun _ s'=>SP X pins D0 .next s') acc C) hc B go how hcap hlen hb I2 T st2 f2 q ?_
 intro D C σ' H' s' J' qq
 have I':=comp_back I2 f2 J'
 obtain ⟨m,hn,_⟩:=J'.loc
 have hC:s2.heap.objs.size<=C:=J'.ok.above
 show wpAny _ X.A (assign (.Name x pos') X.env (.ref D)) _ _ s'
 refine wpAny_assign_Name (store_ok2 (v:=.ref D) I' hN hix hx rfl (fun s'' I'' ⟨a,sb,ha⟩=>?_) hf)
 have haC:C ≠ a:=by
  rintro rfl
  rcases ha with z | z
  ·have:=I2.lt
   rw [<- z] at this
   exact absurd (Nat.lt_of_lt_of_le this hC) (Nat.lt_irrefl _)
  ·obtain ⟨v,hv⟩:=I2.cell x C z
   exact absurd (Nat.lt_of_lt_of_le hv.lt hC) (Nat.lt_irrefl _)
 have hCH:H' C = none:=J'.free
 refine ⟨m,hn.sameBut sb haC,fun h' hs'=>⟨_,H',?_,qq⟩⟩
 refine I''.turned (it:=C) (t':=s''.toks) (fun b o hb e=>(hs'.2 b hb).trans e) hCH ?_ (.inr (Nat.le_trans I2.sz hC)) (fun x c h z=>?_) fun p hp z=>?_
 ·intro z
  have:=I2.lt
  rw [<- z] at this
  exact absurd (Nat.lt_of_lt_of_le this hC) (Nat.lt_irrefl _)
 ·obtain ⟨v,hv⟩:=I2.cell x c h
  have:=hv.lt
  rw [z] at this
  exact absurd (Nat.lt_of_lt_of_le this hC) (Nat.lt_irrefl _)
 ·have:=I2.pin_lt hp
  rw [z] at this
  exact absurd (Nat.lt_of_lt_of_le this hC) (Nat.lt_irrefl _)
end
def Its (z:Str):It:=⟨fun i _=>i < z.cps.size,fun i H x H'=>H' = H/\∃ c,z.cps[i]? = some c/\x = .str ⟨#[c]⟩,fun i _=>z.cps.size<=i⟩
theorem turn_str {P:Program} {w:World} {K:Frag} {tg:Expr} (it:Addr) (z:Str) (t:Tok):Turn P w K tg (Its z) [it] it (fun i h=>h.IsStrIter it (strIterType z) z t i) where
 mem:=by simp
 obj:=fun i h st b hb=>by
  have e:b = it:=by simpa using hb
  subst e
  obtain ⟨o,e,_,d⟩:=st
  exact ⟨o,e,fun v q=>by rw [d] at q; cases q⟩
 keep:=fun i h h' st k=>by
  obtain ⟨o,e,r⟩:=st
  exact ⟨o,k it (by simp) o e,r⟩
 item:=by
  intro X hP hw hK hc i pins s σ H E I hf st hg
  subst hP hw hK
  obtain ⟨f0,f1,f2,f3,f4,f5⟩:=hf it (by simp)
  have hi:i < z.cps.size:=hg
  have hx:z.cps[i]? = some z.cps[i]:=by simp [hi]
  have fin:∀ h',h'.IsStrIter it (strIterType z) z t (i + 1)->Heap.SameBut it s.heap h'->
    ∃ u,some (Value.str ⟨#[z.cps[i]]⟩ s.toks) = some u/\wpAny (model X.prog X.w) X.A (letOwnedTupleGo tg (.ref it) u) (fun _ s2=>∃ x H',Inv X pins σ H' s2/\RelV x u/\(Its z).yld i H x H'/\s2.heap.IsStrIter it (strIterType z) z t (i + 1)/\∀ b ∈ [it],H' b = none) E { s with heap:=h',toks:=s.toks + 1 }:=fun h' hit hs=>by
   have I1:Inv X pins σ H { s with heap:=h',toks:=s.toks + 1 }:=I.turned (fun b o hb e=>(hs.2 b hb).trans e) f0 f1 f3 f4 f5
   obtain ⟨o,e1,e2,e3⟩:=id hit
   refine ⟨_,rfl,go_of (s:={ s with heap:=h',toks:=s.toks + 1 }) e1 e2 e3 ?_ ⟨.str ⟨#[z.cps[i]]⟩,H,I1,⟨_,rfl⟩,⟨rfl,_,hx,rfl⟩,hit,fun b hb=>(hf b hb).1⟩⟩
   unfold strIterType
   split <;> decide
  cases ha:z.cps.all (· < 128)
  ·have e:strIterType z = "str_iterator":=by simp [strIterType,ha]
   rw [e] at st
   exact wpAny_pyNext_wide_item st hx fun h' a b=>fin h' (e.symm ▸ a) b
  ·have e:strIterType z = "str_ascii_iterator":=by simp [strIterType,ha]
   rw [e] at st
   exact wpAny_pyNext_ascii_item st hx fun h' a b=>fin h' (e.symm ▸ a) b
 done:=by
  intro X hP hw hK hc i pins s σ H E I hf st hg
  subst hP hw hK
  obtain ⟨f0,f1,f2,f3,f4,f5⟩:=hf it (by simp)
  have hi:z.cps.size<=i:=hg
  have hx:z.cps[i]? = none:=by simp [hi]
  have fin:∀ h',Heap.ExtBut it s.heap h'->(none:Option Value) = none/\Inv X pins σ H { s with heap:=h' }:=fun h' eb=>⟨rfl,I.turned (t':=s.toks) (fun b o hb e=>eb b o hb e) f0 f1 f3 f4 f5⟩
  cases ha:z.cps.all (· < 128)
  ·have e:strIterType z = "str_iterator":=by simp [strIterType,ha]
   rw [e] at st
   exact wpAny_pyNext_wide_end (I.ok.hd hc) st hx fin
  ·have e:strIterType z = "str_ascii_iterator":=by simp [strIterType,ha]
   rw [e] at st
   exact wpAny_pyNext_ascii_end (I.ok.hd hc) st hx fin
 self:=fun A i s Q E st h=>by
  cases ha:z.cps.all (· < 128)
  ·have e:strIterType z = "str_iterator":=by simp [strIterType,ha]
   rw [e] at st
   exact wpAny_pyIter_striter_wide st h
  ·have e:strIterType z = "str_ascii_iterator":=by simp [strIterType,ha]
   rw [e] at st
   exact wpAny_pyIter_striter_ascii st h
section
variable {X:Cx} {tg:Expr}
def iStr (tl:TE):TI:=fun σ H R=>tl σ H fun x H1=>∃ z,x = .str z/\R (Its z) H1
theorem pi_str {l:Expr} {tl:TE} (hl:PE X l tl):PI X tg l (iStr tl):=by
 refine ⟨?_⟩
 intro pins s σ H R I h
 refine thn (hl pins s σ H _ I h) fun v s1 ⟨x,H1,I1,r1,q1⟩=>?_
 obtain ⟨z,e,q⟩:=q1
 subst e
 obtain ⟨t,rfl⟩:=r1
 refine wpAny_pyIter_strU ?_
 refine ⟨s1.heap.objs.size,[s1.heap.objs.size],_,_,H1,rfl,I1.kept (t':=s1.toks) fun b o e=>Heap.get?_push_of_some _ e,turn_str _ z t,⟨_,Heap.get?_push_size _ rfl,rfl,rfl⟩,fun b hb=>?_,q⟩
 have e:b = s1.heap.objs.size:=by simpa using hb
 subst e
 exact I1.fpOk (Nat.le_refl _) (I1.hok.fresh (Nat.le_refl _))
def rSlS:V->Option Int->Option Int->Hp->VK->Prop:=fun x lo hi H Q=>∃ z,x = .str z/\z.length<=sizeLine/\Q (.str (Txt.slice z lo hi)) H
theorem sl_str:SlR X rSlS:=by
 intro pins s σ H x v vl vu lo hi sl Q I rx hs pl pu h
 obtain ⟨z,rfl,hz,q⟩:=h
 obtain ⟨t,rfl⟩:=rx
 refine ⟨"str",_,F.slot_str_getitem.lookup,typeIs_str _ _ _,?_⟩
 have fin:∀ t' k,EP X pins σ Q (.str (Txt.slice z lo hi) t') { s with toks:=k }:=fun t' k=>⟨.str (Txt.slice z lo hi),H,I.tok k,⟨t',rfl⟩,q⟩
 cases pl with
 | none=>
  cases pu with
  | none=>exact wpAny_getItem_str_slice (l:=none) (u:=none) (st:=none) hs rfl (post_val_or_str ⟨Nat.le_trans (Txt.slice_le z _ _) hz,fin⟩)
  | int j tj=>exact wpAny_getItem_str_slice (l:=none) (u:=some (j,tj)) (st:=none) hs rfl (post_val_or_str ⟨Nat.le_trans (Txt.slice_le z _ _) hz,fin⟩)
 | int i ti=>
  cases pu with
  | none=>exact wpAny_getItem_str_slice (l:=some (i,ti)) (u:=none) (st:=none) hs rfl (post_val_or_str ⟨Nat.le_trans (Txt.slice_le z _ _) hz,fin⟩)
  | int j tj=>exact wpAny_getItem_str_slice (l:=some (i,ti)) (u:=some (j,tj)) (st:=none) hs rfl (post_val_or_str ⟨Nat.le_trans (Txt.slice_le z _ _) hz,fin⟩)
theorem call_allB (hc:X.calm = true):CallR X (.builtin "all") (fun xs H Q=>∃ (p:Addr) (bs:List Bool),xs = [.ref p]/\SqL X.K H p (bs.map V.bl)/\Q (.bl (bs.all id)) H):=by
 intro pins s σ H xs us Q I r h
 obtain ⟨p,bs,rfl,hS,q⟩:=h
 obtain ⟨u,rfl,ru⟩:=vals1 r
 cases ru
 obtain ⟨its,rv,hp,hz⟩:=I.list hS
 have hlen:its.length = bs.length:=by rw [<- rv.length,List.length_map]
 have hne:p ≠ s.heap.objs.size:=Nat.ne_of_lt (by obtain ⟨_,e,_⟩:=hp.isList; exact Heap.lt_size e)
 refine call_all_walk (wpAny_pyIter_list hp.isList ?_)
 refine ⟨s.heap.objs.size,_,_,_,_,_,fun i=>bs.getD i false,rfl,Walks.list (A:=X.A.in1) (I.ok.hd hc) s.heap.objs.size p hne its.toArray,⟨⟨_,Heap.get?_push_size _ rfl,rfl,rfl⟩,hp.isList.push _⟩,?_,fun h' tk k=>?_⟩
 ·intro i v s' Q' E' hP hQ
  have hv:its[i]? = some v:=by simpa using hP
  have hi:i < bs.length:=by rw [<- hlen]; exact (List.getElem?_eq_some_iff.mp hv).1
  obtain ⟨u',e1,e2⟩:=rv.get (i:=i) (x:=V.bl bs[i]) (by rw [List.getElem?_map,List.getElem?_eq_getElem hi]; rfl)
  rw [hv] at e1
  cases e1
  cases e2
  refine wpAny_truthy_bool ?_
  have:bs.getD i false = bs[i]:=by rw [List.getD_eq_getElem?_getD,List.getElem?_eq_getElem hi]; rfl
  rw [<- this]
  exact hQ
 ·have e:((List.range its.toArray.size).all fun i=>bs.getD i false) = bs.all id:=by
   rw [List.size_toArray,hlen,Bool.eq_iff_iff,List.all_eq_true,List.all_eq_true]
   constructor
   ·intro hh b hb
    obtain ⟨i,hi,rfl⟩:=List.getElem_of_mem hb
    have:=hh i (List.mem_range.mpr hi)
    rw [List.getD_eq_getElem?_getD,List.getElem?_eq_getElem hi] at this
    exact this
   ·intro hh i hi
    have hi':=List.mem_range.mp hi
    rw [List.getD_eq_getElem?_getD,List.getElem?_eq_getElem hi']
    exact hh _ (List.getElem_mem hi')
  rw [e]
  exact ⟨.bl (bs.all id),H,I.kept (h':=h') (t':=tk) (fun b o q=>k b o (fun hm=>by
   have e:b = s.heap.objs.size:=by simpa using hm
   exact absurd (Heap.lt_size q) (by rw [e]; exact Nat.lt_irrefl _)) (Heap.get?_push_of_some _ q)),rfl,q⟩
theorem call_isinst:CallR X (.builtin "isinstance") (fun xs H Q=>∃ x T t b,xs = [x,.ty T]/\TyOf X.K H x t/\kitOne X.K t (.type T) = some b/\Q (.bl b) H):=by
 intro pins s σ H xs us Q I r h
 obtain ⟨x,T,t,b,rfl,ty,e,q⟩:=h
 obtain ⟨u,w',rfl,ru,rw'⟩:=vals2 r
 cases rw'
 exact isinst_ok I ru ty e fun tk=>⟨.bl b,H,I.tok tk,rfl,q⟩
end
def isSt:Expr->Bool
 | .Starred ..=>true
 | _=>false
theorem star_cons {e:Expr} {es:List Expr} {env:Env} (h:isSt e = false):starEach (e :: es) env = (false,eval e env) :: starEach es env:=by
 cases e <;> first | rfl | cases h
theorem star_any {env:Env} {pos:Pos}:∀ {es:List Expr},es.any isSt = false->(backTo pos (starEach es env)).any (·.1) = false
 | [],_=>rfl
 | e :: es,h=>by
  rw [List.any_cons,Bool.or_eq_false_iff] at h
  rw [star_cons h.1]
  show (false || (backTo pos (starEach es env)).any (·.1)) = false
  rw [star_any h.2]
  rfl
section
variable {X:Cx} {CX:CXT} {k:Nat} {f C:Addr} {fd:FuncData} {ps:List Str} {sp:Sp} {dvs:List V} {ds:List Value} {E:XK} {x m:Str} {p pos apos:Pos} {e o:Expr} {es:List Expr} {te ta:TE} {t:TA} {id T:String} {r:List V->Hp->VK->Prop}
theorem ac (ha:PE X e te) (hr:PA X es t) (h:isSt e = false:=by rfl):PA X (e :: es) (tCons te t):=pa_cons ha hr (star_cons h)
theorem cB (hc:CallR X (.builtin id) r) (hm:X.mg x = none) (hv:bootBuiltins x = some (.builtin id)) (ha:PA X (e :: es) t) (hg:Gl X x:=by rfl) (hn:x ≠ "__name__":=by decide) (hdb:(x == ("__debug__" : Str)) = false:=by decide)
  (h1:isSt e = false:=by rfl) (h2:es.any isSt = false:=by rfl):PE X (.Call (.Name x p) (e :: es) [] pos) (tCB r t):=pe_callB hc hg hm hv ha hn hdb (star_cons h1) (star_any h2)
theorem cTy (hc:CallR X (.type T) r) (hm:X.mg x = none) (hv:bootBuiltins x = some (.type T)) (ha:PA X (e :: es) t) (hg:Gl X x:=by rfl) (hn:x ≠ "__name__":=by decide) (hdb:(x == ("__debug__" : Str)) = false:=by decide)
  (h1:isSt e = false:=by rfl) (h2:es.any isSt = false:=by rfl):PE X (.Call (.Name x p) (e :: es) [] pos) (tCB r t):=pe_callTy hc hg hm hv ha hn hdb (star_cons h1) (star_any h2)
structure Callee (P:Program) (w:World) (K:Frag) (mg:Str->Option Value) (base:Heap) (k:Nat) (x:Str) (f:Addr) (fd:FuncData) (ps:List Str) (sp:Sp):Prop where
 ok:FnOk P w K mg base CX0 k f fd ps sp
 mg:mg x = some (.ref f)
 kp:keepIn K (.ref f) = true
 bd:Binds K fd ps []
theorem cF (c:Callee X.prog X.w X.K X.mg X.base k x f fd ps sp) (hr:Room k X.A) (ha:PA X (e :: es) t) (hg:Gl X x:=by rfl) (hdb:(x == ("__debug__" : Str)) = false:=by decide)
  (h1:isSt e = false:=by rfl) (h2:es.any isSt = false:=by rfl):PE X (.Call (.Name x p) (e :: es) [] pos) (tCall sp [] E0 t):=
 pe_call c.ok hr hg c.mg c.kp c.bd .nil pass0 ha hdb (star_cons h1) (star_any h2)
end
end L2
namespace L2
open PySem PyProof.Rows
theorem kt_NoneType_str (K:Frag):kitOne K (.type "NoneType") (.type "str") = some false:=by kernel_rfl
theorem kt_int_str (K:Frag):kitOne K (.type "int") (.type "str") = some false:=by kernel_rfl
theorem kt_int_bool (K:Frag):kitOne K (.type "int") (.type "bool") = some false:=by kernel_rfl
theorem kt_int_list (K:Frag):kitOne K (.type "int") (.type "list") = some false:=by kernel_rfl
theorem kt_bool_str (K:Frag):kitOne K (.type "bool") (.type "str") = some false:=by kernel_rfl
theorem kt_bool_bool (K:Frag):kitOne K (.type "bool") (.type "bool") = some true:=by kernel_rfl
theorem kt_str_str (K:Frag):kitOne K (.type "str") (.type "str") = some true:=by kernel_rfl
theorem kt_str_list (K:Frag):kitOne K (.type "str") (.type "list") = some false:=by kernel_rfl
theorem kt_list_str (K:Frag):kitOne K (.type "list") (.type "str") = some false:=by kernel_rfl
theorem kt_list_list (K:Frag):kitOne K (.type "list") (.type "list") = some true:=by kernel_rfl
theorem kt_tuple_str (K:Frag):kitOne K (.type "tuple") (.type "str") = some false:=by kernel_rfl
theorem kt_dict_str (K:Frag):kitOne K (.type "dict") (.type "str") = some false:=by kernel_rfl
end L2
namespace L2
open PySem PySem.Spec PyProof.Rows
inductive Dt where
 | non | bl (b:Bool) | int (i:Int) | str (z:Str) | tup (ds:List Dt) | lst (ds:List Dt)
def FlatD:V->Dt->Prop
 | .non,.non=>True
 | .bl a,.bl b=>a = b
 | .int a,.int b=>a = b
 | .str a,.str b=>a = b
 | _,_=>False
def Says (K:Frag) (ok:Addr->Prop) (H:Hp):Nat->V->Dt->Prop
 | 0,x,d=>FlatD x d
 | n + 1,x,d=>FlatD x d\/(∃ a xs ds,x = .ref a/\d = .tup ds/\SqT K H a xs/\Paired (Says K ok H n) xs ds)\/(∃ a xs ds,x = .ref a/\d = .lst ds/\ok a/\H a = some (.lst xs)/\Paired (Says K ok H n) xs ds)
section
variable {K:Frag} {ok ok':Addr->Prop} {H H':Hp}
theorem Says.flat {n:Nat} {x:V} {d:Dt} (h:FlatD x d):Says K ok H n x d:=by
 cases n with
 | zero=>exact h
 | succ n=>exact .inl h
theorem Says.int {n:Nat} {i:Int}:Says K ok H n (.int i) (.int i):=.flat rfl
theorem Says.str {n:Nat} {z:Str}:Says K ok H n (.str z) (.str z):=.flat rfl
theorem Says.bl {n:Nat} {b:Bool}:Says K ok H n (.bl b) (.bl b):=.flat rfl
theorem Says.tup {n:Nat} {a:Addr} {xs:List V} {ds:List Dt} (h:SqT K H a xs) (r:Paired (Says K ok H n) xs ds):Says K ok H (n + 1) (.ref a) (.tup ds):=.inr (.inl ⟨a,xs,ds,rfl,rfl,h,r⟩)
theorem Says.lst {n:Nat} {a:Addr} {xs:List V} {ds:List Dt} (o:ok a) (h:H a = some (.lst xs)) (r:Paired (Says K ok H n) xs ds):Says K ok H (n + 1) (.ref a) (.lst ds):=.inr (.inr ⟨a,xs,ds,rfl,rfl,o,h,r⟩)
theorem Says.frame (hT:∀ a xs,SqT K H a xs->SqT K H' a xs) (hL:∀ a xs,ok a->H a = some (.lst xs)->ok' a/\H' a = some (.lst xs)):∀ {n:Nat} {x:V} {d:Dt},Says K ok H n x d->Says K ok' H' n x d
 | 0,_,_,h=>h
 | n + 1,x,d,h=>by
  rcases h with h | ⟨a,xs,ds,e1,e2,h,r⟩ | ⟨a,xs,ds,e1,e2,o,h,r⟩
  ·exact .inl h
  ·exact .inr (.inl ⟨a,xs,ds,e1,e2,hT a xs h,Paired.imp' (fun _ _ z=>Says.frame hT hL z) r⟩)
  ·exact .inr (.inr ⟨a,xs,ds,e1,e2,(hL a xs o h).1,(hL a xs o h).2,Paired.imp' (fun _ _ z=>Says.frame hT hL z) r⟩)
theorem Same.sqT {a:Addr} {xs:List V} (e:Same H H') (h:SqT K H a xs):SqT K H' a xs:=by
 rcases h with (h | ⟨o,h⟩) | h
 ·exact .inl (.inl (e _ _ h))
 ·exact .inl (.inr ⟨o,e _ _ h⟩)
 ·exact .inr h
theorem Says.same {n:Nat} {x:V} {d:Dt} (e:Same H H') (h:Says K ok H n x d):Says K ok H' n x d:=h.frame (fun _ _ z=>e.sqT z) fun _ _ o z=>⟨o,e _ _ z⟩
theorem Paired.get {α β : Type} {F : α->β->Prop}:∀ {l₁:List α} {l₂:List β} {i:Nat} {a : α},Paired F l₁ l₂->l₁[i]? = some a->∃ b,l₂[i]? = some b/\F a b
 | _,_,_,_,.nil,e=>by simp at e
 | _,_,0,_,.cons r _,e=>by simp at e; subst e; exact ⟨_,rfl,r⟩
 | _,_,i + 1,a,.cons _ t,e=>by
  obtain ⟨b,h1,h2⟩:=Paired.get (i:=i) (a:=a) t (by simpa using e)
  exact ⟨b,by simpa using h1,h2⟩
end
section
variable {X:Cx} {pins:List (Addr × Obj)} {σ : St} {H:Hp} {s:Shared} {ok ok':Addr->Prop}
theorem flat_same {A:Around} {x y:V} {d:Dt} {u v:Value} (hx:FlatD x d) (hy:FlatD y d) (ru:RelV x u) (rv:RelV y v):SeqAt.EqAt A s u v true:=by
 cases d with
 | non=>
  cases x <;> try exact hx.elim
  cases y <;> try exact hy.elim
  cases ru; cases rv; exact SeqAt.EqAt.same _
 | bl b=>
  cases x <;> try exact hx.elim
  cases y <;> try exact hy.elim
  rename_i a c
  obtain rfl:a = b:=hx
  obtain rfl:c = a:=hy
  cases ru; cases rv; exact SeqAt.EqAt.same _
 | int b=>
  cases x <;> try exact hx.elim
  cases y <;> try exact hy.elim
  rename_i a c
  obtain rfl:a = b:=hx
  obtain rfl:c = a:=hy
  obtain ⟨t,rfl⟩:=ru
  obtain ⟨t',rfl⟩:=rv
  have:=SeqAt.EqAt.int_int (A:=A) (s:=s) c t c t'
  simpa using this
 | str b=>
  cases x <;> try exact hx.elim
  cases y <;> try exact hy.elim
  rename_i a c
  obtain rfl:a = b:=hx
  obtain rfl:c = a:=hy
  obtain ⟨t,rfl⟩:=ru
  obtain ⟨t',rfl⟩:=rv
  have:=SeqAt.EqAt.str_str (A:=A) (s:=s) c t c t'
  simpa using this
 | tup ds=>cases x <;> exact hx.elim
 | lst ds=>cases x <;> exact hx.elim
theorem flat_ref {a:Addr} {d:Dt} (h:FlatD (.ref a) d):False:=by cases d <;> exact h
theorem all_true (n:Nat):((List.range n).all fun _=>true) = true:=by rw [List.all_eq_true]; intro _ _; rfl
theorem eqAt_same (I:Inv X pins σ H s):∀ (n:Nat) {A:Around} {x y:V} {d:Dt} {u v:Value},Says X.K ok H n x d->Says X.K ok' H n y d->RelV x u->RelV y v->A.units + n < cLine->SeqAt.EqAt A s u v true
 | 0,A,x,y,d,u,v,hx,hy,ru,rv,_=>flat_same hx hy ru rv
 | n + 1,A,x,y,d,u,v,hx,hy,ru,rv,hu=>by
  have hin:A.in1.units + n < cLine:=by show A.units + 1 + n < cLine; omega
  rcases hx with hx | ⟨a,xs,ds,rfl,rfl,hx,r⟩ | ⟨a,xs,ds,rfl,rfl,_,hx,r⟩
  ·rcases hy with hy | ⟨b,ys,es,rfl,rfl,hy,q⟩ | ⟨b,ys,es,rfl,rfl,_,hy,q⟩
   ·exact flat_same hx hy ru rv
   ·cases x <;> exact hx.elim
   ·cases x <;> exact hx.elim
  ·rcases hy with hy | ⟨b,ys,es,rfl,e2,hy,q⟩ | ⟨b,ys,es,rfl,e2,_,hy,q⟩
   ·cases y <;> exact hy.elim
   ·cases e2
    cases ru; cases rv
    by_cases hab:a = b
    ·subst hab; exact SeqAt.EqAt.same _
    ·obtain ⟨ia,va,pa,_⟩:=I.tuple hx
     obtain ⟨ib,vb,pb,_⟩:=I.tuple hy
     have la:ia.length = ds.length:=by rw [<- va.length,r.length]
     have lb:ib.length = ds.length:=by rw [<- vb.length,q.length]
     have:=SeqAt.RcAt.tuples (A:=A) (s:=s) (e:=fun _=>true) (show s.heap.IsTuple a ia.toArray from pa) (show s.heap.IsTuple b ib.toArray from pb) (by omega) (fun j h1 h2=>by
      have j1:j < ia.length:=by simpa using h1
      have j2:j < ib.length:=by simpa using h2
      have hxl:j < xs.length:=by rw [va.length]; exact j1
      have hyl:j < ys.length:=by rw [vb.length]; exact j2
      obtain ⟨u',e1,e2⟩:=va.get (i:=j) (List.getElem?_eq_getElem hxl)
      obtain ⟨v',e3,e4⟩:=vb.get (i:=j) (List.getElem?_eq_getElem hyl)
      obtain ⟨d1,f1,f2⟩:=Paired.get r (List.getElem?_eq_getElem hxl)
      obtain ⟨d2,f3,f4⟩:=Paired.get q (List.getElem?_eq_getElem hyl)
      rw [f1] at f3
      cases f3
      rw [List.getElem?_eq_getElem j1] at e1
      rw [List.getElem?_eq_getElem j2] at e3
      cases e1; cases e3
      simpa using eqAt_same I n f2 f4 e2 e4 hin)
     rw [all_true] at this
     have z:(ia.toArray.size == ib.toArray.size) = true:=by simp [la,lb]
     rw [z] at this
     exact SeqAt.EqAt.of_refs hab this
   ·cases e2
  ·rcases hy with hy | ⟨b,ys,es,rfl,e2,hy,q⟩ | ⟨b,ys,es,rfl,e2,_,hy,q⟩
   ·cases y <;> exact hy.elim
   ·cases e2
   ·cases e2
    cases ru; cases rv
    by_cases hab:a = b
    ·subst hab; exact SeqAt.EqAt.same _
    ·obtain ⟨ia,va,pa,_⟩:=I.list (SqL.of hx)
     obtain ⟨ib,vb,pb,_⟩:=I.list (SqL.of hy)
     have la:ia.length = ds.length:=by rw [<- va.length,r.length]
     have lb:ib.length = ds.length:=by rw [<- vb.length,q.length]
     have:=SeqAt.RcAt.lists (A:=A) (s:=s) (e:=fun _=>true) pa.isList pb.isList (by simp [la,lb]) (by omega) (fun j h1 h2=>by
      have j1:j < ia.length:=by simpa using h1
      have j2:j < ib.length:=by simpa using h2
      have hxl:j < xs.length:=by rw [va.length]; exact j1
      have hyl:j < ys.length:=by rw [vb.length]; exact j2
      obtain ⟨u',e1,e2⟩:=va.get (i:=j) (List.getElem?_eq_getElem hxl)
      obtain ⟨v',e3,e4⟩:=vb.get (i:=j) (List.getElem?_eq_getElem hyl)
      obtain ⟨d1,f1,f2⟩:=Paired.get r (List.getElem?_eq_getElem hxl)
      obtain ⟨d2,f3,f4⟩:=Paired.get q (List.getElem?_eq_getElem hyl)
      rw [f1] at f3
      cases f3
      rw [List.getElem?_eq_getElem j1] at e1
      rw [List.getElem?_eq_getElem j2] at e3
      cases e1; cases e3
      simpa using eqAt_same I n f2 f4 e2 e4 hin)
     rw [all_true] at this
     exact SeqAt.EqAt.of_refs hab this
theorem rc_same (I:Inv X pins σ H s) {n:Nat} {A:Around} {a b:Addr} {d:Dt} (hx:Says X.K ok H (n + 1) (.ref a) d) (hy:Says X.K ok' H (n + 1) (.ref b) d) (hu:A.units + n + 1 < cLine) :
  SeqAt.RcAt A s (.ref a) (.ref b) true/\SeqAt.RcNeAt A s (.ref a) (.ref b) false:=by
 have hin:A.in1.units + n < cLine:=by show A.units + 1 + n < cLine; omega
 rcases hx with hx | ⟨a,xs,ds,e0,rfl,hx,r⟩ | ⟨a,xs,ds,e0,rfl,_,hx,r⟩
 ·exact (flat_ref hx).elim
 ·cases e0
  rcases hy with hy | ⟨b,ys,es,e1,e2,hy,q⟩ | ⟨b,ys,es,e1,e2,_,hy,q⟩
  ·exact (flat_ref hy).elim
  ·cases e1; cases e2
   obtain ⟨ia,va,pa,_⟩:=I.tuple hx
   obtain ⟨ib,vb,pb,_⟩:=I.tuple hy
   have la:ia.length = ds.length:=by rw [<- va.length,r.length]
   have lb:ib.length = ds.length:=by rw [<- vb.length,q.length]
   have el:∀ j (h1:j < ia.toArray.size) (h2:j < ib.toArray.size),SeqAt.EqAt A.in1 s ia.toArray[j] ib.toArray[j] true:=fun j h1 h2=>by
    have j1:j < ia.length:=by simpa using h1
    have j2:j < ib.length:=by simpa using h2
    have hxl:j < xs.length:=by rw [va.length]; exact j1
    have hyl:j < ys.length:=by rw [vb.length]; exact j2
    obtain ⟨u',e1,e2⟩:=va.get (i:=j) (List.getElem?_eq_getElem hxl)
    obtain ⟨v',e3,e4⟩:=vb.get (i:=j) (List.getElem?_eq_getElem hyl)
    obtain ⟨d1,f1,f2⟩:=Paired.get r (List.getElem?_eq_getElem hxl)
    obtain ⟨d2,f3,f4⟩:=Paired.get q (List.getElem?_eq_getElem hyl)
    rw [f1] at f3
    cases f3
    rw [List.getElem?_eq_getElem j1] at e1
    rw [List.getElem?_eq_getElem j2] at e3
    cases e1; cases e3
    simpa using eqAt_same I n f2 f4 e2 e4 hin
   have z:(ia.toArray.size == ib.toArray.size) = true:=by simp [la,lb]
   have t1:=SeqAt.RcAt.tuples (A:=A) (s:=s) (e:=fun _=>true) (show s.heap.IsTuple a ia.toArray from pa) (show s.heap.IsTuple b ib.toArray from pb) (by omega) el
   have t2:=SeqAt.RcNeAt.tuples (A:=A) (s:=s) (e:=fun _=>true) (show s.heap.IsTuple a ia.toArray from pa) (show s.heap.IsTuple b ib.toArray from pb) (by omega) el
   rw [all_true,z] at t1 t2
   exact ⟨t1,t2⟩
  ·cases e1; cases e2
 ·cases e0
  rcases hy with hy | ⟨b,ys,es,e1,e2,hy,q⟩ | ⟨b,ys,es,e1,e2,_,hy,q⟩
  ·exact (flat_ref hy).elim
  ·cases e1; cases e2
  ·cases e1; cases e2
   obtain ⟨ia,va,pa,_⟩:=I.list (SqL.of hx)
   obtain ⟨ib,vb,pb,_⟩:=I.list (SqL.of hy)
   have la:ia.length = ds.length:=by rw [<- va.length,r.length]
   have lb:ib.length = ds.length:=by rw [<- vb.length,q.length]
   have el:∀ j (h1:j < ia.toArray.size) (h2:j < ib.toArray.size),SeqAt.EqAt A.in1 s ia.toArray[j] ib.toArray[j] true:=fun j h1 h2=>by
    have j1:j < ia.length:=by simpa using h1
    have j2:j < ib.length:=by simpa using h2
    have hxl:j < xs.length:=by rw [va.length]; exact j1
    have hyl:j < ys.length:=by rw [vb.length]; exact j2
    obtain ⟨u',e1,e2⟩:=va.get (i:=j) (List.getElem?_eq_getElem hxl)
    obtain ⟨v',e3,e4⟩:=vb.get (i:=j) (List.getElem?_eq_getElem hyl)
    obtain ⟨d1,f1,f2⟩:=Paired.get r (List.getElem?_eq_getElem hxl)
    obtain ⟨d2,f3,f4⟩:=Paired.get q (List.getElem?_eq_getElem hyl)
    rw [f1] at f3
    cases f3
    rw [List.getElem?_eq_getElem j1] at e1
    rw [List.getElem?_eq_getElem j2] at e3
    cases e1; cases e3
    simpa using eqAt_same I n f2 f4 e2 e4 hin
   have t1:=SeqAt.RcAt.lists (A:=A) (s:=s) (e:=fun _=>true) pa.isList pb.isList (by simp [la,lb]) (by omega) el
   have t2:=SeqAt.RcNeAt.lists (A:=A) (s:=s) (e:=fun _=>true) pa.isList pb.isList (by simp [la,lb]) (by omega) el
   rw [all_true] at t1 t2
   exact ⟨t1,t2⟩
def rSame (K:Frag) (b:Bool):R2:=fun x y H Q=>∃ (a c:Addr) (n:Nat) (d:Dt) (ok ok':Addr->Prop),x = .ref a/\y = .ref c/\n<=20/\Says K ok H (n + 1) x d/\Says K ok' H (n + 1) y d/\Q (.bl b) H
theorem op_eqS (hu:X.A.units + 64 < cLine):OpR X (compareOp .Eq) (rSame X.K true):=by
 intro pins s σ H x y v u Q I rx ry h
 obtain ⟨a,c,n,d,ok,ok',rfl,rfl,hn,hx,hy,q⟩:=h
 cases rx; cases ry
 exact (rc_same (A:=X.A) I hx hy (by omega)).1 X.prog X.w X.xe _ ⟨.bl true,H,I,rfl,q⟩
theorem op_neS (hu:X.A.units + 64 < cLine):OpR X (compareOp .NotEq) (rSame X.K false):=by
 intro pins s σ H x y v u Q I rx ry h
 obtain ⟨a,c,n,d,ok,ok',rfl,rfl,hn,hx,hy,q⟩:=h
 cases rx; cases ry
 exact (rc_same (A:=X.A) I hx hy (by omega)).2 X.prog X.w X.xe _ ⟨.bl false,H,I,rfl,q⟩
end
def Ite (K:Frag) (a:Addr):It:=
 ⟨fun i H=>∃ xs x,SqL K H a xs/\xs[i]? = some x,fun i H x H'=>∃ (p:Addr) (y:V),x = .ref p/\H p = none/\(∀ xs,SqL K H a xs->xs[i]? = some y)/\H' = upd H p (.tup [.int i,y]),fun i H=>∃ xs,SqL K H a xs/\xs.length<=i⟩
theorem turn_enum {P:Program} {w:World} {K:Frag} {elts:List Expr} {x1:Nat} {tpos:Pos} (a e it:Addr) (hne:e ≠ it) :
  Turn P w K (.Tuple elts x1 tpos) (Ite K a) [e,it] e (fun i h=>(∃ old,IsEnum h e it (i:Int) old)/\h.IsListIter it a i) where
 mem:=by simp
 obj:=fun i h st b hb=>by
  rcases List.mem_cons.mp hb with rfl | hb
  ·obtain ⟨⟨old,he⟩,_⟩:=st
   exact ⟨_,he,fun v q=>by cases q⟩
  ·have e':b = it:=by simpa using hb
   subst e'
   obtain ⟨_,o,ho,_,hd⟩:=st
   exact ⟨o,ho,fun v q=>by rw [hd] at q; cases q⟩
 keep:=fun i h h' st k=>by
  obtain ⟨⟨old,he⟩,o,ho,r⟩:=st
  exact ⟨⟨old,k e (by simp) _ he⟩,o,k it (by simp) o ho,r⟩
 item:=by
  intro X hP hw hK hc i pins s σ H E I hf st hg
  subst hP hw hK
  obtain ⟨f0,f1,f2,f3,f4,f5⟩:=hf e (by simp)
  obtain ⟨g0,g1,g2,g3,g4,g5⟩:=hf it (by simp)
  obtain ⟨⟨old,he⟩,hit⟩:=st
  obtain ⟨xs,x,hS,hx⟩:=hg
  obtain ⟨its,rv,hp,hz⟩:=I.list hS
  obtain ⟨u,hu,ru⟩:=rv.get hx
  refine wpAny_pyNext_enum_item he hit hp.isList (x:=u) (by simpa using hu) hne fun h' he' hit' htup hsz hk=>?_
  have I0:Inv X pins σ H { s with heap:=h',toks:=s.toks + 1 }:=by
   refine I.step (g':=s.gens) (d':=s.drawn) (ch:=[e,it]) (fun b hb=>?_) (fun b o _ _ hc' e1 _=>hk b o (fun z=>hc' (by simp [z])) (fun z=>hc' (by simp [z])) e1) (fun b o _ _ hc' e1 _=>⟨o.slots,hk b o (fun z=>hc' (by simp [z])) (fun z=>hc' (by simp [z])) e1⟩) (fun _ _ _ _ n=>n)
    (fun b o hc' e1=>⟨o,hk b o (fun z=>hc' (by simp [z])) (fun z=>hc' (by simp [z])) e1⟩) (fun _ _ e1=>e1) (fun _ _ _ e1=>e1) (fun b ps e1=>⟨#[],by rw [e1]; simp⟩) (fun m hm=>?_) (fun b u' e1=>?_) I.bare
   ·rcases List.mem_cons.mp hb with rfl | hb
    ·exact ⟨f3,f1,f4,f5⟩
    ·have e':b = it:=by simpa using hb
     subst e'
     exact ⟨g3,g1,g4,g5⟩
   ·obtain ⟨o,es,ep,ho,r⟩:=hm
    exact ⟨o,es,ep,hk _ o (Ne.symm f1) (Ne.symm g1) ho,r⟩
   ·have nit:∀ c v',H c = some v'->c ≠ e/\c ≠ it:=fun c v' q=>⟨fun z=>(by rw [z,f0] at q; cases q),fun z=>(by rw [z,g0] at q; cases q)⟩
    refine (I.hok b u' e1).stay (fun c v' hc' q=>?_) (fun _ q=>q) fun _ _ q=>q
    rcases hc' with z | z
    ·subst z; exact hk c v' (nit c _ e1).1 (nit c _ e1).2 q
    ·exact hk c v' (nit c _ z).1 (nit c _ z).2 q
  have hfr:H s.heap.objs.size = none:=I.hok.fresh (Nat.le_refl _)
  have I1:Inv X pins σ (upd H s.heap.objs.size (.tup [.int i,x])) { s with heap:=h',toks:=s.toks + 1 }:=by
   have hok:HOk X.prog X.w (upd H s.heap.objs.size (.tup [.int i,x])) h':=fun b o q=>by
    by_cases hb:b = s.heap.objs.size
    ·subst hb
     rw [upd_same] at q; cases q
     exact ⟨by show 2<=sizeLine; decide,[.int i s.toks,u],.cons ⟨_,rfl⟩ (.cons ru .nil),⟨_,htup,rfl,_,rfl⟩⟩
    ·rw [upd_ne hb] at q
     exact (I0.hok b o q).stay (fun _ _ _ z=>z) (fun c z=>by rw [upd_ne (ne_of_none z hfr)]; exact z) fun c xs' z=>by rw [upd_ne (ne_of_none z hfr)]; exact z
   refine I0.step (s:={ s with heap:=h',toks:=s.toks + 1 }) (g':=s.gens) (d':=s.drawn) (h':=h') (t':=s.toks + 1) (ch:=[s.heap.objs.size]) (fun b hb=>?_) (fun b o _ _ _ e1 _=>e1) (fun b o _ _ _ e1 _=>⟨o.slots,e1⟩) (fun b o hb e1 n=>by rw [upd_ne (fun z=>hb (by simp [z]))]; exact n)
    (fun b o _ e1=>⟨o,e1⟩) (fun b xs' e1=>by rw [upd_ne (ne_of_none e1 hfr)]; exact e1) (fun b o' u' e1=>by rw [upd_ne (ne_of_none e1 hfr)]; exact e1) (fun b ps e1=>⟨#[],by rw [upd_ne (ne_of_none e1 hfr),e1]; simp⟩) (fun m hm=>hm) hok I0.bare
   have e':b = s.heap.objs.size:=by simpa using hb
   subst e'
   refine ⟨.inr I.sz,fun z=>?_,fun y c h z=>?_,fun p hp' z=>?_⟩
   ·have:=I.lt; rw [<- z] at this; exact absurd this (Nat.lt_irrefl _)
   ·obtain ⟨v',hv⟩:=I.cell y c h
    have:=hv.lt; rw [z] at this; exact absurd this (Nat.lt_irrefl _)
   ·have:=I.pin_lt hp'; rw [z] at this; exact absurd this (Nat.lt_irrefl _)
  refine ⟨_,rfl,wpAny_letOwnedTupleGo_enum he' fun h2 he2 hs2=>?_⟩
  have nes:s.heap.objs.size ≠ e:=fun z=>by
   have:=Heap.lt_size (show s.heap.get? e = some _ from he)
   rw [<- z] at this; exact absurd this (Nat.lt_irrefl _)
  have nis:s.heap.objs.size ≠ it:=fun z=>by
   obtain ⟨o,ho,_⟩:=hit
   have:=Heap.lt_size ho
   rw [<- z] at this; exact absurd this (Nat.lt_irrefl _)
  have I2:Inv X pins σ (upd H s.heap.objs.size (.tup [.int i,x])) { s with heap:=h2,toks:=s.toks + 1 }:=
   I1.turned (s:={ s with heap:=h',toks:=s.toks + 1 }) (t':=s.toks + 1) (it:=e) (fun b o hb q=>(hs2.2 b hb).trans q) (by rw [upd_ne nes.symm]; exact f0) f1 f3 f4 f5
  refine ⟨.ref s.heap.objs.size,_,I2,rfl,⟨_,x,rfl,hfr,fun xs' h'=>?_,rfl⟩,⟨⟨_,by simpa using he2⟩,?_⟩,fun b hb=>?_⟩
  ·rw [I.list_inj h' hS]; exact hx
  ·obtain ⟨o,ho,r⟩:=hit'
   exact ⟨o,(hs2.2 it (Ne.symm hne)).trans ho,r⟩
  ·rcases List.mem_cons.mp hb with rfl | hb
   ·rw [upd_ne nes.symm]; exact f0
   ·have e':b = it:=by simpa using hb
    subst e'
    rw [upd_ne nis.symm]; exact g0
 done:=by
  intro X hP hw hK hc i pins s σ H E I hf st hg
  subst hP hw hK
  obtain ⟨⟨old,he⟩,hit⟩:=st
  obtain ⟨g0,g1,g2,g3,g4,g5⟩:=hf it (by simp)
  obtain ⟨xs,hS,hle⟩:=hg
  obtain ⟨its,rv,hp,hz⟩:=I.list hS
  have hx:its.toArray[i]? = none:=by simp [<- rv.length,hle]
  exact wpAny_pyNext_enum_end (I.ok.hd hc) he hit hp.isList hx fun h' eb=>⟨rfl,I.turned (t':=s.toks) (fun b o hb e1=>eb b o hb e1) g0 g1 g3 g4 g5⟩
 self:=fun A i s Q E st h=>by
  obtain ⟨⟨old,he⟩,_⟩:=st
  exact wpAny_pyIter_enum he h
section
variable {X:Cx} {elts:List Expr} {x1:Nat} {tpos:Pos}
def iEnum (K:Frag) (ta:TA):TI:=fun σ H R=>ta σ H fun vs H1=>∃ a,vs = [.ref a]/\(∃ xs,SqL K H1 a xs)/\R (Ite K a) H1
theorem pi_enum {l:Expr} {ta:TA} {p pos:Pos} (hg:Gl X "enumerate") (hm:X.mg "enumerate" = none) (ha:PA X [l] ta) (hl:isSt l = false:=by rfl):PI X (.Tuple elts x1 tpos) (.Call (.Name "enumerate" p) [l] [] pos) (iEnum X.K ta):=by
 refine ⟨?_⟩
 intro pins s σ H R I h
 refine Call_ (ld_blt I hg hm PyProof.Rows.boot_enumerate (PyProof.Rows.callWith_type1 (thn (ha pos pins s σ H _ I h) fun us s1 ⟨vs,H1,I1,r1,q1⟩=>?_) (star_cons hl) rfl))
 obtain ⟨a,e,⟨xs,hS⟩,q⟩:=q1
 subst e
 obtain ⟨u,rfl,ru⟩:=vals1 r1
 cases ru
 obtain ⟨its,rv,hp,hz⟩:=I1.list hS
 refine call_enumerate_list hp.isList fun h' he hit hsz hk=>?_
 refine wpAny_pyIter_enum he ?_
 have hfr:∀ b,s1.heap.objs.size<=b->H1 b = none:=fun b hb=>I1.hok.fresh hb
 have I2:Inv X pins σ H1 { s1 with heap:=h' }:=I1.kept (t':=s1.toks) hk
 refine ⟨s1.heap.objs.size + 1,[s1.heap.objs.size + 1,s1.heap.objs.size],_,_,H1,rfl,I2,turn_enum a _ _ (Nat.succ_ne_self _),⟨⟨_,he⟩,hit⟩,fun b hb=>?_,q⟩
 rcases List.mem_cons.mp hb with rfl | hb
 ·exact I1.fpOk (Nat.le_succ _) (hfr _ (Nat.le_succ _))
 ·have e':b = s1.heap.objs.size:=by simpa using hb
  subst e'
  exact I1.fpOk (Nat.le_refl _) (hfr _ (Nat.le_refl _))
end
end L2
namespace Att
open PySem PySem.W PySem.Calls PyProof.Rows
end Att
namespace L2
open PySem PySem.Spec PyProof.Rows
section
variable {X:Cx}
theorem op_mulB:OpR X (binaryOp .Mult) (rI IntMulOk fun i j=>.int (i * j)):=opI fun _ _ _ _ _ _ _ hc q=>mul_int q hc
end
structure FunD (K:Frag) (x qual:Str) (st:Stmt) (f:Addr) (fd:FuncData) (items:List Value):Prop where
 ex:∃ (oc:Value) (od:Option Addr) (T:Addr) (kV doc pm:Value) (an:Option Addr) (cdv ct:Value) (osl:Array (Option Value)) (o:Obj) (n:Nat),
  fd = fnOf x qual (defArgs st) (defBody st) (defScope st) (.ref T) kV doc pm an cdv ct/\K.lookup f = some ⟨oc,od,.func fd,osl⟩/\codeIn K cdv qual = true/\K.lookup T = some o/\o.data = .seq items.toArray n
 kp:keepIn K (.ref f) = true
section
variable {P:Program} {w:World} {K:Frag} {mg:Str->Option Value} {base:Heap}
theorem FunD.ok {x qual:Str} {st:Stmt} {f:Addr} {fd:FuncData} {items:List Value} {N ps:List Str} {k:Nat} {sp:Sp} (F:FunD K x qual st f fd items) (S:FnScope N ps (defScope st)) (len:∀ vs H Q E,sp vs H Q E->vs.length = ps.length)
  (hbody:∀ (cdv:Value) (A:Around) (outer:List Env) (s:Shared) (H:Hp) (vs:List V) (Q:VK) (E:XK),Room k (A.deeper (envOfC qual (defScope st) s.heap.objs.size f cdv))->sp vs H Q E->
   ∃ t,PSs (cxOf CX0 P w K mg base N qual (defScope st) f cdv A outer s H E).nox (defBody st) t/\t { nx:=fun _ H'=>Q .non H',rt:=Q } (start N vs) H):FnOk P w K mg base CX0 (k + 1) f fd ps sp:=by
 obtain ⟨oc,od,T,kV,doc,pm,an,cdv,ct,osl,o,n,rfl,lk,hcd,_,_⟩:=F.ex
 refine fn_of lk hcd S len fun A outer s H vs Q E hr hsp=>?_
 obtain ⟨t,h,q⟩:=hbody cdv A outer s H vs Q E hr hsp
 exact ⟨t,h.nox,q⟩
theorem FunD.bindsTo {x qual:Str} {st:Stmt} {f:Addr} {fd:FuncData} {items:List Value} (F:FunD K x qual st f fd items) {args:Args} {bs:List (Str × Value)}
  (h:∀ (T:Addr) (kV doc pm:Value) (an:Option Addr) (cdv ct:Value),∃ k:Option (Array Value)->Sem (List (Str × Value)),
   bindArgs (fnOf x qual (defArgs st) (defBody st) (defScope st) (.ref T) kV doc pm an cdv ct) args = seqItems? (.ref T) >>= k/\k (some items.toArray) = pure bs) {s:Shared} (KX:K.In s.heap):BindsTo s fd args bs:=by
 obtain ⟨oc,od,T,kV,doc,pm,an,cdv,ct,osl,o,n,rfl,lk,hcd,lt,hs⟩:=F.ex
 obtain ⟨k,h1,h2⟩:=h T kV doc pm an cdv ct
 exact BindsTo.of_defaults (T:=T) (n:=n) rfl (KX _ _ lt) hs h1 h2
theorem funD_mk {x qual:Str} {st:Stmt} {f T:Addr} {oc:Value} {od an:Option Addr} {osl:Array (Option Value)} {kV doc pm cdv ct:Value} {o:Obj} {n:Nat} {items:List Value}
  (l:K.lookup f = some ⟨oc,od,.func (fnOf x qual (defArgs st) (defBody st) (defScope st) (.ref T) kV doc pm an cdv ct),osl⟩)
  (c:codeIn K cdv qual = true) (k:keepIn K (.ref f) = true) (lT:K.lookup T = some o) (hs:o.data = .seq items.toArray n) :
  FunD K x qual st f (fnOf x qual (defArgs st) (defBody st) (defScope st) (.ref T) kV doc pm an cdv ct) items:=⟨⟨oc,od,T,kV,doc,pm,an,cdv,ct,osl,o,n,rfl,l,c,lT,hs⟩,k⟩
end
section
variable {X:Cx} {CX:CXT} {k:Nat} {f C:Addr} {fd:FuncData} {ps ks:List Str} {sp:Sp} {E:XK} {x:Str} {p pos:Pos} {e:Expr} {es:List Expr} {kws:List Keyword} {t tk:TA}
 {g:List Value->List Value->List Value} {gV:List V->List V->List V}
end
theorem seq_via {t u:TS} {D:Ends} {σ : St} {H:Hp} (R:St->Hp->Prop) (h2:∀ σ H,R σ H->u D σ H) (h1:(∀ σ H,R σ H->u D σ H)->t { D with nx:=u D } σ H):tSeq t u D σ H:=h1 h2
def lcN (n i:Nat) (D:Addr) (Pv:Nat->List V->Hp->Prop) (ys:List V):VK:=fun v H4=>H4 D = some (.lst ys)/\ys.length < sizeLine/\∃ m',m' < n - i/\m' = n - (i + 1)/\i + 1<=n/\Pv (i + 1) (ys ++ [v]) (upd H4 D (.lst (ys ++ [v])))
def lcS (n i:Nat) (Pv:Nat->List V->Hp->Prop) (ys:List V):Hp->Prop:=fun H4=>∃ m',m' < n - i/\m' = n - (i + 1)/\i + 1<=n/\Pv (i + 1) ys H4
theorem lcN.mk {n i:Nat} {D:Addr} {Pv:Nat->List V->Hp->Prop} {ys:List V} {v:V} {H4:Hp} (hi:i < n) (hn:n<=sizeLine) (hD:H4 D = some (.lst ys)) (hy:ys.length<=i) (p:Pv (i + 1) (ys ++ [v]) (upd H4 D (.lst (ys ++ [v])))):lcN n i D Pv ys v H4:=
 ⟨hD,by omega,n - (i + 1),by omega,rfl,hi,p⟩
theorem lcS.mk {n i:Nat} {Pv:Nat->List V->Hp->Prop} {ys:List V} {H4:Hp} (hi:i < n) (p:Pv (i + 1) ys H4):lcS n i Pv ys H4:=⟨n - (i + 1),by omega,rfl,hi,p⟩
theorem lc_list {K:Frag} {a:Addr} {xs:List V} {caps:List (Option Nat)} {g:TG} {tt:TT} {te:TE} {σ : St} {H1:Hp} {Q:VK} {D:Addr} (Pv:Nat->List V->Hp->Prop) (h0:Pv 0 [] (upd H1 D (.lst [])))
  (hl:∀ i ys H,Pv i ys H->SqL K H a xs)
  (hs:∀ i x ys H,i < xs.length->xs[i]? = some x->Pv i ys H->g x (capS caps σ) H fun σ2 H2=>tt σ2 H2 fun ok H3=>(ok = true->te σ2 H3 (lcN xs.length i D Pv ys))/\(ok = false->lcS xs.length i Pv ys H3))
  (hd:∀ ys H,Pv xs.length ys H->Q (.ref D) H):LCr (Itl K a) caps g tt te σ H1 Q D:=by
 refine ⟨fun i m ys H=>m = xs.length - i/\i<=xs.length/\Pv i ys H,⟨xs.length,by simp,Nat.zero_le _,h0⟩,?_⟩
 rintro i m ys H ⟨rfl,hi,p⟩
 have q:=hl i ys H p
 by_cases hlt:i < xs.length
 ·refine .inr ⟨⟨xs,xs[i],q,by simp [hlt]⟩,fun x H' y=>?_⟩
  obtain ⟨e,y⟩:=y
  subst e
  exact hs i x ys _ hlt (y xs q) p
 ·have e:i = xs.length:=by omega
  subst e
  exact .inl ⟨⟨xs,q,Nat.le_refl _⟩,hd ys H p⟩
theorem same_make0 {H:Hp} {x dx:Addr} {o1:HO} (hx:H x = none) (hd:H dx = none):Same H (upd (upd H dx (.own x)) x o1):=fun b u q=>by
 rw [upd_ne (ne_of_none q hx),upd_ne (ne_of_none q hd)]
 exact q
theorem same_new {H:Hp} {p:Addr} (h:H p = none) (o:HO):Same H (upd H p o):=fun b u q=>by rw [upd_ne (ne_of_none q h)]; exact q
theorem lc_range {lo:Int} {n:Nat} {caps:List (Option Nat)} {g:TG} {tt:TT} {te:TE} {σ : St} {H1:Hp} {Q:VK} {D:Addr} (Pv:Nat->List V->Hp->Prop) (h0:Pv 0 [] (upd H1 D (.lst [])))
  (hs:∀ i ys H,i < n->Pv i ys H->g (.int (lo + i)) (capS caps σ) H fun σ2 H2=>tt σ2 H2 fun ok H3=>(ok = true->te σ2 H3 (lcN n i D Pv ys))/\(ok = false->lcS n i Pv ys H3))
  (hd:∀ ys H,Pv n ys H->Q (.ref D) H):LCr (Itr lo n) caps g tt te σ H1 Q D:=by
 refine ⟨fun i m ys H=>m = n - i/\i<=n/\Pv i ys H,⟨n,by simp,Nat.zero_le _,h0⟩,?_⟩
 rintro i m ys H ⟨rfl,hi,p⟩
 by_cases hlt:i < n
 ·refine .inr ⟨hlt,fun x H' y=>?_⟩
  obtain ⟨e,y⟩:=y
  subst e y
  exact hs i ys _ hlt p
 ·have e:i = n:=by omega
  subst e
  exact .inl ⟨Nat.le_refl _,hd ys H p⟩
theorem lc_enum {K:Frag} {a:Addr} {xs:List V} {caps:List (Option Nat)} {g:TG} {tt:TT} {te:TE} {σ : St} {H1:Hp} {Q:VK} {D:Addr} (Pv:Nat->List V->Hp->Prop) (h0:Pv 0 [] (upd H1 D (.lst [])))
  (hl:∀ i ys H,Pv i ys H->SqL K H a xs)
  (hs:∀ i x p ys H,i < xs.length->xs[i]? = some x->Pv i ys H->H p = none->g (.ref p) (capS caps σ) (upd H p (.tup [.int i,x])) fun σ2 H2=>tt σ2 H2 fun ok H3=>(ok = true->te σ2 H3 (lcN xs.length i D Pv ys))/\(ok = false->lcS xs.length i Pv ys H3))
  (hd:∀ ys H,Pv xs.length ys H->Q (.ref D) H):LCr (Ite K a) caps g tt te σ H1 Q D:=by
 refine ⟨fun i m ys H=>m = xs.length - i/\i<=xs.length/\Pv i ys H,⟨xs.length,by simp,Nat.zero_le _,h0⟩,?_⟩
 rintro i m ys H ⟨rfl,hi,p⟩
 have q:=hl i ys H p
 by_cases hlt:i < xs.length
 ·refine .inr ⟨⟨xs,xs[i],q,by simp [hlt]⟩,fun x H' y=>?_⟩
  obtain ⟨pp,y,rfl,hp,y2,rfl⟩:=y
  exact hs i y pp ys H hlt (y2 xs q) p hp
 ·have e:i = xs.length:=by omega
  subst e
  exact .inl ⟨⟨xs,q,Nat.le_refl _⟩,hd ys H p⟩
theorem for_enum {K:Frag} {a:Addr} {xs:List V} {g:TG} {tb:TS} {D:Ends} {σ : St} {H:Hp} (Pv:Nat->St->Hp->Prop) (h0:Pv 0 σ H) (hl:∀ i σ H,i<=xs.length->Pv i σ H->SqL K H a xs)
  (hs:∀ i x p σ H,xs[i]? = some x->Pv i σ H->H p = none->g (.ref p) σ (upd H p (.tup [.int i,x])) fun σ2 H2=>tb { D with nx:=Pv (i + 1),ct:=Pv (i + 1),bk:=D.nx } σ2 H2) (hd:∀ σ H,Pv xs.length σ H->D.nx σ H) :
  ∃ W:Nat->Nat->St->Hp->Prop,(∃ m,W 0 m σ H)/\∀ i m σ H,W i m σ H->
   ((Ite K a).stop i H/\D.nx σ H)\/((Ite K a).go i H/\∃ N:St->Hp->Prop,(∀ σ' H',N σ' H'->∃ m',m' < m/\W (i + 1) m' σ' H')/\∀ x H',(Ite K a).yld i H x H'->g x σ H' fun σ2 H2=>tb { D with nx:=N,ct:=N,bk:=D.nx } σ2 H2):=by
 refine ⟨fun i m σ H=>m = xs.length - i/\i<=xs.length/\Pv i σ H,⟨xs.length,by simp,Nat.zero_le _,h0⟩,?_⟩
 rintro i m σ H ⟨rfl,hi,p⟩
 have q:=hl i σ H hi p
 by_cases hlt:i < xs.length
 ·refine .inr ⟨⟨xs,xs[i],q,by simp [hlt]⟩,Pv (i + 1),fun σ' H' p'=>⟨xs.length - (i + 1),by omega,rfl,hlt,p'⟩,fun x H' y=>?_⟩
  obtain ⟨pp,y,rfl,hp,y2,rfl⟩:=y
  exact hs i y pp σ H (y2 xs q) p hp
 ·have e:i = xs.length:=by omega
  subst e
  exact .inl ⟨⟨xs,q,Nat.le_refl _⟩,hd σ H p⟩
theorem bits_le {a c:Int} (h:a.natAbs<=c.natAbs):Builtin.Int.intBits a<=Builtin.Int.intBits c:=by
 unfold Builtin.Int.intBits
 by_cases e:a = 0
 ·rw [e]; exact Nat.zero_le _
 ·have e2:¬ c = 0:=fun z=>by omega
  rw [if_neg (by simpa using e),if_neg (by simpa using e2)]
  have:a.natAbs.log2<=c.natAbs.log2:=(Nat.le_log2 (by omega)).mpr (Nat.le_trans (Nat.log2_self_le (by omega)) h)
  omega
structure Fly (P:Program) (w:World) (outer:List Env) (H:Hp) (s:Shared) (cls:Value) (H':Hp) (ea:Addr) (s':Shared):Prop where
 os:s'.os = s.os
 bare:AllBare s'.gens
 un:Un (frs outer) [] H H' s.heap s'.heap
 hok:HOk P w H' s'.heap
 nt:H' ea = none
 fly:∃ B a0,Heap.FlyingW B outer ea cls a0 s'.heap/\(∀ b u,H' b = some u->∃ o,B.get? b = some o)/\(∀ b o,s.heap.get? b = some o->H b = none->b ∉ frs outer->B.get? b = some o)/\
  ∀ b o,s.heap.get? b = some o->b ∉ frs outer->∃ o',B.get? b = some o'
abbrev CXe (P:Program) (w:World):CXT:=fun outer H s E e s'=>∃ ea cls H',e = .ref ea/\Fly P w outer H s cls H' ea s'/\E cls none H'
section
variable {X:Cx} {pins:List (Addr × Obj)} {σ : St} {H H':Hp} {s s':Shared} {ea:Addr} {cls:Value} {vs:List Value} {h':Heap} {M:Model} {E:Value->Shared->Prop}
theorem frs_stack (hstk:X.stack = X.env :: X.outer) (hfl:X.env.frame = some X.env.locals):frs X.stack = X.env.locals :: frs X.outer:=by
 rw [hstk]
 unfold frs
 rw [List.filterMap_cons,hfl]
theorem HOk.sameAt {P:Program} {w:World} {h h':Heap} (x:HOk P w H h) (k:∀ b u o,H b = some u->h.get? b = some o->h'.get? b = some o):HOk P w H h':=fun a o e=>
 (x a o e).stay (fun b u hb q=>by
  rcases hb with z | z
  ·exact k b o u (by rw [z]; exact e) q
  ·exact k b _ u z q) (fun _ q=>q) fun _ _ q=>q
theorem HOk.rec {P:Program} {w:World} {h:Heap} (x:HOk P w H h) {b:Addr} {u:HO} (e:H b = some u):∃ o,h.get? b = some o:=by
 have q:=x b u e
 cases u with
 | lst xs=>obtain ⟨_,_,_,_,e⟩:=q; exact ⟨_,e⟩
 | tup xs=>obtain ⟨_,_,_,o,e,_⟩:=q; exact ⟨_,e⟩
 | dK kvs=>obtain ⟨_,_,_,_,o,_,_,e,_⟩:=q; exact ⟨_,e⟩
 | dT kvs=>obtain ⟨_,_,_,_,o,_,_,e,_⟩:=q; exact ⟨_,e⟩
 | set S n=>obtain ⟨o,_,_,_,e,_⟩:=q; exact ⟨_,e⟩
 | ins C dx fs=>obtain ⟨_,_,_,e,_⟩:=q; exact ⟨_,e⟩
 | own y=>exact q
 | xd fs=>obtain ⟨_,⟨o,_,_,e,_⟩,_⟩:=q; exact ⟨_,e⟩
 | rng lo hi=>obtain ⟨_,_,_,e⟩:=q; exact ⟨_,e⟩
 | frz ob u=>obtain ⟨e,_⟩:=q; exact ⟨_,e⟩
 | tbl ps=>exact ⟨_,q⟩
 | met f y=>exact ⟨_,q⟩
 | ext φ=>exact q.2.1
theorem fly_made (I:Inv X pins σ H s) (hstk:X.stack = X.env :: X.outer) (hfl:X.env.frame = some X.env.locals) (hex:X.ex = []) (hx:Heap.MadeExcOf s.heap h' ea cls vs) :
  wpAny M X.A (leaving X.env (.ref ea)) (fun _ s''=>Fly X.prog X.w X.outer X.H₀ X.s₀ cls H ea s'') E { s with heap:=h' }:=by
 have fr:=frs_stack hstk hfl
 have fl:s.heap.FunFrames (hideAll s.heap (frs X.stack)) (X.env :: X.outer):=by
  have:=I.stack
  rw [hstk] at this
  refine PySem.W.funFrames_hide this fun env he b hb=>?_
  rw [hstk]
  exact List.mem_filterMap.mpr ⟨env,he,hb⟩
 have fr0:=I.ok.frames
 rw [hstk] at fr0
 have neL:∀ b o,X.s₀.heap.get? b = some o->b ≠ X.env.locals:=fun b o e=>Nat.ne_of_lt (Nat.lt_of_lt_of_le (Heap.lt_size e) I.ok.above)
 have noEx:∀ b:Addr,b ∉ X.ex:=fun b=>by rw [hex]; simp
 have inB:∀ b o,s.heap.get? b = some o->b ∉ frs X.stack->(hideAll s.heap (frs X.stack)).get? b = some o:=fun b o e n=>hideAll_get _ e n
 have trB:∀ b u,H b = some u->b ∉ frs X.stack:=fun b u e n=>by rw [I.stkFree b n] at e; cases e
 refine wpAny_leaves_madeW (base:=hideAll s.heap (frs X.stack)) fr0 hfl (fun b o q=>of_hideAll _ q) fl hx fun h2 t x1 x2 x3 x4=>?_
 have stay:∀ b o,s.heap.get? b = some o->b ∉ frs X.stack->h2.get? b = some o:=fun b o e n=>x1.1 b o (inB b o e n)
 have up:∀ b o,s.heap.get? b = some o->(∀ vs,o.data ≠ .fields vs)->∃ sl,h2.get? b = some { o with slots:=sl }:=fun b o e n=>x4 b o (hx.keeps b o e) n
 refine ⟨I.os,I.bare,⟨fun b o e n hb _=>?_,fun b o e n hb _=>?_,fun b o e n _=>I.base.free b o e n (noEx b),fun b o e _=>?_,I.base.tups,I.base.frzs,I.base.tbls⟩,I.hok.sameAt fun b u o e q=>stay b o q (trB b u e),?_,?_⟩
 ·refine stay b o (I.base.keep b o e n hb (noEx b)) ?_
  rw [fr]
  exact fun z=>(List.mem_cons.mp z).elim (neL b o e) hb
 ·obtain ⟨sl,e1⟩:=I.base.slot b o e n hb (noEx b)
  obtain ⟨_,o',ho',hd⟩:=I.funs.mem hb
  rw [e1] at ho'
  cases ho'
  obtain ⟨sl2,e2⟩:=up b _ e1 hd
  exact ⟨sl2,e2⟩
 ·obtain ⟨o1,e1⟩:=I.base.there b o e (noEx b)
  by_cases hb:b ∈ frs X.stack
  ·obtain ⟨_,o',ho',hd⟩:=I.stack.mem hb
   obtain ⟨sl2,e2⟩:=up b o' ho' hd
   exact ⟨_,e2⟩
  ·exact ⟨o1,stay b o1 e1 hb⟩
 ·cases q:H ea with
  | none=>rfl
  | some u=>
   obtain ⟨o,e⟩:=I.hok.rec q
   rw [hx.new] at e; cases e
 ·refine ⟨_,_,x1,fun b u e=>?_,fun b o e n hb=>?_,fun b o e hb=>?_⟩
  ·obtain ⟨o,q⟩:=I.hok.rec e
   exact ⟨o,inB b o q (trB b u e)⟩
  ·refine inB b o (I.base.keep b o e n hb (noEx b)) ?_
   rw [fr]
   exact fun z=>(List.mem_cons.mp z).elim (neL b o e) hb
  ·obtain ⟨o1,e1⟩:=I.base.there b o e (noEx b)
   refine ⟨o1,inB b o1 e1 ?_⟩
   rw [fr]
   exact fun z=>(List.mem_cons.mp z).elim (neL b o e) hb
theorem fly_on (I:Inv X pins σ H s) (hstk:X.stack = X.env :: X.outer) (hfl:X.env.frame = some X.env.locals) (hex:X.ex = []) (F:Fly X.prog X.w X.stack H s cls H' ea s') :
  wpAny M X.A (leaving X.env (.ref ea)) (fun _ s''=>Fly X.prog X.w X.outer X.H₀ X.s₀ cls H' ea s'') E s':=by
 have fr:=frs_stack hstk hfl
 have fr0:=I.ok.frames
 rw [hstk] at fr0
 obtain ⟨B,a0,fl,tr,old,olds⟩:=F.fly
 have neL:∀ b o,X.s₀.heap.get? b = some o->b ≠ X.env.locals:=fun b o e=>Nat.ne_of_lt (Nat.lt_of_lt_of_le (Heap.lt_size e) I.ok.above)
 have noEx:∀ b:Addr,b ∉ X.ex:=fun b=>by rw [hex]; simp
 have nst:∀ b o,X.s₀.heap.get? b = some o->b ∉ frs X.outer->b ∉ frs X.stack:=fun b o e hb=>by
  rw [fr]
  exact fun z=>(List.mem_cons.mp z).elim (neL b o e) hb
 have fl':=fl
 rw [hstk] at fl'
 refine wpAny_leaves_onW fr0 hfl fl' fun h2 x1 x2=>?_
 have oldB:∀ b o,X.s₀.heap.get? b = some o->X.H₀ b = none->b ∉ frs X.outer->B.get? b = some o:=fun b o e n hb=>
  old b o (I.base.keep b o e n hb (noEx b)) (I.base.free b o e n (noEx b)) (nst b o e hb)
 refine ⟨F.os.trans I.os,F.bare,⟨fun b o e n hb _=>x1.1 b o (oldB b o e n hb),fun b o e n hb _=>?_,fun b o e n _=>?_,fun b o e _=>?_,fun b xs e=>F.un.tups b xs (I.base.tups b xs e),fun b o u e=>F.un.frzs b o u (I.base.frzs b o u e),fun b ps e=>?_⟩,F.hok.sameAt fun b u o e q=>?_,F.nt,⟨B,a0,x1,tr,oldB,fun b o e hb=>?_⟩⟩
 ·obtain ⟨sl,e1⟩:=I.base.slot b o e n hb (noEx b)
  obtain ⟨sl1,e2⟩:=F.un.any e1 (I.base.free b o e n (noEx b)) (by simp)
  have hd:∀ vs,o.data ≠ .fields vs:=by
   obtain ⟨_,o',ho',hd⟩:=I.funs.mem hb
   rw [e1] at ho'
   cases ho'
   exact hd
  obtain ⟨sl2,e3⟩:=x2 b _ e2 hd
  exact ⟨sl2,e3⟩
 ·obtain ⟨o',e1⟩:=I.base.there b o e (noEx b)
  exact F.un.free b o' e1 (I.base.free b o e n (noEx b)) (by simp)
 ·obtain ⟨o1,e1⟩:=I.base.there b o e (noEx b)
  obtain ⟨o2,e2⟩:=F.un.there b o1 e1 (by simp)
  by_cases hb:b ∈ frs X.stack
  ·obtain ⟨_,o',ho',hd⟩:=fl.2.2.1.mem hb
   obtain ⟨sl2,e3⟩:=x2 b o' ho' hd
   exact ⟨_,e3⟩
  ·obtain ⟨o3,e3⟩:=olds b o1 e1 hb
   exact ⟨o3,x1.1 b o3 e3⟩
 ·obtain ⟨m1,e1⟩:=I.base.tbls b ps e
  obtain ⟨m2,e2⟩:=F.un.tbls b _ e1
  exact ⟨m1 ++ m2,by rw [e2,Array.append_assoc]⟩
 ·obtain ⟨o3,e3⟩:=tr b u e
  have e4:=fl.1 b o3 e3
  rw [q] at e4
  cases e4
  exact x1.1 b o e3
 ·obtain ⟨o1,e1⟩:=I.base.there b o e (noEx b)
  exact olds b o1 e1 (nst b o e hb)
end
def Raises (X:Cx) (E:XK):Prop:=∀ (pins:List (Addr × Obj)) (σ : St) (H:Hp) (s:Shared) (ea:Addr) (cls:Value) (vs:List Value) (h':Heap),Inv X pins σ H s->Heap.MadeExcOf s.heap h' ea cls vs->E cls none H->X.xe (.ref ea) { s with heap:=h' }
def tRaise (C:Addr) (E:XK) (t:TA):TS:=fun _ σ H=>t σ H fun vs H1=>vs.length<=sizeLine/\E (.ref C) none H1
section
variable {X:Cx} {E:XK} {x:Str} {C:Addr} {B Bn newId nid initId inN:String} {bm bmN:List Value} {np cpos pos:Pos} {e:Expr} {es:List Expr} {t:TA}
theorem ps_raise (hX:Raises X E) (O:OwnCls x C bm newId X.mg X.base) (Fn:ExcBaseFacts Bn newId inN bmN) (hBn:bm.contains (.type Bn) = true) (FB:ExcBaseFacts B nid initId bm) (hc:X.calm = true) (ha:PA X (e :: es) t)
  (hg:Gl X x:=by rfl) (hd:(x == ("__debug__" : Str)) = false:=by decide) (h1:isSt e = false:=by rfl) (h2:es.any isSt = false:=by rfl) :
  PS X (.Raise (some (.Call (.Name x np) (e :: es) [] cpos)) none pos) (tRaise C E t):=by
 refine ⟨?_⟩
 intro pins s σ H D I h
 obtain ⟨tl,N,nm,q,bs,hdct,sn,sub,ab,col,dd,k0,k1,k2,k3,k5,mN,hC,hN,hni,T⟩:=O.obj
 have hst:starEach (e :: es) X.env = (false,eval e X.env) :: starEach es X.env:=star_cons h1
 refine wpAny_Raise_call_subU (C:=C) (nm:=nm) (q:=q) (N:=N) (bs:=bs) (bm:=tl) (hdct:=hdct) (sn:=sn) (sub:=sub) (ab:=ab) (col:=col) (dd:=dd) (k0:=k0) (k1:=k1) (k2:=k2) (k3:=k3) (k5:=k5)
  Fn hBn FB (mN:=mN) (T.hasType FB.hasBase) (I.ok.hd hc) (by rw [hst]; show (false || (backTo cpos (starEach es X.env)).any (·.1)) = false; rw [star_any h2]; rfl) hni (ld_glob I hg O.bound ⟨rfl,?_⟩ hd)
 rw [hst]
 refine Calls.evalArgs_plain ?_
 have hA:=ha cpos pins s σ H _ I h
 rw [hst] at hA
 refine thn hA fun us s2 ⟨vs,H1,I1,r,hl,q1⟩=>⟨rfl,by rw [<- r.length]; exact hl,I1.bk _ _ hC,hN.keeps I1.bk,T.keeps I1.bk,fun h' ea hm=>?_⟩
 exact hX pins σ H1 s2 ea _ _ h' I1 hm q1
end
section
variable {P:Program} {w:World} {K:Frag} {mg:Str->Option Value} {base:Heap} {N:List Str} {qual:Str} {scope:Scope} {f:Addr} {cd:Value} {A:Around} {outer:List Env} {s:Shared} {H:Hp} {E E':XK}
theorem raises_cx:Raises (cxOf (CXe P w) P w K mg base N qual scope f cd A outer s H E) E:=fun pins σ H1 s1 ea cls vs h' I hm q=>by
 refine wpAny_mono (fly_made I rfl rfl rfl hm) (fun _ s2 F=>?_) fun _ _ z=>z
 exact ⟨ea,cls,H1,rfl,F,q⟩
theorem passE (hE:∀ c d H,E' c d H->E c d H):Passes (CXe P w) (cxOf (CXe P w) P w K mg base N qual scope f cd A outer s H E) E':=fun pins σ H1 s1 e s' I q=>by
 obtain ⟨ea,cls,H',rfl,F,q⟩:=q
 refine wpAny_mono (fly_on I rfl rfl rfl F) (fun _ s2 F2=>?_) fun _ _ z=>z
 exact ⟨ea,cls,H',rfl,F2,hE _ _ _ q⟩
theorem Fun.okE {x:Str} {st:Stmt} {fd:FuncData} {ps:List Str} {k:Nat} {sp:Sp} (F:Fun K x qual st f fd) (S:FnScope N ps (defScope st)) (len:∀ vs H Q E,sp vs H Q E->vs.length = ps.length)
  (hbody:∀ (cdv:Value) (A:Around) (outer:List Env) (s:Shared) (H:Hp) (vs:List V) (Q:VK) (E:XK),Room k (A.deeper (envOfC qual (defScope st) s.heap.objs.size f cdv))->sp vs H Q E->
   ∃ t,PSs (cxOf (CXe P w) P w K mg base N qual (defScope st) f cdv A outer s H E) (defBody st) t/\t { nx:=fun _ H'=>Q .non H',rt:=Q } (start N vs) H):FnOk P w K mg base (CXe P w) (k + 1) f fd ps sp:=by
 obtain ⟨oc,od,kV,doc,pm,an,cdv,ct,osl,rfl,lk,hcd⟩:=F.ex
 exact fn_of lk hcd S len fun A outer s H vs Q E hr hsp=>hbody cdv A outer s H vs Q E hr hsp
end
structure CalleeE (P:Program) (w:World) (K:Frag) (mg:Str->Option Value) (base:Heap) (k:Nat) (x:Str) (f:Addr) (fd:FuncData) (ps:List Str) (sp:Sp):Prop where
 ok:FnOk P w K mg base (CXe P w) k f fd ps sp
 mg:mg x = some (.ref f)
 kp:keepIn K (.ref f) = true
 bd:Binds K fd ps []
section
variable {X:Cx} {k:Nat} {f:Addr} {fd:FuncData} {ps:List Str} {sp:Sp} {E:XK} {x:Str} {p pos:Pos} {e:Expr} {es:List Expr} {t:TA}
theorem cE (c:CalleeE X.prog X.w X.K X.mg X.base k x f fd ps sp) (hp:Passes (CXe X.prog X.w) X E) (hr:Room k X.A) (ha:PA X (e :: es) t) (hg:Gl X x:=by rfl) (hdb:(x == ("__debug__" : Str)) = false:=by decide)
  (h1:isSt e = false:=by rfl) (h2:es.any isSt = false:=by rfl):PE X (.Call (.Name x p) (e :: es) [] pos) (tCall sp [] E t):=
 pe_call c.ok hr hg c.mg c.kp c.bd .nil hp ha hdb (star_cons h1) (star_any h2)
end
def ExcAt (ea:Addr) (cls:Value) (h:Heap):Prop:=∃ oe vs,h.get? ea = some oe/\oe.cls = cls/\oe.data = .fields vs
section
variable {X:Cx} {pins:List (Addr × Obj)} {σ : St} {H H':Hp} {s s':Shared} {ea a:Addr} {cls:Value} {o:HO} {h5:Heap}
theorem Inv.track (I:Inv X pins σ H s) (hn:H a = none) (new:ObjOk X.prog X.w (upd H a o) s.heap a o) (h0:∀ u,X.s₀.heap.get? a = some u->X.H₀ a = none->a ∉ X.ex->False) (hL:X.env.locals ≠ a)
  (hc:∀ x c,X.env.cells.lookup x = some c->c ≠ a) (hp:∀ p ∈ X.pn ++ pins,p.1 ≠ a):Inv X pins σ (upd H a o) s:=by
 refine ⟨I.ok,I.os,I.bare,⟨I.base.keep,I.base.slot,fun b u e n x=>?_,I.base.there,fun b xs e=>?_,fun b u v e=>?_,fun b ps e=>?_⟩,I.loc,I.cell,?_,fun x c e=>?_,fun p hp'=>?_,fun b u e=>?_,I.len⟩
 ·have hb:b ≠ a:=fun z=>by subst z; exact h0 u e n x
  rw [upd_ne hb]
  exact I.base.free b u e n x
 ·have e1:=I.base.tups b xs e
  rw [upd_ne (ne_of_none e1 hn)]; exact e1
 ·have e1:=I.base.frzs b u v e
  rw [upd_ne (ne_of_none e1 hn)]; exact e1
 ·obtain ⟨more,e1⟩:=I.base.tbls b ps e
  exact ⟨more,by rw [upd_ne (ne_of_none e1 hn)]; exact e1⟩
 ·rw [upd_ne hL]; exact I.free
 ·rw [upd_ne (hc x c e)]; exact I.freeC x c e
 ·obtain ⟨q1,q2,q3⟩:=I.pin p hp'
  exact ⟨q1,by rw [upd_ne (hp p hp')]; exact q2,q3⟩
 ·by_cases hb:b = a
  ·subst hb; rw [upd_same] at e; cases e; exact new
  ·rw [upd_ne hb] at e
   exact (I.hok b u e).stay (fun _ _ _ q=>q) (fun c q=>by rw [upd_ne (ne_of_none q hn)]; exact q) fun c xs q=>by rw [upd_ne (ne_of_none q hn)]; exact q
end
section
variable {X:Cx} {pins:List (Addr × Obj)} {σ : St} {H:Hp} {s:Shared} {M:Model} {A:Around} {E:Value->Shared->Prop} {i:Nat} {n:Str} {pos:Pos}
theorem name_goes {Q:Unit->Shared->Prop} (I:Inv X pins σ H s) (hN:X.N.Nodup) (hi:X.N[i]? = some n) (hk:X.env.scope.names.lookup n = some .local) (h:∀ s',Inv X pins (σ.set i none) H s'->Q () s') :
  wpAny M A (do bindName X.env n .none; unbindBehindTheSuite X.env n pos) Q E s:=by
 refine wpAny_bind (wpAny_bindName (store_ok (v:=.non) (u:=.none) I hN hi (.inl hk) rfl (fun s1 I1=>?_) (.inr hk)))
 unfold unbindBehindTheSuite
 refine wpAny_onRaise ?_
 have hiσ : i < σ.length:=by rw [I.len]; exact (List.getElem?_eq_some_iff.mp hi).1
 have hcls:(X.env.scope.kind == .class || (X.env.scope.kind == .module && X.env.locals != X.env.globals)) = false:=by rw [I.ok.kind]; rfl
 obtain ⟨m,hn,hl⟩:=id I1.loc
 obtain ⟨u0,_,lk⟩:=hl i n .non hi (by rw [List.getElem?_set_self hiσ]) (.inl hk)
 have hv:m n = some u0:=by
  rcases lk with ⟨_,e⟩ | ⟨z,_⟩
  ·exact e
  ·have z':X.env.scope.names.lookup n = some .cell\/X.env.scope.names.lookup n = some .free:=z
   rw [hk] at z'
   rcases z' with z' | z' <;> cases z'
 refine wpAny_unbindName_local hk hn hv hcls fun h2 u hn2 hs=>h _ ?_
 have old:∀ b o,X.s₀.heap.get? b = some o->b ≠ X.env.locals:=fun b o e=>Nat.ne_of_lt (Nat.lt_of_lt_of_le (Heap.lt_size e) I1.ok.above)
 refine ⟨I1.ok,I1.os,I1.bare,⟨fun b o e z hb hx=>(hs.2 b (old b o e)).trans (I1.base.keep b o e z hb hx),fun b o e z hb hx=>?_,I1.base.free,fun b o e hx=>?_,I1.base.tups,I1.base.frzs,I1.base.tbls⟩,⟨_,hn2,fun j y v e1 e2 e3=>?_⟩,fun y c e=>?_,I1.free,I1.freeC,fun p hp=>?_,fun b ob e=>?_,by rw [List.length_set]; exact I.len⟩
 ·obtain ⟨sl,e1⟩:=I1.base.slot b o e z hb hx
  exact ⟨sl,(hs.2 b (old b o e)).trans e1⟩
 ·obtain ⟨o',e1⟩:=I1.base.there b o e hx
  exact ⟨o',(hs.2 b (old b o e)).trans e1⟩
 ·by_cases hj:j = i
  ·subst hj
   rw [List.getElem?_set_self hiσ] at e2
   cases e2
  ·rw [List.getElem?_set_ne (Ne.symm hj)] at e2
   obtain ⟨u',r',q⟩:=hl j y v e1 (by rw [List.getElem?_set_ne (Ne.symm hj)]; exact e2) e3
   refine ⟨u',r',?_⟩
   rcases q with ⟨k,e⟩ | ⟨k,c,e,z⟩
   ·have ny:y ≠ n:=fun w=>hj (nodup_ix hN e1 (w ▸ hi))
    exact .inl ⟨k,by simp [ny,e]⟩
   ·exact .inr ⟨k,c,e,z.sameBut hs (I1.cne y c e)⟩
 ·obtain ⟨w',z⟩:=I1.cell y c e
  exact ⟨w',z.sameBut hs (I1.cne y c e)⟩
 ·obtain ⟨e,z,ne,nf,d⟩:=I1.pin p hp
  exact ⟨(hs.2 p.1 ne).trans e,z,ne,nf,d⟩
 ·refine (I1.hok b ob e).stay (fun c w' hc q=>(hs.2 c fun z=>?_).trans q) (fun _ q=>q) fun _ _ q=>q
  rcases hc with w1 | w1
  ·rw [<- w1,z,I1.free] at e; cases e
  ·rw [z,I1.free] at w1; cases w1
end
structure PE1 (X:Cx) (pins:List (Addr × Obj)) (σ : St) (e:Expr) (t:TE):Prop where
 run:∀ (s:Shared) (H:Hp) (Q:VK),Inv X pins σ H s->t σ H Q->wpAny (model X.prog X.w) X.A (eval e X.env) (EP X pins σ Q) X.xe s
structure PS1 (X:Cx) (pins:List (Addr × Obj)) (σ : St) (st:Stmt) (t:TS):Prop where
 run:∀ (s:Shared) (H:Hp) (D:Ends),Inv X pins σ H s->t D σ H->wpAny (model X.prog X.w) X.A (exec st X.env) (SP X pins D) X.xe s
section
variable {X:Cx} {pins:List (Addr × Obj)} {σ : St} {e:Expr} {es:List Expr} {te ta:TE} {t tr:TA} {E:XK} {x m:Str} {p pos apos:Pos} {k:Nat} {f C:Addr} {fd:FuncData} {ps:List Str} {sp:Sp} {o:Expr} {dvs:List V} {ds:List Value}
end
abbrev Cx.suite (X:Cx) (ea:Addr):Cx:={ X with A:=X.A.mark (some (.ref ea)),calm:=false,xe:=fun _ _=>False }
section
variable {X:Cx} {pins:List (Addr × Obj)} {σ : St} {H:Hp} {s:Shared} {ea:Addr}
theorem Inv.suite (I:Inv X pins σ H s) (ea:Addr):Inv (X.suite ea) pins σ H s:=
 ⟨⟨I.ok.mod,I.ok.kind,I.ok.glob,I.ok.blt,I.ok.above,I.ok.inj,I.ok.has,I.ok.cab,(fun z=>Bool.noConfusion z),I.ok.frames,I.ok.stk,I.ok.exf,I.ok.bs,I.ok.bsz,I.ok.noex,I.ok.exfs,I.ok.funs,I.ok.frf⟩,I.os,I.bare,I.base,I.loc,I.cell,I.free,I.freeC,I.pin,I.hok,I.len⟩
theorem Inv.unsuite (hok:X.Ok) (I:Inv (X.suite ea) pins σ H s):Inv X pins σ H s:=
 ⟨hok,I.os,I.bare,I.base,I.loc,I.cell,I.free,I.freeC,I.pin,I.hok,I.len⟩
def endsN (D:Ends) (i:Nat):Ends:={ nx:=fun σ H=>D.nx (σ.set i none) H,rt:=D.rt,bk:=fun σ H=>D.bk (σ.set i none) H,ct:=fun σ H=>D.ct (σ.set i none) H }
abbrev tryXe (X:Cx) (pins:List (Addr × Obj)) (D:Ends) (hs:List ExceptHandler):Value->Shared->Prop:=fun e s₁=>
 wpAny (model X.prog X.w) X.A (noteFrame e X.env) (fun _ s₂=>wpAny (model X.prog X.w) X.A (setFlight e none) (fun _ s₃=>wpAny (model X.prog X.w) X.A (handleBy e X.env hs) (SP X pins D) X.xe s₃) X.xe s₂) X.xe s₁
variable {st b₀:Stmt} {suite:List Stmt} {c n:Str} {np hpos pos:Pos} {C:Addr} {i:Nat} {tb:XK->TS} {ts:TS} {ok:Value->Prop}
end
end L2
namespace L2
open PySem PySem.W PySem.Builtin PySem.Builtin.ObjectAttr PySem.Builtin.Getset_descriptor PySem.Spec PyProof.Rows
structure ExcCls (K:Frag) (D:Addr):Prop where
 cd:(clsIn K D).isSome = true
 ga:findIn K (.ref D) "__getattribute__" = some (some (.builtin "BaseException.__getattribute__"))
 no:findIn K (.ref D) "__getattr__" = some none
 cl:findIn K (.ref D) "__class__" = some (some (.builtin "object.__class__"))
 gt:specialIn K (.builtin "object.__class__") "__get__" = some (some (.builtin "getset_descriptor.__get__"))
 tk:takesIn K (.builtin "object.__class__") = some true
 be:mroIn K D (.type "BaseException") = some true
 ob:mroIn K D (.type "object") = some true
section
variable {prog:Program} {w:World} {A:Around} {E:Value->Shared->Prop} {s:Shared} {K:Frag} {x D:Addr}
theorem ExcAt.ty {M:Model} {h:Heap} (e:ExcAt x (.ref D) h):Looks M h (typeOf (.ref x)) (.ref D):=by
 obtain ⟨oe,vs,h1,h2,h3⟩:=e
 exact h2 ▸ (Looks.ld h1).andThen .now
theorem exc_get {R:Result->Shared->Prop} {tp:Value} (c:ExcCls K D) (X:K.In s.heap) (e:ExcAt x (.ref D) s.heap) (h:R (.ok (.ret (.ref D))) s) :
  codeAny (model prog w) A (.call (.builtin "getset_descriptor.__get__") ⟨[.builtin "object.__class__",.ref x,tp],[]⟩) R s:=by
 obtain ⟨hh,g,dr,t,os⟩:=s
 have LT:=e.ty (M:=model prog w)
 have LM:=looks_mroIn (M:=model prog w) X c.ob
 refine codeAny_call_builtin KF.slot_gs.plain KF.entry_gs ?_
 refine KF.slot_gs.check _ _ _ _ _ _ _ _ KF.type_class (KF.args_gs _ _ _) ?_
 unfold Builtin.«getset_descriptor.__get__»
 unfold descrGet
 rw [dga_obj (.builtin "object.__class__") tp x]
 refine wpAny_bind (wpAny_pure ?_)
 unfold descrGetter
 unfold descrCheckInstance descrNameAndClass
 unfold isInstance
 simp only [KF.owner_class]
 repeat lk
 refine ⟨Code.quiet_builtin _ (by decide +kernel),?_⟩
 refine codeAny_builtin KF.entry_class ?_
 unfold Builtin.«object.__class__»
 unfold shownTypeOf
 repeat lk
 exact h
theorem exc_class {Q:Option Value->Shared->Prop} (c:ExcCls K D) (X:K.In s.heap) (e:ExcAt x (.ref D) s.heap) (h:Q (some (.ref D)) { s with toks:=s.toks + 1 }):wpAny (model prog w) A (getAttr? (.ref x) "__class__") Q E s:=by
 obtain ⟨hh,g,dr,t,os⟩:=s
 have LT:=e.ty (M:=model prog w)
 have LG:=looks_findIn (M:=model prog w) X c.ga
 have LN:=looks_findIn (M:=model prog w) X c.no
 have LC:=looks_findIn (M:=model prog w) X c.cl
 have LB:=looks_mroIn (M:=model prog w) X c.be
 have L2:=looks_specialIn (M:=model prog w) X c.gt
 have L3:=looks_takesIn (M:=model prog w) X c.tk
 unfold getAttr?
 unfold getAttrBy? getAttrBy
 refine wpAny_bind (wpAny_mkText (wpAny_bind (wpAny_attempt ?_)))
 refine wpAny_holding (wpAny_bind (LT.at (wpAny_bind (LG.at ?_))))
 have hne:(onTheHeap (Value.ref D) && Value.builtin "BaseException.__getattribute__" == Value.builtin "object.__getattribute__") = false:=by
  rw [show (Value.builtin "BaseException.__getattribute__" == Value.builtin "object.__getattribute__") = false from by decide +kernel,Bool.and_false]
 dsimp only
 rw [hne]
 rw [if_neg Bool.false_ne_true]
 unfold getAttrByItsOwn hookBefore
 rw [if_pos (show onTheHeap (Value.ref D) = true from rfl)]
 refine wpAny_bind (LN.at (wpAny_bind (wpAny_attempt (wpAny_holding ?_))))
 unfold callGetattribute boundAndCalled
 rw [if_neg (by simp)]
 have fb:=PySem.F.attrBase_ValueError.ga
 rw [fb.bind (.ref x)]
 refine wpAny_bind (wpAny_pure ?_)
 refine wpAny_call (codeAny_call_builtin fb.plain F.entry_bexc_ga ?_)
 have ck:∀ (Q':Unit->Shared->Prop) (E':Value->Shared->Prop) (A':Around),Q' () ⟨hh,g,dr,t + 1,os⟩->wpAny (model prog w) A' (checkBuiltinCall "BaseException.__getattribute__" ⟨[.ref x,.str "__class__" t],[]⟩) Q' E' ⟨hh,g,dr,t + 1,os⟩:=by
  intro Q' E' A' q'
  have k1:builtinKind "BaseException.__getattribute__" = some .slot:=by decide +kernel
  have k2:splitId "BaseException.__getattribute__" = some ("BaseException","__getattribute__"):=by decide +kernel
  have k3:=F.args_bexc_ga (.ref x) (.str "__class__" t)
  simp only [checkBuiltinCall,k1,k2]
  refine wpAny_bind ?_
  unfold isInstance
  repeat (first | lk | wp_step)
  exact q'
 refine ck _ _ _ ?_
 unfold Builtin.«object.__getattribute__»
 unfold find getOf dataDescriptor?
 repeat (first | lk | wp_step)
 refine wpAny_run (exc_get (s:=⟨hh,g,dr,t + 1,os⟩) c X e ?_)
 refine wpAny_pure (wpAny_pure ?_)
 show wpAny _ _ (handedOut (Value.ref D)) _ _ _
 rw [handedOut_of (show handedIn (Value.ref D) = true from rfl)]
 exact wpAny_pure (wpAny_pure h)
theorem kitx_exc (c:ExcCls K D):KitX K (.ref x) (.ref D) (ExcAt x (.ref D)) where
 ty:=fun _ _ _ e=>e.ty
 it:=fun _ _ X _=>by
  obtain ⟨cd,hc⟩:=Option.isSome_iff_exists.mp c.cd
  unfold clsIn at hc
  split at hc
  ·rename_i c' d' cd' sl' ho
   intro A' Q' E' s' k q
   unfold isType
   unfold loadHead
   exact wpAny_bind (wpAny_loadPart (k _ _ (X _ _ ho)) (wpAny_pure q))
  ·cases hc
 ne:=fun h tp dd its n sl X htp=>by
  obtain ⟨cd,hc⟩:=Option.isSome_iff_exists.mp c.cd
  refine Bool.eq_false_iff.mpr fun q=>?_
  have z:D = tp:=Value.ref.inj (beq_iff_eq.mp q)
  subst z
  unfold clsIn at hc
  split at hc
  ·rename_i c' d' cd' sl' ho
   have w:=(X _ _ ho).symm.trans htp
   cases w
  ·cases hc
 ca:=fun X e k=>exc_class c X e k
end
end L2
namespace L2
open PySem PySem.Spec PyProof.Rows
section
variable {X:Cx}
end
section
variable {P:Program} {w:World} {K:Frag} {mg:Str->Option Value} {base:Heap}
end
section
variable {X:Cx} {k:Nat} {f:Addr} {fd:FuncData} {ps:List Str} {sp:Sp} {x:Str} {p pos:Pos} {e:Expr} {es:List Expr} {t:TA}
end
section
variable {prog:Program} {w:World} {A:Around} {E:Value->Shared->Prop} {s:Shared} {r:Addr} {n:Int} {t u v:Tok}
end
section
variable {X:Cx} {tg:Expr}
end
section
variable {X:Cx} {o i:Expr} {to ti:TE} {pos tpos:Pos}
end
section
variable {X:Cx} {pins:List (Addr × Obj)} {σ : St} {e:Expr} {te:TE} {pos p:Pos} {C:Addr} {x:Str}
theorem s1_expr (he:PE1 X pins σ e te) (hs:swapsWith e none pos.line X.env = pure false:=by rfl):PS1 X pins σ (.Expr e pos) (tDrop te):=by
 refine ⟨fun s H D I h=>?_⟩
 exact wpAny_Expr_any (thn (he.run s H _ I h) fun v s1 ⟨x,H1,I1,r1,q1⟩=>⟨σ,H1,I1,q1⟩) I.quiet hs
end
theorem passF {P:Program} {w:World} {X:Cx}:Passes (CXe P w) X (fun _ _ _=>False):=fun pins σ H1 s1 e s' I q=>by
 obtain ⟨_,_,_,_,_,q⟩:=q
 exact q.elim
theorem same_after {H H1:Hp} {x dx:Addr} {o1 o2:HO} (hx:H x = none) (hd:H dx = none) (s:Same (upd (upd H dx (.own x)) x o1) H1):Same H (upd H1 x o2):=fun b u q=>by
 rw [upd_ne (ne_of_none q hx)]
 exact s _ _ (same_make0 hx hd b u q)
structure Ctor (P:Program) (w:World) (K:Frag) (mg:Str->Option Value) (base:Heap) (CX:CXT) (k:Nat) (x:Str) (C i:Addr) (fd:FuncData) (ps:List Str) (ds:List Value) (sp:Sp):Prop where
 mkr:Mk K C i
 ok:FnOk P w K mg base CX k i fd ps sp
 mg:mg x = some (.ref C)
 bd:Binds K fd ps ds
section
variable {X:Cx} {CX:CXT} {k:Nat} {C i f:Addr} {fd:FuncData} {ps ks:List Str} {sp:Sp} {E:XK} {x m:Str} {p pos apos:Pos} {e:Expr} {es:List Expr} {t tk:TA} {ds:List Value} {dvs:List V} {kws:List Keyword}
 {g:List Value->List Value->List Value} {gV:List V->List V->List V}
theorem cMk (c:Ctor X.prog X.w X.K X.mg X.base CX k x C i fd ps ds sp) (hd:Vals dvs ds) (hp:Passes CX X E) (hr:Room (k + 1) X.A) (ha:PA X (e :: es) t) (hg:Gl X x:=by rfl) (hdb:(x == ("__debug__" : Str)) = false:=by decide)
  (h1:isSt e = false:=by rfl) (h2:es.any isSt = false:=by rfl):PE X (.Call (.Name x p) (e :: es) [] pos) (tMake C sp dvs E t):=pe_make c.mkr c.ok hr hg c.mg c.bd hd hp ha hdb (star_cons h1) (star_any h2)
structure ClsFn (K:Frag) (C:Addr) (m:Str) (f:Addr):Prop where
 ga:specialIn K (.ref C) "__getattribute__" = some (some (.builtin "type.__getattribute__"))
 rd:PySem.W.readsIn K C (.type "type") = true
 fc:PySem.W.findCls K (.ref C) (.type "type") m = some (.val (.ref f))
 kp:keepIn K (.ref f) = true
theorem pe_cm {pl:Sem Bool} (B:ClsFn X.K C m f) (hm:X.mg x = some (.ref C)) (F:FnOk X.prog X.w X.K X.mg X.base CX k f fd ps sp) (hr:Room k X.A) (hb:Binds X.K fd ps []) (hx:Passes CX X E) (ha:PA X (e :: es) t) (hg:Gl X x:=by rfl)
  (hdb:(x == ("__debug__" : Str)) = false:=by decide) (h1:isSt e = false:=by rfl) (h2:es.any isSt = false:=by rfl)
  (ht:eval (.Call (.Attribute (.Name x p) m apos) (e :: es) [] pos) X.env = (do
   let ov <- eval (.Name x p) X.env
   standAt apos.atName
   let (f,first) <- holding [ov] (getMethod ov m pl)
   callWith pos f first (backTo pos (starEach (e :: es) X.env)) (backToKw pos (keywordEach [] X.env))):=by rfl) :
  PE X (.Call (.Attribute (.Name x p) m apos) (e :: es) [] pos) (tCall sp [] E t):=by
 refine ⟨?_⟩
 intro pins s σ H Q I h
 refine methodCall_KW (pl:=pl) (ld_glob I hg hm ?_ hdb) ht
 refine PySem.W.method_cls I.kIn B.ga (PySem.W.cls_value I.kIn B.rd B.fc rfl ?_)
 have It:=I.tok (s.toks + 1)
 refine callWith_K (first:=[]) (h₀:=X.base) I.ok.mod.kin B.kp (thn (ha pos pins _ σ H _ It h) fun us s2 ⟨vs,H2,I2,r,q2⟩=>⟨I2.kIn,?_⟩) (star_cons h1) (star_any h2)
 exact run_fn F hr hb .nil hx I2 r q2
end
theorem FunD.okE {P:Program} {w:World} {K:Frag} {mg:Str->Option Value} {base:Heap} {x qual:Str} {st:Stmt} {f:Addr} {fd:FuncData} {items:List Value} {N ps:List Str} {k:Nat} {sp:Sp} (F:FunD K x qual st f fd items) (S:FnScope N ps (defScope st)) (len:∀ vs H Q E,sp vs H Q E->vs.length = ps.length)
  (hbody:∀ (cdv:Value) (A:Around) (outer:List Env) (s:Shared) (H:Hp) (vs:List V) (Q:VK) (E:XK),Room k (A.deeper (envOfC qual (defScope st) s.heap.objs.size f cdv))->sp vs H Q E->
   ∃ t,PSs (cxOf (CXe P w) P w K mg base N qual (defScope st) f cdv A outer s H E) (defBody st) t/\t { nx:=fun _ H'=>Q .non H',rt:=Q } (start N vs) H):FnOk P w K mg base (CXe P w) (k + 1) f fd ps sp:=by
 obtain ⟨oc,od,T,kV,doc,pm,an,cdv,ct,osl,o,n,rfl,lk,hcd,_,_⟩:=F.ex
 exact fn_of lk hcd S len fun A outer s H vs Q E hr hsp=>hbody cdv A outer s H vs Q E hr hsp
theorem ps_dead {X:Cx} {st:Stmt}:PS X st (fun _ _ _=>False):=⟨fun _ _ _ _ _ _ h=>h.elim⟩
def SetT (P:Program) (w:World) (a:Addr) (S:Str->Bool) (n:Nat) (h:Heap):Prop:=h.SetOf (strKind P w) a S n
abbrev setO (P:Program) (w:World) (a:Addr) (S:Str->Bool) (n:Nat):HO:=.ext (SetT P w a S n)
theorem setO_ok {P:Program} {w:World} {H:Hp} {h:Heap} {a:Addr} {S:Str->Bool} {n:Nat} (e:h.SetOf (strKind P w) a S n):ObjOk P w H h a (setO P w a S n):=
 ⟨e,let ⟨o,_,_,_,h1,_⟩:=e; ⟨o,h1⟩,fun g1 g2 q k=>let ⟨o,es,ep,t,h1,c⟩:=q; ⟨o,es,ep,t,k o h1,c⟩⟩
section
variable {X:Cx}
theorem call_set0:CallR X (.type "set") (fun xs H Q=>xs = []/\∀ p,H p = none->Q (.ref p) (upd H p (setO X.prog X.w p (fun _=>false) 0))):=by
 intro pins s σ H xs us Q I r h
 obtain ⟨rfl,q⟩:=h
 cases r
 refine call_set_0 fun led=>?_
 have hf:H s.heap.objs.size = none:=I.hok.fresh (Nat.le_refl _)
 refine ⟨.ref s.heap.objs.size,_,I.laid (t':=s.toks) (fun b u e=>Heap.get?_push_of_some _ e) (Nat.le_refl _) (setO_ok ?_),rfl,q _ hf⟩
 exact (setObjOf_fresh led).setOf (Heap.get?_push_size _ rfl) (by decide)
theorem op_in_setT:OpR X (compareOp .In) (fun x y H Q=>∃ (a:Addr) (S:Str->Bool) (n:Nat) (z:Str),x = .str z/\y = .ref a/\H a = some (setO X.prog X.w a S n)/\Q (.bl (S z)) H):=by
 intro pins s σ H x y v u Q I rx ry h
 obtain ⟨a,S,n,z,rfl,rfl,e,q⟩:=h
 obtain ⟨t,rfl⟩:=rx
 cases ry
 have hS:s.heap.SetOf (strKind X.prog X.w) a S n:=(I.hok a _ e).1
 exact wpAny_inSet_of (strKind_is X.prog X.w z t) rfl hS ⟨.bl (S z),H,I.tok _,rfl,q⟩
def tSAdd (P:Program) (w:World) (to te:TE):TE:=fun σ H Q=>to σ H fun x H1=>∃ (a:Addr) (S:Str->Bool) (n:Nat),x = .ref a/\H1 a = some (setO P w a S n)/\te σ H1 fun y H2=>∃ (S:Str->Bool) (n:Nat) (z:Str),y = .str z/\H2 a = some (setO P w a S n)/\n + 1 < scanBound/\
 Q .non (upd H2 a (setO P w a (fun k=>S k || decide (k = z)) (if S z then n else n + 1)))
theorem pe_sadd {o e:Expr} {apos cpos:Pos} {to te:TE} (ho:PE X o to) (he:PE X e te) (m:M1 X o "add" apos e cpos):PE X (.Call (.Attribute o "add" apos) [e] [] cpos) (tSAdd X.prog X.w to te):=by
 refine ⟨?_⟩
 intro pins s σ H Q I h
 refine wpAny_Call_method m.base m.few m.line PySem.F.plainAttrs_set PySem.F.slot_set_add PySem.F.type_set_add (thn (ho pins s σ H _ I h) fun u s1 ⟨x,H1,I1,rx,a,S,n,ex,d,q1⟩=>?_)
 subst ex
 obtain rfl:u = Value.ref a:=rx
 have hS:s1.heap.SetOf (strKind X.prog X.w) a S n:=(I1.hok a _ d).1
 refine ⟨hS.typeIs,hS.noDict,?_⟩
 rw [m.trees]
 refine Calls.callWith_builtin rfl (Calls.evalArgs_plain (Calls.spliced_cons (thn (he pins s1 σ H1 _ I1 q1) fun iv s2 ⟨y,H2,I2,ry,S2,n2,z,ey,e2,hn,q2⟩=>Calls.spliced_nil ?_)))
 subst ey
 obtain ⟨t,rfl⟩:=ry
 have hS2:s2.heap.SetOf (strKind X.prog X.w) a S2 n2:=(I2.hok a _ e2).1
 refine call_set_add (strKind_is X.prog X.w z t) rfl hS2 hn fun h' hs hS3=>⟨.non,_,?_,rfl,q2⟩
 refine I2.write (x:=a) (e:=a) (by rw [e2]; exact True.intro) (.inl rfl) (fun b q hb z=>(hs.2 b hb).trans z) (let ⟨o,_,_,_,h1,_⟩:=hS3; ⟨o,h1⟩) (setO_ok hS3)
def tMethP (Cs:Addr->Prop) (m:Str) (sp:Sp) (E:XK) (ta:TE):TE:=fun σ H Q=>ta σ H fun x H1=>∃ a C dx fs,x = .ref a/\Cs C/\H1 a = some (.ins C dx fs)/\fs.lookup m = none/\sp [x] H1 Q E
theorem pe_methP {CX:CXT} {k:Nat} {f:Addr} {fd:FuncData} {ps:List Str} {sp:Sp} {E:XK} {m:Str} {pos apos:Pos} {o:Expr} {ta:TE} {Cs:Addr->Prop} {pl:Sem Bool} (he:PE X o ta) (hC:∀ C,Cs C->Cls X.K C/\Meth X.K C m f) (F:FnOk X.prog X.w X.K X.mg X.base CX k f fd ps sp) (hr:Room k X.A) (hb:Binds X.K fd ps []) (hx:Passes CX X E)
  (ht:eval (.Call (.Attribute o m apos) [] [] pos) X.env = (do
   let ov <- eval o X.env
   standAt apos.atName
   let (f,first) <- holding [ov] (getMethod ov m pl)
   callWith pos f first (backTo pos (starEach [] X.env)) (backToKw pos (keywordEach [] X.env))):=by rfl) :
  PE X (.Call (.Attribute o m apos) [] [] pos) (tMethP Cs m sp E ta):=by
 refine ⟨?_⟩
 intro pins s σ H Q I h
 refine methodCall_KW (pl:=pl) (thn (he pins s σ H _ I h) fun u s1 ⟨x,H1,I1,rx,a,C,dx,fs,ex,hc,ea,l,q⟩=>?_) ht
 subst ex
 obtain rfl:u = Value.ref a:=rx
 obtain ⟨c,hm⟩:=hC C hc
 refine getmeth_ok I1 ea c hm l ?_
 exact PySem.W.callWith_K0 (first:=[.ref a]) I1.kIn hm.kp (run_fn (us:=[.ref a]) (vs:=[.ref a]) F hr hb .nil hx I1 (.cons rfl .nil) q)
structure KTab (w:World) (K:Frag) (a:Addr) (f:Str->Option V):Prop where
 obj:∃ es n,K.lookup a = some ⟨.type "dict",none,.dict es n,#[]⟩/\KeysLit w.params es.toList
 vals:∀ x v,f x = some v->∃ u,nsIn K a x = some (some u)/\RelV v u
theorem pe_kget {e:Expr} {d:Str} {p pos:Pos} {a:Addr} {f:Str->Option V} {te:TE} (T:KTab X.w X.K a f) (hm:X.mg d = some (.ref a)) (he:PE X e te) (hg:Gl X d:=by rfl) (hs:NoSl e:=by first | exact fun _ _=>rfl | decide | rfl) (hdb:(d == ("__debug__" : Str)) = false:=by decide) :
  PE X (.Subscript (.Name d p) e pos) (fun σ H Q=>te σ H fun y H1=>∃ x v,y = .str x/\f x = some v/\Q v H1):=by
 refine ⟨?_⟩
 intro pins s σ H Q I h
 obtain ⟨es,n,hl,hk⟩:=T.obj
 refine subD_of PySem.F.slot_dict_getitem.lookup hs (ld_glob I hg hm (thn (he pins s σ H _ I h) fun iv s2 ⟨y,H2,I2,ry,x,v,ey,ef,q2⟩=>?_) hdb)
 subst ey
 obtain ⟨t,rfl⟩:=ry
 obtain ⟨u,eu,ru⟩:=T.vals x v ef
 have hmap:=PySem.W.mapOf_K (prog:=X.prog) (w:=X.w) I2.kIn hl hk
 exact ⟨hmap.typeIs,wpAny_getItem_of (strKind_is X.prog X.w x t) hmap (PySem.W.find_K hl eu) ⟨v,H2,I2.tok _,ru,q2⟩⟩
end
section
variable {X:Cx} {pins:List (Addr × Obj)} {σ : St} {H:Hp} {s:Shared} {sc:Scope} {fr Nc:List Str} {fp:List Addr} {C:Addr}
theorem comp_startO {caps:List (Option Nat)} {h':Heap} {D:Addr} {m:Str->Option Value} {t':Nat} {o0:HO} (I:Inv X pins σ H s) (B:BlockOk X.env sc fr) (hf:∀ b ∈ fp,FpOk X pins H b) (ho:∀ b ∈ fp,∃ o,s.heap.get? b = some o)
  (hC:s.heap.objs.size<=C) (hD:s.heap.objs.size<=D) (hDC:D ≠ C) (keep:∀ b o,s.heap.get? b = some o->h'.get? b = some o) (new:ObjOk X.prog X.w (upd H D o0) h' D o0) (hn:h'.Ns C m)
  (hcap:capChk X.N Nc caps X.env sc fr = true) (hlen:caps.length = Nc.length) :
  Inv (compCx X pins sc fr Nc fp s H C) [] (capS caps σ) (upd H D o0) { s with heap:=h',toks:=t' }:=by
 have hk:X.env.scope.kind = .function:=I.ok.kind
 have fresh:∀ a,s.heap.objs.size<=a->H a = none:=fun a ha=>I.hok.fresh ha
 refine ⟨comp_ok I B hf ho hC,rfl,I.bare,Un.laid keep hD (fresh D hD),⟨m,hn,fun i x v e1 e2 e3=>?_⟩,fun x c h=>?_,?_,fun x c h=>?_,fun p hp=>?_,?_,?_⟩
 ·
  have e2':(caps[i]?).map (fun o=>match o with | none=>none | some j=>(σ[j]?).join) = some (some v):=by
   have:(capS caps σ)[i]? = some (some v):=e2
   unfold capS at this
   rw [List.getElem?_map] at this
   exact this
  cases hc:caps[i]? with
  | none=>rw [hc] at e2'; cases e2'
  | some o=>
   rw [hc] at e2'
   cases o with
   | none=>simp at e2'
   | some j=>
    have e4:(σ[j]?).join = some v:=by simpa using e2'
    have e5 : σ[j]? = some (some v):=by
     cases q : σ[j]? with
     | none=>rw [q] at e4; cases e4
     | some w'=>rw [q] at e4; simp at e4; rw [e4]
    have e6:(Nc.zip caps)[i]? = some (x,some j):=by
     rw [List.getElem?_zip_eq_some]
     exact ⟨e1,hc⟩
    have e7:=List.all_eq_true.mp hcap _ (List.mem_of_getElem? e6)
    simp only [Bool.and_eq_true,beq_iff_eq,List.contains_iff_mem] at e7
    obtain ⟨⟨⟨a1,a2⟩,a3⟩,a4⟩:=e7
    obtain ⟨m0,hn0,hl0⟩:=I.loc
    obtain ⟨u,r,l⟩:=hl0 j x v a1 e5 (.inr (.inl a2))
    refine ⟨u,r,.inr ⟨.inl (relabel_free hk a3 a2),_,clB_in a4,?_⟩⟩
    rcases l with ⟨z,_⟩ | ⟨_,c,ec,hcell⟩
    ·rw [a2] at z; cases z
    ·have:(X.env.cells.lookup x).getD 0 = c:=by rw [ec]; rfl
     rw [this]
     exact hcell.keeps keep
 ·obtain ⟨v,hv⟩:=I.cell x c (B.sub h)
  exact ⟨v,hv.keeps keep⟩
 ·show upd H D o0 C = none
  rw [upd_ne (Ne.symm hDC)]; exact fresh C hC
 ·obtain ⟨v,hv⟩:=I.cell x c (B.sub h)
  have:c ≠ D:=fun z=>by have:=hv.lt; rw [z] at this; exact absurd (Nat.lt_of_lt_of_le this hD) (Nat.lt_irrefl _)
  rw [upd_ne this]; exact I.freeC x c (B.sub h)
 ·have hp':p ∈ X.pn ++ pins:=by simpa using hp
  obtain ⟨e,n,ne,nf,d⟩:=I.pin p hp'
  have hlt:=I.pin_lt hp'
  refine ⟨keep _ _ e,?_,?_,fun z=>?_,d⟩
  ·rw [upd_ne (fun z=>by rw [z] at hlt; exact absurd (Nat.lt_of_lt_of_le hlt hD) (Nat.lt_irrefl _))]; exact n
  ·intro z
   have z':p.1 = C:=z
   rw [z'] at hlt; exact absurd (Nat.lt_of_lt_of_le hlt hC) (Nat.lt_irrefl _)
  ·rcases List.mem_cons.mp (I.stkSub p.1 z) with q | q
   ·exact ne q
   ·exact nf q
 ·exact I.hok.laid keep hD new
 ·show (capS caps σ).length = Nc.length
  unfold capS
  rw [List.length_map,hlen]
end
section
variable {prog:Program} {w:World} {A:Around} {R:Result->Shared->Prop} {s:Shared}
theorem compLoop_anyD {kx vx target iter:Expr} {ifs:List Expr} {scope:Scope} {pos:Pos} {it:Value} {D:Addr} {env:Env} (I:Nat->Shared->Prop)
  (turn:∀ n s,I n s->wpAny (model prog w) A (pyNext it) (fun r s₁=>match r with
   | none=>R (.ok .next) s₁
   | some v=>wpAny (model prog w) A (letOwnedTupleGo target it v) (fun _ s₀=>wpAny (model prog w) A (assign target env v) (fun _ s₂=>
     wpAny (model prog w) A (forIn ifs true fun c r=>if r = true then do let ok <- isTrue c env (eval c env); pure (ForInStep.yield ok) else pure (ForInStep.yield r)) (fun ok s₃=>
      if ok = true then wpAny (model prog w) A (eval kx env) (fun kv s₄=>wpAny (model prog w) A (eval vx env) (fun vv s₅=>
       wpAny (model prog w) A (dictSet D kv vv) (fun _ s₆=>∃ m,m < n/\I m s₆) (fun _ _=>False) s₅) (fun _ _=>False) s₄) (fun _ _=>False) s₃
      else ∃ m,m < n/\I m s₃) (fun _ _=>False) s₂) (fun _ _=>False) s₀) (fun _ _=>False) s₁) (fun _ _=>False) s)
  (n:Nat) (h:I n s) :
  codeAny (model prog w) A (.compLoop (.DictComp kx vx [⟨target,iter,ifs,0⟩] scope pos) 0 it (.ref D) env) R s:=by
 refine codeAny_loop rfl I (fun n s hI=>?_) n h
 show wpAny _ A ((compTurn (.DictComp kx vx [⟨target,iter,ifs,0⟩] scope pos) 0 it (.ref D) env).onRaise (fun x=>do noteFrame x env; theTreesLotGoes x)) _ _ s
 refine wpAny_noted ?_
 rw [compTurn_dict]
 refine wpAny_bind (wpAny_standAt (wpAny_bind (wpAny_mono (turn n s hI) (fun r s₁ h₁=>?_) fun _ _ z=>z.elim)))
 cases r with
 | none=>exact wpAny_pure h₁
 | some v=>
  refine wpAny_bind (wpAny_mono h₁ (fun _ s₀ h₀=>?_) fun _ _ z=>z.elim)
  refine wpAny_bind (wpAny_mono h₀ (fun _ s₂ h₂=>wpAny_bind (wpAny_mono h₂ (fun ok s₃ h₃=>?_) fun _ _ z=>z.elim)) fun _ _ z=>z.elim)
  cases ok with
  | false=>exact wpAny_pure ⟨rfl,h₃⟩
  | true=>
   exact wpAny_bind (wpAny_bind (wpAny_mono h₃ (fun kv s₄ h₄=>wpAny_bind (wpAny_holding (wpAny_mono h₄ (fun vv s₅ h₅=>wpAny_bind (wpAny_standAt (wpAny_holding (wpAny_mono h₅ (fun _ s₆ h₆=>wpAny_pure ⟨rfl,h₆⟩) fun _ _ z=>z.elim)))) fun _ _ z=>z.elim))) fun _ _ z=>z.elim))
end
def DCr (J:It) (caps:List (Option Nat)) (g:TG) (tt:TT) (tk tv:TE) (σ : St) (H1:Hp) (Q:VK) (D:Addr):Prop:=
 ∃ W:Nat->Nat->List (Key × V)->Hp->Prop,(∃ m,W 0 m [] (upd H1 D (.dK [])))/\∀ i m ys H,W i m ys H->
  (J.stop i H/\Q (.ref D) H)\/
  (J.go i H/\∀ x H',J.yld i H x H'->g x (capS caps σ) H' fun σ2 H2=>tt σ2 H2 fun ok H3=>
   (ok = true->tk σ2 H3 fun y H4=>tv σ2 H4 fun v H5=>∃ k,y = kV k/\H5 D = some (.dK ys)/\ys.length < sizeLine/\∃ m',m' < m/\W (i + 1) m' (putK ys k v) (upd H5 D (.dK (putK ys k v))))/\
   (ok = false->∃ m',m' < m/\W (i + 1) m' ys H3))
def tDC (wi:TI) (caps:List (Option Nat)) (g:TG) (tt:TT) (tk tv:TE):TE:=fun σ H Q=>wi σ H fun J H1=>∀ D,H1 D = none->DCr J caps g tt tk tv σ H1 Q D
section
variable {X:Cx} {pins:List (Addr × Obj)} {σ : St} {s:Shared} {sc:Scope} {fr Nc:List Str} {caps:List (Option Nat)} {kx vx tg iter:Expr} {ifs:List Expr} {g:TG} {tt:TT} {tk tv:TE} {ow:List Nat} {pos pos2:Pos} {E:Value->Shared->Prop}
theorem sysLt {H:Hp} (I:Inv X pins σ H s):sysModules < s.heap.objs.size:=I.big
theorem comp_runD {H2:Hp} {it:Addr} {fp:List Addr} {tn:Nat->Heap->Prop} {J:It} {Q:VK} {RR:Value->Addr->Result->Shared->Prop}
  (hc:X.calm = true) (B:BlockOk X.env sc fr) (go:GOwn g ow) (how:(ow.all fun i=>caps[i]? == some none) = true) (hcap:capChk X.N Nc caps X.env sc fr = true) (hlen:caps.length = Nc.length)
  (hb:∀ (pins:List (Addr × Obj)) (fp:List Addr) (s:Shared) (H:Hp) (C:Addr),PG (compCx X pins sc fr Nc fp s H C) tg g/\PIf (compCx X pins sc fr Nc fp s H C) ifs tt/\PE (compCx X pins sc fr Nc fp s H C) kx tk/\PE (compCx X pins sc fr Nc fp s H C) vx tv)
  (I2:Inv X pins σ H2 s) (T:Turn X.prog X.w X.K tg J fp it tn) (st2:tn 0 s.heap) (f2:∀ b ∈ fp,FpOk X pins H2 b) (h:∀ D,H2 D = none->DCr J caps g tt tk tv σ H2 Q D)
  (fin:∀ (D C:Addr) (σ':St) (H':Hp) (s':Shared),Inv (compCx X pins sc fr Nc fp s H2 C) [] σ' H' s'->Q (.ref D) H'->RR (.ref D) C (.ok .next) s') :
  wpAny (model X.prog X.w) X.A newDict (fun acc s₃=>wpAny (model X.prog X.w) X.A (newFunctionEnv sc X.env.globals (clB X.env fr) [] X.env.qual none .none (some X.env)) (fun cenv s₄=>
   codeAny (model X.prog X.w) X.A (.compStart (.DictComp kx vx [⟨tg,iter,ifs,0⟩] sc pos) 0 (.ref it) acc { cenv with scope:=relabel sc X.env }) (RR acc cenv.locals) s₄) E s₃) E s:=by
 have hcell:∀ y ∈ sc.names,y.2 ≠ .cell:=fun y hy=>by
  have h3:=List.all_eq_true.mp B.names _ hy
  simp only [Bool.and_eq_true,bne_iff_ne,ne_eq] at h3
  exact h3.1.1
 refine wpAny_newObj_type (wpAny_newFunctionEnv hcell (by intro y hy; simp at hy) (fun h₁ hns₁ hsb₁=>?_) B.kind)
 dsimp only at hns₁ hsb₁ |-
 have hnew:(s.heap.push { cls:=.type "dict",dict:=none,data:=.dict #[] }).DictOf (mixKind X.prog X.w) s.heap.objs.size []:=Heap.DictOf.new s.heap
 generalize hH2:s.heap.push { cls:=.type "dict",dict:=none,data:=.dict #[] } = H3 at hns₁ hsb₁ hnew |-
 have hCs:H3.objs.size = s.heap.objs.size + 1:=by rw [<- hH2,Heap.size_push]
 have hDC:s.heap.objs.size ≠ H3.objs.size:=by rw [hCs]; exact Nat.ne_of_lt (Nat.lt_succ_self _)
 have hC:s.heap.objs.size<=H3.objs.size:=by rw [hCs]; exact Nat.le_succ _
 have old:∀ b o,s.heap.get? b = some o->h₁.get? b = some o:=fun b o e=>
  hsb₁.extBut b o (Nat.ne_of_lt (Nat.lt_of_lt_of_le (Heap.lt_size e) hC)) (Heap.get?_push_of_some _ (hH2 ▸ Heap.get?_push_of_some _ e))
 have hsm:sysModules < s.heap.objs.size:=sysLt I2
 have hD:h₁.DictOf (mixKind X.prog X.w) s.heap.objs.size []:=hnew.at fun o e=>hsb₁.extBut _ _ hDC (Heap.get?_push_of_some _ e)
 have hDo:∀ H',ObjOk X.prog X.w H' h₁ s.heap.objs.size (.dK []):=fun _=>⟨Nat.zero_le _,beq_eq_false_iff_ne.mpr (Ne.symm (Nat.ne_of_lt hsm)),[],.nil,hD⟩
 have ho:∀ b ∈ fp,∃ o,s.heap.get? b = some o:=fun b hb'=>let ⟨o,e,_⟩:=T.obj 0 _ st2 b hb'; ⟨o,e⟩
 have I4:∀ t',Inv (compCx X pins sc fr Nc fp s H2 H3.objs.size) [] (capS caps σ) (upd H2 s.heap.objs.size (.dK [])) { s with heap:=h₁,toks:=t' }:=fun t'=>
  comp_startO I2 B f2 ho hC (Nat.le_refl _) hDC old (hDo _) hns₁ hcap hlen
 have ok:=(I4 0).ok
 obtain ⟨hbg,hbt,hbk,hbv⟩:=hb pins fp s H2 H3.objs.size
 obtain ⟨W,⟨m0,w0⟩,turn⟩:=h s.heap.objs.size (I2.hok.fresh (Nat.le_refl _))
 have stat:∀ {H':Hp},(∀ b ∈ fp,H' b = none)->∀ b ∈ fp,FpOk (compCx X pins sc fr Nc fp s H2 H3.objs.size) [] H' b:=fun hn b hb'=>
  ⟨hn b hb',(ok.exf b hb').1,ok.exfs b hb',.inl hb',(ok.exf b hb').2,fun p hp=>(f2 b hb').2.2.2.2.2 p (by simpa using hp)⟩
 have hfp0:∀ b ∈ fp,upd H2 s.heap.objs.size (.dK []) b = none:=fun b hb'=>by
  obtain ⟨o,e⟩:=ho b hb'
  rw [upd_ne (Nat.ne_of_lt (Heap.lt_size e))]
  exact (f2 b hb').1
 have loop:∀ s₃:Shared,s₃ = { s with heap:=h₁,toks:=s.toks + ([]:List (Str × Value)).length }->
   codeAny (model X.prog X.w) X.A (.compLoop (.DictComp kx vx [⟨tg,iter,ifs,0⟩] sc pos) 0 (.ref it) (.ref s.heap.objs.size) (compEnvC sc (clB X.env fr) H3.objs.size X.env)) (RR (.ref s.heap.objs.size) H3.objs.size) s₃:=by
  rintro s₃ rfl
  refine compLoop_anyD (fun n s'=>∃ i σ' H' ys,Inv (compCx X pins sc fr Nc fp s H2 H3.objs.size) [] σ' H' s'/\tn i s'.heap/\(∀ b ∈ fp,H' b = none)/\W i n ys H'/\
   (∀ (k:Nat) (v:V),(capS caps σ)[k]? = some (some v)->σ'[k]? = some (some v))) ?_ m0
   ⟨0,_,_,[],I4 _,T.keep _ _ _ st2 (fun b _ o e=>old b o e),hfp0,w0,fun _ _ e=>e⟩
  rintro n s3 ⟨i,σ3,H4,ys,I3,st3,fr3,w3,wk3⟩
  have I3':Inv (compCx X pins sc fr Nc fp s H2 H3.objs.size) [] (capS caps σ) H4 s3:=I3.weak (by rw [I3.len]; exact (I4 0).len) wk3
  rcases turn i n ys H4 w3 with ⟨stop,qn⟩ | ⟨gg,step⟩
  ·refine thn (T.done (compCx X pins sc fr Nc fp s H2 H3.objs.size) rfl rfl rfl hc i [] s3 _ H4 (fun _ _=>False) I3' (stat fr3) st3 stop) fun r s4 ⟨hr,I4'⟩=>?_
   subst hr
   exact fin _ _ _ _ _ I4' qn
  ·refine thn (T.item (compCx X pins sc fr Nc fp s H2 H3.objs.size) rfl rfl rfl hc i [] s3 _ H4 (fun _ _=>False) I3' (stat fr3) st3 gg) fun r s4 ⟨u,hr,h4⟩=>?_
   subst hr
   refine thn h4 fun _ s5 ⟨x,H5,I5,r5,y5,st5,fr5⟩=>?_
   have I5':=I5.pinned (stat fr5) (T.obj _ _ st5)
   refine thn (hbg _ s5 _ H5 x u _ I5' r5 (go _ _ _ _ (step x H5 y5))) fun _ s6 ⟨σ6,H6,I6,q6,l6,k6⟩=>?_
   have wk6:∀ (k:Nat) (v:V),(capS caps σ)[k]? = some (some v)->σ6[k]? = some (some v):=fun k v e=>by
    rw [k6 k fun hk=>?_]
    ·exact e
    ·have h1:=List.all_eq_true.mp how k hk
     have h2:caps[k]? = some none:=by simpa using h1
     unfold capS at e
     rw [List.getElem?_map,h2] at e
     cases e
   refine thn (hbt _ s6 σ6 H6 _ I6 q6) fun ok s7 ⟨H7,I7,q7⟩=>?_
   have again:∀ {H8:Hp} {s8:Shared} {ys':List (Key × V)},Inv (compCx X pins sc fr Nc fp s H2 H3.objs.size) ([] ++ pinsAt fp s5.heap) σ6 H8 s8->(∃ m',m' < n/\W (i + 1) m' ys' H8)->
     ∃ m,m < n/\∃ i σ' H' ys,Inv (compCx X pins sc fr Nc fp s H2 H3.objs.size) [] σ' H' s8/\tn i s8.heap/\(∀ b ∈ fp,H' b = none)/\W i m ys H'/\(∀ (k:Nat) (v:V),(capS caps σ)[k]? = some (some v)->σ'[k]? = some (some v)):=fun {H8 s8 ys'} I8 ⟨m',hm,w8⟩=>by
    refine ⟨m',hm,i + 1,σ6,H8,ys',I8.unpinned,T.keep _ _ _ st5 fun b hb' o e=>(I8.pin (b,o) (List.mem_append_right _ (List.mem_append_right _ (mem_pinsAt hb' e)))).1,fun b hb'=>?_,w8,wk6⟩
    obtain ⟨o,e,d⟩:=T.obj _ _ st5 b hb'
    exact (I8.pin (b,o) (List.mem_append_right _ (List.mem_append_right _ (mem_pinsAt hb' e)))).2.1
   cases ok with
   | false=>
    rw [if_neg Bool.false_ne_true]
    exact again I7 (q7.2 rfl)
   | true=>
    rw [if_pos rfl]
    refine thn (hbk _ s7 σ6 H7 _ I7 (q7.1 rfl)) fun uk s8 ⟨y,H8,I8,r8,q8⟩=>?_
    refine thn (hbv _ s8 σ6 H8 _ I8 q8) fun uv s9 ⟨v,H9,I9,r9,k,ey,hD9,hz,q9⟩=>?_
    subst ey
    obtain ⟨z,hd,vs,rel,dd⟩:=dk_of I9.hok hD9
    have hzs:vs.length<=sizeLine:=by rw [<- rel.length]; exact z
    have hl:(putK ys k v).length<=sizeLine:=by have:=length_putK ys k v; omega
    refine wpAny_dictSet_pairs (hsz:=hzs) (kV_is r8) dd fun h' dd' hs=>?_
    have he:∃ q,h'.get? s.heap.objs.size = some q:=let ⟨q,_,_,hq,_⟩:=dd'; ⟨q,hq⟩
    exact again (d_write I9 (by rw [hD9]; exact True.intro) hs he (dk_new hl hd (rel.put k r9) dd')) q9
 exact codeAny_compStart_dict (loop _ rfl) (T.self _ 0 _ _ _ (T.keep _ _ _ st2 (fun b _ o e=>old b o e)) (loop _ rfl))
theorem pe_dc {wi:TI} (fr Nc:List Str) (caps:List (Option Nat)) (hc:X.calm = true) (B:BlockOk X.env sc fr) (hi:PI X tg iter wi) (go:GOwn g ow) (how:(ow.all fun i=>caps[i]? == some none) = true)
  (hcap:capChk X.N Nc caps X.env sc fr = true) (hlen:caps.length = Nc.length)
  (hb:∀ (pins:List (Addr × Obj)) (fp:List Addr) (s:Shared) (H:Hp) (C:Addr),PG (compCx X pins sc fr Nc fp s H C) tg g/\PIf (compCx X pins sc fr Nc fp s H C) ifs tt/\PE (compCx X pins sc fr Nc fp s H C) kx tk/\PE (compCx X pins sc fr Nc fp s H C) vx tv)
  (hs:∀ x,foldedSetIterable iter X.env x = pure x:=by intro _; rfl):PE X (.DictComp kx vx [⟨tg,iter,ifs,0⟩] sc pos) (tDC wi caps g tt tk tv):=by
 refine ⟨?_⟩
 intro pins s σ H Q I h
 rw [arm_eval_DictComp]
 refine wpAny_comprehension_free (use:=none) rfl hs B.clos B.kind B.loc (thn (hi pins s σ H _ I h) fun v s1 h1=>thn h1 fun itv s2 h2=>?_)
 obtain ⟨it,fp,tn,J,H2,e,I2,T,st2,f2,q⟩:=h2
 subst e
 refine comp_runD (RR:=fun acc C=>compPost (model X.prog X.w) X.A X.xe none (EP X pins σ Q) acc C) hc B go how hcap hlen hb I2 T st2 f2 q ?_
 intro D C σ' H' s' J' qq
 obtain ⟨m,hn,_⟩:=J'.loc
 exact ⟨m,hn,fun h' hs'=>⟨.ref D,H',comp_gone I2 J' (comp_back I2 f2 J') hs',rfl,qq⟩⟩
end
def eqT (xs ys:List V):Bool:=((List.range (min xs.length ys.length)).all fun j=>eqV (xs[j]?.getD .non) (ys[j]?.getD .non)) && xs.length == ys.length
section
variable {X:Cx} {pins:List (Addr × Obj)} {σ : St} {H:Hp} {s:Shared}
theorem Inv.freeze (I:Inv X pins σ H s) {l:Addr} {kvs:List (Key × V)} (hl:H l = some (.dK kvs)):∃ o,s.heap.get? l = some o/\Inv X pins σ (upd H l (.frz o (.dK kvs))) s:=by
 obtain ⟨hz,hy,vs,r,o,es,ep,ho,c⟩:=id (I.hok l _ hl)
 refine ⟨o,ho,⟨I.ok,I.os,I.bare,⟨I.base.keep,I.base.slot,fun b u e n x=>?_,I.base.there,fun b xs e=>?_,fun b u v e=>?_,fun b ps e=>?_⟩,I.loc,I.cell,?_,fun x c e=>?_,fun p hp'=>?_,fun b u e=>?_,I.len⟩⟩
 ·have e1:=I.base.free b u e n x
  rw [upd_ne (ne_of_none hl e1).symm]; exact e1
 ·have e1:=I.base.tups b xs e
  rw [upd_ne (ne_of e1 hl (by intro z; cases z))]; exact e1
 ·have e1:=I.base.frzs b u v e
  rw [upd_ne (ne_of e1 hl (by intro z; cases z))]; exact e1
 ·obtain ⟨more,e1⟩:=I.base.tbls b ps e
  exact ⟨more,by rw [upd_ne (ne_of e1 hl (by intro z; cases z))]; exact e1⟩
 ·rw [upd_ne (ne_of_none hl I.free).symm]; exact I.free
 ·rw [upd_ne (ne_of_none hl (I.freeC x c e)).symm]; exact I.freeC x c e
 ·obtain ⟨q1,q2,q3⟩:=I.pin p hp'
  exact ⟨q1,by rw [upd_ne (ne_of_none hl q2).symm]; exact q2,q3⟩
 ·have ho':∀ c,∀ b,H b = some (.own c)->upd H l (.frz o (.dK kvs)) b = some (.own c):=fun c b q=>by rw [upd_ne (ne_of q hl (by intro z; cases z))]; exact q
  have ht':∀ b xs,H b = some (.tup xs)->upd H l (.frz o (.dK kvs)) b = some (.tup xs):=fun b xs q=>by rw [upd_ne (ne_of q hl (by intro z; cases z))]; exact q
  by_cases hb:b = l
  ·subst hb; rw [upd_same] at e; cases e
   exact ⟨ho,(I.hok b _ hl).stay (fun _ _ _ q=>q) (ho' b) ht'⟩
  ·rw [upd_ne hb] at e
   exact (I.hok b u e).stay (fun _ _ _ q=>q) (ho' b) ht'
def tFrz (te:TE):TE:=fun σ H Q=>te σ H fun x H1=>∃ l kvs,x = .ref l/\H1 l = some (.dK kvs)/\∀ o,Q x (upd H1 l (.frz o (.dK kvs)))
theorem pe_frz {e:Expr} {te:TE} (h:PE X e te):PE X e (tFrz te):=by
 refine ⟨?_⟩
 intro pins s σ H Q I hw
 refine thn (h pins s σ H _ I hw) fun v s1 ⟨x,H1,I1,r1,l,kvs,ex,hl,q⟩=>?_
 obtain ⟨o,_,I2⟩:=I1.freeze hl
 exact ⟨x,_,I2,r1,q o⟩
end
theorem rel_key {k:Key} {u:Value} (h:keyIs k u = true):RelV (kV k) u:=by
 rcases keyIs_shape h with ⟨i,t,rfl,rfl⟩ | ⟨x,t,rfl,rfl⟩
 ·exact ⟨t,rfl⟩
 ·exact ⟨t,rfl⟩
def Itd (d:Addr) (o:Obj) (kvs:List (Key × V)):It:=
 ⟨fun i H=>H d = some (.frz o (.dK kvs))/\i < kvs.length,fun i H x H'=>∃ (p:Addr) (k:Key) (v:V),x = .ref p/\H p = none/\kvs[i]? = some (k,v)/\H' = upd H p (.tup [kV k,v]),fun i H=>H d = some (.frz o (.dK kvs))/\kvs.length<=i⟩
theorem frz_at {X:Cx} {pins:List (Addr × Obj)} {σ : St} {H:Hp} {s:Shared} {d:Addr} {o:Obj} {kvs:List (Key × V)} {es:Array DictEntry} {ep:Nat} (I:Inv X pins σ H s) (hd:H d = some (.frz o (.dK kvs))) (ho:o.data = .dict es ep) :
  (d == sysModules) = false/\∃ vs,KV kvs vs/\s.heap.DictAt (mixKind X.prog X.w) d vs ep:=by
 obtain ⟨e,hz,hy,vs,r,o',es',ep',ho',c1,c2,c3⟩:=id (I.hok d _ hd)
 rw [e] at ho'
 cases ho'
 rw [ho] at c2
 cases c2
 exact ⟨hy,vs,r,o,es,e,c1,ho,c3⟩
theorem entry_itemiter_iter:entryFor table "dict_itemiterator.__iter__" = some Builtin.«dict_keyiterator.__iter__»:=entryFor_alias (id':="dict_keyiterator.__iter__") (by kernel_rfl) (by first | rfl | decide +kernel | (unfold String.splitOn; simp +decide [String.splitOnAux])) (by decide +kernel) (by kernel_rfl)
theorem wpAny_pyIter_itemiter {P:Program} {w:World} {A:Around} {E:Value->Shared->Prop} {s:Shared} {it d:Addr} {i n ep:Nat} {ok ov:Value} {Q:Value->Shared->Prop} (he:IsItemIter s.heap it d i n ep ok ov) (h:Q (.ref it) s):wpAny (model P w) A (pyIter (.ref it)) Q E s:=by
 have hT:s.TypeIs (.ref it) "dict_itemiterator":=⟨_,he,rfl⟩
 refine wpAny_pyIter_slot hT F.slot_dict_itemiterator_iter (wpAny_call_entry F.slot_dict_itemiterator_iter hT entry_itemiter_iter ?_ (F.args_dict_itemiterator_iter_1 _))
 show wpAny _ _ (ret (.ref it)) _ _ s
 exact wpAny_pure ⟨_,rfl,"dict_itemiterator",_,hT,F.slot_dict_itemiterator_next.lookup,h⟩
theorem turn_items {P:Program} {w:World} {K:Frag} {elts:List Expr} {x1:Nat} {tpos:Pos} (d it:Addr) (o:Obj) (kvs:List (Key × V)) (es:Array DictEntry) (ep:Nat) (ho:o.data = .dict es ep) :
  Turn P w K (.Tuple elts x1 tpos) (Itd d o kvs) [it] it (fun i h=>∃ ok ov,IsItemIter h it d i kvs.length ep ok ov) where
 mem:=by simp
 obj:=fun i h st b hb=>by
  have e':b = it:=by simpa using hb
  subst e'
  obtain ⟨ok,ov,hi⟩:=st
  exact ⟨_,hi,fun v q=>by cases q⟩
 keep:=fun i h h' st k=>by
  obtain ⟨ok,ov,hi⟩:=st
  exact ⟨ok,ov,k it (by simp) _ hi⟩
 item:=by
  intro X hP hw hK hc i pins s σ H E I hf st hg
  subst hP hw hK
  obtain ⟨f0,f1,f2,f3,f4,f5⟩:=hf it (by simp)
  obtain ⟨ok,ov,hit⟩:=st
  obtain ⟨hd,hlt⟩:=hg
  obtain ⟨hy,vs,r,hm⟩:=frz_at I hd ho
  have hl:kvs.length = vs.length:=r.length
  obtain ⟨⟨k2,u⟩,hu,ek,ru⟩:=Paired.get r (List.getElem?_eq_getElem hlt)
  rw [hl] at hit
  obtain ⟨k,v,hkv⟩:∃ k v,kvs[i] = (k,v):=⟨_,_,rfl⟩
  have ek:k = k2:=by rw [hkv] at ek; exact ek
  have ru2:RelV v u:=by rw [hkv] at ru; exact ru
  subst ek
  refine wpAny_pyNext_items_item hit hm hu fun key h' hk2 he' htup hsz hkp=>?_
  have rk:RelV (kV k) key:=rel_key hk2
  have I0:Inv X pins σ H { s with heap:=h' }:=I.turned (t':=s.toks) (it:=it) hkp f0 f1 f3 f4 f5
  have hfr:H s.heap.objs.size = none:=I.hok.fresh (Nat.le_refl _)
  have I1:Inv X pins σ (upd H s.heap.objs.size (.tup [kV k,v])) { s with heap:=h' }:=by
   have hok:HOk X.prog X.w (upd H s.heap.objs.size (.tup [kV k,v])) h':=fun b o q=>by
    by_cases hb:b = s.heap.objs.size
    ·subst hb
     rw [upd_same] at q; cases q
     exact ⟨by show 2<=sizeLine; decide,[key,u],.cons rk (.cons ru2 .nil),⟨_,htup,rfl,_,rfl⟩⟩
    ·rw [upd_ne hb] at q
     exact (I0.hok b o q).stay (fun _ _ _ z=>z) (fun c z=>by rw [upd_ne (ne_of_none z hfr)]; exact z) fun c xs' z=>by rw [upd_ne (ne_of_none z hfr)]; exact z
   refine I0.step (s:={ s with heap:=h' }) (g':=s.gens) (d':=s.drawn) (h':=h') (t':=s.toks) (ch:=[s.heap.objs.size]) (fun b hb=>?_) (fun b o _ _ _ e1 _=>e1) (fun b o _ _ _ e1 _=>⟨o.slots,e1⟩) (fun b o hb e1 n=>by rw [upd_ne (fun z=>hb (by simp [z]))]; exact n)
    (fun b o _ e1=>⟨o,e1⟩) (fun b xs' e1=>by rw [upd_ne (ne_of_none e1 hfr)]; exact e1) (fun b o' u' e1=>by rw [upd_ne (ne_of_none e1 hfr)]; exact e1) (fun b ps e1=>⟨#[],by rw [upd_ne (ne_of_none e1 hfr),e1]; simp⟩) (fun m hm=>hm) hok I0.bare
   have e':b = s.heap.objs.size:=by simpa using hb
   subst e'
   refine ⟨.inr I.sz,fun z=>?_,fun y c h z=>?_,fun p hp' z=>?_⟩
   ·have:=I.lt; rw [<- z] at this; exact absurd this (Nat.lt_irrefl _)
   ·obtain ⟨v',hv⟩:=I.cell y c h
    have:=hv.lt; rw [z] at this; exact absurd this (Nat.lt_irrefl _)
   ·have:=I.pin_lt hp'; rw [z] at this; exact absurd this (Nat.lt_irrefl _)
  refine ⟨_,rfl,wpAny_letOwnedTupleGo_items he' fun h2 he2 hs2=>?_⟩
  have nis:s.heap.objs.size ≠ it:=fun z=>by
   have:=Heap.lt_size (show s.heap.get? it = some _ from hit)
   rw [<- z] at this; exact absurd this (Nat.lt_irrefl _)
  have I2:Inv X pins σ (upd H s.heap.objs.size (.tup [kV k,v])) { s with heap:=h2 }:=
   I1.turned (s:={ s with heap:=h' }) (t':=s.toks) (it:=it) (fun b o hb q=>(hs2.2 b hb).trans q) (by rw [upd_ne nis.symm]; exact f0) f1 f3 f4 f5
  refine ⟨.ref s.heap.objs.size,_,I2,rfl,⟨_,k,v,rfl,hfr,by rw [List.getElem?_eq_getElem hlt,hkv],rfl⟩,⟨_,_,by rw [hl]; exact he2⟩,fun b hb=>?_⟩
  have e':b = it:=by simpa using hb
  subst e'
  rw [upd_ne nis.symm]; exact f0
 done:=by
  intro X hP hw hK hc i pins s σ H E I hf st hg
  subst hP hw hK
  obtain ⟨ok,ov,hit⟩:=st
  obtain ⟨f0,f1,f2,f3,f4,f5⟩:=hf it (by simp)
  obtain ⟨hd,hle⟩:=hg
  obtain ⟨hy,vs,r,hm⟩:=frz_at I hd ho
  have hl:kvs.length = vs.length:=r.length
  rw [hl] at hit
  exact wpAny_pyNext_items_end (I.ok.hd hc) hit hm (List.getElem?_eq_none (by omega)) fun h' eb=>⟨rfl,I.turned (t':=s.toks) (fun b o hb e1=>eb b o hb e1) f0 f1 f3 f4 f5⟩
 self:=fun A i s Q E st h=>by
  obtain ⟨ok,ov,hit⟩:=st
  exact wpAny_pyIter_itemiter hit h
section
variable {X:Cx} {elts:List Expr} {x1:Nat} {tpos:Pos}
def iItems (te:TE):TI:=fun σ H R=>te σ H fun x H1=>∃ d o kvs,x = .ref d/\H1 d = some (.frz o (.dK kvs))/\R (Itd d o kvs) H1
theorem pi_items {l:Expr} {te:TE} {apos cpos:Pos} (hl:PE X l te) (hbase:attributeBase l "items" X.env (eval l X.env) = eval l X.env:=by rfl) (hline:(apos.endLine == cpos.line) = true:=by rfl) :
  PI X (.Tuple elts x1 tpos) (.Call (.Attribute l "items" apos) [] [] cpos) (iItems te):=by
 refine ⟨?_⟩
 intro pins s σ H R I h
 refine wpAny_Call_method0_late hbase hline (thn (hl pins s σ H _ I h) fun v s1 ⟨x,H1,I1,r1,d,o,kvs,ex,hd,q⟩=>?_)
 subst ex
 cases r1
 obtain ⟨e,hz,hy,vs,r,o',es,ep,ho',c1,c2,c3⟩:=id (I1.hok d _ hd)
 rw [e] at ho'
 cases ho'
 have hm:s1.heap.DictAt (mixKind X.prog X.w) d vs ep:=⟨o,es,e,c1,c2,c3⟩
 refine ⟨"dict","dict.items",F.plainAttrs_dict,F.slot_dict_items,F.type_dict_items,⟨o,e,c1.1⟩,fun a ea=>by cases ea; exact ⟨o,e,c1.2.1⟩,Calls.callWith_builtin rfl (PySem.evalArgs_none ?_)⟩
 refine call_meetsIn F.slot_dict_items ⟨o,e,c1.1⟩ F.entry_dict_items (F.args_dict_items_1 _) (meets_dict_items (mixKind X.prog X.w) d hy) ⟨⟨vs,hm.dictOf⟩,?_⟩
 show wpAny _ _ (pyIter (.ref s1.heap.objs.size)) _ _ _
 have hl:kvs.length = vs.length:=r.length
 refine wpAny_pyIter_items (knd:=mixKind X.prog X.w) (d:=d) (kvs:=vs) (ep:=ep) ⟨_,Heap.get?_push_size _ rfl,rfl,rfl⟩ (hm.push _) ?_
 have hk:∀ b ob,s1.heap.get? b = some ob->((s1.heap.push { cls:=.type "dict_items",data:=.fields #[.ref d] }).push { cls:=.type "dict_itemiterator",data:=.fields #[.none,.bool false,.ref d,.int 0 0,.int vs.length 0,.int ep 0,.none,.none] }).get? b = some ob:=fun b ob q=>Heap.get?_push_of_some _ (Heap.get?_push_of_some _ q)
 have I2:=I1.kept (t':=s1.toks) hk
 have hsz:(s1.heap.push { cls:=.type "dict_items",data:=.fields #[.ref d] }).objs.size = s1.heap.objs.size + 1:=Heap.size_push ..
 refine ⟨(s1.heap.push { cls:=.type "dict_items",data:=.fields #[.ref d] }).objs.size,[(s1.heap.push { cls:=.type "dict_items",data:=.fields #[.ref d] }).objs.size],_,Itd d o kvs,H1,rfl,I2,turn_items d _ o kvs es ep c2,⟨.none,.none,?_⟩,fun b hb=>?_,q⟩
 ·rw [hl]
  exact Heap.get?_push_size (s1.heap.push { cls:=.type "dict_items",data:=.fields #[.ref d] }) (o:={ cls:=.type "dict_itemiterator",data:=.fields #[.none,.bool false,.ref d,.int 0 0,.int vs.length 0,.int ep 0,.none,.none] }) rfl
 ·have e':b = (s1.heap.push { cls:=.type "dict_items",data:=.fields #[.ref d] }).objs.size:=by simpa using hb
  subst e'
  rw [hsz]
  exact I1.fpOk (Nat.le_succ _) (I1.hok.fresh (Nat.le_succ _))
theorem for_items {d:Addr} {o:Obj} {kvs:List (Key × V)} {g:TG} {tb:TS} {D:Ends} {σ : St} {H:Hp} (Pv:Nat->St->Hp->Prop) (h0:Pv 0 σ H) (hl:∀ i σ H,i<=kvs.length->Pv i σ H->H d = some (.frz o (.dK kvs)))
  (hs:∀ i k v p σ H,kvs[i]? = some (k,v)->Pv i σ H->H p = none->g (.ref p) σ (upd H p (.tup [kV k,v])) fun σ2 H2=>tb { D with nx:=Pv (i + 1),ct:=Pv (i + 1),bk:=D.nx } σ2 H2) (hd:∀ σ H,Pv kvs.length σ H->D.nx σ H) :
  ∃ W:Nat->Nat->St->Hp->Prop,(∃ m,W 0 m σ H)/\∀ i m σ H,W i m σ H->
   ((Itd d o kvs).stop i H/\D.nx σ H)\/((Itd d o kvs).go i H/\∃ N:St->Hp->Prop,(∀ σ' H',N σ' H'->∃ m',m' < m/\W (i + 1) m' σ' H')/\∀ x H',(Itd d o kvs).yld i H x H'->g x σ H' fun σ2 H2=>tb { D with nx:=N,ct:=N,bk:=D.nx } σ2 H2):=by
 refine ⟨fun i m σ H=>m = kvs.length - i/\i<=kvs.length/\Pv i σ H,⟨kvs.length,by simp,Nat.zero_le _,h0⟩,?_⟩
 rintro i m σ H ⟨rfl,hi,p⟩
 have q:=hl i σ H hi p
 by_cases hlt:i < kvs.length
 ·refine .inr ⟨⟨q,hlt⟩,Pv (i + 1),fun σ' H' p'=>⟨kvs.length - (i + 1),by omega,rfl,hlt,p'⟩,fun x H' y=>?_⟩
  obtain ⟨pp,k,v,rfl,hp,y2,rfl⟩:=y
  exact hs i k v pp σ H y2 p hp
 ·have e:i = kvs.length:=by omega
  subst e
  exact .inl ⟨⟨q,Nat.le_refl _⟩,hd σ H p⟩
end
theorem rc_T {X:Cx} {pins:List (Addr × Obj)} {σ : St} {H:Hp} {s:Shared} {A:Around} {a b:Addr} {xs ys:List V} (I:Inv X pins σ H s) (ha:SqT X.K H a xs) (hb:SqT X.K H b ys) (fx:xs.all flatV = true) (fy:ys.all flatV = true) (hu:A.units + 8 < cLine) :
  SeqAt.RcAt A s (.ref a) (.ref b) (eqT xs ys):=by
 obtain ⟨ia,va,pa,_⟩:=I.tuple ha
 obtain ⟨ib,vb,pb,_⟩:=I.tuple hb
 have la:ia.toArray.size = xs.length:=by rw [List.size_toArray]; exact va.length.symm
 have lb:ib.toArray.size = ys.length:=by rw [List.size_toArray]; exact vb.length.symm
 have:=SeqAt.RcAt.tuples (A:=A) (s:=s) (e:=fun j=>eqV (xs[j]?.getD .non) (ys[j]?.getD .non)) (show s.heap.IsTuple a ia.toArray from pa) (show s.heap.IsTuple b ib.toArray from pb) (by omega) (fun j h1 h2=>by
  have j1:j < ia.length:=by simpa using h1
  have j2:j < ib.length:=by simpa using h2
  have hxl:j < xs.length:=by rw [va.length]; exact j1
  have hyl:j < ys.length:=by rw [vb.length]; exact j2
  obtain ⟨u',e1,e2⟩:=va.get (i:=j) (List.getElem?_eq_getElem hxl)
  obtain ⟨v',e3,e4⟩:=vb.get (i:=j) (List.getElem?_eq_getElem hyl)
  rw [List.getElem?_eq_getElem j1] at e1
  rw [List.getElem?_eq_getElem j2] at e3
  cases e1; cases e3
  have q:=eqAt_V (A:=A.in1) (s:=s) e2 e4 (List.all_eq_true.mp fx _ (List.getElem_mem hxl)) (List.all_eq_true.mp fy _ (List.getElem_mem hyl))
  simpa [hxl,hyl] using q)
 rw [la,lb] at this
 exact this
def rEqTup (K:Frag):R2:=fun x y H Q=>∃ (a c:Addr) (xs ys:List V),x = .ref a/\y = .ref c/\SqT K H a xs/\SqT K H c ys/\xs.all flatV = true/\ys.all flatV = true/\Q (.bl (eqT xs ys)) H
theorem op_eqTup {X:Cx} (hu:X.A.units + 64 < cLine):OpR X (compareOp .Eq) (rEqTup X.K):=by
 intro pins s σ H x y v u Q I rx ry h
 obtain ⟨a,c,xs,ys,rfl,rfl,ha,hc,fx,fy,q⟩:=h
 cases rx; cases ry
 exact rc_T (A:=X.A) I ha hc fx fy (by omega) X.prog X.w X.xe _ ⟨.bl _,H,I,rfl,q⟩
def seen (val:Nat->Str) (T:Str->Bool):Nat->Nat->Str->Bool
 | _,0,z=>T z
 | i,k + 1,z=>seen val (fun y=>T y || decide (y = val i)) (i + 1) k z
section
variable {P:Program} {w:World} {A:Around} {R:Result->Shared->Prop} {I:Addr} {fp wr:List Addr} {G:Array GenState->Array GenState->Prop} {n:Nat} {Pr:Nat->Value->Prop} {Sg:Nat->Shared->Prop}
theorem texts_loop (W:WalksS P w A.in1 I fp wr G n Pr Sg) (a:Addr) (ha:a ∉ fp) (val:Nat->Str) (hv:∀ i v,Pr i v->∃ t,v = .str (val i) t) (hb:n + 1 < scanBound) :
  ∀ (k i:Nat) (s:Shared) (T:Str->Bool) (c:Nat),n - i = k->i<=n->Sg i s->c<=i->s.heap.SetOf (strKind P w) a T c->
   (∀ s' c',Moved (a :: wr) G s s'->c'<=n->s'.heap.SetOf (strKind P w) a (seen val T i k) c'->R (.ok (.ret .none)) s')->
   codeAny (model P w) A (.builtin "set.update.loop" ⟨[.ref a,.ref I],[]⟩) R s
 | 0,i,s,T,c,hk,hi,hg,hc,hT,hR=>by
  have hw:a ∉ wr:=fun z=>ha (W.sub _ z)
  have ei:i = n:=by omega
  subst ei
  refine codeAny_builtin PyProof.Rows.F.entry_set_update_loop ?_; rw [Around.under_plainId PyProof.Rows.F.plain_set_update_loop _]
  show wpAny _ A.in1 (pyNext (.ref I) >>= _) _ _ _; refine wpAny_bind (W.done s _ _ hg fun s' hm=>?_)
  show wpAny _ A.in1 (ret Value.none) _ _ _; refine wpAny_pure (hR s' c (hm.mono fun b z=>List.mem_cons_of_mem _ z) hc ?_)
  obtain ⟨ob,es,ep,t,h1,h2⟩:=hT
  exact ⟨ob,es,ep,t,hm.heap a _ hw h1,h2⟩
 | k + 1,i,s,T,c,hk,hi,hg,hc,hT,hR=>by
  have hw:a ∉ wr:=fun z=>ha (W.sub _ z)
  have hlt:i < n:=by omega
  refine codeAny_builtin PyProof.Rows.F.entry_set_update_loop ?_; rw [Around.under_plainId PyProof.Rows.F.plain_set_update_loop _]
  show wpAny _ A.in1 (pyNext (.ref I) >>= _) _ _ _; refine wpAny_bind (W.item i s _ _ hlt hg fun v s' hP hg' hm=>?_)
  obtain ⟨t,rfl⟩:=hv i v hP
  have hT':s'.heap.SetOf (strKind P w) a T c:=by
   obtain ⟨ob,es,ep,tb,h1,h2⟩:=hT
   exact ⟨ob,es,ep,tb,hm.heap a _ hw h1,h2⟩
  show wpAny _ A.in1 (holding [Value.str (val i) t] (setAdd a (.str (val i) t)) >>= _) _ _ s'
  refine wpAny_bind (wpAny_holding ?_); unfold setAdd; refine wpAny_holding ?_
  refine wpAny_bind ((strKind P w).pyHash (k:=val i) (strKind_is _ _ _ _) ?_)
  refine wpAny_setAddHashed_of (knd:=strKind P w) (s:={ s' with toks:=s'.toks + 1 }) (strKind_is _ _ _ _) rfl hT' (by omega) fun h' hsb h3=>?_
  refine wpAny_pure ⟨plainId_quiet PyProof.Rows.F.plain_set_update_loop _,texts_loop W a ha val hv hb k (i + 1) _ _ _ (by omega) hlt (W.frame _ s' _ _ hg' (Nat.le_succ _) fun b hb' o e=>?_) (by split <;> omega) h3 fun s2 c2 hm2 hc2 h4=>?_⟩
  ·have:b ≠ a:=fun z=>ha (z ▸ hb')
   rw [hsb.2 b this]; exact e
  ·refine hR s2 c2 (Moved.trans W.gtrans ((hm.mono fun b z=>List.mem_cons_of_mem _ z).then_heap (Nat.le_succ _) fun b o hb' e=>?_) hm2) hc2 h4
   have:b ≠ a:=fun z=>hb' (z ▸ List.mem_cons_self)
   rw [hsb.2 b this]; exact e
end
abbrev setN (led:Bool):Obj:={ cls:=.type "set",dict:=none,data:=.set #[] 0 (.fresh 0 0 led) }
set_option maxHeartbeats 8000000 in
theorem call_texts {P:Program} {w:World} {A:Around} {E:Value->Shared->Prop} {s:Shared} {l:Addr} {items:Array Value} {zs:List Str} {Q:Value->Shared->Prop}
  (hh:A.handled = none) (hl:s.heap.IsList l items) (hv:∀ (i:Nat) (v:Value),items[i]? = some v->∃ t,v = .str (zs.getD i "") t) (hb:items.size + 1 < scanBound)
  (h:∀ (h':Heap) (tk c:Nat),h'.SetOf (strKind P w) s.heap.objs.size (seen (fun i=>zs.getD i "") (fun _=>false) 0 items.size) c->(∀ b o,b < s.heap.objs.size->s.heap.get? b = some o->h'.get? b = some o)->Q (.ref s.heap.objs.size) { s with heap:=h',toks:=tk }) :
  wpAny (model P w) A (call (.type "set") [.ref l]) Q E s:=by
 obtain ⟨mc,mt,mro⟩:=PySem.F.called_set.mro
 have q1:=PySem.F.called_set.made; have q2:=PySem.F.called_set.sub; have q3:=PySem.F.called_set.notType; have q4:=PySem.F.called_set.canCreate; have q5:=PySem.F.typeCall_set_1 (.ref l)
 refine wpAny_call (codeAny_of_tree ?_); show wpAny _ _ (callAny (.type "set") _) _ _ _
 refine wpAny_pure ⟨Code.quiet_builtin _ (by decide +kernel),codeAny_builtin PySem.F.entry_type_call ?_⟩; rw [Around.under_plain (weight_type_call_type "set" [.ref l] []) rfl]
 repeat (any_goals first | assumption | wp_step)
 refine codeAny_mono (code_set_new_1 (.ref l) (E:=E) (Q₁:=fun obj s₁=>∃ led:Bool,obj = .ref s.heap.objs.size/\s₁ = { s with heap:=s.heap.push (setN led) }) fun led=>⟨led,rfl,rfl⟩) fun r s₁ hr=>?_
 rcases r with e | (_ | _ | _ | obj)
 ·exact hr
 ·exact hr.elim
 ·exact hr.elim
 ·exact hr.elim
 ·obtain ⟨led,rfl,rfl⟩:=hr
  have hS:(s.heap.push (setN led)).get? s.heap.objs.size = some (setN led):=Heap.get?_push_size _ rfl
  have hT:Shared.TypeIs { s with heap:=s.heap.push (setN led) } (.ref s.heap.objs.size) "set":=⟨_,hS,rfl⟩
  have q6:=PySem.F.called_set.init.lookup; have q7:=PySem.F.called_set.init.bind (.ref s.heap.objs.size)
  repeat (any_goals first | assumption | wp_step)
  refine codeAny_mono (codeAny_call_builtin (R:=wants (fun r s₂=>r = .none/\∃ h' tk c,s₂ = { s with heap:=h',toks:=tk }/\h'.SetOf (strKind P w) s.heap.objs.size (seen (fun i=>zs.getD i "") (fun _=>false) 0 items.size) c/\∀ b o,b < s.heap.objs.size->s.heap.get? b = some o->h'.get? b = some o) E) PySem.F.called_set.init.plain PySem.F.entry_set_init (check_set_init_1 hT ?_)) fun r₂ s₂ hr₂=>?_
  ·obtain ⟨ol,hol,hcl,nl,hdl⟩:=id hl
   obtain ⟨ocls,odict,odata,oslots⟩:=ol
   simp only at hcl hdl
   subst hcl hdl
   have hol':(s.heap.push (setN led)).get? l = _:=Heap.get?_push_of_some (setN led) hol
   have t1:=PySem.F.sub_list_set; have t2:=PySem.F.sub_list_frozenset
   have t3:(Value.type "list" == Value.type "dict") = false:=by decide
   have hl1:(s.heap.push (setN led)).IsList l items:=⟨_,hol',rfl,nl,rfl⟩
   have hlS:l < s.heap.objs.size:=Heap.lt_size hol
   unfold Builtin.«set.__init__» noKeywords Builtin.Frozenset.updateFrom
   generalize hq:pyIter = pit
   wp_walk
   subst hq
   refine wpAny_pyIter_list hl1 (wpAny_bind (wpAny_runValue ?_))
   have hz:(s.heap.push (setN led)).objs.size = s.heap.objs.size + 1:=Heap.size_push ..
   have n1:l ≠ (s.heap.push (setN led)).objs.size:=by rw [hz]; exact Nat.ne_of_lt (Nat.lt_succ_of_lt hlS)
   have n2:∀ b:Addr,b < s.heap.objs.size->b ∉ [s.heap.objs.size,(s.heap.push (setN led)).objs.size]:=fun b hb' z=>by
    rw [hz] at z
    rcases List.mem_cons.mp z with e | e
    ·exact Nat.ne_of_lt hb' e
    ·exact Nat.ne_of_lt (Nat.lt_succ_of_lt hb') (List.mem_singleton.mp e)
   have n3:s.heap.objs.size ∉ [(s.heap.push (setN led)).objs.size,l]:=fun z=>by
    rw [hz] at z
    rcases List.mem_cons.mp z with e | e
    ·exact Nat.ne_of_lt (Nat.lt_succ_self _) e
    ·exact Nat.ne_of_gt hlS (List.mem_singleton.mp e)
   refine texts_loop ((Walks.list (by simp [hh]) _ l n1 items).toS) s.heap.objs.size n3 (fun i=>zs.getD i "") hv hb items.size 0 _ (fun _=>false) 0 (by omega) (Nat.zero_le _) ⟨⟨_,Heap.get?_push_size _ rfl,rfl,rfl⟩,hl1.push _⟩ (Nat.le_refl _) ?_ ?_
   ·exact (PyProof.Rows.setObjOf_fresh (knd:=strKind P w) led).setOf (Heap.get?_push_of_some _ hS) (by unfold scanBound; omega)
   ·rintro ⟨h',g',d',tk',os'⟩ c' hm hc' hS'
    have e1:g' = s.gens:=hm.gens
    have e2:d' = s.drawn:=hm.drawn
    have e3:os' = s.os:=hm.os
    subst e1 e2 e3
    show wpAny _ _ _ _ _ _
    refine wpAny_pure ?_; show wpAny _ _ (ret Value.none) _ _ _
    refine wpAny_pure ⟨rfl,h',tk',c',rfl,hS',fun b o hb' e=>hm.heap b o (n2 b hb') (Heap.get?_push_of_some _ (Heap.get?_push_of_some _ e))⟩
  ·rcases r₂ with e | (_ | _ | _ | ob2)
   ·exact hr₂
   ·exact hr₂.elim
   ·exact hr₂.elim
   ·exact hr₂.elim
   ·obtain ⟨rfl,h',tk,c',rfl,hS',hk'⟩:=hr₂
    repeat (any_goals first | assumption | wp_step)
    exact h _ _ _ hS' hk'
theorem seen_any (val:Nat->Str) (z:Str):∀ (k i:Nat) (T:Str->Bool),seen val T i k z = true ↔ (T z = true\/∃ j,j < k/\z = val (i + j))
 | 0,i,T=>⟨fun h=>.inl h,fun h=>h.elim id fun ⟨j,hj,_⟩=>absurd hj (Nat.not_lt_zero _)⟩
 | k + 1,i,T=>by
  show seen val (fun y=>T y || decide (y = val i)) (i + 1) k z = true ↔ _
  rw [seen_any val z k (i + 1)]
  simp only [Bool.or_eq_true,decide_eq_true_eq]
  constructor
  ·rintro ((h | h) | ⟨j,hj,e⟩)
   ·exact .inl h
   ·exact .inr ⟨0,by omega,h⟩
   ·exact .inr ⟨j + 1,by omega,by rw [show i + (j + 1) = i + 1 + j by omega]; exact e⟩
  ·rintro (h | ⟨j,hj,e⟩)
   ·exact .inl (.inl h)
   ·cases j with
    | zero=>exact .inl (.inr e)
    | succ j=>exact .inr ⟨j,by omega,by rw [show i + 1 + j = i + (j + 1) by omega]; exact e⟩
theorem seen_mem (zs:List Str) (z:Str):seen (fun i=>zs.getD i "") (fun _=>false) 0 zs.length z = decide (z ∈ zs):=by
 rw [Bool.eq_iff_iff,seen_any,decide_eq_true_eq]
 constructor
 ·rintro (h | ⟨j,hj,e⟩)
  ·cases h
  ·rw [e,Nat.zero_add]
   show zs.getD j "" ∈ zs
   rw [List.getD_eq_getElem?_getD,List.getElem?_eq_getElem hj]
   exact List.getElem_mem hj
 ·intro h
  obtain ⟨j,hj,e⟩:=List.mem_iff_getElem.mp h
  refine .inr ⟨j,hj,?_⟩
  rw [Nat.zero_add]
  show z = zs.getD j ""
  rw [List.getD_eq_getElem?_getD,List.getElem?_eq_getElem hj]
  exact e.symm
theorem Vals.strs_at:∀ {zs:List Str} {us:List Value},Vals (zs.map V.str) us->∀ (i:Nat) (v:Value),us[i]? = some v->∃ t,v = .str (zs.getD i "") t
 | [],_,.nil,i,v,h=>by simp at h
 | z :: zs,_,.cons r t,0,v,h=>by
  obtain ⟨tk,e⟩:=r
  have:v = .str z tk:=by rw [<- e]; simpa using h.symm
  exact ⟨tk,this⟩
 | z :: zs,_,.cons r t,i + 1,v,h=>Vals.strs_at t i v (by simpa using h)
theorem call_setT {X:Cx} (hc:X.calm = true):CallR X (.type "set") (fun xs H Q=>∃ (p:Addr) (zs:List Str),xs = [.ref p]/\SqL X.K H p (zs.map V.str)/\zs.length<=900/\∀ (l:Addr) (n:Nat),H l = none->Q (.ref l) (upd H l (setO X.prog X.w l (fun z=>decide (z ∈ zs)) n))):=by
 intro pins s σ H xs us Q I r h
 obtain ⟨p,zs,rfl,hS,lz,q⟩:=h
 obtain ⟨u,rfl,ru⟩:=vals1 r
 cases ru
 obtain ⟨its,rv,hp,hz⟩:=I.list hS
 have hl:its.length = zs.length:=by rw [<- rv.length,List.length_map]
 have hb:its.toArray.size + 1 < scanBound:=by
  rw [List.size_toArray,hl]
  have : 1000 < scanBound:=by unfold scanBound; decide
  omega
 refine call_texts (I.ok.hd hc) hp.isList (fun i v e=>rv.strs_at i v (by simpa using e)) hb fun h' tk c hS' hk=>?_
 have hsz:its.toArray.size = zs.length:=by rw [List.size_toArray,hl]
 rw [hsz] at hS'
 have eS:seen (fun i=>zs.getD i "") (fun _=>false) 0 zs.length = fun z=>decide (z ∈ zs):=funext (seen_mem zs)
 rw [eS] at hS'
 refine ⟨.ref s.heap.objs.size,_,I.laid (t':=tk) (fun b ob e=>hk b ob (Heap.lt_size e) e) (Nat.le_refl _) (setO_ok hS'),rfl,q _ c (I.hok.fresh (Nat.le_refl _))⟩
section
variable {X:Cx}
end
end L2
namespace L2
open PySem PySem.W PySem.Builtin PySem.Builtin.ObjectAttr PySem.Spec PyProof.Rows
def xmIn (K:Frag) (C:Addr):Bool:=
 match K.lookup C with
 | some ⟨.type "type",_,.cls cd,sl⟩=>
  match cd.mro,sl.toList with
  | .ref C' :: bm,[_,_,_,_,some (.builtin n),_]=>C' == C && n == "ValueError.__new__" && !cd.hasDel && cd.hasDict && bm.contains (.type "ValueError") && bm.contains (.type "BaseException") && !bm.contains (.type "AttributeError") && !bm.contains (.type "NameError")
  | _,_=>false
 | _=>false
structure XObj (h:Heap) (C:Addr):Prop where
 ob:∃ nm q N bs bm sn sub ab col dd k0 k1 k2 k3 k5,h.get? C = some (excClassObj nm q C N bs bm true sn sub ab col dd k0 k1 k2 k3 k5 "ValueError.__new__")/\bm.contains (.type "ValueError") = true/\bm.contains (.type "BaseException") = true/\bm.contains (.type "AttributeError") = false/\bm.contains (.type "NameError") = false
theorem xobj_of {K:Frag} {h:Heap} {C:Addr} (X:K.In h) (q:xmIn K C = true):XObj h C:=by
 simp only [xmIn] at q
 split at q
 case h_2=>cases q
 rename_i dd cd sl ho
 obtain ⟨nm,bs,mro,ns,qn,hd,sn,sub,ab,col,del⟩:=cd
 obtain ⟨l⟩:=sl
 dsimp only at q
 split at q
 case h_2=>cases q
 rename_i C' m k0 k1 k2 k3 n k5
 simp only [Bool.and_eq_true,beq_iff_eq,Bool.not_eq_true'] at q
 obtain ⟨⟨⟨⟨⟨⟨⟨rfl,rfl⟩,rfl⟩,rfl⟩,h1⟩,h2⟩,h3⟩,h4⟩:=q
 exact ⟨_,_,_,_,_,_,_,_,_,_,_,_,_,_,_,X _ _ ho,h1,h2,h3,h4⟩
abbrev excNew (C t:Addr):Obj:={ cls:=.ref C,data:=.fields #[.ref t,.none,.none,.none,.bool false,.none] }
abbrev tupNew (us:List Value):Obj:={ cls:=.type "tuple",data:=.seq us.toArray }
section
variable {prog:Program} {w:World} {A:Around} {E:Value->Shared->Prop} {s:Shared} {K:Frag} {C f:Addr} {us:List Value}
theorem exc_new {R:Result->Shared->Prop} (m:XObj s.heap C) (hl:us.length<=sizeLine)
  (h:R (.ok (.ret (.ref (s.heap.objs.size + 1)))) { s with heap:=(s.heap.push (tupNew us)).push (excNew C s.heap.objs.size) }) :
  codeAny (model prog w) A (.call (.builtin "ValueError.__new__") ⟨.ref C :: us,[]⟩) R s:=by
 obtain ⟨hh,g,d,t,os⟩:=s
 obtain ⟨nm,q,N,bs,bm,sn,sub,ab,col,dd,k0,k1,k2,k3,k5,hC,b1,b2,b3,b4⟩:=m.ob
 have F:=PySem.F.excBase_ValueError
 refine codeAny_call_builtin_code (Code.quiet_builtin _ F.toExcCallFacts.quiet) ?_
 have k1':=F.newKind
 have k2':=F.newSplit
 have k3':=F.newRow
 simp only [checkBuiltinCall,k1',k2',k3']
 rw [if_pos (by decide +kernel)]
 refine wpAny_bind (ks_wpAny_isType_cls hC rfl ?_)
 rw [if_neg (by decide)]
 refine wpAny_bind (wpAny_isSubtype_exc hC ?_)
 rw [show (Value.ref C :: bm).contains (.type "ValueError") = true by rw [List.contains_cons,b1,Bool.or_true],if_neg (by decide)]
 refine wpAny_bind (wpAny_staticBase_exc hC (wpAny_bind (wpAny_madeBy_exc hC ?_)))
 dsimp only
 rw [if_neg (by decide +kernel)]
 rw [show Bind.checkArgs "ValueError.__new__" { machinery:=Manifest.Machinery.any,full:="ValueError",short:="ValueError",receiver:=Manifest.Receiver.cls,params:=[{ name:="args",kind:=Manifest.ParamKind.varPos,required:=false },{ name:="kwargs",kind:=Manifest.ParamKind.varKw,required:=false }] } { pos:=Value.ref C :: us } = pure () from rfl]
 refine wpAny_pure (PyProof.Rows.codeAny_builtin_at F.toExcCallFacts.toExcNewFacts.entry ?_)
 unfold Builtin.«BaseException.__new__»
 refine PyProof.Rows.wpAt_bind (PyProof.Rows.wpAt_owner rfl F.toExcCallFacts.toExcNewFacts.ends (PyProof.Rows.wpAt_of_any ?_))
 rw [F.toExcCallFacts.toExcNewFacts.owner]
 dsimp only
 refine wpAny_bind (ks_wpAny_isType_cls hC rfl ?_)
 rw [if_neg (by decide)]
 refine wpAny_bind (wpAny_isSubtype_exc hC ?_)
 rw [show (Value.ref C :: bm).contains (.type "ValueError") = true by rw [List.contains_cons,b1,Bool.or_true],if_neg (by decide)]
 refine wpAny_bind (wpAny_madeHere_exc F.canon hC ?_)
 have c3:(Value.ref C :: bm).contains (.type "AttributeError") = false:=by rw [List.contains_cons,b3]; rfl
 have c4:(Value.ref C :: bm).contains (.type "NameError") = false:=by rw [List.contains_cons,b4]; rfl
 refine wpAny_bind (?_:wpAny _ _ (do
   let x <- isSubtype (.ref C) (.type "AttributeError")
   if x = true then pure 2
   else do
    let y <- isSubtype (.ref C) (.type "NameError")
    if y = true then pure 1 else pure 0:Sem Nat) _ _ _)
 refine wpAny_bind (wpAny_isSubtype_exc hC ?_)
 rw [c3,if_neg Bool.false_ne_true]
 refine wpAny_bind (wpAny_isSubtype_exc hC ?_)
 rw [c4,if_neg Bool.false_ne_true]
 refine wpAny_pure (wpAny_bind (wpAny_newTuple ?_ hl))
 have hC2:=Heap.get?_push_of_some (tupNew us) hC
 unfold newObj
 dsimp only
 rw [if_neg (by show ¬ 6 > sizeLine + 2; decide)]
 unfold newObjAsIs
 refine wpAny_bind (wpAny_bind (wpAny_alloc ?_))
 dsimp only
 refine wpAny_bind ?_
 unfold classHasDel
 refine wpAny_bind (wpAny_load (Heap.get?_push_of_some _ hC2) ?_)
 dsimp only
 refine wpAny_pure ?_
 rw [if_neg Bool.false_ne_true]
 refine wpAny_pure (wpAny_pure ?_)
 have e1:(hh.push (tupNew us)).objs.size = hh.objs.size + 1:=Heap.size_push _ _
 show R (.ok (.ret (.ref (hh.push (tupNew us)).objs.size))) _
 rw [e1]
 exact h
structure XCall (K:Frag) (C f:Addr):Prop where
 ob:xmIn K C = true
 init:findIn K (.ref C) "__init__" = some (some (.ref f))
 fn:isFn K (.ref f) = true
 call:specialIn K (.ref C) "__call__" = some (some (.builtin "type.__call__"))
 typ:instIn K (.ref C) (.type "type") = some true
 kp:keepIn K (.ref C) = true
theorem exc_call {R:Result->Shared->Prop} (X:K.In s.heap) (m:XCall K C f) (hl:us.length<=sizeLine)
  (h:codeAny (model prog w) (A.under (.builtin "type.__call__" ⟨.ref C :: us,[]⟩)) (.call (.ref f) ⟨.ref (s.heap.objs.size + 1) :: us,[]⟩) (InitBack (s.heap.objs.size + 1) R)
   { s with heap:=(s.heap.push (tupNew us)).push (excNew C s.heap.objs.size) }):codeAny (model prog w) A (.call (.ref C) ⟨us,[]⟩) R s:=by
 have mo:=xobj_of X m.ob
 have LC:=looks_specialIn (M:=model prog w) X m.call
 have LT:=looks_instIn (M:=model prog w) X m.typ
 obtain ⟨hh,g,d,t,os⟩:=s
 obtain ⟨nm,q,N,bs,bm,sn,sub,ab,col,dd,k0,k1,k2,k3,k5,hC,b1,b2,b3,b4⟩:=mo.ob
 refine codeAny_of_own ?_
 show wpOwn _ _ _ (callAny (.ref C) ⟨us,[]⟩) _ _ _
 unfold callAny
 refine wpOwn_of_wpAny ?_
 dsimp only
 refine wpAny_bind (wpAny_load hC ?_)
 dsimp only
 unfold callAny.viaDunder
 refine wpAny_bind (LC.at ?_)
 dsimp only
 rw [show bindSpecial (.builtin "type.__call__") (.ref C) = pure (.builtin "type.__call__",[.ref C]) from by with_unfolding_all rfl]
 refine wpAny_bind (wpAny_pure ?_)
 dsimp only
 rw [show callAny.plainCallee (.builtin "type.__call__") = pure true from by with_unfolding_all rfl]
 refine wpAny_bind (wpAny_pure ?_)
 rw [if_pos rfl]
 refine wpAny_pure ⟨rfl,?_⟩
 refine codeAny_call_builtin_code (Code.quiet_builtin _ (by decide +kernel)) ?_
 have k1':builtinKind "type.__call__" = some .slot:=by decide +kernel
 have k2':splitId "type.__call__" = some ("type","__call__"):=by decide +kernel
 simp only [checkBuiltinCall,k1',k2',List.cons_append,List.nil_append]
 refine wpAny_bind (LT.at ?_)
 rw [if_neg (by decide)]
 have k3':Manifest.signature? "type.__call__" = some { machinery:=.hand,full:="wrapper __call__",short:="",receiver:=.self,params:=[] }:=by with_unfolding_all rfl
 rw [k3']
 dsimp only
 rw [show Bind.checkArgs "type.__call__" { machinery:=.hand,full:="wrapper __call__",short:="",receiver:=.self,params:=[] } { pos:=Value.ref C :: us } = pure () from rfl]
 refine wpAny_pure (codeAny_builtin (b:=Builtin.«type.__call__») rfl ?_)
 unfold Builtin.«type.__call__»
 dsimp only
 rw [if_neg (show ¬ (Value.ref C == Value.type "type") = true from fun z=>by cases z)]
 refine wpAny_bind (wpAny_mroOf_exc hC ?_)
 rw [if_neg (show ¬ (Value.ref C :: bm).isEmpty = true from Bool.false_ne_true)]
 refine wpAny_bind (wpAny_madeBy_exc hC ?_)
 dsimp only
 refine wpAny_bind (wpAny_pure (wpAny_bind (wpAny_holding (wpAny_call (exc_new mo hl ?_)))))
 dsimp only at h |-
 have kp:∀ b o,hh.get? b = some o->((hh.push (tupNew us)).push (excNew C hh.objs.size)).get? b = some o:=fun b o e=>Heap.get?_push_of_some _ (Heap.get?_push_of_some _ e)
 have X2:K.In ((hh.push (tupNew us)).push (excNew C hh.objs.size)):=X.keeps kp
 have eo:((hh.push (tupNew us)).push (excNew C hh.objs.size)).get? (hh.objs.size + 1) = some (excNew C hh.objs.size):=by
  have:=Heap.get?_push_size (hh.push (tupNew us)) (o:=excNew C hh.objs.size) rfl
  rwa [Heap.size_push] at this
 have LI:=looks_findIn (M:=model prog w) X2 m.init
 have LB:=bind_fn (M:=model prog w) X2 (.ref (hh.objs.size + 1)) (beq_iff_eq.mp m.fn)
 generalize (hh.push (tupNew us)).push (excNew C hh.objs.size) = h2 at h kp X2 eo LI LB |-
 unfold isInstance
 have LTy:Looks (model prog w) h2 (typeOf (.ref (hh.objs.size + 1))) (.ref C):=(Looks.ld eo).andThen .now
 refine wpAny_bind (wpAny_bind (LTy.at (wpAny_isSubtype_exc (kp _ _ hC) ?_)))
 rw [show (Value.ref C :: bm).contains (.ref C) = true by rw [List.contains_cons,beq_self_eq_true,Bool.true_or],if_neg (by decide)]
 refine wpAny_bind (wpAny_holding ?_)
 unfold callSpecial? specialOf
 refine wpAny_bind (wpAny_bind (LTy.at (LI.at ?_)))
 dsimp only
 refine wpAny_holding (wpAny_bind (LB.at ?_))
 dsimp only
 refine wpAny_bind (wpAny_call (codeAny_mono h fun r s' hq=>?_))
 cases r with
 | error e=>exact hq
 | ok fl=>
  cases fl with
  | ret u=>
   obtain ⟨rfl,hq⟩:=hq
   refine wpAny_pure ?_
   dsimp only
   rw [if_neg (by decide)]
   exact wpAny_pure hq
  | next=>exact False.elim hq
  | brk=>exact False.elim hq
  | cont=>exact False.elim hq
end
def veMro:List Value:=[.type "ValueError",.type "Exception",.type "BaseException",.type "object"]
def refsThen:List Value->Bool
 | .ref _ :: l=>refsThen l
 | l=>l == veMro
def xtIn (K:Frag) (C:Addr):Bool:=(clsIn K C).any fun cd=>cd.hasDict && refsThen cd.mro
section
variable {prog:Program} {w:World} {A:Around} {E:Value->Shared->Prop} {s:Shared} {K:Frag} {C x:Addr} {us:List Value}
theorem over_loop {M:Model} {Q:Option Unit × Unit->Shared->Prop} {self:Value}:∀ (l:List Value),refsThen l = true->(Q (some (),()) s)->
  wpAny M A (forIn l ((none,()):Option Unit × Unit) fun c __s=>
    match c with
    | Value.type n=>
     if (n == "_thread._local") = true then do
      rule "setattr.thread-local-passed-by"
      pure (ForInStep.yield (none,()))
     else
      if (n == "_pickle.Pickler" || n == "_pickle.Unpickler") = true then do
       rule "setattr.pickle-types-passed-by"
       pure (ForInStep.yield (none,()))
      else do
       let own <- classOwn c (Str.ofString "__setattr__")
       if own.isSome = true then
         have __do_jp:=fun (__r:Unit)=>pure (ForInStep.done (some (),()));
         if (!isObjects n (Str.ofString "__setattr__").toString) = true then do
          rule "setattr.built-in-override"
          let tn <- PySem.typeNameOf self
          let __r <-
           raiseErrorMade "TypeError"
             (toString "can't apply this " ++ toString (Str.ofString "__setattr__").toString ++ toString " to " ++
               toString tn ++
              toString " object")
          __do_jp __r
         else __do_jp ()
        else pure (ForInStep.yield (none,()))
    | x=>pure (ForInStep.yield (none,()))) Q E s:=by
 intro l
 have o1:classOwn (.type "ValueError") (Str.ofString "__setattr__") = pure none:=by with_unfolding_all rfl
 have o2:classOwn (.type "Exception") (Str.ofString "__setattr__") = pure none:=by with_unfolding_all rfl
 have o3:classOwn (.type "BaseException") (Str.ofString "__setattr__") = pure none:=by with_unfolding_all rfl
 have o4:=F.own_object_setattr
 induction l with
 | nil=>intro h; exact absurd h (by decide)
 | cons c l ih=>
  intro h q
  rw [List.forIn_cons]
  cases c with
  | ref a=>exact wpAny_bind (wpAny_pure (ih h q))
  | type n=>
   have e:Value.type n :: l = veMro:=by
    have:(Value.type n :: l == veMro) = true:=h
    exact eq_of_beq this
   unfold veMro at e
   injection e with e1 e2
   injection e1 with e1
   subst e1 e2
   have n1:∀ n:String,n ∈ ["ValueError","Exception","BaseException","object"]->(n == "_thread._local") = false/\(n == "_pickle.Pickler" || n == "_pickle.Unpickler") = false:=by decide +kernel
   simp only [List.forIn_cons,n1 "ValueError" (by decide),n1 "Exception" (by decide),n1 "BaseException" (by decide),n1 "object" (by decide),o1,o2,o3,o4,Bool.false_eq_true,if_false]
   refine wpAny_bind (wpAny_bind (wpAny_pure ?_))
   refine wpAny_pure ?_
   refine wpAny_bind (wpAny_bind (wpAny_pure ?_))
   refine wpAny_pure ?_
   refine wpAny_bind (wpAny_bind (wpAny_pure ?_))
   refine wpAny_pure ?_
   refine wpAny_bind (wpAny_bind (wpAny_pure ?_))
   rw [if_pos (show (some (Value.builtin "object.__setattr__")).isSome = true from rfl),if_neg (show ¬ (!isObjects "object" (Str.ofString "__setattr__").toString) = true by unfold isObjects; simp)]
   exact wpAny_pure (wpAny_pure q)
  | _=>exact absurd h (by simp [refsThen,veMro])
theorem wp_eq {α : Type} {M:Model} {A:Around} {t t':Sem α} {Q : α->Shared->Prop} {E:Value->Shared->Prop} {s:Shared} (e:t = t') (h:wpAny M A t' Q E s):wpAny M A t Q E s:=e ▸ h
structure XSet (K:Frag) (C:Addr):Prop where
 t:xtIn K C = true
 sa:findIn K (.ref C) "__setattr__" = some (some (.builtin "object.__setattr__"))
 ob:mroIn K C (.type "object") = some true
theorem XSet.cd (m:XSet K C):∃ cd,clsIn K C = some cd/\cd.hasDict = true/\refsThen cd.mro = true:=by
 have:=m.t
 unfold xtIn at this
 cases e:clsIn K C with
 | none=>rw [e] at this; cases this
 | some cd=>
  rw [e] at this
  have h2:(cd.hasDict && refsThen cd.mro) = true:=this
  exact ⟨cd,rfl,(Bool.and_eq_true _ _ ▸ h2).1,(Bool.and_eq_true _ _ ▸ h2).2⟩
theorem set_exc {oe:Obj} {vs:Array Value} {name:Str} {v:Value} {Q:Unit->Shared->Prop} (X:K.In s.heap) (m:XSet K C) (ha:findIn K (.ref C) name = some none) (he:s.heap.get? x = some oe) (hc:oe.cls = .ref C) (hd:oe.data = .fields vs) (hn:oe.dict = none)
  (h:∀ h':Heap,(∀ b o,b ≠ x->s.heap.get? b = some o->h'.get? b = some o)->h'.get? x = some { oe with dict:=some s.heap.objs.size }->h'.Ns1 s.heap.objs.size (fun y=>if y = name then some v else none)->Q () { s with heap:=h',toks:=s.toks + 2 }) :
  wpAny (model prog w) A (setAttr (.ref x) name v) Q E s:=by
 obtain ⟨cd,hcd,hdict,hmro⟩:=m.cd
 have IA:InstAt s.heap x oe C none:=⟨he,hc,by unfold notCls; rw [hd],by rw [hn]; trivial⟩
 refine set_plain X IA m.sa ?_
 have LO:=looks_mroIn (M:=model prog w) X m.ob
 have LF:=looks_findIn (M:=model prog w) X ha
 have LCd:=looks_clsIn (M:=model prog w) X hcd
 have LTy:Looks (model prog w) s.heap (typeOf (.ref x)) (.ref C):=hc ▸ (Looks.ld he).andThen .now
 obtain ⟨hh,g,d,t,os⟩:=s
 dsimp only at *
 refine codeAny_call_builtin F.slot_object_setattr.plain F.entry_object_setattr ?_
 have k1:=F.bk_object_setattr
 have k2:=F.sp_object_setattr
 simp only [checkBuiltinCall,k1,k2]
 refine wpAny_bind ?_
 unfold isInstance
 refine wpAny_bind (LTy.at ?_)
 refine LO.at ?_
 rw [if_neg (by decide)]
 have k3:=F.args_object_setattr_3 (.ref x) (.str name t) v
 refine wp_eq k3 (wpAny_pure ?_)
 unfold Builtin.«object.__setattr__»
 rw [if_neg (show ¬ (!(⟨[Value.ref x,Value.str name t,v],[]⟩:Args).kw.isEmpty) = true from Bool.false_ne_true)]
 dsimp only
 unfold refuseIfOverridden
 refine wpAny_bind (wpAny_bind (LTy.at (wpAny_bind ?_)))
 unfold mroOf
 refine wpAny_bind (LCd.at (wpAny_pure (wpAny_bind (over_loop _ hmro ?_))))
 dsimp only
 refine wpAny_pure (wpAny_bind ?_)
 unfold attrName
 refine wpAny_pure (wpAny_bind (LTy.at (wpAny_bind (LF.at (wpAny_bind ?_)))))
 unfold storeTaker?
 refine wpAny_pure ?_
 dsimp only
 unfold storeInOwnDict ownStreamTells
 refine wpAny_bind (wpAny_pure ?_)
 rw [if_neg (show ¬ (Value.ref C == Value.type "module") = true from fun z=>by cases z)]
 unfold ownDictForStores instanceDict
 refine wpAny_bind (wpAny_bind (wpAny_loadPart he ?_))
 rw [hc]
 dsimp only
 refine wpAny_bind (LCd.at ?_)
 rw [hdict,hn,hd]
 dsimp only
 rw [if_neg (by decide),if_neg (show ¬ (!true || !typeHasDict (Value.ref C)) = true from Bool.false_ne_true)]
 refine wpAny_bind (wpAny_alloc (wpAny_bind (wpAny_update (Heap.get?_push_of_some _ he) ?_)))
 unfold dictMade
 refine wpAny_pure ?_
 dsimp only
 unfold storeInDict newKeyGuard
 refine wpAny_bind (wpAny_pure (wpAny_bind ?_))
 have xlt:x ≠ hh.objs.size:=Nat.ne_of_lt (Heap.lt_size he)
 have u1:((hh.push { cls:=.type "dict",data:=.dict #[] }).update x fun o=>{ cls:=o.cls,dict:=some hh.objs.size,data:=o.data,slots:=o.slots }).get? hh.objs.size = some { cls:=.type "dict",data:=.dict #[] }:=by
  rw [Heap.get?_update_ne _ _ _ _ (Ne.symm xlt)]
  exact Heap.get?_push_size hh rfl
 have n1:((hh.push { cls:=.type "dict",data:=.dict #[] }).update x fun o=>{ cls:=o.cls,dict:=some hh.objs.size,data:=o.data,slots:=o.slots }).Ns1 hh.objs.size (fun _=>none):=Heap.Ns1.of_empty ⟨_,#[],_,u1,rfl,(fun e he=>absurd he (by simp)),fun _=>rfl⟩
 refine wpAny_nsSet1 n1 fun h' hn2 hs2=>?_
 have wi:PySem.Within (fun y=>if y = name then some v else none) [name]:=fun y hy=>by
  by_cases e:y = name
  ·rw [e]; exact List.mem_singleton.mpr rfl
  ·exact absurd (if_neg e) hy
 obtain ⟨oD,esD,epD,hoD,hdD,hcD⟩:=hn2.count wi
 refine wpAny_bind (wpAny_lookBehind hoD (by rw [hdD]; exact pastItsLine_dict (Nat.le_trans hcD (by show 1<=sizeLine + 1; decide))) ?_)
 refine wpAny_pure ?_
 have ux:((hh.push { cls:=.type "dict",data:=.dict #[] }).update x fun o=>{ cls:=o.cls,dict:=some hh.objs.size,data:=o.data,slots:=o.slots }).get? x = some { oe with dict:=some hh.objs.size }:=
  Heap.get?_update_self _ (Heap.get?_push_of_some _ he) (by unfold Obj.isFreed; rw [hd])
 refine h h' (fun b o hb e=>?_) ?_ hn2
 ·have hb2:b ≠ hh.objs.size:=Nat.ne_of_lt (Heap.lt_size e)
  rw [hs2.2 b hb2,Heap.get?_update_ne _ _ _ _ hb]
  exact Heap.get?_push_of_some _ e
 ·rw [hs2.2 x xlt]
  exact ux
end
end L2
namespace L2
open PySem PySem.W PySem.Builtin PySem.Builtin.ObjectAttr PySem.Builtin.Getset_descriptor PySem.Spec PyProof.Rows
section
variable {prog:Program} {w:World} {A:Around} {E:Value->Shared->Prop} {s:Shared} {K:Frag} {C D x dx:Addr} {us:List Value}
theorem get_exc {oe:Obj} {vs:Array Value} {name:Str} {v:Value} {mA:Str->Option Value} {b:Bool} {Q:Value->Shared->Prop} (c:ExcCls K D) (m:XSet K D) (X:K.In s.heap) (ha:findIn K (.ref D) name = some none) (he:s.heap.get? x = some oe) (hc:oe.cls = .ref D) (hd:oe.data = .fields vs) (hx:oe.dict = some dx)
  (hn:s.heap.Ns1 dx mA) (hv:mA name = some v) (hv':handedIn v = true) (h:Q v { s with toks:=s.toks + 1 }):wpAny (model prog w) A (getAttr (.ref x) name b) Q E s:=by
 obtain ⟨cd,hcd,hdict,hmro⟩:=m.cd
 obtain ⟨hh,g,dr,t,os⟩:=s
 have LT:Looks (model prog w) hh (typeOf (.ref x)) (.ref D):=hc ▸ (Looks.ld he).andThen .now
 have LG:=looks_findIn (M:=model prog w) X c.ga
 have LN:=looks_findIn (M:=model prog w) X c.no
 have LC:=looks_findIn (M:=model prog w) X ha
 have LB:=looks_mroIn (M:=model prog w) X c.be
 have LCd:=looks_clsIn (M:=model prog w) X hcd
 unfold getAttr
 refine wpAny_bind (wpAny_mkText ?_)
 unfold getAttrBy
 dsimp only
 refine wpAny_holding (wpAny_bind (LT.at (wpAny_bind (LG.at ?_))))
 have hne:(onTheHeap (Value.ref D) && Value.builtin "BaseException.__getattribute__" == Value.builtin "object.__getattribute__") = false:=by
  rw [show (Value.builtin "BaseException.__getattribute__" == Value.builtin "object.__getattribute__") = false from by decide +kernel,Bool.and_false]
 dsimp only
 rw [hne]
 rw [if_neg Bool.false_ne_true]
 unfold getAttrByItsOwn hookBefore
 rw [if_pos (show onTheHeap (Value.ref D) = true from rfl)]
 refine wpAny_bind (LN.at (wpAny_bind (wpAny_attempt (wpAny_holding ?_))))
 unfold callGetattribute boundAndCalled
 rw [if_neg (show ¬ (b && onTheHeap (Value.builtin "BaseException.__getattribute__")) = true from by rw [show onTheHeap (Value.builtin "BaseException.__getattribute__") = false from rfl,Bool.and_false]; exact Bool.false_ne_true)]
 have fb:=PySem.F.attrBase_ValueError.ga
 rw [fb.bind (.ref x)]
 refine wpAny_bind (wpAny_pure ?_)
 refine wpAny_call (codeAny_call_builtin fb.plain F.entry_bexc_ga ?_)
 have k1:builtinKind "BaseException.__getattribute__" = some .slot:=by decide +kernel
 have k2:splitId "BaseException.__getattribute__" = some ("BaseException","__getattribute__"):=by decide +kernel
 have k3:=F.args_bexc_ga (.ref x) (.str name t)
 simp only [checkBuiltinCall,k1,k2,List.cons_append,List.nil_append]
 refine wpAny_bind ?_
 unfold isInstance
 refine wpAny_bind (LT.at (LB.at ?_))
 rw [if_neg (by decide)]
 refine wp_eq k3 (wpAny_pure ?_)
 unfold Builtin.«object.__getattribute__»
 obtain ⟨od,hod,hlk⟩:=lookIn_ns hn
 have IA:InstAt hh x oe D (some od):=⟨he,hc,by unfold notCls; rw [hd],by rw [hx]; exact hod⟩
 have hD:hasDictIn K D = true:=by unfold hasDictIn; rw [hcd]; exact hdict
 have LFi:=looks_find (M:=model prog w) X IA (findObj_own hD ha rfl (by rw [hlk,hv]))
 rw [show slotArgs "__getattribute__" 1 { pos:=[Value.ref x,Value.str name t] } = pure (.ref x,[.str name t]) from rfl]
 refine wpAny_bind (wpAny_pure (wpAny_bind ?_))
 unfold attrName
 refine wpAny_pure (wpAny_bind (LT.at (wpAny_bind (LFi.at ?_))))
 refine wpAny_pure ?_
 show wpAny _ _ (handedOut v) _ _ _
 rw [handedOut_of hv']
 exact wpAny_pure h
end
end L2
namespace L2
open PySem PySem.Spec PyProof.Rows
abbrev excX (ea C:Addr) (od:Option Addr) (t:Addr):HO:=.ext fun h=>h.get? ea = some { cls:=.ref C,dict:=od,data:=.fields #[.ref t,.none,.none,.none,.bool false,.none] }
theorem excX_ok {P:Program} {w:World} {H:Hp} {h:Heap} {ea C t:Addr} {od:Option Addr} (e:h.get? ea = some { cls:=.ref C,dict:=od,data:=.fields #[.ref t,.none,.none,.none,.bool false,.none] }):ObjOk P w H h ea (excX ea C od t):=
 ⟨e,⟨_,e⟩,fun g1 g2 q k=>k _ q⟩
section
variable {X:Cx} {pins:List (Addr × Obj)} {σ : St} {H:Hp} {s:Shared} {x C t:Addr} {f:Str} {y:V} {u:Value} {A:Around} {E:Value->Shared->Prop}
theorem excX_at {od:Option Addr} (I:Inv X pins σ H s) (e:H x = some (excX x C od t)):s.heap.get? x = some { cls:=.ref C,dict:=od,data:=.fields #[.ref t,.none,.none,.none,.bool false,.none] }:=(I.hok x _ e).1
theorem setX_ok {Q:Unit->Shared->Prop} (I:Inv X pins σ H s) (e:H x = some (excX x C none t)) (m:XSet X.K C) (n:NoAttr X.K C f) (ry:RelV y u)
  (h:∀ dx s',H dx = none->Inv X pins σ (upd (upd H x (excX x C (some dx) t)) dx (.xd [(f,y)])) s'->Q () s'):wpAny (model X.prog X.w) A (setAttr (.ref x) f u) Q E s:=by
 have hx:=excX_at I e
 have hsz:H s.heap.objs.size = none:=I.hok.fresh (Nat.le_refl _)
 refine set_exc I.kIn m n hx rfl rfl rfl fun h' k e1 ns=>h s.heap.objs.size _ hsz ?_
 have I1:Inv X pins σ (upd H x (excX x C (some s.heap.objs.size) t)) { s with heap:=h',toks:=s.toks + 2 }:=
  I.write (by rw [e]; exact True.intro) (.inl rfl) k ⟨_,e1⟩ (excX_ok e1)
 have nx:s.heap.objs.size ≠ x:=Ne.symm (Nat.ne_of_lt (Heap.lt_size hx))
 refine I1.track (by rw [upd_ne nx]; exact hsz) ⟨_,ns,fun g=>?_⟩ (fun v e2 _ _=>?_) (fun z=>?_) (fun z c e2 z2=>?_) fun p hp z=>?_
 ·show RelO (List.lookup g [(f,y)]) (if g = f then some u else none)
  by_cases q:g = f
  ·subst q; rw [List.lookup_cons_self,if_pos rfl]; exact ry
  ·rw [List.lookup_cons,beq_eq_false_iff_ne.mpr q,if_neg q]; trivial
 ·exact absurd (Heap.lt_size e2) (Nat.not_lt.mpr I.sz)
 ·have:=I.lt
  rw [z] at this
  exact absurd this (Nat.lt_irrefl _)
 ·obtain ⟨v,oc,hoc,_⟩:=I.cell z c e2
  rw [z2] at hoc
  exact absurd (Heap.lt_size hoc) (Nat.lt_irrefl _)
 ·have:=(I.pin p hp).1
  rw [z] at this
  exact absurd (Heap.lt_size this) (Nat.lt_irrefl _)
end
def sFldX (K:Frag) (ta tv:TE) (f:Str):TS:=fun D σ H=>tv σ H fun y H1=>ta σ H1 fun x H2=>∃ (a C t:Addr),x = .ref a/\H2 a = some (excX a C none t)/\XSet K C/\NoAttr K C f/\∀ dx,H2 dx = none->D.nx σ (upd (upd H2 a (excX a C (some dx) t)) dx (.xd [(f,y)]))
section
variable {X:Cx} {o e value:Expr} {f:Str} {pos pos' tpos:Pos} {ta tv:TE}
theorem ps_fldX (ha:PE X o ta) (hv:PE X value tv) (hs:swapsWith value (some (.Attribute o f pos')) pos.line X.env = pure false):PS X (.Assign [.Attribute o f pos'] value pos) (sFldX X.K ta tv f):=by
 refine ⟨?_⟩
 intro pins s σ H D I h
 refine plainObj_wpAny_Assign_Attribute (thn (hv pins s σ H _ I h) fun u s1 ⟨y,H1,I1,ry,q⟩=>thn (ha pins s1 σ H1 _ I1 q) fun ov s2 ⟨x,H2,I2,rx,a,C,t,ex,ea,c,n,q2⟩=>?_) hs
 subst ex
 obtain rfl:ov = Value.ref a:=rx
 exact setX_ok I2 ea c n ry fun dx s3 hdx I3=>⟨σ,_,I3,q2 dx hdx⟩
end
def tMakeX (C:Addr) (sp:Sp) (E:XK) (t:TA):TE:=fun σ H Q=>t σ H fun vs H1=>vs.length<=sizeLine/\∀ x tu,H1 x = none->H1 tu = none->tu ≠ x->sp (.ref x :: vs) (upd H1 x (excX x C none tu)) (fun v H2=>v = .non/\Q (.ref x) H2) E
section
variable {X:Cx} {CX:CXT} {k:Nat} {f C:Addr} {fd:FuncData} {ps:List Str} {sp:Sp} {E:XK} {x:Str} {p pos:Pos} {e:Expr} {es:List Expr} {t:TA}
theorem Inv.madeX {pins:List (Addr × Obj)} {σ : St} {H:Hp} {s:Shared} {us:List Value} (I:Inv X pins σ H s):Inv X pins σ (upd H (s.heap.objs.size + 1) (excX (s.heap.objs.size + 1) C none s.heap.objs.size)) { s with heap:=(s.heap.push (tupNew us)).push (excNew C s.heap.objs.size) }:=by
 refine I.laid (fun b u e=>Heap.get?_push_of_some _ (Heap.get?_push_of_some _ e)) (Nat.le_succ _) (excX_ok ?_)
 have:=Heap.get?_push_size (s.heap.push (tupNew us)) (o:=excNew C s.heap.objs.size) rfl
 rwa [Heap.size_push] at this
theorem run_makeX {pins:List (Addr × Obj)} {σ : St} {H:Hp} {s:Shared} {Q:VK} {us:List Value} {vs:List V} (M:XCall X.K C f) (F:FnOk X.prog X.w X.K X.mg X.base CX k f fd ps sp) (hr:Room (k + 1) X.A) (hb:Binds X.K fd ps [])
  (hx:Passes CX X E) (I:Inv X pins σ H s) (r:Vals vs us) (hl:vs.length<=sizeLine)
  (h:∀ x tu,H x = none->H tu = none->tu ≠ x->sp (.ref x :: vs) (upd H x (excX x C none tu)) (fun v H2=>v = .non/\Q (.ref x) H2) E) :
  wpAny (model X.prog X.w) X.A (call (.ref C) us) (EP X pins σ Q) X.xe s:=by
 have hq:=h (s.heap.objs.size + 1) s.heap.objs.size (I.hok.fresh (Nat.le_succ _)) (I.hok.fresh (Nat.le_refl _)) (Nat.ne_of_lt (Nat.lt_succ_self _))
 have I2:=Inv.madeX (C:=C) (us:=us) I
 have r2:Vals (V.ref (s.heap.objs.size + 1) :: vs) (Value.ref (s.heap.objs.size + 1) :: us):=.cons rfl r
 have hl2:(Value.ref (s.heap.objs.size + 1) :: us ++ []).length = ps.length:=by
  have e:=r2.length
  rw [F.len _ _ _ _ hq] at e
  rw [List.append_nil]
  exact e.symm
 have hb2:=hb _ (Value.ref (s.heap.objs.size + 1) :: us) I2.kIn hl2
 rw [List.append_nil] at hb2
 refine wpAny_call (exc_call I.kIn M (by rw [<- r.length]; exact hl) (codeAny_mono (F.run _ X.stack _ _ ⟨Value.ref (s.heap.objs.size + 1) :: us,[]⟩ (Value.ref (s.heap.objs.size + 1) :: us) _ _ E (hr.make C us [])
  (I2.env0.make C us []) hb2 r2 hq) fun r s' hq'=>?_))
 cases r with
 | error e=>exact hx pins σ _ _ e s' I2 hq'
 | ok fl=>
  cases fl with
  | ret u=>
   obtain ⟨v,H',I3,rv,ev,q3⟩:=I2.after hq'
   subst ev
   exact ⟨rv,⟨V.ref (s.heap.objs.size + 1),H',I3,rfl,q3⟩⟩
  | next=>exact False.elim hq'
  | brk=>exact False.elim hq'
  | cont=>exact False.elim hq'
theorem pe_makeX (M:XCall X.K C f) (F:FnOk X.prog X.w X.K X.mg X.base CX k f fd ps sp) (hr:Room (k + 1) X.A) (hg:Gl X x) (hm:X.mg x = some (.ref C)) (hb:Binds X.K fd ps []) (hx:Passes CX X E)
  (ha:PA X (e :: es) t) (hdb:(x == ("__debug__" : Str)) = false:=by decide) (he:starEach (e :: es) X.env = (false,eval e X.env) :: starEach es X.env:=by rfl) (hpl:(backTo pos (starEach es X.env)).any (·.1) = false:=by rfl) :
  PE X (.Call (.Name x p) (e :: es) [] pos) (tMakeX C sp E t):=by
 refine ⟨?_⟩
 intro pins s σ H Q I h
 refine wpAny_Call_Name_kw (ld_glob I hg hm ?_ hdb)
 refine callWith_K (h₀:=X.base) I.ok.mod.kin M.kp (thn (ha pos pins s σ H _ I h) fun us s1 ⟨vs,H1,I1,r,hl,q⟩=>⟨I1.kIn,?_⟩) he hpl
 exact run_makeX M F hr hb hx I1 r hl q
end
def drop (H:Hp) (a:Addr):Hp:=fun b=>if b = a then none else H b
theorem drop_same {H:Hp} {a:Addr}:drop H a a = none:=by unfold drop; rw [if_pos rfl]
theorem drop_ne {H:Hp} {a b:Addr} (h:b ≠ a):drop H a b = H b:=by unfold drop; rw [if_neg h]
theorem drop_some {H:Hp} {a b:Addr} {u:HO} (h:drop H a b = some u):b ≠ a/\H b = some u:=by
 unfold drop at h
 split at h
 ·cases h
 ·exact ⟨‹_›,h⟩
theorem HOk.drop {P:Program} {w:World} {H:Hp} {h:Heap} {a:Addr} {φ : Heap->Prop} (x:HOk P w H h) (ha:H a = some (.ext φ)):HOk P w (drop H a) h:=fun b u e=>by
 obtain ⟨hb,e⟩:=drop_some e
 exact (x b u e).stay (fun _ _ _ q=>q) (fun c q=>by rw [drop_ne (fun z=>by rw [z,ha] at q; cases q)]; exact q) fun c xs q=>by rw [drop_ne (fun z=>by rw [z,ha] at q; cases q)]; exact q
section
variable {X:Cx} {pins:List (Addr × Obj)} {σ : St} {H:Hp} {s:Shared} {ea C t:Addr} {od:Option Addr} {M:Model} {E:Value->Shared->Prop}
end
section
variable {X:Cx} {E:XK} {pos:Pos} {e:Expr} {te:TE}
end
section
variable {P:Program} {w:World} {K:Frag} {mg:Str->Option Value} {base:Heap} {N:List Str} {qual:Str} {scope:Scope} {f:Addr} {cd:Value} {A:Around} {outer:List Env} {s:Shared} {H:Hp} {E E':XK}
end
section
variable {X:Cx} {x:Str} {C:Addr} {B Bn newId nid initId inN:String} {bm bmN:List Value} {np pos:Pos} {e:Expr} {es:List Expr} {t:TA}
end
section
variable {X:Cx} {pins:List (Addr × Obj)} {σ : St} {H:Hp} {s:Shared} {M:Model} {A:Around} {E:Value->Shared->Prop} {i:Nat} {n:Str} {pos:Pos}
end
section
variable {X:Cx} {pins:List (Addr × Obj)} {σ : St} {H:Hp} {s:Shared} {ea:Addr}
variable {st b₀:Stmt} {suite:List Stmt} {c n:Str} {np hpos pos:Pos} {C:Addr} {i:Nat} {tb:XK->TS} {ts:TS} {ok:Value->Prop}
end
section
variable {X:Cx} {pins:List (Addr × Obj)} {σ : St} {e:Expr} {es:List Expr} {t:TA} {E:XK} {x:Str} {p pos:Pos} {k:Nat} {f C:Addr} {fd:FuncData} {ps:List Str} {sp:Sp} {dvs:List V} {ds:List Value}
end
abbrev excF (C:Addr) (od:Option Addr) (t:Addr) (tb:Value):Obj:={ cls:=.ref C,dict:=od,data:=.fields #[.ref t,tb,.none,.none,.bool false,.none] }
def TrS (h base:Heap) (e C:Addr) (od:Option Addr) (t:Addr):Prop:=∃ (tb:Addr) (oT:Obj) (ts:Array Value),h.get? e = some (excF C od t (.ref tb))/\base.get? tb = none/\tb ≠ e/\h.get? tb = some oT/\oT.data = .fields ts/\ts[3]? = some .none
section
variable {M:Model} {A:Around} {E:Value->Shared->Prop} {s:Shared} {base:Heap} {env:Env} {outer:List Env} {L e C t:Addr} {od:Option Addr} {tb0 head:Value} {hn:Bool} {Q:Unit->Shared->Prop}
theorem entryS (fr:A.frames = some (env :: outer)) (fl:s.heap.FunFrames base (env :: outer)) (hfl:env.frame = some L) (he:s.heap.get? e = some (excF C od t tb0)) (hst:base.StaysIn s.heap) (hb:base.get? e = none)
  (q:∀ h':Heap,base.StaysIn h'->h'.FunFrames base (env :: outer)->TrS h' base e C od t->s.heap.UpToSlots h'->Q () { s with heap:=h' }) :
  wpAny M A (do
   let a <- frameOf env
   let pl <- entryPlaceOf L hn
   let b <- EntryCells.newEntry head a Value.none (rawInt L) Value.none pl
   setField (Value.ref e) 1 b) (fun _ s'=>wpAny M A (setFlight (Value.ref e) none) Q E s') E s:=by
 refine wpAny_bind (wpAny_frameOf_fun fr fl hfl fun h1 so=>?_)
 obtain ⟨sz,oth,sl⟩:=so
 refine wpAny_bind (wpAny_entryPlaceOf fun pl hpl=>?_)
 unfold EntryCells.newEntry newFields
 have eS:e ∉ List.filterMap (fun x:Env=>x.frame) (env :: outer):=fun z=>by
  obtain ⟨_,o,ho,hd⟩:=fl.mem z
  rw [he] at ho
  cases ho
  exact hd _ rfl
 have e1:h1.get? e = some (excF C od t tb0):=(oth e eS).trans he
 have lp:(if pl.isEmpty = true then List.replicate 6 Value.none else pl).length = 6:=by
  rcases hpl with rfl | ⟨a,b,c,d,c9,b10,_,rfl⟩ <;> rfl
 have sz11:([head,Value.ref L,Value.none,rawInt L,Value.none] ++ if pl.isEmpty = true then List.replicate 6 Value.none else pl).length = 11:=by
  rw [List.length_append,lp]
  rfl
 have hL:A.frames = some (env :: outer):=fr
 generalize hcells:([head,Value.ref L,Value.none,rawInt L,Value.none] ++ if pl.isEmpty = true then List.replicate 6 Value.none else pl) = cells at sz11 |-
 have c3:cells[3]? = some (rawInt L):=by rw [<- hcells]; rfl
 refine wpAny_bind (wpAny_newObj_type ?_ (by show sizeOk (Data.fields cells.toArray); unfold sizeOk; simp only [List.size_toArray,sz11]; decide))
 dsimp only
 have hlt:e < h1.objs.size:=Heap.lt_size e1
 have ne:h1.objs.size ≠ e:=Nat.ne_of_gt hlt
 refine wpAny_setField (Heap.get?_push_of_some _ e1) rfl (by show 1 < 6; decide) ?_
 have x2:((h1.push { cls:=.type "traceback",data:=.fields cells.toArray }).update e (Obj.mapFields fun x=>x.setIfInBounds 1 (.ref h1.objs.size))).get? e = some (excF C od t (.ref h1.objs.size)):=
  Heap.get?_update_self _ (Heap.get?_push_of_some _ e1) rfl
 have x3:((h1.push { cls:=.type "traceback",data:=.fields cells.toArray }).update e (Obj.mapFields fun x=>x.setIfInBounds 1 (.ref h1.objs.size))).get? h1.objs.size = some { cls:=.type "traceback",data:=.fields cells.toArray }:=by
  rw [Heap.get?_update_ne _ _ _ _ ne]
  exact Heap.get?_push_size h1 rfl
 have x4:∀ b o,b ≠ e->h1.get? b = some o->((h1.push { cls:=.type "traceback",data:=.fields cells.toArray }).update e (Obj.mapFields fun x=>x.setIfInBounds 1 (.ref h1.objs.size))).get? b = some o:=fun b o hbe hbo=>by
  rw [Heap.get?_update_ne _ _ _ _ hbe]
  exact Heap.get?_push_of_some _ hbo
 generalize (h1.push { cls:=.type "traceback",data:=.fields cells.toArray }).update e (Obj.mapFields fun x=>x.setIfInBounds 1 (.ref h1.objs.size)) = h2 at x2 x3 x4 |-
 unfold setFlight
 refine wpAny_bind (wpAny_field (x:=.ref h1.objs.size) x2 rfl rfl ?_)
 rw [if_pos (show (Value.ref h1.objs.size != Value.none) = true from rfl)]
 refine wpAny_setField x3 rfl (by rw [List.size_toArray,sz11]; decide) ?_
 show Q () { s with heap:=h2.update h1.objs.size (Obj.mapFields fun x=>x.setIfInBounds 3 Value.none) }
 have y1:∀ b,b ≠ h1.objs.size->(h2.update h1.objs.size (Obj.mapFields fun x=>x.setIfInBounds 3 Value.none)).get? b = h2.get? b:=fun b hb'=>Heap.get?_update_ne _ _ _ _ hb'
 have y2:(h2.update h1.objs.size (Obj.mapFields fun x=>x.setIfInBounds 3 Value.none)).get? h1.objs.size = some { cls:=.type "traceback",data:=.fields (cells.toArray.setIfInBounds 3 .none) }:=Heap.get?_update_self _ x3 rfl
 have kp:∀ b o,s.heap.get? b = some o->(∀ vs,o.data ≠ .fields vs)->∃ sl,(h2.update h1.objs.size (Obj.mapFields fun x=>x.setIfInBounds 3 Value.none)).get? b = some { o with slots:=sl }:=fun b o hbo hd=>by
  obtain ⟨sl',hs'⟩:=sl b o hbo
  have n1:b ≠ h1.objs.size:=Nat.ne_of_lt (Heap.lt_size hs')
  have n2:b ≠ e:=fun z=>by rw [z,he] at hbo; cases hbo; exact hd _ rfl
  exact ⟨sl',by rw [y1 b n1]; exact x4 b _ n2 hs'⟩
 refine q _ (fun b o hbo=>?_) (fl.of_keeps fun b o hbo hd=>?_) ?_ kp
 ·have n0:b ∉ List.filterMap (fun x:Env=>x.frame) (env :: outer):=fun z=>by
   rw [(fl.mem z).1] at hbo; cases hbo
  have hs':=(oth b n0).trans (hst b o hbo)
  have n1:b ≠ h1.objs.size:=Nat.ne_of_lt (Heap.lt_size hs')
  have n2:b ≠ e:=fun z=>by rw [z,hb] at hbo; cases hbo
  rw [y1 b n1]
  exact x4 b o n2 hs'
 ·obtain ⟨sl',hs'⟩:=kp b o hbo hd
  exact ⟨_,hs',rfl⟩
 ·refine ⟨h1.objs.size,_,_,(by rw [y1 e (Ne.symm ne)]; exact x2),?_,ne,y2,rfl,?_⟩
  ·cases z:base.get? h1.objs.size with
   | none=>rfl
   | some o=>
    have:=Heap.lt_size (hst _ o z)
    rw [<- sz] at this
    exact absurd this (Nat.lt_irrefl _)
  ·rw [Array.getElem?_setIfInBounds_self_of_lt (by rw [List.size_toArray,sz11]; decide)]
theorem noteS (fr:A.frames = some (env :: outer)) (fl:s.heap.FunFrames base (env :: outer)) (hfl:env.frame = some L) (hst:base.StaysIn s.heap) (hb:base.get? e = none)
  (he:s.heap.get? e = some (excF C od t .none)\/TrS s.heap base e C od t)
  (q:∀ h':Heap,base.StaysIn h'->h'.FunFrames base (env :: outer)->TrS h' base e C od t->s.heap.UpToSlots h'->Q () { s with heap:=h' }) :
  wpAny M A (noteFrame (.ref e) env) (fun _ s'=>wpAny M A (setFlight (.ref e) none) Q E s') E s:=by
 unfold noteFrame
 rw [hfl]
 dsimp only
 rcases he with he | ⟨tb,oT,ts,h1,h2,h3,h4,h5,h6⟩
 ·refine wpAny_bind (wpAny_field (x:=Value.none) he rfl rfl ?_)
  rw [if_neg (show ¬ (Value.none != Value.none) = true by decide)]
  exact entryS fr fl hfl he hst hb q
 ·refine wpAny_bind (wpAny_field (x:=.ref tb) h1 rfl rfl ?_)
  rw [if_pos (show (Value.ref tb != Value.none) = true from rfl)]
  refine wpAny_bind (wpAny_field (x:=Value.none) h4 h5 h6 ?_)
  rw [if_neg (show ¬ (Value.none == rawInt (L:Nat)) = true from fun z=>by cases z)]
  have l3 : 3 < ts.size:=by
   have:=(Array.getElem?_eq_some_iff.mp h6).1
   exact this
  refine wpAny_bind (wpAny_setField h4 h5 l3 ?_)
  have z1:∀ b,b ≠ tb->(s.heap.update tb (Obj.mapFields fun x=>x.setIfInBounds 3 Value.none)).get? b = s.heap.get? b:=fun b hb'=>Heap.get?_update_ne _ _ _ _ hb'
  have up:s.heap.UpToSlots (s.heap.update tb (Obj.mapFields fun x=>x.setIfInBounds 3 Value.none)):=fun b o hbo hd=>by
   have n:b ≠ tb:=fun z=>by rw [z,h4] at hbo; cases hbo; exact hd _ h5
   exact ⟨o.slots,by rw [z1 b n]; exact hbo⟩
  refine entryS (s:={ s with heap:=s.heap.update tb (Obj.mapFields fun x=>x.setIfInBounds 3 Value.none) }) fr (fl.of_keeps fun b o hbo hd=>?_) hfl (tb0:=.ref tb) (by rw [z1 e (Ne.symm h3)]; exact h1) (fun b o hbo=>?_) hb fun h' a1 a2 a3 a4=>q h' a1 a2 a3 (up.trans a4)
  ·obtain ⟨sl,hs⟩:=up b o hbo hd
   exact ⟨_,hs,rfl⟩
  ·have n:b ≠ tb:=fun z=>by rw [z,h2] at hbo; cases hbo
   show (s.heap.update tb (Obj.mapFields fun x=>x.setIfInBounds 3 Value.none)).get? b = some o
   rw [z1 b n]
   exact hst b o hbo
end
def FlS (B:Heap) (l:List Env) (e C:Addr) (od:Option Addr) (t:Addr) (h:Heap):Prop:=B.StaysIn h/\B.get? e = none/\h.FunFrames B l/\TrS h B e C od t
structure FlyS (P:Program) (w:World) (outer:List Env) (H:Hp) (s:Shared) (C:Addr) (od:Option Addr) (t:Addr) (H':Hp) (ea:Addr) (s':Shared):Prop where
 os:s'.os = s.os
 bare:AllBare s'.gens
 un:Un (frs outer) [] H H' s.heap s'.heap
 hok:HOk P w H' s'.heap
 nt:H' ea = none
 fly:∃ B,FlS B outer ea C od t s'.heap/\(∀ b u,H' b = some u->∃ o,B.get? b = some o)/\(∀ b o,s.heap.get? b = some o->H b = none->b ∉ frs outer->B.get? b = some o)/\
  ∀ b o,s.heap.get? b = some o->b ∉ frs outer->∃ o',B.get? b = some o'
abbrev CXs (P:Program) (w:World):CXT:=fun outer H s E e s'=>∃ ea C od t H',e = .ref ea/\FlyS P w outer H s C od t H' ea s'/\E (.ref C) od H'
section
variable {X:Cx} {pins:List (Addr × Obj)} {σ : St} {H H':Hp} {s s':Shared} {ea C t:Addr} {od:Option Addr} {M:Model} {E:Value->Shared->Prop}
theorem fly_madeS (I:Inv X pins σ H s) (hstk:X.stack = X.env :: X.outer) (hfl:X.env.frame = some X.env.locals) (hex:X.ex = []) (hx:H ea = some (excX ea C od t)) (hnew:X.H₀ ea = none) :
  wpAny M X.A (leaving X.env (.ref ea)) (fun _ s''=>FlyS X.prog X.w X.outer X.H₀ X.s₀ C od t (drop H ea) ea s'') E s:=by
 have fr:=frs_stack hstk hfl
 have he:=excX_at I hx
 have fl:s.heap.FunFrames (hideAll s.heap (ea :: frs X.stack)) (X.env :: X.outer):=by
  have:=I.stack
  rw [hstk] at this
  refine PySem.W.funFrames_hide this fun env he b hb=>?_
  rw [hstk]
  exact List.mem_cons_of_mem _ (List.mem_filterMap.mpr ⟨env,he,hb⟩)
 have fr0:=I.ok.frames
 rw [hstk] at fr0
 have neL:∀ b o,X.s₀.heap.get? b = some o->b ≠ X.env.locals:=fun b o e=>Nat.ne_of_lt (Nat.lt_of_lt_of_le (Heap.lt_size e) I.ok.above)
 have noEx:∀ b:Addr,b ∉ X.ex:=fun b=>by rw [hex]; simp
 have inB:∀ b o,s.heap.get? b = some o->b ≠ ea->b ∉ frs X.stack->(hideAll s.heap (ea :: frs X.stack)).get? b = some o:=fun b o e n1 n=>hideAll_get _ e (fun z=>(List.mem_cons.mp z).elim n1 n)
 have trB:∀ b u,H b = some u->b ∉ frs X.stack:=fun b u e n=>by rw [I.stkFree b n] at e; cases e
 have eaS:∀ u,X.s₀.heap.get? ea = some u->False:=fun u e=>by
  have:=I.base.free ea u e hnew (noEx ea)
  rw [hx] at this; cases this
 unfold leaving
 refine wpAny_bind (noteS fr0 fl hfl (fun b o q=>of_hideAll _ q) (hideAll_none _ List.mem_cons_self) (.inl he) fun h2 x1 x2 x3 x4=>?_)
 have stay:∀ b o,s.heap.get? b = some o->b ≠ ea->b ∉ frs X.stack->h2.get? b = some o:=fun b o e n1 n=>x1 b o (inB b o e n1 n)
 have x2':h2.FunFrames (hideAll s.heap (ea :: frs X.stack)) X.outer:=by
  unfold Heap.FunFrames at x2
  exact x2.2.2
 have nEa:∀ b o,X.s₀.heap.get? b = some o->b ≠ ea:=fun b o e z=>by subst z; exact eaS o e
 refine ⟨I.os,I.bare,⟨fun b o e n hb _=>?_,fun b o e n hb _=>?_,fun b o e n _=>?_,fun b o e _=>?_,fun b xs e=>?_,fun b u v e=>?_,fun b ps e=>?_⟩,?_,drop_same,?_⟩
 ·refine stay b o (I.base.keep b o e n hb (noEx b)) (nEa b o e) ?_
  rw [fr]
  exact fun z=>(List.mem_cons.mp z).elim (neL b o e) hb
 ·obtain ⟨sl,e1⟩:=I.base.slot b o e n hb (noEx b)
  obtain ⟨_,o',ho',hd⟩:=I.funs.mem hb
  rw [e1] at ho'
  cases ho'
  obtain ⟨sl2,e2⟩:=x4 b _ e1 hd
  exact ⟨sl2,e2⟩
 ·rw [drop_ne (nEa b o e)]
  exact I.base.free b o e n (noEx b)
 ·obtain ⟨o1,e1⟩:=I.base.there b o e (noEx b)
  by_cases hb:b ∈ frs X.stack
  ·obtain ⟨_,o',ho',hd⟩:=I.stack.mem hb
   obtain ⟨sl2,e2⟩:=x4 b o' ho' hd
   exact ⟨_,e2⟩
  ·exact ⟨o1,stay b o1 e1 (nEa b o e) hb⟩
 ·have e1:=I.base.tups b xs e
  rw [drop_ne (fun z=>by rw [z,hx] at e1; cases e1)]; exact e1
 ·have e1:=I.base.frzs b u v e
  rw [drop_ne (fun z=>by rw [z,hx] at e1; cases e1)]; exact e1
 ·obtain ⟨more,e1⟩:=I.base.tbls b ps e
  exact ⟨more,by rw [drop_ne (fun z=>by rw [z,hx] at e1; cases e1)]; exact e1⟩
 ·exact (I.hok.drop hx).sameAt fun b u o e q=>stay b o q (drop_some e).1 (trB b u (drop_some e).2)
 ·refine ⟨_,⟨x1,hideAll_none _ List.mem_cons_self,x2',x3⟩,fun b u e=>?_,fun b o e n hb=>?_,fun b o e hb=>?_⟩
  ·obtain ⟨n1,e⟩:=drop_some e
   obtain ⟨o,q⟩:=I.hok.rec e
   exact ⟨o,inB b o q n1 (trB b u e)⟩
  ·refine inB b o (I.base.keep b o e n hb (noEx b)) (nEa b o e) ?_
   rw [fr]
   exact fun z=>(List.mem_cons.mp z).elim (neL b o e) hb
  ·obtain ⟨o1,e1⟩:=I.base.there b o e (noEx b)
   refine ⟨o1,inB b o1 e1 (nEa b o e) ?_⟩
   rw [fr]
   exact fun z=>(List.mem_cons.mp z).elim (neL b o e) hb
theorem fly_onS (I:Inv X pins σ H s) (hstk:X.stack = X.env :: X.outer) (hfl:X.env.frame = some X.env.locals) (hex:X.ex = []) (F:FlyS X.prog X.w X.stack H s C od t H' ea s') :
  wpAny M X.A (leaving X.env (.ref ea)) (fun _ s''=>FlyS X.prog X.w X.outer X.H₀ X.s₀ C od t H' ea s'') E s':=by
 have fr:=frs_stack hstk hfl
 have fr0:=I.ok.frames
 rw [hstk] at fr0
 obtain ⟨B,fl,tr,old,olds⟩:=F.fly
 have neL:∀ b o,X.s₀.heap.get? b = some o->b ≠ X.env.locals:=fun b o e=>Nat.ne_of_lt (Nat.lt_of_lt_of_le (Heap.lt_size e) I.ok.above)
 have noEx:∀ b:Addr,b ∉ X.ex:=fun b=>by rw [hex]; simp
 have nst:∀ b o,X.s₀.heap.get? b = some o->b ∉ frs X.outer->b ∉ frs X.stack:=fun b o e hb=>by
  rw [fr]
  exact fun z=>(List.mem_cons.mp z).elim (neL b o e) hb
 have fl':=fl
 rw [hstk] at fl'
 unfold leaving
 refine wpAny_bind (noteS fr0 fl'.2.2.1 hfl fl'.1 fl'.2.1 (.inr fl'.2.2.2) fun h2 y1 y2 y3 x2=>?_)
 have x1:FlS B X.outer ea C od t h2:=⟨y1,fl'.2.1,(by unfold Heap.FunFrames at y2; exact y2.2.2),y3⟩
 have oldB:∀ b o,X.s₀.heap.get? b = some o->X.H₀ b = none->b ∉ frs X.outer->B.get? b = some o:=fun b o e n hb=>
  old b o (I.base.keep b o e n hb (noEx b)) (I.base.free b o e n (noEx b)) (nst b o e hb)
 refine ⟨F.os.trans I.os,F.bare,⟨fun b o e n hb _=>x1.1 b o (oldB b o e n hb),fun b o e n hb _=>?_,fun b o e n _=>?_,fun b o e _=>?_,fun b xs e=>F.un.tups b xs (I.base.tups b xs e),fun b o u e=>F.un.frzs b o u (I.base.frzs b o u e),fun b ps e=>?_⟩,F.hok.sameAt fun b u o e q=>?_,F.nt,⟨B,x1,tr,oldB,fun b o e hb=>?_⟩⟩
 ·obtain ⟨sl,e1⟩:=I.base.slot b o e n hb (noEx b)
  obtain ⟨sl1,e2⟩:=F.un.any e1 (I.base.free b o e n (noEx b)) (by simp)
  have hd:∀ vs,o.data ≠ .fields vs:=by
   obtain ⟨_,o',ho',hd⟩:=I.funs.mem hb
   rw [e1] at ho'
   cases ho'
   exact hd
  obtain ⟨sl2,e3⟩:=x2 b _ e2 hd
  exact ⟨sl2,e3⟩
 ·obtain ⟨o',e1⟩:=I.base.there b o e (noEx b)
  exact F.un.free b o' e1 (I.base.free b o e n (noEx b)) (by simp)
 ·obtain ⟨o1,e1⟩:=I.base.there b o e (noEx b)
  obtain ⟨o2,e2⟩:=F.un.there b o1 e1 (by simp)
  by_cases hb:b ∈ frs X.stack
  ·obtain ⟨_,o',ho',hd⟩:=fl.2.2.1.mem hb
   obtain ⟨sl2,e3⟩:=x2 b o' ho' hd
   exact ⟨_,e3⟩
  ·obtain ⟨o3,e3⟩:=olds b o1 e1 hb
   exact ⟨o3,x1.1 b o3 e3⟩
 ·obtain ⟨m1,e1⟩:=I.base.tbls b ps e
  obtain ⟨m2,e2⟩:=F.un.tbls b _ e1
  exact ⟨m1 ++ m2,by rw [e2,Array.append_assoc]⟩
 ·obtain ⟨o3,e3⟩:=tr b u e
  have e4:=fl.1 b o3 e3
  rw [q] at e4
  cases e4
  exact x1.1 b o e3
 ·obtain ⟨o1,e1⟩:=I.base.there b o e (noEx b)
  exact olds b o1 e1 (nst b o e hb)
end
abbrev excC (ea C:Addr) (od:Option Addr) (t:Addr):HO:=.ext fun h=>∃ tb,h.get? ea = some (excF C od t tb)
theorem excC_ok {P:Program} {w:World} {H:Hp} {h:Heap} {ea C t:Addr} {od:Option Addr} {tb:Value} (e:h.get? ea = some (excF C od t tb)):ObjOk P w H h ea (excC ea C od t):=
 ⟨⟨tb,e⟩,⟨_,e⟩,fun g1 g2 ⟨tb',q⟩ k=>⟨tb',k _ q⟩⟩
section
variable {X:Cx} {pins:List (Addr × Obj)} {σ : St} {H H':Hp} {s s':Shared} {ea C t:Addr} {od:Option Addr} {M:Model} {A:Around} {E:Value->Shared->Prop} {h5:Heap}
theorem FlyS.move {P:Program} {w:World} {l:List Env} {B:Heap} (F:FlyS P w l H s C od t H' ea s') (fl:FlS B l ea C od t s'.heap) (tr:∀ b u,H' b = some u->∃ o,B.get? b = some o)
  (old:∀ b o,s.heap.get? b = some o->H b = none->b ∉ frs l->B.get? b = some o) (olds:∀ b o,s.heap.get? b = some o->b ∉ frs l->∃ o',B.get? b = some o')
  (fl5:FlS B l ea C od t h5) (up:s'.heap.UpToSlots h5):FlyS P w l H s C od t H' ea { s' with heap:=h5 }:=by
 refine ⟨F.os,F.bare,⟨fun b o e n hb _=>fl5.1 b o (old b o e n hb),fun b o e n hb _=>?_,F.un.free,fun b o e _=>?_,F.un.tups,F.un.frzs,F.un.tbls⟩,F.hok.sameAt fun b u o e q=>?_,F.nt,⟨B,fl5,tr,old,olds⟩⟩
 ·obtain ⟨sl,e1⟩:=F.un.slot b o e n hb (by simp)
  obtain ⟨_,o',ho',hd⟩:=fl.2.2.1.mem hb
  rw [e1] at ho'
  cases ho'
  obtain ⟨sl2,e2⟩:=up b _ e1 hd
  exact ⟨sl2,e2⟩
 ·by_cases hb:b ∈ frs l
  ·obtain ⟨_,o',ho',hd⟩:=fl5.2.2.1.mem hb
   exact ⟨o',ho'⟩
  ·obtain ⟨o3,e3⟩:=olds b o e hb
   exact ⟨o3,fl5.1 b o3 e3⟩
 ·obtain ⟨o3,e3⟩:=tr b u e
  have e4:=fl.1 b o3 e3
  rw [q] at e4
  cases e4
  exact fl5.1 b o e3
theorem landS {B:Heap} {l:List Env} {Q:Unit->Shared->Prop} (fl:FlS B l ea C od t s.heap) (q:∀ h':Heap,FlS B l ea C od t h'->s.heap.UpToSlots h'->Q () { s with heap:=h' }):wpAny M A (setFlight (.ref ea) none) Q E s:=by
 obtain ⟨f1,f2,f3,tb,oT,ts,h1,h2,h3,h4,h5,h6⟩:=fl
 unfold setFlight
 refine wpAny_bind (wpAny_field (x:=.ref tb) h1 rfl rfl ?_)
 rw [if_pos (show (Value.ref tb != Value.none) = true from rfl)]
 have l3 : 3 < ts.size:=(Array.getElem?_eq_some_iff.mp h6).1
 refine wpAny_setField h4 h5 l3 ?_
 show Q () { s with heap:=s.heap.update tb (Obj.mapFields fun x=>x.setIfInBounds 3 Value.none) }
 have z1:∀ b,b ≠ tb->(s.heap.update tb (Obj.mapFields fun x=>x.setIfInBounds 3 Value.none)).get? b = s.heap.get? b:=fun b hb'=>Heap.get?_update_ne _ _ _ _ hb'
 have up:s.heap.UpToSlots (s.heap.update tb (Obj.mapFields fun x=>x.setIfInBounds 3 Value.none)):=fun b o hbo hd=>by
  have n:b ≠ tb:=fun z=>by rw [z,h4] at hbo; cases hbo; exact hd _ h5
  exact ⟨o.slots,by rw [z1 b n]; exact hbo⟩
 obtain ⟨oc,odd,da,osl⟩:=oT
 have h5':da = .fields ts:=h5
 subst h5'
 have z2:(s.heap.update tb (Obj.mapFields fun x=>x.setIfInBounds 3 Value.none)).get? tb = some ⟨oc,odd,.fields (ts.setIfInBounds 3 .none),osl⟩:=Heap.get?_update_self _ h4 rfl
 refine q _ ⟨fun b o hbo=>?_,f2,f3.of_keeps fun b o hbo hd=>?_,tb,_,_,(by rw [z1 ea (Ne.symm h3)]; exact h1),h2,h3,z2,rfl,?_⟩ up
 ·have n:b ≠ tb:=fun z=>by rw [z,h2] at hbo; cases hbo
  rw [z1 b n]
  exact f1 b o hbo
 ·obtain ⟨sl,hs⟩:=up b o hbo hd
  exact ⟨_,hs,rfl⟩
 ·rw [Array.getElem?_setIfInBounds_self_of_lt l3]
theorem FlyS.track {B:Heap} (I:Inv X pins σ H s) (F:FlyS X.prog X.w X.stack H s C od t H' ea s') (fl:FlS B X.stack ea C od t s'.heap) (old:∀ b o,s.heap.get? b = some o->H b = none->b ∉ frs X.stack->B.get? b = some o) :
  Inv X pins σ (upd H' ea (excC ea C od t)) s':=by
 have I1:Inv X pins σ H' s':=I.call' F.os F.un F.hok F.bare fun b z=>nomatch z
 obtain ⟨tb,oT,ts,he,_⟩:=fl.2.2.2
 have nfr:ea ∉ frs X.stack:=fun z=>by
  obtain ⟨_,o',ho',hd'⟩:=fl.2.2.1.mem z
  rw [he] at ho'
  cases ho'
  exact hd' _ rfl
 have nold:∀ b o,s.heap.get? b = some o->H b = none->b ≠ ea:=fun b o e n z=>by
  subst z
  have:=old b o e n nfr
  rw [fl.2.1] at this
  cases this
 refine I1.track F.nt (excC_ok he) (fun u e n hx=>?_) (fun z=>?_) (fun x c e z=>?_) fun p hp=>?_
 ·by_cases hb:ea ∈ X.fs
  ·obtain ⟨_,o',ho',hd'⟩:=I1.funs.mem hb
   rw [he] at ho'
   cases ho'
   exact hd' _ rfl
  ·exact nold ea u (I.base.keep ea u e n hb hx) (I.base.free ea u e n hx) rfl
 ·obtain ⟨m,⟨oL,es,ep,hoL,hdL,_⟩,_⟩:=I1.loc
  rw [z,he] at hoL
  cases hoL
  cases hdL
 ·obtain ⟨v,oc,hoc,hdc⟩:=I1.cell x c e
  rw [z,he] at hoc
  cases hoc
  cases hdc
 ·obtain ⟨q1,q2,_⟩:=I.pin p hp
  exact nold p.1 p.2 q1 q2
end
def RaisesS (X:Cx) (E:XK):Prop:=∀ (pins:List (Addr × Obj)) (σ : St) (H:Hp) (s:Shared) (ea C:Addr) (od:Option Addr) (t:Addr),Inv X pins σ H s->H ea = some (excX ea C od t)->X.H₀ ea = none->E (.ref C) od (drop H ea)->X.xe (.ref ea) s
def tRaiseS (K:Frag) (H0:Hp) (E:XK) (te:TE):TS:=fun _ σ H=>te σ H fun x H1=>∃ (ea C:Addr) (od:Option Addr) (t:Addr),x = .ref ea/\H1 ea = some (excX ea C od t)/\ExcCls K C/\xmIn K C = true/\H0 ea = none/\E (.ref C) od (drop H1 ea)
section
variable {X:Cx} {E:XK} {pos:Pos} {e:Expr} {te:TE}
theorem ps_raiseS (hX:RaisesS X E) (hc:X.calm = true) (he:PE X e te):PS X (.Raise (some e) none pos) (tRaiseS X.K X.H₀ E te):=by
 refine ⟨?_⟩
 intro pins s σ H D I h
 rw [arm_exec_Raise]
 refine wpAny_bind (wpAny_standAt ?_)
 unfold raiseStmt
 show wpAny _ _ (do
  let xv <- (do
   let v <- eval e X.env
   standAt pos
   pure v)
  _) _ _ _
 refine wpAny_bind (wpAny_bind (thn (he pins s σ H _ I h) fun u s1 ⟨x,H1,I1,rx,ea,C,od,t,ex,hx,c,m,hn,q⟩=>?_))
 subst ex
 obtain rfl:u = Value.ref ea:=rx
 refine wpAny_bind (wpAny_standAt (wpAny_pure ?_))
 have ho:=excX_at I1 hx
 have XO:=xobj_of I1.kIn m
 obtain ⟨nm,q',N,bs,bm,sn,sub,ab,col,dd,k0,k1,k2,k3,k5,hC,b1,b2,b3,b4⟩:=XO.ob
 have hq:X.xe (.ref ea) s1:=hX pins σ H1 s1 ea C od t I1 hx hn q
 have LT:Looks (model X.prog X.w) s1.heap (typeOf (.ref ea)) (.ref C):=(PySem.W.Looks.ld ho).andThen .now
 have LTC:Looks (model X.prog X.w) s1.heap (typeOf (.ref C)) (.type "type"):=(PySem.W.Looks.ld hC).andThen .now
 have LB:=PySem.W.looks_mroIn (M:=model X.prog X.w) I1.kIn c.be
 have LIs:Looks (model X.prog X.w) s1.heap (isType (.ref ea)) false:=(PySem.W.Looks.ld ho).andThen .now
 have hcalm:=I1.ok.hd hc
 obtain ⟨hh,g,d,tk,os⟩:=s1
 dsimp only
 refine wpAny_bind (wpAny_pure (wpAny_bind (wpAny_holding ?_)))
 unfold excFromValue isExcClass
 refine wpAny_bind (wpAny_bind (LIs.at ?_))
 rw [if_neg Bool.false_ne_true]
 refine wpAny_pure ?_
 rw [if_neg Bool.false_ne_true]
 unfold isInstance
 refine wpAny_bind (wpAny_bind (LT.at (LB.at ?_)))
 rw [if_pos rfl]
 refine wpAny_pure ?_
 dsimp only
 refine wpAny_bind (LIs.at ?_)
 rw [if_neg Bool.false_ne_true]
 unfold raisedInstance
 refine wpAny_bind (wpAny_bind (LT.at (wpAny_bind (LTC.at ?_))))
 rw [if_pos (by decide)]
 refine wpAny_pure (wpAny_bind ?_)
 unfold setFlight
 refine wpAny_bind (wpAny_field (x:=Value.none) ho rfl rfl ?_)
 rw [if_neg (show ¬ (Value.none != Value.none) = true by decide)]
 refine wpAny_pure ?_
 unfold raiseNew
 refine wpAny_bind (wpAny_handled_none hcalm ?_)
 exact wpAny_throw hq
end
section
variable {P:Program} {w:World} {K:Frag} {mg:Str->Option Value} {base:Heap} {N:List Str} {qual:Str} {scope:Scope} {f:Addr} {cd:Value} {A:Around} {outer:List Env} {s:Shared} {H:Hp} {E E':XK}
theorem raisesS_cx:RaisesS (cxOf (CXs P w) P w K mg base N qual scope f cd A outer s H E) E:=fun pins σ H1 s1 ea C od t I hx hn q=>by
 refine wpAny_mono (fly_madeS I rfl rfl rfl hx hn) (fun _ s2 F=>?_) fun _ _ z=>z
 exact ⟨ea,_,_,_,_,rfl,F,q⟩
theorem passS (hE:∀ c d H,E' c d H->E c d H):Passes (CXs P w) (cxOf (CXs P w) P w K mg base N qual scope f cd A outer s H E) E':=fun pins σ H1 s1 e s' I q=>by
 obtain ⟨ea,C,od,t,H',rfl,F,q⟩:=q
 refine wpAny_mono (fly_onS I rfl rfl rfl F) (fun _ s2 F2=>?_) fun _ _ z=>z
 exact ⟨ea,C,od,t,H',rfl,F2,hE _ _ _ q⟩
theorem Fun.okS {x:Str} {st:Stmt} {fd:FuncData} {ps:List Str} {k:Nat} {sp:Sp} (F:Fun K x qual st f fd) (S:FnScope N ps (defScope st)) (len:∀ vs H Q E,sp vs H Q E->vs.length = ps.length)
  (hbody:∀ (cdv:Value) (A:Around) (outer:List Env) (s:Shared) (H:Hp) (vs:List V) (Q:VK) (E:XK),Room k (A.deeper (envOfC qual (defScope st) s.heap.objs.size f cdv))->sp vs H Q E->
   ∃ t,PSs (cxOf (CXs P w) P w K mg base N qual (defScope st) f cdv A outer s H E) (defBody st) t/\t { nx:=fun _ H'=>Q .non H',rt:=Q } (start N vs) H):FnOk P w K mg base (CXs P w) (k + 1) f fd ps sp:=by
 obtain ⟨oc,od,kV,doc,pm,an,cdv,ct,osl,rfl,lk,hcd⟩:=F.ex
 exact fn_of lk hcd S len fun A outer s H vs Q E hr hsp=>hbody cdv A outer s H vs Q E hr hsp
end
structure CalleeS (P:Program) (w:World) (K:Frag) (mg:Str->Option Value) (base:Heap) (k:Nat) (x:Str) (f:Addr) (fd:FuncData) (ps:List Str) (sp:Sp):Prop where
 ok:FnOk P w K mg base (CXs P w) k f fd ps sp
 mg:mg x = some (.ref f)
 kp:keepIn K (.ref f) = true
 bd:Binds K fd ps []
section
variable {X:Cx} {k:Nat} {f:Addr} {fd:FuncData} {ps:List Str} {sp:Sp} {E:XK} {x:Str} {p pos:Pos} {e:Expr} {es:List Expr} {t:TA}
theorem cS (c:CalleeS X.prog X.w X.K X.mg X.base k x f fd ps sp) (hp:Passes (CXs X.prog X.w) X E) (hr:Room k X.A) (ha:PA X (e :: es) t) (hg:Gl X x:=by rfl) (hdb:(x == ("__debug__" : Str)) = false:=by decide)
  (h1:isSt e = false:=by rfl) (h2:es.any isSt = false:=by rfl):PE X (.Call (.Name x p) (e :: es) [] pos) (tCall sp [] E t):=
 pe_call c.ok hr hg c.mg c.kp c.bd .nil hp ha hdb (star_cons h1) (star_any h2)
end
abbrev HK:=Addr->Option Addr->Addr->Addr->Ends->St->Hp->Prop
structure PH (X:Cx) (hs:List ExceptHandler) (th:HK):Prop where
 run:∀ (pins:List (Addr × Obj)) (σ : St) (H1:Hp) (s1:Shared) (H':Hp) (ea C:Addr) (od:Option Addr) (t:Addr) (s5:Shared) (D:Ends),Inv X pins σ H1 s1->FlyS X.prog X.w X.stack H1 s1 C od t H' ea s5->th C od t ea D σ H'->wpAny (model X.prog X.w) X.A (handleBy (.ref ea) X.env hs) (SP X pins D) X.xe s5
section
variable {X:Cx} {hs:List ExceptHandler} {th:HK} {c n:Str} {C':Addr} {i:Nat} {ts:TS} {b₀:Stmt} {suite:List Stmt} {np hpos:Pos}
theorem ph_nil:PH X [] (fun _ _ _ _ _ _ _=>False):=⟨fun _ _ _ _ _ _ _ _ _ _ _ _ _ h=>h.elim⟩
end
def Passes2 (X:Cx) (pins:List (Addr × Obj)) (σ : St) (E:XK):Prop:=∀ (H:Hp) (s:Shared) (e:Value) (s':Shared),Inv X pins σ H s->CXs X.prog X.w X.stack H s E e s'->X.xe e s'
def tTryS (tb:XK->TS) (th:HK):TS:=fun D σ H=>tb (fun cls od H'=>∃ C,cls = .ref C/\∀ t ea,H' ea = none->th C od t ea D σ H') D σ H
section
variable {X:Cx} {st:Stmt} {h₀:ExceptHandler} {hs:List ExceptHandler} {pos:Pos} {tb:XK->TS} {th:HK}
theorem ps_tryS (hstk:X.stack = X.env :: X.outer) (hfl:X.env.frame = some X.env.locals) (hh:PH X (h₀ :: hs) th)
  (hb:∀ (pins:List (Addr × Obj)) (σ : St) (xe:Value->Shared->Prop) (E:XK),Passes2 (X.wish xe) pins σ E->PS1 (X.wish xe) pins σ st (tb E)):PS X (.Try [st] (h₀ :: hs) [] [] pos) (tTryS tb th):=by
 refine ⟨?_⟩
 intro pins s σ H D I h
 have fr0:=I.ok.frames
 rw [hstk] at fr0
 refine wpAny_Try_except ?_
 have key:Passes2 (X.wish (tryXe X pins D (h₀ :: hs))) pins σ (fun cls od H'=>∃ C,cls = .ref C/\∀ t ea,H' ea = none->th C od t ea D σ H'):=by
  intro H1 s1 e s2 I1 q
  obtain ⟨ea,C,od,t,H',rfl,F,C0,e0,q⟩:=q
  cases e0
  have I1:=I1.unwish
  have F:FlyS X.prog X.w X.stack H1 s1 C od t H' ea s2:=F
  obtain ⟨B,fl,tr,old,olds⟩:=F.fly
  have fl':=fl
  rw [hstk] at fl'
  refine noteS fr0 fl'.2.2.1 hfl fl'.1 fl'.2.1 (.inr fl'.2.2.2) fun h5 y1 y2 y3 y4=>?_
  have fl5:FlS B X.stack ea C od t h5:=by rw [hstk]; exact ⟨y1,fl'.2.1,y2,y3⟩
  have F5:=F.move fl tr old olds fl5 y4
  exact hh.run pins σ H1 s1 H' ea C od t _ D I1 F5 (q t ea F.nt)
 have run:=(hb pins σ _ _ key).run s H D (I.wish _) h
 refine wpAny_execs_cons (thn run fun f s1 q=>?_)
 ·cases f with
  | next=>exact wpAny_execs_nil (wpAny_execs_nil (SP.unwish (f:=.next) q))
  | ret v=>exact SP.unwish (f:=.ret v) q
  | brk=>exact SP.unwish (f:=.brk) q
  | cont=>exact SP.unwish (f:=.cont) q
end
section
variable {X:Cx} {pins:List (Addr × Obj)} {σ : St} {e:Expr} {es:List Expr} {te:TE} {t:TA} {E:XK} {x m:Str} {p pos apos:Pos} {k:Nat} {f C:Addr} {fd:FuncData} {ps:List Str} {sp:Sp} {dvs:List V} {ds:List Value}
theorem p2_make (M:Mk X.K C f) (F:FnOk X.prog X.w X.K X.mg X.base (CXs X.prog X.w) k f fd ps sp) (hr:Room (k + 1) X.A) (hg:Gl X x) (hm:X.mg x = some (.ref C)) (hb:Binds X.K fd ps ds) (hd:Vals dvs ds) (hp:Passes2 X pins σ E)
  (ha:PA X (e :: es) t) (hdb:(x == ("__debug__" : Str)) = false:=by decide) (he:starEach (e :: es) X.env = (false,eval e X.env) :: starEach es X.env:=by rfl) (hpl:(backTo pos (starEach es X.env)).any (·.1) = false:=by rfl) :
  PE1 X pins σ (.Call (.Name x p) (e :: es) [] pos) (tMake C sp dvs E t):=by
 refine ⟨fun s H Q I h=>?_⟩
 refine wpAny_Call_Name_kw (ld_glob I hg hm ?_ hdb)
 refine callWith_K (h₀:=X.base) I.ok.mod.kin M.kp (thn (ha pos pins s σ H _ I h) fun us s1 ⟨vs,H1,I1,r,q⟩=>⟨I1.kIn,?_⟩) he hpl
 have hq:=q (s1.heap.objs.size + 1) s1.heap.objs.size (I1.hok.fresh (Nat.le_succ _)) (I1.hok.fresh (Nat.le_refl _)) (Nat.ne_of_lt (Nat.lt_succ_self _))
 have I2:=Inv.made (C:=C) I1
 have r2:Vals (V.ref (s1.heap.objs.size + 1) :: (vs ++ dvs)) (Value.ref (s1.heap.objs.size + 1) :: (us ++ ds)):=.cons rfl (r.append hd)
 have hl:(Value.ref (s1.heap.objs.size + 1) :: us ++ ds).length = ps.length:=by
  have e:=r2.length
  rw [F.len _ _ _ _ hq] at e
  exact e.symm
 refine wpAny_call (make_map (f:=f) I1.kIn M.makes M.init (beq_iff_eq.mp M.fn) (codeAny_mono (F.run _ X.stack _ _ ⟨Value.ref (s1.heap.objs.size + 1) :: us,[]⟩ (Value.ref (s1.heap.objs.size + 1) :: (us ++ ds)) _ _ E (hr.make C us [])
  (I2.env0.make C us []) (hb _ (Value.ref (s1.heap.objs.size + 1) :: us) I2.kIn hl) r2 hq) fun r s' hq'=>?_))
 cases r with
 | error e=>exact hp _ _ e s' I2 hq'
 | ok fl=>
  cases fl with
  | ret u=>
   obtain ⟨v,H',I3,rv,ev,q3⟩:=I2.after hq'
   subst ev
   exact ⟨rv,⟨V.ref (s1.heap.objs.size + 1),H',I3,rfl,q3⟩⟩
  | next=>exact False.elim hq'
  | brk=>exact False.elim hq'
  | cont=>exact False.elim hq'
end
section
variable {X:Cx} {pins:List (Addr × Obj)} {σ : St} {H:Hp} {s:Shared} {x C t:Addr} {f:Str} {A:Around} {E:Value->Shared->Prop}
theorem getC_ok {b:Bool} {dx:Addr} {fs:List (Str × V)} {v:V} {Q:Value->Shared->Prop} (I:Inv X pins σ H s) (e:H x = some (excC x C (some dx) t)) (ed:H dx = some (.xd fs)) (c:ExcCls X.K C) (m:XSet X.K C) (n:NoAttr X.K C f) (l:fs.lookup f = some v)
  (h:∀ u s',Inv X pins σ H s'->RelV v u->Q u s'):wpAny (model X.prog X.w) A (getAttr (.ref x) f b) Q E s:=by
 obtain ⟨tb,hx⟩:=(I.hok x _ e).1
 obtain ⟨mA,ns,r⟩:=I.hok dx _ ed
 obtain ⟨u,hu,ru⟩:=RelO.some_of (v:=v) (o:=mA f) (by rw [<- l]; exact r f)
 exact get_exc c m I.kIn n hx rfl rfl rfl ns hu (handed_of ru) (h u _ (I.tok _) ru)
end
def tFldC (K:Frag) (ta:TE) (f:Str):TE:=fun σ H Q=>ta σ H fun x H1=>∃ (a C t dx:Addr) (fs:List (Str × V)) (v:V),x = .ref a/\H1 a = some (excC a C (some dx) t)/\H1 dx = some (.xd fs)/\ExcCls K C/\XSet K C/\NoAttr K C f/\fs.lookup f = some v/\Q v H1
section
variable {X:Cx} {e:Expr} {f:Str} {pos:Pos} {ta:TE}
theorem pe_fldC (he:PE X e ta) (hb:attributeBase e f X.env (eval e X.env) = eval e X.env):PE X (.Attribute e f pos) (tFldC X.K ta f):=by
 refine ⟨?_⟩
 intro pins s σ H Q I h
 refine attr_of hb (thn (he pins s σ H _ I h) fun u s1 ⟨x,H1,I1,rx,a,C,t,dx,fs,v,ex,ea,ed,c,m,n,l,q⟩=>?_)
 subst ex
 obtain rfl:u = Value.ref a:=rx
 exact getC_ok I1 ea ed c m n l fun u' s2 I2 ru=>⟨v,H1,I2,ru,q⟩
end
end L2
namespace L2
open PySem PySem.Spec PyProof.Rows PySem.Builtin
section
variable {prog:Program} {w:World} {A:Around} {E:Value->Shared->Prop} {s:Shared} {it ea C t:Addr} {od:Option Addr} {tb:Value} {x left step:Int} {Q:Option Value->Shared->Prop}
end
end L2
namespace L2
open PySem PySem.Spec PyProof.Rows
structure TurnH (ea:Addr) (P:Program) (w:World) (K:Frag) (tg:Expr) (J:It) (fp:List Addr) (it:Addr) (tn:Nat->Heap->Prop):Prop where
 mem:it ∈ fp
 obj:∀ i h,tn i h->∀ b ∈ fp,∃ o,h.get? b = some o/\∀ v,o.data ≠ .cell v
 keep:∀ i h h',tn i h->(∀ b ∈ fp,∀ o,h.get? b = some o->h'.get? b = some o)->tn i h'
 item:∀ (X:Cx),X.prog = P->X.w = w->X.K = K->X.A.handled = some (.ref ea)->∀ (i:Nat) (pins:List (Addr × Obj)) (s:Shared) (σ : St) (H:Hp) (E:Value->Shared->Prop),Inv X pins σ H s->(∀ b ∈ fp,FpOk X pins H b)->tn i s.heap->J.go i H->
  wpAny (model P w) X.A (pyNext (.ref it)) (fun r s1=>∃ u,r = some u/\
   wpAny (model P w) X.A (letOwnedTupleGo tg (.ref it) u) (fun _ s2=>∃ x H',Inv X pins σ H' s2/\RelV x u/\J.yld i H x H'/\tn (i + 1) s2.heap/\∀ b ∈ fp,H' b = none) E s1) E s
 done:∀ (X:Cx),X.prog = P->X.w = w->X.K = K->X.A.handled = some (.ref ea)->∀ (i:Nat) (pins:List (Addr × Obj)) (s:Shared) (σ : St) (H:Hp) (E:Value->Shared->Prop),Inv X pins σ H s->(∀ b ∈ fp,FpOk X pins H b)->tn i s.heap->J.stop i H->
  wpAny (model P w) X.A (pyNext (.ref it)) (fun r s1=>r = none/\Inv X pins σ H s1) E s
 self:∀ (A:Around) (i:Nat) (s:Shared) (Q:Value->Shared->Prop) (E:Value->Shared->Prop),tn i s.heap->Q (.ref it) s->wpAny (model P w) A (pyIter (.ref it)) Q E s
def PIEH (X:Cx) (ea:Addr) (pins:List (Addr × Obj)) (σ : St) (tg:Expr) (R:It->Hp->Prop) (itv:Value) (s2:Shared):Prop:=
 ∃ (it:Addr) (fp:List Addr) (tn:Nat->Heap->Prop) (J:It) (H':Hp),itv = .ref it/\Inv X pins σ H' s2/\TurnH ea X.prog X.w X.K tg J fp it tn/\tn 0 s2.heap/\(∀ b ∈ fp,FpOk X pins H' b)/\R J H'
structure PIH (X:Cx) (ea:Addr) (tg iter:Expr) (wi:TI):Prop where
 run:∀ (pins:List (Addr × Obj)) (s:Shared) (σ : St) (H:Hp) (R:It->Hp->Prop),Inv X pins σ H s->wi σ H R->
  wpAny (model X.prog X.w) X.A (eval iter X.env) (fun v s1=>wpAny (model X.prog X.w) X.A (pyIter v) (PIEH X ea pins σ tg R) X.xe s1) X.xe s
instance {X:Cx} {ea:Addr} {tg iter:Expr} {wi:TI}:CoeFun (PIH X ea tg iter wi) (fun _=>∀ (pins:List (Addr × Obj)) (s:Shared) (σ : St) (H:Hp) (R:It->Hp->Prop),Inv X pins σ H s->wi σ H R->
  wpAny (model X.prog X.w) X.A (eval iter X.env) (fun v s1=>wpAny (model X.prog X.w) X.A (pyIter v) (PIEH X ea pins σ tg R) X.xe s1) X.xe s):=⟨PIH.run⟩
section
variable {X:Cx} {tg:Expr}
end
section
variable {X:Cx} {pins:List (Addr × Obj)} {σ : St} {s:Shared} {sc:Scope} {fr Nc:List Str} {caps:List (Option Nat)} {elt tg iter:Expr} {ifs:List Expr} {g:TG} {tt:TT} {te:TE} {ow:List Nat} {pos pos2:Pos} {E:Value->Shared->Prop}
theorem comp_runH {ea:Addr} {H2:Hp} {it:Addr} {fp:List Addr} {tn:Nat->Heap->Prop} {J:It} {Q:VK} {RR:Value->Addr->Result->Shared->Prop}
  (hc:X.A.handled = some (.ref ea)) (B:BlockOk X.env sc fr) (go:GOwn g ow) (how:(ow.all fun i=>caps[i]? == some none) = true) (hcap:capChk X.N Nc caps X.env sc fr = true) (hlen:caps.length = Nc.length)
  (hb:∀ (pins:List (Addr × Obj)) (fp:List Addr) (s:Shared) (H:Hp) (C:Addr),PG (compCx X pins sc fr Nc fp s H C) tg g/\PIf (compCx X pins sc fr Nc fp s H C) ifs tt/\PE (compCx X pins sc fr Nc fp s H C) elt te)
  (I2:Inv X pins σ H2 s) (T:TurnH ea X.prog X.w X.K tg J fp it tn) (st2:tn 0 s.heap) (f2:∀ b ∈ fp,FpOk X pins H2 b) (h:∀ D,H2 D = none->LCr J caps g tt te σ H2 Q D)
  (fin:∀ (D C:Addr) (σ':St) (H':Hp) (s':Shared),Inv (compCx X pins sc fr Nc fp s H2 C) [] σ' H' s'->Q (.ref D) H'->RR (.ref D) C (.ok .next) s') :
  wpAny (model X.prog X.w) X.A (newList []) (fun acc s₃=>wpAny (model X.prog X.w) X.A (newFunctionEnv sc X.env.globals (clB X.env fr) [] X.env.qual none .none (some X.env)) (fun cenv s₄=>
   codeAny (model X.prog X.w) X.A (.compStart (.ListComp elt [⟨tg,iter,ifs,0⟩] sc pos) 0 (.ref it) acc { cenv with scope:=relabel sc X.env }) (RR acc cenv.locals) s₄) E s₃) E s:=by
 have hcell:∀ y ∈ sc.names,y.2 ≠ .cell:=fun y hy=>by
  have h3:=List.all_eq_true.mp B.names _ hy
  simp only [Bool.and_eq_true,bne_iff_ne,ne_eq] at h3
  exact h3.1.1
 refine wpAny_newObj_type (wpAny_newFunctionEnv hcell (by intro y hy; simp at hy) (fun h₁ hns₁ hsb₁=>?_) B.kind)
 dsimp only at hns₁ hsb₁ |-
 generalize hH2:s.heap.push { cls:=.type "list",dict:=none,data:=.seq ([]:List Value).toArray } = H3 at hns₁ hsb₁ |-
 have hCs:H3.objs.size = s.heap.objs.size + 1:=by rw [<- hH2,Heap.size_push]
 have hDC:s.heap.objs.size ≠ H3.objs.size:=by rw [hCs]; exact Nat.ne_of_lt (Nat.lt_succ_self _)
 have hC:s.heap.objs.size<=H3.objs.size:=by rw [hCs]; exact Nat.le_succ _
 have old:∀ b o,s.heap.get? b = some o->h₁.get? b = some o:=fun b o e=>
  hsb₁.extBut b o (Nat.ne_of_lt (Nat.lt_of_lt_of_le (Heap.lt_size e) hC)) (Heap.get?_push_of_some _ (hH2 ▸ Heap.get?_push_of_some _ e))
 have hD:h₁.get? s.heap.objs.size = some { cls:=.type "list",data:=.seq ([]:List Value).toArray }:=hsb₁.extBut _ _ hDC (Heap.get?_push_of_some _ (hH2 ▸ Heap.get?_push_size _ rfl))
 have ho:∀ b ∈ fp,∃ o,s.heap.get? b = some o:=fun b hb'=>let ⟨o,e,_⟩:=T.obj 0 _ st2 b hb'; ⟨o,e⟩
 have I4:∀ t',Inv (compCx X pins sc fr Nc fp s H2 H3.objs.size) [] (capS caps σ) (upd H2 s.heap.objs.size (.lst [])) { s with heap:=h₁,toks:=t' }:=fun t'=>
  comp_start I2 B f2 ho hC (Nat.le_refl _) hDC old hD hns₁ hcap hlen
 have ok:=(I4 0).ok
 obtain ⟨hbg,hbt,hbe⟩:=hb pins fp s H2 H3.objs.size
 obtain ⟨W,⟨m0,w0⟩,turn⟩:=h s.heap.objs.size (I2.hok.fresh (Nat.le_refl _))
 have stat:∀ {H':Hp},(∀ b ∈ fp,H' b = none)->∀ b ∈ fp,FpOk (compCx X pins sc fr Nc fp s H2 H3.objs.size) [] H' b:=fun hn b hb'=>
  ⟨hn b hb',(ok.exf b hb').1,ok.exfs b hb',.inl hb',(ok.exf b hb').2,fun p hp=>(f2 b hb').2.2.2.2.2 p (by simpa using hp)⟩
 have hfp0:∀ b ∈ fp,upd H2 s.heap.objs.size (.lst []) b = none:=fun b hb'=>by
  obtain ⟨o,e⟩:=ho b hb'
  rw [upd_ne (Nat.ne_of_lt (Heap.lt_size e))]
  exact (f2 b hb').1
 have loop:∀ s₃:Shared,s₃ = { s with heap:=h₁,toks:=s.toks + ([]:List (Str × Value)).length }->
   codeAny (model X.prog X.w) X.A (.compLoop (.ListComp elt [⟨tg,iter,ifs,0⟩] sc pos) 0 (.ref it) (.ref s.heap.objs.size) (compEnvC sc (clB X.env fr) H3.objs.size X.env)) (RR (.ref s.heap.objs.size) H3.objs.size) s₃:=by
  rintro s₃ rfl
  refine compLoop_any (fun n s'=>∃ i σ' H' ys,Inv (compCx X pins sc fr Nc fp s H2 H3.objs.size) [] σ' H' s'/\tn i s'.heap/\(∀ b ∈ fp,H' b = none)/\W i n ys H'/\
   (∀ (k:Nat) (v:V),(capS caps σ)[k]? = some (some v)->σ'[k]? = some (some v))) ?_ m0
   ⟨0,_,_,[],I4 _,T.keep _ _ _ st2 (fun b _ o e=>old b o e),hfp0,w0,fun _ _ e=>e⟩
  rintro n s3 ⟨i,σ3,H4,ys,I3,st3,fr3,w3,wk3⟩
  have I3':Inv (compCx X pins sc fr Nc fp s H2 H3.objs.size) [] (capS caps σ) H4 s3:=I3.weak (by rw [I3.len]; exact (I4 0).len) wk3
  rcases turn i n ys H4 w3 with ⟨stop,qn⟩ | ⟨gg,step⟩
  ·refine thn (T.done (compCx X pins sc fr Nc fp s H2 H3.objs.size) rfl rfl rfl hc i [] s3 _ H4 (fun _ _=>False) I3' (stat fr3) st3 stop) fun r s4 ⟨hr,I4'⟩=>?_
   subst hr
   exact fin _ _ _ _ _ I4' qn
  ·refine thn (T.item (compCx X pins sc fr Nc fp s H2 H3.objs.size) rfl rfl rfl hc i [] s3 _ H4 (fun _ _=>False) I3' (stat fr3) st3 gg) fun r s4 ⟨u,hr,h4⟩=>?_
   subst hr
   refine thn h4 fun _ s5 ⟨x,H5,I5,r5,y5,st5,fr5⟩=>?_
   have I5':=I5.pinned (stat fr5) (T.obj _ _ st5)
   refine thn (hbg _ s5 _ H5 x u _ I5' r5 (go _ _ _ _ (step x H5 y5))) fun _ s6 ⟨σ6,H6,I6,q6,l6,k6⟩=>?_
   have wk6:∀ (k:Nat) (v:V),(capS caps σ)[k]? = some (some v)->σ6[k]? = some (some v):=fun k v e=>by
    rw [k6 k fun hk=>?_]
    ·exact e
    ·have h1:=List.all_eq_true.mp how k hk
     have h2:caps[k]? = some none:=by simpa using h1
     unfold capS at e
     rw [List.getElem?_map,h2] at e
     cases e
   refine thn (hbt _ s6 σ6 H6 _ I6 q6) fun ok s7 ⟨H7,I7,q7⟩=>?_
   have again:∀ {H8:Hp} {s8:Shared} {ys':List V},Inv (compCx X pins sc fr Nc fp s H2 H3.objs.size) ([] ++ pinsAt fp s5.heap) σ6 H8 s8->(∃ m',m' < n/\W (i + 1) m' ys' H8)->
     ∃ m,m < n/\∃ i σ' H' ys,Inv (compCx X pins sc fr Nc fp s H2 H3.objs.size) [] σ' H' s8/\tn i s8.heap/\(∀ b ∈ fp,H' b = none)/\W i m ys H'/\(∀ (k:Nat) (v:V),(capS caps σ)[k]? = some (some v)->σ'[k]? = some (some v)):=fun {H8 s8 ys'} I8 ⟨m',hm,w8⟩=>by
    refine ⟨m',hm,i + 1,σ6,H8,ys',I8.unpinned,T.keep _ _ _ st5 fun b hb' o e=>(I8.pin (b,o) (List.mem_append_right _ (List.mem_append_right _ (mem_pinsAt hb' e)))).1,fun b hb'=>?_,w8,wk6⟩
    obtain ⟨o,e,d⟩:=T.obj _ _ st5 b hb'
    exact (I8.pin (b,o) (List.mem_append_right _ (List.mem_append_right _ (mem_pinsAt hb' e)))).2.1
   cases ok with
   | false=>
    rw [if_neg Bool.false_ne_true]
    exact again I7 (q7.2 rfl)
   | true=>
    rw [if_pos rfl]
    refine thn (hbe _ s7 σ6 H7 _ I7 (q7.1 rfl)) fun uv s8 ⟨v,H8,I8,r8,hD8,hz,q8⟩=>?_
    refine thn (mt_append (X:=compCx X pins sc fr Nc fp s H2 H3.objs.size) _ s8 σ6 H8 (.ref s.heap.objs.size) [v] _ [uv] (fun _ H'=>H' = upd H8 s.heap.objs.size (.lst (ys ++ [v]))) I8 rfl (.cons r8 .nil) ⟨_,ys,v,rfl,rfl,hD8,hz,rfl⟩) fun _ s9 ⟨_,H9,I9,_,e9⟩=>?_
    subst e9
    exact again I9 q8
 exact codeAny_compStart_list (loop _ rfl) (T.self _ 0 _ _ _ (T.keep _ _ _ st2 (fun b _ o e=>old b o e)) (loop _ rfl))
end
section
variable {X:Cx} {hs:List ExceptHandler} {th:HK} {c n:Str} {C':Addr} {i:Nat} {ts:TS} {b₀:Stmt} {suite:List Stmt} {np hpos:Pos}
def hAsC (K:Frag) (C':Addr) (i:Nat) (ts:Addr->TS) (rest:HK):HK:=fun C od t ea D σ H'=>
 (exmOne K (.ref C) (.ref C') = some true/\ts ea (endsN D i) (σ.set i (some (.ref ea))) (upd H' ea (excC ea C od t)))\/(exmOne K (.ref C) (.ref C') = some false/\rest C od t ea D σ H')
end
section
variable {X:Cx}
theorem strs_are {ys:List Str}:∀ {its:List Value},Vals (ys.map V.str) its->StrsAre its ys:=by
 induction ys with
 | nil=>intro its h; cases h; exact .nil
 | cons y ys ih=>
  intro its h
  cases h with
  | cons r t=>
   obtain ⟨tk,rfl⟩:=r
   exact .cons _ _ (ih t)
def rJoin:V->List V->Hp->VK->Prop:=fun x xs H Q=>∃ (z:Str) (a:Addr) (ys:List Str),x = .str z/\xs = [.ref a]/\H a = some (.lst (ys.map V.str))/\z.length<=16/\(ys.map (·.length)).sum + ys.length<=1048576/\Q (.str (Txt.join z ys)) H
theorem mt_join:MtR X "str.join" rJoin:=by
 intro pins s σ H x xs v us Q I rx r h
 obtain ⟨z,a,ys,rfl,rfl,ha,hz,hl,q⟩:=h
 obtain ⟨t,rfl⟩:=rx
 obtain ⟨u,rfl,ru⟩:=r.one
 cases ru
 obtain ⟨its,rv,pl,_⟩:=I.list (SqL.of ha)
 exact join_listW pl.isList (by simpa using strs_are rv) hz hl fun t' k=>⟨.str _,H,I.tok _,⟨_,rfl⟩,q⟩
end
end L2
namespace L2
open PySem PySem.Spec PyProof.Rows PySem.Builtin
section
variable {prog:Program} {w:World} {A:Around} {E:Value->Shared->Prop} {s:Shared} {it l ea C t:Addr} {od:Option Addr} {tb:Value} {i:Nat} {items:Array Value} {Q:Option Value->Shared->Prop}
theorem next_listEndH (hA:A.handled = some (.ref ea)) (he:s.heap.get? ea = some (excF C od t tb)) (hit:s.heap.IsListIter it l i) (hl:s.heap.IsList l items) (hx:items[i]? = none)
  (q:∀ h':Heap,Heap.ExtBut it s.heap h'->Q none { s with heap:=h' }):wpAny (model prog w) A (pyNext (.ref it)) Q E s:=by
 obtain ⟨hh,gg,dd,tk,os⟩:=s
 obtain ⟨o,ho,hc,hd⟩:=id hit
 obtain ⟨ol,hol,_,nl,hdl⟩:=hl
 have hne:ea ≠ it:=fun z=>by
  rw [z] at he
  have ho':hh.get? it = some o:=ho
  have he':hh.get? it = some (excF C od t tb):=he
  rw [ho'] at he'
  cases Option.some.inj he'
  cases hc
 unfold pyNext
 refine wpAny_bind (wpAny_attempt (wpAny_callSpecial?_slot (name:=Str.ofString "__next__") hit.typeIs slot_listiter_next
  (wpAny_call_entry slot_listiter_next hit.typeIs entry_listiter_next ?_ (args_listiter_next _))))
 show wpAny _ _ (field (.ref it) 0 >>= _) _ _ _
 refine wpAny_bind (wpAny_field ho hd (x:=.ref l) rfl ?_)
 show wpAny _ _ (if (Value.ref l == Value.none) = true then _ else _) _ _ _
 rw [if_neg (show ¬ ((Value.ref l == Value.none) = true) from Bool.false_ne_true)]
 show wpAny _ _ (field (.ref it) 1 >>= _) _ _ _
 refine wpAny_bind (wpAny_field ho hd (x:=.int i 0) rfl ?_)
 show wpAny _ _ (seqItems? (.ref l) >>= _) _ _ _
 refine wpAny_bind (wpAny_seqItems hol hdl ?_)
 simp only [Int.toNat_natCast,hx]
 refine wpAny_bind (wpAny_rule (wpAny_bind (wpAny_setField ho hd (by simp) ?_)))
 have sb:=Heap.SameBut.update hh it (Obj.mapFields fun x=>x.setIfInBounds 0 Value.none)
 have he1:=(sb.2 ea hne).trans he
 have xb:=sb.extBut
 dsimp only
 generalize hh.update it (Obj.mapFields fun x=>x.setIfInBounds 0 Value.none) = h1 at he1 xb |-
 unfold SmallTypes.stopIteration newExc
 refine wpAny_bind (wpAny_bind (wpAny_newTuple ?_ zz0))
 dsimp only
 unfold firstArgMember
 dsimp only
 refine wpAny_bind (wpAny_bind (wpAny_pure (wpAny_pure ?_)))
 have fm:(if (Manifest.find? "StopIteration").elim false (fun t=>t.mro.contains "StopIteration" || t.mro.contains "SystemExit") = true then ([]:List Value).headD Value.none else Value.none) = Value.none:=by split <;> rfl
 rw [fm]
 show wpAny _ _ (newObj (Value.type "StopIteration") (Data.fields #[.ref h1.objs.size,.none,.none,.none,.bool false,.none])) _ _ _
 refine wpAny_newObj_type ?_ (by show 6<=sizeLine + 2; decide)
 dsimp only
 have k1:∀ b o,h1.get? b = some o->((h1.push (tupNew [])).push { cls:=.type "StopIteration",data:=.fields #[.ref h1.objs.size,.none,.none,.none,.bool false,.none] }).get? b = some o:=fun b o e=>Heap.get?_push_of_some _ (Heap.get?_push_of_some _ e)
 have k2:((h1.push (tupNew [])).push { cls:=.type "StopIteration",data:=.fields #[.ref h1.objs.size,.none,.none,.none,.bool false,.none] }).get? (h1.push (tupNew [])).objs.size = some { cls:=.type "StopIteration",data:=.fields #[.ref h1.objs.size,.none,.none,.none,.bool false,.none] }:=Heap.get?_push_size _ rfl
 have k3:(h1.push (tupNew [])).objs.size ≠ ea:=by
  have:=Heap.lt_size he1
  rw [Heap.size_push]
  exact Nat.ne_of_gt (Nat.lt_succ_of_lt this)
 have k4:∀ b o,h1.get? b = some o->b ≠ (h1.push (tupNew [])).objs.size:=fun b o e=>by
  have:=Heap.lt_size e
  rw [Heap.size_push]
  exact Nat.ne_of_lt (Nat.lt_succ_of_lt this)
 generalize (h1.push (tupNew [])).objs.size = e1 at k2 k3 k4 |-
 generalize (h1.push (tupNew [])).push { cls:=.type "StopIteration",data:=.fields #[.ref h1.objs.size,.none,.none,.none,.bool false,.none] } = h2 at k1 k2 |-
 unfold raiseNew
 refine wpAny_bind (wpAny_handled ?_)
 have hA':A.in1.handled = some (.ref ea):=hA
 rw [hA']
 dsimp only
 rw [if_pos (show (Value.ref ea != Value.ref e1) = true by rw [bne_iff_ne]; intro z; exact k3 (Value.ref.inj z).symm)]
 have he2:=k1 _ _ he1
 refine wpAny_bind (wpAny_holding (wpAny_runValue (codeAny_builtin (b:=Builtin.«proto.unchain») rfl ?_)))
 unfold Builtin.«proto.unchain»
 dsimp only
 refine wpAny_bind (wpAny_field (x:=Value.none) he2 rfl rfl ?_)
 rw [if_pos (show (Value.none == Value.none) = true by decide)]
 refine wpAny_pure ?_
 dsimp only
 unfold updateField
 refine wpAny_bind (wpAny_bind (wpAny_load k2 ?_))
 dsimp only
 rw [if_pos (show 2 < (#[Value.ref h1.objs.size,Value.none,Value.none,Value.none,Value.bool false,Value.none]:Array Value).size from Nat.le_of_ble_eq_true rfl)]
 refine wpAny_update k2 ?_
 refine wpAny_throw ?_
 have z1:∀ b,b ≠ e1->(h2.update e1 (Obj.mapFields fun x=>x.setIfInBounds 2 (.ref ea))).get? b = h2.get? b:=fun b hb'=>Heap.get?_update_ne _ _ _ _ hb'
 have z2:(h2.update e1 (Obj.mapFields fun x=>x.setIfInBounds 2 (.ref ea))).get? e1 = some { cls:=.type "StopIteration",data:=.fields #[.ref h1.objs.size,.none,.ref ea,.none,.bool false,.none] }:=Heap.get?_update_self _ k2 rfl
 refine wpAny_bind (wpAny_isInstance (T:="StopIteration") (b:=true) ⟨_,z2,rfl⟩ (by with_unfolding_all rfl) ?_)
 rw [if_pos rfl]
 refine wpAny_pure (q _ fun b o hb e=>?_)
 have e:=xb b o hb e
 rw [z1 b (k4 b o e)]
 exact k1 b o e
end
def ItlH (K:Frag) (ea C:Addr) (od:Option Addr) (t a:Addr):It:=
 ⟨fun i H=>∃ xs x,SqL K H a xs/\xs[i]? = some x,fun i H x H'=>H' = H/\∀ xs,SqL K H a xs->xs[i]? = some x,fun i H=>(∃ xs,SqL K H a xs/\xs.length<=i)/\H ea = some (excC ea C od t)⟩
theorem turn_listH {P:Program} {w:World} {K:Frag} {tg:Expr} {ea C t:Addr} {od:Option Addr} (a it:Addr):TurnH ea P w K tg (ItlH K ea C od t a) [it] it (fun i h=>h.IsListIter it a i) where
 mem:=by simp
 obj:=fun i h st b hb=>by
  have e:b = it:=by simpa using hb
  subst e
  obtain ⟨o,e,c,d⟩:=st
  exact ⟨o,e,fun v z=>by rw [d] at z; cases z⟩
 keep:=fun i h h' st k=>st.at fun o e=>k it (by simp) o e
 item:=by
  intro X hP hw hK hc i pins s σ H E I hf st hg
  subst hP hw hK
  obtain ⟨xs,x,hq,hx⟩:=hg
  obtain ⟨its,rv,p,hz⟩:=I.list hq
  obtain ⟨u,hu,ru⟩:=rv.get hx
  obtain ⟨f0,f1,f2,f3,f4,f5⟩:=hf it (by simp)
  refine wpAny_pyNext_list_item st p.isList (x:=u) (by simpa using hu) fun h' st' sb=>?_
  have I1:Inv X pins σ H { s with heap:=h' }:=I.turned (t':=s.toks) (fun b o hb e=>(sb.2 b hb).trans e) f0 f1 f3 f4 f5
  obtain ⟨o,e,c,d⟩:=id st'
  exact ⟨u,rfl,go_of (s:={ s with heap:=h' }) e c d (by decide) ⟨x,H,I1,ru,⟨rfl,fun ys hy=>by rw [I.list_inj hy hq]; exact hx⟩,st',fun b hb=>(hf b hb).1⟩⟩
 done:=by
  intro X hP hw hK hc i pins s σ H E I hf st hg
  subst hP hw hK
  obtain ⟨⟨xs,hq,hx⟩,hea⟩:=hg
  obtain ⟨its,rv,p,hz⟩:=I.list hq
  obtain ⟨tb,he⟩:=(I.hok ea _ hea).1
  obtain ⟨f0,f1,f2,f3,f4,f5⟩:=hf it (by simp)
  have hl:=rv.length
  exact next_listEndH hc he st p.isList (by simp; omega) fun h' eb=>⟨rfl,I.turned (t':=s.toks) (fun b o hb e=>eb b o hb e) f0 f1 f3 f4 f5⟩
 self:=fun _ _ _ _ _ st h=>wpAny_pyIter_listiter st h
section
variable {X:Cx} {tg:Expr}
def iListH (K:Frag) (ea:Addr) (tl:TE):TI:=fun σ H R=>tl σ H fun x H1=>∃ (a C:Addr) (od:Option Addr) (t:Addr),x = .ref a/\(∃ xs,SqL K H1 a xs)/\R (ItlH K ea C od t a) H1
theorem pi_listH {ea:Addr} {l:Expr} {tl:TE} (hl:PE X l tl):PIH X ea tg l (iListH X.K ea tl):=by
 refine ⟨?_⟩
 intro pins s σ H R I h
 refine thn (hl pins s σ H _ I h) fun v s1 ⟨x,H1,I1,r1,q1⟩=>?_
 obtain ⟨a,C,od,t,e,⟨xs,hq⟩,q⟩:=q1
 subst e
 cases r1
 obtain ⟨its,rv,p,hz⟩:=I1.list hq
 refine wpAny_pyIter_list p.isList ?_
 refine ⟨s1.heap.objs.size,[s1.heap.objs.size],_,_,H1,rfl,I1.kept (t':=s1.toks) fun b o e=>Heap.get?_push_of_some _ e,turn_listH a _,⟨_,Heap.get?_push_size _ rfl,rfl,rfl⟩,fun b hb=>?_,q⟩
 have e:b = s1.heap.objs.size:=by simpa using hb
 subst e
 exact I1.fpOk (Nat.le_refl _) (I1.hok.fresh (Nat.le_refl _))
end
section
variable {X:Cx} {sc:Scope} {elt tg iter:Expr} {ifs:List Expr} {g:TG} {tt:TT} {te:TE} {ow:List Nat} {pos:Pos}
theorem pe_lcH {ea:Addr} {wi:TI} (fr Nc:List Str) (caps:List (Option Nat)) (hc:X.A.handled = some (.ref ea)) (B:BlockOk X.env sc fr) (hi:PIH X ea tg iter wi) (go:GOwn g ow) (how:(ow.all fun i=>caps[i]? == some none) = true)
  (hcap:capChk X.N Nc caps X.env sc fr = true) (hlen:caps.length = Nc.length)
  (hb:∀ (pins:List (Addr × Obj)) (fp:List Addr) (s:Shared) (H:Hp) (C:Addr),PG (compCx X pins sc fr Nc fp s H C) tg g/\PIf (compCx X pins sc fr Nc fp s H C) ifs tt/\PE (compCx X pins sc fr Nc fp s H C) elt te)
  (hs:∀ x,foldedSetIterable iter X.env x = pure x:=by intro _; rfl):PE X (.ListComp elt [⟨tg,iter,ifs,0⟩] sc pos) (tLC wi caps g tt te):=by
 refine ⟨?_⟩
 intro pins s σ H Q I h
 rw [eval_ListComp]
 refine wpAny_comprehension_free (use:=none) rfl hs B.clos B.kind B.loc (thn (hi pins s σ H _ I h) fun v s1 h1=>thn h1 fun itv s2 h2=>?_)
 obtain ⟨it,fp,tn,J,H2,e,I2,T,st2,f2,q⟩:=h2
 subst e
 refine comp_runH (RR:=fun acc C=>compPost (model X.prog X.w) X.A X.xe none (EP X pins σ Q) acc C) hc B go how hcap hlen hb I2 T st2 f2 q ?_
 intro D C σ' H' s' J' qq
 obtain ⟨m,hn,_⟩:=J'.loc
 exact ⟨m,hn,fun h' hs'=>⟨.ref D,H',comp_gone I2 J' (comp_back I2 f2 J') hs',rfl,qq⟩⟩
end
theorem lc_listH {K:Frag} {ea C t a:Addr} {od:Option Addr} {xs:List V} {caps:List (Option Nat)} {g:TG} {tt:TT} {te:TE} {σ : St} {H1:Hp} {Q:VK} {D:Addr} (Pv:Nat->List V->Hp->Prop) (h0:Pv 0 [] (upd H1 D (.lst [])))
  (hl:∀ i ys H,Pv i ys H->SqL K H a xs) (he:∀ i ys H,Pv i ys H->H ea = some (excC ea C od t))
  (hs:∀ i x ys H,i < xs.length->xs[i]? = some x->Pv i ys H->g x (capS caps σ) H fun σ2 H2=>tt σ2 H2 fun ok H3=>(ok = true->te σ2 H3 (lcN xs.length i D Pv ys))/\(ok = false->lcS xs.length i Pv ys H3))
  (hd:∀ ys H,Pv xs.length ys H->Q (.ref D) H):LCr (ItlH K ea C od t a) caps g tt te σ H1 Q D:=by
 refine ⟨fun i m ys H=>m = xs.length - i/\i<=xs.length/\Pv i ys H,⟨xs.length,by simp,Nat.zero_le _,h0⟩,?_⟩
 rintro i m ys H ⟨rfl,hi,p⟩
 have q:=hl i ys H p
 by_cases hlt:i < xs.length
 ·refine .inr ⟨⟨xs,xs[i],q,by simp [hlt]⟩,fun x H' y=>?_⟩
  obtain ⟨e,y⟩:=y
  subst e
  exact hs i x ys _ hlt (y xs q) p
 ·have e:i = xs.length:=by omega
  subst e
  exact .inl ⟨⟨⟨xs,q,Nat.le_refl _⟩,he _ _ _ p⟩,hd ys H p⟩
section
variable {X:Cx}
end
end L2
namespace L2
open PySem PySem.Spec PyProof.Rows
def ExcH (H:Hp) (ea D:Addr):Prop:=(∃ od t,H ea = some (excC ea D od t))\/∃ od t,H ea = some (excX ea D od t)
theorem ExcH.same {H H':Hp} {ea D:Addr} (h:ExcH H ea D) (s:Same H H'):ExcH H' ea D:=by
 rcases h with ⟨od,t,h⟩ | ⟨od,t,h⟩
 ·exact .inl ⟨od,t,s _ _ h⟩
 ·exact .inr ⟨od,t,s _ _ h⟩
section
variable {X:Cx}
theorem exc_hereG {pins:List (Addr × Obj)} {σ : St} {H:Hp} {s:Shared} {ea D:Addr} (I:Inv X pins σ H s) (e:ExcH H ea D):ExcAt ea (.ref D) s.heap:=by
 rcases e with ⟨od,t,e⟩ | ⟨od,t,e⟩
 ·obtain ⟨tb,h⟩:=(I.hok ea _ e).1
  exact ⟨_,_,h,rfl,rfl⟩
 ·exact ⟨_,_,excX_at I e,rfl,rfl⟩
theorem call_isinstG:CallR X (.builtin "isinstance") (fun xs H Q=>∃ ea D C b,xs = [.ref ea,.ref C]/\ExcH H ea D/\ExcCls X.K D/\kitOne X.K (.ref D) (.ref C) = some b/\Q (.bl b) H):=by
 intro pins s σ H xs us Q I r h
 obtain ⟨ea,D,C,b,rfl,he,c,e,q⟩:=h
 obtain ⟨u,w',rfl,ru,rw'⟩:=vals2 r
 cases rw'
 cases ru
 exact kia_one (kitx_exc c) I.kIn (exc_hereG I he) e (fun z=>nomatch z) fun tk=>⟨.bl b,H,I.tok tk,rfl,q⟩
theorem call_isinstGT:CallR X (.builtin "isinstance") (fun xs H Q=>∃ ea D T b,xs = [.ref ea,.ty T]/\ExcH H ea D/\ExcCls X.K D/\kitOne X.K (.ref D) (.type T) = some b/\Q (.bl b) H):=by
 intro pins s σ H xs us Q I r h
 obtain ⟨ea,D,T,b,rfl,he,c,e,q⟩:=h
 obtain ⟨u,w',rfl,ru,rw'⟩:=vals2 r
 cases rw'
 cases ru
 exact kia_one (kitx_exc c) I.kIn (exc_hereG I he) e (fun z=>nomatch z) fun tk=>⟨.bl b,H,I.tok tk,rfl,q⟩
end
theorem pe_fldCK {X:Cx} {K:Frag} {e:Expr} {f:Str} {pos:Pos} {ta:TE} (hK:X.K = K) (he:PE X e ta) (hb:attributeBase e f X.env (eval e X.env) = eval e X.env):PE X (.Attribute e f pos) (tFldC K ta f):=hK ▸ pe_fldC he hb
section
variable {X:Cx} {hs:List ExceptHandler} {th:HK} {c n:Str} {C':Addr} {i:Nat} {ts:TS} {b₀:Stmt} {suite:List Stmt} {np hpos:Pos}
theorem ph_asA {tsA:Addr->TS} (hN:X.N.Nodup) (hi:X.N[i]? = some n) (hk:X.env.scope.names.lookup n = some .local) (hg:Gl X c) (hm:X.mg c = some (.ref C')) (hs':∀ ea,PSs (X.suite ea) (b₀ :: suite) (tsA ea)) (hr:PH X hs th)
  (hd:(c == ("__debug__" : Str)) = false:=by decide):PH X (.ExceptHandler (some (.Name c np)) (some n) (b₀ :: suite) hpos :: hs) (hAsC X.K C' i tsA th):=by
 refine ⟨fun pins σ H1 s1 H' ea C od t s5 D I1 F5 h=>?_⟩
 obtain ⟨B,fl,tr,old,olds⟩:=F5.fly
 have I5:Inv X pins σ H' s5:=I1.call' F5.os F5.un F5.hok F5.bare fun b z=>nomatch z
 have LT:Looks (model X.prog X.w) s5.heap (typeOf (.ref ea)) (.ref C):=by
  obtain ⟨tb,oT,ts',he,_⟩:=fl.2.2.2
  exact (PySem.W.Looks.ld he).andThen .now
 refine wpAny_handleBy_cons (codeAny_handlers_test (ld_glob (I5.suite ea) hg hm ?_ hd)) (by intro z; cases z)
 rcases h with ⟨hx,h⟩ | ⟨hx,h⟩
 ·refine (PySem.W.exm_one (M:=model X.prog X.w) (h:=s5.heap) I5.kIn LT hx) _ _ _ _ (fun _ _ z=>z) ?_
  refine codeAny_handlers_suite_as (landS fl fun h6 fl6 up6=>?_)
  have F6:=F5.move fl tr old olds fl6 up6
  have I6:=F6.track I1 fl6 old
  refine store_ok (v:=.ref ea) I6 hN hi (.inl hk) rfl (fun s7 I7=>?_) (.inr hk)
  refine wpAny_mono ((hs' ea) pins s7 _ _ (endsN D i) (I7.suite ea) h) (fun f s8 h8=>?_) fun _ _ z=>z.elim
  show wpAny (model X.prog X.w) X.A (do bindName X.env n .none; unbindBehindTheSuite X.env n hpos) (fun _ s9=>SP X pins D f s9) X.xe s8
  cases f with
  | next=>
   obtain ⟨σ',H2,I8,q8⟩:=h8
   exact name_goes (Inv.unsuite I1.ok I8) hN hi hk fun s9 I9=>⟨_,H2,I9,q8⟩
  | brk=>
   obtain ⟨σ',H2,I8,q8⟩:=h8
   exact name_goes (Inv.unsuite I1.ok I8) hN hi hk fun s9 I9=>⟨_,H2,I9,q8⟩
  | cont=>
   obtain ⟨σ',H2,I8,q8⟩:=h8
   exact name_goes (Inv.unsuite I1.ok I8) hN hi hk fun s9 I9=>⟨_,H2,I9,q8⟩
  | ret u=>
   obtain ⟨v,σ',H2,I8,rv,q8⟩:=h8
   exact name_goes (Inv.unsuite I1.ok I8) hN hi hk fun s9 I9=>⟨v,_,H2,I9,rv,q8⟩
 ·refine (PySem.W.exm_one (M:=model X.prog X.w) (h:=s5.heap) I5.kIn LT hx) _ _ _ _ (fun _ _ z=>z) ?_
  exact hr.run pins σ H1 s1 H' ea C od t s5 D I1 F5 h
end
section
variable {P:Program} {w:World} {K:Frag} {mg:Str->Option Value} {base:Heap}
end
section
variable {X:Cx} {k:Nat} {f ea:Addr} {fd:FuncData} {ps:List Str} {sp:Addr->Sp} {x:Str} {p pos:Pos} {e:Expr} {es:List Expr} {t:TA}
end
theorem sqT_keep' {K:Frag} {H3:Hp} {o:HO} {l b:Addr} {zs:List V} (hl:∃ zs,H3 l = some (.lst zs)) (hz:SqT K H3 b zs):SqT K (upd H3 l o) b zs:=by
 obtain ⟨ws,hl⟩:=hl
 rcases hz with (z | ⟨u,z⟩) | z
 ·refine .inl (.inl ?_)
  rw [upd_ne (fun e=>by subst e; rw [hl] at z; cases z)]
  exact z
 ·refine .inl (.inr ⟨u,?_⟩)
  rw [upd_ne (fun e=>by subst e; rw [hl] at z; cases z)]
  exact z
 ·exact .inr z
theorem says_grow {K:Frag} {ok ok':Addr->Prop} {H:Hp} {o:HO} {l:Addr} {zs:List V} (hl:H l = some (.lst zs)) (hk:∀ b,ok b->ok' b/\b ≠ l) {n:Nat} {x:V} {d:Dt} (h:Says K ok H n x d):Says K ok' (upd H l o) n x d:=
 h.frame (fun a xs z=>sqT_keep' ⟨_,hl⟩ z) fun a xs oa z=>⟨(hk a oa).1,by rw [upd_ne (hk a oa).2]; exact z⟩
theorem le1000' {n:Nat} (h:n<=1000):n<=sizeLine:=Nat.le_of_lt (small1000 h)
theorem filt_snoc {α : Type} {ys:List α} {i:Nat} {y : α} (keep : α->Bool) (hy:ys[i]? = some y):(ys.take (i + 1)).filter keep = (ys.take i).filter keep ++ (if keep y = true then [y] else []):=by
 have hi:i < ys.length:=(List.getElem?_eq_some_iff.mp hy).1
 have e:ys[i] = y:=(List.getElem?_eq_some_iff.mp hy).2
 rw [List.take_succ_eq_append_getElem hi,List.filter_append,e,List.filter_cons]
 rfl
theorem filt_le {α : Type} {ys:List α} {i:Nat} (keep : α->Bool):((ys.take i).filter keep).length<=i:=by
 have:=List.length_filter_le keep (ys.take i)
 rw [List.length_take] at this
 omega
theorem lc_sel {α : Type} {K:Frag} {a:Addr} {xs:List V} {caps:List (Option Nat)} {g:TG} {tt:TT} {te:TE} {σ : L2.St} {H1:Hp} {Q:VK} {D:Addr} (ys:List α) (keep : α->Bool) (out : α->V) (hD:H1 D = none) (ha:SqL K H1 a xs) (hl:xs.length = ys.length) (hn:xs.length<=1000)
  (hs:∀ (i:Nat) (x:V) (y : α) (H:Hp) (N:VK) (S:Hp->Prop),xs[i]? = some x->ys[i]? = some y->Same H1 H->(∀ H',Same H H'->keep y = true->N (out y) H')->(∀ H',Same H H'->keep y = false->S H')->g x (capS caps σ) H fun σ2 H2=>tt σ2 H2 fun ok H3=>(ok = true->te σ2 H3 N)/\(ok = false->S H3))
  (hd:∀ H,Same H1 H->H D = some (.lst ((ys.filter keep).map out))->Q (.ref D) H):LCr (Itl K a) caps g tt te σ H1 Q D:=by
 refine lc_list (K:=K) (xs:=xs) (fun i zs H'=>Same H1 H'/\H' D = some (.lst zs)/\zs = ((ys.take i).filter keep).map out) ⟨same_new hD _,upd_same,rfl⟩ (fun i zs H' h=>h.1.seq ha) ?_ ?_
 ·rintro i x zs H' hlt hx ⟨sH,hDy,ez⟩
  obtain ⟨y,hy⟩:∃ y,ys[i]? = some y:=⟨_,List.getElem?_eq_getElem (by omega)⟩
  refine hs i x y H' _ _ hx hy sH (fun H2 s2 hk=>?_) (fun H2 s2 hk=>?_)
  ·refine lcN.mk hlt (le1000' hn) (s2 _ _ hDy) (by rw [ez,List.length_map]; exact filt_le _) ⟨fun b' u e=>?_,upd_same,?_⟩
   ·rw [upd_ne (ne_of_none e hD)]
    exact s2 _ _ (sH b' u e)
   ·rw [ez,filt_snoc keep hy,if_pos hk,List.map_append]
    rfl
  ·refine lcS.mk hlt ⟨sH.trans s2,s2 _ _ hDy,?_⟩
   rw [ez,filt_snoc keep hy,if_neg (by rw [hk]; exact Bool.false_ne_true),List.append_nil]
 ·rintro zs H2 ⟨s2,hDy,ez⟩
  rw [List.take_of_length_le (by omega)] at ez
  rw [ez] at hDy
  exact hd H2 s2 hDy
end L2
namespace L2
open PySem PySem.Spec PyProof.Rows PySem.Builtin
section
variable {prog:Program} {w:World} {A:Around} {E:Value->Shared->Prop} {s:Shared} {it l ea C t:Addr} {od:Option Addr} {tb:Value} {i:Nat} {items:Array Value} {Q:Option Value->Shared->Prop}
theorem next_tupleEndH (hA:A.handled = some (.ref ea)) (he:s.heap.get? ea = some (excF C od t tb)) (hit:IsTupIter s.heap it l i) (hl:IsTup s.heap l items) (hx:items[i]? = none)
  (q:∀ h':Heap,Heap.ExtBut it s.heap h'->Q none { s with heap:=h' }):wpAny (model prog w) A (pyNext (.ref it)) Q E s:=by
 obtain ⟨hh,gg,dd,tk,os⟩:=s
 obtain ⟨o,ho,hc,hd⟩:=id hit
 obtain ⟨ol,hol,_,nl,hdl⟩:=hl
 have hne:ea ≠ it:=fun z=>by
  rw [z] at he
  have ho':hh.get? it = some o:=ho
  have he':hh.get? it = some (excF C od t tb):=he
  rw [ho'] at he'
  cases Option.some.inj he'
  cases hc
 unfold pyNext
 refine wpAny_bind (wpAny_attempt (wpAny_callSpecial?_slot (name:=Str.ofString "__next__") hit.typeIs slot_tupleiter_next
  (wpAny_call_entry slot_tupleiter_next hit.typeIs entry_tupleiter_next ?_ (args_tupleiter_next _))))
 show wpAny _ _ (field (.ref it) 0 >>= _) _ _ _
 refine wpAny_bind (wpAny_field ho hd (x:=.ref l) rfl ?_)
 show wpAny _ _ (if (Value.ref l == Value.none) = true then _ else _) _ _ _
 rw [if_neg (show ¬ ((Value.ref l == Value.none) = true) from Bool.false_ne_true)]
 show wpAny _ _ (field (.ref it) 1 >>= _) _ _ _
 refine wpAny_bind (wpAny_field ho hd (x:=.int i 0) rfl ?_)
 show wpAny _ _ (seqItems? (.ref l) >>= _) _ _ _
 refine wpAny_bind (wpAny_seqItems hol hdl ?_)
 simp only [Int.toNat_natCast,hx]
 refine wpAny_bind (wpAny_rule (wpAny_bind (wpAny_setField ho hd (by simp) ?_)))
 have sb:=Heap.SameBut.update hh it (Obj.mapFields fun x=>x.setIfInBounds 0 Value.none)
 have he1:=(sb.2 ea hne).trans he
 have xb:=sb.extBut
 dsimp only
 generalize hh.update it (Obj.mapFields fun x=>x.setIfInBounds 0 Value.none) = h1 at he1 xb |-
 unfold SmallTypes.stopIteration newExc
 refine wpAny_bind (wpAny_bind (wpAny_newTuple ?_ zz0))
 dsimp only
 unfold firstArgMember
 dsimp only
 refine wpAny_bind (wpAny_bind (wpAny_pure (wpAny_pure ?_)))
 have fm:(if (Manifest.find? "StopIteration").elim false (fun t=>t.mro.contains "StopIteration" || t.mro.contains "SystemExit") = true then ([]:List Value).headD Value.none else Value.none) = Value.none:=by split <;> rfl
 rw [fm]
 show wpAny _ _ (newObj (Value.type "StopIteration") (Data.fields #[.ref h1.objs.size,.none,.none,.none,.bool false,.none])) _ _ _
 refine wpAny_newObj_type ?_ (by show 6<=sizeLine + 2; decide)
 dsimp only
 have k1:∀ b o,h1.get? b = some o->((h1.push (tupNew [])).push { cls:=.type "StopIteration",data:=.fields #[.ref h1.objs.size,.none,.none,.none,.bool false,.none] }).get? b = some o:=fun b o e=>Heap.get?_push_of_some _ (Heap.get?_push_of_some _ e)
 have k2:((h1.push (tupNew [])).push { cls:=.type "StopIteration",data:=.fields #[.ref h1.objs.size,.none,.none,.none,.bool false,.none] }).get? (h1.push (tupNew [])).objs.size = some { cls:=.type "StopIteration",data:=.fields #[.ref h1.objs.size,.none,.none,.none,.bool false,.none] }:=Heap.get?_push_size _ rfl
 have k3:(h1.push (tupNew [])).objs.size ≠ ea:=by
  have:=Heap.lt_size he1
  rw [Heap.size_push]
  exact Nat.ne_of_gt (Nat.lt_succ_of_lt this)
 have k4:∀ b o,h1.get? b = some o->b ≠ (h1.push (tupNew [])).objs.size:=fun b o e=>by
  have:=Heap.lt_size e
  rw [Heap.size_push]
  exact Nat.ne_of_lt (Nat.lt_succ_of_lt this)
 generalize (h1.push (tupNew [])).objs.size = e1 at k2 k3 k4 |-
 generalize (h1.push (tupNew [])).push { cls:=.type "StopIteration",data:=.fields #[.ref h1.objs.size,.none,.none,.none,.bool false,.none] } = h2 at k1 k2 |-
 unfold raiseNew
 refine wpAny_bind (wpAny_handled ?_)
 have hA':A.in1.handled = some (.ref ea):=hA
 rw [hA']
 dsimp only
 rw [if_pos (show (Value.ref ea != Value.ref e1) = true by rw [bne_iff_ne]; intro z; exact k3 (Value.ref.inj z).symm)]
 have he2:=k1 _ _ he1
 refine wpAny_bind (wpAny_holding (wpAny_runValue (codeAny_builtin (b:=Builtin.«proto.unchain») rfl ?_)))
 unfold Builtin.«proto.unchain»
 dsimp only
 refine wpAny_bind (wpAny_field (x:=Value.none) he2 rfl rfl ?_)
 rw [if_pos (show (Value.none == Value.none) = true by decide)]
 refine wpAny_pure ?_
 dsimp only
 unfold updateField
 refine wpAny_bind (wpAny_bind (wpAny_load k2 ?_))
 dsimp only
 rw [if_pos (show 2 < (#[Value.ref h1.objs.size,Value.none,Value.none,Value.none,Value.bool false,Value.none]:Array Value).size from Nat.le_of_ble_eq_true rfl)]
 refine wpAny_update k2 ?_
 refine wpAny_throw ?_
 have z1:∀ b,b ≠ e1->(h2.update e1 (Obj.mapFields fun x=>x.setIfInBounds 2 (.ref ea))).get? b = h2.get? b:=fun b hb'=>Heap.get?_update_ne _ _ _ _ hb'
 have z2:(h2.update e1 (Obj.mapFields fun x=>x.setIfInBounds 2 (.ref ea))).get? e1 = some { cls:=.type "StopIteration",data:=.fields #[.ref h1.objs.size,.none,.ref ea,.none,.bool false,.none] }:=Heap.get?_update_self _ k2 rfl
 refine wpAny_bind (wpAny_isInstance (T:="StopIteration") (b:=true) ⟨_,z2,rfl⟩ (by with_unfolding_all rfl) ?_)
 rw [if_pos rfl]
 refine wpAny_pure (q _ fun b o hb e=>?_)
 have e:=xb b o hb e
 rw [z1 b (k4 b o e)]
 exact k1 b o e
end
section
variable {prog:Program} {w:World} {A:Around} {E:Value->Shared->Prop} {s:Shared} {ea C tt:Addr} {od:Option Addr} {tb:Value}
theorem assign_Tuple_tupleH {env:Env} {elts:List Expr} {x1} {pos:Pos} {t:Addr} {items:Array Value} {Q:Unit->Shared->Prop} (hh:A.handled = some (.ref ea)) (he:s.heap.get? ea = some (excF C od tt tb)) (ht:IsTup s.heap t items)
  (hn:(assignEach elts env).length = items.size) (hstar:(assignEach elts env).findIdx? (·.1) = none)
  (h:∀ h',Heap.ExtBut s.heap.objs.size s.heap h'->wpAny (model prog w) A (assignInOrder ((assignEach elts env).map (·.2)) items.toList) Q E { s with heap:=h' }) :
  wpAny (model prog w) A (assign (.Tuple elts x1 pos) env (.ref t)) Q E s:=by
 rw [assign_Tuple]
 refine wpAny_bind (wpAny_standAt ?_)
 unfold unpack
 rw [hn,hstar]
 refine wpAny_bind (wpAny_holding ?_)
 have hlt:t ≠ s.heap.objs.size:=by obtain ⟨o,ho,_⟩:=ht; exact Nat.ne_of_lt (Heap.lt_size ho)
 have hle:ea ≠ s.heap.objs.size:=Nat.ne_of_lt (Heap.lt_size he)
 unfold unpackItems
 refine wpAny_bind ?_
 ·unfold notIterableAtAll
  refine wpAny_bind (wpAny_specialOf ht.typeIs slot_tuple_iter.lookup ?_)
  refine wpAny_pure ?_
  simp only [Bool.false_eq_true,if_false]
  refine wpAny_bind (wpAny_holding (iter_tuple ht ?_))
  refine wpAny_bind (wpAny_holding (draw_tuple hlt items.size 0 _ _ ⟨_,Heap.get?_push_size _ rfl,rfl,rfl⟩ (ht.push _) (by omega) fun h₁ hit₁ hs₁=>?_))
  have hall:List.take items.size (List.drop 0 items.toList) = items.toList:=by
   rw [List.drop_zero]; exact List.take_of_length_le (by simp)
  rw [hall]
  rw [if_neg (by simp)]
  have ht₁:IsTup h₁ t items:=(ht.push _).extBut hs₁.extBut hlt
  have he₁:h₁.get? ea = some (excF C od tt tb):=hs₁.extBut ea _ hle (Heap.get?_push_of_some _ he)
  refine wpAny_bind (wpAny_holding (next_tupleEndH (s:={ s with heap:=h₁ }) hh he₁ hit₁ ht₁ (by simp) fun h₂ he₂=>?_))
  simp only [Option.isSome_none,Bool.false_eq_true,if_false]
  refine wpAny_pure (h h₂ fun b o hb e=>he₂ b o hb (hs₁.extBut b o hb (Heap.get?_push_of_some _ e)))
end
def gTupH (K:Frag) (n:Nat) (ea:Addr) (t:TGs):TG:=fun v σ H Q=>∃ (a:Addr) (xs:List V) (C:Addr) (od:Option Addr) (tt:Addr),v = .ref a/\SqT K H a xs/\xs.length = n/\H ea = some (excC ea C od tt)/\t xs σ H Q
theorem pg_tupH {X:Cx} {ea:Addr} {es:List Expr} {k:Nat} {pos:Pos} {t:TGs} {n:Nat} {K:Frag} (hK:X.K = K) (hc:X.A.handled = some (.ref ea)) (h:PGs X es t)
  (hn:(assignEach es X.env).length = n:=by rfl) (hst:(assignEach es X.env).findIdx? (·.1) = none:=by rfl):PG X (.Tuple es k pos) (gTupH K n ea t):=by
 subst hK
 refine ⟨?_⟩
 intro pins s σ H v u Q I r hw
 obtain ⟨a,xs,C,od,tt,e1,hq,hl,hea,hw⟩:=hw
 subst e1
 cases r
 obtain ⟨its,rv,ht,hz⟩:=I.tuple hq
 obtain ⟨tb,he⟩:=(I.hok ea _ hea).1
 refine assign_Tuple_tupleH hc he ht (by simp [hn,<- hl,rv.length]) hst fun h' hx=>?_
 have I1:Inv X pins σ H { s with heap:=h' }:=I.kept (t':=s.toks) fun b o e=>hx b o (Nat.ne_of_lt (Heap.lt_size e)) e
 exact h pins _ σ H xs _ Q I1 (by simpa using rv) hw
theorem gown_tup2H {K:Frag} {n:Nat} {ea:Addr} (i j:Nat):GOwn (gTupH K n ea (gCons (gName i) (gCons (gName j) gNil))) [i,j]:=by
 rintro v σ H Q ⟨a,xs,C,od,tt,e1,e2,e3,e3',v1,r1,e4,v2,r2,e5,e6,q⟩
 refine ⟨a,xs,C,od,tt,e1,e2,e3,e3',v1,r1,e4,v2,r2,e5,e6,q,by rw [List.length_set,List.length_set],fun k hk=>?_⟩
 have h1:i ≠ k:=fun e=>hk (by simp [e])
 have h2:j ≠ k:=fun e=>hk (by simp [e])
 rw [List.getElem?_set_ne h2,List.getElem?_set_ne h1]
end L2
namespace L2
open PySem PySem.Spec PyProof.Rows
section
variable {X:Cx} {tg:Expr}
end
theorem call_len_setT {X:Cx}:CallR X (.builtin "len") (fun xs H Q=>∃ (a:Addr) (S:Str->Bool) (n:Nat),xs = [.ref a]/\H a = some (setO X.prog X.w a S n)/\Q (.int n) H):=by
 intro pins s σ H xs us Q I r h
 obtain ⟨a,S,n,rfl,e,q⟩:=h
 obtain ⟨u,rfl,ru⟩:=vals1 r
 cases ru
 obtain ⟨o,es,ep,t,ho,hx,hd,_,_,hb,hf,hn⟩:=(I.hok a _ e).1
 have h63:(es.size:Int) < 2 ^ 63:=by
  have:scanBound < 2 ^ 63:=by unfold scanBound; decide
  omega
 refine call_len_set ho hx hd hf h63 ?_
 exact ⟨.int es.size,H,I.tok _,⟨_,rfl⟩,by rw [hn]; exact q⟩
theorem zip_sel {α : Type} {R:Addr->α->Prop} {us:List Addr} {rows:List α} (h:Paired R us rows) (keep : α->Bool):∃ vs:List Addr,((us.zip rows).filter fun p=>keep p.2).map (fun p=>V.ref p.1) = vs.map V.ref/\Paired R vs (rows.filter keep):=by
 induction h with
 | nil=>exact ⟨[],rfl,.nil⟩
 | cons r t ih=>
  rename_i u y us ys
  obtain ⟨vs,e,p⟩:=ih
  rw [List.zip_cons_cons,List.filter_cons,List.filter_cons]
  cases hk:keep y with
  | true=>
   refine ⟨u :: vs,?_,?_⟩
   ·rw [if_pos rfl,List.map_cons,e]
    rfl
   ·rw [if_pos rfl]
    exact .cons r p
  | false=>exact ⟨vs,by rw [if_neg Bool.false_ne_true,e],by rw [if_neg Bool.false_ne_true]; exact p⟩
theorem zip_out {α : Type} {R:Addr->α->Prop} {us:List Addr} {rows:List α} (h:Paired R us rows) (keep : α->Bool) (out : α->V):((us.zip rows).filter fun p=>keep p.2).map (fun p=>out p.2) = (rows.filter keep).map out:=by
 induction h with
 | nil=>rfl
 | cons r t ih=>
  rename_i u y us ys
  rw [List.zip_cons_cons,List.filter_cons,List.filter_cons]
  cases hk:keep y with
  | true=>rw [if_pos rfl,if_pos rfl,List.map_cons,List.map_cons,ih]
  | false=>rw [if_neg Bool.false_ne_true,if_neg Bool.false_ne_true,ih]
theorem lc_zip {α : Type} {K:Frag} {a:Addr} {us:List Addr} {rows:List α} {caps:List (Option Nat)} {g:TG} {tt:TT} {te:TE} {σ : L2.St} {H1:Hp} {Q:VK} {D:Addr} (R:Hp->Addr->α->Prop) (keep : α->Bool) (out:Addr->α->V) (hD:H1 D = none) (ha:H1 a = some (.lst (us.map V.ref))) (hu:Paired (R H1) us rows) (hn:rows.length<=1000)
  (hs:∀ (i:Nat) (u:Addr) (y : α) (H:Hp) (N:VK) (S:Hp->Prop),us[i]? = some u->rows[i]? = some y->R H1 u y->Same H1 H->(∀ H',Same H H'->keep y = true->N (out u y) H')->(∀ H',Same H H'->keep y = false->S H')->g (.ref u) (capS caps σ) H fun σ2 H2=>tt σ2 H2 fun ok H3=>(ok = true->te σ2 H3 N)/\(ok = false->S H3))
  (hd:∀ H,Same H1 H->H D = some (.lst (((us.zip rows).filter fun p=>keep p.2).map fun p=>out p.1 p.2))->Q (.ref D) H):LCr (Itl K a) caps g tt te σ H1 Q D:=by
 have hl:us.length = rows.length:=hu.length
 have lz:(us.zip rows).length = rows.length:=by rw [List.length_zip,hl,Nat.min_self]
 refine lc_sel (K:=K) (xs:=us.map V.ref) (us.zip rows) (fun p=>keep p.2) (fun p=>out p.1 p.2) hD (SqL.of ha) (by rw [List.length_map,lz,hl]) (by rw [List.length_map,hl]; exact hn) (fun i x y H N S hx hy sH n1 s1=>?_) hd
 have hi:i < rows.length:=by rw [<- lz]; exact (List.getElem?_eq_some_iff.mp hy).1
 have e1:(us.zip rows)[i]? = some (us[i],rows[i]):=by
  rw [List.getElem?_eq_getElem (by omega),List.getElem_zip]
 rw [e1] at hy
 cases hy
 have hu1:us[i]? = some us[i]:=List.getElem?_eq_getElem (by omega)
 rw [List.getElem?_map,hu1] at hx
 cases hx
 obtain ⟨d,hd',hr⟩:=Paired.get hu hu1
 have e2:rows[i]? = some rows[i]:=List.getElem?_eq_getElem hi
 rw [e2] at hd'
 cases hd'
 exact hs i us[i] rows[i] H N S hu1 e2 hr sH n1 s1
theorem lc_tupl {K:Frag} {a:Addr} {xs:List V} {caps:List (Option Nat)} {g:TG} {tt:TT} {te:TE} {σ : St} {H1:Hp} {Q:VK} {D:Addr} (Pv:Nat->List V->Hp->Prop) (h0:Pv 0 [] (upd H1 D (.lst [])))
  (hl:∀ i ys H,Pv i ys H->SqT K H a xs)
  (hs:∀ i x ys H,i < xs.length->xs[i]? = some x->Pv i ys H->g x (capS caps σ) H fun σ2 H2=>tt σ2 H2 fun ok H3=>(ok = true->te σ2 H3 (lcN xs.length i D Pv ys))/\(ok = false->lcS xs.length i Pv ys H3))
  (hd:∀ ys H,Pv xs.length ys H->Q (.ref D) H):LCr (Itt K a) caps g tt te σ H1 Q D:=by
 refine ⟨fun i m ys H=>m = xs.length - i/\i<=xs.length/\Pv i ys H,⟨xs.length,by simp,Nat.zero_le _,h0⟩,?_⟩
 rintro i m ys H ⟨rfl,hi,p⟩
 have q:=hl i ys H p
 by_cases hlt:i < xs.length
 ·refine .inr ⟨⟨xs,xs[i],q,by simp [hlt]⟩,fun x H' y=>?_⟩
  obtain ⟨e,y⟩:=y
  subst e
  exact hs i x ys _ hlt (y xs q) p
 ·have e:i = xs.length:=by omega
  subst e
  exact .inl ⟨⟨xs,q,Nat.le_refl _⟩,hd ys H p⟩
theorem lc_saysT {K:Frag} {a:Addr} {xs:List V} {m:Nat} {caps:List (Option Nat)} {g:TG} {tt:TT} {te:TE} {σ : St} {H1:Hp} {Q:VK} {D:Addr} (ds:List Dt) (hD:H1 D = none) (ha:SqT K H1 a xs) (hx:xs.length = ds.length) (hn:xs.length<=1000)
  (hs:∀ (i:Nat) (x:V) (d:Dt) (H:Hp) (Qf:VK) (Qs:Hp->Prop),xs[i]? = some x->ds[i]? = some d->Same H1 H->(∀ v H',Same H H'->Says K (fun a=>H a = none) H' m v d->Qf v H')->
   g x (capS caps σ) H fun σ2 H2=>tt σ2 H2 fun ok H3=>(ok = true->te σ2 H3 Qf)/\(ok = false->Qs H3))
  (hd:∀ vs H,Same H1 H->H D = some (.lst vs)->Paired (Says K (fun a=>a ≠ D/\H1 a = none) H m) vs ds->Q (.ref D) H):LCr (Itt K a) caps g tt te σ H1 Q D:=by
 have sz : 1000<=sizeLine:=by decide
 refine lc_tupl (K:=K) (xs:=xs) (fun i ys H'=>Same H1 H'/\H' D = some (.lst ys)/\Paired (Says K (fun a=>a ≠ D/\H1 a = none) H' m) ys (ds.take i)) ⟨fun b u e=>by rw [upd_ne (ne_of_none e hD)]; exact e,upd_same,.nil⟩ (fun i ys H h=>h.1.sqT ha) ?_ ?_
 ·rintro i x ys H hi hx' ⟨sH,hDy,hp⟩
  have hid:i < ds.length:=by omega
  have ed:ds[i]? = some ds[i]:=List.getElem?_eq_getElem hid
  refine hs i x ds[i] H _ _ hx' ed sH fun v H' s' hv=>?_
  have ly:ys.length<=i:=by rw [hp.length,List.length_take]; omega
  refine lcN.mk hi (by omega) (s' _ _ hDy) (by omega) ⟨fun b u e=>?_,upd_same,?_⟩
  ·rw [upd_ne (ne_of_none e hD)]
   exact s' _ _ (sH _ _ e)
  ·rw [List.take_succ_eq_append_getElem hid]
   refine Paired.snoc (Paired.imp' (fun _ _ z=>says_grow (s' _ _ hDy) (fun b o=>⟨o,o.1⟩) (z.same s')) hp) (says_grow (s' _ _ hDy) (fun b o=>?_) hv)
   have nb:b ≠ D:=fun e=>by subst e; rw [o] at hDy; cases hDy
   exact ⟨⟨nb,sH.free o⟩,nb⟩
 ·rintro ys H ⟨sH,hDy,hp⟩
  rw [hx,List.take_length] at hp
  exact hd ys H sH hDy hp
end L2
namespace K61
open PySem L2 PyProof.Rows
def top (i:Nat):Stmt:=PySem.Challenge.pw_callbinds_k61_parts_made_or_refused.main.body.getD i (.Pass ⟨0,0,0,0⟩)
abbrev sPInit:Stmt:=inClass (top 47) 0
abbrev sFree:Stmt:=inClass (top 47) 1
abbrev sByPlace:Stmt:=inClass (top 47) 2
abbrev sByName:Stmt:=inClass (top 47) 3
abbrev sTakes:Stmt:=inClass (top 47) 4
abbrev sTold:Stmt:=inClass (top 47) 5
abbrev sSeat:Stmt:=inClass (top 48) 0
abbrev sBoth:Stmt:=inClass (top 49) 0
abbrev sTail:Stmt:=inClass (top 50) 0
abbrev sTag:Stmt:=inClass (top 51) 0
abbrev sBag:Stmt:=inClass (top 52) 0
abbrev sFInit:Stmt:=inClass (top 36) 0
abbrev sKeep:Stmt:=inClass (top 36) 1
abbrev sFPars:Stmt:=inClass (top 36) 2
abbrev sFBars:Stmt:=inClass (top 36) 3
abbrev sFPlaces:Stmt:=inClass (top 36) 4
abbrev sFTail:Stmt:=inClass (top 36) 5
abbrev sFBag:Stmt:=inClass (top 36) 6
abbrev sFNum:Stmt:=inClass (top 36) 7
abbrev sFTold:Stmt:=inClass (top 36) 8
abbrev sPtInit:Stmt:=inClass (top 55) 0
abbrev sXMis:Stmt:=inClass (top 9) 0
abbrev sIs:Stmt:=top 30
abbrev sPof:Stmt:=top 53
abbrev sRMany:Stmt:=top 38
abbrev sROrder:Stmt:=top 39
abbrev sRBars:Stmt:=top 40
abbrev sRTwice:Stmt:=top 41
abbrev sNumW:Stmt:=top 42
abbrev sLaid:Stmt:=top 1
abbrev sMisfits:Stmt:=top 17
abbrev sShape:Stmt:=top 18
abbrev sFirsts:Stmt:=top 19
abbrev sMOf:Stmt:=top 20
abbrev sOvers:Stmt:=top 21
abbrev sUnw:Stmt:=top 22
abbrev sLack:Stmt:=top 23
abbrev sOneE:Stmt:=top 24
abbrev sRefuse:Stmt:=top 26
abbrev sRFirst:Stmt:=top 56
abbrev sNth:Stmt:=top 62
abbrev sStir:Stmt:=top 63
abbrev sPool:Stmt:=top 64
abbrev sRow:Stmt:=top 65
abbrev sBars:Stmt:=top 66
abbrev sForm:Stmt:=top 67
abbrev sNumber:Stmt:=top 68
abbrev sItems:Stmt:=top 69
abbrev sLLaid:Stmt:=top 70
abbrev sTame:Stmt:=top 71
abbrev sTamed:Stmt:=top 72
abbrev sFW:Stmt:=top 73
abbrev sLMade:Stmt:=top 74
abbrev sLaw:Stmt:=top 75
def low (c:Nat):Bool:=decide (97<=c) && decide (c<=122)
def nameB (z:Str):Bool:=decide (1<=z.length) && decide (z.length<=8) && z.cps.toList.all low
def nmV:V->Bool
 | .str z=>nameB z
 | _=>false
def OkS (z:Str):Prop:=z.length<=1000/\∀ c ∈ z.cps.toList,c < 128
def OkV (K:Frag) (H:Hp) (x:V):Prop:=(∃ z,x = .str z/\OkS z)\/(nmV x = false/\∃ t,TyOf K H x t/\kitOne K t (.type "str") = some false)
theorem nameB_iff {z:Str}:nameB z = true ↔ 1<=z.length/\z.length<=8/\∀ c ∈ z.cps.toList,97<=c/\c<=122:=by
 unfold nameB low
 simp only [Bool.and_eq_true,decide_eq_true_eq,List.all_eq_true]
 constructor
 ·rintro ⟨⟨a,b⟩,c⟩; exact ⟨a,b,c⟩
 ·rintro ⟨a,b,c⟩; exact ⟨⟨a,b⟩,c⟩
theorem nameB_long {z:Str} (h:z.length = 0\/9<=z.length):nameB z = false:=by
 cases e:nameB z with
 | false=>rfl
 | true=>
  have:=nameB_iff.mp e
  omega
theorem nameB_ok {z:Str} (h:nameB z = true):OkS z:=by
 obtain ⟨_,h2,h3⟩:=nameB_iff.mp h
 exact ⟨by omega,fun c hc=>by have:=h3 c hc; omega⟩
def letters:Str:="abcdefghijklmnopqrstuvwxyz"
theorem letters_in:∀ c:Nat,c < 128->(!(Builtin.Str.occurrences letters ⟨#[c]⟩ 0 letters.length 1).isEmpty) = low c:=by decide +kernel
theorem same_new {H:Hp} {p:Addr} (h:H p = none) (o:HO):Same H (upd H p o):=fun b u q=>by rw [upd_ne (ne_of_none q h)]; exact q
theorem tyOf_same {K:Frag} {H H':Hp} {x:V} {t:Value} (s:Same H H') (h:TyOf K H x t):TyOf K H' x t:=by
 cases h with
 | non=>exact .non
 | bl b=>exact .bl b
 | int i=>exact .int i
 | str z=>exact .str z
 | flt z=>exact .flt z
 | lst e=>exact .lst (s _ _ e)
 | frz e=>exact .frz (s _ _ e)
 | tup e=>exact .tup (s _ _ e)
 | dK e=>exact .dK (s _ _ e)
 | dT e=>exact .dT (s _ _ e)
 | ins e a b c d f=>exact .ins (s _ _ e) a b c d f
theorem OkV.same {K:Frag} {H H':Hp} {x:V} (s:Same H H') (h:OkV K H x):OkV K H' x:=by
 rcases h with h | ⟨h,t,ty,e⟩
 ·exact .inl h
 ·exact .inr ⟨h,t,tyOf_same s ty,e⟩
theorem nd1:([Str.ofString "sign"]:List Str).Nodup:=by decide +kernel
def spIs (K:Frag):Sp:=fun vs H Q _=>∃ x,vs = [x]/\OkV K H x/\∀ H',Same H H'->Q (.bl (nmV x)) H'
structure Txt1 (K:Frag) (mg:Str->Option Value):Prop where
 isi:mg "isinstance" = none
 str:mg "str" = none
 bool:mg "bool" = none
 len:mg "len" = none
 all:mg "all" = none
 range:mg "range" = none
 letters:∃ t,mg "LETTERS" = some (.str letters t)
 longest:∃ t,mg "LONGEST" = some (.int 8 t)
 kNon:kitOne K (.type "NoneType") (.type "str") = some false
 kInt:kitOne K (.type "int") (.type "str") = some false
 kBl:kitOne K (.type "bool") (.type "str") = some false
 kLst:kitOne K (.type "list") (.type "str") = some false
 kTup:kitOne K (.type "tuple") (.type "str") = some false
 kDct:kitOne K (.type "dict") (.type "str") = some false
 kStr:kitOne K (.type "str") (.type "str") = some true
 bBl:kitOne K (.type "bool") (.type "bool") = some true
section
variable {P:Program} {w:World} {K:Frag} {mg:Str->Option Value} {base:Heap} {f:Addr} {fd:FuncData}
theorem scIs:FnScope ["thing"] ["thing"] (defScope sIs):=⟨rfl,rfl,rfl,by decide +kernel,rfl,by decide +kernel,by decide +kernel⟩
theorem ok_is (F:Fun K "is_name" "is_name" sIs f fd) (T:Txt1 K mg):FnOk P w K mg base CX0 1 f fd ["thing"] (spIs K):=by
 refine F.ok scIs (fun vs H Q E h=>?_) (fun cdv A outer s H vs Q E hr h=>?_)
 ·obtain ⟨x,rfl,_⟩:=h
  rfl
 obtain ⟨x,rfl,hx,q⟩:=h
 obtain ⟨tL,hL⟩:=T.letters
 obtain ⟨tN,hN⟩:=T.longest
 refine ⟨_,pss_cons (ps_if (PW.pt (pw_or (pt_not (pt_val (cB call_isinst T.isi boot_isinstance (ac (pv 0) (ac (pe_bltn (v:=.ty "str") rfl T.str PyProof.Rows.boot_str rfl) pa_nil)))))
   (pw_or1 (pt_not (pt_chain op_le op_le pe_int (cB call_len_str T.len PySem.boot_len (ac (pv 0) pa_nil)) (pe_glob (v:=.int 8) rfl hN ⟨_,rfl⟩))))))
   (pss_one (ps_ret pe_bl)) pss_nil)
  (pss_one (ps_ret (cB (call_allB rfl) T.all boot_all (ac (pe_lc [] ["sign"] [none] rfl ⟨rfl,rfl,rfl,rfl⟩ (pi_str (pv 0)) (gown_name 0) rfl rfl rfl
   (fun pins fp s H C=>⟨pg_name (i:=0) nd1 rfl (Or.inl rfl) (.inr rfl),pif_nil,pe_cmpR op_in_str (pv 0) (pe_glob (v:=.str letters) rfl hL ⟨_,rfl⟩) (by with_unfolding_all rfl)⟩)) pa_nil)))),?_⟩
 rcases hx with ⟨z,rfl,hz1,hz2⟩ | ⟨hn,t,ty,e⟩
 ·refine ⟨_,rfl,_,_,_,_,rfl,.str z,T.kStr,_,rfl,?_⟩
  refine iteF ?_
  refine ⟨_,rfl,z,rfl,Nat.le_trans hz1 (by decide),_,_,rfl,rfl,_,rfl,?_⟩
  have no:nameB z = false->Q (.bl false) H:=fun e=>by
   have:=q H (Same.refl H)
   have e':nmV (.str z) = false:=e
   rw [e'] at this
   exact this
  refine ite2 (fun c=>?_) (fun c=>?_)
  ·have c':(1:Int)<=(z.length:Int):=of_decide_eq_true c
   refine ⟨_,_,rfl,rfl,_,rfl,?_⟩
   by_cases h8:(z.length:Int)<=8
   ·rw [decide_eq_true h8]
    refine iteF ?_
    refine ⟨_,rfl,z,rfl,fun D hD=>?_⟩
    refine ⟨fun i m ys H'=>i<=z.cps.size/\m = z.cps.size - i/\ys = (z.cps.toList.take i).map (fun c=>V.bl (low c))/\H' = upd H D (.lst ys),⟨_,Nat.zero_le _,rfl,rfl,rfl⟩,?_⟩
    rintro i m ys H' ⟨hi,rfl,rfl,rfl⟩
    by_cases he:i = z.cps.size
    ·subst he
     refine .inl ⟨Nat.le_refl _,?_⟩
     refine ⟨D,z.cps.toList.map low,rfl,SqL.of ?_,?_⟩
     ·rw [upd_same,List.take_of_length_le (by simp),List.map_map]
      rfl
     ·have e:(z.cps.toList.map low).all id = nmV (.str z):=by
       show _ = nameB z
       unfold nameB
       rw [decide_eq_true (show 1<=z.length by omega),decide_eq_true (show z.length<=8 by omega),List.all_map]
       rfl
      rw [e]
      exact q _ (same_new hD _)
    ·refine .inr ⟨by show i < z.cps.size; omega,?_⟩
     rintro x H' ⟨rfl,c,hc,rfl⟩
     refine ⟨fun _=>?_,fun e=>Bool.noConfusion e⟩
     refine ⟨_,rfl,_,_,rfl,rfl,upd_same,?_,z.cps.size - (i + 1),by omega,by omega,rfl,?_,?_⟩
     ·rw [List.length_map,List.length_take]
      have:z.cps.size<=1000:=hz1
      exact small1000 (by omega)
     ·have hc':z.cps.toList[i]? = some c:=by simpa using hc
      have hlow:=letters_in c (hz2 c (List.mem_of_getElem? hc'))
      rw [hlow,List.take_add_one,hc',List.map_append]
      rfl
     ·rw [upd_upd]
   ·rw [decide_eq_false h8]
    refine iteT ?_
    exact no (nameB_long (.inr (by omega)))
  ·have c':¬ (1:Int)<=(z.length:Int):=of_decide_eq_false (Bool.eq_false_iff.mpr c)
   refine ⟨_,rfl,?_⟩
   exact iteT (no (nameB_long (.inl (by omega))))
 ·refine ⟨_,rfl,_,_,_,_,rfl,ty,e,_,rfl,?_⟩
  refine iteT ?_
  refine iteT ?_
  have:=q H (Same.refl H)
  rw [hn] at this
  exact this
end
abbrev EB:List Value:=[.type "ValueError",.type "Exception",.type "BaseException",.type "object"]
theorem dT {A B:Prop} {c:Prop} [Decidable c] (h:c) (a:A):if decide c = true then A else B:=by rw [decide_eq_true h]; exact iteT a
theorem dF {A B:Prop} {c:Prop} [Decidable c] (h:¬ c) (b:B):if decide c = true then A else B:=by rw [decide_eq_false h]; exact iteF b
def kw:Nat->Str
 | 0=>"seat" | 1=>"both" | 2=>"tail" | 3=>"tag" | _=>"bag"
def rowV (k:Nat) (x:V) (b:Bool):List V:=match k with
 | 0=>[.str "seat",x,.bl b] | 1=>[.str "both",x,.bl b] | 2=>[.str "tail",x] | 3=>[.str "tag",x,.bl b] | _=>[.str "bag",x]
def fr (k:Nat) (b:Bool):Bool:=match k with
 | 0=>b | 1=>b | 2=>true | 3=>b | _=>true
theorem lt5 {k:Nat} (h:k < 5):k = 0\/k = 1\/k = 2\/k = 3\/k = 4:=by omega
def pf (wd:Str) (x:V) (b:Bool):List (Str × V):=putF "may_lack" (.bl b) (putF "name" x (putF "word" (.str wd) []))
theorem pf_word {wd:Str} {x:V} {b:Bool}:(pf wd x b).lookup ("word" : Str) = some (.str wd):=by
 unfold pf
 rw [lookup_putF,if_neg (by decide +kernel),lookup_putF,if_neg (by decide +kernel),lookup_putF,if_pos rfl]
theorem pf_name {wd:Str} {x:V} {b:Bool}:(pf wd x b).lookup ("name" : Str) = some x:=by
 unfold pf
 rw [lookup_putF,if_neg (by decide +kernel),lookup_putF,if_pos rfl]
theorem pf_lack {wd:Str} {x:V} {b:Bool}:(pf wd x b).lookup ("may_lack" : Str) = some (.bl b):=by
 unfold pf
 rw [lookup_putF,if_pos rfl]
theorem pf_no {wd:Str} {x:V} {b:Bool} {m:Str} (h1:¬ m = "may_lack") (h2:¬ m = "name") (h3:¬ m = "word"):(pf wd x b).lookup m = none:=by
 unfold pf
 rw [lookup_putF,if_neg h1,lookup_putF,if_neg h2,lookup_putF,if_neg h3]
 rfl
structure MA where
 (fF fP fB fT fO:Addr)
structure PC (K:Frag) (m:MA) (C:Addr):Prop where
 cl:Cls K C
 nW:NoAttr K C "word"
 nN:NoAttr K C "name"
 nM:NoAttr K C "may_lack"
 mF:Meth K C "free" m.fF
 mP:Meth K C "by_place" m.fP
 mB:Meth K C "by_name" m.fB
 mT:Meth K C "takes_one" m.fT
 mO:Meth K C "told" m.fO
def spP (K:Frag) (m:MA) (N:Addr):Sp:=fun vs H Q E=>∃ (p dx C:Addr) (wd:Str) (x:V) (b:Bool),vs = [.ref p,.str wd,x,.bl b]/\H p = some (.ins C dx [])/\PC K m C/\OkV K H x/\(nmV x = true->∀ H1,Same H H1->Q .non (upd H1 p (.ins C dx (pf wd x b))))/\(nmV x = false->∀ H1,Same H H1->E (.ref N) none H1)
def spS (K:Frag) (C N:Addr) (wd:Str):Sp:=fun vs H Q E=>∃ (p dx:Addr) (x:V) (b:Bool),vs = [.ref p,x,.bl b]/\H p = some (.ins C dx [])/\OkV K H x/\(nmV x = true->∀ H1,Same H H1->Q .non (upd H1 p (.ins C dx (pf wd x b))))/\(nmV x = false->∀ H1,Same H H1->E (.ref N) none H1)
def spT (K:Frag) (C N:Addr) (wd:Str):Sp:=fun vs H Q E=>∃ (p dx:Addr) (x:V),vs = [.ref p,x]/\H p = some (.ins C dx [])/\OkV K H x/\(nmV x = true->∀ H1,Same H H1->Q .non (upd H1 p (.ins C dx (pf wd x true))))/\(nmV x = false->∀ H1,Same H H1->E (.ref N) none H1)
def bpL:List V:=[.str "seat",.str "both"]
def bnL:List V:=[.str "both",.str "tag"]
def otL:List V:=[.str "seat",.str "both",.str "tag"]
def spFree (K:Frag) (m:MA):Sp:=fun vs H Q _=>∃ (p dx C:Addr) (wd:Str) (x:V) (b:Bool),vs = [.ref p]/\PC K m C/\H p = some (.ins C dx (pf wd x b))/\Q (.bl b) H
def spIn (K:Frag) (m:MA) (l:List V):Sp:=fun vs H Q _=>∃ (p dx C:Addr) (wd:Str) (x:V) (b:Bool),vs = [.ref p]/\PC K m C/\H p = some (.ins C dx (pf wd x b))/\Q (.bl (inV (.str wd) l)) H
def spTold (K:Frag) (m:MA):Sp:=fun vs H Q _=>∃ (p dx C:Addr) (k:Nat) (x:V) (b:Bool),vs = [.ref p]/\k < 5/\PC K m C/\H p = some (.ins C dx (pf (kw k) x (fr k b)))/\∀ (r:Addr) (H':Hp),Same H H'->H' r = some (.tup (rowV k x b))->Q (.ref r) H'
structure Wds (K:Frag) (mg:Str->Option Value) (tP tB tO:Addr):Prop where
 mP:mg "BY_PLACE" = some (.ref tP)
 mB:mg "BY_NAME" = some (.ref tB)
 mO:mg "OF_ONE_THING" = some (.ref tO)
 hP:∀ H,SqT K H tP bpL
 hB:∀ H,SqT K H tB bnL
 hO:∀ H,SqT K H tO otL
section
variable {P:Program} {w:World} {K:Frag} {mg:Str->Option Value} {base:Heap} {f C N tP tB tO:Addr} {fd:FuncData} {m:MA}
theorem scPInit:FnScope ["self","word","name","may_lack"] ["self","word","name","may_lack"] (defScope sPInit):=⟨rfl,rfl,rfl,by decide +kernel,rfl,by decide +kernel,by decide +kernel⟩
theorem ok_pinit {g:Addr} {gd:FuncData} (F:Fun K "__init__" "Parameter.__init__" sPInit f fd) (own:OwnCls "NoName" N EB "ValueError.__new__" mg base) (cI:Callee P w K mg base 1 "is_name" g gd ["thing"] (spIs K)) :
  FnOk P w K mg base (CXe P w) 2 f fd ["self","word","name","may_lack"] (spP K m N):=by
 refine F.okE scPInit (fun vs H Q E h=>?_) (fun cdv A outer s H vs Q E hr h=>?_)
 ·obtain ⟨p,dx,C,wd,x,b,rfl,_⟩:=h
  rfl
 obtain ⟨p,dx,C,wd,x,b,rfl,hp,c,hx,q1,q2⟩:=h
 refine ⟨_,pss_cons (ps_if (pt_not (pt_val (cF cI hr (ac (pv 2) pa_nil)))) (pss_one (ps_raise raises_cx own PySem.F.excBase_ValueError (by decide) PySem.F.excBase_ValueError rfl (ac pe_str pa_nil))) pss_nil)
  (pss_cons (ps_fld (pv 0) (pv 1) rfl) (pss_cons (ps_fld (pv 0) (pv 2) rfl) (pss_one (ps_fld (pv 0) (pv 3) rfl)))),?_⟩
 refine ⟨_,rfl,x,rfl,hx,fun H1 s1=>⟨_,rfl,?_⟩⟩
 cases e:nmV x with
 | false=>
  refine iteT ?_
  exact ⟨by show 1<=sizeLine; decide,q2 e _ s1⟩
 | true=>
  refine iteF ?_
  refine ⟨_,rfl,_,rfl,p,C,dx,[],rfl,s1 _ _ hp,c.cl,c.nW,(by show 0 < 1000; decide),?_⟩
  refine ⟨_,rfl,_,rfl,p,C,dx,_,rfl,upd_same,c.cl,c.nN,(by show 1 < 1000; decide),?_⟩
  refine ⟨_,rfl,_,rfl,p,C,dx,_,rfl,upd_same,c.cl,c.nM,(by show 2 < 1000; decide),?_⟩
  rw [upd_upd,upd_upd]
  exact q1 e _ s1
theorem scSeat:FnScope ["self","name","free"] ["self","name","free"] (defScope sSeat):=⟨rfl,rfl,rfl,by decide +kernel,rfl,by decide +kernel,by decide +kernel⟩
theorem ok_seat {g D:Addr} {gd:FuncData} {ds:List Value} (F:FunD K "__init__" "Seat.__init__" sSeat f fd ds) (c:PC K m C) (B:ClsFn K D "__init__" g) (mD:mg "Parameter" = some (.ref D)) (G:FnOk P w K mg base (CXe P w) 2 g gd ["self","word","name","may_lack"] (spP K m N)) (bg:Binds K gd ["self","word","name","may_lack"] []) :
  FnOk P w K mg base (CXe P w) 3 f fd ["self","name","free"] (spS K C N "seat"):=by
 refine F.okE scSeat (fun vs H Q E h=>?_) (fun cdv A outer s H vs Q E hr h=>?_)
 ·obtain ⟨p,dx,x,b,rfl,_⟩:=h
  rfl
 obtain ⟨p,dx,x,b,rfl,hp,hx,q1,q2⟩:=h
 refine ⟨_,pss_one (ps_expr (pe_cm B mD G hr bg (passE fun _ _ _ z=>z) (ac (pv 0) (ac pe_str (ac (pv 1) (ac (pv 2) pa_nil)))))),?_⟩
 exact ⟨_,rfl,_,rfl,_,rfl,p,dx,C,_,x,b,rfl,hp,c,hx,q1,q2⟩
theorem scBoth:FnScope ["self","name","free"] ["self","name","free"] (defScope sBoth):=⟨rfl,rfl,rfl,by decide +kernel,rfl,by decide +kernel,by decide +kernel⟩
theorem ok_both {g D:Addr} {gd:FuncData} {ds:List Value} (F:FunD K "__init__" "Both.__init__" sBoth f fd ds) (c:PC K m C) (B:ClsFn K D "__init__" g) (mD:mg "Parameter" = some (.ref D)) (G:FnOk P w K mg base (CXe P w) 2 g gd ["self","word","name","may_lack"] (spP K m N)) (bg:Binds K gd ["self","word","name","may_lack"] []) :
  FnOk P w K mg base (CXe P w) 3 f fd ["self","name","free"] (spS K C N "both"):=by
 refine F.okE scBoth (fun vs H Q E h=>?_) (fun cdv A outer s H vs Q E hr h=>?_)
 ·obtain ⟨p,dx,x,b,rfl,_⟩:=h
  rfl
 obtain ⟨p,dx,x,b,rfl,hp,hx,q1,q2⟩:=h
 refine ⟨_,pss_one (ps_expr (pe_cm B mD G hr bg (passE fun _ _ _ z=>z) (ac (pv 0) (ac pe_str (ac (pv 1) (ac (pv 2) pa_nil)))))),?_⟩
 exact ⟨_,rfl,_,rfl,_,rfl,p,dx,C,_,x,b,rfl,hp,c,hx,q1,q2⟩
theorem scTag:FnScope ["self","name","free"] ["self","name","free"] (defScope sTag):=⟨rfl,rfl,rfl,by decide +kernel,rfl,by decide +kernel,by decide +kernel⟩
theorem ok_tag {g D:Addr} {gd:FuncData} {ds:List Value} (F:FunD K "__init__" "Tag.__init__" sTag f fd ds) (c:PC K m C) (B:ClsFn K D "__init__" g) (mD:mg "Parameter" = some (.ref D)) (G:FnOk P w K mg base (CXe P w) 2 g gd ["self","word","name","may_lack"] (spP K m N)) (bg:Binds K gd ["self","word","name","may_lack"] []) :
  FnOk P w K mg base (CXe P w) 3 f fd ["self","name","free"] (spS K C N "tag"):=by
 refine F.okE scTag (fun vs H Q E h=>?_) (fun cdv A outer s H vs Q E hr h=>?_)
 ·obtain ⟨p,dx,x,b,rfl,_⟩:=h
  rfl
 obtain ⟨p,dx,x,b,rfl,hp,hx,q1,q2⟩:=h
 refine ⟨_,pss_one (ps_expr (pe_cm B mD G hr bg (passE fun _ _ _ z=>z) (ac (pv 0) (ac pe_str (ac (pv 1) (ac (pv 2) pa_nil)))))),?_⟩
 exact ⟨_,rfl,_,rfl,_,rfl,p,dx,C,_,x,b,rfl,hp,c,hx,q1,q2⟩
theorem scTail:FnScope ["self","name"] ["self","name"] (defScope sTail):=⟨rfl,rfl,rfl,by decide +kernel,rfl,by decide +kernel,by decide +kernel⟩
theorem ok_tail {g D:Addr} {gd:FuncData} (F:Fun K "__init__" "Tail.__init__" sTail f fd) (c:PC K m C) (B:ClsFn K D "__init__" g) (mD:mg "Parameter" = some (.ref D)) (G:FnOk P w K mg base (CXe P w) 2 g gd ["self","word","name","may_lack"] (spP K m N)) (bg:Binds K gd ["self","word","name","may_lack"] []) :
  FnOk P w K mg base (CXe P w) 3 f fd ["self","name"] (spT K C N "tail"):=by
 refine F.okE scTail (fun vs H Q E h=>?_) (fun cdv A outer s H vs Q E hr h=>?_)
 ·obtain ⟨p,dx,x,rfl,_⟩:=h
  rfl
 obtain ⟨p,dx,x,rfl,hp,hx,q1,q2⟩:=h
 refine ⟨_,pss_one (ps_expr (pe_cm B mD G hr bg (passE fun _ _ _ z=>z) (ac (pv 0) (ac pe_str (ac (pv 1) (ac pe_bl pa_nil)))))),?_⟩
 exact ⟨_,rfl,_,rfl,p,dx,C,_,x,true,rfl,hp,c,hx,q1,q2⟩
theorem scBag:FnScope ["self","name"] ["self","name"] (defScope sBag):=⟨rfl,rfl,rfl,by decide +kernel,rfl,by decide +kernel,by decide +kernel⟩
theorem ok_bag {g D:Addr} {gd:FuncData} (F:Fun K "__init__" "Bag.__init__" sBag f fd) (c:PC K m C) (B:ClsFn K D "__init__" g) (mD:mg "Parameter" = some (.ref D)) (G:FnOk P w K mg base (CXe P w) 2 g gd ["self","word","name","may_lack"] (spP K m N)) (bg:Binds K gd ["self","word","name","may_lack"] []) :
  FnOk P w K mg base (CXe P w) 3 f fd ["self","name"] (spT K C N "bag"):=by
 refine F.okE scBag (fun vs H Q E h=>?_) (fun cdv A outer s H vs Q E hr h=>?_)
 ·obtain ⟨p,dx,x,rfl,_⟩:=h
  rfl
 obtain ⟨p,dx,x,rfl,hp,hx,q1,q2⟩:=h
 refine ⟨_,pss_one (ps_expr (pe_cm B mD G hr bg (passE fun _ _ _ z=>z) (ac (pv 0) (ac pe_str (ac (pv 1) (ac pe_bl pa_nil)))))),?_⟩
 exact ⟨_,rfl,_,rfl,p,dx,C,_,x,true,rfl,hp,c,hx,q1,q2⟩
theorem scFree:FnScope ["self"] ["self"] (defScope sFree):=⟨rfl,rfl,rfl,by decide +kernel,rfl,by decide +kernel,by decide +kernel⟩
theorem ok_free (F:Fun K "free" "Parameter.free" sFree f fd):FnOk P w K mg base CX0 1 f fd ["self"] (spFree K m):=by
 refine F.ok scFree (fun vs H Q E h=>?_) (fun cdv A outer s H vs Q E hr h=>?_)
 ·obtain ⟨p,dx,C,wd,x,b,rfl,_⟩:=h
  rfl
 obtain ⟨p,dx,C,wd,x,b,rfl,c,hp,q⟩:=h
 refine ⟨_,pss_one (ps_ret (pe_fld (pv 0) rfl)),?_⟩
 exact ⟨_,rfl,p,C,dx,_,_,rfl,hp,c.cl,c.nM,pf_lack,q⟩
theorem scByPlace:FnScope ["self"] ["self"] (defScope sByPlace):=⟨rfl,rfl,rfl,by decide +kernel,rfl,by decide +kernel,by decide +kernel⟩
theorem ok_by_place (F:Fun K "by_place" "Parameter.by_place" sByPlace f fd) (Wd:Wds K mg tP tB tO):FnOk P w K mg base CX0 1 f fd ["self"] (spIn K m bpL):=by
 refine F.ok scByPlace (fun vs H Q E h=>?_) (fun cdv A outer s H vs Q E hr h=>?_)
 ·obtain ⟨p,dx,C,wd,x,b,rfl,_⟩:=h
  rfl
 obtain ⟨p,dx,C,wd,x,b,rfl,c,hp,q⟩:=h
 refine ⟨_,pss_one (ps_ret (pe_cmpR op_in_seq (pe_fld (pv 0) rfl) (pe_glob (v:=.ref tP) rfl Wd.mP rfl) (by with_unfolding_all rfl))),?_⟩
 exact ⟨_,rfl,p,C,dx,_,_,rfl,hp,c.cl,c.nW,pf_word,tP,bpL,rfl,.inr (Wd.hP H),rfl,(by decide),q⟩
theorem scByName:FnScope ["self"] ["self"] (defScope sByName):=⟨rfl,rfl,rfl,by decide +kernel,rfl,by decide +kernel,by decide +kernel⟩
theorem ok_by_name (F:Fun K "by_name" "Parameter.by_name" sByName f fd) (Wd:Wds K mg tP tB tO):FnOk P w K mg base CX0 1 f fd ["self"] (spIn K m bnL):=by
 refine F.ok scByName (fun vs H Q E h=>?_) (fun cdv A outer s H vs Q E hr h=>?_)
 ·obtain ⟨p,dx,C,wd,x,b,rfl,_⟩:=h
  rfl
 obtain ⟨p,dx,C,wd,x,b,rfl,c,hp,q⟩:=h
 refine ⟨_,pss_one (ps_ret (pe_cmpR op_in_seq (pe_fld (pv 0) rfl) (pe_glob (v:=.ref tB) rfl Wd.mB rfl) (by with_unfolding_all rfl))),?_⟩
 exact ⟨_,rfl,p,C,dx,_,_,rfl,hp,c.cl,c.nW,pf_word,tB,bnL,rfl,.inr (Wd.hB H),rfl,(by decide),q⟩
theorem scTakes:FnScope ["self"] ["self"] (defScope sTakes):=⟨rfl,rfl,rfl,by decide +kernel,rfl,by decide +kernel,by decide +kernel⟩
theorem ok_takes_one (F:Fun K "takes_one" "Parameter.takes_one" sTakes f fd) (Wd:Wds K mg tP tB tO):FnOk P w K mg base CX0 1 f fd ["self"] (spIn K m otL):=by
 refine F.ok scTakes (fun vs H Q E h=>?_) (fun cdv A outer s H vs Q E hr h=>?_)
 ·obtain ⟨p,dx,C,wd,x,b,rfl,_⟩:=h
  rfl
 obtain ⟨p,dx,C,wd,x,b,rfl,c,hp,q⟩:=h
 refine ⟨_,pss_one (ps_ret (pe_cmpR op_in_seq (pe_fld (pv 0) rfl) (pe_glob (v:=.ref tO) rfl Wd.mO rfl) (by with_unfolding_all rfl))),?_⟩
 exact ⟨_,rfl,p,C,dx,_,_,rfl,hp,c.cl,c.nW,pf_word,tO,otL,rfl,.inr (Wd.hO H),rfl,(by decide),q⟩
theorem scTold:FnScope ["self"] ["self"] (defScope sTold):=⟨rfl,rfl,rfl,by decide +kernel,rfl,by decide +kernel,by decide +kernel⟩
theorem ok_told {gd:FuncData} (F:Fun K "told" "Parameter.told" sTold f fd) (G:FnOk P w K mg base CX0 1 m.fT gd ["self"] (spIn K m otL)) (bg:Binds K gd ["self"] []):FnOk P w K mg base CX0 2 f fd ["self"] (spTold K m):=by
 refine F.ok scTold (fun vs H Q E h=>?_) (fun cdv A outer s H vs Q E hr h=>?_)
 ·obtain ⟨p,dx,C,k,x,b,rfl,_⟩:=h
  rfl
 obtain ⟨p,dx,C,k,x,b,rfl,hk,c,hp,q⟩:=h
 have nt:(pf (kw k) x (fr k b)).lookup ("takes_one" : Str) = none:=pf_no (by decide +kernel) (by decide +kernel) (by decide +kernel)
 refine ⟨_,pss_cons (ps_if (pt_val (pe_meth0 (pv 0) c.cl c.mT G hr bg .nil pass0)) (pss_one (ps_ret (pe_tup (ac (pe_fld (pv 0) rfl) (ac (pe_fld (pv 0) rfl) (ac (pe_fld (pv 0) rfl) pa_nil)))))) pss_nil)
  (pss_one (ps_ret (pe_tup (ac (pe_fld (pv 0) rfl) (ac (pe_fld (pv 0) rfl) pa_nil))))),?_⟩
 refine ⟨_,rfl,p,dx,_,rfl,hp,nt,p,dx,C,kw k,x,fr k b,rfl,c,hp,_,rfl,?_⟩
 have fW:∃ b',pf (kw k) x (fr k b) = pf (kw k) x b':=⟨_,rfl⟩
 rcases lt5 hk with rfl | rfl | rfl | rfl | rfl
 ·refine iteT ?_
  exact ⟨_,rfl,p,C,dx,_,_,rfl,hp,c.cl,c.nW,pf_word,_,rfl,p,C,dx,_,_,rfl,hp,c.cl,c.nN,pf_name,_,rfl,p,C,dx,_,_,rfl,hp,c.cl,c.nM,pf_lack,zz3,fun r hr=>q r _ (same_new hr _) upd_same⟩
 ·refine iteT ?_
  exact ⟨_,rfl,p,C,dx,_,_,rfl,hp,c.cl,c.nW,pf_word,_,rfl,p,C,dx,_,_,rfl,hp,c.cl,c.nN,pf_name,_,rfl,p,C,dx,_,_,rfl,hp,c.cl,c.nM,pf_lack,zz3,fun r hr=>q r _ (same_new hr _) upd_same⟩
 ·refine iteF ?_
  exact ⟨_,rfl,p,C,dx,_,_,rfl,hp,c.cl,c.nW,pf_word,_,rfl,p,C,dx,_,_,rfl,hp,c.cl,c.nN,pf_name,zz2,fun r hr=>q r _ (same_new hr _) upd_same⟩
 ·refine iteT ?_
  exact ⟨_,rfl,p,C,dx,_,_,rfl,hp,c.cl,c.nW,pf_word,_,rfl,p,C,dx,_,_,rfl,hp,c.cl,c.nN,pf_name,_,rfl,p,C,dx,_,_,rfl,hp,c.cl,c.nM,pf_lack,zz3,fun r hr=>q r _ (same_new hr _) upd_same⟩
 ·refine iteF ?_
  exact ⟨_,rfl,p,C,dx,_,_,rfl,hp,c.cl,c.nW,pf_word,_,rfl,p,C,dx,_,_,rfl,hp,c.cl,c.nN,pf_name,zz2,fun r hr=>q r _ (same_new hr _) upd_same⟩
end
structure C5 where
 (c0 c1 c2 c3 c4:Addr)
def C5.at (c:C5):Nat->Addr
 | 0=>c.c0 | 1=>c.c1 | 2=>c.c2 | 3=>c.c3 | _=>c.c4
def g21 {α : Type}:List α->List α->List α
 | [u,v],[w]=>[u,v,w]
 | _,_=>[]
theorem g21_rel {vs:List V} {us:List Value} {zs:List V} {ws:List Value} (r:Vals vs us) (q:Vals zs ws):Vals (g21 vs zs) (g21 us ws):=by
 cases r with
 | nil=>exact .nil
 | cons a r=>cases r with
  | nil=>exact .nil
  | cons a2 r=>cases r with
   | cons _ _=>exact .nil
   | nil=>cases q with
    | nil=>exact .nil
    | cons b q=>cases q with
     | nil=>exact .cons a (.cons a2 (.cons b .nil))
     | cons _ _=>exact .nil
structure Ctors (P:Program) (w:World) (K:Frag) (mg:Str->Option Value) (base:Heap) (c:C5) (N:Addr) (i0 i1 i2 i3 i4:Addr) (d0 d1 d2 d3 d4:FuncData):Prop where
 k0:Ctor P w K mg base (CXe P w) 3 "Seat" c.c0 i0 d0 ["self","name","free"] [] (spS K c.c0 N "seat")
 e0:Ctor P w K mg base (CXe P w) 3 "Seat" c.c0 i0 d0 ["self","name","free"] [.bool false] (spS K c.c0 N "seat")
 b0:KBinds K d0 ["self","name","free"] ["free"] g21 g21
 k1:Ctor P w K mg base (CXe P w) 3 "Both" c.c1 i1 d1 ["self","name","free"] [] (spS K c.c1 N "both")
 e1:Ctor P w K mg base (CXe P w) 3 "Both" c.c1 i1 d1 ["self","name","free"] [.bool false] (spS K c.c1 N "both")
 b1:KBinds K d1 ["self","name","free"] ["free"] g21 g21
 k2:Ctor P w K mg base (CXe P w) 3 "Tail" c.c2 i2 d2 ["self","name"] [] (spT K c.c2 N "tail")
 k3:Ctor P w K mg base (CXe P w) 3 "Tag" c.c3 i3 d3 ["self","name","free"] [] (spS K c.c3 N "tag")
 e3:Ctor P w K mg base (CXe P w) 3 "Tag" c.c3 i3 d3 ["self","name","free"] [.bool false] (spS K c.c3 N "tag")
 b3:KBinds K d3 ["self","name","free"] ["free"] g21 g21
 k4:Ctor P w K mg base (CXe P w) 3 "Bag" c.c4 i4 d4 ["self","name"] [] (spT K c.c4 N "bag")
def Res (c:C5) (N:Addr) (H:Hp) (k:Nat) (x:V) (b:Bool) (Q:VK) (E:XK):Prop:=
 (nmV x = true->∀ (o dx:Addr) (H':Hp),Same H H'->H' o = some (.ins (c.at k) dx (pf (kw k) x (fr k b)))->Q (.ref o) H')/\(nmV x = false->∀ H',Same H H'->E (.ref N) none H')
def spPof (K:Frag) (c:C5) (N:Addr):Sp:=fun vs H Q E=>∃ (p:Addr) (k:Nat) (x:V) (b:Bool),vs = [.ref p]/\k < 5/\H p = some (.tup (rowV k x b))/\OkV K H x/\Res c N H k x b Q E
theorem ne10:¬ (V.str "both" = V.str "seat"):=by decide +kernel
theorem ne20:¬ (V.str "tail" = V.str "seat"):=by decide +kernel
theorem ne21:¬ (V.str "tail" = V.str "both"):=by decide +kernel
theorem ne30:¬ (V.str "tag" = V.str "seat"):=by decide +kernel
theorem ne31:¬ (V.str "tag" = V.str "both"):=by decide +kernel
theorem ne32:¬ (V.str "tag" = V.str "tail"):=by decide +kernel
theorem ne40:¬ (V.str "bag" = V.str "seat"):=by decide +kernel
theorem ne41:¬ (V.str "bag" = V.str "both"):=by decide +kernel
theorem ne42:¬ (V.str "bag" = V.str "tail"):=by decide +kernel
theorem ne43:¬ (V.str "bag" = V.str "tag"):=by decide +kernel
section
variable {P:Program} {w:World} {K:Frag} {mg:Str->Option Value} {base:Heap} {f N i0 i1 i2 i3 i4:Addr} {fd d0 d1 d2 d3 d4:FuncData} {c:C5}
theorem lk_0 {x:V} {k:Nat} {b:Bool} (h:k < 5):atI (rowV k x b) 0 = some (.str (kw k)):=by rcases lt5 h with rfl | rfl | rfl | rfl | rfl <;> rfl
theorem scPof:FnScope ["told","word"] ["told"] (defScope sPof):=⟨rfl,rfl,rfl,by decide +kernel,rfl,by decide +kernel,by decide +kernel⟩
theorem ok_pof (F:Fun K "parameter_of" "parameter_of" sPof f fd) (U:Ctors P w K mg base c N i0 i1 i2 i3 i4 d0 d1 d2 d3 d4):FnOk P w K mg base (CXe P w) 5 f fd ["told"] (spPof K c N):=by
 refine F.okE scPof (fun vs H Q E h=>?_) (fun cdv A outer s H vs Q E hr h=>?_)
 ·obtain ⟨p,k,x,b,rfl,_⟩:=h
  rfl
 obtain ⟨p,k,x,b,rfl,hk,hp,hx,r1,r2⟩:=h
 refine ⟨_,pss_cons (ps_set (i:=1) scPof.nd rfl (Or.inl rfl) (pe_ix ix_tup (pv 0) pe_int (fun _ _=>rfl)))
  (pss_cons (ps_if (pt_cmpR op_eq (pv 1) pe_str (nomark _)) (pss_one (ps_ret (cMk U.k0 .nil (passE fun _ _ _ z=>z) hr (ac (pe_ix ix_tup (pv 0) pe_int (fun _ _=>rfl)) (ac (pe_ix ix_tup (pv 0) pe_int (fun _ _=>rfl)) pa_nil))))) pss_nil)
  (pss_cons (ps_if (pt_cmpR op_eq (pv 1) pe_str (nomark _)) (pss_one (ps_ret (cMk U.k1 .nil (passE fun _ _ _ z=>z) hr (ac (pe_ix ix_tup (pv 0) pe_int (fun _ _=>rfl)) (ac (pe_ix ix_tup (pv 0) pe_int (fun _ _=>rfl)) pa_nil))))) pss_nil)
  (pss_cons (ps_if (pt_cmpR op_eq (pv 1) pe_str (nomark _)) (pss_one (ps_ret (cMk U.k2 .nil (passE fun _ _ _ z=>z) hr (ac (pe_ix ix_tup (pv 0) pe_int (fun _ _=>rfl)) pa_nil)))) pss_nil)
  (pss_cons (ps_if (pt_cmpR op_eq (pv 1) pe_str (nomark _)) (pss_one (ps_ret (cMk U.k3 .nil (passE fun _ _ _ z=>z) hr (ac (pe_ix ix_tup (pv 0) pe_int (fun _ _=>rfl)) (ac (pe_ix ix_tup (pv 0) pe_int (fun _ _=>rfl)) pa_nil))))) pss_nil)
  (pss_one (ps_ret (cMk U.k4 .nil (passE fun _ _ _ z=>z) hr (ac (pe_ix ix_tup (pv 0) pe_int (fun _ _=>rfl)) pa_nil)))))))),?_⟩
 refine ⟨_,rfl,p,_,_,.str (kw k),rfl,rfl,SqT.of hp,lk_0 hk,?_⟩
 rcases lt5 hk with rfl | rfl | rfl | rfl | rfl
 ·have hS:SqT K H p _:=SqT.of hp
  refine ⟨_,rfl,rfl,_,rfl,?_⟩
  refine dT rfl ?_
  exact ⟨_,rfl,p,_,_,x,rfl,rfl,hS,rfl,_,rfl,p,_,_,.bl b,rfl,rfl,hS,rfl,fun o dx ho hdx ne=>⟨o,dx,x,b,rfl,upd_same,hx.same (same_make0 ho hdx),fun e H1 s1=>⟨rfl,r1 e o dx _ (same_after ho hdx s1) upd_same⟩,fun e H1 s1=>r2 e _ ((same_make0 ho hdx).trans s1)⟩⟩
 ·have hS:SqT K H p _:=SqT.of hp
  refine ⟨_,rfl,rfl,_,rfl,?_⟩
  refine dF ne10 ?_
  refine ⟨_,rfl,rfl,_,rfl,?_⟩
  refine dT rfl ?_
  exact ⟨_,rfl,p,_,_,x,rfl,rfl,hS,rfl,_,rfl,p,_,_,.bl b,rfl,rfl,hS,rfl,fun o dx ho hdx ne=>⟨o,dx,x,b,rfl,upd_same,hx.same (same_make0 ho hdx),fun e H1 s1=>⟨rfl,r1 e o dx _ (same_after ho hdx s1) upd_same⟩,fun e H1 s1=>r2 e _ ((same_make0 ho hdx).trans s1)⟩⟩
 ·have hS:SqT K H p _:=SqT.of hp
  refine ⟨_,rfl,rfl,_,rfl,?_⟩
  refine dF ne20 ?_
  refine ⟨_,rfl,rfl,_,rfl,?_⟩
  refine dF ne21 ?_
  refine ⟨_,rfl,rfl,_,rfl,?_⟩
  refine dT rfl ?_
  exact ⟨_,rfl,p,_,_,x,rfl,rfl,hS,rfl,fun o dx ho hdx ne=>⟨o,dx,x,rfl,upd_same,hx.same (same_make0 ho hdx),fun e H1 s1=>⟨rfl,r1 e o dx _ (same_after ho hdx s1) upd_same⟩,fun e H1 s1=>r2 e _ ((same_make0 ho hdx).trans s1)⟩⟩
 ·have hS:SqT K H p _:=SqT.of hp
  refine ⟨_,rfl,rfl,_,rfl,?_⟩
  refine dF ne30 ?_
  refine ⟨_,rfl,rfl,_,rfl,?_⟩
  refine dF ne31 ?_
  refine ⟨_,rfl,rfl,_,rfl,?_⟩
  refine dF ne32 ?_
  refine ⟨_,rfl,rfl,_,rfl,?_⟩
  refine dT rfl ?_
  exact ⟨_,rfl,p,_,_,x,rfl,rfl,hS,rfl,_,rfl,p,_,_,.bl b,rfl,rfl,hS,rfl,fun o dx ho hdx ne=>⟨o,dx,x,b,rfl,upd_same,hx.same (same_make0 ho hdx),fun e H1 s1=>⟨rfl,r1 e o dx _ (same_after ho hdx s1) upd_same⟩,fun e H1 s1=>r2 e _ ((same_make0 ho hdx).trans s1)⟩⟩
 ·have hS:SqT K H p _:=SqT.of hp
  refine ⟨_,rfl,rfl,_,rfl,?_⟩
  refine dF ne40 ?_
  refine ⟨_,rfl,rfl,_,rfl,?_⟩
  refine dF ne41 ?_
  refine ⟨_,rfl,rfl,_,rfl,?_⟩
  refine dF ne42 ?_
  refine ⟨_,rfl,rfl,_,rfl,?_⟩
  refine dF ne43 ?_
  exact ⟨_,rfl,p,_,_,x,rfl,rfl,hS,rfl,fun o dx ho hdx ne=>⟨o,dx,x,rfl,upd_same,hx.same (same_make0 ho hdx),fun e H1 s1=>⟨rfl,r1 e o dx _ (same_after ho hdx s1) upd_same⟩,fun e H1 s1=>r2 e _ ((same_make0 ho hdx).trans s1)⟩⟩
end
end K61
namespace L2
open PySem PySem.Spec PyProof.Rows
def dcN (n i:Nat) (D:Addr) (Pv:Nat->List (Key × V)->Hp->Prop) (ys:List (Key × V)) (y:V):VK:=fun v H5=>∃ k,y = kV k/\H5 D = some (.dK ys)/\ys.length < sizeLine/\∃ m',m' < n - i/\m' = n - (i + 1)/\i + 1<=n/\Pv (i + 1) (putK ys k v) (upd H5 D (.dK (putK ys k v)))
def dcS (n i:Nat) (Pv:Nat->List (Key × V)->Hp->Prop) (ys:List (Key × V)) (H4:Hp):Prop:=∃ m',m' < n - i/\m' = n - (i + 1)/\i + 1<=n/\Pv (i + 1) ys H4
theorem dcN.mk {n i:Nat} {D:Addr} {Pv:Nat->List (Key × V)->Hp->Prop} {ys:List (Key × V)} {y v:V} {H5:Hp} (k:Key) (hi:i < n) (ek:y = kV k) (hn:n<=sizeLine) (hD:H5 D = some (.dK ys)) (hy:ys.length<=i) (p:Pv (i + 1) (putK ys k v) (upd H5 D (.dK (putK ys k v)))):dcN n i D Pv ys y v H5:=
 ⟨k,ek,hD,by omega,n - (i + 1),by omega,rfl,hi,p⟩
theorem dcS.mk {n i:Nat} {Pv:Nat->List (Key × V)->Hp->Prop} {ys:List (Key × V)} {H4:Hp} (hi:i < n) (p:Pv (i + 1) ys H4):dcS n i Pv ys H4:=⟨n - (i + 1),by omega,rfl,hi,p⟩
theorem dc_enum {K:Frag} {a:Addr} {xs:List V} {caps:List (Option Nat)} {g:TG} {tt:TT} {tk tv:TE} {σ : St} {H1:Hp} {Q:VK} {D:Addr} (Pv:Nat->List (Key × V)->Hp->Prop) (h0:Pv 0 [] (upd H1 D (.dK [])))
  (hl:∀ i ys H,Pv i ys H->SqL K H a xs)
  (hs:∀ i x p ys H,i < xs.length->xs[i]? = some x->Pv i ys H->H p = none->g (.ref p) (capS caps σ) (upd H p (.tup [.int i,x])) fun σ2 H2=>tt σ2 H2 fun ok H3=>(ok = true->tk σ2 H3 fun y H4=>tv σ2 H4 (dcN xs.length i D Pv ys y))/\(ok = false->dcS xs.length i Pv ys H3))
  (hd:∀ ys H,Pv xs.length ys H->Q (.ref D) H):DCr (Ite K a) caps g tt tk tv σ H1 Q D:=by
 refine ⟨fun i m ys H=>m = xs.length - i/\i<=xs.length/\Pv i ys H,⟨xs.length,by simp,Nat.zero_le _,h0⟩,?_⟩
 rintro i m ys H ⟨rfl,hi,p⟩
 have q:=hl i ys H p
 by_cases hlt:i < xs.length
 ·refine .inr ⟨⟨xs,xs[i],q,by simp [hlt]⟩,fun x H' y=>?_⟩
  obtain ⟨pp,y,rfl,hp,y2,rfl⟩:=y
  exact hs i y pp ys H hlt (y2 xs q) p hp
 ·have e:i = xs.length:=by omega
  subst e
  exact .inl ⟨⟨xs,q,Nat.le_refl _⟩,hd ys H p⟩
end L2
namespace K61
open PySem L2 PyProof.Rows
structure Rw where
 (k:Nat) (z:Str) (b:Bool)
def Rw.ok (r:Rw):Prop:=r.k < 5/\nameB r.z = true
abbrev rv (r:Rw):List V:=rowV r.k (.str r.z) r.b
abbrev pr (r:Rw):List (Str × V):=pf (kw r.k) (.str r.z) (fr r.k r.b)
def PAt (c:C5) (H:Hp) (p:Addr) (r:Rw):Prop:=∃ dx,H p = some (.ins (c.at r.k) dx (pr r))
def byPl (k:Nat):Bool:=k == 0 || k == 1
def byNm (k:Nat):Bool:=k == 1 || k == 3
theorem in_pl:∀ k:Nat,k < 5->inV (.str (kw k)) bpL = byPl k:=by decide +kernel
theorem in_nm:∀ k:Nat,k < 5->inV (.str (kw k)) bnL = byNm k:=by decide +kernel
def grp:Nat->Nat
 | 0=>0 | 1=>0 | 2=>1 | 3=>2 | _=>3
def badAt (l g:Nat):Bool:=decide (g < l) || (g == l && (g == 1 || g == 3))
def ordOk:Nat->List Rw->Bool
 | _,[]=>true
 | l,r :: rs=>!badAt l (grp r.k) && ordOk (grp r.k) rs
def nms (rows:List Rw):List Str:=(rows.filter fun r=>byNm r.k).map (·.z)
structure Valid (rows:List Rw) (bars:List Str):Prop where
 ok:∀ r ∈ rows,r.ok
 l24:rows.length<=24
 l60:bars.length<=60
 ord:ordOk 0 rows = true
 bn:∀ z ∈ bars,nameB z = true
 nd:(nms rows ++ bars).Nodup
def firstK (kk:Nat):Nat->List Rw->Option Nat
 | _,[]=>none
 | i,r :: rs=>if r.k = kk then some i else firstK kk (i + 1) rs
def numV:Option Nat->V
 | none=>.non
 | some i=>.int i
def doorsF:Nat->List (Key × V)->List Rw->List (Key × V)
 | _,acc,[]=>acc
 | i,acc,r :: rs=>doorsF (i + 1) (if byNm r.k = true then putK acc (.inr r.z) (.int i) else acc) rs
def plN (rows:List Rw):Nat:=(rows.filter fun r=>byPl r.k).length
def attrs:List Str:=["row","bar_names","place_count","tail_number","bag_number","doors"]
structure FF (fs:List (Str × V)) (lr lb ld:Addr) (rows:List Rw):Prop where
 row:fs.lookup ("row" : Str) = some (.ref lr)
 bn:fs.lookup ("bar_names" : Str) = some (.ref lb)
 pc:fs.lookup ("place_count" : Str) = some (.int (plN rows))
 tn:fs.lookup ("tail_number" : Str) = some (numV (firstK 2 0 rows))
 bg:fs.lookup ("bag_number" : Str) = some (numV (firstK 4 0 rows))
 dr:fs.lookup ("doors" : Str) = some (.ref ld)
 no:∀ m,m ∉ attrs->fs.lookup m = none
def FormAt (c:C5) (CF:Addr) (H:Hp) (f:Addr) (rows:List Rw) (bars:List Str):Prop:=
 ∃ dx fs lr lb ld ps,H f = some (.ins CF dx fs)/\FF fs lr lb ld rows/\H lr = some (.lst (ps.map V.ref))/\Paired (PAt c H) ps rows/\H lb = some (.lst (bars.map V.str))/\H ld = some (.dK (doorsF 0 [] rows))
section
variable {c:C5} {CF f p:Addr} {H H':Hp} {rows:List Rw} {bars:List Str} {r:Rw} {ps:List Addr}
theorem PAt.same (h:PAt c H p r) (s:Same H H'):PAt c H' p r:=h.imp fun _=>s _ _
theorem pats_same (s:Same H H') (h:Paired (PAt c H) ps rows):Paired (PAt c H') ps rows:=Paired.imp' (fun _ _ z=>z.same s) h
theorem FormAt.same (h:FormAt c CF H f rows bars) (s:Same H H'):FormAt c CF H' f rows bars:=by
 obtain ⟨dx,fs,lr,lb,ld,ps,h1,h2,h3,h4,h5,h6⟩:=h
 exact ⟨dx,fs,lr,lb,ld,ps,s _ _ h1,h2,s _ _ h3,pats_same s h4,s _ _ h5,s _ _ h6⟩
def FormN (c:C5) (CF:Addr) (H H':Hp) (f:Addr) (rows:List Rw) (bars:List Str):Prop:=
 ∃ dx fs lr lb ld ps,H' f = some (.ins CF dx fs)/\FF fs lr lb ld rows/\H' lr = some (.lst (ps.map V.ref))/\Paired (PAt c H') ps rows/\H' lb = some (.lst (bars.map V.str))/\H' ld = some (.dK (doorsF 0 [] rows))/\H lr = none/\H lb = none
theorem FormN.at (h:FormN c CF H H' f rows bars):FormAt c CF H' f rows bars:=by
 obtain ⟨dx,fs,lr,lb,ld,ps,h1,h2,h3,h4,h5,h6,_,_⟩:=h
 exact ⟨dx,fs,lr,lb,ld,ps,h1,h2,h3,h4,h5,h6⟩
theorem FormN.of {H0:Hp} (h:FormN c CF H H' f rows bars) (s:Same H0 H):FormN c CF H0 H' f rows bars:=by
 obtain ⟨dx,fs,lr,lb,ld,ps,h1,h2,h3,h4,h5,h6,h7,h8⟩:=h
 exact ⟨dx,fs,lr,lb,ld,ps,h1,h2,h3,h4,h5,h6,s.free h7,s.free h8⟩
theorem paired_at {α β : Type} {R : α->β->Prop} {xs:List α} {ys:List β} (h:Paired R xs ys):∀ {i:Nat} {x : α},xs[i]? = some x->∃ y,ys[i]? = some y/\R x y:=by
 induction h with
 | nil=>intro i x e; simp at e
 | cons r t ih=>
  intro i x e
  cases i with
  | zero=>exact ⟨_,rfl,by simp at e; exact e ▸ r⟩
  | succ i=>simpa using ih (by simpa using e)
end
def grpV (x:Str):Option V:=([(("seat" : Str),V.int 0),("both",.int 0),("tail",.int 1),("tag",.int 2),("bag",.int 3)]:List (Str × V)).lookup x
theorem grpV_kw:∀ k:Nat,k < 5->grpV (kw k) = some (.int (grp k)):=by decide +kernel
theorem grp_lt (k:Nat):grp k < 4:=by unfold grp; split <;> decide
structure TxtF (w:World) (K:Frag) (mg:Str->Option Value) (G sg:Addr):Prop where
 len:mg "len" = none
 en:mg "enumerate" = none
 lst:mg "list" = none
 set:mg "set" = none
 mp:∃ t,mg "MOST_PARAMETERS" = some (.int 24 t)
 mb:∃ t,mg "MOST_BARS" = some (.int 60 t)
 mgr:mg "GROUPS" = some (.ref G)
 gt:KTab w K G grpV
 ms:mg "SINGLE_GROUPS" = some (.ref sg)
 hs:∀ H,SqT K H sg [.int 1,.int 3]
def Cs5 (c:C5):Addr->Prop:=fun C=>∃ k,k < 5/\C = c.at k
def spMany (K:Frag):Sp:=fun vs H Q _=>∃ (a b:Addr) (xs ys:List V),vs = [.ref a,.ref b]/\SqL K H a xs/\SqL K H b ys/\xs.length<=24/\ys.length<=60/\Q .non H
def spOrd (c:C5):Sp:=fun vs H Q _=>∃ (a:Addr) (ps:List Addr) (rows:List Rw),vs = [.ref a]/\H a = some (.lst (ps.map V.ref))/\Paired (PAt c H) ps rows/\(∀ r ∈ rows,r.ok)/\ordOk 0 rows = true/\∀ H',Same H H'->Q .non H'
def spRB:Sp:=fun vs H Q _=>∃ (b:Addr) (bars:List Str),vs = [.ref b]/\H b = some (.lst (bars.map V.str))/\(∀ z ∈ bars,nameB z = true)/\∀ H',Same H H'->Q .non H'
def spTw (c:C5):Sp:=fun vs H Q _=>∃ (a b:Addr) (ps:List Addr) (rows:List Rw) (bars:List Str),vs = [.ref a,.ref b]/\H a = some (.lst (ps.map V.ref))/\Paired (PAt c H) ps rows/\(∀ r ∈ rows,r.ok)/\rows.length<=500/\H b = some (.lst (bars.map V.str))/\bars.length<=500/\(nms rows ++ bars).Nodup/\∀ H',Same H H'->Q .non H'
def spNW (c:C5):Sp:=fun vs H Q _=>∃ (a:Addr) (ps:List Addr) (rows:List Rw) (kk:Nat),vs = [.ref a,.str (kw kk)]/\kk < 5/\H a = some (.lst (ps.map V.ref))/\Paired (PAt c H) ps rows/\(∀ r ∈ rows,r.ok)/\∀ H',Same H H'->Q (numV (firstK kk 0 rows)) H'
theorem kw_inj:∀ i:Nat,i < 5->∀ k:Nat,k < 5->decide (V.str (kw k) = V.str (kw i)) = (k == i):=by decide +kernel
theorem drop_at {α : Type} {xs:List α} {i:Nat} {x : α} (h:xs[i]? = some x):xs.drop i = x :: xs.drop (i + 1):=by
 have hi:i < xs.length:=(List.getElem?_eq_some_iff.mp h).1
 rw [List.drop_eq_getElem_cons hi]
 rw [List.getElem?_eq_getElem hi] at h
 rw [Option.some.inj h]
theorem refs_at {ps:List Addr} {i:Nat} {x:V} (h:(ps.map V.ref)[i]? = some x):∃ p,ps[i]? = some p/\x = .ref p:=by
 rw [List.getElem?_map] at h
 cases e:ps[i]? with
 | none=>rw [e] at h; cases h
 | some p=>rw [e] at h; exact ⟨p,rfl,(Option.some.inj h).symm⟩
theorem strs_at {zs:List Str} {i:Nat} {x:V} (h:(zs.map V.str)[i]? = some x):∃ z,zs[i]? = some z/\x = .str z:=by
 rw [List.getElem?_map] at h
 cases e:zs[i]? with
 | none=>rw [e] at h; cases h
 | some p=>rw [e] at h; exact ⟨p,rfl,(Option.some.inj h).symm⟩
section
variable {P:Program} {w:World} {K:Frag} {mg:Str->Option Value} {base:Heap} {f G sg:Addr} {fd:FuncData} {c:C5} {m:MA}
def Pcs (K:Frag) (m:MA) (c:C5):Prop:=∀ k,k < 5->PC K m (c.at k)
theorem scRMany:FnScope ["parameters","bars"] ["parameters","bars"] (defScope sRMany):=⟨rfl,rfl,rfl,by decide +kernel,rfl,by decide +kernel,by decide +kernel⟩
theorem ok_many (F:Fun K "refuse_too_many" "refuse_too_many" sRMany f fd) (T:TxtF w K mg G sg):FnOk P w K mg base CX0 1 f fd ["parameters","bars"] (spMany K):=by
 refine F.ok scRMany (fun vs H Q E h=>?_) (fun cdv A outer s H vs Q E hr h=>?_)
 ·obtain ⟨a,b,xs,ys,rfl,_⟩:=h
  rfl
 obtain ⟨a,b,xs,ys,rfl,ha,hb,l1,l2,q⟩:=h
 obtain ⟨t1,m1⟩:=T.mp
 obtain ⟨t2,m2⟩:=T.mb
 refine ⟨_,pss_cons (ps_if (pt_cmpR op_gt (cB call_len_seq T.len PySem.boot_len (ac (pv 0) pa_nil)) (pe_glob (v:=.int 24) rfl m1 ⟨_,rfl⟩) (nomark _)) (pss_one ps_dead) pss_nil)
  (pss_one (ps_if (pt_cmpR op_gt (cB call_len_seq T.len PySem.boot_len (ac (pv 1) pa_nil)) (pe_glob (v:=.int 60) rfl m2 ⟨_,rfl⟩) (nomark _)) (pss_one ps_dead) pss_nil)),?_⟩
 refine ⟨_,rfl,a,_,rfl,.inl ha,_,_,rfl,rfl,_,rfl,?_⟩
 refine dF (by show ¬ (24:Int) < (xs.length:Int); omega) ?_
 refine ⟨_,rfl,b,_,rfl,.inl hb,_,_,rfl,rfl,_,rfl,?_⟩
 exact dF (by show ¬ (60:Int) < (ys.length:Int); omega) q
theorem scROrder:FnScope ["parameters","last","at","parameter","group"] ["parameters"] (defScope sROrder):=⟨rfl,rfl,rfl,by decide +kernel,rfl,by decide +kernel,by decide +kernel⟩
theorem ok_order (F:Fun K "refuse_bad_order" "refuse_bad_order" sROrder f fd) (T:TxtF w K mg G sg) (PP:Pcs K m c):FnOk P w K mg base CX0 1 f fd ["parameters"] (spOrd c):=by
 refine F.ok scROrder (fun vs H Q E h=>?_) (fun cdv A outer s H vs Q E hr h=>?_)
 ·obtain ⟨a,ps,rows,rfl,_⟩:=h
  rfl
 obtain ⟨a,ps,rows,rfl,ha,hp,hok,ho,q⟩:=h
 refine ⟨_,pss_cons (ps_set (i:=1) scROrder.nd rfl (Or.inl rfl) pe_int)
  (pss_one (ps_for PassesOwn.never rfl (pi_enum rfl T.en (ac (pv 0) pa_nil)) (pg_tup rfl (pgs_cons (pg_name (i:=2) scROrder.nd rfl (Or.inl rfl)) (pgs_cons (pg_name (i:=3) scROrder.nd rfl (Or.inl rfl)) pgs_nil)))
   (pss_cons (ps_set (i:=4) scROrder.nd rfl (Or.inl rfl) (pe_kget T.gt T.mgr (pe_fld (pv 3) rfl)))
   (pss_cons (ps_if (PW.pt (pw_or (pt_cmpR op_lt (pv 4) (pv 1) (nomark _)) (pw_or1 (PW.pt (pw_and (pt_cmpR op_eq (pv 4) (pv 1) (nomark _)) (pw_and1 (pt_cmpR op_in_seq (pv 4) (pe_glob (v:=.ref sg) rfl T.ms rfl) (by with_unfolding_all rfl)))))))) (pss_one ps_dead) pss_nil)
   (pss_one (ps_set (i:=1) scROrder.nd rfl (Or.inl rfl) (pv 4))))))),?_⟩
 show tSeq _ _ _ _ _
 refine ⟨_,rfl,a,rfl,⟨_,SqL.of ha⟩,for_enum (K:=K) (a:=a) (xs:=ps.map V.ref) (fun i σ H'=>∃ (l:Nat) (v2 v3 v4:Option V),σ = [some (.ref a),some (.int (l:Nat)),v2,v3,v4]/\Same H H'/\ordOk l (rows.drop i) = true)
  ⟨0,_,_,_,rfl,Same.refl _,ho⟩ (fun i σ H' _ ⟨_,_,_,_,_,sH,_⟩=>SqL.of (sH _ _ ha)) ?_ ?_⟩
 ·rintro i x p σ H' hx ⟨l,v2,v3,v4,rfl,sH,hl⟩ hpn
  obtain ⟨pa,hpa,rfl⟩:=refs_at hx
  obtain ⟨r,hr',dx,hdx⟩:=paired_at hp hpa
  have rok:=hok r (List.mem_of_getElem? hr')
  have C:=PP r.k rok.1
  rw [drop_at hr'] at hl
  have hl':(!badAt l (grp r.k) && ordOk (grp r.k) (rows.drop (i + 1))) = true:=hl
  rw [Bool.and_eq_true,Bool.not_eq_true'] at hl'
  obtain ⟨hb,hl2⟩:=hl'
  have hb':(decide (grp r.k < l) || (grp r.k == l && (grp r.k == 1 || grp r.k == 3))) = false:=hb
  rw [Bool.or_eq_false_iff] at hb'
  have sp:=same_new hpn (.tup [.int (i:Nat),.ref pa])
  refine ⟨p,_,rfl,SqT.of upd_same,rfl,_,_,rfl,_,_,rfl,rfl,?_⟩
  refine ⟨_,rfl,pa,_,dx,_,_,rfl,sp _ _ (sH _ _ hdx),C.cl,C.nW,pf_word,kw r.k,.int (grp r.k),rfl,grpV_kw r.k rok.1,?_⟩
  refine ⟨_,rfl,_,rfl,_,_,rfl,rfl,_,rfl,?_⟩
  refine dF (fun z=>by have:=of_decide_eq_false hb'.1; omega) ?_
  have fin:∃ (l':Nat) (v2 v3 v4:Option V),([some (.ref a),some (.int (grp r.k:Nat)),some (.int (i:Nat)),some (.ref pa),some (.int (grp r.k:Nat))]:L2.St) = [some (.ref a),some (.int (l':Nat)),v2,v3,v4]/\Same H (upd H' p (.tup [.int (i:Nat),.ref pa]))/\ordOk l' (rows.drop (i + 1)) = true:=
   ⟨grp r.k,_,_,_,rfl,sH.trans sp,hl2⟩
  refine ⟨_,rfl,_,rfl,rfl,_,rfl,?_⟩
  by_cases e:grp r.k = l
  ·refine dT (by rw [e]) ?_
   refine ⟨_,rfl,sg,_,rfl,.inr (T.hs _),rfl,(by decide),_,rfl,?_⟩
   have h13:(grp r.k == 1 || grp r.k == 3) = false:=by
    have:=hb'.2
    rw [e] at this |-
    simpa using this
   have hin:inV (.int (grp r.k:Nat)) [.int 1,.int 3] = false:=by
    have g4:=grp_lt r.k
    have:∀ g:Nat,g < 4->(g == 1 || g == 3) = false->inV (.int (g:Nat)) [.int 1,.int 3] = false:=by decide +kernel
    exact this _ g4 h13
   rw [show (if false = true then !inV (V.int ((grp r.k:Nat):Int)) [V.int 1,V.int 3] else inV (V.int ((grp r.k:Nat):Int)) [V.int 1,V.int 3]) = false from hin]
   refine iteF ?_
   exact ⟨_,rfl,fin⟩
  ·refine dF (fun z=>e (by have:=V.int.inj z; omega)) ?_
   exact ⟨_,rfl,fin⟩
 ·rintro σ H' ⟨l,v2,v3,v4,rfl,sH,_⟩
  exact q _ sH
end
end K61
namespace L2
open PySem PySem.Spec PyProof.Rows
theorem pe_fldK {X:Cx} {K:Frag} {e:Expr} {f:Str} {pos:Pos} {ta:TE} (hK:X.K = K) (he:PE X e ta) (hb:attributeBase e f X.env (eval e X.env) = eval e X.env):PE X (.Attribute e f pos) (tFld K ta f):=hK ▸ pe_fld he hb
end L2
namespace K61
open PySem L2 PyProof.Rows
theorem le1000 {n:Nat} (h:n<=1000):n<=sizeLine:=Nat.le_of_lt (small1000 h)
theorem nm_take {rows:List Rw} {i:Nat} {r:Rw} (h:rows[i]? = some r):nms (rows.take (i + 1)) = nms (rows.take i) ++ (if byNm r.k = true then [r.z] else []):=by
 have hi:i < rows.length:=(List.getElem?_eq_some_iff.mp h).1
 have e:rows[i] = r:=by rw [List.getElem?_eq_getElem hi] at h; exact Option.some.inj h
 unfold nms
 rw [List.take_succ_eq_append_getElem hi,List.filter_append,List.map_append,e]
 cases hb:byNm r.k <;> simp [hb]
section
variable {P:Program} {w:World} {K:Frag} {mg:Str->Option Value} {base:Heap} {f G sg:Addr} {fd:FuncData} {c:C5} {m:MA}
theorem scNumW:FnScope ["parameters","word","at","parameter"] ["parameters","word"] (defScope sNumW):=⟨rfl,rfl,rfl,by decide +kernel,rfl,by decide +kernel,by decide +kernel⟩
theorem ok_numw (F:Fun K "number_of_word" "number_of_word" sNumW f fd) (T:TxtF w K mg G sg) (PP:Pcs K m c):FnOk P w K mg base CX0 1 f fd ["parameters","word"] (spNW c):=by
 refine F.ok scNumW (fun vs H Q E h=>?_) (fun cdv A outer s H vs Q E hr h=>?_)
 ·obtain ⟨a,ps,rows,kk,rfl,_⟩:=h
  rfl
 obtain ⟨a,ps,rows,kk,rfl,hkk,ha,hp,hok,q⟩:=h
 refine ⟨_,pss_cons (ps_for PassesOwn.never rfl (pi_enum rfl T.en (ac (pv 0) pa_nil)) (pg_tup rfl (pgs_cons (pg_name (i:=2) scNumW.nd rfl (Or.inl rfl)) (pgs_cons (pg_name (i:=3) scNumW.nd rfl (Or.inl rfl)) pgs_nil)))
   (pss_one (ps_if (pt_cmpR op_eq (pe_fld (pv 3) rfl) (pv 1) (nomark _)) (pss_one (ps_ret (pv 2))) pss_nil))) (pss_one (ps_ret pe_non)),?_⟩
 refine ⟨_,rfl,a,rfl,⟨_,SqL.of ha⟩,for_enum (K:=K) (a:=a) (xs:=ps.map V.ref) (fun i σ H'=>∃ (v2 v3:Option V),σ = [some (.ref a),some (.str (kw kk)),v2,v3]/\Same H H'/\firstK kk i (rows.drop i) = firstK kk 0 rows)
  ⟨_,_,rfl,Same.refl _,rfl⟩ (fun i σ H' _ ⟨_,_,_,sH,_⟩=>SqL.of (sH _ _ ha)) ?_ ?_⟩
 ·rintro i x p σ H' hx ⟨v2,v3,rfl,sH,hl⟩ hpn
  obtain ⟨pa,hpa,rfl⟩:=refs_at hx
  obtain ⟨r,hr',dx,hdx⟩:=paired_at hp hpa
  have rok:=hok r (List.mem_of_getElem? hr')
  have C:=PP r.k rok.1
  rw [drop_at hr'] at hl
  have hl':(if r.k = kk then some i else firstK kk (i + 1) (rows.drop (i + 1))) = firstK kk 0 rows:=hl
  have sp:=same_new hpn (.tup [.int (i:Nat),.ref pa])
  refine ⟨p,_,rfl,SqT.of upd_same,rfl,_,_,rfl,_,_,rfl,rfl,?_⟩
  refine ⟨_,rfl,pa,_,dx,_,_,rfl,sp _ _ (sH _ _ hdx),C.cl,C.nW,pf_word,_,rfl,rfl,_,rfl,?_⟩
  by_cases e:r.k = kk
  ·refine dT (by rw [e]) ?_
   rw [if_pos e] at hl'
   refine ⟨_,rfl,?_⟩
   have:=q _ (sH.trans sp)
   rw [<- hl'] at this
   exact this
  ·refine dF (fun z=>?_) ?_
   ·have h1:=kw_inj kk hkk r.k rok.1
    rw [decide_eq_true z] at h1
    exact e (by simpa using h1.symm)
   ·rw [if_neg e] at hl'
    exact ⟨_,_,rfl,sH.trans sp,hl'⟩
 ·rintro σ H' ⟨v2,v3,rfl,sH,hl⟩
  have e:firstK kk 0 rows = none:=by
   rw [<- hl,List.length_map,hp.length,List.drop_length]
   rfl
  have:=q _ sH
  rw [e] at this
  exact this
theorem scRBars:FnScope ["bars","bar"] ["bars"] (defScope sRBars):=⟨rfl,rfl,rfl,by decide +kernel,rfl,by decide +kernel,by decide +kernel⟩
theorem ok_rbars {g:Addr} {gd:FuncData} (F:Fun K "refuse_bars_without_name" "refuse_bars_without_name" sRBars f fd) (cI:Callee P w K mg base 1 "is_name" g gd ["thing"] (spIs K)):FnOk P w K mg base CX0 2 f fd ["bars"] spRB:=by
 refine F.ok scRBars (fun vs H Q E h=>?_) (fun cdv A outer s H vs Q E hr h=>?_)
 ·obtain ⟨b,bars,rfl,_⟩:=h
  rfl
 obtain ⟨b,bars,rfl,hb,hn,q⟩:=h
 refine ⟨_,pss_one (ps_for PassesOwn.never rfl (pi_list (pv 0)) (pg_name (i:=1) scRBars.nd rfl (Or.inl rfl)) (pss_one (ps_if (pt_not (pt_val (cF cI hr (ac (pv 1) pa_nil)))) (pss_one ps_dead) pss_nil))),?_⟩
 refine ⟨_,rfl,b,rfl,⟨_,SqL.of hb⟩,for_list (K:=K) (a:=b) (xs:=bars.map V.str) (fun i σ H'=>∃ v1,σ = [some (.ref b),v1]/\Same H H') ⟨_,rfl,Same.refl _⟩ (fun i σ H' _ ⟨_,_,sH⟩=>SqL.of (sH _ _ hb)) ?_ ?_⟩
 ·rintro i x σ H' hx ⟨v1,rfl,sH⟩
  obtain ⟨z,hz,rfl⟩:=strs_at hx
  have nz:=hn z (List.mem_of_getElem? hz)
  refine ⟨_,rfl,_,rfl,.inl ⟨z,rfl,nameB_ok nz⟩,fun H2 s2=>⟨_,rfl,?_⟩⟩
  rw [show nmV (.str z) = true from nz]
  refine iteF ?_
  exact ⟨_,rfl,sH.trans s2⟩
 ·rintro σ H' ⟨v1,rfl,sH⟩
  exact q _ sH
theorem ndPm:([Str.ofString "parameter"]:List Str).Nodup:=by decide +kernel
theorem scRTwice:FnScope ["parameters","bars","seen","name"] ["parameters","bars"] (defScope sRTwice):=⟨rfl,rfl,rfl,by decide +kernel,rfl,by decide +kernel,by decide +kernel⟩
theorem ok_twice {gd:FuncData} (F:Fun K "refuse_twice" "refuse_twice" sRTwice f fd) (T:TxtF w K mg G sg) (PP:Pcs K m c) (GB:FnOk P w K mg base CX0 1 m.fB gd ["self"] (spIn K m bnL)) (bB:Binds K gd ["self"] []):FnOk P w K mg base CX0 2 f fd ["parameters","bars"] (spTw c):=by
 refine F.ok scRTwice (fun vs H Q E h=>?_) (fun cdv A outer s H vs Q E hr h=>?_)
 ·obtain ⟨a,b,ps,rows,bars,rfl,_⟩:=h
  rfl
 obtain ⟨a,b,ps,rows,bars,rfl,ha,hp,hok,l1,hb,l2,nd,q⟩:=h
 have hC:∀ C,Cs5 c C->Cls K C/\Meth K C "by_name" m.fB:=fun C ⟨k,hk,e⟩=>by rw [e]; exact ⟨(PP k hk).cl,(PP k hk).mB⟩
 refine ⟨_,pss_cons (ps_set (i:=2) scRTwice.nd rfl (Or.inl rfl) (pe_callTy0 call_set0 rfl T.set (by decide +kernel:bootBuiltins "set" = some (.type "set"))))
  (pss_one (ps_for PassesOwn.never rfl (pi_list (pe_op op_cat (pe_lc [] ["parameter"] [none] rfl ⟨rfl,rfl,rfl,rfl⟩ (pi_list (pv 0)) (gown_name 0) rfl rfl rfl
    (fun pins fp s H C=>⟨pg_name (i:=0) ndPm rfl (Or.inl rfl) (.inr rfl),pif_one (pt_val (pe_methP (pv 0) hC GB hr bB pass0)),pe_fldK (K:=K) rfl (pv 0) rfl⟩)) (cTy call_list_of T.lst PyProof.Rows.boot_list (ac (pv 1) pa_nil)))) (pg_name (i:=3) scRTwice.nd rfl (Or.inl rfl))
   (pss_cons (ps_if (pt_cmpR op_in_setT (pv 3) (pv 2) (by with_unfolding_all rfl)) (pss_one ps_dead) pss_nil)
   (pss_one (ps_expr (pe_sadd (pv 2) (pv 3) ⟨rfl,rfl,rfl,rfl⟩)))))),?_⟩
 refine ⟨rfl,fun se hse=>?_⟩
 have s1:Same H (upd H se (setO P w se (fun _=>false) 0)):=same_new hse _
 have g1:upd H se (setO P w se (fun _=>false) 0) se = some (setO P w se (fun _=>false) 0):=upd_same
 show tSeq _ _ _ _ (upd H se (setO P w se (fun _=>false) 0))
 generalize upd H se (setO P w se (fun _=>false) 0) = H1 at s1 g1 |-
 have ha1:=s1 _ _ ha
 have hp1:=pats_same s1 hp
 refine ⟨_,rfl,a,rfl,⟨_,SqL.of ha1⟩,fun D hD=>?_⟩
 refine lc_list (K:=K) (xs:=ps.map V.ref) (fun i ys H'=>Same H1 H'/\H' D = some (.lst ys)/\ys = (nms (rows.take i)).map V.str) ⟨same_new hD _,upd_same,rfl⟩ (fun i ys H' h=>SqL.of (h.1 _ _ ha1)) ?_ ?_
 ·rintro i x ys H' hlt hx ⟨sH,hDy,ey⟩
  obtain ⟨pa,hpa,rfl⟩:=refs_at hx
  obtain ⟨r,hr',dx,hdx⟩:=paired_at hp1 hpa
  have rok:=hok r (List.mem_of_getElem? hr')
  have C:=PP r.k rok.1
  have nl:ys.length<=i:=by
   rw [ey,List.length_map]
   unfold nms
   rw [List.length_map]
   refine Nat.le_trans (List.length_filter_le _ _) ?_
   rw [List.length_take]
   omega
  have hd2:=sH _ _ hdx
  refine ⟨_,rfl,pa,_,dx,_,rfl,⟨r.k,rok.1,rfl⟩,hd2,pf_no (by decide +kernel) (by decide +kernel) (by decide +kernel),pa,dx,_,_,_,_,rfl,C,hd2,_,rfl,?_⟩
  rw [in_nm r.k rok.1]
  have tk:=nm_take hr'
  refine ⟨fun e=>?_,fun e=>?_⟩
  ·rw [e,if_pos rfl] at tk
   refine ⟨_,rfl,pa,_,dx,_,_,rfl,hd2,C.cl,C.nN,pf_name,?_⟩
   refine lcN.mk hlt (le1000 (by rw [List.length_map,hp.length]; omega)) hDy nl ⟨fun b u e=>?_,upd_same,?_⟩
   ·rw [upd_ne (ne_of_none e hD)]
    exact sH b u e
   ·rw [ey,tk,List.map_append]
    rfl
  ·rw [e,if_neg Bool.false_ne_true,List.append_nil] at tk
   exact lcS.mk hlt ⟨sH,hDy,by rw [ey,tk]⟩
 rintro ys H2 ⟨s2,hDy,ey⟩
 have ey:ys = (nms rows).map V.str:=by
  rw [ey,List.length_map,hp.length,List.take_length]
 subst ey
 have hb2:=s2 _ _ (s1 _ _ hb)
 refine ⟨_,rfl,b,_,rfl,.inl (SqL.of hb2),fun l hl=>?_⟩
 have s3:=same_new hl (.lst (bars.map V.str))
 have g3:upd H2 l (.lst (bars.map V.str)) l = some (.lst (bars.map V.str)):=upd_same
 generalize upd H2 l (.lst (bars.map V.str)) = H3 at s3 g3 |-
 have ln:(nms rows).length<=500:=by
  unfold nms
  rw [List.length_map]
  exact Nat.le_trans (List.length_filter_le _ _) l1
 refine ⟨D,l,_,_,rfl,rfl,s3 _ _ hDy,g3,le1000 (by rw [List.length_map,List.length_map]; omega),fun l4 hl4=>?_⟩
 rw [<- List.map_append]
 have s4:=same_new hl4 (.lst ((nms rows ++ bars).map V.str))
 have g4:upd H3 l4 (.lst ((nms rows ++ bars).map V.str)) l4 = some (.lst ((nms rows ++ bars).map V.str)):=upd_same
 have nse:l4 ≠ se:=fun z=>by
  rw [z] at hl4
  rw [s3 _ _ (s2 _ _ g1)] at hl4
  cases hl4
 generalize upd H3 l4 (.lst ((nms rows ++ bars).map V.str)) = H4 at s4 g4 |-
 have sA:Same H1 H4:=s2.trans (s3.trans s4)
 have gse:=sA _ _ g1
 refine ⟨l4,rfl,⟨_,SqL.of g4⟩,for_list (K:=K) (a:=l4) (xs:=(nms rows ++ bars).map V.str) (fun i σ H'=>∃ (S:Str->Bool) (n:Nat) (v3:Option V),σ = [some (.ref a),some (.ref b),some (.ref se),v3]/\H' se = some (setO P w se S n)/\(∀ z,S z = decide (z ∈ (nms rows ++ bars).take i))/\n<=i/\(∀ b' u,H4 b' = some u->b' ≠ se->H' b' = some u))
  ⟨_,0,_,rfl,gse,fun z=>by simp,Nat.le_refl _,fun b' u e _=>e⟩ (fun i σ H' _ ⟨_,_,_,_,_,_,_,k⟩=>SqL.of (k _ _ g4 nse)) ?_ ?_⟩
 ·rintro i x σ H' hx ⟨S,n,v3,rfl,hS,hSz,hn,k⟩
  obtain ⟨z,hz,rfl⟩:=strs_at hx
  have hi:i < (nms rows ++ bars).length:=(List.getElem?_eq_some_iff.mp hz).1
  have ez:(nms rows ++ bars)[i] = z:=by rw [List.getElem?_eq_getElem hi] at hz; exact Option.some.inj hz
  have nz:S z = false:=by
   rw [hSz,decide_eq_false_iff_not]
   intro hm
   obtain ⟨j,hj,ej⟩:=List.mem_take_iff_getElem.mp hm
   have:=List.pairwise_iff_getElem.mp nd j i (by omega) hi (by omega)
   exact this (ej.trans ez.symm)
  refine ⟨_,rfl,_,rfl,se,S,n,z,rfl,rfl,hS,_,rfl,?_⟩
  rw [nz]
  refine iteF ?_
  refine ⟨_,rfl,se,S,n,rfl,hS,_,rfl,S,n,z,rfl,hS,?_,?_⟩
  ·rw [List.length_append] at hi
   show n + 1 < 4096
   omega
  ·refine ⟨_,_,_,rfl,upd_same,fun y=>?_,?_,fun b' u e ne=>?_⟩
   ·rw [hSz y,List.take_succ_eq_append_getElem hi,ez]
    simp [List.mem_append]
   ·rw [nz]
    show n + 1<=i + 1
    omega
   ·rw [upd_ne ne]
    exact k b' u e ne
 ·rintro σ H' ⟨S,n,v3,rfl,hS,hSz,hn,k⟩
  refine q _ fun b' u e=>k b' u (sA _ _ (s1 _ _ e)) fun z=>?_
  rw [z,hse] at e
  cases e
end
def SX (f:Addr) (H H':Hp):Prop:=∀ b u,H b = some u->b ≠ f->H' b = some u
theorem SX.same {f:Addr} {H H1 H2:Hp} (x:SX f H H1) (s:Same H1 H2):SX f H H2:=fun b u e n=>s b u (x b u e n)
theorem SX.upd {f:Addr} {H H1:Hp} {o:HO} (x:SX f H H1):SX f H (upd H1 f o):=fun b u e n=>by rw [upd_ne n]; exact x b u e n
theorem SX.refl {f:Addr} {H:Hp}:SX f H H:=fun _ _ e _=>e
theorem putF_le (f:Str) (v:V):∀ fs:List (Str × V),(putF f v fs).length<=fs.length + 1
 | []=>Nat.le_refl _
 | (g,x) :: r=>by
  show (if g = f then (g,v) :: r else (g,x) :: putF f v r).length<=_
  split
  ·simp
  ·have:=putF_le f v r
   simp only [List.length_cons]
   omega
def Pre (fs:List (Str × V)):Prop:=fs.length<=50/\∀ m,m ∉ attrs->fs.lookup m = none
structure FC (K:Frag) (CF:Addr):Prop where
 cl:Cls K CF
 n1:NoAttr K CF "row"
 n2:NoAttr K CF "bar_names"
 n3:NoAttr K CF "place_count"
 n4:NoAttr K CF "tail_number"
 n5:NoAttr K CF "bag_number"
 n6:NoAttr K CF "doors"
def spKeep (c:C5) (CF:Addr):Sp:=fun vs H Q _=>∃ (f a b dx:Addr) (fs:List (Str × V)) (ps:List Addr) (rows:List Rw) (bars:List Str),vs = [.ref f,.ref a,.ref b]/\H f = some (.ins CF dx fs)/\Pre fs/\H a = some (.lst (ps.map V.ref))/\Paired (PAt c H) ps rows/\(∀ r ∈ rows,r.ok)/\rows.length<=500/\H b = some (.lst (bars.map V.str))/\
 ∀ H',SX f H H'->FormN c CF H H' f rows bars->(∃ dx' fs',H' f = some (.ins CF dx' fs')/\fs'.length<=fs.length + 6)->Q .non H'
theorem pl_take {rows:List Rw} {i:Nat} {r:Rw} (h:rows[i]? = some r):plN (rows.take (i + 1)) = plN (rows.take i) + (if byPl r.k = true then 1 else 0):=by
 have hi:i < rows.length:=(List.getElem?_eq_some_iff.mp h).1
 have e:rows[i] = r:=by rw [List.getElem?_eq_getElem hi] at h; exact Option.some.inj h
 unfold plN
 rw [List.take_succ_eq_append_getElem hi,List.filter_append,List.length_append,e]
 cases hb:byPl r.k <;> simp [hb]
theorem doors_len:∀ (rows:List Rw) (i:Nat) (acc:List (Key × V)),(doorsF i acc rows).length<=acc.length + rows.length
 | [],_,_=>Nat.le_refl _
 | r :: rs,i,acc=>by
  have h:=doors_len rs (i + 1) (if byNm r.k = true then putK acc (.inr r.z) (.int i) else acc)
  have h2:(if byNm r.k = true then putK acc (.inr r.z) (.int i) else acc).length<=acc.length + 1:=by
   split
   ·exact length_putK acc _ _
   ·omega
  show (doorsF (i + 1) _ rs).length<=acc.length + (rs.length + 1)
  omega
theorem doorsF_take {r:Rw}:∀ (rows:List Rw) (j i:Nat) (acc:List (Key × V)),rows[i]? = some r->doorsF j acc (rows.take (i + 1)) = (if byNm r.k = true then putK (doorsF j acc (rows.take i)) (.inr r.z) (.int (j + i:Nat)) else doorsF j acc (rows.take i))
 | [],_,_,_,h=>by simp at h
 | r0 :: rs,j,0,acc,h=>by
  have e:r0 = r:=by simpa using h
  subst e
  show (if byNm r0.k = true then putK acc (.inr r0.z) (.int j) else acc) = _
  rfl
 | r0 :: rs,j,i + 1,acc,h=>by
  have:=doorsF_take rs (j + 1) i (if byNm r0.k = true then putK acc (.inr r0.z) (.int j) else acc) (by simpa using h)
  show doorsF (j + 1) _ (rs.take (i + 1)) = _
  rw [this,show j + 1 + i = j + (i + 1) by omega]
  rfl
section
variable {P:Program} {w:World} {K:Frag} {mg:Str->Option Value} {base:Heap} {f G sg CF:Addr} {fd:FuncData} {c:C5} {m:MA}
theorem PAt.ne {H:Hp} {p f CF dx:Addr} {r:Rw} {fs:List (Str × V)} (h:PAt c H p r) (e:H f = some (.ins CF dx fs)) (n:fs.lookup ("word" : Str) = none):p ≠ f:=fun z=>by
 obtain ⟨d,h⟩:=h
 rw [z,e] at h
 injection h with h
 injection h with h1 h2 h3
 rw [h3,pf_word] at n
 cases n
theorem pats_sx {H H':Hp} {f CF dx:Addr} {fs:List (Str × V)} (e:H f = some (.ins CF dx fs)) (n:fs.lookup ("word" : Str) = none) (x:SX f H H') {ps:List Addr} {rows:List Rw} (h:Paired (PAt c H) ps rows):Paired (PAt c H') ps rows:=
 Paired.imp' (fun _ _ z=>by
  have ne:=z.ne e n
  obtain ⟨d,q⟩:=z
  exact ⟨d,x _ _ q ne⟩) h
theorem ndAP:([Str.ofString "at",Str.ofString "parameter"]:List Str).Nodup:=by decide +kernel
theorem scKeep:FnScope ["self","parameters","bars"] ["self","parameters","bars"] (defScope sKeep):=⟨rfl,rfl,rfl,by decide +kernel,rfl,by decide +kernel,by decide +kernel⟩
theorem ok_keep {g:Addr} {gd gp gb:FuncData} (F:Fun K "keep" "Form.keep" sKeep f fd) (T:TxtF w K mg G sg) (PP:Pcs K m c) (FK:FC K CF) (cW:Callee P w K mg base 1 "number_of_word" g gd ["parameters","word"] (spNW c))
  (GP:FnOk P w K mg base CX0 1 m.fP gp ["self"] (spIn K m bpL)) (bP:Binds K gp ["self"] []) (GB:FnOk P w K mg base CX0 1 m.fB gb ["self"] (spIn K m bnL)) (bB:Binds K gb ["self"] []):FnOk P w K mg base CX0 2 f fd ["self","parameters","bars"] (spKeep c CF):=by
 refine F.ok scKeep (fun vs H Q E h=>?_) (fun cdv A outer s H vs Q E hr h=>?_)
 ·obtain ⟨f,a,b,dx,fs,ps,rows,bars,rfl,_⟩:=h
  rfl
 obtain ⟨f,a,b,dx,fs,ps,rows,bars,rfl,hf,⟨pl,pn⟩,ha,hp,hok,l5,hb,q⟩:=h
 have hP:∀ C,Cs5 c C->Cls K C/\Meth K C "by_place" m.fP:=fun C ⟨k,hk,e⟩=>by rw [e]; exact ⟨(PP k hk).cl,(PP k hk).mP⟩
 have hB:∀ C,Cs5 c C->Cls K C/\Meth K C "by_name" m.fB:=fun C ⟨k,hk,e⟩=>by rw [e]; exact ⟨(PP k hk).cl,(PP k hk).mB⟩
 have nw:fs.lookup ("word" : Str) = none:=pn _ (by decide +kernel)
 refine ⟨_,pss_cons (ps_fld (pv 0) (cTy call_list_of T.lst PyProof.Rows.boot_list (ac (pv 1) pa_nil)) rfl)
  (pss_cons (ps_fld (pv 0) (cTy call_list_of T.lst PyProof.Rows.boot_list (ac (pv 2) pa_nil)) rfl)
  (pss_cons (ps_fld (pv 0) (cB call_len_seq T.len PySem.boot_len (ac (pe_lc [] ["parameter"] [none] rfl ⟨rfl,rfl,rfl,rfl⟩ (pi_list (pe_fld (pv 0) rfl)) (gown_name 0) rfl rfl rfl
    (fun pins fp s H C=>⟨pg_name (i:=0) ndPm rfl (Or.inl rfl) (.inr rfl),pif_one (pt_val (pe_methP (pv 0) hP GP hr bP pass0)),pv 0⟩)) pa_nil)) rfl)
  (pss_cons (ps_fld (pv 0) (cF cW hr (ac (pe_fld (pv 0) rfl) (ac pe_str pa_nil))) rfl)
  (pss_cons (ps_fld (pv 0) (cF cW hr (ac (pe_fld (pv 0) rfl) (ac pe_str pa_nil))) rfl)
  (pss_one (ps_fld (pv 0) (pe_dc [] ["at","parameter"] [none,none] rfl ⟨rfl,rfl,rfl,rfl⟩ (pi_enum rfl T.en (ac (pe_fld (pv 0) rfl) pa_nil)) (gown_tup2 (K:=K) (n:=2) 0 1) rfl rfl rfl
    (fun pins fp s H C=>⟨pg_tup rfl (pgs_cons (pg_name (i:=0) ndAP rfl (Or.inl rfl) (.inr rfl)) (pgs_cons (pg_name (i:=1) ndAP rfl (Or.inl rfl) (.inr rfl)) pgs_nil)),pif_one (pt_val (pe_methP (pv 1) hB GB hr bB pass0)),pe_fldK (K:=K) rfl (pv 1) rfl,pv 0⟩)) rfl)))))),?_⟩
 refine ⟨_,rfl,a,_,rfl,.inl (SqL.of ha),fun l1 hl1=>?_⟩
 have s1:=same_new hl1 (.lst (ps.map V.ref))
 refine ⟨_,rfl,f,CF,dx,fs,rfl,s1 _ _ hf,FK.cl,FK.n1,(by omega),?_⟩
 have x1:SX f H (upd (upd H l1 (.lst (ps.map V.ref))) f (.ins CF dx (putF "row" (.ref l1) fs))):=(SX.refl.same s1).upd
 have f1:upd (upd H l1 (.lst (ps.map V.ref))) f (.ins CF dx (putF "row" (.ref l1) fs)) f = some (.ins CF dx (putF "row" (.ref l1) fs)):=upd_same
 have e1:upd (upd H l1 (.lst (ps.map V.ref))) f (.ins CF dx (putF "row" (.ref l1) fs)) l1 = some (.lst (ps.map V.ref)):=by
  rw [upd_ne (fun z=>by rw [z,hf] at hl1; cases hl1),upd_same]
 have p1:=putF_le "row" (.ref l1) fs
 have r1:(putF "row" (.ref l1) fs).lookup ("row" : Str) = some (.ref l1):=by rw [lookup_putF,if_pos rfl]
 show tSeq _ _ _ _ (upd (upd H l1 (.lst (ps.map V.ref))) f (.ins CF dx (putF "row" (.ref l1) fs)))
 generalize upd (upd H l1 (.lst (ps.map V.ref))) f (.ins CF dx (putF "row" (.ref l1) fs)) = H1 at x1 f1 e1 |-
 have nbf:b ≠ f:=ne_of hb hf (by intro z; cases z)
 refine ⟨_,rfl,b,_,rfl,.inl (SqL.of (x1 _ _ hb nbf)),fun l2 hl2=>?_⟩
 have s2:=same_new hl2 (.lst (bars.map V.str))
 have hlb:H l2 = none:=by
  cases e:H l2 with
  | none=>rfl
  | some u=>exact absurd (x1 _ _ e (fun z=>by rw [z,f1] at hl2; cases hl2)) (by rw [hl2]; intro z; cases z)
 refine ⟨_,rfl,f,CF,dx,_,rfl,s2 _ _ f1,FK.cl,FK.n2,(by omega),?_⟩
 have x2:SX f H (upd (upd H1 l2 (.lst (bars.map V.str))) f (.ins CF dx (putF "bar_names" (.ref l2) (putF "row" (.ref l1) fs)))):=(x1.same s2).upd
 have f2:upd (upd H1 l2 (.lst (bars.map V.str))) f (.ins CF dx (putF "bar_names" (.ref l2) (putF "row" (.ref l1) fs))) f = some (.ins CF dx (putF "bar_names" (.ref l2) (putF "row" (.ref l1) fs))):=upd_same
 have g2:upd (upd H1 l2 (.lst (bars.map V.str))) f (.ins CF dx (putF "bar_names" (.ref l2) (putF "row" (.ref l1) fs))) l2 = some (.lst (bars.map V.str)):=by
  rw [upd_ne (fun z=>by rw [z,f1] at hl2; cases hl2),upd_same]
 have e2:upd (upd H1 l2 (.lst (bars.map V.str))) f (.ins CF dx (putF "bar_names" (.ref l2) (putF "row" (.ref l1) fs))) l1 = some (.lst (ps.map V.ref)):=by
  rw [upd_ne (ne_of e1 f1 (by intro z; cases z)),s2 _ _ e1]
 have p2:=putF_le "bar_names" (.ref l2) (putF "row" (.ref l1) fs)
 have r2:(putF "bar_names" (.ref l2) (putF "row" (.ref l1) fs)).lookup ("row" : Str) = some (.ref l1):=by rw [lookup_putF,if_neg (by decide +kernel)]; exact r1
 show tSeq _ _ _ _ (upd (upd H1 l2 (.lst (bars.map V.str))) f (.ins CF dx (putF "bar_names" (.ref l2) (putF "row" (.ref l1) fs))))
 generalize hfs2:putF "bar_names" (.ref l2) (putF "row" (.ref l1) fs) = fs2 at f2 e2 g2 p2 r2 x2 |-
 generalize upd (upd H1 l2 (.lst (bars.map V.str))) f (.ins CF dx fs2) = H2 at x2 f2 e2 g2 |-
 have hp2:=pats_sx hf nw x2 hp
 refine ⟨_,rfl,f,CF,dx,_,_,rfl,f2,FK.cl,FK.n1,r2,l1,rfl,⟨_,SqL.of e2⟩,fun D hD=>?_⟩
 refine lc_list (K:=K) (xs:=ps.map V.ref) (fun i ys H'=>Same H2 H'/\H' D = some (.lst ys)/\ys.length = plN (rows.take i)) ⟨same_new hD _,upd_same,rfl⟩ (fun i ys H' h=>SqL.of (h.1 _ _ e2)) ?_ ?_
 ·rintro i x ys H' hlt hx ⟨sH,hDy,ey⟩
  obtain ⟨pa,hpa,rfl⟩:=refs_at hx
  obtain ⟨r,hr',dx',hdx⟩:=paired_at hp2 hpa
  have rok:=hok r (List.mem_of_getElem? hr')
  have C:=PP r.k rok.1
  have nl:ys.length<=i:=by
   rw [ey]
   unfold plN
   refine Nat.le_trans (List.length_filter_le _ _) ?_
   rw [List.length_take]
   omega
  have hd2:=sH _ _ hdx
  refine ⟨_,rfl,pa,_,dx',_,rfl,⟨r.k,rok.1,rfl⟩,hd2,pf_no (by decide +kernel) (by decide +kernel) (by decide +kernel),pa,dx',_,_,_,_,rfl,C,hd2,_,rfl,?_⟩
  rw [in_pl r.k rok.1]
  have tk:=pl_take hr'
  refine ⟨fun e=>?_,fun e=>?_⟩
  ·rw [e,if_pos rfl] at tk
   refine ⟨_,rfl,lcN.mk hlt (le1000 (by rw [List.length_map,hp.length]; omega)) hDy nl ⟨fun b u e=>?_,upd_same,?_⟩⟩
   ·rw [upd_ne (ne_of_none e hD)]
    exact sH b u e
   ·rw [List.length_append,ey,tk]
    rfl
  ·rw [e,if_neg Bool.false_ne_true] at tk
   exact lcS.mk hlt ⟨sH,hDy,by rw [ey,tk]; rfl⟩
 rintro ys H3 ⟨s3,hDy,ey⟩
 rw [List.length_map,hp.length,List.take_length] at ey
 refine ⟨D,_,rfl,.inl (SqL.of hDy),?_⟩
 rw [ey]
 have x3:=x2.same s3
 refine ⟨_,rfl,f,CF,dx,_,rfl,s3 _ _ f2,FK.cl,FK.n3,(by omega),?_⟩
 have f3:upd H3 f (.ins CF dx (putF "place_count" (.int (plN rows:Nat)) fs2)) f = some (.ins CF dx (putF "place_count" (.int (plN rows:Nat)) fs2)):=upd_same
 have x4:SX f H (upd H3 f (.ins CF dx (putF "place_count" (.int (plN rows:Nat)) fs2))):=x3.upd
 have e4:upd H3 f (.ins CF dx (putF "place_count" (.int (plN rows:Nat)) fs2)) l1 = some (.lst (ps.map V.ref)):=by rw [upd_ne (ne_of e2 f2 (by intro z; cases z))]; exact s3 _ _ e2
 have g4:upd H3 f (.ins CF dx (putF "place_count" (.int (plN rows:Nat)) fs2)) l2 = some (.lst (bars.map V.str)):=by rw [upd_ne (ne_of g2 f2 (by intro z; cases z))]; exact s3 _ _ g2
 have p3:=putF_le "place_count" (.int (plN rows:Nat)) fs2
 have r3:(putF "place_count" (.int (plN rows:Nat)) fs2).lookup ("row" : Str) = some (.ref l1):=by rw [lookup_putF,if_neg (by decide +kernel)]; exact r2
 show tSeq _ _ _ _ (upd H3 f (.ins CF dx (putF "place_count" (.int (plN rows:Nat)) fs2)))
 generalize hfs3:putF "place_count" (.int (plN rows:Nat)) fs2 = fs3 at f3 x4 e4 g4 p3 r3 |-
 generalize upd H3 f (.ins CF dx fs3) = H4 at x4 f3 e4 g4 |-
 refine ⟨_,rfl,f,CF,dx,_,_,rfl,f3,FK.cl,FK.n1,r3,l1,ps,rows,2,rfl,by decide,e4,pats_sx hf nw x4 hp,hok,fun H5 s5=>?_⟩
 refine ⟨_,rfl,f,CF,dx,_,rfl,s5 _ _ f3,FK.cl,FK.n4,(by omega),?_⟩
 have f5:upd H5 f (.ins CF dx (putF "tail_number" (numV (firstK 2 0 rows)) fs3)) f = some (.ins CF dx (putF "tail_number" (numV (firstK 2 0 rows)) fs3)):=upd_same
 have x5:SX f H (upd H5 f (.ins CF dx (putF "tail_number" (numV (firstK 2 0 rows)) fs3))):=(x4.same s5).upd
 have e5:upd H5 f (.ins CF dx (putF "tail_number" (numV (firstK 2 0 rows)) fs3)) l1 = some (.lst (ps.map V.ref)):=by rw [upd_ne (ne_of e4 f3 (by intro z; cases z))]; exact s5 _ _ e4
 have g5:upd H5 f (.ins CF dx (putF "tail_number" (numV (firstK 2 0 rows)) fs3)) l2 = some (.lst (bars.map V.str)):=by rw [upd_ne (ne_of g4 f3 (by intro z; cases z))]; exact s5 _ _ g4
 have p4:=putF_le "tail_number" (numV (firstK 2 0 rows)) fs3
 have r4:(putF "tail_number" (numV (firstK 2 0 rows)) fs3).lookup ("row" : Str) = some (.ref l1):=by rw [lookup_putF,if_neg (by decide +kernel)]; exact r3
 show tSeq _ _ _ _ (upd H5 f (.ins CF dx (putF "tail_number" (numV (firstK 2 0 rows)) fs3)))
 generalize hfs4:putF "tail_number" (numV (firstK 2 0 rows)) fs3 = fs4 at f5 x5 e5 g5 p4 r4 |-
 generalize upd H5 f (.ins CF dx fs4) = H6 at x5 f5 e5 g5 |-
 refine ⟨_,rfl,f,CF,dx,_,_,rfl,f5,FK.cl,FK.n1,r4,l1,ps,rows,4,rfl,by decide,e5,pats_sx hf nw x5 hp,hok,fun H7 s7=>?_⟩
 refine ⟨_,rfl,f,CF,dx,_,rfl,s7 _ _ f5,FK.cl,FK.n5,(by omega),?_⟩
 have f7:upd H7 f (.ins CF dx (putF "bag_number" (numV (firstK 4 0 rows)) fs4)) f = some (.ins CF dx (putF "bag_number" (numV (firstK 4 0 rows)) fs4)):=upd_same
 have x7:SX f H (upd H7 f (.ins CF dx (putF "bag_number" (numV (firstK 4 0 rows)) fs4))):=(x5.same s7).upd
 have e7:upd H7 f (.ins CF dx (putF "bag_number" (numV (firstK 4 0 rows)) fs4)) l1 = some (.lst (ps.map V.ref)):=by rw [upd_ne (ne_of e5 f5 (by intro z; cases z))]; exact s7 _ _ e5
 have g7:upd H7 f (.ins CF dx (putF "bag_number" (numV (firstK 4 0 rows)) fs4)) l2 = some (.lst (bars.map V.str)):=by rw [upd_ne (ne_of g5 f5 (by intro z; cases z))]; exact s7 _ _ g5
 have p5:=putF_le "bag_number" (numV (firstK 4 0 rows)) fs4
 have r5:(putF "bag_number" (numV (firstK 4 0 rows)) fs4).lookup ("row" : Str) = some (.ref l1):=by rw [lookup_putF,if_neg (by decide +kernel)]; exact r4
 generalize hfs5:putF "bag_number" (numV (firstK 4 0 rows)) fs4 = fs5 at f7 x7 e7 g7 p5 r5 |-
 generalize upd H7 f (.ins CF dx fs5) = H8 at x7 f7 e7 g7 |-
 have hp8:=pats_sx hf nw x7 hp
 refine ⟨_,rfl,f,CF,dx,_,_,rfl,f7,FK.cl,FK.n1,r5,l1,rfl,⟨_,SqL.of e7⟩,fun D2 hD2=>?_⟩
 refine dc_enum (K:=K) (xs:=ps.map V.ref) (fun i ys H'=>Same H8 H'/\H' D2 = some (.dK ys)/\ys = doorsF 0 [] (rows.take i)) ⟨same_new hD2 _,upd_same,rfl⟩ (fun i ys H' h=>SqL.of (h.1 _ _ e7)) ?_ ?_
 ·rintro i x p ys H' hlt hx ⟨sH,hDy,ey⟩ hpn
  obtain ⟨pa,hpa,rfl⟩:=refs_at hx
  obtain ⟨r,hr',dx',hdx⟩:=paired_at hp8 hpa
  have rok:=hok r (List.mem_of_getElem? hr')
  have C:=PP r.k rok.1
  have sp:=same_new hpn (.tup [.int (i:Nat),.ref pa])
  have hd2:=sp _ _ (sH _ _ hdx)
  have hDp:upd H' p (.tup [.int (i:Nat),.ref pa]) D2 = some (.dK ys):=by rw [upd_ne (ne_of_none hDy hpn)]; exact hDy
  have nl:ys.length<=i:=by
   rw [ey]
   refine Nat.le_trans (doors_len _ _ _) ?_
   rw [List.length_take]
   show 0 + _<=i
   omega
  refine ⟨p,_,rfl,SqT.of upd_same,rfl,_,_,rfl,_,_,rfl,rfl,?_⟩
  refine ⟨_,rfl,pa,_,dx',_,rfl,⟨r.k,rok.1,rfl⟩,hd2,pf_no (by decide +kernel) (by decide +kernel) (by decide +kernel),pa,dx',_,_,_,_,rfl,C,hd2,_,rfl,?_⟩
  rw [in_nm r.k rok.1]
  have tk:=doorsF_take rows 0 i [] hr'
  refine ⟨fun e=>?_,fun e=>?_⟩
  ·rw [e,if_pos rfl] at tk
   refine ⟨_,rfl,pa,_,dx',_,_,rfl,hd2,C.cl,C.nN,pf_name,_,rfl,dcN.mk (.inr r.z) hlt rfl (le1000 (by rw [List.length_map,hp.length]; omega)) hDp nl ⟨fun b u e=>?_,upd_same,?_⟩⟩
   ·rw [upd_ne (ne_of_none e hD2)]
    exact sp _ _ (sH b u e)
   ·rw [tk,<- ey,Nat.zero_add]
  ·rw [e,if_neg Bool.false_ne_true] at tk
   exact dcS.mk hlt ⟨sH.trans sp,hDp,by rw [ey,tk]⟩
 rintro ys H9 ⟨s9,hDy,ey⟩
 rw [List.length_map,hp.length,List.take_length] at ey
 refine ⟨_,rfl,f,CF,dx,_,rfl,s9 _ _ f7,FK.cl,FK.n6,(by omega),?_⟩
 have nf:∀ {x:Addr} {o:HO},H9 x = some o->(∀ C d g,o ≠ .ins C d g)->upd H9 f (.ins CF dx (putF "doors" (.ref D2) fs5)) x = some o:=fun {x o} e n=>by
  rw [upd_ne (ne_of e (s9 _ _ f7) (by intro z; exact n _ _ _ z))]
  exact e
 refine q _ (x7.same s9).upd ⟨dx,_,l1,l2,D2,ps,upd_same,?_,nf (s9 _ _ e7) (by intro _ _ _ z; cases z),pats_sx hf nw (x7.same s9).upd hp,nf (s9 _ _ g7) (by intro _ _ _ z; cases z),nf (by rw [hDy,ey]) (by intro _ _ _ z; cases z),hl1,hlb⟩ ⟨dx,_,upd_same,Nat.le_trans (putF_le _ _ _) (by omega)⟩
 rw [<- hfs5,<- hfs4,<- hfs3,<- hfs2]
 refine ⟨?_,?_,?_,?_,?_,?_,fun mm hm=>?_⟩
 ·rw [lookup_putF,if_neg (by decide +kernel),lookup_putF,if_neg (by decide +kernel),lookup_putF,if_neg (by decide +kernel),lookup_putF,if_neg (by decide +kernel),lookup_putF,if_neg (by decide +kernel),lookup_putF,if_pos rfl]
 ·rw [lookup_putF,if_neg (by decide +kernel),lookup_putF,if_neg (by decide +kernel),lookup_putF,if_neg (by decide +kernel),lookup_putF,if_neg (by decide +kernel),lookup_putF,if_pos rfl]
 ·rw [lookup_putF,if_neg (by decide +kernel),lookup_putF,if_neg (by decide +kernel),lookup_putF,if_neg (by decide +kernel),lookup_putF,if_pos rfl]
 ·rw [lookup_putF,if_neg (by decide +kernel),lookup_putF,if_neg (by decide +kernel),lookup_putF,if_pos rfl]
 ·rw [lookup_putF,if_neg (by decide +kernel),lookup_putF,if_pos rfl]
 ·rw [lookup_putF,if_pos rfl]
 ·have h':∀ a ∈ attrs,¬ mm = a:=fun a ha e=>hm (e ▸ ha)
  rw [lookup_putF,if_neg (h' _ (by decide +kernel)),lookup_putF,if_neg (h' _ (by decide +kernel)),lookup_putF,if_neg (h' _ (by decide +kernel)),lookup_putF,if_neg (h' _ (by decide +kernel)),lookup_putF,if_neg (h' _ (by decide +kernel)),lookup_putF,if_neg (h' _ (by decide +kernel))]
  exact pn mm hm
end
def spFI (c:C5) (CF:Addr):Sp:=fun vs H Q _=>∃ (f a dx:Addr) (bv:V) (ps:List Addr) (rows:List Rw) (bars:List Str),vs = [.ref f,.ref a,bv]/\H f = some (.ins CF dx [])/\H a = some (.lst (ps.map V.ref))/\Paired (PAt c H) ps rows/\((bv = .non/\bars = [])\/∃ b,bv = .ref b/\H b = some (.lst (bars.map V.str)))/\Valid rows bars/\
 ∀ H',SX f H H'->FormN c CF H H' f rows bars->(∃ dx' fs',H' f = some (.ins CF dx' fs')/\fs'.length<=6)->Q .non H'
def spPars (c:C5) (CF:Addr):Sp:=fun vs H Q _=>∃ (f:Addr) (rows:List Rw) (bars:List Str),vs = [.ref f]/\FormAt c CF H f rows bars/\∀ (l:Addr) (ps:List Addr) (H':Hp),Same H H'->H l = none->H' l = some (.lst (ps.map V.ref))->Paired (PAt c H') ps rows->Q (.ref l) H'
def spBars (c:C5) (CF:Addr):Sp:=fun vs H Q _=>∃ (f:Addr) (rows:List Rw) (bars:List Str),vs = [.ref f]/\FormAt c CF H f rows bars/\∀ (l:Addr) (H':Hp),Same H H'->H l = none->H' l = some (.lst (bars.map V.str))->Q (.ref l) H'
def spPlaces (c:C5) (CF:Addr):Sp:=fun vs H Q _=>∃ (f:Addr) (rows:List Rw) (bars:List Str),vs = [.ref f]/\FormAt c CF H f rows bars/\Q (.int (plN rows:Nat)) H
def spWord (c:C5) (CF:Addr) (kk:Nat):Sp:=fun vs H Q _=>∃ (f:Addr) (rows:List Rw) (bars:List Str),vs = [.ref f]/\FormAt c CF H f rows bars/\Q (numV (firstK kk 0 rows)) H
def spNum (c:C5) (CF:Addr):Sp:=fun vs H Q _=>∃ (f:Addr) (z:Str) (rows:List Rw) (bars:List Str),vs = [.ref f,.str z]/\FormAt c CF H f rows bars/\Q ((valV (doorsF 0 [] rows) (.inr z)).getD .non) H
def TAt (H:Hp) (u:Addr) (r:Rw):Prop:=H u = some (.tup (rv r))
def spFTold (c:C5) (CF:Addr):Sp:=fun vs H Q _=>∃ (f:Addr) (rows:List Rw) (bars:List Str),vs = [.ref f]/\(∀ r ∈ rows,r.ok)/\rows.length<=500/\FormAt c CF H f rows bars/\∀ (t l1 l2:Addr) (us:List Addr) (H':Hp),Same H H'->H l1 = none->H l2 = none->l1 ≠ l2->H' t = some (.tup [.ref l1,.ref l2])->
 H' l1 = some (.lst (us.map V.ref))->Paired (TAt H') us rows->H' l2 = some (.lst (bars.map V.str))->Q (.ref t) H'
theorem tats_same {H H':Hp} {us:List Addr} {rows:List Rw} (s:Same H H') (h:Paired (TAt H) us rows):Paired (TAt H') us rows:=Paired.imp' (fun _ _ z=>s _ _ z) h
section
variable {P:Program} {w:World} {K:Frag} {mg:Str->Option Value} {base:Heap} {f G sg CF:Addr} {fd:FuncData} {c:C5} {m:MA}
theorem scFInit:FnScope ["self","parameters","bars","names"] ["self","parameters","bars"] (defScope sFInit):=⟨rfl,rfl,rfl,by decide +kernel,rfl,by decide +kernel,by decide +kernel⟩
theorem ok_finit {ds:List Value} {g1 g2 g3 g4 g5:Addr} {e1 e2 e3 e4 e5:FuncData} (F:FunD K "__init__" "Form.__init__" sFInit f fd ds) (FK:FC K CF) (mK:Meth K CF "keep" g5)
  (cM:Callee P w K mg base 1 "refuse_too_many" g1 e1 ["parameters","bars"] (spMany K)) (cO:Callee P w K mg base 1 "refuse_bad_order" g2 e2 ["parameters"] (spOrd c)) (cB':Callee P w K mg base 2 "refuse_bars_without_name" g3 e3 ["bars"] spRB) (cT:Callee P w K mg base 2 "refuse_twice" g4 e4 ["parameters","bars"] (spTw c))
  (GK:FnOk P w K mg base CX0 2 g5 e5 ["self","parameters","bars"] (spKeep c CF)) (bK:Binds K e5 ["self","parameters","bars"] []):FnOk P w K mg base CX0 3 f fd ["self","parameters","bars"] (spFI c CF):=by
 refine F.ok scFInit (fun vs H Q E h=>?_) (fun cdv A outer s H vs Q E hr h=>?_)
 ·obtain ⟨f,a,dx,bv,ps,rows,bars,rfl,_⟩:=h
  rfl
 obtain ⟨f,a,dx,bv,ps,rows,bars,rfl,hf,ha,hp,hb,V',q⟩:=h
 have hr1:Room 1 _:=hr.mono (by decide)
 refine ⟨_,pss_cons (ps_set (i:=3) scFInit.nd rfl (Or.inl rfl) (pe_ifExp (pt_cmp (pc_isN (pv 2))) (pe_lst pa_nil) (pv 2)))
  (pss_cons (ps_expr (cF cM hr1 (ac (pv 1) (ac (pv 3) pa_nil))))
  (pss_cons (ps_expr (cF cO hr1 (ac (pv 1) pa_nil)))
  (pss_cons (ps_expr (cF cB' hr (ac (pv 3) pa_nil)))
  (pss_cons (ps_expr (cF cT hr (ac (pv 1) (ac (pv 3) pa_nil))))
  (pss_one (ps_expr (pe_meth (pv 0) FK.cl mK GK hr bK .nil pass0 (ac (pv 1) (ac (pv 3) pa_nil))))))))),?_⟩
 try dsimp only
 refine seq_via (fun σ' H'=>∃ b,σ' = [some (.ref f),some (.ref a),some bv,some (.ref b)]/\Same H H'/\H' b = some (.lst (bars.map V.str))) ?_ (fun key=>?_)
 rotate_left
 ·rcases hb with ⟨rfl,rfl⟩ | ⟨b,rfl,hb⟩
  ·refine ⟨_,rfl,_,rfl,?_⟩
   refine dT rfl ?_
   refine ⟨zz0,fun l hl=>?_⟩
   exact key _ _ ⟨l,rfl,same_new hl _,upd_same⟩
  ·refine ⟨_,rfl,_,rfl,?_⟩
   refine dF (by intro z; cases z) ?_
   exact ⟨_,rfl,key _ _ ⟨b,rfl,Same.refl _,hb⟩⟩
 rintro σ1 H1 ⟨b,rfl,s1,hb1⟩
 have ha1:=s1 _ _ ha
 refine ⟨_,rfl,_,rfl,a,b,_,_,rfl,SqL.of ha1,SqL.of hb1,(by rw [List.length_map,hp.length]; exact V'.l24),(by rw [List.length_map]; exact V'.l60),?_⟩
 refine ⟨_,rfl,a,ps,rows,rfl,ha1,pats_same s1 hp,V'.ok,V'.ord,fun H2 s2=>?_⟩
 refine ⟨_,rfl,b,bars,rfl,s2 _ _ hb1,V'.bn,fun H3 s3=>?_⟩
 have s13:=s1.trans (s2.trans s3)
 refine ⟨_,rfl,_,rfl,a,b,ps,rows,bars,rfl,s13 _ _ ha,pats_same s13 hp,V'.ok,Nat.le_trans V'.l24 (by decide),s3 _ _ (s2 _ _ hb1),Nat.le_trans V'.l60 (by decide),V'.nd,fun H4 s4=>?_⟩
 have s14:=s13.trans s4
 refine ⟨_,rfl,f,dx,_,rfl,s14 _ _ hf,rfl,_,rfl,_,rfl,f,a,b,dx,[],ps,rows,bars,rfl,s14 _ _ hf,⟨by decide,fun _ _=>rfl⟩,s14 _ _ ha,pats_same s14 hp,V'.ok,Nat.le_trans V'.l24 (by decide),s4 _ _ (s3 _ _ (s2 _ _ hb1)),fun H5 x5 F5 L5=>?_⟩
 exact q _ (fun b' u e n=>x5 b' u (s14 _ _ e) n) (F5.of s14) L5
theorem scFPars:FnScope ["self"] ["self"] (defScope sFPars):=⟨rfl,rfl,rfl,by decide +kernel,rfl,by decide +kernel,by decide +kernel⟩
theorem ok_fpars (F:Fun K "parameters" "Form.parameters" sFPars f fd) (T:TxtF w K mg G sg) (FK:FC K CF):FnOk P w K mg base CX0 1 f fd ["self"] (spPars c CF):=by
 refine F.ok scFPars (fun vs H Q E h=>?_) (fun cdv A outer s H vs Q E hr h=>?_)
 ·obtain ⟨f,rows,bars,rfl,_⟩:=h
  rfl
 obtain ⟨f,rows,bars,rfl,⟨dx,fs,lr,lb,ld,ps,h1,h2,h3,h4,h5,h6⟩,q⟩:=h
 refine ⟨_,pss_one (ps_ret (cTy call_list_of T.lst PyProof.Rows.boot_list (ac (pe_fld (pv 0) rfl) pa_nil))),?_⟩
 refine ⟨_,rfl,f,CF,dx,_,_,rfl,h1,FK.cl,FK.n1,h2.row,lr,_,rfl,.inl (SqL.of h3),fun l hl=>?_⟩
 have s1:=same_new hl (.lst (ps.map V.ref))
 exact q l ps _ s1 hl upd_same (pats_same s1 h4)
theorem scFBars:FnScope ["self"] ["self"] (defScope sFBars):=⟨rfl,rfl,rfl,by decide +kernel,rfl,by decide +kernel,by decide +kernel⟩
theorem ok_fbars (F:Fun K "bars" "Form.bars" sFBars f fd) (T:TxtF w K mg G sg) (FK:FC K CF):FnOk P w K mg base CX0 1 f fd ["self"] (spBars c CF):=by
 refine F.ok scFBars (fun vs H Q E h=>?_) (fun cdv A outer s H vs Q E hr h=>?_)
 ·obtain ⟨f,rows,bars,rfl,_⟩:=h
  rfl
 obtain ⟨f,rows,bars,rfl,⟨dx,fs,lr,lb,ld,ps,h1,h2,h3,h4,h5,h6⟩,q⟩:=h
 refine ⟨_,pss_one (ps_ret (cTy call_list_of T.lst PyProof.Rows.boot_list (ac (pe_fld (pv 0) rfl) pa_nil))),?_⟩
 refine ⟨_,rfl,f,CF,dx,_,_,rfl,h1,FK.cl,FK.n2,h2.bn,lb,_,rfl,.inl (SqL.of h5),fun l hl=>?_⟩
 exact q l _ (same_new hl _) hl upd_same
theorem scFPlaces:FnScope ["self"] ["self"] (defScope sFPlaces):=⟨rfl,rfl,rfl,by decide +kernel,rfl,by decide +kernel,by decide +kernel⟩
theorem ok_fplaces (F:Fun K "places" "Form.places" sFPlaces f fd) (FK:FC K CF):FnOk P w K mg base CX0 1 f fd ["self"] (spPlaces c CF):=by
 refine F.ok scFPlaces (fun vs H Q E h=>?_) (fun cdv A outer s H vs Q E hr h=>?_)
 ·obtain ⟨f,rows,bars,rfl,_⟩:=h
  rfl
 obtain ⟨f,rows,bars,rfl,⟨dx,fs,lr,lb,ld,ps,h1,h2,h3,h4,h5,h6⟩,q⟩:=h
 exact ⟨_,pss_one (ps_ret (pe_fld (pv 0) rfl)),_,rfl,f,CF,dx,_,_,rfl,h1,FK.cl,FK.n3,h2.pc,q⟩
theorem scFTail:FnScope ["self"] ["self"] (defScope sFTail):=⟨rfl,rfl,rfl,by decide +kernel,rfl,by decide +kernel,by decide +kernel⟩
theorem ok_ftail (F:Fun K "tail" "Form.tail" sFTail f fd) (FK:FC K CF):FnOk P w K mg base CX0 1 f fd ["self"] (spWord c CF 2):=by
 refine F.ok scFTail (fun vs H Q E h=>?_) (fun cdv A outer s H vs Q E hr h=>?_)
 ·obtain ⟨f,rows,bars,rfl,_⟩:=h
  rfl
 obtain ⟨f,rows,bars,rfl,⟨dx,fs,lr,lb,ld,ps,h1,h2,h3,h4,h5,h6⟩,q⟩:=h
 exact ⟨_,pss_one (ps_ret (pe_fld (pv 0) rfl)),_,rfl,f,CF,dx,_,_,rfl,h1,FK.cl,FK.n4,h2.tn,q⟩
theorem scFBag:FnScope ["self"] ["self"] (defScope sFBag):=⟨rfl,rfl,rfl,by decide +kernel,rfl,by decide +kernel,by decide +kernel⟩
theorem ok_fbag (F:Fun K "bag" "Form.bag" sFBag f fd) (FK:FC K CF):FnOk P w K mg base CX0 1 f fd ["self"] (spWord c CF 4):=by
 refine F.ok scFBag (fun vs H Q E h=>?_) (fun cdv A outer s H vs Q E hr h=>?_)
 ·obtain ⟨f,rows,bars,rfl,_⟩:=h
  rfl
 obtain ⟨f,rows,bars,rfl,⟨dx,fs,lr,lb,ld,ps,h1,h2,h3,h4,h5,h6⟩,q⟩:=h
 exact ⟨_,pss_one (ps_ret (pe_fld (pv 0) rfl)),_,rfl,f,CF,dx,_,_,rfl,h1,FK.cl,FK.n5,h2.bg,q⟩
theorem scFNum:FnScope ["self","name"] ["self","name"] (defScope sFNum):=⟨rfl,rfl,rfl,by decide +kernel,rfl,by decide +kernel,by decide +kernel⟩
theorem ok_fnum (F:Fun K "number_of" "Form.number_of" sFNum f fd) (FK:FC K CF):FnOk P w K mg base CX0 1 f fd ["self","name"] (spNum c CF):=by
 refine F.ok scFNum (fun vs H Q E h=>?_) (fun cdv A outer s H vs Q E hr h=>?_)
 ·obtain ⟨f,z,rows,bars,rfl,_⟩:=h
  rfl
 obtain ⟨f,z,rows,bars,rfl,⟨dx,fs,lr,lb,ld,ps,h1,h2,h3,h4,h5,h6⟩,q⟩:=h
 refine ⟨_,pss_one (ps_ret (pe_dget1 (hu_of hr) (pe_fld (pv 0) rfl) (pv 1) ⟨rfl,rfl,rfl,rfl⟩)),?_⟩
 refine ⟨_,rfl,f,CF,dx,_,_,rfl,h1,FK.cl,FK.n6,h2.dr,ld,rfl,?_,_,rfl,_,.inl ⟨_,.inr z,.inl h6,rfl,rfl⟩,q⟩
 exact .inl ⟨_,.inl h6⟩
theorem scFTold:FnScope ["self"] ["self"] (defScope sFTold):=⟨rfl,rfl,rfl,by decide +kernel,rfl,by decide +kernel,by decide +kernel⟩
theorem ok_ftold {gd:FuncData} (F:Fun K "told" "Form.told" sFTold f fd) (T:TxtF w K mg G sg) (FK:FC K CF) (PP:Pcs K m c) (GO:FnOk P w K mg base CX0 2 m.fO gd ["self"] (spTold K m)) (bO:Binds K gd ["self"] []):FnOk P w K mg base CX0 3 f fd ["self"] (spFTold c CF):=by
 refine F.ok scFTold (fun vs H Q E h=>?_) (fun cdv A outer s H vs Q E hr h=>?_)
 ·obtain ⟨f,rows,bars,rfl,_⟩:=h
  rfl
 obtain ⟨f,rows,bars,rfl,hok,l5,⟨dx,fs,lr,lb,ld,ps,h1,h2,h3,h4,h5,h6⟩,q⟩:=h
 have hO:∀ C,Cs5 c C->Cls K C/\Meth K C "told" m.fO:=fun C ⟨k,hk,e⟩=>by rw [e]; exact ⟨(PP k hk).cl,(PP k hk).mO⟩
 refine ⟨_,pss_one (ps_ret (pe_tup (ac (pe_lc [] ["parameter"] [none] rfl ⟨rfl,rfl,rfl,rfl⟩ (pi_list (pe_fld (pv 0) rfl)) (gown_name 0) rfl rfl rfl
   (fun pins fp s H C=>⟨pg_name (i:=0) ndPm rfl (Or.inl rfl) (.inr rfl),pif_nil,pe_methP (pv 0) hO GO hr bO pass0⟩)) (ac (cTy call_list_of T.lst PyProof.Rows.boot_list (ac (pe_fld (pv 0) rfl) pa_nil)) pa_nil)))),?_⟩
 refine ⟨_,rfl,f,CF,dx,_,_,rfl,h1,FK.cl,FK.n1,h2.row,lr,rfl,⟨_,SqL.of h3⟩,fun D hD=>?_⟩
 refine lc_list (K:=K) (xs:=ps.map V.ref) (fun i ys H'=>Same H H'/\H' D = some (.lst ys)/\∃ us,ys = us.map V.ref/\Paired (TAt H') us (rows.take i)) ⟨same_new hD _,upd_same,[],rfl,.nil⟩ (fun i ys H' h=>SqL.of (h.1 _ _ h3)) ?_ ?_
 ·rintro i x ys H' hlt hx ⟨sH,hDy,us,ey,pu⟩
  obtain ⟨pa,hpa,rfl⟩:=refs_at hx
  obtain ⟨r,hr',dx',hdx⟩:=paired_at h4 hpa
  have rok:=hok r (List.mem_of_getElem? hr')
  have C:=PP r.k rok.1
  have hd2:=sH _ _ hdx
  have hi:i < rows.length:=(List.getElem?_eq_some_iff.mp hr').1
  have er:rows[i] = r:=by rw [List.getElem?_eq_getElem hi] at hr'; exact Option.some.inj hr'
  refine ⟨fun _=>?_,fun e=>Bool.noConfusion e⟩
  refine ⟨_,rfl,pa,_,dx',_,rfl,⟨r.k,rok.1,rfl⟩,hd2,pf_no (by decide +kernel) (by decide +kernel) (by decide +kernel),pa,dx',_,r.k,.str r.z,r.b,rfl,rok.1,C,hd2,fun u H2 s2 hu2=>?_⟩
  have nl:ys.length<=i:=by
   rw [ey,List.length_map,pu.length,List.length_take]
   omega
  have nDu:u ≠ D:=fun z=>by
   rw [z,s2 _ _ hDy] at hu2
   cases hu2
  refine lcN.mk hlt (le1000 (by rw [List.length_map,h4.length]; omega)) (s2 _ _ hDy) nl ⟨fun b u' e=>?_,upd_same,us ++ [u],by rw [ey,List.map_append]; rfl,?_⟩
  ·rw [upd_ne (ne_of_none e hD)]
   exact s2 _ _ (sH b u' e)
  ·rw [List.take_succ_eq_append_getElem hi,er]
   refine Paired.snoc (Paired.imp' (fun v r' z=>?_) pu) ?_
   ·have z2:H2 v = some (.tup (rv r')):=s2 _ _ z
    show upd H2 D _ v = some (.tup (rv r'))
    rw [upd_ne (fun e=>by rw [e,s2 _ _ hDy] at z2; cases z2)]
    exact z2
   ·show upd H2 D _ u = some (.tup (rv r))
    rw [upd_ne nDu]
    exact hu2
 rintro ys H2 ⟨s2,hDy,us,rfl,pu⟩
 rw [List.length_map,h4.length,List.take_length] at pu
 refine ⟨_,rfl,f,CF,dx,_,_,rfl,s2 _ _ h1,FK.cl,FK.n2,h2.bn,lb,_,rfl,.inl (SqL.of (s2 _ _ h5)),fun l2 hl2=>?_⟩
 have s3:=same_new hl2 (.lst (bars.map V.str))
 refine ⟨zz2,fun t ht=>?_⟩
 have s4:=same_new ht (.tup [.ref D,.ref l2])
 exact q t D l2 us _ (s2.trans (s3.trans s4)) hD (s2.free hl2) (ne_of_none hDy hl2) upd_same (s4 _ _ (s3 _ _ hDy)) (tats_same (s3.trans s4) pu) (s4 _ _ upd_same)
end
inductive Item where
 | one (t:Int) | row (ts:List Int) | named (n:Str) (t:Int) | book (ps:List (Str × Int))
def pairD (p:Str × Int):Dt:=.tup [.str p.1,.int p.2]
def itemD:Item->Dt
 | .one t=>.tup [.str "one",.int t]
 | .row ts=>.tup [.str "row",.lst (ts.map .int)]
 | .named n t=>.tup [.str "named",.str n,.int t]
 | .book ps=>.tup [.str "book",.lst (ps.map pairD)]
def itT:Item->List Int
 | .one t=>[t]
 | .row ts=>ts
 | _=>[]
def itP:Item->List (Str × Int)
 | .named n t=>[(n,t)]
 | .book ps=>ps
 | _=>[]
def laidT (c:List Item):List Int:=(c.map itT).flatten
def laidP (c:List Item):List (Str × Int):=(c.map itP).flatten
abbrev T':Addr->Prop:=fun _=>True
def Two (K:Frag) (H H':Hp) (p:Addr) (ts:List Int) (ps:List (Str × Int)):Prop:=
 ∃ l1 l2 xs,H l1 = none/\H l2 = none/\l1 ≠ l2/\H p = none/\H' p = some (.tup [.ref l1,.ref l2])/\H' l1 = some (.lst (ts.map V.int))/\H' l2 = some (.lst xs)/\Paired (Says K T' H' 1) xs (ps.map pairD)
def spLaid (K:Frag):Sp:=fun vs H Q _=>∃ (a:Addr) (c:List Item) (xs:List V),vs = [.ref a]/\SqL K H a xs/\Paired (Says K T' H 3) xs (c.map itemD)/\(laidT c).length<=900/\(laidP c).length<=900/\
 ∀ (p:Addr) (H':Hp),Same H H'->Two K H H' p (laidT c) (laidP c)->Q (.ref p) H'
section
variable {P:Program} {w:World} {K:Frag} {mg:Str->Option Value} {base:Heap} {f:Addr} {fd:FuncData}
theorem cut_ints (ns:List Int) (lo hi:Option Int):∃ ms:List Int,cutV (ns.map V.int) lo hi = ms.map V.int/\ms.length<=ns.length/\∀ m ∈ ms,m ∈ ns:=by
 refine ⟨(ns.drop (HT.sIx ns.length 0 lo)).take (HT.sIx ns.length ns.length hi - HT.sIx ns.length 0 lo),?_,?_,fun m hm=>List.mem_of_mem_drop (List.mem_of_mem_take hm)⟩
 ·unfold cutV
  rw [List.length_map,List.map_take,List.map_drop]
 ·rw [List.length_take,List.length_drop]
  omega
end
section
variable {K:Frag} {ok:Addr->Prop} {H H':Hp} {n:Nat} {x:V}
theorem says_int {i:Int} (h:Says K ok H n x (.int i)):x = .int i:=by
 have fl:FlatD x (.int i)->x = .int i:=fun h=>by
  cases x <;> first | exact h.elim | (have e:=(show _ = _ from h); rw [e])
 cases n with
 | zero=>exact fl h
 | succ n=>
  rcases h with h | ⟨_,_,_,_,e,_⟩ | ⟨_,_,_,_,e,_⟩
  ·exact fl h
  ·cases e
  ·cases e
theorem says_str {z:Str} (h:Says K ok H n x (.str z)):x = .str z:=by
 have fl:FlatD x (.str z)->x = .str z:=fun h=>by
  cases x <;> first | exact h.elim | (have e:=(show _ = _ from h); rw [e])
 cases n with
 | zero=>exact fl h
 | succ n=>
  rcases h with h | ⟨_,_,_,_,e,_⟩ | ⟨_,_,_,_,e,_⟩
  ·exact fl h
  ·cases e
  ·cases e
theorem says_tup {ds:List Dt} (h:Says K ok H (n + 1) x (.tup ds)):∃ a xs,x = .ref a/\SqT K H a xs/\Paired (Says K ok H n) xs ds:=by
 rcases h with h | ⟨a,xs,ds',e1,e2,e3,r⟩ | ⟨_,_,_,_,e,_⟩
 ·cases x <;> exact h.elim
 ·cases e2; exact ⟨a,xs,e1,e3,r⟩
 ·cases e
theorem says_lst {ds:List Dt} (h:Says K ok H (n + 1) x (.lst ds)):∃ a xs,x = .ref a/\ok a/\H a = some (.lst xs)/\Paired (Says K ok H n) xs ds:=by
 rcases h with h | ⟨_,_,_,_,e,_⟩ | ⟨a,xs,ds',e1,e2,o,e3,r⟩
 ·cases x <;> exact h.elim
 ·cases e
 ·cases e2; exact ⟨a,xs,e1,o,e3,r⟩
theorem says_ints:∀ {ts:List Int} {xs:List V},Paired (Says K ok H n) xs (ts.map .int)->xs = ts.map V.int
 | [],_,r=>by cases r; rfl
 | t :: ts,_,r=>by
  cases r with
  | cons h r=>rw [says_int h,says_ints r]; rfl
theorem ints_says:∀ (ts:List Int),Paired (Says K ok H n) (ts.map V.int) (ts.map .int)
 | []=>.nil
 | t :: ts=>.cons .int (ints_says ts)
theorem paired_app {α β : Type} {F : α->β->Prop}:∀ {a c:List α} {b d:List β},Paired F a b->Paired F c d->Paired F (a ++ c) (b ++ d)
 | _,_,_,_,.nil,s=>s
 | _,_,_,_,.cons r t,s=>.cons r (paired_app t s)
theorem item_one {t:Int} (h:Says K ok H 3 x (itemD (.one t))):∃ a,x = .ref a/\SqT K H a [.str "one",.int t]:=by
 obtain ⟨a,xs,rfl,hS,r⟩:=says_tup h
 cases r with
 | cons h1 r=>cases r with
  | cons h2 r=>cases r; rw [says_str h1,says_int h2] at hS; exact ⟨a,rfl,hS⟩
theorem item_row {ts:List Int} (h:Says K ok H 3 x (itemD (.row ts))):∃ a b,x = .ref a/\SqT K H a [.str "row",.ref b]/\ok b/\H b = some (.lst (ts.map V.int)):=by
 obtain ⟨a,xs,rfl,hS,r⟩:=says_tup h
 cases r with
 | cons h1 r=>cases r with
  | cons h2 r=>
   cases r
   obtain ⟨b,ys,rfl,o,hb,q⟩:=says_lst h2
   rw [says_str h1] at hS
   rw [says_ints q] at hb
   exact ⟨a,b,rfl,hS,o,hb⟩
theorem item_named {z:Str} {t:Int} (h:Says K ok H 3 x (itemD (.named z t))):∃ a,x = .ref a/\SqT K H a [.str "named",.str z,.int t]:=by
 obtain ⟨a,xs,rfl,hS,r⟩:=says_tup h
 cases r with
 | cons h1 r=>cases r with
  | cons h2 r=>cases r with
   | cons h3 r=>cases r; rw [says_str h1,says_str h2,says_int h3] at hS; exact ⟨a,rfl,hS⟩
theorem item_book {ps:List (Str × Int)} (h:Says K ok H 3 x (itemD (.book ps))):∃ a b ys,x = .ref a/\SqT K H a [.str "book",.ref b]/\ok b/\H b = some (.lst ys)/\Paired (Says K ok H 1) ys (ps.map pairD):=by
 obtain ⟨a,xs,rfl,hS,r⟩:=says_tup h
 cases r with
 | cons h1 r=>cases r with
  | cons h2 r=>
   cases r
   obtain ⟨b,ys,rfl,o,hb,q⟩:=says_lst h2
   rw [says_str h1] at hS
   exact ⟨a,b,ys,rfl,hS,o,hb,q⟩
end
theorem laidT_snoc (c:List Item) (i:Nat) (it:Item) (h:c[i]? = some it):laidT (c.take (i + 1)) = laidT (c.take i) ++ itT it:=by
 unfold laidT
 rw [List.take_add_one,h,List.map_append,List.flatten_append]
 simp
theorem laidP_snoc (c:List Item) (i:Nat) (it:Item) (h:c[i]? = some it):laidP (c.take (i + 1)) = laidP (c.take i) ++ itP it:=by
 unfold laidP
 rw [List.take_add_one,h,List.map_append,List.flatten_append]
 simp
theorem laidT_le (c:List Item) (i:Nat):(laidT (c.take i)).length<=(laidT c).length:=by
 unfold laidT
 conv=>rhs; rw [<- List.take_append_drop i c]
 rw [List.map_append,List.flatten_append,List.length_append]
 omega
theorem laidP_le (c:List Item) (i:Nat):(laidP (c.take i)).length<=(laidP c).length:=by
 unfold laidP
 conv=>rhs; rw [<- List.take_append_drop i c]
 rw [List.map_append,List.flatten_append,List.length_append]
 omega
theorem ne1:¬ (V.str "row" = V.str "one"):=by decide +kernel
theorem ne2:¬ (V.str "named" = V.str "one"):=by decide +kernel
theorem ne3:¬ (V.str "book" = V.str "one"):=by decide +kernel
theorem ne4:¬ (V.str "named" = V.str "row"):=by decide +kernel
theorem ne5:¬ (V.str "book" = V.str "row"):=by decide +kernel
theorem ne6:¬ (V.str "book" = V.str "named"):=by decide +kernel
section
variable {P:Program} {w:World} {K:Frag} {mg:Str->Option Value} {base:Heap} {f:Addr} {fd:FuncData}
theorem scLaid:FnScope ["call","things","pairs","item","word"] ["call"] (defScope sLaid):=⟨rfl,rfl,rfl,by decide +kernel,rfl,by decide +kernel,by decide +kernel⟩
theorem same_upd {H H2:Hp} {l:Addr} (s:Same H H2) (h:H l = none) (o:HO):Same H (upd H2 l o):=fun b u q=>by rw [upd_ne (ne_of_none q h)]; exact s b u q
theorem ok_laid (F:Fun K "laid" "laid" sLaid f fd):FnOk P w K mg base CX0 1 f fd ["call"] (spLaid K):=by
 refine F.ok scLaid (fun vs H Q E h=>?_) (fun cdv A outer s H vs Q E hr h=>?_)
 ·obtain ⟨a,c,xs,rfl,_⟩:=h
  rfl
 obtain ⟨a,c,xs,rfl,hS,hc,hT,hP,q⟩:=h
 refine ⟨_,pss_cons (ps_set (i:=1) scLaid.nd rfl (Or.inl rfl) (pe_lst pa_nil)) (pss_cons (ps_set (i:=2) scLaid.nd rfl (Or.inl rfl) (pe_lst pa_nil))
  (pss_cons (ps_for PassesOwn.never rfl (pi_list (pv 0)) (pg_name (i:=3) scLaid.nd rfl (Or.inl rfl))
   (pss_cons (ps_set (i:=4) scLaid.nd rfl (Or.inl rfl) (pe_ix ix_tup (pv 3) pe_int (fun _ _=>rfl)))
   (pss_one (ps_if (pt_cmpR op_eq (pv 4) pe_str (nomark _)) (pss_one (ps_expr (pe_bm PySem.F.plainAttrs_list PySem.F.slot_list_append PySem.F.type_list_append mt_append (pv 1) (ac (pe_ix ix_tup (pv 3) pe_int (fun _ _=>rfl)) pa_nil))))
    (pss_one (ps_if (pt_cmpR op_eq (pv 4) pe_str (nomark _)) (pss_one (ps_expr (pe_bm PySem.F.plainAttrs_list PySem.F.slot_list_extend PySem.F.type_list_extend mt_extend (pv 1) (ac (pe_ix ix_tup (pv 3) pe_int (fun _ _=>rfl)) pa_nil))))
     (pss_one (ps_if (pt_cmpR op_eq (pv 4) pe_str (nomark _)) (pss_one (ps_expr (pe_bm PySem.F.plainAttrs_list PySem.F.slot_list_append PySem.F.type_list_append mt_append (pv 2) (ac (pe_tup (ac (pe_ix ix_tup (pv 3) pe_int (fun _ _=>rfl)) (ac (pe_ix ix_tup (pv 3) pe_int (fun _ _=>rfl)) pa_nil))) pa_nil))))
      (pss_one (ps_expr (pe_bm PySem.F.plainAttrs_list PySem.F.slot_list_extend PySem.F.type_list_extend mt_extend (pv 2) (ac (pe_ix ix_tup (pv 3) pe_int (fun _ _=>rfl)) pa_nil))))))))))))
  (pss_one (ps_ret (pe_tup (ac (pv 1) (ac (pv 2) pa_nil))))))),?_⟩
 refine ⟨zz0,fun l1 h1=>?_⟩
 refine ⟨zz0,fun l2 h2=>?_⟩
 have n12:l1 ≠ l2:=ne_of_none upd_same h2
 have f2:H l2 = none:=(same_new h1 _).free h2
 have s0:Same H (upd (upd H l1 (.lst [])) l2 (.lst [])):=(same_new h1 _).trans (same_new h2 _)
 refine ⟨_,rfl,a,rfl,⟨_,s0.seq hS⟩,for_list (K:=K) (a:=a) (xs:=xs) (fun i σ H2=>∃ v3 v4 ys,σ = [some (.ref a),some (.ref l1),some (.ref l2),v3,v4]/\Same H H2/\H2 l1 = some (.lst ((laidT (c.take i)).map V.int))/\H2 l2 = some (.lst ys)/\Paired (Says K T' H2 1) ys ((laidP (c.take i)).map pairD))
  ⟨_,_,[],rfl,s0,by rw [upd_ne n12,upd_same]; rfl,upd_same,.nil⟩ (fun i σ H2 _ ⟨_,_,_,_,s2,_⟩=>s2.seq hS) ?_ ?_⟩
 ·rintro i y σ H2 hi ⟨v3,v4,ys,rfl,s2,g1,g2,gp⟩
  obtain ⟨d,hd,hy⟩:=Paired.get hc hi
  obtain ⟨it,hit,rfl⟩:∃ it,c[i]? = some it/\itemD it = d:=by
   rw [List.getElem?_map] at hd
   cases e:c[i]? with
   | none=>rw [e] at hd; cases hd
   | some it=>rw [e] at hd; exact ⟨it,rfl,Option.some.inj hd⟩
  have hy2:=hy.same s2
  have eT:=laidT_snoc c i it hit
  have eP:=laidP_snoc c i it hit
  have lT:=laidT_le c i
  have lP:=laidP_le c i
  have lT1:=laidT_le c (i + 1)
  have lP1:=laidP_le c (i + 1)
  have lys:ys.length = (laidP (c.take i)).length:=by rw [gp.length,List.length_map]
  have sT:∀ {H3:Hp} {o:HO} {l:Addr},H3 l = none\/(∃ zs,H3 l = some (.lst zs))->∀ {b zs},SqT K H3 b zs->SqT K (upd H3 l o) b zs:=fun {H3 o l} hl {b zs} hz=>by
   rcases hz with (z | ⟨u,z⟩) | z
   ·refine .inl (.inl ?_)
    have:b ≠ l:=fun e=>by
     subst e
     rcases hl with e | ⟨_,e⟩
     ·rw [e] at z; cases z
     ·rw [e] at z; cases z
    rw [upd_ne this]; exact z
   ·refine .inl (.inr ⟨u,?_⟩)
    have:b ≠ l:=fun e=>by
     subst e
     rcases hl with e | ⟨_,e⟩
     ·rw [e] at z; cases z
     ·rw [e] at z; cases z
    rw [upd_ne this]; exact z
   ·exact .inr z
  have keepP:∀ {H3:Hp} {o:HO} {l:Addr} {zs:List V} {ps:List (Str × Int)},H3 l = none\/(∃ zs,H3 l = some (.lst zs))->Paired (Says K T' H3 1) zs (ps.map pairD)->Paired (Says K T' (upd H3 l o) 1) zs (ps.map pairD):=by
   intro H3 o l zs ps hl r
   induction ps generalizing zs with
   | nil=>cases r; exact .nil
   | cons p ps ih=>
    cases r with
    | cons h r=>
     refine .cons ?_ (ih r)
     obtain ⟨b,ws,rfl,hS',r'⟩:=says_tup h
     exact .tup (sT hl hS') (Paired.imp' (fun _ _ z=>z) r')
  cases it with
  | one t=>
   obtain ⟨b,rfl,hb⟩:=item_one hy2
   refine ⟨_,rfl,b,_,_,.str "one",rfl,rfl,hb,rfl,?_⟩
   refine ⟨_,rfl,rfl,_,rfl,?_⟩
   refine dT rfl ?_
   refine ⟨_,rfl,.inl ⟨rfl,_,SqL.of g1⟩,_,rfl,b,_,_,.int t,rfl,rfl,hb,rfl,l1,_,_,rfl,rfl,g1,?_,?_⟩
   ·rw [List.length_map]; exact small1000 (by omega)
   ·refine ⟨_,_,ys,rfl,same_upd s2 h1 _,?_,?_,?_⟩
    ·rw [upd_same,eT,List.map_append]; rfl
    ·rw [upd_ne n12.symm]; exact g2
    ·rw [eP]; show Paired _ _ ((laidP (c.take i) ++ []).map pairD); rw [List.append_nil]; exact keepP (.inr ⟨_,g1⟩) gp
  | row ts=>
   obtain ⟨b,bl,rfl,hb,_,hbl⟩:=item_row hy2
   refine ⟨_,rfl,b,_,_,.str "row",rfl,rfl,hb,rfl,?_⟩
   refine ⟨_,rfl,rfl,_,rfl,?_⟩
   refine dF ne1 ?_
   refine ⟨_,rfl,rfl,_,rfl,?_⟩
   refine dT rfl ?_
   refine ⟨_,rfl,.inl ⟨rfl,_,SqL.of g1⟩,_,rfl,b,_,_,.ref bl,rfl,rfl,hb,rfl,l1,bl,_,_,rfl,rfl,g1,hbl,?_,?_⟩
   ·have e1:(laidT (c.take (i + 1))).length = (laidT (c.take i)).length + ts.length:=by rw [eT,List.length_append]; rfl
    rw [List.length_map,List.length_map]; exact le1000 (by omega)
   ·refine ⟨_,_,ys,rfl,same_upd s2 h1 _,?_,?_,?_⟩
    ·rw [upd_same,eT,List.map_append]; rfl
    ·rw [upd_ne n12.symm]; exact g2
    ·rw [eP]; show Paired _ _ ((laidP (c.take i) ++ []).map pairD); rw [List.append_nil]; exact keepP (.inr ⟨_,g1⟩) gp
  | named z t=>
   obtain ⟨b,rfl,hb⟩:=item_named hy2
   refine ⟨_,rfl,b,_,_,.str "named",rfl,rfl,hb,rfl,?_⟩
   refine ⟨_,rfl,rfl,_,rfl,?_⟩
   refine dF ne2 ?_
   refine ⟨_,rfl,rfl,_,rfl,?_⟩
   refine dF ne4 ?_
   refine ⟨_,rfl,rfl,_,rfl,?_⟩
   refine dT rfl ?_
   refine ⟨_,rfl,.inl ⟨rfl,_,SqL.of g2⟩,_,rfl,b,_,_,.str z,rfl,rfl,hb,rfl,_,rfl,b,_,_,.int t,rfl,rfl,hb,rfl,zz2,fun p hp=>?_⟩
   have np2:l2 ≠ p:=ne_of_none g2 hp
   have np1:l1 ≠ p:=ne_of_none g1 hp
   have fp:H p = none:=s2.free hp
   refine ⟨l2,_,_,rfl,rfl,(by rw [upd_ne np2]; exact g2),?_,?_⟩
   ·rw [lys]; exact small1000 (by omega)
   ·refine ⟨_,_,ys ++ [.ref p],rfl,same_upd (same_upd s2 fp _) f2 _,?_,upd_same,?_⟩
    ·rw [upd_ne n12,upd_ne np1,g1,eT]; show _ = some (HO.lst ((laidT (c.take i) ++ []).map V.int)); rw [List.append_nil]
    ·rw [eP,List.map_append]
     refine paired_app (keepP (.inr ⟨_,by rw [upd_ne np2]; exact g2⟩) (keepP (.inl hp) gp)) (.cons (.tup (xs:=[.str z,.int t]) (SqT.of ?_) (.cons .str (.cons .int .nil))) .nil)
     rw [upd_ne np2.symm,upd_same]
  | book ps=>
   obtain ⟨b,bl,zs,rfl,hb,_,hbl,hz⟩:=item_book hy2
   refine ⟨_,rfl,b,_,_,.str "book",rfl,rfl,hb,rfl,?_⟩
   refine ⟨_,rfl,rfl,_,rfl,?_⟩
   refine dF ne3 ?_
   refine ⟨_,rfl,rfl,_,rfl,?_⟩
   refine dF ne5 ?_
   refine ⟨_,rfl,rfl,_,rfl,?_⟩
   refine dF ne6 ?_
   have lz:zs.length = ps.length:=by rw [hz.length,List.length_map]
   refine ⟨_,rfl,.inl ⟨rfl,_,SqL.of g2⟩,_,rfl,b,_,_,.ref bl,rfl,rfl,hb,rfl,l2,bl,_,_,rfl,rfl,g2,hbl,?_,?_⟩
   ·have e1:(laidP (c.take (i + 1))).length = (laidP (c.take i)).length + ps.length:=by rw [eP,List.length_append]; rfl
    rw [lys,lz]; exact le1000 (by omega)
   ·refine ⟨_,_,ys ++ zs,rfl,same_upd s2 f2 _,?_,upd_same,?_⟩
    ·rw [upd_ne n12,g1,eT]; show _ = some (HO.lst ((laidT (c.take i) ++ []).map V.int)); rw [List.append_nil]
    ·rw [eP,List.map_append]
     exact paired_app (keepP (.inr ⟨_,g2⟩) gp) (keepP (.inr ⟨_,g2⟩) hz)
 ·rintro σ H2 ⟨v3,v4,ys,rfl,s2,g1,g2,gp⟩
  refine ⟨_,rfl,_,rfl,zz2,fun p hp=>?_⟩
  have hl:xs.length = c.length:=by rw [hc.length,List.length_map]
  rw [hl,List.take_length] at g1 gp
  refine q p _ (s2.trans (same_new hp _)) ⟨l1,l2,ys,h1,f2,n12,s2.free hp,upd_same,?_,?_,Paired.imp' (fun _ _ z=>z.same (same_new hp _)) gp⟩
  ·rw [upd_ne (ne_of_none g1 hp)]; exact g1
  ·rw [upd_ne (ne_of_none g2 hp)]; exact g2
end
theorem sqT_keep {K:Frag} {H3:Hp} {o:HO} {l b:Addr} {zs:List V} (hl:H3 l = none\/(∃ zs,H3 l = some (.lst zs))) (hz:SqT K H3 b zs):SqT K (upd H3 l o) b zs:=by
 rcases hz with (z | ⟨u,z⟩) | z
 ·refine .inl (.inl ?_)
  have:b ≠ l:=fun e=>by
   subst e
   rcases hl with e | ⟨_,e⟩
   ·rw [e] at z; cases z
   ·rw [e] at z; cases z
  rw [upd_ne this]; exact z
 ·refine .inl (.inr ⟨u,?_⟩)
  have:b ≠ l:=fun e=>by
   subst e
   rcases hl with e | ⟨_,e⟩
   ·rw [e] at z; cases z
   ·rw [e] at z; cases z
  rw [upd_ne this]; exact z
 ·exact .inr z
theorem pairs_keep {K:Frag} {ok:Addr->Prop} {H3:Hp} {o:HO} {l:Addr} (hl:H3 l = none\/(∃ zs,H3 l = some (.lst zs))):∀ {ps:List (Str × Int)} {zs:List V},Paired (Says K ok H3 1) zs (ps.map pairD)->Paired (Says K ok (upd H3 l o) 1) zs (ps.map pairD)
 | [],_,r=>by cases r; exact .nil
 | p :: ps,_,r=>by
  cases r with
  | cons h r=>
   refine .cons ?_ (pairs_keep hl r)
   obtain ⟨b,ws,rfl,hS',r'⟩:=says_tup h
   exact .tup (sqT_keep hl hS') (Paired.imp' (fun _ _ z=>z) r')
theorem pairs_same {K:Frag} {ok:Addr->Prop} {H H':Hp} {zs:List V} {ps:List (Str × Int)} (s:Same H H') (r:Paired (Says K ok H 1) zs (ps.map pairD)):Paired (Says K ok H' 1) zs (ps.map pairD):=Paired.imp' (fun _ _ z=>z.same s) r
theorem pairs_ok {K:Frag} {ok ok':Addr->Prop} {H3:Hp}:∀ {ps:List (Str × Int)} {zs:List V},Paired (Says K ok H3 1) zs (ps.map pairD)->Paired (Says K ok' H3 1) zs (ps.map pairD)
 | [],_,r=>by cases r; exact .nil
 | p :: ps,_,r=>by
  cases r with
  | cons h r=>
   refine .cons ?_ (pairs_ok r)
   obtain ⟨b,ws,rfl,hS',r'⟩:=says_tup h
   exact .tup hS' (Paired.imp' (fun _ _ z=>z) r')
def plain (ts:List Int) (ps:List (Str × Int)):List Item:=ts.map .one ++ ps.map fun p=>.named p.1 p.2
theorem item_get {c:List Item} {i:Nat} {d:Dt} (h:(c.map itemD)[i]? = some d):∃ it,c[i]? = some it/\itemD it = d:=by
 rw [List.getElem?_map] at h
 cases e:c[i]? with
 | none=>rw [e] at h; cases h
 | some it=>rw [e] at h; exact ⟨it,rfl,Option.some.inj h⟩
theorem pair_get {ps:List (Str × Int)} {i:Nat} {d:Dt} (h:(ps.map pairD)[i]? = some d):∃ p,ps[i]? = some p/\pairD p = d:=by
 rw [List.getElem?_map] at h
 cases e:ps[i]? with
 | none=>rw [e] at h; cases h
 | some it=>rw [e] at h; exact ⟨it,rfl,Option.some.inj h⟩
theorem int_get {ts:List Int} {i:Nat} {x:V} (h:(ts.map V.int)[i]? = some x):∃ t,ts[i]? = some t/\x = .int t:=by
 rw [List.getElem?_map] at h
 cases e:ts[i]? with
 | none=>rw [e] at h; cases h
 | some it=>rw [e] at h; exact ⟨it,rfl,(Option.some.inj h).symm⟩
theorem pair_says {K:Frag} {ok:Addr->Prop} {H:Hp} {n:Nat} {x:V} {p:Str × Int} (h:Says K ok H (n + 1) x (pairD p)):∃ b,x = .ref b/\SqT K H b [.str p.1,.int p.2]:=by
 obtain ⟨a,xs,rfl,hS,r⟩:=says_tup h
 cases r with
 | cons h1 r=>cases r with
  | cons h2 r=>cases r; rw [says_str h1,says_int h2] at hS; exact ⟨a,rfl,hS⟩
theorem items_same {K:Frag} {ok:Addr->Prop} {n:Nat} {H H':Hp} {zs:List V} {c:List Item} (s:Same H H') (r:Paired (Says K ok H n) zs (c.map itemD)):Paired (Says K ok H' n) zs (c.map itemD):=Paired.imp' (fun _ _ z=>z.same s) r
theorem take_snoc {α : Type} {l:List α} {i:Nat} {x : α} (h:l[i]? = some x):l.take (i + 1) = l.take i ++ [x]:=by
 rw [List.take_add_one,h]; rfl
section
variable {P:Program} {w:World} {K:Frag} {mg:Str->Option Value} {base:Heap} {f:Addr} {fd:FuncData}
end
theorem laidT_app (c:List Item) (it:Item):laidT (c ++ [it]) = laidT c ++ itT it:=by unfold laidT; simp
theorem laidP_app (c:List Item) (it:Item):laidP (c ++ [it]) = laidP c ++ itP it:=by unfold laidP; simp
theorem says_ok {K:Frag} {ok ok':Addr->Prop} {H:Hp} (hk:∀ b,ok b->H b ≠ none->ok' b) {n:Nat} {x:V} {d:Dt} (h:Says K ok H n x d):Says K ok' H n x d:=
 h.frame (fun a xs z=>z) fun a xs oa z=>⟨hk a oa (by rw [z]; intro q; cases q),z⟩
theorem iteB {A B:Prop} {b:Bool} (h:b = true) (a:A):if b = true then A else B:=by rw [h]; exact iteT a
theorem iteC {A B:Prop} {b:Bool} (h:b = false) (a:B):if b = true then A else B:=by rw [h]; exact iteF a
section
variable {P:Program} {w:World} {K:Frag} {mg:Str->Option Value} {base:Heap} {f:Addr} {fd:FuncData}
section
variable {H H':Hp} {p l1 l2 l:Addr} {ys:List V} {ts:List Int} {ps:List (Str × Int)} {o:HO}
end
end
def namesOf (c:List Item):List Str:=(laidP c).map (·.1)
def spShape (K:Frag):Sp:=fun vs H Q _=>∃ (a:Addr) (c:List Item) (xs:List V),vs = [.ref a]/\SqL K H a xs/\Paired (Says K T' H 3) xs (c.map itemD)/\(laidT c).length<=900/\(laidP c).length<=900/\
 ∀ (p l:Addr) (H':Hp),Same H H'->H l = none->H' p = some (.tup [.int ((laidT c).length:Nat),.ref l])->H' l = some (.lst ((namesOf c).map V.str))->Q (.ref p) H'
def fstF:Nat->List (Key × V)->List Str->List (Key × V)
 | _,acc,[]=>acc
 | i,acc,z :: zs=>fstF (i + 1) (if (valV acc (.inr z)).isSome = true then acc else putK acc (.inr z) (.int i)) zs
theorem fstF_snoc {z:Str}:∀ (zs:List Str) (j i:Nat) (acc:List (Key × V)),zs[i]? = some z->fstF j acc (zs.take (i + 1)) = (if (valV (fstF j acc (zs.take i)) (.inr z)).isSome = true then fstF j acc (zs.take i) else putK (fstF j acc (zs.take i)) (.inr z) (.int (j + i:Nat)))
 | [],_,_,_,h=>by simp at h
 | y :: ys,j,0,acc,h=>by
  have e:y = z:=by simpa using h
  subst e
  rfl
 | y :: ys,j,i + 1,acc,h=>by
  have:=fstF_snoc ys (j + 1) i (if (valV acc (.inr y)).isSome = true then acc else putK acc (.inr y) (.int j)) (by simpa using h)
  show fstF (j + 1) _ (ys.take (i + 1)) = _
  rw [this,show j + 1 + i = j + (i + 1) by omega]
  rfl
theorem fstF_len:∀ (zs:List Str) (i:Nat) (acc:List (Key × V)),(fstF i acc zs).length<=acc.length + zs.length
 | [],_,_=>Nat.le_refl _
 | z :: zs,i,acc=>by
  have h:=fstF_len zs (i + 1) (if (valV acc (.inr z)).isSome = true then acc else putK acc (.inr z) (.int i))
  have h2:(if (valV acc (.inr z)).isSome = true then acc else putK acc (.inr z) (.int i)).length<=acc.length + 1:=by
   split
   ·omega
   ·exact length_putK acc _ _
  show (fstF (i + 1) _ zs).length<=acc.length + (zs.length + 1)
  omega
def spFirsts:Sp:=fun vs H Q _=>∃ (a:Addr) (zs:List Str),vs = [.ref a]/\H a = some (.lst (zs.map V.str))/\zs.length<=900/\∀ (l:Addr) (o:Obj) (H':Hp),Same H H'->H l = none->H' l = some (.frz o (.dK (fstF 0 [] zs)))->Q (.ref l) H'
section
variable {P:Program} {w:World} {K:Frag} {mg:Str->Option Value} {base:Heap} {f CF:Addr} {fd:FuncData} {c:C5} {m:MA}
theorem ndNT:([Str.ofString "name",Str.ofString "thing"]:List Str).Nodup:=by decide +kernel
theorem scShape:FnScope ["call","things","pairs"] ["call"] (defScope sShape):=⟨rfl,rfl,rfl,by decide +kernel,rfl,by decide +kernel,by decide +kernel⟩
theorem ok_shape {g:Addr} {gd:FuncData} (F:Fun K "shape" "shape" sShape f fd) (hlen:mg "len" = none) (cL:Callee P w K mg base 1 "laid" g gd ["call"] (spLaid K)):FnOk P w K mg base CX0 2 f fd ["call"] (spShape K):=by
 refine F.ok scShape (fun vs H Q E h=>?_) (fun cdv A outer s H vs Q E hr h=>?_)
 ·obtain ⟨a,c,xs,rfl,_⟩:=h
  rfl
 obtain ⟨a,c,xs,rfl,hS,hc,lT,lP,q⟩:=h
 refine ⟨_,pss_cons (ps_asg (cF cL hr (ac (pv 0) pa_nil)) (pg_tup rfl (pgs_cons (pg_name (i:=1) scShape.nd rfl (Or.inl rfl)) (pgs_cons (pg_name (i:=2) scShape.nd rfl (Or.inl rfl)) pgs_nil))))
  (pss_one (ps_ret (pe_tup (ac (cB call_len_seq hlen PySem.boot_len (ac (pv 1) pa_nil)) (ac (pe_lc [] ["name","thing"] [none,none] rfl ⟨rfl,rfl,rfl,rfl⟩ (pi_list (pv 2)) (gown_tup2 (K:=K) (n:=2) 0 1) rfl rfl rfl
   (fun pins fp s H C=>⟨pg_tup rfl (pgs_cons (pg_name (i:=0) ndNT rfl (Or.inl rfl) (.inr rfl)) (pgs_cons (pg_name (i:=1) ndNT rfl (Or.inl rfl) (.inr rfl)) pgs_nil)),pif_nil,pv 0⟩)) pa_nil))))),?_⟩
 refine ⟨_,rfl,a,c,xs,rfl,hS,hc,lT,lP,fun p H1 s1 two=>?_⟩
 obtain ⟨l1,l2,ys,n1,n2,n12,np,ep,e1,e2,gp⟩:=two
 refine ⟨p,_,rfl,SqT.of ep,rfl,_,_,rfl,_,_,rfl,rfl,?_⟩
 refine ⟨_,rfl,l1,_,rfl,.inl (SqL.of e1),_,rfl,l2,rfl,⟨_,SqL.of e2⟩,fun D hD=>?_⟩
 have lys:ys.length = (laidP c).length:=by rw [gp.length,List.length_map]
 refine lc_list (K:=K) (xs:=ys) (fun i zs H'=>Same H1 H'/\H' D = some (.lst zs)/\zs = ((namesOf c).take i).map V.str) ⟨same_new hD _,upd_same,rfl⟩ (fun i zs H' h=>SqL.of (h.1 _ _ e2)) ?_ ?_
 ·rintro i x zs H' hlt hx ⟨sH,hDy,ez⟩
  obtain ⟨d,hd,hy⟩:=Paired.get gp hx
  obtain ⟨pr',hpr,rfl⟩:=pair_get hd
  obtain ⟨b,rfl,hb⟩:=pair_says (hy.same sH)
  refine ⟨b,_,rfl,hb,rfl,_,_,rfl,_,_,rfl,rfl,fun _=>⟨_,rfl,?_⟩,fun e=>Bool.noConfusion e⟩
  have hi:i < (namesOf c).length:=by unfold namesOf; rw [List.length_map]; omega
  have en:(namesOf c)[i] = pr'.1:=by
   have:(namesOf c)[i]? = some pr'.1:=by unfold namesOf; rw [List.getElem?_map,hpr]; rfl
   rw [List.getElem?_eq_getElem hi] at this
   exact Option.some.inj this
  refine lcN.mk hlt (le1000 (by omega)) hDy (by rw [ez,List.length_map,List.length_take]; omega) ⟨fun b' u e=>?_,upd_same,?_⟩
  ·rw [upd_ne (ne_of_none e hD)]
   exact sH b' u e
  ·rw [ez,List.take_succ_eq_append_getElem hi,en,List.map_append]
   rfl
 rintro zs H2 ⟨s2,hDy,ez⟩
 have hz:zs = (namesOf c).map V.str:=by
  rw [ez,List.take_of_length_le (by unfold namesOf; rw [List.length_map]; omega)]
 subst hz
 refine ⟨zz2,fun t ht=>?_⟩
 have s3:=same_new ht (.tup [.int ((laidT c).map V.int).length,.ref D])
 refine q t D _ (s1.trans (s2.trans s3)) (s1.free hD) (by rw [upd_same,List.length_map]) (s3 _ _ hDy)
theorem scFirsts:FnScope ["names","firsts","number","name"] ["names"] (defScope sFirsts):=⟨rfl,rfl,rfl,by decide +kernel,rfl,by decide +kernel,by decide +kernel⟩
theorem ok_firsts (F:Fun K "first_numbers" "first_numbers" sFirsts f fd) (hen:mg "enumerate" = none):FnOk P w K mg base CX0 1 f fd ["names"] spFirsts:=by
 refine F.ok scFirsts (fun vs H Q E h=>?_) (fun cdv A outer s H vs Q E hr h=>?_)
 ·obtain ⟨a,zs,rfl,_⟩:=h
  rfl
 obtain ⟨a,zs,rfl,ha,lz,q⟩:=h
 have hu1:=hu_of hr
 refine ⟨_,pss_cons (ps_set (i:=1) scFirsts.nd rfl (Or.inl rfl) pe_dnewK)
  (pss_cons (ps_for PassesOwn.never rfl (pi_enum rfl hen (ac (pv 0) pa_nil)) (pg_tup rfl (pgs_cons (pg_name (i:=2) scFirsts.nd rfl (Or.inl rfl)) (pgs_cons (pg_name (i:=3) scFirsts.nd rfl (Or.inl rfl)) pgs_nil)))
   (pss_one (ps_if (pt_cmp (pc_dnotin hu1 (pv 3) (pv 1))) (pss_one (ps_dput hu1 (pv 1) (pv 3) (pv 2) rfl)) pss_nil)))
  (pss_one (ps_ret (pe_frz (pv 1))))),?_⟩
 intro sd hsd
 have s1:=same_new hsd (.dK [])
 have e1:upd H sd (.dK []) sd = some (.dK []):=upd_same
 show tSeq _ _ _ _ (upd H sd (.dK []))
 generalize upd H sd (.dK []) = H1 at s1 e1 |-
 refine ⟨_,rfl,a,rfl,⟨_,SqL.of (s1 _ _ ha)⟩,for_enum (K:=K) (a:=a) (xs:=zs.map V.str) (fun i σ H'=>∃ (v2 v3:Option V),σ = [some (.ref a),some (.ref sd),v2,v3]/\Same H H'/\H' sd = some (.dK (fstF 0 [] (zs.take i))))
  ⟨_,_,rfl,s1,e1⟩ (fun i σ H' _ ⟨_,_,_,sH,_⟩=>SqL.of (sH _ _ ha)) ?_ ?_⟩
 ·rintro i x p σ H' hx ⟨v2,v3,rfl,sH,hd⟩ hpn
  obtain ⟨z,hz,rfl⟩:=strs_at hx
  have sp:=same_new hpn (.tup [.int (i:Nat),.str z])
  have hd2:=sp _ _ hd
  have tk:=fstF_snoc zs 0 i [] hz
  rw [Nat.zero_add] at tk
  have hi:i < zs.length:=(List.getElem?_eq_some_iff.mp hz).1
  refine ⟨p,_,rfl,SqT.of upd_same,rfl,_,_,rfl,_,_,rfl,rfl,?_⟩
  refine ⟨_,rfl,_,rfl,sd,_,rfl,.inl ⟨_,.inr z,.inl hd2,rfl,rfl⟩,_,rfl,?_⟩
  refine ite2 (fun ne=>?_) (fun ne=>?_)
  ·have ns:¬ (valV (fstF 0 [] (zs.take i)) (.inr z)).isSome = true:=by
    intro e
    rw [e] at ne
    cases ne
   rw [if_neg ns] at tk
   have ln:=fstF_len (zs.take i) 0 []
   refine ⟨_,rfl,_,rfl,_,rfl,sd,_,rfl,.inl ⟨_,.inr z,hd2,rfl,small1000 (by rw [List.length_take] at ln; simp at ln; omega),rfl⟩,?_⟩
   refine ⟨_,_,rfl,fun b' u e=>?_,by rw [upd_same,tk]⟩
   rw [upd_ne (ne_of_none e hsd)]
   exact sp _ _ (sH _ _ e)
  ·have ns:(valV (fstF 0 [] (zs.take i)) (.inr z)).isSome = true:=by
    cases e:(valV (fstF 0 [] (zs.take i)) (.inr z)).isSome with
    | true=>rfl
    | false=>exact absurd (by rw [e]; rfl) ne
   rw [if_pos ns] at tk
   exact ⟨_,_,rfl,sH.trans sp,by rw [tk]; exact hd2⟩
 ·rintro σ H' ⟨v2,v3,rfl,sH,hd⟩
  rw [List.length_map,List.take_length] at hd
  refine ⟨_,rfl,sd,_,rfl,hd,fun o=>?_⟩
  refine q sd o _ (fun b' u e=>?_) hsd upd_same
  rw [upd_ne (ne_of_none e hsd)]
  exact sH _ _ e
end
def MA1 (H:Hp) (u:Addr) (m:Str × Nat):Prop:=H u = some (.tup [.str m.1,.int (m.2:Nat)])
def MsAt (H:Hp) (us:List Addr) (ms:List (Str × Nat)):Prop:=Paired (MA1 H) us ms
theorem MsAt.same {H H':Hp} {us:List Addr} {ms:List (Str × Nat)} (h:MsAt H us ms) (s:Same H H'):MsAt H' us ms:=Paired.imp' (fun _ _ z=>s _ _ z) h
theorem MsAt.upd {H:Hp} {us:List Addr} {ms:List (Str × Nat)} {D:Addr} {ys:List V} {o:HO} (h:MsAt H us ms) (hD:H D = some (.lst ys)):MsAt (upd H D o) us ms:=Paired.imp' (fun u m z=>by
 show L2.upd H D o u = _
 rw [upd_ne (fun e=>by rw [e] at z; rw [MA1,hD] at z; cases z)]
 exact z) h
theorem MsAt.snoc {H:Hp} {us:List Addr} {ms:List (Str × Nat)} {u:Addr} {m:Str × Nat} (h:MsAt H us ms) (hu:MA1 H u m):MsAt H (us ++ [u]) (ms ++ [m]):=Paired.snoc h hu
def NewMs (H H':Hp) (l:Addr) (ms:List (Str × Nat)):Prop:=∃ us:List Addr,H l = none/\H' l = some (.lst (us.map V.ref))/\MsAt H' us ms
def overF (rows:List Rw) (many:Nat):List (Str × Nat):=if (firstK 2 0 rows).isSome = true then [] else (List.range (many - plN rows)).map fun i=>((("over" : Str),plN rows + i):Str × Nat)
def spOvers (c:C5) (CF:Addr):Sp:=fun vs H Q _=>∃ (f:Addr) (many:Nat) (rows:List Rw) (bars:List Str),vs = [.ref f,.int (many:Nat)]/\many<=900/\rows.length<=500/\FormAt c CF H f rows bars/\∀ (l:Addr) (H':Hp),Same H H'->NewMs H H' l (overF rows many)->Q (.ref l) H'
def oneE (r:Rw) (i many:Nat) (fk:List (Key × V)):List V:=
 if byPl r.k = true/\i < many then [.str "place",.int (i:Nat)] else if byNm r.k = true/\(valV fk (.inr r.z)).isSome = true then [.str "name",(valV fk (.inr r.z)).getD .non] else [.str "free"]
def FlatD1 (fk:List (Key × V)):Prop:=∀ k v,valV fk k = some v->flatV v = true
def spOneE (c:C5):Sp:=fun vs H Q _=>∃ (p d:Addr) (i many:Nat) (r:Rw) (fk:List (Key × V)),vs = [.ref p,.int (i:Nat),.int (many:Nat),.ref d]/\PAt c H p r/\r.ok/\Rd H d (.dK fk)/\∀ (u:Addr) (H':Hp),Same H H'->H' u = some (.tup (oneE r i many fk))->Q (.ref u) H'
def isLack (r:Rw) (i many:Nat) (fk:List (Key × V)):Bool:=!fr r.k r.b && L2.eqT (oneE r i many fk) [.str "free"]
def lackF (many:Nat) (fk:List (Key × V)):Nat->List Rw->List (Str × Nat)
 | _,[]=>[]
 | i,r :: rs=>(if isLack r i many fk = true then [(("lacking" : Str),i)] else []) ++ lackF many fk (i + 1) rs
theorem lackF_snoc {many:Nat} {fk:List (Key × V)} {r:Rw}:∀ (rows:List Rw) (j i:Nat),rows[i]? = some r->lackF many fk j (rows.take (i + 1)) = lackF many fk j (rows.take i) ++ (if isLack r (j + i) many fk = true then [(("lacking" : Str),j + i)] else [])
 | [],_,_,h=>by simp at h
 | y :: ys,j,0,h=>by
  have e:y = r:=by simpa using h
  subst e
  show (_ ++ []) = [] ++ _
  rw [List.append_nil,List.nil_append]
  rfl
 | y :: ys,j,i + 1,h=>by
  have:=lackF_snoc (many:=many) (fk:=fk) ys (j + 1) i (by simpa using h)
  show _ ++ lackF many fk (j + 1) (ys.take (i + 1)) = _
  rw [this,show j + 1 + i = j + (i + 1) by omega,<- List.append_assoc]
  rfl
theorem lackF_len (many:Nat) (fk:List (Key × V)):∀ (rows:List Rw) (i:Nat),(lackF many fk i rows).length<=rows.length
 | [],_=>Nat.le_refl _
 | r :: rs,i=>by
  have:=lackF_len many fk rs (i + 1)
  show (_ ++ lackF many fk (i + 1) rs).length<=rs.length + 1
  rw [List.length_append]
  split
  ·rw [List.length_singleton]; omega
  ·rw [List.length_nil]; omega
theorem oneE_flat {r:Rw} {i many:Nat} {fk:List (Key × V)} (h:FlatD1 fk):(oneE r i many fk).all flatV = true:=by
 unfold oneE
 split
 ·rfl
 ·split
  next h2=>
   obtain ⟨v,hv⟩:=Option.isSome_iff_exists.mp h2.2
   rw [hv]
   show (true && (flatV v && true)) = true
   rw [h _ _ hv]
   rfl
  ·rfl
def spLacks (c:C5) (CF:Addr):Sp:=fun vs H Q _=>∃ (f d:Addr) (many:Nat) (rows:List Rw) (bars:List Str) (fk:List (Key × V)),vs = [.ref f,.int (many:Nat),.ref d]/\rows.length<=500/\(∀ r ∈ rows,r.ok)/\FormAt c CF H f rows bars/\Rd H d (.dK fk)/\FlatD1 fk/\∀ (l:Addr) (H':Hp),Same H H'->NewMs H H' l (lackF many fk 0 rows)->Q (.ref l) H'
theorem Same.rd {H H':Hp} {a:Addr} {u:HO} (s:Same H H') (h:Rd H a u):Rd H' a u:=h.elim (fun e=>.inl (s _ _ e)) fun ⟨o,e⟩=>.inr ⟨o,s _ _ e⟩
section
variable {P:Program} {w:World} {K:Frag} {mg:Str->Option Value} {base:Heap} {f CF:Addr} {fd:FuncData} {c:C5} {m:MA}
theorem ndNum:([Str.ofString "number"]:List Str).Nodup:=by decide +kernel
theorem scOvers:FnScope ["form","many"] ["form","many"] (defScope sOvers):=⟨rfl,rfl,rfl,by decide +kernel,rfl,by decide +kernel,by decide +kernel⟩
theorem ok_overs {gT gP:Addr} {eT eP:FuncData} (F:Fun K "overs" "overs" sOvers f fd) (hran:mg "range" = none) (FK:FC K CF) (mT:Meth K CF "tail" gT) (GT:FnOk P w K mg base CX0 1 gT eT ["self"] (spWord c CF 2)) (bT:Binds K eT ["self"] []) (mP:Meth K CF "places" gP) (GP:FnOk P w K mg base CX0 1 gP eP ["self"] (spPlaces c CF)) (bP:Binds K eP ["self"] []) :
  FnOk P w K mg base CX0 2 f fd ["form","many"] (spOvers c CF):=by
 refine F.ok scOvers (fun vs H Q E h=>?_) (fun cdv A outer s H vs Q E hr h=>?_)
 ·obtain ⟨f,many,rows,bars,rfl,_⟩:=h
  rfl
 obtain ⟨f,many,rows,bars,rfl,lm,l5,hF,q⟩:=h
 refine ⟨_,pss_cons (ps_if (pt_cmp (pc_notN (pe_meth0 (pv 0) FK.cl mT GT hr bT .nil pass0))) (pss_one (ps_ret (pe_lst pa_nil))) pss_nil)
  (pss_one (ps_ret (pe_lc [] ["number"] [none] rfl ⟨rfl,rfl,rfl,rfl⟩ (pi_range2 rfl hran (ac (pe_meth0 (pv 0) FK.cl mP GP hr bP .nil pass0) (ac (pv 1) pa_nil))) (gown_name 0) rfl rfl rfl
   (fun pins fp s H C=>⟨pg_name (i:=0) ndNum rfl (Or.inl rfl) (.inr rfl),pif_nil,pe_tup (ac pe_str (ac (pv 0) pa_nil))⟩)))),?_⟩
 obtain ⟨dx,fs,lr,lb,ld,ps,h1,h2,h3,h4,h5,h6⟩:=id hF
 have nmT:fs.lookup ("tail" : Str) = none:=h2.no _ (by decide +kernel)
 have nmP:fs.lookup ("places" : Str) = none:=h2.no _ (by decide +kernel)
 refine ⟨_,rfl,f,dx,fs,rfl,h1,nmT,f,rows,bars,rfl,hF,?_⟩
 refine ⟨_,rfl,?_⟩
 cases e:firstK 2 0 rows with
 | some i=>
  have ef:overF rows many = []:=by unfold overF; rw [e]; rfl
  have ne:(!decide (numV (some i) = V.non)) = true:=rfl
  rw [if_pos ne]
  refine ⟨zz0,fun l hl=>?_⟩
  exact q l _ (same_new hl _) ⟨[],hl,upd_same,by rw [ef]; exact .nil⟩
 | none=>
  have ef:overF rows many = (List.range (many - plN rows)).map fun i=>((("over" : Str),plN rows + i):Str × Nat):=by unfold overF; rw [e]; rfl
  refine iteF ?_
  have lp:plN rows<=500:=Nat.le_trans (List.length_filter_le _ _) l5
  refine ⟨_,rfl,f,dx,fs,rfl,h1,nmP,f,rows,bars,rfl,hF,_,rfl,(plN rows:Nat),(many:Nat),rfl,⟨by omega,by omega,by omega,by omega⟩,fun D hD=>?_⟩
  have en:((many:Int) - (plN rows:Int)).toNat = many - plN rows:=by omega
  refine lc_range (n:=((many:Int) - (plN rows:Int)).toNat) (fun i ys H'=>∃ us,ys = us.map V.ref/\Same H H'/\H' D = some (.lst ys)/\MsAt H' us ((List.range i).map fun i=>((("over" : Str),plN rows + i):Str × Nat))) ⟨[],rfl,same_new hD _,upd_same,.nil⟩ ?_ ?_
  ·rintro i ys H' hi ⟨us,rfl,sH,hDy,hm⟩
   have lu:us.length = i:=by rw [hm.length,List.length_map,List.length_range]
   refine ⟨fun _=>?_,fun e=>Bool.noConfusion e⟩
   refine ⟨_,rfl,zz2,fun t ht=>?_⟩
   have s2:=same_new ht (.tup [.str "over",.int ((plN rows:Int) + (i:Int))])
   have hDy2:=s2 _ _ hDy
   refine lcN.mk hi (le1000 (by omega)) hDy2 (by rw [List.length_map,lu]; exact Nat.le_refl _) ⟨us ++ [t],by rw [List.map_append]; rfl,fun b' u' e'=>?_,upd_same,?_⟩
   ·rw [upd_ne (ne_of_none e' hD)]
    exact s2 _ _ (sH _ _ e')
   ·rw [List.range_succ,List.map_append]
    have hu:MA1 (upd H' t (.tup [.str "over",.int ((plN rows:Int) + (i:Int))])) t ("over",plN rows + i):=by
     show upd H' t _ t = _
     rw [upd_same]
     rfl
    exact ((hm.same s2).snoc hu).upd hDy2
  ·rintro ys H' ⟨us,rfl,sH,hDy,hm⟩
   rw [en,<- ef] at hm
   exact q D H' sH ⟨us,hD,hDy,hm⟩
theorem scOneE:FnScope ["parameter","number","many","firsts"] ["parameter","number","many","firsts"] (defScope sOneE):=⟨rfl,rfl,rfl,by decide +kernel,rfl,by decide +kernel,by decide +kernel⟩
theorem ok_oneE {gp gb:FuncData} (F:Fun K "one_entry" "one_entry" sOneE f fd) (PP:Pcs K m c) (GP:FnOk P w K mg base CX0 1 m.fP gp ["self"] (spIn K m bpL)) (bP:Binds K gp ["self"] []) (GB:FnOk P w K mg base CX0 1 m.fB gb ["self"] (spIn K m bnL)) (bB:Binds K gb ["self"] []) :
  FnOk P w K mg base CX0 2 f fd ["parameter","number","many","firsts"] (spOneE c):=by
 refine F.ok scOneE (fun vs H Q E h=>?_) (fun cdv A outer s H vs Q E hr h=>?_)
 ·obtain ⟨p,d,i,many,r,fk,rfl,_⟩:=h
  rfl
 obtain ⟨p,d,i,many,r,fk,rfl,⟨dx,hp⟩,rok,hd,q⟩:=h
 have hu1:=hu_of hr
 have C:=PP r.k rok.1
 refine ⟨_,pss_cons (ps_if (PW.pt (pw_and (pt_val (pe_meth0 (pv 0) C.cl C.mP GP hr bP .nil pass0)) (pw_and1 (pt_cmpR op_lt (pv 1) (pv 2) (nomark _))))) (pss_one (ps_ret (pe_tup (ac pe_str (ac (pv 1) pa_nil))))) pss_nil)
  (pss_cons (ps_if (PW.pt (pw_and (pt_val (pe_meth0 (pv 0) C.cl C.mB GB hr bB .nil pass0)) (pw_and1 (pt_cmp (pc_din hu1 (pe_fld (pv 0) rfl) (pv 3)))))) (pss_one (ps_ret (pe_tup (ac pe_str (ac (pe_dget hu1 (pv 3) (pe_fld (pv 0) rfl) (fun _ _=>rfl)) pa_nil))))) pss_nil)
  (pss_one (ps_ret (pe_tup (ac pe_str pa_nil))))),?_⟩
 have nP:(pr r).lookup ("by_place" : Str) = none:=pf_no (by decide +kernel) (by decide +kernel) (by decide +kernel)
 have nB:(pr r).lookup ("by_name" : Str) = none:=pf_no (by decide +kernel) (by decide +kernel) (by decide +kernel)
 try dsimp only
 refine seq_via (fun σ' H'=>σ' = [some (.ref p),some (.int (i:Nat)),some (.int (many:Nat)),some (.ref d)]/\H' = H/\¬ (byPl r.k = true/\i < many)) ?_ (fun key=>?_)
 rotate_left
 ·refine ⟨_,rfl,p,dx,_,rfl,hp,nP,p,dx,_,_,_,_,rfl,C,hp,_,rfl,?_⟩
  rw [in_pl r.k rok.1]
  cases eb:byPl r.k with
  | false=>
   refine iteF ?_
   refine iteF ?_
   exact key _ _ ⟨rfl,rfl,by rw [eb]; exact fun z=>Bool.noConfusion z.1⟩
  | true=>
   refine iteT ?_
   refine ⟨_,rfl,_,rfl,_,_,rfl,rfl,_,rfl,?_⟩
   refine ite2 (fun c1=>?_) (fun c1=>?_)
   ·have hlt:i < many:=by
     have:=of_decide_eq_true c1
     omega
    refine ⟨_,rfl,zz2,fun t ht=>?_⟩
    exact q t _ (same_new ht _) (by rw [upd_same]; unfold oneE; rw [if_pos ⟨eb,hlt⟩])
   ·have hlt:¬ i < many:=fun h=>c1 (decide_eq_true (by show (i:Int) < (many:Int); omega))
    exact key _ _ ⟨rfl,rfl,fun z=>hlt z.2⟩
 rintro σ1 H1 ⟨rfl,rfl,nn⟩
 have e1:oneE r i many fk = (if byNm r.k = true/\(valV fk (.inr r.z)).isSome = true then [.str "name",(valV fk (.inr r.z)).getD .non] else [.str "free"]):=by unfold oneE; rw [if_neg nn]
 try dsimp only
 refine seq_via (fun σ' H'=>σ' = [some (.ref p),some (.int (i:Nat)),some (.int (many:Nat)),some (.ref d)]/\H' = H1/\¬ (byNm r.k = true/\(valV fk (.inr r.z)).isSome = true)) ?_ (fun key=>?_)
 rotate_left
 ·refine ⟨_,rfl,p,dx,_,rfl,hp,nB,p,dx,_,_,_,_,rfl,C,hp,_,rfl,?_⟩
  rw [in_nm r.k rok.1]
  cases eb:byNm r.k with
  | false=>
   refine iteF ?_
   refine iteF ?_
   exact key _ _ ⟨rfl,rfl,by rw [eb]; exact fun z=>Bool.noConfusion z.1⟩
  | true=>
   refine iteT ?_
   refine ⟨_,rfl,p,_,dx,_,_,rfl,hp,C.cl,C.nN,pf_name,_,rfl,d,_,rfl,.inl ⟨fk,.inr r.z,hd,rfl,rfl⟩,_,rfl,?_⟩
   refine ite2 (fun c1=>?_) (fun c1=>?_)
   ·obtain ⟨v,hv⟩:=Option.isSome_iff_exists.mp c1
    refine ⟨_,rfl,_,rfl,p,_,dx,_,_,rfl,hp,C.cl,C.nN,pf_name,d,v,rfl,.inl ⟨fk,.inr r.z,hd,rfl,hv.symm⟩,zz2,fun t ht=>?_⟩
    exact q t _ (same_new ht _) (by rw [upd_same,e1,if_pos ⟨eb,c1⟩,hv]; rfl)
   ·exact key _ _ ⟨rfl,rfl,fun z=>c1 z.2⟩
 rintro σ2 H2 ⟨rfl,rfl,nn2⟩
 refine ⟨zz1,fun t ht=>?_⟩
 exact q t _ (same_new ht _) (by rw [upd_same,e1,if_neg nn2])
theorem scLacks:FnScope ["form","many","firsts","found","number","parameter"] ["form","many","firsts"] (defScope sLack):=⟨rfl,rfl,rfl,by decide +kernel,rfl,by decide +kernel,by decide +kernel⟩
theorem ok_lacks {g gP:Addr} {gd gf eP:FuncData} (F:Fun K "lackings" "lackings" sLack f fd) (hen:mg "enumerate" = none) (PP:Pcs K m c) (FK:FC K CF) (mP:Meth K CF "parameters" gP) (GP:FnOk P w K mg base CX0 1 gP eP ["self"] (spPars c CF)) (bP:Binds K eP ["self"] [])
  (GF:FnOk P w K mg base CX0 1 m.fF gf ["self"] (spFree K m)) (bF:Binds K gf ["self"] []) (cE1:Callee P w K mg base 2 "one_entry" g gd ["parameter","number","many","firsts"] (spOneE c)):FnOk P w K mg base CX0 3 f fd ["form","many","firsts"] (spLacks c CF):=by
 refine F.ok scLacks (fun vs H Q E h=>?_) (fun cdv A outer s H vs Q E hr h=>?_)
 ·obtain ⟨f,d,many,rows,bars,fk,rfl,_⟩:=h
  rfl
 obtain ⟨f,d,many,rows,bars,fk,rfl,l5,hok,hF,hd,hfl,q⟩:=h
 have hr1:Room 1 _:=hr.mono (by decide)
 have hU:=hr.units
 have hO:∀ C,Cs5 c C->Cls K C/\Meth K C "free" m.fF:=fun C ⟨k,hk,e⟩=>by rw [e]; exact ⟨(PP k hk).cl,(PP k hk).mF⟩
 refine ⟨_,pss_cons (ps_set (i:=3) scLacks.nd rfl (Or.inl rfl) (pe_lst pa_nil))
  (pss_cons (ps_for PassesOwn.never rfl (pi_enum rfl hen (ac (pe_meth0 (pv 0) FK.cl mP GP hr1 bP .nil pass0) pa_nil)) (pg_tup rfl (pgs_cons (pg_name (i:=4) scLacks.nd rfl (Or.inl rfl)) (pgs_cons (pg_name (i:=5) scLacks.nd rfl (Or.inl rfl)) pgs_nil)))
   (pss_one (ps_if (PW.pt (pw_and (pt_not (pt_val (pe_methP (pv 5) hO GF hr1 bF pass0))) (pw_and1 (pt_cmpR (op_eqTup hU) (cF cE1 hr (ac (pv 5) (ac (pv 4) (ac (pv 1) (ac (pv 2) pa_nil))))) (pe_tup (ac pe_str pa_nil)) (nomark _)))))
    (pss_one (ps_expr (pe_bm PySem.F.plainAttrs_list PySem.F.slot_list_append PySem.F.type_list_append mt_append (pv 3) (ac (pe_tup (ac pe_str (ac (pv 4) pa_nil))) pa_nil)))) pss_nil)))
  (pss_one (ps_ret (pv 3)))),?_⟩
 refine ⟨zz0,fun l hl=>?_⟩
 have s1:=same_new hl (.lst [])
 have e1:upd H l (.lst []) l = some (.lst []):=upd_same
 show tSeq _ _ _ _ (upd H l (.lst []))
 generalize upd H l (.lst []) = H1 at s1 e1 |-
 obtain ⟨dx,fs,lr,lb,ld,ps0,h1,h2,h3,h4,h5,h6⟩:=id hF
 have nmP:fs.lookup ("parameters" : Str) = none:=h2.no _ (by decide +kernel)
 refine ⟨_,rfl,f,dx,fs,rfl,s1 _ _ h1,nmP,f,rows,bars,rfl,hF.same s1,fun lp ps H2 s2 np ep hps=>?_⟩
 have e2:=s2 _ _ e1
 have nlp:lp ≠ l:=Ne.symm (ne_of_none e1 np)
 have nd:∀ {b:Addr} {u:HO},H b = some u->b ≠ l:=fun e=>ne_of_none e hl
 have s12:=s1.trans s2
 have sHl:∀ {H':Hp},(∀ b u,H2 b = some u->b ≠ l->H' b = some u)->Same H H':=fun k b u e=>k b u (s12 _ _ e) (nd e)
 refine ⟨lp,rfl,⟨_,SqL.of ep⟩,for_enum (K:=K) (a:=lp) (xs:=ps.map V.ref) (fun i σ H'=>∃ (us:List Addr) (v4 v5:Option V),σ = [some (.ref f),some (.int (many:Nat)),some (.ref d),some (.ref l),v4,v5]/\(∀ b u,H2 b = some u->b ≠ l->H' b = some u)/\H' l = some (.lst (us.map V.ref))/\MsAt H' us (lackF many fk 0 (rows.take i)))
  ⟨[],_,_,rfl,fun _ _ e _=>e,e2,.nil⟩ (fun i σ H' _ ⟨_,_,_,_,sH,_⟩=>SqL.of (sH _ _ ep nlp)) ?_ ?_⟩
 ·rintro i x p σ H' hx ⟨us,v4,v5,rfl,sH,hl',hm⟩ hpn
  obtain ⟨pa,hpa,rfl⟩:=refs_at hx
  obtain ⟨r,hr',dx',hdx⟩:=paired_at hps hpa
  have rok:=hok r (List.mem_of_getElem? hr')
  have C:=PP r.k rok.1
  have hi:i < rows.length:=(List.getElem?_eq_some_iff.mp hr').1
  have npa:pa ≠ l:=ne_of hdx e2 (by intro z; cases z)
  have tk:=lackF_snoc (many:=many) (fk:=fk) rows 0 i hr'
  rw [Nat.zero_add] at tk
  have sp:=same_new hpn (.tup [.int (i:Nat),.ref pa])
  have lu:us.length<=i:=by
   rw [hm.length]
   refine Nat.le_trans (lackF_len _ _ _ _) ?_
   rw [List.length_take]
   omega
  have sH1:∀ b u,H2 b = some u->b ≠ l->upd H' p (.tup [.int (i:Nat),.ref pa]) b = some u:=fun b u e n=>sp _ _ (sH b u e n)
  have hl1:=sp _ _ hl'
  have hm1:=hm.same sp
  refine ⟨p,_,rfl,SqT.of upd_same,rfl,_,_,rfl,_,_,rfl,rfl,?_⟩
  generalize upd H' p (.tup [.int (i:Nat),.ref pa]) = H3 at sH1 hl1 hm1 |-
  have hd3:=sH1 _ _ hdx npa
  refine ⟨_,rfl,pa,_,dx',_,rfl,⟨r.k,rok.1,rfl⟩,hd3,pf_no (by decide +kernel) (by decide +kernel) (by decide +kernel),pa,dx',_,_,_,_,rfl,C,hd3,_,rfl,?_⟩
  cases ef:fr r.k r.b with
  | true=>
   have il:isLack r i many fk = false:=by unfold isLack; rw [ef]; rfl
   rw [il,if_neg Bool.false_ne_true,List.append_nil] at tk
   refine iteF ?_
   refine iteF ?_
   exact ⟨us,_,_,rfl,sH1,hl1,by rw [tk]; exact hm1⟩
  | false=>
   refine iteT ?_
   refine ⟨_,rfl,_,rfl,_,rfl,_,rfl,pa,d,i,many,r,fk,rfl,⟨dx',hd3⟩,rok,Same.rd (sHl sH1) hd,fun u H4 s4 e4=>?_⟩
   refine ⟨zz1,fun t ht=>?_⟩
   have s5:=same_new ht (.tup [.str "free"])
   refine ⟨u,t,_,_,rfl,rfl,SqT.of (s5 _ _ e4),SqT.of upd_same,oneE_flat hfl,rfl,_,rfl,?_⟩
   have s45:=s4.trans s5
   have il:isLack r i many fk = L2.eqT (oneE r i many fk) [.str "free"]:=by unfold isLack; rw [ef]; rfl
   rw [<- il]
   generalize upd H4 t (.tup [.str "free"]) = H5 at s5 s45 |-
   have hl5:=s45 _ _ hl1
   have sH5:∀ b u,H2 b = some u->b ≠ l->H5 b = some u:=fun b u e n=>s45 _ _ (sH1 b u e n)
   refine ite2 (fun c1=>?_) (fun c1=>?_)
   ·rw [c1,if_pos rfl] at tk
    refine ⟨_,rfl,.inl ⟨rfl,_,SqL.of hl5⟩,_,rfl,zz2,fun t2 ht2=>?_⟩
    have s6:=same_new ht2 (.tup [.str "lacking",.int (i:Nat)])
    have hl6:=s6 _ _ hl5
    have hu2:MA1 (upd H5 t2 (.tup [.str "lacking",.int (i:Nat)])) t2 ("lacking",i):=by
     show upd H5 t2 _ t2 = _
     rw [upd_same]
    refine ⟨l,_,.ref t2,rfl,rfl,hl6,small1000 (by rw [List.length_map]; omega),?_⟩
    refine ⟨us ++ [t2],_,_,rfl,fun b u e n=>?_,by rw [upd_same,List.map_append]; rfl,?_⟩
    ·rw [upd_ne n]
     exact s6 _ _ (sH5 b u e n)
    ·rw [tk]
     exact (((hm1.same s45).same s6).snoc hu2).upd hl6
   ·have c2:isLack r i many fk = false:=by
     cases e:isLack r i many fk with
     | false=>rfl
     | true=>exact absurd e c1
    rw [c2,if_neg Bool.false_ne_true,List.append_nil] at tk
    exact ⟨us,_,_,rfl,sH5,hl5,by rw [tk]; exact hm1.same s45⟩
 ·rintro σ H' ⟨us,v4,v5,rfl,sH,hl',hm⟩
  rw [List.length_map,hps.length,List.take_length] at hm
  exact ⟨_,rfl,q l H' (sHl sH) ⟨us,hl,hl',hm⟩⟩
end
def fpF:Nat->List (Str × Nat)->List Str->List (Str × Nat)
 | _,acc,[]=>acc
 | i,acc,z :: zs=>fpF (i + 1) (if (acc.any fun p=>decide (p.1 = z)) = true then acc else acc ++ [(z,i)]) zs
def kvP (fp:List (Str × Nat)):List (Key × V):=fp.map fun p=>(.inr p.1,.int (p.2:Nat))
theorem kvP_any (fp:List (Str × Nat)) (z:Str):(valV (kvP fp) (.inr z)).isSome = fp.any fun p=>decide (p.1 = z):=by
 rw [<- valV_any]
 unfold kvP
 rw [List.any_map]
 congr 1
 funext p
 show decide ((Sum.inr p.1:Key) = Sum.inr z) = decide (p.1 = z)
 exact key_rr _ _
theorem fst_fp:∀ (zs:List Str) (i:Nat) (acc:List (Str × Nat)),fstF i (kvP acc) zs = kvP (fpF i acc zs)
 | [],_,_=>rfl
 | z :: zs,i,acc=>by
  show fstF (i + 1) (if (valV (kvP acc) (.inr z)).isSome = true then kvP acc else putK (kvP acc) (.inr z) (.int i)) zs = kvP (fpF (i + 1) (if (acc.any fun p=>decide (p.1 = z)) = true then acc else acc ++ [(z,i)]) zs)
  rw [kvP_any]
  cases e:acc.any fun p=>decide (p.1 = z) with
  | true=>exact fst_fp zs (i + 1) acc
  | false=>
   have e2:putK (kvP acc) (.inr z) (.int (i:Nat)) = kvP (acc ++ [(z,i)]):=by
    unfold putK
    rw [valV_any,kvP_any,e,if_neg Bool.false_ne_true]
    unfold kvP
    rw [List.map_append]
    rfl
   rw [if_neg Bool.false_ne_true,if_neg Bool.false_ne_true,e2]
   exact fst_fp zs (i + 1) _
theorem kvP_val {fp:List (Str × Nat)} {k:Key} {v:V} (h:valV (kvP fp) k = some v):∃ (z:Str) (j:Nat),k = .inr z/\v = .int (j:Nat)/\(z,j) ∈ fp:=by
 unfold valV at h
 cases e:(kvP fp).find? fun kv=>decide (kv.1 = k) with
 | none=>rw [e] at h; cases h
 | some kv=>
  rw [e] at h
  have hm:=List.mem_of_find?_eq_some e
  have hk:=List.find?_some e
  unfold kvP at hm
  obtain ⟨p,hp,rfl⟩:=List.mem_map.mp hm
  exact ⟨p.1,p.2,(of_decide_eq_true hk).symm,(Option.some.inj h).symm,hp⟩
theorem fp_flat (fp:List (Str × Nat)):FlatD1 (kvP fp):=fun k v h=>by
 obtain ⟨z,j,_,rfl,_⟩:=kvP_val h
 rfl
theorem fp_keep {z:Str}:∀ (zs:List Str) (i:Nat) (acc:List (Str × Nat)),(acc.any fun p=>decide (p.1 = z)) = true->((fpF i acc zs).any fun p=>decide (p.1 = z)) = true
 | [],_,_,h=>h
 | y :: ys,i,acc,h=>by
  show ((fpF (i + 1) _ ys).any _) = true
  refine fp_keep ys (i + 1) _ ?_
  split
  ·exact h
  ·rw [List.any_append,h]; rfl
theorem fp_mem {z:Str}:∀ (zs:List Str) (i:Nat) (acc:List (Str × Nat)),z ∈ zs->((fpF i acc zs).any fun p=>decide (p.1 = z)) = true
 | [],_,_,h=>by cases h
 | y :: ys,i,acc,h=>by
  show ((fpF (i + 1) _ ys).any _) = true
  rcases List.mem_cons.mp h with rfl | h
  ·refine fp_keep ys (i + 1) _ ?_
   split
   next e=>exact e
   ·rw [List.any_append]
    simp
  ·exact fp_mem ys (i + 1) _ h
def fpZ (zs:List Str):List (Str × Nat):=fpF 0 [] zs
theorem fst_Z (zs:List Str):fstF 0 [] zs = kvP (fpZ zs):=fst_fp zs 0 []
def dblF (fk:List (Key × V)):Nat->List Str->List (Str × Nat)
 | _,[]=>[]
 | i,z :: zs=>(if valV fk (.inr z) = some (.int (i:Nat)) then [] else [(("doubled" : Str),i)]) ++ dblF fk (i + 1) zs
theorem dblF_snoc {fk:List (Key × V)} {z:Str}:∀ (zs:List Str) (j i:Nat),zs[i]? = some z->dblF fk j (zs.take (i + 1)) = dblF fk j (zs.take i) ++ (if valV fk (.inr z) = some (.int (j + i:Nat)) then [] else [(("doubled" : Str),j + i)])
 | [],_,_,h=>by simp at h
 | y :: ys,j,0,h=>by
  have e:y = z:=by simpa using h
  subst e
  show (_ ++ []) = [] ++ _
  rw [List.append_nil,List.nil_append]
  rfl
 | y :: ys,j,i + 1,h=>by
  have:=dblF_snoc (fk:=fk) ys (j + 1) i (by simpa using h)
  show _ ++ dblF fk (j + 1) (ys.take (i + 1)) = _
  rw [this,show j + 1 + i = j + (i + 1) by omega,<- List.append_assoc]
  rfl
theorem dblF_len (fk:List (Key × V)):∀ (zs:List Str) (i:Nat),(dblF fk i zs).length<=zs.length
 | [],_=>Nat.le_refl _
 | r :: rs,i=>by
  have:=dblF_len fk rs (i + 1)
  show (_ ++ dblF fk (i + 1) rs).length<=rs.length + 1
  rw [List.length_append]
  split
  ·rw [List.length_nil]; omega
  ·rw [List.length_singleton]; omega
def unwW (rows:List Rw) (bars:List Str) (many:Nat) (z:Str):Option Str:=
 if z ∈ bars then some "barred" else match lastD' z rows with
  | none=>if (firstK 4 0 rows).isSome = true then none else some "strange"
  | some l=>if l < plN rows/\l < many then some "again" else none
where lastD' (z:Str) (rows:List Rw):Option Nat:=match valV (doorsF 0 [] rows) (.inr z) with
 | some (.int i)=>some i.toNat
 | _=>none
def unwF (rows:List Rw) (bars:List Str) (many:Nat) (fp:List (Str × Nat)):List (Str × Nat):=fp.filterMap fun p=>(unwW rows bars many p.1).map fun wd=>(wd,p.2)
def missF (rows:List Rw) (bars:List Str) (many:Nat) (zs:List Str):List (Str × Nat):=dblF (kvP (fpZ zs)) 0 zs ++ overF rows many ++ unwF rows bars many (fpZ zs) ++ lackF many (kvP (fpZ zs)) 0 rows
def spUnw (c:C5) (CF:Addr):Sp:=fun vs H Q _=>∃ (f d:Addr) (o:Obj) (many:Nat) (rows:List Rw) (bars:List Str) (fp:List (Str × Nat)),vs = [.ref f,.int (many:Nat),.ref d]/\rows.length<=500/\bars.length<=500/\fp.length<=900/\FormAt c CF H f rows bars/\H d = some (.frz o (.dK (kvP fp)))/\∀ (l:Addr) (H':Hp),Same H H'->NewMs H H' l (unwF rows bars many fp)->Q (.ref l) H'
def spMOf (c:C5) (CF:Addr):Sp:=fun vs H Q _=>∃ (f a:Addr) (many:Nat) (rows:List Rw) (bars zs:List Str),vs = [.ref f,.int (many:Nat),.ref a]/\rows.length<=500/\bars.length<=500/\many<=900/\zs.length<=900/\(∀ r ∈ rows,r.ok)/\FormAt c CF H f rows bars/\H a = some (.lst (zs.map V.str))/\∀ (l:Addr) (H':Hp),Same H H'->NewMs H H' l (missF rows bars many zs)->Q (.ref l) H'
theorem fpF_len:∀ (zs:List Str) (i:Nat) (acc:List (Str × Nat)),(fpF i acc zs).length<=acc.length + zs.length
 | [],_,_=>Nat.le_refl _
 | z :: zs,i,acc=>by
  have h:=fpF_len zs (i + 1) (if (acc.any fun p=>decide (p.1 = z)) = true then acc else acc ++ [(z,i)])
  have h2:(if (acc.any fun p=>decide (p.1 = z)) = true then acc else acc ++ [(z,i)]).length<=acc.length + 1:=by
   split
   ·omega
   ·rw [List.length_append]; exact Nat.le_refl _
  show (fpF (i + 1) _ zs).length<=acc.length + (zs.length + 1)
  omega
theorem MsAt.app {H:Hp} {us vs:List Addr} {ms ns:List (Str × Nat)} (h:MsAt H us ms) (h':MsAt H vs ns):MsAt H (us ++ vs) (ms ++ ns):=paired_app h h'
section
variable {P:Program} {w:World} {K:Frag} {mg:Str->Option Value} {base:Heap} {f CF:Addr} {fd:FuncData} {c:C5} {m:MA}
theorem ndDb:([Str.ofString "number",Str.ofString "name",Str.ofString "firsts"]:List Str).Nodup:=by decide +kernel
theorem scMOf:FnScope ["form","many","names","firsts","doubled"] ["form","many","names"] (defScope sMOf):=⟨rfl,rfl,rfl,by decide +kernel,rfl,by decide +kernel,by decide +kernel⟩
theorem ok_mof {g1 g2 g3 g4:Addr} {d1 d2 d3 d4:FuncData} (F:Fun K "misfits_of" "misfits_of" sMOf f fd) (hen:mg "enumerate" = none) (c1:Callee P w K mg base 1 "first_numbers" g1 d1 ["names"] spFirsts) (c2:Callee P w K mg base 2 "overs" g2 d2 ["form","many"] (spOvers c CF)) (c3:Callee P w K mg base 2 "unwelcomes" g3 d3 ["form","many","firsts"] (spUnw c CF)) (c4:Callee P w K mg base 3 "lackings" g4 d4 ["form","many","firsts"] (spLacks c CF)) :
  FnOk P w K mg base CX0 4 f fd ["form","many","names"] (spMOf c CF):=by
 refine F.ok scMOf (fun vs H Q E h=>?_) (fun cdv A outer s H vs Q E hr h=>?_)
 ·obtain ⟨f,a,many,rows,bars,zs,rfl,_⟩:=h
  rfl
 obtain ⟨f,a,many,rows,bars,zs,rfl,l5,lb5,lm,lz,hok,hF,ha,q⟩:=h
 have hr1:Room 1 _:=hr.mono (by decide)
 have hr2:Room 2 _:=hr.mono (by decide)
 have hu1:=hu_of hr
 refine ⟨_,pss_cons (ps_set (i:=3) scMOf.nd rfl (Or.inr rfl) (cF c1 hr1 (ac (pv 2) pa_nil)))
  (pss_cons (ps_lc (i:=4) ["firsts"] ["number","name","firsts"] [none,none,some 3] scMOf.nd rfl (Or.inl rfl) rfl ⟨rfl,rfl,rfl,rfl⟩ (pi_enum rfl hen (ac (pv 2) pa_nil)) (gown_tup2 (K:=K) (n:=2) 0 1) rfl rfl rfl
   (fun pins fp s H C=>⟨pg_tup rfl (pgs_cons (pg_name (i:=0) ndDb rfl (Or.inl rfl) (.inr rfl)) (pgs_cons (pg_name (i:=1) ndDb rfl (Or.inl rfl) (.inr rfl)) pgs_nil)),pif_one (pt_cmpR op_ne (pe_dget hu1 (pv 2) (pv 1) (fun _ _=>rfl)) (pv 0) (nomark _)),pe_tup (ac pe_str (ac (pv 0) pa_nil))⟩))
  (pss_one (ps_ret (pe_op op_cat (pe_op op_cat (pe_op op_cat (pv 4) (cF c2 hr2 (ac (pv 0) (ac (pv 1) pa_nil)))) (cF c3 hr2 (ac (pv 0) (ac (pv 1) (ac (pv 3) pa_nil))))) (cF c4 hr (ac (pv 0) (ac (pv 1) (ac (pv 3) pa_nil)))))))),?_⟩
 refine ⟨_,rfl,a,zs,rfl,ha,lz,fun d o H1 s1 hd0 hd1=>?_⟩
 rw [fst_Z] at hd1
 have lfp:(fpZ zs).length<=900:=by
  have:=fpF_len zs 0 []
  show (fpF 0 [] zs).length<=900
  simp at this
  omega
 generalize hfp:fpZ zs = fp at hd1 lfp
 refine ⟨_,rfl,a,rfl,⟨_,SqL.of (s1 _ _ ha)⟩,fun D hD=>?_⟩
 refine lc_enum (K:=K) (xs:=zs.map V.str) (fun i ys H'=>∃ us,ys = us.map V.ref/\Same H1 H'/\H' D = some (.lst ys)/\MsAt H' us (dblF (kvP fp) 0 (zs.take i))) ⟨[],rfl,same_new hD _,upd_same,.nil⟩ (fun i ys H' ⟨_,_,h,_⟩=>SqL.of (h _ _ (s1 _ _ ha))) ?_ ?_
 ·rintro i x p ys H' hlt hx ⟨us,rfl,sH,hDy,hm⟩ hpn
  obtain ⟨z,hz,rfl⟩:=strs_at hx
  have hi:i < zs.length:=(List.getElem?_eq_some_iff.mp hz).1
  have tk:=dblF_snoc (fk:=kvP fp) zs 0 i hz
  rw [Nat.zero_add] at tk
  have sp:=same_new hpn (.tup [.int (i:Nat),.str z])
  have lu:us.length<=i:=by
   rw [hm.length]
   refine Nat.le_trans (dblF_len _ _ _) ?_
   rw [List.length_take]
   omega
  have hsome:(valV (kvP fp) (.inr z)).isSome = true:=by
   rw [kvP_any,<- hfp]
   exact fp_mem zs 0 [] (List.mem_of_getElem? hz)
  obtain ⟨v,hv⟩:=Option.isSome_iff_exists.mp hsome
  obtain ⟨_,j,_,rfl,_⟩:=kvP_val hv
  have hd2:=sp _ _ (sH _ _ hd1)
  have hDy2:=sp _ _ hDy
  have hm2:=hm.same sp
  refine ⟨p,_,rfl,SqT.of upd_same,rfl,_,_,rfl,_,_,rfl,rfl,?_⟩
  have sA:=sH.trans sp
  generalize upd H' p (.tup [.int (i:Nat),.str z]) = H3 at sp hd2 hDy2 hm2 sA |-
  refine ⟨_,rfl,_,rfl,d,_,rfl,.inl ⟨_,.inr z,.inr ⟨o,hd2⟩,rfl,hv.symm⟩,_,rfl,rfl,_,rfl,?_⟩
  by_cases ej:j = i
  ·subst ej
   rw [if_pos hv,List.append_nil] at tk
   have ed:(!decide (V.int (j:Nat) = V.int (j:Nat))) = false:=by rw [decide_eq_true rfl]; rfl
   rw [ed]
   exact ⟨fun e=>Bool.noConfusion e,fun _=>lcS.mk hlt ⟨us,rfl,sA,hDy2,by rw [tk]; exact hm2⟩⟩
  ·have nv:¬ valV (kvP fp) (.inr z) = some (.int (i:Nat)):=fun e=>by
    rw [hv] at e
    have:=V.int.inj (Option.some.inj e)
    omega
   rw [if_neg nv] at tk
   have ed:(!decide (V.int (j:Nat) = V.int (i:Nat))) = true:=by
    rw [decide_eq_false (fun e=>by have:=V.int.inj e; omega)]
    rfl
   rw [ed]
   refine ⟨fun _=>?_,fun e=>Bool.noConfusion e⟩
   refine ⟨_,rfl,zz2,fun t ht=>?_⟩
   have s4:=same_new ht (.tup [.str "doubled",.int (i:Nat)])
   have hDy4:=s4 _ _ hDy2
   have hu:MA1 (upd H3 t (.tup [.str "doubled",.int (i:Nat)])) t ("doubled",i):=by
    show upd H3 t _ t = _
    rw [upd_same]
   refine lcN.mk hlt (le1000 (by rw [List.length_map]; omega)) hDy4 (by rw [List.length_map]; exact lu) ⟨us ++ [t],by rw [List.map_append]; rfl,fun b' u' e'=>?_,upd_same,?_⟩
   ·rw [upd_ne (ne_of_none e' hD)]
    exact s4 _ _ (sA _ _ e')
   ·rw [tk]
    exact ((hm2.same s4).snoc hu).upd hDy4
 rintro ys H2 ⟨us,rfl,s2,hDy,hm⟩
 rw [List.length_map,List.take_length] at hm
 have s12:=s1.trans s2
 have lov:(overF rows many).length<=900:=by
  unfold overF
  split
  ·exact Nat.zero_le _
  ·rw [List.length_map,List.length_range]; omega
 have lun:(unwF rows bars many fp).length<=900:=by
  unfold unwF
  exact Nat.le_trans (List.length_filterMap_le _ _) lfp
 have lla:=lackF_len many (kvP fp) rows 0
 have ldb:=dblF_len (kvP fp) zs 0
 have big : 4000<=sizeLine:=by decide
 refine ⟨_,rfl,_,rfl,_,rfl,f,many,rows,bars,rfl,lm,l5,hF.same s12,fun l3 H3 s3 ⟨us3,n3,e3,m3⟩=>?_⟩
 have lu0:=hm.length
 have lu3:=m3.length
 refine ⟨D,l3,_,_,rfl,rfl,s3 _ _ hDy,e3,(by simp only [List.length_map]; omega),fun p4 hp4=>?_⟩
 rw [<- List.map_append]
 have u4:=same_new hp4 (.lst ((us ++ us3).map V.ref))
 have e4:upd H3 p4 (.lst ((us ++ us3).map V.ref)) p4 = some (.lst ((us ++ us3).map V.ref)):=upd_same
 have m4:MsAt (upd H3 p4 (.lst ((us ++ us3).map V.ref))) (us ++ us3) _:=((hm.same s3).app m3).same u4
 generalize upd H3 p4 (.lst ((us ++ us3).map V.ref)) = H4 at u4 e4 m4 |-
 have s24:=s2.trans (s3.trans u4)
 have s14:=s1.trans s24
 refine ⟨_,rfl,_,rfl,_,rfl,f,d,o,many,rows,bars,fp,rfl,l5,lb5,lfp,hF.same s14,s24 _ _ hd1,fun l5' H5 s5 ⟨us5,n5,e5,m5⟩=>?_⟩
 have lu5:=m5.length
 refine ⟨p4,l5',_,_,rfl,rfl,s5 _ _ e4,e5,(by simp only [List.length_map,List.length_append]; omega),fun p6 hp6=>?_⟩
 rw [<- List.map_append]
 have u6:=same_new hp6 (.lst ((us ++ us3 ++ us5).map V.ref))
 have e6:upd H5 p6 (.lst ((us ++ us3 ++ us5).map V.ref)) p6 = some (.lst ((us ++ us3 ++ us5).map V.ref)):=upd_same
 have m6:MsAt (upd H5 p6 (.lst ((us ++ us3 ++ us5).map V.ref))) (us ++ us3 ++ us5) _:=((m4.same s5).app m5).same u6
 generalize upd H5 p6 (.lst ((us ++ us3 ++ us5).map V.ref)) = H6 at u6 e6 m6 |-
 have s26:=s24.trans (s5.trans u6)
 have s16:=s1.trans s26
 refine ⟨_,rfl,_,rfl,_,rfl,f,d,many,rows,bars,kvP fp,rfl,l5,hok,hF.same s16,.inr ⟨o,s26 _ _ hd1⟩,fp_flat fp,fun l7 H7 s7 ⟨us7,n7,e7,m7⟩=>?_⟩
 have lu7:=m7.length
 refine ⟨p6,l7,_,_,rfl,rfl,s7 _ _ e6,e7,(by simp only [List.length_map,List.length_append]; omega),fun p8 hp8=>?_⟩
 rw [<- List.map_append]
 have u8:=same_new hp8 (.lst ((us ++ us3 ++ us5 ++ us7).map V.ref))
 refine q p8 _ (s16.trans (s7.trans u8)) ⟨us ++ us3 ++ us5 ++ us7,(s16.trans s7).free hp8,upd_same,?_⟩
 unfold missF
 rw [hfp]
 exact ((m6.same s7).app m7).same u8
end
theorem dv_val:∀ (rows:List Rw) (i:Nat) (acc:List (Key × V)) (k:Key) (v:V),(∀ k v,valV acc k = some v->∃ j:Nat,v = .int (j:Nat))->valV (doorsF i acc rows) k = some v->∃ j:Nat,v = .int (j:Nat)
 | [],_,acc,k,v,h,e=>h k v e
 | r :: rs,i,acc,k,v,h,e=>by
  refine dv_val rs (i + 1) _ k v (fun k v e=>?_) e
  split at e
  ·rw [valV_put] at e
   split at e
   ·exact ⟨i,(Option.some.inj e).symm⟩
   ·exact h k v e
  ·exact h k v e
theorem unwF_snoc {rows:List Rw} {bars:List Str} {many:Nat} {fp:List (Str × Nat)} {i:Nat} {p:Str × Nat} (h:fp[i]? = some p):unwF rows bars many (fp.take (i + 1)) = unwF rows bars many (fp.take i) ++ (match unwW rows bars many p.1 with | some wd=>[(wd,p.2)] | none=>[]):=by
 unfold unwF
 rw [List.take_add_one,h,List.filterMap_append]
 congr 1
 show List.filterMap _ [p] = _
 rw [List.filterMap_cons,List.filterMap_nil]
 cases unwW rows bars many p.1 <;> rfl
theorem unwF_len (rows:List Rw) (bars:List Str) (many:Nat) (fp:List (Str × Nat)):(unwF rows bars many fp).length<=fp.length:=List.length_filterMap_le _ _
section
variable {P:Program} {w:World} {K:Frag} {mg:Str->Option Value} {base:Heap} {f CF:Addr} {fd:FuncData} {c:C5} {m:MA}
theorem scUnw:FnScope ["form","many","firsts","barred","found","name","number","leads_to"] ["form","many","firsts"] (defScope sUnw):=⟨rfl,rfl,rfl,by decide +kernel,rfl,by decide +kernel,by decide +kernel⟩
theorem ok_unw {gB gN gG gP:Addr} {eB eN eG eP:FuncData} (F:Fun K "unwelcomes" "unwelcomes" sUnw f fd) (hset:mg "set" = none) (FK:FC K CF) (mB:Meth K CF "bars" gB) (GB:FnOk P w K mg base CX0 1 gB eB ["self"] (spBars c CF)) (bB:Binds K eB ["self"] []) (mN:Meth K CF "number_of" gN) (GN:FnOk P w K mg base CX0 1 gN eN ["self","name"] (spNum c CF)) (bN:Binds K eN ["self","name"] [])
  (mG:Meth K CF "bag" gG) (GG:FnOk P w K mg base CX0 1 gG eG ["self"] (spWord c CF 4)) (bG:Binds K eG ["self"] []) (mP:Meth K CF "places" gP) (GP:FnOk P w K mg base CX0 1 gP eP ["self"] (spPlaces c CF)) (bP:Binds K eP ["self"] []) :
  FnOk P w K mg base CX0 2 f fd ["form","many","firsts"] (spUnw c CF):=by
 refine F.ok scUnw (fun vs H Q E h=>?_) (fun cdv A outer s H vs Q E hr h=>?_)
 ·obtain ⟨f,d,o,many,rows,bars,fp,rfl,_⟩:=h
  rfl
 obtain ⟨f,d,o,many,rows,bars,fp,rfl,l5,lb5,lfp,hF,hd,q⟩:=h
 refine ⟨_,pss_cons (ps_set (i:=3) scUnw.nd rfl (Or.inl rfl) (cTy (call_setT rfl) hset PyProof.Rows.boot_set (ac (pe_meth0 (pv 0) FK.cl mB GB hr bB .nil pass0) pa_nil)))
  (pss_cons (ps_set (i:=4) scUnw.nd rfl (Or.inl rfl) (pe_lst pa_nil))
  (pss_cons (ps_for PassesOwn.never rfl (pi_items (pv 2)) (pg_tup rfl (pgs_cons (pg_name (i:=5) scUnw.nd rfl (Or.inl rfl)) (pgs_cons (pg_name (i:=6) scUnw.nd rfl (Or.inl rfl)) pgs_nil)))
   (pss_cons (ps_set (i:=7) scUnw.nd rfl (Or.inl rfl) (pe_meth (pv 0) FK.cl mN GN hr bN .nil pass0 (ac (pv 5) pa_nil)))
   (pss_one (ps_if (pt_cmpR op_in_setT (pv 5) (pv 3) (by with_unfolding_all rfl)) (pss_one (ps_expr (pe_bm PySem.F.plainAttrs_list PySem.F.slot_list_append PySem.F.type_list_append mt_append (pv 4) (ac (pe_tup (ac pe_str (ac (pv 6) pa_nil))) pa_nil))))
    (pss_one (ps_if (pt_cmp (pc_isN (pv 7))) (pss_one (ps_if (pt_cmp (pc_isN (pe_meth0 (pv 0) FK.cl mG GG hr bG .nil pass0))) (pss_one (ps_expr (pe_bm PySem.F.plainAttrs_list PySem.F.slot_list_append PySem.F.type_list_append mt_append (pv 4) (ac (pe_tup (ac pe_str (ac (pv 6) pa_nil))) pa_nil)))) pss_nil))
     (pss_one (ps_if (PW.pt (pw_and (pt_cmpR op_lt (pv 7) (pe_meth0 (pv 0) FK.cl mP GP hr bP .nil pass0) (nomark _)) (pw_and1 (pt_cmpR op_lt (pv 7) (pv 1) (nomark _))))) (pss_one (ps_expr (pe_bm PySem.F.plainAttrs_list PySem.F.slot_list_append PySem.F.type_list_append mt_append (pv 4) (ac (pe_tup (ac pe_str (ac (pv 6) pa_nil))) pa_nil)))) pss_nil))))))))
  (pss_one (ps_ret (pv 4))))),?_⟩
 obtain ⟨dx,fs,lr,lb,ld,ps0,h1,h2,h3,h4,h5,h6⟩:=id hF
 have nmB:fs.lookup ("bars" : Str) = none:=h2.no _ (by decide +kernel)
 have nmN:fs.lookup ("number_of" : Str) = none:=h2.no _ (by decide +kernel)
 have nmG:fs.lookup ("bag" : Str) = none:=h2.no _ (by decide +kernel)
 have nmP:fs.lookup ("places" : Str) = none:=h2.no _ (by decide +kernel)
 refine ⟨_,rfl,f,dx,fs,rfl,h1,nmB,f,rows,bars,rfl,hF,fun lb1 H1 s1 nb eb=>?_⟩
 refine ⟨lb1,bars,rfl,SqL.of eb,by omega,fun sS nS hS=>?_⟩
 have u2:=same_new hS (setO P w sS (fun z=>decide (z ∈ bars)) nS)
 have e2:upd H1 sS (setO P w sS (fun z=>decide (z ∈ bars)) nS) sS = some (setO P w sS (fun z=>decide (z ∈ bars)) nS):=upd_same
 show tSeq _ _ _ _ (upd H1 sS (setO P w sS (fun z=>decide (z ∈ bars)) nS))
 generalize upd H1 sS (setO P w sS (fun z=>decide (z ∈ bars)) nS) = H2 at u2 e2 |-
 refine ⟨zz0,fun l hl=>?_⟩
 have u3:=same_new hl (.lst [])
 have e3:upd H2 l (.lst []) l = some (.lst []):=upd_same
 show tSeq _ _ _ _ (upd H2 l (.lst []))
 generalize upd H2 l (.lst []) = H3 at u3 e3 |-
 have s2:=s1.trans u2
 have s3:=s2.trans u3
 have hlH:H l = none:=s2.free hl
 have nl:∀ {b:Addr} {u:HO},H2 b = some u->b ≠ l:=fun e=>ne_of_none e hl
 have sHl:∀ {H':Hp},(∀ b u,H2 b = some u->H' b = some u)->Same H H':=fun k b u e=>k b u (s2 _ _ e)
 refine ⟨_,rfl,d,o,kvP fp,rfl,s3 _ _ hd,for_items (d:=d) (o:=o) (kvs:=kvP fp) (fun i σ H'=>∃ (us:List Addr) (v5 v6 v7:Option V),σ = [some (.ref f),some (.int (many:Nat)),some (.ref d),some (.ref sS),some (.ref l),v5,v6,v7]/\(∀ b u,H2 b = some u->H' b = some u)/\H' l = some (.lst (us.map V.ref))/\MsAt H' us (unwF rows bars many (fp.take i)))
  ⟨[],_,_,_,rfl,fun _ _ e=>u3 _ _ e,e3,.nil⟩ (fun i σ H' _ ⟨_,_,_,_,_,sH,_⟩=>sH _ _ (s2 _ _ hd)) ?_ ?_⟩
 ·rintro i k v p σ H' hk ⟨us,v5,v6,v7,rfl,sH,hl',hm⟩ hpn
  obtain ⟨z,n,hz,rfl,rfl⟩:∃ (z:Str) (n:Nat),fp[i]? = some (z,n)/\k = .inr z/\v = .int (n:Nat):=by
   unfold kvP at hk
   rw [List.getElem?_map] at hk
   cases e:fp[i]? with
   | none=>rw [e] at hk; cases hk
   | some q=>rw [e] at hk; cases hk; exact ⟨q.1,q.2,rfl,rfl,rfl⟩
  have tk:=unwF_snoc (rows:=rows) (bars:=bars) (many:=many) hz
  dsimp only at tk
  have sp:=same_new hpn (.tup [kV (.inr z),.int (n:Nat)])
  have lu:us.length<=i:=by
   rw [hm.length]
   refine Nat.le_trans (unwF_len _ _ _ _) ?_
   rw [List.length_take]
   omega
  have hi:i < fp.length:=(List.getElem?_eq_some_iff.mp hz).1
  have sH1:∀ b u,H2 b = some u->upd H' p (.tup [kV (.inr z),.int (n:Nat)]) b = some u:=fun b u e=>sp _ _ (sH b u e)
  have hl1:=sp _ _ hl'
  have hm1:=hm.same sp
  refine ⟨p,_,rfl,SqT.of upd_same,rfl,_,_,rfl,_,_,rfl,rfl,?_⟩
  generalize upd H' p (.tup [kV (.inr z),.int (n:Nat)]) = H4 at sH1 hl1 hm1 |-
  have s4:=sHl sH1
  refine ⟨_,rfl,f,dx,fs,rfl,s4 _ _ h1,nmN,_,rfl,f,z,rows,bars,rfl,hF.same s4,?_⟩
  refine ⟨_,rfl,_,rfl,sS,_,_,z,rfl,rfl,sH1 _ _ e2,_,rfl,?_⟩
  by_cases hz1:z ∈ bars
  ·refine dT hz1 ?_
   rw [show unwW rows bars many z = some "barred" from if_pos hz1] at tk
   refine ⟨_,rfl,.inl ⟨rfl,_,SqL.of hl1⟩,_,rfl,zz2,fun t ht=>?_⟩
   have s6:=same_new ht (.tup [.str "barred",.int (n:Nat)])
   have hl6:=s6 _ _ hl1
   have hu2:MA1 (upd H4 t (.tup [.str "barred",.int (n:Nat)])) t ("barred",n):=by
    show upd H4 t _ t = _
    rw [upd_same]
   refine ⟨l,_,.ref t,rfl,rfl,hl6,small1000 (by rw [List.length_map]; omega),?_⟩
   refine ⟨us ++ [t],_,_,_,rfl,fun b u e=>?_,by rw [upd_same,List.map_append]; rfl,?_⟩
   ·rw [upd_ne (nl e)]
    exact s6 _ _ (sH1 b u e)
   ·rw [tk]
    exact ((hm1.same s6).snoc hu2).upd hl6
  ·refine dF hz1 ?_
   have e0:unwW rows bars many z = (match unwW.lastD' z rows with | none=>if (firstK 4 0 rows).isSome = true then none else some "strange" | some l=>if l < plN rows/\l < many then some "again" else none):=if_neg hz1
   cases ev:valV (doorsF 0 [] rows) (.inr z) with
   | none=>
    have e1:unwW.lastD' z rows = none:=by unfold unwW.lastD'; rw [ev]
    rw [e1] at e0
    refine ⟨_,rfl,_,rfl,?_⟩
    refine dT rfl ?_
    refine ⟨_,rfl,f,dx,fs,rfl,s4 _ _ h1,nmG,f,rows,bars,rfl,hF.same s4,_,rfl,?_⟩
    cases eg:firstK 4 0 rows with
    | none=>
     have e2':unwW rows bars many z = some "strange":=by rw [e0,eg]; rfl
     refine dT rfl ?_
     rw [show unwW rows bars many z = some "strange" from e2'] at tk
     refine ⟨_,rfl,.inl ⟨rfl,_,SqL.of hl1⟩,_,rfl,zz2,fun t ht=>?_⟩
     have s6:=same_new ht (.tup [.str "strange",.int (n:Nat)])
     have hl6:=s6 _ _ hl1
     have hu2:MA1 (upd H4 t (.tup [.str "strange",.int (n:Nat)])) t ("strange",n):=by
      show upd H4 t _ t = _
      rw [upd_same]
     refine ⟨l,_,.ref t,rfl,rfl,hl6,small1000 (by rw [List.length_map]; omega),?_⟩
     refine ⟨us ++ [t],_,_,_,rfl,fun b u e=>?_,by rw [upd_same,List.map_append]; rfl,?_⟩
     ·rw [upd_ne (nl e)]
      exact s6 _ _ (sH1 b u e)
     ·rw [tk]
      exact ((hm1.same s6).snoc hu2).upd hl6
    | some j=>
     have e2':unwW rows bars many z = none:=by rw [e0,eg]; rfl
     refine dF (by intro z; cases z) ?_
     rw [show unwW rows bars many z = none from e2',List.append_nil] at tk
     exact ⟨us,_,_,_,rfl,sH1,hl1,by rw [tk]; exact hm1⟩
   | some v=>
    obtain ⟨j,rfl⟩:=dv_val rows 0 [] (.inr z) v (fun k v e=>by cases e) ev
    have e1:unwW.lastD' z rows = some j:=by unfold unwW.lastD'; rw [ev]; rfl
    rw [e1] at e0
    refine ⟨_,rfl,_,rfl,?_⟩
    refine dF (by intro z; cases z) ?_
    refine ⟨_,rfl,_,rfl,f,dx,fs,rfl,s4 _ _ h1,nmP,f,rows,bars,rfl,hF.same s4,_,_,rfl,rfl,_,rfl,?_⟩
    by_cases hj1:j < plN rows
    ·refine iteB (decide_eq_true (by show (j:Int) < (plN rows:Int); omega)) ?_
     refine ⟨_,rfl,_,rfl,_,_,rfl,rfl,_,rfl,?_⟩
     by_cases hj2:j < many
     ·have e2':unwW rows bars many z = some "again":=by rw [e0]; exact if_pos ⟨hj1,hj2⟩
      refine iteB (decide_eq_true (by show (j:Int) < (many:Int); omega)) ?_
      rw [show unwW rows bars many z = some "again" from e2'] at tk
      refine ⟨_,rfl,.inl ⟨rfl,_,SqL.of hl1⟩,_,rfl,zz2,fun t ht=>?_⟩
      have s6:=same_new ht (.tup [.str "again",.int (n:Nat)])
      have hl6:=s6 _ _ hl1
      have hu2:MA1 (upd H4 t (.tup [.str "again",.int (n:Nat)])) t ("again",n):=by
       show upd H4 t _ t = _
       rw [upd_same]
      refine ⟨l,_,.ref t,rfl,rfl,hl6,small1000 (by rw [List.length_map]; omega),?_⟩
      refine ⟨us ++ [t],_,_,_,rfl,fun b u e=>?_,by rw [upd_same,List.map_append]; rfl,?_⟩
      ·rw [upd_ne (nl e)]
       exact s6 _ _ (sH1 b u e)
      ·rw [tk]
       exact ((hm1.same s6).snoc hu2).upd hl6
     ·have e2':unwW rows bars many z = none:=by rw [e0]; exact if_neg fun h=>hj2 h.2
      refine iteC (decide_eq_false (by show ¬ (j:Int) < (many:Int); omega)) ?_
      rw [show unwW rows bars many z = none from e2',List.append_nil] at tk
      exact ⟨us,_,_,_,rfl,sH1,hl1,by rw [tk]; exact hm1⟩
    ·have e2':unwW rows bars many z = none:=by rw [e0]; exact if_neg fun h=>hj1 h.1
     refine iteC (decide_eq_false (by show ¬ (j:Int) < (plN rows:Int); omega)) ?_
     refine iteF ?_
     rw [show unwW rows bars many z = none from e2',List.append_nil] at tk
     exact ⟨us,_,_,_,rfl,sH1,hl1,by rw [tk]; exact hm1⟩
 ·rintro σ H' ⟨us,v5,v6,v7,rfl,sH,hl',hm⟩
  have lk:(kvP fp).length = fp.length:=by unfold kvP; rw [List.length_map]
  rw [lk,List.take_length] at hm
  exact ⟨_,rfl,q l H' (sHl sH) ⟨us,hlH,hl',hm⟩⟩
end
def missC (rows:List Rw) (bars:List Str) (c:List Item):List (Str × Nat):=missF rows bars (laidT c).length (namesOf c)
structure CallOk (K:Frag) (H:Hp) (a:Addr) (ct:List Item):Prop where
 at_:∃ xs,SqL K H a xs/\Paired (Says K T' H 3) xs (ct.map itemD)
 lt:(laidT ct).length<=900
 lp:(laidP ct).length<=900
structure FormOk (c:C5) (CF:Addr) (H:Hp) (f:Addr) (rows:List Rw) (bars:List Str):Prop where
 at_:FormAt c CF H f rows bars
 lr:rows.length<=500
 lb:bars.length<=500
 ok:∀ r ∈ rows,r.ok
theorem FormOk.same {c:C5} {CF:Addr} {H H':Hp} {f:Addr} {rows:List Rw} {bars:List Str} (h:FormOk c CF H f rows bars) (s:Same H H'):FormOk c CF H' f rows bars:=⟨h.at_.same s,h.lr,h.lb,h.ok⟩
theorem CallOk.same {K:Frag} {H H':Hp} {a:Addr} {ct:List Item} (h:CallOk K H a ct) (s:Same H H'):CallOk K H' a ct:=by
 obtain ⟨⟨xs,h1,h2⟩,l1,l2⟩:=h
 exact ⟨⟨xs,s.seq h1,Paired.imp' (fun _ _ z=>z.same s) h2⟩,l1,l2⟩
def spMis (K:Frag) (c:C5) (CF:Addr):Sp:=fun vs H Q _=>∃ (f a:Addr) (rows:List Rw) (bars:List Str) (ct:List Item),vs = [.ref f,.ref a]/\FormOk c CF H f rows bars/\CallOk K H a ct/\∀ (l:Addr) (H':Hp),Same H H'->NewMs H H' l (missC rows bars ct)->Q (.ref l) H'
section
variable {P:Program} {w:World} {K:Frag} {mg:Str->Option Value} {base:Heap} {f CF:Addr} {fd:FuncData} {c:C5} {m:MA}
theorem scMis:FnScope ["form","call","many","names"] ["form","call"] (defScope sMisfits):=⟨rfl,rfl,rfl,by decide +kernel,rfl,by decide +kernel,by decide +kernel⟩
theorem ok_mis {g1 g2:Addr} {d1 d2:FuncData} (F:Fun K "misfits" "misfits" sMisfits f fd) (c1:Callee P w K mg base 2 "shape" g1 d1 ["call"] (spShape K)) (c2:Callee P w K mg base 4 "misfits_of" g2 d2 ["form","many","names"] (spMOf c CF)):FnOk P w K mg base CX0 5 f fd ["form","call"] (spMis K c CF):=by
 refine F.ok scMis (fun vs H Q E h=>?_) (fun cdv A outer s H vs Q E hr h=>?_)
 ·obtain ⟨f,a,rows,bars,ct,rfl,_⟩:=h
  rfl
 obtain ⟨f,a,rows,bars,ct,rfl,hF,⟨⟨xs,hx,hc⟩,lt,lp⟩,q⟩:=h
 have hr2:Room 2 _:=hr.mono (by decide)
 refine ⟨_,pss_cons (ps_asg (cF c1 hr2 (ac (pv 1) pa_nil)) (pg_tup rfl (pgs_cons (pg_name (i:=2) scMis.nd rfl (Or.inl rfl)) (pgs_cons (pg_name (i:=3) scMis.nd rfl (Or.inl rfl)) pgs_nil))))
  (pss_one (ps_ret (cF c2 hr (ac (pv 0) (ac (pv 2) (ac (pv 3) pa_nil)))))),?_⟩
 refine ⟨_,rfl,a,ct,xs,rfl,hx,hc,lt,lp,fun p l H1 s1 nl ep el=>?_⟩
 refine ⟨p,_,rfl,SqT.of ep,rfl,_,_,rfl,_,_,rfl,rfl,?_⟩
 have hF1:=hF.same s1
 have ln:(namesOf ct).length<=900:=by unfold namesOf; rw [List.length_map]; exact lp
 exact ⟨_,rfl,_,rfl,_,rfl,f,l,(laidT ct).length,rows,bars,namesOf ct,rfl,hF.lr,hF.lb,lt,ln,hF.ok,hF1.at_,el,fun l2 H2 s2 ⟨us,n2,e2,m2⟩=>q l2 H2 (s1.trans s2) ⟨us,s1.free n2,e2,m2⟩⟩
end
def spXI (K:Frag) (nm:Str):Sp:=fun vs H Q _=>∃ (x C t:Addr) (v:V),vs = [.ref x,v]/\H x = some (excX x C none t)/\XSet K C/\NoAttr K C nm/\∀ dx,H dx = none->Q .non (upd (upd H x (excX x C (some dx) t)) dx (.xd [(nm,v)]))
section
variable {P:Program} {w:World} {K:Frag} {mg:Str->Option Value} {base:Heap} {f:Addr} {fd:FuncData}
theorem scXMis:FnScope ["self","number"] ["self","number"] (defScope sXMis):=⟨rfl,rfl,rfl,by decide +kernel,rfl,by decide +kernel,by decide +kernel⟩
theorem ok_xmis (F:Fun K "__init__" "Misfit.__init__" sXMis f fd):FnOk P w K mg base CX0 1 f fd ["self","number"] (spXI K "number"):=by
 refine F.ok scXMis (fun vs H Q E h=>?_) (fun cdv A outer s H vs Q E hr h=>?_)
 ·obtain ⟨x,C,t,v,rfl,_⟩:=h
  rfl
 obtain ⟨x,C,t,v,rfl,hx,m,n,q⟩:=h
 refine ⟨_,pss_one (ps_fldX (pv 0) (pv 1) rfl),?_⟩
 exact ⟨_,rfl,_,rfl,x,C,t,rfl,hx,m,n,q⟩
theorem same_drop2 {H H2:Hp} {x d:Addr} {o o' o'':HO} (s:Same H H2) (hx:H2 x = none) (hd:upd H2 x o d = none):Same H (drop (upd (upd (upd H2 x o) x o') d o'') x):=fun b u e=>by
 have nx:b ≠ x:=ne_of_none (s _ _ e) hx
 have e2:upd H2 x o b = some u:=by rw [upd_ne nx]; exact s _ _ e
 rw [drop_ne nx,upd_ne (ne_of_none e2 hd),upd_ne nx]
 exact e2
theorem drop_at2 {H2:Hp} {x d:Addr} {o o' o'':HO} (hd:upd H2 x o d = none):drop (upd (upd (upd H2 x o) x o') d o'') x d = some o'':=by
 have:d ≠ x:=fun z=>by rw [z,upd_same] at hd; cases hd
 rw [drop_ne this,upd_same]
structure XCls (P:Program) (w:World) (K:Frag) (mg:Str->Option Value) (base:Heap) (x:Str) (C g:Addr) (gd:FuncData) (a nm:Str):Prop where
 call:XCall K C g
 set:XSet K C
 no:NoAttr K C nm
 ex:ExcCls K C
 gl:mg x = some (.ref C)
 ok:FnOk P w K mg base CX0 1 g gd ["self",a] (spXI K nm)
 bd:Binds K gd ["self",a] []
structure X6 (P:Program) (w:World) (K:Frag) (mg:Str->Option Value) (base:Heap) (cl:Nat->Addr) (g:Addr) (gd:FuncData):Prop where
 x0:XCls P w K mg base "Doubled" (cl 0) g gd "number" "number"
 x1:XCls P w K mg base "Over" (cl 1) g gd "number" "number"
 x2:XCls P w K mg base "Barred" (cl 2) g gd "number" "number"
 x3:XCls P w K mg base "Again" (cl 3) g gd "number" "number"
 x4:XCls P w K mg base "Strange" (cl 4) g gd "number" "number"
 x5:XCls P w K mg base "Lacking" (cl 5) g gd "number" "number"
def misI (z:Str):Nat:=if z = "doubled" then 0 else if z = "over" then 1 else if z = "barred" then 2 else if z = "again" then 3 else if z = "strange" then 4 else 5
theorem misI_lt (z:Str):misI z < 6:=by
 unfold misI
 repeat' split
 all_goals decide
def spRefuse (cl:Nat->Addr):Sp:=fun vs H Q E=>∃ (z:Str) (n:Nat),vs = [.str z,.int (n:Nat)]/\∀ (d:Addr) (H':Hp),Same H H'->H' d = some (.xd [("number",.int (n:Nat))])->E (.ref (cl (misI z))) (some d) H'
theorem scRefuse:FnScope ["word","number"] ["word","number"] (defScope sRefuse):=⟨rfl,rfl,rfl,by decide +kernel,rfl,by decide +kernel,by decide +kernel⟩
theorem ok_refuse {cl:Nat->Addr} {g:Addr} {gd:FuncData} (F:Fun K "refuse" "refuse" sRefuse f fd) (X':X6 P w K mg base cl g gd):FnOk P w K mg base (CXs P w) 3 f fd ["word","number"] (spRefuse cl):=by
 refine F.okS scRefuse (fun vs H Q E h=>?_) (fun cdv A outer s H vs Q E hr h=>?_)
 ·obtain ⟨z,n,rfl,_⟩:=h
  rfl
 obtain ⟨z,n,rfl,q⟩:=h
 refine ⟨_,pss_cons (ps_if (pt_cmpR op_eq (pv 0) pe_str (nomark _)) (pss_one (ps_raiseS raisesS_cx rfl (pe_makeX X'.x0.call X'.x0.ok hr rfl X'.x0.gl X'.x0.bd pass0 (ac (pv 1) pa_nil)))) pss_nil)
  (pss_cons (ps_if (pt_cmpR op_eq (pv 0) pe_str (nomark _)) (pss_one (ps_raiseS raisesS_cx rfl (pe_makeX X'.x1.call X'.x1.ok hr rfl X'.x1.gl X'.x1.bd pass0 (ac (pv 1) pa_nil)))) pss_nil)
  (pss_cons (ps_if (pt_cmpR op_eq (pv 0) pe_str (nomark _)) (pss_one (ps_raiseS raisesS_cx rfl (pe_makeX X'.x2.call X'.x2.ok hr rfl X'.x2.gl X'.x2.bd pass0 (ac (pv 1) pa_nil)))) pss_nil)
  (pss_cons (ps_if (pt_cmpR op_eq (pv 0) pe_str (nomark _)) (pss_one (ps_raiseS raisesS_cx rfl (pe_makeX X'.x3.call X'.x3.ok hr rfl X'.x3.gl X'.x3.bd pass0 (ac (pv 1) pa_nil)))) pss_nil)
  (pss_cons (ps_if (pt_cmpR op_eq (pv 0) pe_str (nomark _)) (pss_one (ps_raiseS raisesS_cx rfl (pe_makeX X'.x4.call X'.x4.ok hr rfl X'.x4.gl X'.x4.bd pass0 (ac (pv 1) pa_nil)))) pss_nil)
  (pss_one (ps_raiseS raisesS_cx rfl (pe_makeX X'.x5.call X'.x5.ok hr rfl X'.x5.gl X'.x5.bd pass0 (ac (pv 1) pa_nil)))))))),?_⟩
 have go:∀ {x:Str} {C:Addr} (X':XCls P w K mg base x C g gd "number" "number") (Dn:Ends),(C = cl (misI z))->tRaiseS K H E (tMakeX C (spXI K "number") E0 (tCons (tVar 1) tNil)) Dn [some (.str z),some (.int (n:Nat))] H:=fun {x C} X' Dn hC=>by
  subst hC
  refine ⟨_,rfl,by show 1<=sizeLine; decide,fun x tu hxn htn hne=>?_⟩
  refine ⟨x,_,tu,_,rfl,upd_same,X'.set,X'.no,fun d hd=>⟨rfl,x,_,some d,tu,rfl,?_,X'.ex,X'.call.ob,hxn,?_⟩⟩
  ·have:x ≠ d:=fun z=>by rw [<- z,upd_same] at hd; cases hd
   rw [upd_ne this,upd_same]
  ·exact q d _ (same_drop2 (Same.refl _) hxn hd) (drop_at2 hd)
 refine ⟨_,rfl,rfl,_,rfl,?_⟩
 by_cases h0:z = "doubled"
 ·refine dT (congrArg V.str h0) ?_
  refine go X'.x0 _ (congrArg cl (Eq.symm ?_))
  unfold misI
  exact if_pos h0
 refine dF (fun e=>h0 (V.str.inj e)) ?_
 refine ⟨_,rfl,rfl,_,rfl,?_⟩
 by_cases h1:z = "over"
 ·refine dT (congrArg V.str h1) ?_
  refine go X'.x1 _ (congrArg cl (Eq.symm ?_))
  unfold misI
  rw [if_neg h0]
  exact if_pos h1
 refine dF (fun e=>h1 (V.str.inj e)) ?_
 refine ⟨_,rfl,rfl,_,rfl,?_⟩
 by_cases h2:z = "barred"
 ·refine dT (congrArg V.str h2) ?_
  refine go X'.x2 _ (congrArg cl (Eq.symm ?_))
  unfold misI
  rw [if_neg h0]
  rw [if_neg h1]
  exact if_pos h2
 refine dF (fun e=>h2 (V.str.inj e)) ?_
 refine ⟨_,rfl,rfl,_,rfl,?_⟩
 by_cases h3:z = "again"
 ·refine dT (congrArg V.str h3) ?_
  refine go X'.x3 _ (congrArg cl (Eq.symm ?_))
  unfold misI
  rw [if_neg h0]
  rw [if_neg h1]
  rw [if_neg h2]
  exact if_pos h3
 refine dF (fun e=>h3 (V.str.inj e)) ?_
 refine ⟨_,rfl,rfl,_,rfl,?_⟩
 by_cases h4:z = "strange"
 ·refine dT (congrArg V.str h4) ?_
  refine go X'.x4 _ (congrArg cl (Eq.symm ?_))
  unfold misI
  rw [if_neg h0]
  rw [if_neg h1]
  rw [if_neg h2]
  rw [if_neg h3]
  exact if_pos h4
 refine dF (fun e=>h4 (V.str.inj e)) ?_
 have h5:cl 5 = cl (misI z):=congrArg cl (by unfold misI; rw [if_neg h0,if_neg h1,if_neg h2,if_neg h3,if_neg h4])
 exact go X'.x5 { nx:=fun _ H'=>Q .non H',rt:=Q } h5
end
def ptF (f l1 l2:Addr):List (Str × V):=putF "pairs" (.ref l2) (putF "things" (.ref l1) (putF "kept_form" (.ref f) []))
def PtAt (K:Frag) (CP:Addr) (H:Hp) (p f:Addr) (ts:List Int) (ps:List (Str × Int)):Prop:=
 ∃ dx l1 l2 ys,H p = some (.ins CP dx (ptF f l1 l2))/\H l1 = some (.lst (ts.map V.int))/\H l2 = some (.lst ys)/\Paired (Says K T' H 1) ys (ps.map pairD)
structure PtC (K:Frag) (CP:Addr):Prop where
 cl:Cls K CP
 n1:NoAttr K CP "kept_form"
 n2:NoAttr K CP "things"
 n3:NoAttr K CP "pairs"
def nlF (ms:List (Str × Nat)):Option (Str × Nat):=ms.find? fun m=>decide (m.1 ≠ "lacking")
def spRFirstS (K:Frag) (c:C5) (CF:Addr) (cl:Nat->Addr):Sp:=fun vs H Q E=>∃ (f a:Addr) (rows:List Rw) (bars:List Str) (ct:List Item),vs = [.ref f,.ref a]/\FormOk c CF H f rows bars/\CallOk K H a ct/\(nlF (missC rows bars ct) = none->∀ H',Same H H'->Q .non H')/\
 (∀ m,nlF (missC rows bars ct) = some m->∀ (d:Addr) (H':Hp),Same H H'->H' d = some (.xd [("number",.int (m.2:Nat))])->E (.ref (cl (misI m.1))) (some d) H')
def spPtI (K:Frag) (c:C5) (CF CP:Addr) (cl:Nat->Addr):Sp:=fun vs H Q E=>∃ (p f a dx:Addr) (rows:List Rw) (bars:List Str) (ct:List Item),vs = [.ref p,.ref f,.ref a]/\H p = some (.ins CP dx [])/\FormOk c CF H f rows bars/\CallOk K H a ct/\(nlF (missC rows bars ct) = none->∀ H',SX p H H'->PtAt K CP H' p f (laidT ct) (laidP ct)->Q .non H')/\
 (∀ m,nlF (missC rows bars ct) = some m->∀ (d:Addr) (H':Hp),Same H H'->H' d = some (.xd [("number",.int (m.2:Nat))])->E (.ref (cl (misI m.1))) (some d) H')
theorem sqT_ins {K:Frag} {H:Hp} {p C dx:Addr} {fs:List (Str × V)} {o:HO} (hp:H p = some (.ins C dx fs)) {b:Addr} {zs:List V} (h:SqT K H b zs):SqT K (upd H p o) b zs:=by
 rcases h with (z | ⟨u,z⟩) | z
 ·exact .inl (.inl (by rw [upd_ne (ne_of z hp (by intro e; cases e))]; exact z))
 ·exact .inl (.inr ⟨u,by rw [upd_ne (ne_of z hp (by intro e; cases e))]; exact z⟩)
 ·exact .inr z
theorem sqL_ins {K:Frag} {H:Hp} {p C dx:Addr} {fs:List (Str × V)} {o:HO} (hp:H p = some (.ins C dx fs)) {b:Addr} {zs:List V} (h:SqL K H b zs):SqL K (upd H p o) b zs:=by
 rcases h with (z | ⟨u,z⟩) | z
 ·exact .inl (.inl (by rw [upd_ne (ne_of z hp (by intro e; cases e))]; exact z))
 ·exact .inl (.inr ⟨u,by rw [upd_ne (ne_of z hp (by intro e; cases e))]; exact z⟩)
 ·exact .inr z
theorem says_ins {K:Frag} {H:Hp} {p C dx:Addr} {fs:List (Str × V)} {o:HO} {n:Nat} {x:V} {d:Dt} (hp:H p = some (.ins C dx fs)) (h:Says K T' H n x d):Says K T' (upd H p o) n x d:=
 h.frame (fun _ _ z=>sqT_ins hp z) fun b _ _ z=>⟨True.intro,by rw [upd_ne (ne_of z hp (by intro e; cases e))]; exact z⟩
theorem CallOk.setp {K:Frag} {H:Hp} {p C dx a:Addr} {fs:List (Str × V)} {o:HO} {ct:List Item} (h:CallOk K H a ct) (hp:H p = some (.ins C dx fs)):CallOk K (upd H p o) a ct:=by
 obtain ⟨⟨xs,h1,h2⟩,l1,l2⟩:=h
 exact ⟨⟨xs,sqL_ins hp h1,Paired.imp' (fun _ _ z=>says_ins hp z) h2⟩,l1,l2⟩
section
variable {P:Program} {w:World} {K:Frag} {mg:Str->Option Value} {base:Heap} {f CF CP N:Addr} {fd:FuncData} {c:C5} {m:MA}
theorem scRFirst:FnScope ["form","call","word","number"] ["form","call"] (defScope sRFirst):=⟨rfl,rfl,rfl,by decide +kernel,rfl,by decide +kernel,by decide +kernel⟩
theorem ok_rfirst {cl:Nat->Addr} {g1 g2:Addr} {d1 d2:FuncData} (F:Fun K "refuse_first_things" "refuse_first_things" sRFirst f fd) (c1:Callee P w K mg base 5 "misfits" g1 d1 ["form","call"] (spMis K c CF)) (c2:CalleeS P w K mg base 3 "refuse" g2 d2 ["word","number"] (spRefuse cl)):FnOk P w K mg base (CXs P w) 6 f fd ["form","call"] (spRFirstS K c CF cl):=by
 refine F.okS scRFirst (fun vs H Q E h=>?_) (fun cdv A outer s H vs Q E hr h=>?_)
 ·obtain ⟨f,a,rows,bars,ct,rfl,_⟩:=h
  rfl
 obtain ⟨f,a,rows,bars,ct,rfl,hF,hC,q1,q2⟩:=h
 have hr3:Room 3 _:=hr.mono (by decide)
 refine ⟨_,pss_one (ps_for PassesOwn.leaving rfl (pi_list (cF c1 hr (ac (pv 0) (ac (pv 1) pa_nil)))) (pg_tup rfl (pgs_cons (pg_name (i:=2) scRFirst.nd rfl (Or.inl rfl)) (pgs_cons (pg_name (i:=3) scRFirst.nd rfl (Or.inl rfl)) pgs_nil)))
   (pss_one (ps_if (pt_cmpR op_ne (pv 2) pe_str (nomark _)) (pss_one (ps_expr (cS c2 (passS fun _ _ _ z=>z) hr3 (ac (pv 2) (ac (pv 3) pa_nil))))) pss_nil))),?_⟩
 refine ⟨_,rfl,_,rfl,f,a,rows,bars,ct,rfl,hF,hC,fun l H1 s1 ⟨us,nl,el,ml⟩=>?_⟩
 refine ⟨l,rfl,⟨_,SqL.of el⟩,for_list (K:=K) (a:=l) (xs:=us.map V.ref) (fun i σ H'=>∃ v2 v3,σ = [some (.ref f),some (.ref a),v2,v3]/\H' = H1/\∀ m ∈ (missC rows bars ct).take i,m.1 = "lacking") ⟨_,_,rfl,rfl,fun m h=>by simp at h⟩ (fun i σ H' _ ⟨_,_,_,e,_⟩=>by rw [e]; exact SqL.of el) ?_ ?_⟩
 ·rintro i x σ H' hx ⟨v2,v3,rfl,rfl,hall⟩
  obtain ⟨u,hu,rfl⟩:=refs_at hx
  obtain ⟨mm,hm,tm⟩:=paired_at ml hu
  refine ⟨u,_,rfl,SqT.of tm,rfl,_,_,rfl,_,_,rfl,rfl,?_⟩
  refine ⟨_,rfl,rfl,_,rfl,?_⟩
  have hi:i < (missC rows bars ct).length:=(List.getElem?_eq_some_iff.mp hm).1
  have em:(missC rows bars ct)[i] = mm:=(List.getElem?_eq_some_iff.mp hm).2
  by_cases hw:mm.1 = "lacking"
  ·refine iteNS (by rw [hw]) ?_
   refine ⟨_,_,rfl,rfl,fun m' h'=>?_⟩
   rw [List.take_succ_eq_append_getElem hi,em] at h'
   rcases List.mem_append.mp h' with h' | h'
   ·exact hall m' h'
   ·rw [List.mem_singleton.mp h']; exact hw
  ·have hnl:nlF (missC rows bars ct) = some mm:=by
    unfold nlF
    have e:missC rows bars ct = (missC rows bars ct).take i ++ mm :: (missC rows bars ct).drop (i + 1):=by
     conv=>lhs; rw [<- List.take_append_drop i (missC rows bars ct)]
     rw [List.drop_eq_getElem_cons hi,em]
    rw [e,List.find?_append,List.find?_eq_none.mpr (fun m' h'=>by rw [hall m' h']; decide +kernel)]
    rw [List.find?_cons,decide_eq_true hw]
    rfl
   have hne:(!decide (V.str mm.1 = V.str "lacking")) = true:=by
    rw [decide_eq_false (fun e=>hw (V.str.inj e))]
    rfl
   refine iteB hne ?_
   exact ⟨_,rfl,_,rfl,mm.1,mm.2,rfl,fun d H3 s3 hd=>q2 mm hnl d H3 (s1.trans s3) hd⟩
 ·rintro σ H' ⟨v2,v3,rfl,rfl,hall⟩
  refine q1 ?_ _ s1
  unfold nlF
  rw [List.length_map,ml.length,List.take_length] at hall
  exact List.find?_eq_none.mpr (fun m' h'=>by rw [hall m' h']; decide +kernel)
theorem scPtI:FnScope ["self","form","call","things","pairs"] ["self","form","call"] (defScope sPtInit):=⟨rfl,rfl,rfl,by decide +kernel,rfl,by decide +kernel,by decide +kernel⟩
theorem ok_ptI {cl:Nat->Addr} {g1 g2:Addr} {d1 d2:FuncData} (F:Fun K "__init__" "Part.__init__" sPtInit f fd) (PC':PtC K CP) (c1:CalleeS P w K mg base 6 "refuse_first_things" g1 d1 ["form","call"] (spRFirstS K c CF cl)) (c2:Callee P w K mg base 1 "laid" g2 d2 ["call"] (spLaid K)):FnOk P w K mg base (CXs P w) 7 f fd ["self","form","call"] (spPtI K c CF CP cl):=by
 refine F.okS scPtI (fun vs H Q E h=>?_) (fun cdv A outer s H vs Q E hr h=>?_)
 ·obtain ⟨p,f,a,dx,rows,bars,ct,rfl,_⟩:=h
  rfl
 obtain ⟨p,f,a,dx,rows,bars,ct,rfl,hp,hF,hC,q,q2⟩:=h
 have hr1:Room 1 _:=hr.mono (by decide)
 refine ⟨_,pss_cons (ps_expr (cS c1 (passS fun _ _ _ z=>z) hr (ac (pv 1) (ac (pv 2) pa_nil))))
  (pss_cons (ps_fld (pv 0) (pv 1) rfl)
  (pss_cons (ps_asg (cF c2 hr1 (ac (pv 2) pa_nil)) (pg_tup rfl (pgs_cons (pg_name (i:=3) scPtI.nd rfl (Or.inl rfl)) (pgs_cons (pg_name (i:=4) scPtI.nd rfl (Or.inl rfl)) pgs_nil))))
  (pss_cons (ps_fld (pv 0) (pv 3) rfl)
  (pss_one (ps_fld (pv 0) (pv 4) rfl))))),?_⟩
 refine ⟨_,rfl,_,rfl,f,a,rows,bars,ct,rfl,hF,hC,fun hnl H1 s1=>?_,fun m hm d H1 s1 hd=>q2 m hm d H1 s1 hd⟩
 refine ⟨_,rfl,_,rfl,p,CP,dx,_,rfl,s1 _ _ hp,PC'.cl,PC'.n1,(by show 0 + 1<=1000; decide),?_⟩
 have hp1:=s1 _ _ hp
 have hC1:=(hC.same s1).setp (o:=.ins CP dx (putF "kept_form" (.ref f) [])) hp1
 have x2:SX p H (upd H1 p (.ins CP dx (putF "kept_form" (.ref f) []))):=(SX.refl.same s1).upd
 have p2:upd H1 p (.ins CP dx (putF "kept_form" (.ref f) [])) p = some (.ins CP dx (putF "kept_form" (.ref f) [])):=upd_same
 show tSeq _ _ _ _ (upd H1 p (.ins CP dx (putF "kept_form" (.ref f) [])))
 generalize upd H1 p (.ins CP dx (putF "kept_form" (.ref f) [])) = H2 at hC1 x2 p2 |-
 obtain ⟨⟨xs,hx,hc⟩,lt,lp⟩:=hC1
 refine ⟨_,rfl,a,ct,xs,rfl,hx,hc,lt,lp,fun t H3 s3 ⟨l1,l2,ys,n1,n2,n12,nt,et,e1,e2,gp⟩=>?_⟩
 refine ⟨t,_,rfl,SqT.of et,rfl,_,_,rfl,_,_,rfl,rfl,?_⟩
 have p3:=s3 _ _ p2
 refine ⟨_,rfl,_,rfl,p,CP,dx,_,rfl,p3,PC'.cl,PC'.n2,(by show 1 + 1<=1000; decide),?_⟩
 have x4:SX p H (upd H3 p (.ins CP dx (putF "things" (.ref l1) (putF "kept_form" (.ref f) [])))):=(x2.same s3).upd
 have p4:upd H3 p (.ins CP dx (putF "things" (.ref l1) (putF "kept_form" (.ref f) []))) p = some (.ins CP dx (putF "things" (.ref l1) (putF "kept_form" (.ref f) []))):=upd_same
 have e14:upd H3 p (.ins CP dx (putF "things" (.ref l1) (putF "kept_form" (.ref f) []))) l1 = some (.lst ((laidT ct).map V.int)):=by rw [upd_ne (ne_of e1 p3 (by intro z; cases z))]; exact e1
 have e24:upd H3 p (.ins CP dx (putF "things" (.ref l1) (putF "kept_form" (.ref f) []))) l2 = some (.lst ys):=by rw [upd_ne (ne_of e2 p3 (by intro z; cases z))]; exact e2
 have g4:Paired (Says K T' (upd H3 p (.ins CP dx (putF "things" (.ref l1) (putF "kept_form" (.ref f) [])))) 1) ys ((laidP ct).map pairD):=Paired.imp' (fun _ _ z=>says_ins p3 z) gp
 show tSeq _ _ _ _ (upd H3 p (.ins CP dx (putF "things" (.ref l1) (putF "kept_form" (.ref f) []))))
 generalize upd H3 p (.ins CP dx (putF "things" (.ref l1) (putF "kept_form" (.ref f) []))) = H4 at x4 p4 e14 e24 g4 |-
 refine ⟨_,rfl,_,rfl,p,CP,dx,_,rfl,p4,PC'.cl,PC'.n3,(by show 2 + 1<=1000; decide),?_⟩
 refine q hnl _ x4.upd ⟨dx,l1,l2,ys,upd_same,?_,?_,Paired.imp' (fun _ _ z=>says_ins p4 z) g4⟩
 ·rw [upd_ne (ne_of e14 p4 (by intro z; cases z))]; exact e14
 ·rw [upd_ne (ne_of e24 p4 (by intro z; cases z))]; exact e24
end
structure TxtL (mg:Str->Option Value):Prop where
 len:mg "len" = none
 range:mg "range" = none
 set:mg "set" = none
 en:mg "enumerate" = none
 list:mg "list" = none
 isi:mg "isinstance" = none
 bool:mg "bool" = none
 tuple:mg "tuple" = none
def spNthA (K:Frag):Sp:=fun vs H Q _=>∃ (a:Addr) (ns:List Int) (k:Nat),vs = [.ref a,.int k]/\SqL K H a (ns.map V.int)/\ns.length<=63/\∀ (n:Int) (H':Hp),Same H H'->Q (.int n) H'
def stirF (c k:Int):Int:=(c % 2147483647 + 97 * k + 5) * 48271 % 2147483647 * ((c % 2147483647 + 97 * k + 5) * 48271 % 2147483647) % 2147483629
theorem stirF_lt (c k:Int) : 0<=stirF c k/\stirF c k < 2147483629:=⟨Int.emod_nonneg _ (by decide),Int.emod_lt_of_pos _ (by decide)⟩
def spStir:Sp:=fun vs H Q _=>∃ c k:Int,vs = [.int c,.int k]/\Q (.int (stirF c k)) H
def spNumb:Sp:=fun vs H Q _=>∃ n:Int,vs = [.int n]/\0<=n/\n < 2147483648/\∀ m:Int,Q (.int m) H
def pnL (a b c q k:Nat):List Nat:=([97 + a,97 + b,97 + c]).take (k % 4) ++ [97 + (q + k) % 26]
def pn (a b c q k:Nat):Str:=⟨(pnL a b c q k).toArray⟩
def pool1 (a b c q:Nat):List Str:=(List.range 8).map (pn a b c q) ++ [⟨(pnL a b c q 0 ++ [97,97,97,97,97]).toArray⟩,⟨(pnL a b c q 1 ++ [97,97,97,97,97]).toArray⟩]
def pool0:List Str:=(List.range 26).map fun k=>(⟨#[97 + k]⟩:Str)
theorem name_codes {l:List Nat} (h1 : 1<=l.length) (h2:l.length<=8) (h3:∀ c ∈ l,97<=c/\c<=122):nameB ⟨l.toArray⟩ = true:=by
 unfold nameB
 have e:(⟨l.toArray⟩:Str).length = l.length:=by show l.toArray.size = _; simp
 rw [e,decide_eq_true h1,decide_eq_true h2,Bool.true_and,Bool.true_and]
 show l.toArray.toList.all low = true
 rw [List.all_eq_true]
 intro c hc
 have hc':c ∈ l:=by simpa using hc
 obtain ⟨g1,g2⟩:=h3 c hc'
 unfold low
 rw [decide_eq_true g1,decide_eq_true g2]
 rfl
theorem pnL_len (a b c q k:Nat):(pnL a b c q k).length = k % 4 + 1:=by
 unfold pnL
 rw [List.length_append,List.length_take]
 have:k % 4 < 4:=Nat.mod_lt _ (by decide)
 show min (k % 4) 3 + 1 = _
 omega
theorem pnL_low {a b c q k:Nat} (ha:a < 26) (hb:b < 26) (hc:c < 26):∀ x ∈ pnL a b c q k,97<=x/\x<=122:=by
 intro x hx
 unfold pnL at hx
 rcases List.mem_append.mp hx with hx | hx
 ·have:=List.mem_of_mem_take hx
  simp only [List.mem_cons,List.not_mem_nil,or_false] at this
  omega
 ·rw [List.mem_singleton.mp hx]
  have:(q + k) % 26 < 26:=Nat.mod_lt _ (by decide)
  omega
theorem str_inj {l m:List Nat} (h:(⟨l.toArray⟩:Str) = ⟨m.toArray⟩):l = m:=by
 have:l.toArray = m.toArray:=congrArg Str.cps h
 simpa using this
theorem pool1_name {a b c q:Nat} (ha:a < 26) (hb:b < 26) (hc:c < 26):∀ z ∈ pool1 a b c q,nameB z = true:=by
 intro z hz
 unfold pool1 at hz
 rcases List.mem_append.mp hz with hz | hz
 ·obtain ⟨k,_,rfl⟩:=List.mem_map.mp hz
  refine name_codes (by rw [pnL_len]; omega) (by rw [pnL_len]; have:k % 4 < 4:=Nat.mod_lt _ (by decide); omega) (pnL_low ha hb hc)
 ·have hx:∀ k,∀ x ∈ pnL a b c q k ++ [97,97,97,97,97],97<=x/\x<=122:=fun k x hx=>by
   rcases List.mem_append.mp hx with hx | hx
   ·exact pnL_low ha hb hc x hx
   ·simp only [List.mem_cons,List.not_mem_nil,or_false] at hx
    omega
  simp only [List.mem_cons,List.not_mem_nil,or_false] at hz
  rcases hz with rfl | rfl
  ·exact name_codes (by rw [List.length_append]; simp) (by rw [List.length_append,pnL_len]; decide) (hx 0)
  ·exact name_codes (by rw [List.length_append]; simp) (by rw [List.length_append,pnL_len]; decide) (hx 1)
theorem pn_inj {a b c q j k:Nat} (hj:j < 8) (hk:k < 8) (e:pn a b c q j = pn a b c q k):j = k:=by
 have h:=congrArg List.getLast? (str_inj e)
 unfold pnL at h
 rw [List.getLast?_append,List.getLast?_append] at h
 simp at h
 omega
theorem pool1_nd (a b c q:Nat):(pool1 a b c q).Nodup:=by
 unfold pool1
 refine List.nodup_append.mpr ⟨?_,?_,?_⟩
 ·refine List.pairwise_map.mpr (List.Pairwise.imp_of_mem ?_ List.nodup_range)
  intro x y hx hy ne e
  exact ne (pn_inj (List.mem_range.mp hx) (List.mem_range.mp hy) e)
 ·refine List.nodup_cons.mpr ⟨fun h=>?_,by simp⟩
  have:=congrArg List.length (str_inj (List.mem_singleton.mp h))
  rw [List.length_append,List.length_append,pnL_len,pnL_len] at this
  simp at this
 ·intro x hx y hy e
  obtain ⟨k,_,rfl⟩:=List.mem_map.mp hx
  have hk:k % 4 < 4:=Nat.mod_lt _ (by decide)
  simp only [List.mem_cons,List.not_mem_nil,or_false] at hy
  rcases hy with rfl | rfl
  ·have:=congrArg List.length (str_inj e)
   rw [List.length_append,pnL_len,pnL_len] at this
   simp at this
   omega
  ·have:=congrArg List.length (str_inj e)
   rw [List.length_append,pnL_len,pnL_len] at this
   simp at this
   omega
theorem pool0_name:∀ z ∈ pool0,nameB z = true:=by decide +kernel
theorem pool0_nd:pool0.Nodup:=by
 unfold pool0
 refine List.pairwise_map.mpr (List.Pairwise.imp_of_mem ?_ List.nodup_range)
 intro x y hx hy ne e
 have:=congrArg Str.cps e
 simp at this
 exact ne this
def spPool (K:Frag):Sp:=fun vs H Q _=>∃ c:Int,vs = [.int c]/\∀ (r:Addr) (zs:List Str) (H':Hp),Same H H'->H r = none->H' r = some (.lst (zs.map V.str))->zs.Nodup->(∀ z ∈ zs,nameB z = true)->0 < zs.length->zs.length<=26->Q (.ref r) H'
theorem abc_at:∀ m,m < 26->(Str.ofString "abcdefghijklmnopqrstuvwxyz").cps.toList[m]? = some (97 + m):=by decide +kernel
theorem abc_atI {i:Int} (h0 : 0<=i) (h1:i < 26):atI (Str.ofString "abcdefghijklmnopqrstuvwxyz").cps.toList i = some (97 + i.toNat):=by
 obtain ⟨m,rfl⟩:=Int.eq_ofNat_of_zero_le h0
 exact atI_nat (abc_at m (by omega))
theorem slice3 (x y z:Nat):∀ n,n < 4->Txt.slice ⟨#[x,y,z]⟩ none (some ((n:Nat):Int)) = ⟨([x,y,z].take n).toArray⟩
 | 0,_=>rfl
 | 1,_=>rfl
 | 2,_=>rfl
 | 3,_=>rfl
 | n + 4,h=>absurd h (by omega)
section
variable {P:Program} {w:World} {K:Frag} {mg:Str->Option Value} {base:Heap} {f:Addr} {fd:FuncData}
theorem scNth:FnScope ["_law_script","_law_k","_law_cells"] ["_law_script","_law_k"] (defScope sNth):=⟨rfl,rfl,rfl,by decide +kernel,rfl,by decide +kernel,by decide +kernel⟩
theorem ok_nth (F:Fun K "_law_nth" "_law_nth" sNth f fd):FnOk P w K mg base CX0 1 f fd ["_law_script","_law_k"] (spNthA K):=by
 refine F.ok scNth (fun vs H Q E h=>?_) (fun cdv A outer s H vs Q E hr h=>?_)
 ·obtain ⟨a,ns,k,rfl,_⟩:=h
  rfl
 obtain ⟨a,ns,k,rfl,hS,l63,q⟩:=h
 refine ⟨_,pss_cons (ps_set (i:=2) scNth.nd rfl (Or.inl rfl) (pe_op op_cat (pe_slice sl_list (pv 0) (po_some (pv 1)) (po_some (pe_op op_add (pv 1) pe_int))) (pe_lst (ac pe_int pa_nil))))
  (pss_one (ps_ret (pe_ix ix_list (pv 2) pe_int (fun _ _=>rfl)))),?_⟩
 obtain ⟨ms,em,lm,_⟩:=cut_ints ns (some (k:Int)) (some ((k:Int) + 1))
 refine ⟨_,rfl,_,rfl,_,rfl,_,rfl,_,_,rfl,rfl,_,rfl,a,_,rfl,hS,fun p hp=>?_⟩
 rw [em]
 have u1:=same_new hp (.lst (ms.map V.int))
 have e1:upd H p (.lst (ms.map V.int)) p = some (.lst (ms.map V.int)):=upd_same
 generalize upd H p (.lst (ms.map V.int)) = H1 at u1 e1 |-
 refine ⟨zz1,fun l hl=>?_⟩
 have u2:=same_new hl (.lst [.int 0])
 have big : 1000<=sizeLine:=by decide
 refine ⟨p,l,_,_,rfl,rfl,u2 _ _ e1,upd_same,(by rw [List.length_map]; show _ + 1<=_; omega),fun p3 hp3=>?_⟩
 have u3:=same_new hp3 (.lst (ms.map V.int ++ [.int 0]))
 have s3:=u1.trans (u2.trans u3)
 cases ms with
 | nil=>exact ⟨_,rfl,p3,_,0,.int 0,rfl,rfl,SqL.of upd_same,rfl,q 0 _ s3⟩
 | cons x xs=>exact ⟨_,rfl,p3,_,0,.int x,rfl,rfl,SqL.of upd_same,atI_nat (j:=0) rfl,q x _ s3⟩
theorem scStir:FnScope ["_law_cell","_law_k","_law_first"] ["_law_cell","_law_k"] (defScope sStir):=⟨rfl,rfl,rfl,by decide +kernel,rfl,by decide +kernel,by decide +kernel⟩
theorem ok_stir (F:Fun K "_law_stirred" "_law_stirred" sStir f fd):FnOk P w K mg base CX0 1 f fd ["_law_cell","_law_k"] spStir:=by
 refine F.ok scStir (fun vs H Q E h=>?_) (fun cdv A outer s H vs Q E hr h=>?_)
 ·obtain ⟨c,k,rfl,_⟩:=h
  rfl
 obtain ⟨c,k,rfl,q⟩:=h
 refine ⟨_,pss_cons (ps_set (i:=2) scStir.nd rfl (Or.inl rfl) (pe_op op_mod (pe_op op_mul (pe_op op_add (pe_op op_add (pe_op op_mod (pv 0) pe_int) (pe_op op_mul pe_int (pv 1))) pe_int) pe_int) pe_int))
  (pss_one (ps_ret (pe_op op_mod (pe_op op_mul (pv 2) (pv 2)) pe_int))),?_⟩
 refine ⟨_,rfl,_,_,rfl,rfl,(by show (0:Int) < 2147483647; decide),_,rfl,_,_,rfl,rfl,.inl ⟨by decide,by decide⟩,_,_,rfl,rfl,_,_,rfl,rfl,_,_,rfl,rfl,.inr ⟨by decide,by decide⟩,_,_,rfl,rfl,(by show (0:Int) < 2147483647; decide),?_⟩
 have h1 : 0<=(c % 2147483647 + 97 * k + 5) * 48271 % 2147483647:=Int.emod_nonneg _ (by decide)
 have h2:(c % 2147483647 + 97 * k + 5) * 48271 % 2147483647 < 2147483647:=Int.emod_lt_of_pos _ (by decide)
 exact ⟨_,rfl,_,rfl,_,_,rfl,rfl,.inl ⟨by omega,by omega⟩,_,_,rfl,rfl,(by show (0:Int) < 2147483629; decide),q⟩
theorem scNumb:FnScope ["_law_number_here","_law_great"] ["_law_number_here"] (defScope sNumber):=⟨rfl,rfl,rfl,by decide +kernel,rfl,by decide +kernel,by decide +kernel⟩
theorem ok_numb (F:Fun K "_law_number" "_law_number" sNumber f fd):FnOk P w K mg base CX0 1 f fd ["_law_number_here"] spNumb:=by
 refine F.ok scNumb (fun vs H Q E h=>?_) (fun cdv A outer s H vs Q E hr h=>?_)
 ·obtain ⟨n,rfl,_⟩:=h
  rfl
 obtain ⟨n,rfl,h0,h1,q⟩:=h
 refine ⟨_,pss_cons (ps_if (pt_cmpR op_eq (pe_op op_mod (pv 0) pe_int) pe_int (nomark _)) (pss_one (ps_ret (pe_op op_sub (pe_op op_mod (pe_op op_fdiv (pv 0) pe_int) pe_int) pe_int))) pss_nil)
  (pss_cons (ps_set (i:=1) scNumb.nd rfl (Or.inl rfl) (pe_op op_mul (pe_op op_mul (pe_op op_fdiv (pv 0) pe_int) (pv 0)) (pv 0)))
  (pss_one (ps_ret (pe_op op_add (pe_op op_sub (pe_op op_mod (pe_op op_mul (pe_op op_mulB (pv 1) (pv 1)) (pv 0)) (pe_op op_sub (pe_op op_mul pe_int (pe_op op_pow pe_int pe_int)) pe_int)) (pe_op op_pow pe_int pe_int)) pe_int)))),?_⟩
 refine ⟨_,rfl,_,_,rfl,rfl,zp2,rfl,_,rfl,?_⟩
 refine ite2 (fun _=>?_) (fun _=>?_)
 ·exact ⟨_,rfl,_,_,rfl,rfl,⟨by decide,by decide⟩,_,_,rfl,rfl,(by show (0:Int) < 41; decide),_,_,rfl,rfl,q _⟩
 ·refine ⟨_,rfl,_,_,rfl,rfl,⟨by decide,by decide⟩,_,rfl,_,_,rfl,rfl,.inr ⟨by omega,by omega⟩,_,rfl,_,_,rfl,rfl,.inr ⟨by omega,by omega⟩,?_⟩
  have bn:Builtin.Int.intBits n<=40:=Nat.le_trans (bits_le (a:=n) (c:=2147483648) (by omega)) (by decide +kernel)
  have b2:Builtin.Int.intBits (n / 2)<=40:=Nat.le_trans (bits_le (a:=n / 2) (c:=2147483648) (by omega)) (by decide +kernel)
  have b3:Builtin.Int.intBits (n / 2 * n * n)<=120:=by
   have:=PySem.intBits_mul_le (PySem.intBits_mul_le b2 bn) bn
   exact this
  have hm:IntMulOk (n / 2 * n * n) (n / 2 * n * n):=.of_bits (Nat.le_trans b3 (by decide)) (Nat.le_trans b3 (by decide))
  exact ⟨_,rfl,_,rfl,_,_,rfl,rfl,hm,_,rfl,_,_,rfl,rfl,.inr ⟨by omega,by omega⟩,_,_,rfl,rfl,⟨by decide,by decide,by decide⟩,_,_,rfl,rfl,.inl ⟨by decide,by decide⟩,_,_,rfl,rfl,_,_,rfl,rfl,(by show (0:Int) < 2 * 10 ^ Int.toNat 60 - 1; decide +kernel),_,_,rfl,rfl,⟨by decide,by decide,by decide⟩,_,_,rfl,rfl,_,_,rfl,rfl,q _⟩
theorem ndPl1:([Str.ofString "_law_sign"]:List Str).Nodup:=by decide +kernel
theorem ndPl2:([Str.ofString "_law_k",Str.ofString "_law_cell",Str.ofString "_law_letters",Str.ofString "_law_stem"]:List Str).Nodup:=by decide +kernel
theorem scPool:FnScope ["_law_cell","_law_letters","_law_stem","_law_pool_here"] ["_law_cell"] (defScope sPool):=⟨rfl,rfl,rfl,by decide +kernel,rfl,by decide +kernel,by decide +kernel⟩
theorem ok_pool (F:Fun K "_law_pool" "_law_pool" sPool f fd) (U:TxtL mg):FnOk P w K mg base CX0 1 f fd ["_law_cell"] (spPool K):=by
 refine F.ok scPool (fun vs H Q E h=>?_) (fun cdv A outer s H vs Q E hr h=>?_)
 ·obtain ⟨c,rfl,_⟩:=h
  rfl
 obtain ⟨cc,rfl,q⟩:=h
 refine ⟨_,pss_cons (ps_set (i:=1) scPool.nd rfl (Or.inr rfl) pe_str)
  (pss_cons (ps_if (pt_cmpR op_eq (pe_op op_mod (pe_op op_fdiv (pv 0) pe_int) pe_int) pe_int (nomark _)) (pss_one (ps_ret (pe_lc [] ["_law_sign"] [none] rfl ⟨rfl,rfl,rfl,rfl⟩ (pi_str (pv 1)) (gown_name 0) rfl rfl rfl
   (fun pins fp s H C=>⟨pg_name (i:=0) ndPl1 rfl (Or.inl rfl) (.inr rfl),pif_nil,pv 0⟩)))) pss_nil)
  (pss_cons (ps_set (i:=2) scPool.nd rfl (Or.inr rfl) (pe_op op_add_str (pe_op op_add_str (pe_ix ix_str (pv 1) (pe_op op_mod (pv 0) pe_int) (fun _ _=>rfl)) (pe_ix ix_str (pv 1) (pe_op op_mod (pe_op op_fdiv (pv 0) pe_int) pe_int) (fun _ _=>rfl))) (pe_ix ix_str (pv 1) (pe_op op_mod (pe_op op_fdiv (pv 0) pe_int) pe_int) (fun _ _=>rfl))))
  (pss_cons (ps_lc (i:=3) ["_law_stem","_law_letters","_law_cell"] ["_law_k","_law_cell","_law_letters","_law_stem"] [none,some 0,some 1,some 2] scPool.nd rfl (Or.inl rfl) rfl ⟨rfl,rfl,rfl,rfl⟩ (pi_range1 rfl U.range (ac pe_int pa_nil)) (gown_name 0) rfl rfl rfl
   (fun pins fp s H C=>⟨pg_name (i:=0) ndPl2 rfl (Or.inl rfl) (.inr rfl),pif_nil,pe_op op_add_str (pe_slice sl_str (pv 3) po_none (po_some (pe_op op_mod (pv 0) pe_int))) (pe_ix ix_str (pv 2) (pe_op op_mod (pe_op op_add (pe_op op_fdiv (pv 1) pe_int) (pv 0)) pe_int) (fun _ _=>rfl))⟩))
  (pss_one (ps_ret (pe_op op_cat (pv 3) (pe_lst (ac (pe_op op_add_str (pe_ix ix_list (pv 3) pe_int (fun _ _=>rfl)) pe_str) (ac (pe_op op_add_str (pe_ix ix_list (pv 3) pe_int (fun _ _=>rfl)) pe_str) pa_nil)))))))))
  ,?_⟩
 refine seq_via (fun σ' H'=>σ' = [some (.int cc),some (.str "abcdefghijklmnopqrstuvwxyz"),none,none]/\H' = H) ?_ (fun key=>?_)
 rotate_left
 ·exact key _ _ ⟨rfl,rfl⟩
 rintro σ0 H0 ⟨rfl,rfl⟩
 refine ⟨_,rfl,_,_,rfl,rfl,⟨by decide,by decide⟩,_,_,rfl,rfl,zp8,rfl,_,rfl,?_⟩
 have l26:(Str.ofString "abcdefghijklmnopqrstuvwxyz").cps.toList.length = 26:=by decide +kernel
 refine ite2 (fun _=>?_) (fun _=>?_)
 ·refine ⟨_,rfl,_,rfl,fun D hD=>?_⟩
  refine ⟨fun i m ys H'=>i<=26/\m = 26 - i/\ys = ((List.range i).map fun k=>(⟨#[97 + k]⟩:Str)).map V.str/\H' = upd H0 D (.lst ys),⟨_,Nat.zero_le _,rfl,rfl,rfl⟩,?_⟩
  rintro i m ys H' ⟨hi,rfl,rfl,rfl⟩
  have sz:(Str.ofString "abcdefghijklmnopqrstuvwxyz").cps.size = 26:=by decide +kernel
  by_cases he:i = 26
  ·subst he
   refine .inl ⟨by show (Str.ofString "abcdefghijklmnopqrstuvwxyz").cps.size<=26; rw [sz]; exact Nat.le_refl _,?_⟩
   exact q D pool0 _ (same_new hD _) hD upd_same pool0_nd pool0_name (by decide) (by decide)
  ·refine .inr ⟨by show i < (Str.ofString "abcdefghijklmnopqrstuvwxyz").cps.size; rw [sz]; omega,?_⟩
   rintro x H' ⟨rfl,ch,hc,rfl⟩
   refine ⟨fun _=>?_,fun e=>Bool.noConfusion e⟩
   have hc':(Str.ofString "abcdefghijklmnopqrstuvwxyz").cps.toList[i]? = some ch:=by simpa using hc
   rw [abc_at i (by omega)] at hc'
   cases hc'
   refine ⟨_,rfl,upd_same,?_,26 - (i + 1),by omega,by omega,rfl,?_,?_⟩
   ·rw [List.length_map,List.length_map,List.length_range]
    exact small1000 (by omega)
   ·rw [List.range_succ,List.map_append,List.map_append]
    rfl
   ·rw [upd_upd]
 have x0 : 0<=cc % 26:=Int.emod_nonneg _ (by decide)
 have x1:cc % 26 < 26:=Int.emod_lt_of_pos _ (by decide)
 have y0 : 0<=cc / 26 % 26:=Int.emod_nonneg _ (by decide)
 have y1:cc / 26 % 26 < 26:=Int.emod_lt_of_pos _ (by decide)
 have z0 : 0<=cc / 676 % 26:=Int.emod_nonneg _ (by decide)
 have z1:cc / 676 % 26 < 26:=Int.emod_lt_of_pos _ (by decide)
 have big : 1000<=sizeLine:=by decide
 have l26':(Str.ofString "abcdefghijklmnopqrstuvwxyz").length<=sizeLine:=by decide +kernel
 refine ⟨_,rfl,_,rfl,_,_,rfl,rfl,zp26,_,_,_,rfl,rfl,l26',abc_atI x0 x1,_,rfl,_,rfl,_,_,rfl,rfl,⟨by decide,by decide⟩,_,_,rfl,rfl,zp26,_,_,_,rfl,rfl,l26',abc_atI y0 y1,_,_,rfl,rfl,(by show 1 + 1<=sizeLine; decide),_,rfl,_,rfl,_,_,rfl,rfl,⟨by decide,by decide⟩,_,_,rfl,rfl,zp26,_,_,_,rfl,rfl,l26',abc_atI z0 z1,_,_,rfl,rfl,(by show 2 + 1<=sizeLine; decide),?_⟩
 obtain ⟨a,ea,ha⟩:∃ a,a = (cc % 26).toNat/\a < 26:=⟨_,rfl,by omega⟩
 obtain ⟨b,eb,hb⟩:∃ b,b = (cc / 26 % 26).toNat/\b < 26:=⟨_,rfl,by omega⟩
 obtain ⟨c,ec,hc⟩:∃ c,c = (cc / 676 % 26).toNat/\c < 26:=⟨_,rfl,by omega⟩
 rw [<- ea,<- eb,<- ec]
 obtain ⟨qq,eq⟩:∃ qq,qq = (cc / 17576 % 26).toNat:=⟨_,rfl⟩
 have q0 : 0<=cc / 17576 % 26:=Int.emod_nonneg _ (by decide)
 have st:((⟨#[97 + a]⟩:Str) ++ (⟨#[97 + b]⟩:Str)) ++ (⟨#[97 + c]⟩:Str) = ⟨#[97 + a,97 + b,97 + c]⟩:=rfl
 rw [st]
 refine ⟨8,rfl,by decide,by decide,fun D hD=>?_⟩
 refine lc_range (n:=8) (fun i ys H'=>Same H0 H'/\H' D = some (.lst ys)/\ys = ((List.range i).map (pn a b c qq)).map V.str) ⟨same_new hD _,upd_same,rfl⟩ ?_ ?_
 ·rintro i ys H' hi ⟨sH,hDy,ey⟩
  refine ⟨fun _=>?_,fun e=>Bool.noConfusion e⟩
  have w0 : 0<=(cc / 17576 + ((0:Int) + (i:Int))) % 26:=Int.emod_nonneg _ (by decide)
  have w1:(cc / 17576 + ((0:Int) + (i:Int))) % 26 < 26:=Int.emod_lt_of_pos _ (by decide)
  have ew:((cc / 17576 + ((0:Int) + (i:Int))) % 26).toNat = (qq + i) % 26:=by omega
  have e4:((0:Int) + (i:Int)) % 4 = ((i % 4:Nat):Int):=by omega
  refine ⟨_,rfl,_,rfl,_,_,rfl,rfl,zp4,_,rfl,_,rfl,zz3,_,rfl,_,rfl,_,_,rfl,rfl,⟨by decide,by decide⟩,_,rfl,_,_,rfl,rfl,_,_,rfl,rfl,zp26,_,_,_,rfl,rfl,l26',abc_atI w0 w1,?_⟩
  rw [ew,e4,slice3 _ _ _ _ (Nat.mod_lt _ (by decide))]
  have hl:(⟨(([97 + a,97 + b,97 + c]:List Nat).take (i % 4)).toArray⟩:Str).length<=3:=by
   show (List.toArray _).size<=3
   rw [List.size_toArray,List.length_take]
   show min _ 3<=3
   omega
  refine ⟨_,_,rfl,rfl,Nat.le_trans (show _ + 1<=1000 by omega) big,?_⟩
  refine lcN.mk hi (by decide) hDy (by rw [ey,List.length_map,List.length_map,List.length_range]; exact Nat.le_refl _) ⟨fun b' u e=>by rw [upd_ne (ne_of_none e hD)]; exact sH _ _ e,upd_same,?_⟩
  rw [ey,List.range_succ,List.map_append,List.map_append]
  show _ ++ [V.str _] = _ ++ [V.str (pn a b c qq i)]
  congr 3
  unfold pn pnL
  show (⟨List.toArray _ ++ #[97 + (qq + i) % 26]⟩:Str) = _
  congr 1
  apply Array.ext'
  simp
 ·rintro ys H1 ⟨s1,hDy,ey⟩
  subst ey
  have e0:atI (((List.range 8).map (pn a b c qq)).map V.str) 0 = some (.str (pn a b c qq 0)):=rfl
  have e1:atI (((List.range 8).map (pn a b c qq)).map V.str) 1 = some (.str (pn a b c qq 1)):=rfl
  refine ⟨_,rfl,_,rfl,D,_,0,_,rfl,rfl,SqL.of hDy,e0,_,_,rfl,rfl,(by show 1 + 5<=sizeLine; decide),_,rfl,D,_,1,_,rfl,rfl,SqL.of hDy,e1,_,_,rfl,rfl,(by show 2 + 5<=sizeLine; decide),zz2,fun l2 hl2=>?_⟩
  have s2:=same_new hl2 (.lst [.str (pn a b c qq 0 ++ "aaaaa"),.str (pn a b c qq 1 ++ "aaaaa")])
  refine ⟨D,l2,_,_,rfl,rfl,s2 _ _ hDy,upd_same,(by show 10<=sizeLine; decide),fun r hr'=>?_⟩
  have s3:=same_new hr' (.lst (((List.range 8).map (pn a b c qq)).map V.str ++ [.str (pn a b c qq 0 ++ "aaaaa"),.str (pn a b c qq 1 ++ "aaaaa")]))
  refine q r (pool1 a b c qq) _ (s1.trans (s2.trans s3)) (s1.free (s2.free hr')) ?_ (pool1_nd a b c qq) (pool1_name ha hb hc) (by show 0 < 10; decide) (by show 10<=26; decide)
  rw [upd_same]
  rfl
end
theorem ord_cons {l g:Nat} {r:Rw} {rs:List Rw} (hg:grp r.k = g) (hb:badAt l g = false) (h:ordOk g rs = true):ordOk l (r :: rs) = true:=by
 show (!badAt l (grp r.k) && ordOk (grp r.k) rs) = true
 rw [hg,hb,h]
 rfl
theorem ord_even {g:Nat} (he:badAt g g = false):∀ (xs ys:List Rw) (l:Nat),badAt l g = false->(∀ r ∈ xs,grp r.k = g)->ordOk l ys = true->ordOk g ys = true->ordOk l (xs ++ ys) = true
 | [],_,_,_,_,h1,_=>h1
 | r :: rs,ys,l,hb,hg,_,h2=>ord_cons (hg r List.mem_cons_self) hb (ord_even he rs ys g he (fun x hx=>hg x (List.mem_cons_of_mem _ hx)) h2 h2)
theorem ord_odd {g l:Nat} {xs ys:List Rw} (hl:xs.length<=1) (hb:badAt l g = false) (hg:∀ r ∈ xs,grp r.k = g) (h1:ordOk l ys = true) (h2:ordOk g ys = true):ordOk l (xs ++ ys) = true:=by
 match xs,hl with
 | [],_=>exact h1
 | [r],_=>exact ord_cons (hg r List.mem_cons_self) hb h2
theorem ord_all {xs0 xs1 xs2 xs3:List Rw} (g0:∀ r ∈ xs0,grp r.k = 0) (g1:∀ r ∈ xs1,grp r.k = 1) (l1:xs1.length<=1) (g2:∀ r ∈ xs2,grp r.k = 2) (g3:∀ r ∈ xs3,grp r.k = 3) (l3:xs3.length<=1):ordOk 0 (xs0 ++ (xs1 ++ (xs2 ++ xs3))) = true:=by
 have h3:∀ l,l<=2->ordOk l xs3 = true:=fun l hl=>by
  have:=ord_odd (g:=3) (l:=l) (ys:=[]) l3 (by match l,hl with | 0,_=>rfl | 1,_=>rfl | 2,_=>rfl) g3 rfl rfl
  rwa [List.append_nil] at this
 have h2:∀ l,l<=1->ordOk l (xs2 ++ xs3) = true:=fun l hl=>ord_even (g:=2) rfl xs2 xs3 l (by match l,hl with | 0,_=>rfl | 1,_=>rfl) g2 (h3 l (by omega)) (h3 2 (by omega))
 have h1:ordOk 0 (xs1 ++ (xs2 ++ xs3)) = true:=ord_odd (g:=1) l1 rfl g1 (h2 0 (by omega)) (h2 1 (by omega))
 exact ord_even (g:=0) rfl xs0 _ 0 rfl g0 h1 h1
theorem nms_app (a b:List Rw):nms (a ++ b) = nms a ++ nms b:=by unfold nms; rw [List.filter_append,List.map_append]
theorem nms_one (r:Rw):nms [r] = if byNm r.k = true then [r.z] else []:=by
 unfold nms
 cases h:byNm r.k <;> simp [h]
theorem grp_nm {k:Nat} (hk:k < 5) (h:byNm k = true):grp k = 0\/grp k = 2:=by
 rcases lt5 hk with rfl | rfl | rfl | rfl | rfl <;> first | (exact .inl rfl) | (exact .inr rfl) | (cases h)
theorem nms_nil {xs:List Rw} {g:Nat} (hg:∀ r ∈ xs,r.ok/\grp r.k = g) (h:g % 2 = 1):nms xs = []:=by
 unfold nms
 rw [List.filter_eq_nil_iff.mpr (fun r hr e=>?_)]
 ·rfl
 ·obtain ⟨ho,q⟩:=hg r hr
  rcases grp_nm ho.1 e with z | z <;> rw [z] at q <;> rw [<- q] at h <;> cases h
structure FS where
 (P T G B:List Rw) (L:List Str)
def FS.add (S:FS) (k:Nat) (z:Str) (b:Bool):FS:=match k with
 | 0=>{ S with P:=S.P ++ [⟨0,z,b⟩] }
 | 1=>{ S with P:=S.P ++ [⟨1,z,b⟩],L:=S.L ++ [z] }
 | 2=>{ S with T:=[⟨2,z,b⟩] }
 | 3=>{ S with G:=S.G ++ [⟨3,z,b⟩],L:=S.L ++ [z] }
 | _=>{ S with B:=[⟨4,z,b⟩] }
structure FM (i:Nat) (S:FS):Prop where
 okP:∀ r ∈ S.P,r.ok/\grp r.k = 0
 okT:∀ r ∈ S.T,r.ok/\grp r.k = 1
 okG:∀ r ∈ S.G,r.ok/\grp r.k = 2
 okB:∀ r ∈ S.B,r.ok/\grp r.k = 3
 lT:S.T.length<=1
 lB:S.B.length<=1
 nd:(nms S.P ++ nms S.G).Nodup
 sn:∀ z ∈ nms S.P ++ nms S.G,z ∈ S.L
 ln:S.P.length + S.T.length + S.G.length + S.B.length<=i
 lL:S.L.length<=i
theorem mem_snoc {α : Type} {xs:List α} {y : α} {p : α->Prop} (h:∀ x ∈ xs,p x) (hy:p y):∀ x ∈ xs ++ [y],p x:=fun x hx=>by
 rcases List.mem_append.mp hx with hx | hx
 ·exact h x hx
 ·rw [List.mem_singleton.mp hx]; exact hy
theorem FM.zero:FM 0 ⟨[],[],[],[],[]⟩:=by
 refine ⟨?_,?_,?_,?_,?_,?_,?_,?_,?_,?_⟩ <;> first | exact (fun _ h=>nomatch h) | exact Nat.zero_le _ | exact List.nodup_nil | exact Nat.le_refl _
theorem nd_mid {a b:List Str} {z:Str} (h:(a ++ b).Nodup) (hz:z ∉ a ++ b):(a ++ [z] ++ b).Nodup:=by
 have p:(a ++ [z] ++ b).Perm (z :: (a ++ b)):=by
  rw [List.append_assoc]
  exact List.perm_middle
 exact p.nodup_iff.mpr (List.nodup_cons.mpr ⟨hz,h⟩)
theorem FM.add {i:Nat} {S:FS} {k:Nat} {z:Str} {b:Bool} (h:FM i S) (hk:k < 5) (hz:nameB z = true) (hn:byNm k = true->z ∉ S.L):FM (i + 1) (S.add k z b):=by
 have ln:=h.ln
 have lL:=h.lL
 have lT:=h.lT
 have lB:=h.lB
 match k,hk with
 | 0,_=>
  have e:nms (S.P ++ [⟨0,z,b⟩]) = nms S.P:=by rw [nms_app,nms_one]; simp [byNm]
  exact ⟨mem_snoc h.okP ⟨⟨Nat.lt_of_sub_eq_succ rfl,hz⟩,rfl⟩,h.okT,h.okG,h.okB,h.lT,h.lB,by show (nms (S.P ++ _) ++ nms S.G).Nodup; rw [e]; exact h.nd,by show ∀ y ∈ nms (S.P ++ _) ++ nms S.G,y ∈ S.L; rw [e]; exact h.sn,
   by show (S.P ++ [_]).length + S.T.length + S.G.length + S.B.length<=i + 1; rw [List.length_append,List.length_singleton]; omega,Nat.le_succ_of_le h.lL⟩
 | 1,_=>
  have e:nms (S.P ++ [⟨1,z,b⟩]) = nms S.P ++ [z]:=by rw [nms_app,nms_one]; simp [byNm]
  have nz:z ∉ nms S.P ++ nms S.G:=fun m=>hn rfl (h.sn z m)
  refine ⟨mem_snoc h.okP ⟨⟨Nat.lt_of_sub_eq_succ rfl,hz⟩,rfl⟩,h.okT,h.okG,h.okB,h.lT,h.lB,by show (nms (S.P ++ _) ++ nms S.G).Nodup; rw [e]; exact nd_mid h.nd nz,?_,
   by show (S.P ++ [_]).length + S.T.length + S.G.length + S.B.length<=i + 1; rw [List.length_append,List.length_singleton]; omega,by show (S.L ++ [_]).length<=i + 1; rw [List.length_append,List.length_singleton]; omega⟩
  show ∀ y ∈ nms (S.P ++ _) ++ nms S.G,y ∈ S.L ++ [z]
  rw [e]
  intro y hy
  rw [List.mem_append,List.mem_append] at hy
  rcases hy with (hy | hy) | hy
  ·exact List.mem_append_left _ (h.sn y (List.mem_append_left _ hy))
  ·exact List.mem_append_right _ hy
  ·exact List.mem_append_left _ (h.sn y (List.mem_append_right _ hy))
 | 2,_=>
  refine ⟨h.okP,fun r hr=>?_,h.okG,h.okB,Nat.le_refl _,h.lB,h.nd,h.sn,?_,Nat.le_succ_of_le h.lL⟩
  ·rw [List.mem_singleton.mp hr]; exact ⟨⟨Nat.lt_of_sub_eq_succ rfl,hz⟩,rfl⟩
  ·show S.P.length + 1 + S.G.length + S.B.length<=i + 1
   omega
 | 3,_=>
  have e:nms (S.G ++ [⟨3,z,b⟩]) = nms S.G ++ [z]:=by rw [nms_app,nms_one]; simp [byNm]
  have nz:z ∉ nms S.P ++ nms S.G:=fun m=>hn rfl (h.sn z m)
  refine ⟨h.okP,h.okT,mem_snoc h.okG ⟨⟨Nat.lt_of_sub_eq_succ rfl,hz⟩,rfl⟩,h.okB,h.lT,h.lB,?_,?_,
   by show S.P.length + S.T.length + (S.G ++ [_]).length + S.B.length<=i + 1; rw [List.length_append,List.length_singleton]; omega,by show (S.L ++ [_]).length<=i + 1; rw [List.length_append,List.length_singleton]; omega⟩
  ·show (nms S.P ++ nms (S.G ++ _)).Nodup
   rw [e,<- List.append_assoc]
   have:=nd_mid (a:=nms S.P ++ nms S.G) (b:=[]) (z:=z) (by rw [List.append_nil]; exact h.nd) (by rw [List.append_nil]; exact nz)
   rwa [List.append_nil] at this
  ·show ∀ y ∈ nms S.P ++ nms (S.G ++ _),y ∈ S.L ++ [z]
   rw [e]
   intro y hy
   rw [List.mem_append,List.mem_append] at hy
   rcases hy with hy | hy | hy
   ·exact List.mem_append_left _ (h.sn y (List.mem_append_left _ hy))
   ·exact List.mem_append_left _ (h.sn y (List.mem_append_right _ hy))
   ·exact List.mem_append_right _ hy
 | 4,_=>
  refine ⟨h.okP,h.okT,h.okG,fun r hr=>?_,h.lT,Nat.le_refl _,h.nd,h.sn,?_,Nat.le_succ_of_le h.lL⟩
  ·rw [List.mem_singleton.mp hr]; exact ⟨⟨Nat.lt_of_sub_eq_succ rfl,hz⟩,rfl⟩
  ·show S.P.length + S.T.length + S.G.length + 1<=i + 1
   omega
def FS.rows (S:FS):List Rw:=S.P ++ S.T ++ S.G ++ S.B
theorem FM.valid {i:Nat} {S:FS} {bars:List Str} (h:FM i S) (hi:i<=24) (lb:bars.length<=60) (bn:∀ z ∈ bars,nameB z = true) (bd:bars.Nodup) (bl:∀ z ∈ bars,z ∉ S.L):Valid S.rows bars:=by
 have en:nms S.rows = nms S.P ++ nms S.G:=by
  unfold FS.rows
  rw [nms_app,nms_app,nms_app,nms_nil h.okT rfl,nms_nil h.okB rfl,List.append_nil,List.append_nil]
 refine ⟨fun r hr=>?_,?_,lb,?_,bn,?_⟩
 ·unfold FS.rows at hr
  rw [List.mem_append,List.mem_append,List.mem_append] at hr
  rcases hr with ((hr | hr) | hr) | hr
  ·exact (h.okP r hr).1
  ·exact (h.okT r hr).1
  ·exact (h.okG r hr).1
  ·exact (h.okB r hr).1
 ·unfold FS.rows
  have:=h.ln
  simp only [List.length_append]
  omega
 ·unfold FS.rows
  rw [List.append_assoc,List.append_assoc]
  exact ord_all (fun r hr=>(h.okP r hr).2) (fun r hr=>(h.okT r hr).2) h.lT (fun r hr=>(h.okG r hr).2) (fun r hr=>(h.okB r hr).2) h.lB
 ·rw [en]
  exact List.nodup_append.mpr ⟨h.nd,bd,fun x hx y hy e=>bl y hy (e ▸ h.sn x hx)⟩
theorem TAt.keep {H:Hp} {v D:Addr} {r:Rw} {o:HO} (h:TAt H v r) (hD:∀ vs,H D ≠ some (.tup vs)):TAt (upd H D o) v r:=by
 show upd H D o v = _
 rw [upd_ne (fun e=>by subst e; exact hD _ h)]
 exact h
def LsAt (H:Hp) (l:Addr) (rows:List Rw):Prop:=∃ us:List Addr,H l = some (.lst (us.map V.ref))/\Paired (TAt H) us rows
theorem LsAt.same {H H':Hp} {l:Addr} {rows:List Rw} (h:LsAt H l rows) (s:Same H H'):LsAt H' l rows:=let ⟨us,h1,h2⟩:=h; ⟨us,s _ _ h1,tats_same s h2⟩
theorem LsAt.keep {H:Hp} {l D:Addr} {rows:List Rw} {o:HO} (h:LsAt H l rows) (ne:l ≠ D) (hD:∀ vs,H D ≠ some (.tup vs)):LsAt (upd H D o) l rows:=
 let ⟨us,h1,h2⟩:=h
 ⟨us,by rw [upd_ne ne]; exact h1,Paired.imp' (fun _ _ z=>z.keep hD) h2⟩
theorem LsAt.snoc {H:Hp} {l u:Addr} {rows:List Rw} {r:Rw} {us:List Addr} (h1:H l = some (.lst (us.map V.ref))) (h2:Paired (TAt H) us rows) (hu:TAt H u r):LsAt (upd H l (.lst (us.map V.ref ++ [.ref u]))) l (rows ++ [r]):=by
 have hD:∀ vs,H l ≠ some (.tup vs):=fun vs e=>by rw [h1] at e; cases e
 refine ⟨us ++ [u],by rw [upd_same,List.map_append]; rfl,Paired.snoc (Paired.imp' (fun _ _ z=>z.keep hD) h2) (hu.keep hD)⟩
theorem inStrs {z:Str}:∀ {zs:List Str},inV (.str z) (zs.map V.str) = decide (z ∈ zs)
 | []=>by simp [inV]
 | y :: ys=>by
  have ih:=inStrs (z:=z) (zs:=ys)
  show (eqV (.str y) (.str z) || inV (.str z) (ys.map V.str)) = _
  rw [ih]
  have:eqV (.str y) (.str z) = decide (z = y):=by
   show (y == z) = _
   rw [Bool.eq_iff_iff,beq_iff_eq,decide_eq_true_eq]
   exact ⟨Eq.symm,Eq.symm⟩
  rw [this]
  simp
theorem flatStrs:∀ {zs:List Str},(zs.map V.str).all flatV = true
 | []=>rfl
 | _ :: ys=>by
  show (true && (ys.map V.str).all flatV) = true
  rw [flatStrs]
  rfl
theorem TAt.same {H H':Hp} {u:Addr} {r:Rw} (h:TAt H u r) (s:Same H H'):TAt H' u r:=s _ _ h
structure FI (H H':Hp) (lp lt ll:Addr) (S:FS):Prop where
 sm:Same H H'
 hp:LsAt H' lp S.P
 ht:LsAt H' lt S.G
 hl:H' ll = some (.lst (S.L.map V.str))
 n1:lp ≠ lt
 n2:lp ≠ ll
 n3:lt ≠ ll
 m1:H lp = none
 m2:H lt = none
 m3:H ll = none
section
variable {H H' H'':Hp} {lp lt ll u:Addr} {S:FS} {r:Rw} {z:Str} {b:Bool}
theorem FI.same (h:FI H H' lp lt ll S) (s:Same H' H''):FI H H'' lp lt ll S:=
 ⟨h.sm.trans s,h.hp.same s,h.ht.same s,s _ _ h.hl,h.n1,h.n2,h.n3,h.m1,h.m2,h.m3⟩
theorem FI.smU (h:FI H H' lp lt ll S) {l:Addr} (hl:H l = none) {o:HO}:Same H (upd H' l o):=fun b u e=>by rw [upd_ne (ne_of_none e hl)]; exact h.sm _ _ e
theorem FI.addL (h:FI H H' lp lt ll S):FI H (upd H' ll (.lst (S.L.map V.str ++ [.str z]))) lp lt ll { S with L:=S.L ++ [z] }:=by
 have hD:∀ vs,H' ll ≠ some (.tup vs):=fun vs e=>by rw [h.hl] at e; cases e
 exact ⟨h.smU h.m3,h.hp.keep h.n2 hD,h.ht.keep h.n3 hD,by rw [upd_same,List.map_append]; rfl,h.n1,h.n2,h.n3,h.m1,h.m2,h.m3⟩
theorem FI.addP {us:List Addr} (h:FI H H' lp lt ll S) (h1:H' lp = some (.lst (us.map V.ref))) (h2:Paired (TAt H') us S.P) (hu:TAt H' u r):FI H (upd H' lp (.lst (us.map V.ref ++ [.ref u]))) lp lt ll { S with P:=S.P ++ [r] }:=by
 have hD:∀ vs,H' lp ≠ some (.tup vs):=fun vs e=>by rw [h1] at e; cases e
 exact ⟨h.smU h.m1,.snoc h1 h2 hu,h.ht.keep h.n1.symm hD,by rw [upd_ne h.n2.symm]; exact h.hl,h.n1,h.n2,h.n3,h.m1,h.m2,h.m3⟩
theorem FI.addG {us:List Addr} (h:FI H H' lp lt ll S) (h1:H' lt = some (.lst (us.map V.ref))) (h2:Paired (TAt H') us S.G) (hu:TAt H' u r):FI H (upd H' lt (.lst (us.map V.ref ++ [.ref u]))) lp lt ll { S with G:=S.G ++ [r] }:=by
 have hD:∀ vs,H' lt ≠ some (.tup vs):=fun vs e=>by rw [h1] at e; cases e
 exact ⟨h.smU h.m2,h.hp.keep h.n1 hD,.snoc h1 h2 hu,by rw [upd_ne h.n3.symm]; exact h.hl,h.n1,h.n2,h.n3,h.m1,h.m2,h.m3⟩
end
structure VR (rows:List Rw):Prop where
 ok:∀ r ∈ rows,r.ok
 l24:rows.length<=24
 ord:ordOk 0 rows = true
 nd:(nms rows).Nodup
theorem FM.vr {i:Nat} {S:FS} (h:FM i S) (hi:i<=24):VR S.rows:=by
 have v:=h.valid (bars:=[]) hi (Nat.zero_le _) (fun _ h=>nomatch h) List.nodup_nil (fun _ h=>nomatch h)
 exact ⟨v.ok,v.l24,v.ord,by have:=v.nd; rwa [List.append_nil] at this⟩
def spRow (K:Frag):Sp:=fun vs H Q _=>∃ (a pa:Addr) (cs:List Int) (zs:List Str) (ends:Int),vs = [.ref a,.ref pa,.int ends]/\SqL K H a (cs.map V.int)/\cs.length<=20/\H pa = some (.lst (zs.map V.str))/\0 < zs.length/\zs.length<=26/\(∀ z ∈ zs,nameB z = true)/\
 ∀ (la:Addr) (us:List Addr) (rows:List Rw) (H':Hp),Same H H'->H la = none->H' la = some (.lst (us.map V.ref))->Paired (TAt H') us rows->VR rows->Q (.ref la) H'
section
variable {P:Program} {w:World} {K:Frag} {mg:Str->Option Value} {base:Heap} {f:Addr} {fd:FuncData}
theorem scRow:FnScope ["_law_cells","_law_pool_here","_law_ends","_law_places","_law_tags","_law_used","_law_k","_law_cell","_law_number_here","_law_name","_law_free","_law_tail"] ["_law_cells","_law_pool_here","_law_ends"] (defScope sRow):=⟨rfl,rfl,rfl,by decide +kernel,rfl,by decide +kernel,by decide +kernel⟩
theorem ok_row {g1:Addr} {d1:FuncData} (F:Fun K "_law_row" "_law_row" sRow f fd) (U:TxtL mg) (cS:Callee P w K mg base 1 "_law_stirred" g1 d1 ["_law_cell","_law_k"] spStir):FnOk P w K mg base CX0 2 f fd ["_law_cells","_law_pool_here","_law_ends"] (spRow K):=by
 refine F.ok scRow (fun vs H Q E h=>?_) (fun cdv A outer s H vs Q E hr h=>?_)
 ·obtain ⟨a,pa,cs,zs,ends,rfl,_⟩:=h
  rfl
 obtain ⟨a,pa,cs,zs,ends,rfl,hS,l20,hpa,z0,z26,hzn,q⟩:=h
 refine ⟨_,pss_cons (ps_set (i:=3) scRow.nd rfl (Or.inl rfl) (pe_lst pa_nil))
   (pss_cons (ps_set (i:=4) scRow.nd rfl (Or.inl rfl) (pe_lst pa_nil))
   (pss_cons (ps_set (i:=5) scRow.nd rfl (Or.inl rfl) (pe_lst pa_nil))
   (pss_cons (ps_for PassesOwn.never rfl (pi_enum rfl U.en (ac (pv 0) pa_nil)) (pg_tup rfl (pgs_cons (pg_name (i:=6) scRow.nd rfl (Or.inl rfl)) (pgs_cons (pg_name (i:=7) scRow.nd rfl (Or.inl rfl)) pgs_nil)))
   (pss_cons (ps_set (i:=8) scRow.nd rfl (Or.inl rfl) (cF cS hr (ac (pv 7) (ac (pv 6) pa_nil))))
   (pss_cons (ps_set (i:=9) scRow.nd rfl (Or.inl rfl) (pe_ix ix_list (pv 1) (pe_op op_mod (pe_op op_fdiv (pv 8) pe_int) (cB call_len_seq U.len PySem.boot_len (ac (pv 1) pa_nil))) (fun _ _=>rfl)))
   (pss_cons (ps_set (i:=10) scRow.nd rfl (Or.inl rfl) (pe_cmpR op_eq (pe_op op_mod (pe_op op_fdiv (pv 8) pe_int) pe_int) pe_int (nomark _)))
   (pss_one (ps_if (pt_cmpR op_lt (pe_op op_mod (pv 8) pe_int) pe_int (nomark _)) (pss_one (ps_expr (pe_bm PySem.F.plainAttrs_list PySem.F.slot_list_append PySem.F.type_list_append mt_append (pv 3) (ac (pe_tup (ac pe_str (ac (pv 9) (ac (pv 10) pa_nil)))) pa_nil)))) (pss_one (ps_if (PW.pt (pw_and (pt_cmpR op_lt (pe_op op_mod (pv 8) pe_int) pe_int (nomark _)) (pw_and1 (pt_cmpR op_notIn_seq (pv 9) (pv 5) (by with_unfolding_all rfl))))) (pss_cons (ps_expr (pe_bm PySem.F.plainAttrs_list PySem.F.slot_list_append PySem.F.type_list_append mt_append (pv 5) (ac (pv 9) pa_nil))) (pss_one (ps_if (pt_cmpR op_lt (pe_op op_mod (pv 8) pe_int) pe_int (nomark _)) (pss_one (ps_expr (pe_bm PySem.F.plainAttrs_list PySem.F.slot_list_append PySem.F.type_list_append mt_append (pv 3) (ac (pe_tup (ac pe_str (ac (pv 9) (ac (pv 10) pa_nil)))) pa_nil)))) (pss_one (ps_expr (pe_bm PySem.F.plainAttrs_list PySem.F.slot_list_append PySem.F.type_list_append mt_append (pv 4) (ac (pe_tup (ac pe_str (ac (pv 9) (ac (pv 10) pa_nil)))) pa_nil))))))) pss_nil))))))))
   (pss_cons (ps_set (i:=11) scRow.nd rfl (Or.inl rfl) (pe_op op_rep (pe_lst (ac (pe_tup (ac pe_str (ac (pe_ix ix_list (pv 1) (pe_op op_mod (pe_op op_fdiv (pv 2) pe_int) (cB call_len_seq U.len PySem.boot_len (ac (pv 1) pa_nil))) (fun _ _=>rfl)) pa_nil))) pa_nil)) (pe_op op_mod (pv 2) pe_int)))
   (pss_one (ps_ret (pe_op op_cat (pe_op op_cat (pe_op op_cat (pv 3) (pv 11)) (pv 4)) (pe_op op_rep (pe_lst (ac (pe_tup (ac pe_str (ac (pe_ix ix_list (pv 1) (pe_op op_mod (pe_op op_fdiv (pv 2) pe_int) (cB call_len_seq U.len PySem.boot_len (ac (pv 1) pa_nil))) (fun _ _=>rfl)) pa_nil))) pa_nil)) (pe_op op_mod (pe_op op_fdiv (pv 2) pe_int) pe_int))))))))),?_⟩
 refine ⟨zz0,fun lp hlp=>?_⟩
 have s1:=same_new hlp (.lst [])
 have g1:upd H lp (.lst []) lp = some (.lst []):=upd_same
 dsimp only [gName]
 generalize upd H lp (.lst []) = H1 at s1 g1 |-
 refine ⟨zz0,fun lt hlt=>?_⟩
 have s2:=same_new hlt (.lst [])
 have g2:upd H1 lt (.lst []) lt = some (.lst []):=upd_same
 dsimp only [gName]
 generalize upd H1 lt (.lst []) = H2 at s2 g2 |-
 refine ⟨zz0,fun ll hll=>?_⟩
 have s3:=same_new hll (.lst [])
 have g3:upd H2 ll (.lst []) ll = some (.lst []):=upd_same
 dsimp only [gName]
 generalize upd H2 ll (.lst []) = H3 at s3 g3 |-
 have I0:FI H H3 lp lt ll ⟨[],[],[],[],[]⟩:=⟨s1.trans (s2.trans s3),⟨[],s3 _ _ (s2 _ _ g1),.nil⟩,⟨[],s3 _ _ g2,.nil⟩,g3,ne_of_none g1 hlt,ne_of_none (s2 _ _ g1) hll,ne_of_none g2 hll,hlp,s1.free hlt,(s1.trans s2).free hll⟩
 have pick:∀ (x:Int),∃ j,x % (zs.length:Int) = ((j:Nat):Int)/\∃ h:j < zs.length,atI (zs.map V.str) (x % (zs.length:Int)) = some (.str zs[j]):=fun x=>by
  have d0 : 0<=x % (zs.length:Int):=Int.emod_nonneg _ (by omega)
  have d1:x % (zs.length:Int) < (zs.length:Int):=Int.emod_lt_of_pos _ (by omega)
  obtain ⟨j,hj⟩:=Int.eq_ofNat_of_zero_le d0
  have hjl:j < zs.length:=by omega
  exact ⟨j,hj,hjl,by rw [hj]; exact atI_nat (by rw [List.getElem?_map,List.getElem?_eq_getElem hjl]; rfl)⟩
 have lz:((zs.map V.str).length:Int) = (zs.length:Int):=by rw [List.length_map]
 refine ⟨_,rfl,a,rfl,⟨_,I0.sm.seq hS⟩,for_enum (K:=K) (a:=a) (xs:=cs.map V.int) (fun i σ H'=>∃ (S:FS) (v6 v7 v8 v9 v10 v11:Option V),σ = [some (.ref a),some (.ref pa),some (.int ends),some (.ref lp),some (.ref lt),some (.ref ll),v6,v7,v8,v9,v10,v11]/\FI H H' lp lt ll S/\FM i S/\S.T = []/\S.B = [])
  ⟨⟨[],[],[],[],[]⟩,_,_,_,_,_,_,rfl,I0,FM.zero,rfl,rfl⟩ (fun i σ H' _ ⟨_,_,_,_,_,_,_,_,h,_⟩=>h.sm.seq hS) ?_ ?_⟩
 ·rintro i x p σ H4 hx ⟨S,v6,v7,v8,v9,v10,v11,rfl,I4,M4,eT,eB⟩ hpn
  obtain ⟨n,hn,rfl⟩:∃ n,cs[i]? = some n/\x = .int n:=by
   rw [List.getElem?_map] at hx
   cases e:cs[i]? with
   | none=>rw [e] at hx; cases hx
   | some n=>rw [e] at hx; cases hx; exact ⟨n,rfl,rfl⟩
  have hi:i < cs.length:=(List.getElem?_eq_some_iff.mp hn).1
  have sp:=same_new hpn (.tup [.int (i:Nat),.int n])
  have I5:=I4.same sp
  refine ⟨p,_,rfl,SqT.of upd_same,rfl,_,_,rfl,_,_,rfl,rfl,?_⟩
  generalize upd H4 p (.tup [.int (i:Nat),.int n]) = H5 at sp I5 |-
  refine ⟨_,rfl,_,rfl,n,_,rfl,?_⟩
  generalize stirF n (i:Nat) = mm
  obtain ⟨j,hj,hjl,hat⟩:=pick (mm / 16)
  have hpa5:=I5.sm _ _ hpa
  refine ⟨_,rfl,_,rfl,_,_,rfl,rfl,⟨by decide,by decide⟩,_,rfl,pa,_,rfl,.inl (SqL.of hpa5),_,_,rfl,rfl,(by rw [lz]; omega),pa,_,_,.str zs[j],rfl,rfl,SqL.of hpa5,(by rw [lz]; exact hat),?_⟩
  have hz:=hzn _ (List.getElem_mem hjl)
  generalize zs[j] = z at hz |-
  refine ⟨_,rfl,_,_,rfl,rfl,⟨by decide,by decide⟩,_,_,rfl,rfl,zp2,rfl,?_⟩
  dsimp only [gName]
  generalize decide (V.int (mm / 160 % 2) = V.int 1) = fb
  have lP:S.P.length<=24:=by have:=M4.ln; omega
  have lG:S.G.length<=24:=by have:=M4.ln; omega
  have lL:=M4.lL
  refine ⟨_,rfl,_,_,rfl,rfl,zp16,_,_,rfl,rfl,_,rfl,?_⟩
  have fin:∀ {k:Nat} {H':Hp},FI H H' lp lt ll (S.add k z fb)->k < 5->k ≠ 2->k ≠ 4->(byNm k = true->z ∉ S.L)->∃ (S:FS) (v6 v7 v8 v9 v10 v11':Option V),([some (.ref a),some (.ref pa),some (.int ends),some (.ref lp),some (.ref lt),some (.ref ll),some (.int (i:Nat)),some (.int n),some (.int mm),some (.str z),some (.bl fb),v11]:L2.St) = [some (.ref a),some (.ref pa),some (.int ends),some (.ref lp),some (.ref lt),some (.ref ll),v6,v7,v8,v9,v10,v11']/\FI H H' lp lt ll S/\FM (i + 1) S/\S.T = []/\S.B = []:=fun {k H'} I hk h2 h4 hn=>by
   refine ⟨S.add k z fb,_,_,_,_,_,_,rfl,I,M4.add hk hz hn,?_,?_⟩
   ·rcases lt5 hk with rfl | rfl | rfl | rfl | rfl
    ·exact eT
    ·exact eT
    ·exact absurd rfl h2
    ·exact eT
    ·exact absurd rfl h4
   ·rcases lt5 hk with rfl | rfl | rfl | rfl | rfl
    ·exact eB
    ·exact eB
    ·exact absurd rfl h2
    ·exact eB
    ·exact absurd rfl h4
  by_cases c1:mm % 16 < 4
  ·refine dT (by exact c1) ?_
   obtain ⟨us,h1,h2⟩:=I5.hp
   have hlu:us.length<=24:=by rw [h2.length]; exact lP
   refine ⟨_,rfl,.inl ⟨rfl,_,SqL.of h1⟩,_,rfl,_,rfl,zz3,fun u hu=>?_⟩
   have s7:=same_new hu (.tup [.str "seat",.str z,.bl fb])
   have tu:TAt (upd H5 u (.tup [.str "seat",.str z,.bl fb])) u ⟨0,z,fb⟩:=upd_same
   refine ⟨lp,_,_,rfl,rfl,s7 _ _ h1,small1000 (by rw [List.length_map]; omega),?_⟩
   exact fin (k:=0) ((I5.same s7).addP (s7 _ _ h1) (tats_same s7 h2) tu) (by decide) (by decide) (by decide) (fun e=>by cases e)
  refine dF (by exact c1) ?_
  refine ⟨_,rfl,_,_,rfl,rfl,zp16,_,_,rfl,rfl,_,rfl,?_⟩
  have skip:∃ (S:FS) (v6 v7 v8 v9 v10 v11':Option V),([some (.ref a),some (.ref pa),some (.int ends),some (.ref lp),some (.ref lt),some (.ref ll),some (.int (i:Nat)),some (.int n),some (.int mm),some (.str z),some (.bl fb),v11]:L2.St) = [some (.ref a),some (.ref pa),some (.int ends),some (.ref lp),some (.ref lt),some (.ref ll),v6,v7,v8,v9,v10,v11']/\FI H H5 lp lt ll S/\FM (i + 1) S/\S.T = []/\S.B = []:=
   ⟨S,_,_,_,_,_,_,rfl,I5,⟨M4.okP,M4.okT,M4.okG,M4.okB,M4.lT,M4.lB,M4.nd,M4.sn,Nat.le_succ_of_le M4.ln,Nat.le_succ_of_le M4.lL⟩,eT,eB⟩
  by_cases c2:mm % 16 < 14
  rotate_left
  ·refine dF (by exact c2) ?_
   refine iteF ?_
   exact skip
  refine dT (by exact c2) ?_
  refine ⟨_,rfl,_,rfl,ll,_,rfl,.inl (SqL.of I5.hl),rfl,flatStrs,_,rfl,?_⟩
  by_cases hz1:z ∈ S.L
  ·refine iteC (by rw [if_pos rfl,inStrs,decide_eq_true hz1]; rfl) ?_
   exact skip
  refine iteB (by rw [if_pos rfl,inStrs,decide_eq_false hz1]; rfl) ?_
  refine ⟨_,rfl,.inl ⟨rfl,_,SqL.of I5.hl⟩,_,rfl,ll,_,_,rfl,rfl,I5.hl,small1000 (by rw [List.length_map]; omega),?_⟩
  have I6:=I5.addL (z:=z)
  dsimp only [tNext]
  generalize upd H5 ll (.lst (S.L.map V.str ++ [.str z])) = H6 at I6 |-
  refine ⟨_,rfl,_,_,rfl,rfl,zp16,_,_,rfl,rfl,_,rfl,?_⟩
  by_cases c3:mm % 16 < 10
  ·refine dT (by exact c3) ?_
   obtain ⟨us,h1,h2⟩:=I6.hp
   have hlu:us.length<=24:=by rw [h2.length]; exact lP
   refine ⟨_,rfl,.inl ⟨rfl,_,SqL.of h1⟩,_,rfl,_,rfl,zz3,fun u hu=>?_⟩
   have s7:=same_new hu (.tup [.str "both",.str z,.bl fb])
   have tu:TAt (upd H6 u (.tup [.str "both",.str z,.bl fb])) u ⟨1,z,fb⟩:=upd_same
   refine ⟨lp,_,_,rfl,rfl,s7 _ _ h1,small1000 (by rw [List.length_map]; omega),?_⟩
   exact fin (k:=1) ((I6.same s7).addP (s7 _ _ h1) (tats_same s7 h2) tu) (by decide) (by decide) (by decide) (fun _=>hz1)
  ·refine dF (by exact c3) ?_
   obtain ⟨us,h1,h2⟩:=I6.ht
   have hlu:us.length<=24:=by rw [h2.length]; exact lG
   refine ⟨_,rfl,.inl ⟨rfl,_,SqL.of h1⟩,_,rfl,_,rfl,zz3,fun u hu=>?_⟩
   have s7:=same_new hu (.tup [.str "tag",.str z,.bl fb])
   have tu:TAt (upd H6 u (.tup [.str "tag",.str z,.bl fb])) u ⟨3,z,fb⟩:=upd_same
   refine ⟨lt,_,_,rfl,rfl,s7 _ _ h1,small1000 (by rw [List.length_map]; omega),?_⟩
   exact fin (k:=3) ((I6.same s7).addG (s7 _ _ h1) (tats_same s7 h2) tu) (by decide) (by decide) (by decide) (fun _=>hz1)
 ·rintro σ H4 ⟨S,v6,v7,v8,v9,v10,v11,rfl,I4,M4,eT,eB⟩
  have hlen:cs.length<=20:=l20
  rw [List.length_map] at M4
  have one:∀ {T:List Rw} {k:Nat} {z:Str},T = [⟨k,z,true⟩]\/T = []->T.length<=1:=fun h=>by rcases h with rfl | rfl <;> simp
  have lP:=M4.ln
  obtain ⟨j,hj,hjl,hat⟩:=pick (ends / 4)
  have hpa4:=I4.sm _ _ hpa
  refine ⟨_,rfl,_,rfl,_,_,rfl,rfl,⟨by decide,by decide⟩,_,rfl,pa,_,rfl,.inl (SqL.of hpa4),_,_,rfl,rfl,(by rw [lz]; omega),pa,_,_,.str zs[j],rfl,rfl,SqL.of hpa4,(by rw [lz]; exact hat),zz2,fun u1 hu1=>?_⟩
  have hz1:=hzn _ (List.getElem_mem hjl)
  generalize zs[j] = z1 at hz1 |-
  have s5:=same_new hu1 (.tup [.str "tail",.str z1])
  have tu1:TAt (upd H4 u1 (.tup [.str "tail",.str z1])) u1 ⟨2,z1,true⟩:=upd_same
  have I5:=I4.same s5
  generalize upd H4 u1 (.tup [.str "tail",.str z1]) = H5 at s5 tu1 I5 |-
  refine ⟨zz1,fun l1 hl1=>?_⟩
  have s6:=same_new hl1 (.lst [.ref u1])
  have g6:upd H5 l1 (.lst [.ref u1]) l1 = some (.lst [.ref u1]):=upd_same
  have I6:=I5.same s6
  have tu1:=tu1.same s6
  generalize upd H5 l1 (.lst [.ref u1]) = H6 at s6 g6 I6 tu1 |-
  have b0 : 0<=ends % 2:=Int.emod_nonneg _ (by decide)
  have b1:ends % 2 < 2:=Int.emod_lt_of_pos _ (by decide)
  refine ⟨_,rfl,_,_,rfl,rfl,zp2,l1,ends % 2,_,rfl,rfl,g6,by omega,by omega,(by show 1 * _<=sizeLine; exact le1000 (by omega)),fun p1 hp1=>?_⟩
  obtain ⟨usT,T1,eT1,hT1,hTT⟩:∃ (us:List Addr) (T:List Rw),(List.replicate (ends % 2).toNat [V.ref u1]).flatten = us.map V.ref/\Paired (TAt H6) us T/\(T = [⟨2,z1,true⟩]\/T = []):=by
   by_cases hb:ends % 2 = 1
   ·rw [hb]; exact ⟨[u1],_,rfl,.cons tu1 .nil,.inl rfl⟩
   ·rw [show ends % 2 = 0 by omega]; exact ⟨[],_,rfl,.nil,.inr rfl⟩
  rw [eT1]
  have s7:=same_new hp1 (.lst (usT.map V.ref))
  have g7:upd H6 p1 (.lst (usT.map V.ref)) p1 = some (.lst (usT.map V.ref)):=upd_same
  have I7:=I6.same s7
  have hT1:=tats_same s7 hT1
  dsimp only [gName]
  generalize upd H6 p1 (.lst (usT.map V.ref)) = H7 at s7 g7 I7 hT1 |-
  have M7:FM (cs.length + 1) { S with T:=T1 }:=by
   rcases hTT with rfl | rfl
   ·exact M4.add (k:=2) (b:=true) (by decide) hz1 (fun e=>by cases e)
   ·rw [show ({ S with T:=[] }:FS) = S by cases S; cases eT; rfl]
    exact ⟨M4.okP,M4.okT,M4.okG,M4.okB,M4.lT,M4.lB,M4.nd,M4.sn,Nat.le_succ_of_le M4.ln,Nat.le_succ_of_le M4.lL⟩
  obtain ⟨us1,h11,h12⟩:=I7.hp
  obtain ⟨us3,h31,h32⟩:=I7.ht
  have lT1:usT.length<=1:=by rw [hT1.length]; exact one hTT
  have l1':us1.length = S.P.length:=h12.length
  have l3':us3.length = S.G.length:=h32.length
  refine ⟨_,rfl,_,rfl,lp,p1,_,_,rfl,rfl,h11,g7,le1000 (by rw [List.length_map,List.length_map]; omega),fun x1 hx1=>?_⟩
  rw [<- List.map_append]
  have s8:=same_new hx1 (.lst ((us1 ++ usT).map V.ref))
  have g8:upd H7 x1 (.lst ((us1 ++ usT).map V.ref)) x1 = some (.lst ((us1 ++ usT).map V.ref)):=upd_same
  generalize upd H7 x1 (.lst ((us1 ++ usT).map V.ref)) = H8 at s8 g8 |-
  refine ⟨_,rfl,x1,lt,_,_,rfl,rfl,g8,s8 _ _ h31,le1000 (by rw [List.length_map,List.length_map,List.length_append]; omega),fun x2 hx2=>?_⟩
  rw [<- List.map_append]
  have s9:=same_new hx2 (.lst ((us1 ++ usT ++ us3).map V.ref))
  have g9:upd H8 x2 (.lst ((us1 ++ usT ++ us3).map V.ref)) x2 = some (.lst ((us1 ++ usT ++ us3).map V.ref)):=upd_same
  generalize upd H8 x2 (.lst ((us1 ++ usT ++ us3).map V.ref)) = H9 at s9 g9 |-
  have I9:=I7.same (s8.trans s9)
  obtain ⟨j2,hj2,hjl2,hat2⟩:=pick (ends / 40)
  have hpa9:=I9.sm _ _ hpa
  refine ⟨_,rfl,_,rfl,_,_,rfl,rfl,⟨by decide,by decide⟩,_,rfl,pa,_,rfl,.inl (SqL.of hpa9),_,_,rfl,rfl,(by rw [lz]; omega),pa,_,_,.str zs[j2],rfl,rfl,SqL.of hpa9,(by rw [lz]; exact hat2),zz2,fun u2 hu2=>?_⟩
  have hz2:=hzn _ (List.getElem_mem hjl2)
  generalize zs[j2] = z2 at hz2 |-
  have s10:=same_new hu2 (.tup [.str "bag",.str z2])
  have tu2:TAt (upd H9 u2 (.tup [.str "bag",.str z2])) u2 ⟨4,z2,true⟩:=upd_same
  generalize upd H9 u2 (.tup [.str "bag",.str z2]) = H10 at s10 tu2 |-
  refine ⟨zz1,fun l2 hl2=>?_⟩
  have s11:=same_new hl2 (.lst [.ref u2])
  have g11:upd H10 l2 (.lst [.ref u2]) l2 = some (.lst [.ref u2]):=upd_same
  have tu2:=tu2.same s11
  generalize upd H10 l2 (.lst [.ref u2]) = H11 at s11 g11 tu2 |-
  have c0 : 0<=ends / 2 % 2:=Int.emod_nonneg _ (by decide)
  have c1:ends / 2 % 2 < 2:=Int.emod_lt_of_pos _ (by decide)
  refine ⟨_,rfl,_,_,rfl,rfl,⟨by decide,by decide⟩,_,_,rfl,rfl,zp2,l2,ends / 2 % 2,_,rfl,rfl,g11,by omega,by omega,(by show 1 * _<=sizeLine; exact le1000 (by omega)),fun p2 hp2=>?_⟩
  obtain ⟨usB,B1,eB1,hB1,hBB⟩:∃ (us:List Addr) (B:List Rw),(List.replicate (ends / 2 % 2).toNat [V.ref u2]).flatten = us.map V.ref/\Paired (TAt H11) us B/\(B = [⟨4,z2,true⟩]\/B = []):=by
   by_cases hb:ends / 2 % 2 = 1
   ·rw [hb]; exact ⟨[u2],_,rfl,.cons tu2 .nil,.inl rfl⟩
   ·rw [show ends / 2 % 2 = 0 by omega]; exact ⟨[],_,rfl,.nil,.inr rfl⟩
  rw [eB1]
  have s12:=same_new hp2 (.lst (usB.map V.ref))
  have g12:upd H11 p2 (.lst (usB.map V.ref)) p2 = some (.lst (usB.map V.ref)):=upd_same
  have hB1:=tats_same s12 hB1
  generalize upd H11 p2 (.lst (usB.map V.ref)) = H12 at s12 g12 hB1 |-
  have s912:Same H9 H12:=s10.trans (s11.trans s12)
  have lB1:usB.length<=1:=by rw [hB1.length]; exact one hBB
  refine ⟨x2,p2,_,_,rfl,rfl,s912 _ _ g9,g12,le1000 (by rw [List.length_map,List.length_map,List.length_append,List.length_append]; omega),fun x3 hx3=>?_⟩
  rw [<- List.map_append]
  have s13:=same_new hx3 (.lst ((us1 ++ usT ++ us3 ++ usB).map V.ref))
  have M13:FM (cs.length + 1 + 1) { S with T:=T1,B:=B1 }:=by
   rcases hBB with rfl | rfl
   ·exact M7.add (k:=4) (b:=true) (by decide) hz2 (fun e=>by cases e)
   ·rw [show ({ S with T:=T1,B:=[] }:FS) = { S with T:=T1 } by cases S; cases eB; rfl]
    exact ⟨M7.okP,M7.okT,M7.okG,M7.okB,M7.lT,M7.lB,M7.nd,M7.sn,Nat.le_succ_of_le M7.ln,Nat.le_succ_of_le M7.lL⟩
  have s713:=(s8.trans s9).trans (s912.trans s13)
  refine q x3 _ _ _ (I7.sm.trans s713) (I7.sm.free ((s8.trans s9).free (s912.free hx3))) upd_same ?_ (M13.vr (by omega))
  exact paired_app (paired_app (paired_app (tats_same s713 h12) (tats_same s713 hT1)) (tats_same s713 h32)) (tats_same s13 hB1)
end
theorem row_at0 {r:Rw} (h:r.ok):atI (rv r) 0 = some (.str (kw r.k)):=by
 obtain ⟨k,z,b⟩:=r
 rcases lt5 h.1 with e | e | e | e | e <;> (cases e; rfl)
theorem row_at1 {r:Rw} (h:r.ok):atI (rv r) 1 = some (.str r.z):=by
 obtain ⟨k,z,b⟩:=r
 rcases lt5 h.1 with e | e | e | e | e <;> (cases e; rfl)
theorem in_nm' {k:Nat} (h:k < 5):inV (.str (kw k)) [.str "both",.str "tag"] = byNm k:=in_nm k h
theorem in_pl' {k:Nat} (h:k < 5):inV (.str (kw k)) [.str "seat",.str "both"] = byPl k:=in_pl k h
theorem nms_zip {R:Addr->Rw->Prop} {us:List Addr} {rows:List Rw} (h:Paired R us rows):((us.zip rows).filter fun p=>byNm p.2.k).map (fun p=>V.str p.2.z) = (nms rows).map V.str:=by
 have:=zip_out h (fun r=>byNm r.k) (fun r=>V.str r.z)
 rw [this]
 unfold nms
 rw [List.map_map]
 rfl
def spLBars:Sp:=fun vs H Q _=>∃ (la pa:Addr) (n:Int) (us:List Addr) (rows:List Rw) (zs:List Str),vs = [.ref la,.ref pa,.int n]/\H la = some (.lst (us.map V.ref))/\Paired (TAt H) us rows/\VR rows/\H pa = some (.lst (zs.map V.str))/\zs.Nodup/\zs.length<=26/\
 ∀ (l:Addr) (bars:List Str) (H':Hp),Same H H'->H l = none->H' l = some (.lst (bars.map V.str))->bars.Nodup->(∀ z ∈ bars,z ∈ zs)->(∀ z ∈ bars,z ∉ nms rows)->bars.length<=26->Q (.ref l) H'
section
variable {P:Program} {w:World} {K:Frag} {mg:Str->Option Value} {base:Heap} {f:Addr} {fd:FuncData}
theorem ndOne:([Str.ofString "_law_one"]:List Str).Nodup:=by decide +kernel
theorem scLBars:FnScope ["_law_row_here","_law_pool_here","_law_number_here","_law_known","_law_found","_law_name"] ["_law_row_here","_law_pool_here","_law_number_here"] (defScope sBars):=⟨rfl,rfl,rfl,by decide +kernel,rfl,by decide +kernel,by decide +kernel⟩
theorem ok_lbars (F:Fun K "_law_bars" "_law_bars" sBars f fd):FnOk P w K mg base CX0 1 f fd ["_law_row_here","_law_pool_here","_law_number_here"] spLBars:=by
 refine F.ok scLBars (fun vs H Q E h=>?_) (fun cdv A outer s H vs Q E hr h=>?_)
 ·obtain ⟨la,pa,n,us,rows,zs,rfl,_⟩:=h
  rfl
 obtain ⟨la,pa,n,us,rows,zs,rfl,hla,hu,V1,hpa,zn,l26,q⟩:=h
 refine ⟨_,pss_cons (ps_lc (i:=3) [] ["_law_one"] [none] scLBars.nd rfl (Or.inl rfl) rfl ⟨rfl,rfl,rfl,rfl⟩ (pi_list (pv 0)) (gown_name 0) rfl rfl rfl
   (fun pins fp s H C=>⟨pg_name (i:=0) ndOne rfl (Or.inl rfl) (.inr rfl),pif_one (pt_cmpR (r:=rIn K false) op_in_seq (pe_ix (r:=rIxT K) ix_tup (pv 0) pe_int (fun _ _=>rfl)) (pe_lst (ac pe_str (ac pe_str pa_nil))) (by with_unfolding_all rfl)),pe_ix (r:=rIxT K) ix_tup (pv 0) pe_int (fun _ _=>rfl)⟩))
  (pss_cons (ps_set (i:=4) scLBars.nd rfl (Or.inl rfl) (pe_lst pa_nil))
  (pss_cons (ps_for PassesOwn.never rfl (pi_list (pv 1)) (pg_name (i:=5) scLBars.nd rfl (Or.inl rfl))
   (pss_cons (ps_if (PW.pt (pw_and (pt_cmpR op_notIn_seq (pv 5) (pv 3) (by with_unfolding_all rfl)) (pw_and1 (pt_cmpR op_eq (pe_op op_mod (pv 2) pe_int) pe_int (nomark _))))) (pss_one (ps_expr (pe_bm PySem.F.plainAttrs_list PySem.F.slot_list_append PySem.F.type_list_append mt_append (pv 4) (ac (pv 5) pa_nil)))) pss_nil)
   (pss_one (ps_set (i:=2) scLBars.nd rfl (Or.inl rfl) (pe_op op_fdiv (pv 2) pe_int)))))
  (pss_one (ps_ret (pv 4))))),?_⟩
 have l24:=V1.l24
 refine ⟨_,rfl,la,rfl,⟨_,SqL.of hla⟩,fun D hD=>?_⟩
 refine lc_zip (K:=K) TAt (fun r=>byNm r.k) (fun _ r=>.str r.z) hD hla hu (by omega) (fun i u r H' N S hu' hr' tr sH n1 s1=>?_) (fun H1 s1 hD1=>?_)
 ·have rk:=V1.ok r (List.mem_of_getElem? hr')
  have tu:=sH _ _ tr
  refine ⟨_,rfl,u,_,0,_,rfl,rfl,SqT.of tu,row_at0 rk,zz2,fun l hl=>?_⟩
  have s2:=same_new hl (.lst [.str "both",.str "tag"])
  refine ⟨l,_,rfl,.inl (SqL.of upd_same),rfl,rfl,_,rfl,?_⟩
  rw [if_neg Bool.false_ne_true,in_nm' rk.1]
  exact ⟨fun e=>⟨_,rfl,u,_,1,_,rfl,rfl,SqT.of (s2 _ _ tu),row_at1 rk,n1 _ s2 e⟩,fun e=>s1 _ s2 e⟩
 rw [nms_zip hu] at hD1
 refine ⟨zz0,fun fo hfo=>?_⟩
 have s2:=same_new hfo (.lst [])
 have g2:upd H1 fo (.lst []) fo = some (.lst []):=upd_same
 dsimp only [gName]
 generalize upd H1 fo (.lst []) = H2 at s2 g2 |-
 have s12:=s1.trans s2
 have nD:=s2 _ _ hD1
 have nfo:H fo = none:=s1.free hfo
 have neD:D ≠ fo:=ne_of_none hD1 hfo
 refine ⟨_,rfl,pa,rfl,⟨_,SqL.of (s12 _ _ hpa)⟩,for_list (K:=K) (a:=pa) (xs:=zs.map V.str) (fun i σ H'=>∃ (m:Int) (bars:List Str) (v5:Option V),σ = [some (.ref la),some (.ref pa),some (.int m),some (.ref D),some (.ref fo),v5]/\Same H H'/\H' D = some (.lst ((nms rows).map V.str))/\H' fo = some (.lst (bars.map V.str))/\bars.Nodup/\(∀ z ∈ bars,z ∈ zs.take i)/\(∀ z ∈ bars,z ∉ nms rows)/\bars.length<=i)
  ⟨n,[],_,rfl,s12,nD,g2,List.nodup_nil,(fun _ h=>nomatch h),(fun _ h=>nomatch h),Nat.le_refl _⟩ (fun i σ H' _ ⟨_,_,_,_,sH,_⟩=>SqL.of (sH _ _ hpa)) ?_ ?_⟩
 ·rintro i x σ H' hx ⟨m,bars,v5,rfl,sH,hD',hfo',bn,bz,bk,bl⟩
  obtain ⟨z,hz,rfl⟩:=strs_at hx
  have hi:i < zs.length:=(List.getElem?_eq_some_iff.mp hz).1
  have ez:zs[i] = z:=(List.getElem?_eq_some_iff.mp hz).2
  have tk:zs.take (i + 1) = zs.take i ++ [z]:=by rw [List.take_succ_eq_append_getElem hi,ez]
  have zt:z ∉ zs.take i:=by
   have:=zn.sublist (List.take_sublist (i + 1) zs)
   rw [tk] at this
   exact fun h=>(List.nodup_append.mp this).2.2 z h z (List.mem_singleton.mpr rfl) rfl
  have skip:∃ (m':Int) (bars:List Str) (v5:Option V),([some (.ref la),some (.ref pa),some (.int (m / 3)),some (.ref D),some (.ref fo),some (.str z)]:L2.St) = [some (.ref la),some (.ref pa),some (.int m'),some (.ref D),some (.ref fo),v5]/\Same H H'/\H' D = some (.lst ((nms rows).map V.str))/\H' fo = some (.lst (bars.map V.str))/\bars.Nodup/\(∀ z ∈ bars,z ∈ zs.take (i + 1))/\(∀ z ∈ bars,z ∉ nms rows)/\bars.length<=i + 1:=
   ⟨_,bars,_,rfl,sH,hD',hfo',bn,fun y hy=>by rw [tk]; exact List.mem_append_left _ (bz y hy),bk,Nat.le_succ_of_le bl⟩
  refine ⟨_,rfl,_,rfl,D,_,rfl,.inl (SqL.of hD'),rfl,flatStrs,_,rfl,?_⟩
  by_cases hk:z ∈ nms rows
  ·refine iteC (by rw [if_pos rfl,inStrs,decide_eq_true hk]; rfl) ?_
   refine iteF ?_
   exact ⟨_,rfl,_,_,rfl,rfl,⟨by decide,by decide⟩,skip⟩
  refine iteB (by rw [if_pos rfl,inStrs,decide_eq_false hk]; rfl) ?_
  refine ⟨_,rfl,_,_,rfl,rfl,(by show (0:Int) < 3; decide),rfl,_,rfl,?_⟩
  refine ite2 (fun _=>?_) (fun _=>?_)
  ·refine ⟨_,rfl,.inl ⟨rfl,_,SqL.of hfo'⟩,_,rfl,fo,_,_,rfl,rfl,hfo',small1000 (by rw [List.length_map]; omega),?_⟩
   refine ⟨_,rfl,_,_,rfl,rfl,⟨by decide,by decide⟩,?_⟩
   refine ⟨_,bars ++ [z],_,rfl,fun b u e=>by rw [upd_ne (ne_of_none e nfo)]; exact sH _ _ e,by rw [upd_ne neD]; exact hD',by rw [upd_same,List.map_append]; rfl,?_,?_,?_,by rw [List.length_append]; exact Nat.succ_le_succ bl⟩
   ·exact List.nodup_append.mpr ⟨bn,by simp,fun x hx y hy e=>zt (by rw [<- List.mem_singleton.mp hy,<- e]; exact bz x hx)⟩
   ·rw [tk]
    intro y hy
    rcases List.mem_append.mp hy with hy | hy
    ·exact List.mem_append_left _ (bz y hy)
    ·exact List.mem_append_right _ hy
   ·intro y hy
    rcases List.mem_append.mp hy with hy | hy
    ·exact bk y hy
    ·rw [List.mem_singleton.mp hy]; exact hk
  ·exact ⟨_,rfl,_,_,rfl,rfl,⟨by decide,by decide⟩,skip⟩
 ·rintro σ H' ⟨m,bars,v5,rfl,sH,hD',hfo',bn,bz,bk,bl⟩
  rw [List.length_map] at bl
  exact ⟨_,rfl,q fo bars H' sH nfo hfo' bn (fun z hz=>List.mem_of_mem_take (bz z hz)) bk (by omega)⟩
end
section
variable {K:Frag} {c:C5}
def rowD (k:Nat) (z:Str) (b:Bool):List Dt:=match k with
 | 0=>[.str "seat",.str z,.bl b] | 1=>[.str "both",.str z,.bl b] | 2=>[.str "tail",.str z] | 3=>[.str "tag",.str z,.bl b] | _=>[.str "bag",.str z]
theorem row_says {ok:Addr->Prop} {H:Hp} {n k:Nat} {z:Str} {b:Bool} (h:k < 5):Paired (Says K ok H n) (rowV k (.str z) b) (rowD k z b):=by
 rcases lt5 h with rfl | rfl | rfl | rfl | rfl
 ·exact .cons Says.str (.cons Says.str (.cons Says.bl .nil))
 ·exact .cons Says.str (.cons Says.str (.cons Says.bl .nil))
 ·exact .cons Says.str (.cons Says.str .nil)
 ·exact .cons Says.str (.cons Says.str (.cons Says.bl .nil))
 ·exact .cons Says.str (.cons Says.str .nil)
theorem lc_map {K:Frag} {a:Addr} {us:List Addr} {rows:List Rw} {caps:List (Option Nat)} {g:TG} {tt:TT} {te:TE} {σ : L2.St} {H1:Hp} {Q:VK} {D:Addr} (R R':Hp->Addr->Rw->Prop)
  (sR:∀ {H H' v r},R H v r->Same H H'->R H' v r) (sR':∀ {H H' v r},R' H v r->Same H H'->R' H' v r) (uR':∀ {H v r D ys o},R' H v r->H D = some (.lst ys)->R' (upd H D o) v r)
  (ha:H1 a = some (.lst (us.map V.ref))) (hu:Paired (R H1) us rows) (hn:rows.length<=500) (hD:H1 D = none)
  (hs:∀ (i:Nat) u r H (Qf:VK) (Qs:Hp->Prop),us[i]? = some u->rows[i]? = some r->Same H1 H->R H u r->(∀ v H',Same H H'->R' H' v r->Qf (.ref v) H')->
   g (.ref u) (capS caps σ) H fun σ2 H2=>tt σ2 H2 fun ok H3=>(ok = true->te σ2 H3 Qf)/\(ok = false->Qs H3))
  (hd:∀ vs H,Same H1 H->H D = some (.lst (vs.map V.ref))->Paired (R' H) vs rows->Q (.ref D) H):LCr (Itl K a) caps g tt te σ H1 Q D:=by
 have hl:us.length = rows.length:=hu.length
 refine lc_list (K:=K) (xs:=us.map V.ref) (fun i ys H'=>∃ vs,ys = vs.map V.ref/\Same H1 H'/\H' D = some (.lst ys)/\Paired (R' H') vs (rows.take i)) ⟨[],rfl,same_new hD _,upd_same,.nil⟩ (fun i ys H' ⟨_,_,h,_⟩=>SqL.of (h _ _ ha)) ?_ ?_
 ·rintro i x ys H' hlt hx ⟨vs,rfl,sH,hDy,fv⟩
  obtain ⟨u,hu',rfl⟩:=refs_at hx
  obtain ⟨r,hr',tr⟩:=paired_at hu hu'
  have nl:(vs.map V.ref).length<=i:=by
   rw [List.length_map,fv.length,List.length_take]
   omega
  have hi:i < rows.length:=(List.getElem?_eq_some_iff.mp hr').1
  have er:rows[i] = r:=by rw [List.getElem?_eq_getElem hi] at hr'; exact Option.some.inj hr'
  refine hs i u r H' _ _ hu' hr' sH (sR tr sH) (fun v H2 s2 r2=>?_)
  have s3:Same H1 (upd H2 D (.lst (vs.map V.ref ++ [.ref v]))):=fun b o z=>by
   rw [upd_ne (ne_of_none z hD)]
   exact s2 _ _ (sH b o z)
  refine lcN.mk hlt (le1000 (by rw [List.length_map,hl]; omega)) (s2 _ _ hDy) nl ⟨vs ++ [v],by rw [List.map_append]; rfl,s3,upd_same,?_⟩
  rw [List.take_succ_eq_append_getElem hi,er]
  exact Paired.snoc (Paired.imp' (fun w r' z=>uR' (sR' z s2) (s2 _ _ hDy)) fv) (uR' r2 (s2 _ _ hDy))
 ·rintro ys H ⟨vs,rfl,sH,hDy,fv⟩
  rw [List.length_map,hl,List.take_length] at fv
  exact hd vs H sH hDy fv
theorem PAt.upd {c:C5} {H:Hp} {v D:Addr} {r:Rw} {ys:List V} {o:HO} (h:PAt c H v r) (hD:H D = some (.lst ys)):PAt c (upd H D o) v r:=by
 obtain ⟨dx,h⟩:=h
 refine ⟨dx,?_⟩
 rw [upd_ne (fun e=>by rw [e,hD] at h; cases h)]
 exact h
def rowsD (rows:List Rw):List Dt:=rows.map fun r=>.tup (rowD r.k r.z r.b)
def barsD (bars:List Str):List Dt:=bars.map fun z=>.str z
end
section
variable {K:Frag} {ok:Addr->Prop} {H:Hp} {n:Nat}
theorem says_rows {us:List Addr} {rows:List Rw} (h:Paired (TAt H) us rows):(∀ r ∈ rows,r.ok)->Paired (Says K ok H (n + 1)) (us.map V.ref) (rowsD rows):=by
 induction h with
 | nil=>intro _; exact .nil
 | cons r t ih=>exact fun hok=>.cons (Says.tup (SqT.of r) (row_says (hok _ List.mem_cons_self).1)) (ih fun r' h'=>hok r' (List.mem_cons_of_mem _ h'))
theorem says_bars:∀ bars:List Str,Paired (Says K ok H n) (bars.map V.str) (barsD bars)
 | []=>.nil
 | z :: zs=>.cons Says.str (says_bars zs)
theorem says_told {t l1 l2:Addr} {us:List Addr} {rows:List Rw} {bars:List Str} (ht:H t = some (.tup [.ref l1,.ref l2])) (h1:H l1 = some (.lst (us.map V.ref))) (hu:Paired (TAt H) us rows) (hok:∀ r ∈ rows,r.ok) (h2:H l2 = some (.lst (bars.map V.str))) :
  Says K (fun _=>True) H 3 (.ref t) (.tup [.lst (rowsD rows),.lst (barsD bars)]):=
 Says.tup (SqT.of ht) (.cons (Says.lst True.intro h1 (says_rows hu hok)) (.cons (Says.lst True.intro h2 (says_bars bars)) .nil))
end
def spLForm (c:C5) (CF:Addr):Sp:=fun vs H Q _=>∃ (la lb:Addr) (us:List Addr) (rows:List Rw) (bars:List Str),vs = [.ref la,.ref lb]/\H la = some (.lst (us.map V.ref))/\Paired (TAt H) us rows/\H lb = some (.lst (bars.map V.str))/\Valid rows bars/\
 ∀ (f:Addr) (H':Hp),Same H H'->H f = none->FormOk c CF H' f rows bars->Q (.ref f) H'
section
variable {P:Program} {w:World} {K:Frag} {mg:Str->Option Value} {base:Heap} {f CF N:Addr} {fd:FuncData} {c:C5} {m:MA}
theorem scLForm:FnScope ["_law_row_here","_law_bars_here"] ["_law_row_here","_law_bars_here"] (defScope sForm):=⟨rfl,rfl,rfl,by decide +kernel,rfl,by decide +kernel,by decide +kernel⟩
theorem ok_lform {gF g1:Addr} {eF e1:FuncData} (F:Fun K "_law_form" "_law_form" sForm f fd) (hlst:mg "list" = none) (mCF:mg "Form" = some (.ref CF)) (MF:Mk K CF gF) (GF:FnOk P w K mg base CX0 3 gF eF ["self","parameters","bars"] (spFI c CF)) (bF:Binds K eF ["self","parameters","bars"] []) (cP:CalleeE P w K mg base 5 "parameter_of" g1 e1 ["told"] (spPof K c N)):FnOk P w K mg base CX0 6 f fd ["_law_row_here","_law_bars_here"] (spLForm c CF):=by
 refine F.ok scLForm (fun vs H Q E h=>?_) (fun cdv A outer s H vs Q E hr h=>?_)
 ·obtain ⟨la,lb,us,rows,bars,rfl,_⟩:=h
  rfl
 obtain ⟨la,lb,us,rows,bars,rfl,hla,hu,hlb,V1,q⟩:=h
 have hr4:Room 4 _:=hr.mono (by decide)
 refine ⟨_,pss_one (ps_ret (pe_make MF GF hr4 rfl mCF bF .nil pass0 (ac (pe_lc [] ["_law_one"] [none] rfl ⟨rfl,rfl,rfl,rfl⟩ (pi_list (pv 0)) (gown_name 0) rfl rfl rfl
   (fun pins fp s H C=>⟨pg_name (i:=0) ndOne rfl (Or.inl rfl) (.inr rfl),pif_nil,cE (E:=fun _ _ _=>False) cP passF hr (ac (pv 0) pa_nil)⟩)) (ac (cTy call_list_of hlst PyProof.Rows.boot_list (ac (pv 1) pa_nil)) pa_nil)))),?_⟩
 have l24:=V1.l24
 have l60:=V1.l60
 refine ⟨_,rfl,la,rfl,⟨_,SqL.of hla⟩,fun D hD=>?_⟩
 refine lc_map TAt (PAt c) TAt.same PAt.same PAt.upd hla hu (by omega) hD (fun i u r H' Qf Qs hu' hr' sH tr qf=>?_) fun ps H1 u1 e1 p1=>?_
 ·have rk:=V1.ok r (List.mem_of_getElem? hr')
  exact ⟨fun _=>⟨_,rfl,u,r.k,.str r.z,r.b,rfl,rk.1,tr,.inl ⟨r.z,rfl,nameB_ok rk.2⟩,fun _ o dx H5 s5 ho=>qf o H5 s5 ⟨dx,ho⟩,fun e=>absurd (show nameB r.z = false from e) (by rw [rk.2]; decide)⟩,fun e=>Bool.noConfusion e⟩
 refine ⟨_,rfl,lb,_,rfl,.inl (SqL.of (u1 _ _ hlb)),fun l2 hl2=>?_⟩
 have s2:=same_new hl2 (.lst (bars.map V.str))
 have g2:upd H1 l2 (.lst (bars.map V.str)) l2 = some (.lst (bars.map V.str)):=upd_same
 generalize upd H1 l2 (.lst (bars.map V.str)) = H2 at s2 g2 |-
 intro x dx hx hdx hne
 have smk:Same H2 (upd (upd H2 dx (.own x)) x (.ins CF dx [])):=same_make0 hx hdx
 have hx1:upd (upd H2 dx (.own x)) x (.ins CF dx []) x = some (.ins CF dx []):=upd_same
 generalize upd (upd H2 dx (.own x)) x (.ins CF dx []) = H3 at smk hx1 |-
 have s12:=u1.trans s2
 refine ⟨x,D,dx,.ref l2,ps,rows,bars,rfl,hx1,smk _ _ (s2 _ _ e1),pats_same (s2.trans smk) p1,.inr ⟨l2,rfl,smk _ _ g2⟩,V1,fun H4 sx F4 L4=>?_⟩
 refine ⟨rfl,q x H4 (fun b' u e=>sx b' u (smk _ _ (s12 _ _ e)) (ne_of_none (s12 _ _ e) hx)) (s12.free hx) ⟨F4.at,by omega,by omega,V1.ok⟩⟩
end
theorem val_put {κ : Type} [DecidableEq κ] {kvs:List (κ × V)} {k k' : κ} {v:V}:valV (putK kvs k v) k' = if k' = k then some v else valV kvs k':=valV_put kvs k k' v
theorem nms_cons (r:Rw) (rs:List Rw):nms (r :: rs) = (if byNm r.k = true then [r.z] else []) ++ nms rs:=by
 have:=nms_app [r] rs
 rw [nms_one] at this
 exact this
theorem doors_no {z:Str}:∀ (rows:List Rw) (i:Nat) (acc:List (Key × V)),z ∉ nms rows->valV (doorsF i acc rows) (.inr z) = valV acc (.inr z)
 | [],_,_,_=>rfl
 | r :: rs,i,acc,h=>by
  rw [nms_cons] at h
  have h2:z ∉ nms rs:=fun e=>h (List.mem_append_right _ e)
  show valV (doorsF (i + 1) _ rs) (.inr z) = _
  rw [doors_no rs (i + 1) _ h2]
  split
  next e=>
   rw [val_put,if_neg]
   intro e2
   rw [if_pos e] at h
   exact h (by rw [Sum.inr.inj e2]; exact List.mem_append_left _ (List.mem_singleton.mpr rfl))
  ·rfl
theorem doors_at {r:Rw} (hb:byNm r.k = true):∀ (rows:List Rw) (i j:Nat) (acc:List (Key × V)),rows[j]? = some r->(nms rows).Nodup->valV (doorsF i acc rows) (.inr r.z) = some (.int ((i + j:Nat):Int))
 | [],_,_,_,h,_=>by simp at h
 | y :: ys,i,0,acc,h,nd=>by
  have e:y = r:=by simpa using h
  subst e
  rw [nms_cons,if_pos hb] at nd
  have hz:y.z ∉ nms ys:=(List.nodup_cons.mp nd).1
  show valV (doorsF (i + 1) (if byNm y.k = true then putK acc (.inr y.z) (.int i) else acc) ys) (.inr y.z) = _
  rw [doors_no ys (i + 1) _ hz,if_pos hb,val_put,if_pos rfl]
  rfl
 | y :: ys,i,j + 1,acc,h,nd=>by
  rw [nms_cons] at nd
  have nd2:=(List.nodup_append.mp nd).2.1
  show valV (doorsF (i + 1) _ ys) (.inr r.z) = _
  rw [doors_at hb ys (i + 1) j _ (by simpa using h) nd2,show i + 1 + j = i + (j + 1) by omega]
theorem fp_sub {p:Str × Nat}:∀ (zs:List Str) (i:Nat) (acc:List (Str × Nat)),p ∈ fpF i acc zs->p ∈ acc\/p.1 ∈ zs
 | [],_,_,h=>.inl h
 | z :: zs,i,acc,h=>by
  have h':p ∈ fpF (i + 1) (if (acc.any fun p=>decide (p.1 = z)) = true then acc else acc ++ [(z,i)]) zs:=h
  rcases fp_sub zs (i + 1) _ h' with h1 | h1
  ·split at h1
   ·exact .inl h1
   ·rcases List.mem_append.mp h1 with h2 | h2
    ·exact .inl h2
    ·rw [List.mem_singleton.mp h2]
     exact .inr List.mem_cons_self
  ·exact .inr (List.mem_cons_of_mem _ h1)
theorem unw_nil {rows:List Rw} {bars:List Str} {many:Nat} {zs:List Str} (h:∀ z ∈ zs,unwW rows bars many z = none):unwF rows bars many (fpZ zs) = []:=by
 unfold unwF
 rw [List.filterMap_eq_nil_iff]
 intro p hp
 rcases fp_sub zs 0 [] hp with h1 | h1
 ·cases h1
 ·rw [h p.1 h1]
  rfl
theorem fp_nodup:∀ (zs:List Str) (i:Nat) (acc:List (Str × Nat)),zs.Nodup->(∀ z ∈ zs,(acc.any fun p=>decide (p.1 = z)) = false)->fpF i acc zs = acc ++ (List.range zs.length).map fun j=>(zs.getD j "",i + j)
 | [],_,acc,_,_=>by show acc = acc ++ []; rw [List.append_nil]
 | z :: zs,i,acc,nd,h=>by
  have hz:=h z List.mem_cons_self
  have nd':=List.nodup_cons.mp nd
  show fpF (i + 1) (if (acc.any fun p=>decide (p.1 = z)) = true then acc else acc ++ [(z,i)]) zs = _
  rw [hz,if_neg Bool.false_ne_true,fp_nodup zs (i + 1) _ nd'.2 fun y hy=>by
   rw [List.any_append,h y (List.mem_cons_of_mem _ hy),Bool.false_or]
   have:¬ z = y:=fun e=>nd'.1 (e ▸ hy)
   simp [this]]
  rw [List.append_assoc]
  congr 1
  rw [List.length_cons,List.range_succ_eq_map,List.map_cons,List.map_map]
  show (z,i) :: _ = _ :: _
  congr 1
  apply List.map_congr_left
  intro j _
  show (zs.getD j "",i + 1 + j) = ((z :: zs).getD (j + 1) "",i + (j + 1))
  rw [show i + 1 + j = i + (j + 1) by omega]
  rfl
theorem nl_app (a b:List (Str × Nat)):nlF (a ++ b) = (nlF a).or (nlF b):=List.find?_append
theorem nl_lack (many:Nat) (fk:List (Key × V)) (rows:List Rw) (i:Nat):nlF (lackF many fk i rows) = none:=by
 refine List.find?_eq_none.mpr fun m h=>?_
 have:m.1 = "lacking":=by
  induction rows generalizing i with
  | nil=>cases h
  | cons r rs ih=>
   rcases List.mem_append.mp h with h | h
   ·split at h
    ·rw [List.mem_singleton.mp h]
    ·cases h
   ·exact ih (i + 1) h
 rw [this]
 decide +kernel
theorem nl_head {m:Str × Nat} {ms:List (Str × Nat)} (h:m.1 ≠ "lacking"):nlF (m :: ms) = some m:=by
 unfold nlF
 rw [List.find?_cons,decide_eq_true h]
theorem val_app {a b:List (Str × Nat)} {z:Str} {v:V} (h:valV (kvP a) (.inr z) = some v):valV (kvP (a ++ b)) (.inr z) = some v:=by
 unfold valV at h |-
 unfold kvP at h |-
 rw [List.map_append,List.find?_append]
 cases e:(a.map fun p=>((Sum.inr p.1:Key),V.int (p.2:Nat))).find? fun kv=>decide (kv.1 = .inr z) with
 | none=>rw [e] at h; cases h
 | some kv=>rw [e] at h; exact h
theorem val_new {a:List (Str × Nat)} {z:Str} {i:Nat} (h:(a.any fun p=>decide (p.1 = z)) = false):valV (kvP (a ++ [(z,i)])) (.inr z) = some (.int (i:Nat)):=by
 have e0:valV (kvP a) (.inr z) = none:=by
  rw [<- kvP_any] at h
  exact Option.not_isSome_iff_eq_none.mp (by rw [h]; exact Bool.false_ne_true)
 unfold valV at e0 |-
 unfold kvP at e0 |-
 rw [List.map_append,List.find?_append]
 cases e:(a.map fun p=>((Sum.inr p.1:Key),V.int (p.2:Nat))).find? fun kv=>decide (kv.1 = .inr z) with
 | none=>
  rw [Option.none_or,List.map_cons,List.find?_cons,decide_eq_true rfl]
  rfl
 | some kv=>rw [e] at e0; cases e0
theorem val_fp {z:Str} {v:V}:∀ (zs:List Str) (i:Nat) (acc:List (Str × Nat)),valV (kvP acc) (.inr z) = some v->valV (kvP (fpF i acc zs)) (.inr z) = some v
 | [],_,_,h=>h
 | y :: ys,i,acc,h=>by
  show valV (kvP (fpF (i + 1) (if (acc.any fun p=>decide (p.1 = y)) = true then acc else acc ++ [(y,i)]) ys)) _ = _
  split
  ·exact val_fp ys (i + 1) acc h
  ·exact val_fp ys (i + 1) _ (val_app h)
theorem any_mem {acc:List (Str × Nat)} {z:Str}:(acc.any fun p=>decide (p.1 = z)) = decide (z ∈ acc.map (·.1)):=by
 rw [Bool.eq_iff_iff,List.any_eq_true,decide_eq_true_eq,List.mem_map]
 exact ⟨fun ⟨p,h1,h2⟩=>⟨p,h1,of_decide_eq_true h2⟩,fun ⟨p,h1,h2⟩=>⟨p,h1,decide_eq_true h2⟩⟩
theorem dbl_first {z:Str}:∀ (zs:List Str) (i j:Nat) (acc:List (Str × Nat)),(∀ p ∈ acc,p.2 < i)->(∀ j',j' < j->∀ y,zs[j']? = some y->y ∉ acc.map (·.1) ++ zs.take j')->zs[j]? = some z->z ∈ acc.map (·.1) ++ zs.take j->∃ rest,dblF (kvP (fpF i acc zs)) i zs = ((("doubled" : Str),i + j):Str × Nat) :: rest
 | [],_,_,_,_,_,h,_=>by simp at h
 | y :: ys,i,0,acc,ha,_,h,hz=>by
  have e:y = z:=by simpa using h
  subst e
  rw [List.take_zero,List.append_nil] at hz
  have hany:(acc.any fun p=>decide (p.1 = y)) = true:=by rw [any_mem]; exact decide_eq_true hz
  have hs:(valV (kvP acc) (.inr y)).isSome = true:=by rw [kvP_any]; exact hany
  obtain ⟨v,hv⟩:=Option.isSome_iff_exists.mp hs
  obtain ⟨z',j,ez,rfl,hm⟩:=kvP_val hv
  have hj:=ha _ hm
  show ∃ rest,(if valV (kvP (fpF i acc (y :: ys))) (.inr y) = some (.int (i:Nat)) then [] else [(("doubled" : Str),i)]) ++ _ = _
  rw [val_fp (y :: ys) i acc hv,if_neg (fun e=>by
   have e1:=V.int.inj (Option.some.inj e)
   have hj:j < i:=hj
   omega)]
  exact ⟨_,rfl⟩
 | y :: ys,i,j + 1,acc,ha,hn,h,hz=>by
  have hy:=hn 0 (Nat.succ_pos _) y rfl
  rw [List.take_zero,List.append_nil] at hy
  have hany:(acc.any fun p=>decide (p.1 = y)) = false:=by rw [any_mem]; exact decide_eq_false hy
  have ef:fpF i acc (y :: ys) = fpF (i + 1) (acc ++ [(y,i)]) ys:=by
   show fpF (i + 1) (if (acc.any fun p=>decide (p.1 = y)) = true then acc else acc ++ [(y,i)]) ys = _
   rw [hany,if_neg Bool.false_ne_true]
  have em:∀ k,(acc ++ [(y,i)]).map (·.1) ++ ys.take k = acc.map (·.1) ++ (y :: ys).take (k + 1):=fun k=>by simp
  obtain ⟨rest,hr⟩:=dbl_first (z:=z) ys (i + 1) j (acc ++ [(y,i)]) (fun p hp=>by
   rcases List.mem_append.mp hp with hp | hp
   ·have:=ha p hp; omega
   ·rw [List.mem_singleton.mp hp]; exact Nat.lt_succ_self _) (fun j' hj' x hx=>by
   rw [em]
   exact hn (j' + 1) (by omega) x (by simpa using hx)) (by simpa using h) (by rw [em]; exact hz)
  refine ⟨rest,?_⟩
  show (if valV (kvP (fpF i acc (y :: ys))) (.inr y) = some (.int (i:Nat)) then [] else [(("doubled" : Str),i)]) ++ dblF (kvP (fpF i acc (y :: ys))) (i + 1) ys = _
  rw [ef,val_fp ys (i + 1) _ (val_new hany),if_pos rfl,List.nil_append,hr,show i + 1 + j = i + (j + 1) by omega]
theorem dbl_none:∀ (zs:List Str) (i:Nat) (acc:List (Str × Nat)),(∀ j y,zs[j]? = some y->y ∉ acc.map (·.1) ++ zs.take j)->dblF (kvP (fpF i acc zs)) i zs = []
 | [],_,_,_=>rfl
 | y :: ys,i,acc,hn=>by
  have hy:=hn 0 y rfl
  rw [List.take_zero,List.append_nil] at hy
  have hany:(acc.any fun p=>decide (p.1 = y)) = false:=by rw [any_mem]; exact decide_eq_false hy
  have ef:fpF i acc (y :: ys) = fpF (i + 1) (acc ++ [(y,i)]) ys:=by
   show fpF (i + 1) (if (acc.any fun p=>decide (p.1 = y)) = true then acc else acc ++ [(y,i)]) ys = _
   rw [hany,if_neg Bool.false_ne_true]
  have em:∀ k,(acc ++ [(y,i)]).map (·.1) ++ ys.take k = acc.map (·.1) ++ (y :: ys).take (k + 1):=fun k=>by simp
  show (if valV (kvP (fpF i acc (y :: ys))) (.inr y) = some (.int (i:Nat)) then [] else [(("doubled" : Str),i)]) ++ dblF (kvP (fpF i acc (y :: ys))) (i + 1) ys = _
  rw [ef,val_fp ys (i + 1) _ (val_new hany),if_pos rfl,List.nil_append]
  exact dbl_none ys (i + 1) (acc ++ [(y,i)]) fun j x hx=>by
   rw [em]
   exact hn (j + 1) x (by simpa using hx)
def NoDup (zs:List Str):Prop:=∀ (j:Nat) (y:Str),zs[j]? = some y->y ∉ zs.take j
theorem NoDup.nd:∀ {zs:List Str},NoDup zs->zs.Nodup:=fun {zs} h=>by
 refine List.pairwise_iff_getElem.mpr fun i j hi hj hij e=>?_
 refine h j zs[j] (List.getElem?_eq_getElem hj) ?_
 exact List.mem_of_getElem? (i:=i) (by rw [List.getElem?_take,if_pos hij,List.getElem?_eq_getElem hi,e])
theorem fw_dbl {rows:List Rw} {bars:List Str} {many j:Nat} {zs:List Str} {z:Str} (hn:∀ j',j' < j->∀ y,zs[j']? = some y->y ∉ zs.take j') (hz:zs[j]? = some z) (hm:z ∈ zs.take j):nlF (missF rows bars many zs) = some ((("doubled" : Str),j):Str × Nat):=by
 obtain ⟨rest,h⟩:=dbl_first (z:=z) zs 0 j [] (fun _ h=>nomatch h) hn hz hm
 have h':dblF (kvP (fpZ zs)) 0 zs = ((("doubled" : Str),0 + j):Str × Nat) :: rest:=h
 unfold missF
 rw [nl_app,nl_app,nl_app,h',nl_head (show ("doubled" : Str) ≠ "lacking" by decide +kernel),Nat.zero_add]
 rfl
theorem miss_split {rows:List Rw} {bars:List Str} {many:Nat} {zs:List Str} (hn:NoDup zs):nlF (missF rows bars many zs) = (nlF (overF rows many)).or (nlF (unwF rows bars many (fpZ zs))):=by
 have h':dblF (kvP (fpZ zs)) 0 zs = []:=dbl_none zs 0 [] hn
 unfold missF
 rw [nl_app,nl_app,nl_app,h',nl_lack,Option.or_none]
 rfl
theorem fw_over {rows:List Rw} {bars:List Str} {many:Nat} {zs:List Str} (hn:NoDup zs) (h1:plN rows < many) (h2:(firstK 2 0 rows).isSome = false):nlF (missF rows bars many zs) = some ((("over" : Str),plN rows):Str × Nat):=by
 rw [miss_split hn]
 have:overF rows many = ((("over" : Str),plN rows):Str × Nat) :: ((List.range (many - plN rows - 1)).map fun i=>((("over" : Str),plN rows + (i + 1)):Str × Nat)):=by
  unfold overF
  rw [h2,if_neg Bool.false_ne_true,show many - plN rows = (many - plN rows - 1) + 1 by omega,List.range_succ_eq_map,List.map_cons,List.map_map]
  rfl
 rw [this,nl_head (show ("over" : Str) ≠ "lacking" by decide +kernel)]
 rfl
theorem over_no {rows:List Rw} {many:Nat} (h:many<=plN rows\/(firstK 2 0 rows).isSome = true):overF rows many = []:=by
 unfold overF
 rcases h with h | h
 ·split
  ·rfl
  ·rw [show many - plN rows = 0 by omega]
   rfl
 ·rw [if_pos h]
theorem fp_Z {zs:List Str} (nd:zs.Nodup):fpZ zs = (List.range zs.length).map fun j=>(zs.getD j "",0 + j):=by
 have:=fp_nodup zs 0 [] nd fun _ _=>rfl
 rw [List.nil_append] at this
 exact this
theorem find_range {α : Type} (g:Nat->Option α):∀ (n j:Nat) (x : α),j < n->(∀ j',j' < j->g j' = none)->g j = some x->∃ rest,(List.range n).filterMap g = x :: rest:=by
 intro n j x hj hn hg
 obtain ⟨m,rfl⟩:∃ m,n = j + (m + 1):=⟨n - j - 1,by omega⟩
 refine ⟨(((List.range m).map (· + 1)).map (j + ·)).filterMap g,?_⟩
 rw [List.range_add,List.filterMap_append,List.filterMap_eq_nil_iff.mpr (fun a h=>hn a (List.mem_range.mp h)),List.nil_append,List.range_succ_eq_map,List.map_cons,List.filterMap_cons,Nat.add_zero,hg]
theorem fw_unw {rows:List Rw} {bars:List Str} {many j:Nat} {zs:List Str} {z wd:Str} (hn:NoDup zs) (ho:many<=plN rows\/(firstK 2 0 rows).isSome = true) (hp:∀ j',j' < j->∀ y,zs[j']? = some y->unwW rows bars many y = none) (hz:zs[j]? = some z) (hw:unwW rows bars many z = some wd) (hl:wd ≠ "lacking"):nlF (missF rows bars many zs) = some (wd,j):=by
 rw [miss_split hn,over_no ho]
 have hj:j < zs.length:=(List.getElem?_eq_some_iff.mp hz).1
 obtain ⟨rest,h⟩:=find_range (fun i=>(unwW rows bars many (zs.getD i "")).map fun wd=>(wd,0 + i)) zs.length j (wd,0 + j) hj (fun j' hj'=>by
  have e:zs[j']? = some zs[j']:=List.getElem?_eq_getElem (by omega)
  show Option.map _ (unwW rows bars many (zs.getD j' "")) = none
  rw [List.getD_eq_getElem?_getD,e]
  show Option.map _ (unwW rows bars many zs[j']) = none
  rw [hp j' hj' _ e]
  rfl) (by
  show Option.map _ (unwW rows bars many (zs.getD j "")) = _
  rw [List.getD_eq_getElem?_getD,hz]
  show Option.map _ (unwW rows bars many z) = _
  rw [hw]
  rfl)
 have e:unwF rows bars many (fpZ zs) = (wd,0 + j) :: rest:=by
  unfold unwF
  rw [fp_Z hn.nd,List.filterMap_map,<- h]
  rfl
 rw [e,nl_head hl,Nat.zero_add]
 rfl
theorem fw_none {rows:List Rw} {bars:List Str} {many:Nat} {zs:List Str} (hn:NoDup zs) (ho:many<=plN rows\/(firstK 2 0 rows).isSome = true) (hp:∀ z ∈ zs,unwW rows bars many z = none):nlF (missF rows bars many zs) = none:=by
 rw [miss_split hn,over_no ho,unw_nil hp]
 rfl
theorem pl_grp {k:Nat} (h:k < 5):byPl k = decide (grp k = 0):=by
 rcases lt5 h with rfl | rfl | rfl | rfl | rfl <;> rfl
theorem no_pl:∀ (rows:List Rw) (l:Nat),1<=l->(∀ r ∈ rows,r.ok)->ordOk l rows = true->rows.filter (fun r=>byPl r.k) = []
 | [],_,_,_,_=>rfl
 | r :: rs,l,hl,hok,ho=>by
  have ho':(!badAt l (grp r.k) && ordOk (grp r.k) rs) = true:=ho
  rw [Bool.and_eq_true] at ho'
  have hg : 1<=grp r.k:=by
   refine Nat.pos_of_ne_zero fun e=>?_
   rw [e] at ho'
   have:badAt l 0 = true:=by
    unfold badAt
    rw [decide_eq_true (show 0 < l by omega)]
    rfl
   rw [this] at ho'
   cases ho'.1
  have hb:byPl r.k = false:=by rw [pl_grp (hok r List.mem_cons_self).1]; exact decide_eq_false (by omega)
  rw [List.filter_cons,hb,if_neg Bool.false_ne_true]
  exact no_pl rs (grp r.k) hg (fun x hx=>hok x (List.mem_cons_of_mem _ hx)) ho'.2
theorem pl_take':∀ (rows:List Rw),(∀ r ∈ rows,r.ok)->ordOk 0 rows = true->rows.filter (fun r=>byPl r.k) = rows.take (plN rows)
 | [],_,_=>rfl
 | r :: rs,hok,ho=>by
  have ho':(!badAt 0 (grp r.k) && ordOk (grp r.k) rs) = true:=ho
  rw [Bool.and_eq_true] at ho'
  have hok':∀ x ∈ rs,x.ok:=fun x hx=>hok x (List.mem_cons_of_mem _ hx)
  cases hb:byPl r.k with
  | true=>
   have hg:grp r.k = 0:=by
    rw [pl_grp (hok r List.mem_cons_self).1] at hb
    exact of_decide_eq_true hb
   rw [hg] at ho'
   have ih:=pl_take' rs hok' ho'.2
   have e:plN (r :: rs) = plN rs + 1:=by unfold plN; rw [List.filter_cons,hb,if_pos rfl]; rfl
   rw [e,List.filter_cons,hb,if_pos rfl,List.take_succ_cons,ih]
  | false=>
   have hg : 1<=grp r.k:=by
    rw [pl_grp (hok r List.mem_cons_self).1] at hb
    exact Nat.pos_of_ne_zero (of_decide_eq_false hb)
   have h0:=no_pl rs (grp r.k) hg hok' ho'.2
   have e:plN (r :: rs) = 0:=by unfold plN; rw [List.filter_cons,hb,if_neg Bool.false_ne_true,h0]; rfl
   rw [e,List.filter_cons,hb,if_neg Bool.false_ne_true,h0]
   rfl
def goneN (rows:List Rw) (many:Nat):List Str:=(((rows.filter fun r=>byPl r.k).take many).filter fun r=>decide (r.k = 1)).map (·.z)
theorem gone_at {rows:List Rw} (V1:VR rows) {many:Nat} {z:Str}:z ∈ goneN rows many ↔ ∃ (l:Nat) (r:Rw),rows[l]? = some r/\l < plN rows/\l < many/\r.k = 1/\r.z = z:=by
 unfold goneN
 rw [pl_take' rows V1.ok V1.ord,List.take_take,List.mem_map]
 constructor
 ·rintro ⟨r,hr,rfl⟩
  rw [List.mem_filter] at hr
  obtain ⟨l,hl⟩:=List.mem_iff_getElem?.mp hr.1
  have hlt:=(List.getElem?_eq_some_iff.mp hl).1
  rw [List.length_take] at hlt
  rw [List.getElem?_take,if_pos (by omega)] at hl
  exact ⟨l,r,hl,by omega,by omega,of_decide_eq_true hr.2,rfl⟩
 ·rintro ⟨l,r,hl,h1,h2,hk,rfl⟩
  refine ⟨r,List.mem_filter.mpr ⟨List.mem_iff_getElem?.mpr ⟨l,?_⟩,decide_eq_true hk⟩,rfl⟩
  rw [List.getElem?_take,if_pos (by omega)]
  exact hl
theorem nms_at {rows:List Rw} {z:Str} (h:z ∈ nms rows):∃ (l:Nat) (r:Rw),rows[l]? = some r/\byNm r.k = true/\r.z = z:=by
 unfold nms at h
 obtain ⟨r,hr,rfl⟩:=List.mem_map.mp h
 rw [List.mem_filter] at hr
 obtain ⟨l,hl⟩:=List.mem_iff_getElem?.mp hr.1
 exact ⟨l,r,hl,hr.2,rfl⟩
theorem unw_bar {rows:List Rw} {bars:List Str} {many:Nat} {z:Str} (h:z ∈ bars):unwW rows bars many z = some "barred":=if_pos h
theorem unw_gone {rows:List Rw} {bars:List Str} {many:Nat} {z:Str} (V1:VR rows) (h:z ∉ bars) (hg:z ∈ goneN rows many):unwW rows bars many z = some "again":=by
 obtain ⟨l,r,hl,h1,h2,hk,rfl⟩:=(gone_at V1).mp hg
 have hv:=doors_at (r:=r) (by rw [hk]; rfl) rows 0 l [] hl V1.nd
 have e1:unwW.lastD' r.z rows = some l:=by unfold unwW.lastD'; rw [hv,Nat.zero_add]; rfl
 unfold unwW
 rw [if_neg h,e1]
 exact if_pos ⟨h1,h2⟩
theorem unw_no {rows:List Rw} {bars:List Str} {many:Nat} {z:Str} (h:z ∉ bars) (hk:z ∉ nms rows):unwW rows bars many z = if (firstK 4 0 rows).isSome = true then none else some ("strange" : Str):=by
 have hv:=doors_no (z:=z) rows 0 [] hk
 have e1:unwW.lastD' z rows = none:=by unfold unwW.lastD'; rw [hv]; rfl
 unfold unwW
 rw [if_neg h,e1]
theorem unw_ok {rows:List Rw} {bars:List Str} {many:Nat} {z:Str} (V1:VR rows) (h:z ∉ bars) (hg:z ∉ goneN rows many) (hk:z ∈ nms rows):unwW rows bars many z = none:=by
 obtain ⟨l,r,hl,hb,rfl⟩:=nms_at hk
 have hv:=doors_at hb rows 0 l [] hl V1.nd
 have e1:unwW.lastD' r.z rows = some l:=by unfold unwW.lastD'; rw [hv,Nat.zero_add]; rfl
 unfold unwW
 rw [if_neg h,e1]
 refine if_neg fun ⟨h1,h2⟩=>hg ((gone_at V1).mpr ⟨l,r,hl,h1,h2,?_,rfl⟩)
 have hm:r ∈ rows.filter fun r=>byPl r.k:=by
  rw [pl_take' rows V1.ok V1.ord]
  exact List.mem_iff_getElem?.mpr ⟨l,by rw [List.getElem?_take,if_pos h1]; exact hl⟩
 have hp:byPl r.k = true:=(List.mem_filter.mp hm).2
 have ho:=(V1.ok r (List.mem_of_getElem? hl)).1
 unfold byPl at hp
 unfold byNm at hb
 simp only [Bool.or_eq_true,beq_iff_eq] at hp hb
 omega
theorem firstK_some (kk:Nat):∀ (rows:List Rw) (i:Nat),(firstK kk i rows).isSome = rows.any fun r=>decide (r.k = kk)
 | [],_=>rfl
 | r :: rs,i=>by
  show (if r.k = kk then some i else firstK kk (i + 1) rs).isSome = (decide (r.k = kk) || rs.any _)
  by_cases h:r.k = kk
  ·rw [if_pos h,decide_eq_true h]; rfl
  ·rw [if_neg h,decide_eq_false h,Bool.false_or]; exact firstK_some kk rs (i + 1)
def sortsL (rows:List Rw):List Str:=rows.map fun r=>kw r.k
theorem kw_injE:∀ a,a < 5->∀ b,b < 5->kw a = kw b->a = b:=by decide +kernel
theorem sorts_in {rows:List Rw} (hok:∀ r ∈ rows,r.ok) {kk:Nat} (h:kk < 5):decide (kw kk ∈ sortsL rows) = (firstK kk 0 rows).isSome:=by
 rw [firstK_some,Bool.eq_iff_iff,decide_eq_true_eq,List.any_eq_true]
 unfold sortsL
 rw [List.mem_map]
 exact ⟨fun ⟨r,h1,h2⟩=>⟨r,h1,decide_eq_true (kw_injE _ (hok r h1).1 _ h h2)⟩,fun ⟨r,h1,h2⟩=>⟨r,h1,by rw [of_decide_eq_true h2]⟩⟩
section
variable {P:Program} {w:World} {K:Frag} {mg:Str->Option Value} {base:Heap} {f:Addr} {fd:FuncData}
theorem scLLaid:FnScope ["_law_items_here","_law_things","_law_pairs","_law_item"] ["_law_items_here"] (defScope sLLaid):=⟨rfl,rfl,rfl,by decide +kernel,rfl,by decide +kernel,by decide +kernel⟩
theorem ok_llaid (F:Fun K "_law_laid" "_law_laid" sLLaid f fd) (U:TxtL mg):FnOk P w K mg base CX0 1 f fd ["_law_items_here"] (spLaid K):=by
 refine F.ok scLLaid (fun vs H Q E h=>?_) (fun cdv A outer s H vs Q E hr h=>?_)
 ·obtain ⟨a,c,xs,rfl,_⟩:=h
  rfl
 obtain ⟨a,c,xs,rfl,hS,hc,hT,hP,q⟩:=h
 refine ⟨_,pss_cons (ps_set (i:=1) scLLaid.nd rfl (Or.inl rfl) (pe_lst pa_nil)) (pss_cons (ps_set (i:=2) scLLaid.nd rfl (Or.inl rfl) (pe_lst pa_nil))
  (pss_cons (ps_for PassesOwn.never rfl (pi_list (pv 0)) (pg_name (i:=3) scLLaid.nd rfl (Or.inl rfl))
   (pss_one (ps_if (pt_cmpR op_eq (pe_ix ix_tup (pv 3) pe_int (fun _ _=>rfl)) pe_str (nomark _)) (pss_one (ps_expr (pe_bm PySem.F.plainAttrs_list PySem.F.slot_list_append PySem.F.type_list_append mt_append (pv 1) (ac (pe_ix ix_tup (pv 3) pe_int (fun _ _=>rfl)) pa_nil))))
    (pss_one (ps_if (pt_cmpR op_eq (pe_ix ix_tup (pv 3) pe_int (fun _ _=>rfl)) pe_str (nomark _)) (pss_one (ps_set (i:=1) scLLaid.nd rfl (Or.inl rfl) (pe_op op_cat (pv 1) (cTy call_list_of U.list PyProof.Rows.boot_list (ac (pe_ix ix_tup (pv 3) pe_int (fun _ _=>rfl)) pa_nil)))))
     (pss_one (ps_if (pt_cmpR op_eq (pe_ix ix_tup (pv 3) pe_int (fun _ _=>rfl)) pe_str (nomark _)) (pss_one (ps_expr (pe_bm PySem.F.plainAttrs_list PySem.F.slot_list_append PySem.F.type_list_append mt_append (pv 2) (ac (pe_tup (ac (pe_ix ix_tup (pv 3) pe_int (fun _ _=>rfl)) (ac (pe_ix ix_tup (pv 3) pe_int (fun _ _=>rfl)) pa_nil))) pa_nil))))
      (pss_one (ps_set (i:=2) scLLaid.nd rfl (Or.inl rfl) (pe_op op_cat (pv 2) (cTy call_list_of U.list PyProof.Rows.boot_list (ac (pe_ix ix_tup (pv 3) pe_int (fun _ _=>rfl)) pa_nil))))))))))))
  (pss_one (ps_ret (pe_tup (ac (pv 1) (ac (pv 2) pa_nil))))))),?_⟩
 refine ⟨zz0,fun l1 h1=>?_⟩
 refine ⟨zz0,fun l2 h2=>?_⟩
 have n12:l1 ≠ l2:=ne_of_none upd_same h2
 have f2:H l2 = none:=(same_new h1 _).free h2
 have s0:Same H (upd (upd H l1 (.lst [])) l2 (.lst [])):=(same_new h1 _).trans (same_new h2 _)
 refine ⟨_,rfl,a,rfl,⟨_,s0.seq hS⟩,for_list (K:=K) (a:=a) (xs:=xs) (fun i σ H2=>∃ (l1 l2:Addr) (v3:Option V) (ys:List V),σ = [some (.ref a),some (.ref l1),some (.ref l2),v3]/\l1 ≠ l2/\H l1 = none/\H l2 = none/\Same H H2/\H2 l1 = some (.lst ((laidT (c.take i)).map V.int))/\H2 l2 = some (.lst ys)/\Paired (Says K T' H2 1) ys ((laidP (c.take i)).map pairD))
  ⟨l1,l2,_,[],rfl,n12,h1,f2,s0,by rw [upd_ne n12,upd_same]; rfl,upd_same,.nil⟩ (fun i σ H2 _ ⟨_,_,_,_,_,_,_,_,s2,_⟩=>s2.seq hS) ?_ ?_⟩
 ·clear n12 f2 s0 h2 h1 l1 l2
  rintro i y σ H2 hi ⟨l1,l2,v3,ys,rfl,n12,h1,f2,s2,g1,g2,gp⟩
  obtain ⟨d,hd,hy⟩:=Paired.get hc hi
  obtain ⟨it,hit,rfl⟩:=item_get hd
  have hy2:=hy.same s2
  have eT:=laidT_snoc c i it hit
  have eP:=laidP_snoc c i it hit
  have lT:=laidT_le c i
  have lP:=laidP_le c i
  have lT1:=laidT_le c (i + 1)
  have lP1:=laidP_le c (i + 1)
  have lys:ys.length = (laidP (c.take i)).length:=by rw [gp.length,List.length_map]
  cases it with
  | one t=>
   obtain ⟨b,rfl,hb⟩:=item_one hy2
   refine ⟨_,rfl,b,_,_,.str "one",rfl,rfl,hb,rfl,rfl,_,rfl,?_⟩
   refine dT rfl ?_
   refine ⟨_,rfl,.inl ⟨rfl,_,SqL.of g1⟩,_,rfl,b,_,_,.int t,rfl,rfl,hb,rfl,l1,_,_,rfl,rfl,g1,?_,?_⟩
   ·rw [List.length_map]; exact small1000 (by omega)
   ·refine ⟨l1,l2,_,ys,rfl,n12,h1,f2,same_upd s2 h1 _,?_,?_,?_⟩
    ·rw [upd_same,eT,List.map_append]; rfl
    ·rw [upd_ne n12.symm]; exact g2
    ·rw [eP]; show Paired _ _ ((laidP (c.take i) ++ []).map pairD); rw [List.append_nil]; exact pairs_keep (.inr ⟨_,g1⟩) gp
  | row ts=>
   obtain ⟨b,bl,rfl,hb,_,hbl⟩:=item_row hy2
   refine ⟨_,rfl,b,_,_,.str "row",rfl,rfl,hb,rfl,rfl,_,rfl,?_⟩
   refine dF ne1 ?_
   refine ⟨_,rfl,b,_,_,.str "row",rfl,rfl,hb,rfl,rfl,_,rfl,?_⟩
   refine dT rfl ?_
   refine ⟨_,rfl,_,rfl,b,_,_,.ref bl,rfl,rfl,hb,rfl,bl,_,rfl,.inl (SqL.of hbl),fun l hl=>?_⟩
   have s3:=same_new hl (.lst (ts.map V.int))
   have e1:(laidT (c.take (i + 1))).length = (laidT (c.take i)).length + ts.length:=by rw [eT,List.length_append]; rfl
   refine ⟨l1,l,_,_,rfl,rfl,s3 _ _ g1,upd_same,(by rw [List.length_map,List.length_map]; exact le1000 (by omega)),fun l' hl'=>?_⟩
   have s4:=s3.trans (same_new hl' (.lst ((laidT (c.take i)).map V.int ++ ts.map V.int)))
   refine ⟨l',l2,_,ys,rfl,(ne_of_none (s3 _ _ g2) hl').symm,s2.free (s3.free hl'),f2,s2.trans s4,?_,s4 _ _ g2,?_⟩
   ·rw [upd_same,eT,List.map_append]; rfl
   ·rw [eP]; show Paired _ _ ((laidP (c.take i) ++ []).map pairD); rw [List.append_nil]; exact pairs_same s4 gp
  | named z t=>
   obtain ⟨b,rfl,hb⟩:=item_named hy2
   refine ⟨_,rfl,b,_,_,.str "named",rfl,rfl,hb,rfl,rfl,_,rfl,?_⟩
   refine dF ne2 ?_
   refine ⟨_,rfl,b,_,_,.str "named",rfl,rfl,hb,rfl,rfl,_,rfl,?_⟩
   refine dF ne4 ?_
   refine ⟨_,rfl,b,_,_,.str "named",rfl,rfl,hb,rfl,rfl,_,rfl,?_⟩
   refine dT rfl ?_
   refine ⟨_,rfl,.inl ⟨rfl,_,SqL.of g2⟩,_,rfl,b,_,_,.str z,rfl,rfl,hb,rfl,_,rfl,b,_,_,.int t,rfl,rfl,hb,rfl,zz2,fun p hp=>?_⟩
   have np2:l2 ≠ p:=ne_of_none g2 hp
   have np1:l1 ≠ p:=ne_of_none g1 hp
   have fp:H p = none:=s2.free hp
   refine ⟨l2,_,_,rfl,rfl,(by rw [upd_ne np2]; exact g2),?_,?_⟩
   ·rw [lys]; exact small1000 (by omega)
   ·refine ⟨l1,l2,_,ys ++ [.ref p],rfl,n12,h1,f2,same_upd (same_upd s2 fp _) f2 _,?_,upd_same,?_⟩
    ·rw [upd_ne n12,upd_ne np1,g1,eT]; show _ = some (HO.lst ((laidT (c.take i) ++ []).map V.int)); rw [List.append_nil]
    ·rw [eP,List.map_append]
     refine paired_app (pairs_keep (.inr ⟨_,by rw [upd_ne np2]; exact g2⟩) (pairs_keep (.inl hp) gp)) (.cons (.tup (xs:=[.str z,.int t]) (SqT.of ?_) (.cons .str (.cons .int .nil))) .nil)
     rw [upd_ne np2.symm,upd_same]
  | book ps=>
   obtain ⟨b,bl,zs,rfl,hb,_,hbl,hz⟩:=item_book hy2
   refine ⟨_,rfl,b,_,_,.str "book",rfl,rfl,hb,rfl,rfl,_,rfl,?_⟩
   refine dF ne3 ?_
   refine ⟨_,rfl,b,_,_,.str "book",rfl,rfl,hb,rfl,rfl,_,rfl,?_⟩
   refine dF ne5 ?_
   refine ⟨_,rfl,b,_,_,.str "book",rfl,rfl,hb,rfl,rfl,_,rfl,?_⟩
   refine dF ne6 ?_
   have lz:zs.length = ps.length:=by rw [hz.length,List.length_map]
   refine ⟨_,rfl,_,rfl,b,_,_,.ref bl,rfl,rfl,hb,rfl,bl,_,rfl,.inl (SqL.of hbl),fun l hl=>?_⟩
   have s3:=same_new hl (.lst zs)
   have e1:(laidP (c.take (i + 1))).length = (laidP (c.take i)).length + ps.length:=by rw [eP,List.length_append]; rfl
   refine ⟨l2,l,_,_,rfl,rfl,s3 _ _ g2,upd_same,(by rw [lys,lz]; exact le1000 (by omega)),fun l' hl'=>?_⟩
   have s4:=s3.trans (same_new hl' (.lst (ys ++ zs)))
   refine ⟨l1,l',_,ys ++ zs,rfl,ne_of_none (s3 _ _ g1) hl',h1,s2.free (s3.free hl'),s2.trans s4,?_,upd_same,?_⟩
   ·rw [s4 _ _ g1,eT]; show _ = some (HO.lst ((laidT (c.take i) ++ []).map V.int)); rw [List.append_nil]
   ·rw [eP,List.map_append]
    exact paired_app (pairs_same s4 gp) (pairs_same s4 hz)
 ·rintro σ H2 ⟨l1,l2,v3,ys,rfl,n12,h1,f2,s2,g1,g2,gp⟩
  refine ⟨_,rfl,_,rfl,zz2,fun p hp=>?_⟩
  have hl:xs.length = c.length:=by rw [hc.length,List.length_map]
  rw [hl,List.take_length] at g1 gp
  refine q p _ (s2.trans (same_new hp _)) ⟨l1,l2,ys,h1,f2,n12,s2.free hp,upd_same,?_,?_,Paired.imp' (fun _ _ z=>z.same (same_new hp _)) gp⟩
  ·rw [upd_ne (ne_of_none g1 hp)]; exact g1
  ·rw [upd_ne (ne_of_none g2 hp)]; exact g2
end
theorem cut_takeN {xs:List V} {n:Nat}:cutV xs none (some (n:Int)) = xs.take n:=by
 unfold cutV
 rw [HT.sIx_nat,HT.sIx_none,List.drop_zero,Nat.sub_zero]
 by_cases h:n<=xs.length
 ·rw [Nat.min_eq_left h]
 ·rw [Nat.min_eq_right (by omega),List.take_of_length_le (Nat.le_refl _),List.take_of_length_le (by omega)]
theorem pairedTake {α β : Type} {R : α->β->Prop} {a:List α} {c:List β} (h:Paired R a c):∀ n,Paired R (a.take n) (c.take n):=by
 induction h with
 | nil=>intro n; rw [List.take_nil,List.take_nil]; exact .nil
 | cons r _ ih=>
  intro n
  cases n with
  | zero=>exact .nil
  | succ n=>exact .cons r (ih n)
abbrev wIn (K:Frag) (a b:Str):TT:=tTest (tOp (rIn K false) (tOp (rIxT K) (tVar 0) (tC (.int 0))) (tLst (tCons (tC (.str a)) (tCons (tC (.str b)) tNil))))
section
variable {K:Frag} {H:Hp} {a D:Addr} {us:List Addr} {rows:List Rw} {σ : L2.St} {Q:VK}
theorem lc_nmsP {ps:List (Str × Int)} {ys:List V} (hb:SqL K H a ys) (hp:Paired (Says K T' H 1) ys (ps.map pairD)) (lp:ps.length<=900) (hD:H D = none)
  (q:∀ H',Same H H'->H' D = some (.lst ((ps.map (·.1)).map V.str))->Q (.ref D) H'):LCr (Itl K a) [none,none] (gTup K 2 (gCons (gName 0) (gCons (gName 1) gNil))) tTrue (tVar 0) σ H Q D:=by
 have ly:ys.length = ps.length:=by rw [hp.length,List.length_map]
 refine lc_sel (K:=K) (xs:=ys) ps (fun _=>true) (fun p=>.str p.1) hD hb ly (by omega) (fun i x y H' N S hx hy sH n1 s1=>?_) (fun H' sH hd=>q H' sH ?_)
 ·obtain ⟨d,hd,hx1⟩:=Paired.get hp hx
  obtain ⟨pr,hpr,rfl⟩:=pair_get hd
  rw [hy] at hpr
  cases hpr
  obtain ⟨bb,rfl,hbb⟩:=pair_says (n:=0) hx1
  exact ⟨bb,_,rfl,sH.sqT hbb,rfl,_,_,rfl,_,_,rfl,rfl,fun _=>⟨_,rfl,n1 _ (Same.refl _) rfl⟩,fun z=>absurd z (by decide)⟩
 ·rw [List.filter_eq_self.mpr (fun _ _=>rfl)] at hd
  rw [List.map_map]
  exact hd
theorem lc_sorts (ha:H a = some (.lst (us.map V.ref))) (hu:Paired (TAt H) us rows) (V1:VR rows) (hD:H D = none)
  (q:∀ H',Same H H'->H' D = some (.lst ((sortsL rows).map V.str))->Q (.ref D) H'):LCr (Itl K a) [none] (gName 0) tTrue (tOp (rIxT K) (tVar 0) (tC (.int 0))) σ H Q D:=by
 have l24:=V1.l24
 refine lc_zip (K:=K) TAt (fun _=>true) (fun _ r=>.str (kw r.k)) hD ha hu (by omega) (fun i u r H' N S hu' hr' tr sH n1 s1=>?_) (fun H' sH hd=>q H' sH ?_)
 ·have rk:=V1.ok r (List.mem_of_getElem? hr')
  exact ⟨fun _=>⟨_,rfl,u,_,0,_,rfl,rfl,SqT.of (sH _ _ tr),row_at0 rk,n1 _ (Same.refl _) rfl⟩,fun z=>absurd z (by decide)⟩
 ·rw [hd,zip_out hu (fun _=>true) (fun r=>V.str (kw r.k)),List.filter_eq_self.mpr (fun _ _=>rfl)]
  unfold sortsL
  rw [List.map_map]
  rfl
theorem lc_known (ha:H a = some (.lst (us.map V.ref))) (hu:Paired (TAt H) us rows) (V1:VR rows) (hD:H D = none)
  (q:∀ H',Same H H'->H' D = some (.lst ((nms rows).map V.str))->Q (.ref D) H'):LCr (Itl K a) [none] (gName 0) (wIn K "both" "tag") (tOp (rIxT K) (tVar 0) (tC (.int 1))) σ H Q D:=by
 have l24:=V1.l24
 refine lc_zip (K:=K) TAt (fun r=>byNm r.k) (fun _ r=>.str r.z) hD ha hu (by omega) (fun i u r H' N S hu' hr' tr sH n1 s1=>?_) (fun H' sH hd=>q H' sH (by rw [hd,nms_zip hu]))
 have rk:=V1.ok r (List.mem_of_getElem? hr')
 have tu:=sH _ _ tr
 refine ⟨_,rfl,u,_,0,_,rfl,rfl,SqT.of tu,row_at0 rk,zz2,fun l hl=>?_⟩
 have s2:=same_new hl (.lst [.str "both",.str "tag"])
 refine ⟨l,_,rfl,.inl (SqL.of upd_same),rfl,rfl,_,rfl,?_⟩
 rw [if_neg Bool.false_ne_true,in_nm' rk.1]
 exact ⟨fun e=>⟨_,rfl,u,_,1,_,rfl,rfl,SqT.of (s2 _ _ tu),row_at1 rk,n1 _ s2 e⟩,fun e=>s1 _ s2 e⟩
theorem lc_places (ha:H a = some (.lst (us.map V.ref))) (hu:Paired (TAt H) us rows) (V1:VR rows) (hD:H D = none)
  (q:∀ (H':Hp) (vs:List Addr),Same H H'->H' D = some (.lst (vs.map V.ref))->Paired (TAt H') vs (rows.filter fun r=>byPl r.k)->Q (.ref D) H'):LCr (Itl K a) [none] (gName 0) (wIn K "seat" "both") (tVar 0) σ H Q D:=by
 have l24:=V1.l24
 refine lc_zip (K:=K) TAt (fun r=>byPl r.k) (fun u _=>.ref u) hD ha hu (by omega) (fun i u r H' N S hu' hr' tr sH n1 s1=>?_) (fun H' sH hd=>?_)
 ·have rk:=V1.ok r (List.mem_of_getElem? hr')
  have tu:=sH _ _ tr
  refine ⟨_,rfl,u,_,0,_,rfl,rfl,SqT.of tu,row_at0 rk,zz2,fun l hl=>?_⟩
  have s2:=same_new hl (.lst [.str "seat",.str "both"])
  refine ⟨l,_,rfl,.inl (SqL.of upd_same),rfl,rfl,_,rfl,?_⟩
  rw [if_neg Bool.false_ne_true,in_pl' rk.1]
  exact ⟨fun e=>⟨_,rfl,n1 _ s2 e⟩,fun e=>s1 _ s2 e⟩
 ·obtain ⟨vs,e,p⟩:=zip_sel hu (fun r=>byPl r.k)
  rw [e] at hd
  exact q H' vs sH hd (tats_same sH p)
theorem lc_gone {rs:List Rw} (ha:H a = some (.lst (us.map V.ref))) (hu:Paired (TAt H) us rs) (hok:∀ r ∈ rs,r.ok) (hl:rs.length<=500) (hD:H D = none)
  (q:∀ H',Same H H'->H' D = some (.lst (((rs.filter fun r=>decide (r.k = 1)).map (·.z)).map V.str))->Q (.ref D) H'):LCr (Itl K a) [none] (gName 0) (tTest (tOp rEq (tOp (rIxT K) (tVar 0) (tC (.int 0))) (tC (.str "both")))) (tOp (rIxT K) (tVar 0) (tC (.int 1))) σ H Q D:=by
 refine lc_zip (K:=K) TAt (fun r=>decide (r.k = 1)) (fun _ r=>.str r.z) hD ha hu (by omega) (fun i u r H' N S hu' hr' tr sH n1 s1=>?_) (fun H' sH hd=>q H' sH ?_)
 ·have rk:=hok r (List.mem_of_getElem? hr')
  have tu:=sH _ _ tr
  refine ⟨_,rfl,u,_,0,_,rfl,rfl,SqT.of tu,row_at0 rk,rfl,_,rfl,?_⟩
  have ek:decide (V.str (kw r.k) = V.str "both") = decide (r.k = 1):=by
   rcases lt5 rk.1 with e | e | e | e | e <;> rw [e] <;> decide +kernel
  rw [ek]
  exact ⟨fun e=>⟨_,rfl,u,_,1,_,rfl,rfl,SqT.of tu,row_at1 rk,n1 _ (Same.refl _) e⟩,fun e=>s1 _ (Same.refl _) e⟩
 ·rw [hd,zip_out hu (fun r=>decide (r.k = 1)) (fun r=>V.str r.z),List.map_map]
  rfl
end
def spTame (K:Frag):Sp:=fun vs H Q _=>∃ (la lb lt lp:Addr) (us:List Addr) (rows:List Rw) (bars:List Str) (ts:List Int) (ys:List V) (ps:List (Str × Int)),vs = [.ref la,.ref lb,.ref lt,.ref lp]/\H la = some (.lst (us.map V.ref))/\Paired (TAt H) us rows/\VR rows/\H lb = some (.lst (bars.map V.str))/\H lt = some (.lst (ts.map V.int))/\H lp = some (.lst ys)/\Paired (Says K T' H 1) ys (ps.map pairD)/\ps.length<=900/\
 ∀ (b:Bool) (H':Hp),Same H H'->Q (.bl b) H'
section
variable {P:Program} {w:World} {K:Frag} {mg:Str->Option Value} {base:Heap} {f:Addr} {fd:FuncData}
theorem ndNmT:([Str.ofString "_law_name",Str.ofString "_law_thing"]:List Str).Nodup:=by decide +kernel
theorem scTame:FnScope ["_law_row_here","_law_bars_here","_law_things","_law_pairs","_law_name","_law_names","_law_sorts","_law_places","_law_gone","_law_known"] ["_law_row_here","_law_bars_here","_law_things","_law_pairs"] (defScope sTame):=⟨rfl,rfl,rfl,by decide +kernel,rfl,by decide +kernel,by decide +kernel⟩
theorem ok_tame (F:Fun K "_law_is_tame" "_law_is_tame" sTame f fd) (U:TxtL mg):FnOk P w K mg base CX0 1 f fd ["_law_row_here","_law_bars_here","_law_things","_law_pairs"] (spTame K):=by
 refine F.ok scTame (fun vs H Q E h=>?_) (fun cdv A outer s H vs Q E hr h=>?_)
 ·obtain ⟨la,lb,lt,lp,us,rows,bars,ts,ys,ps,rfl,_⟩:=h
  rfl
 obtain ⟨la,lb,lt,lp,us,rows,bars,ts,ys,ps,rfl,hla,hu,V1,hlb,hlt,hlp,hp,l9,q⟩:=h
 refine ⟨_,pss_cons (ps_lc (i:=5) [] ["_law_name","_law_thing"] [none,none] scTame.nd rfl (Or.inl rfl) rfl ⟨rfl,rfl,rfl,rfl⟩ (pi_list (pv 3)) (gown_tup2 (K:=K) (n:=2) 0 1) rfl rfl rfl
   (fun pins fp s H C=>⟨pg_tup rfl (pgs_cons (pg_name (i:=0) ndNmT rfl (Or.inl rfl) (.inr rfl)) (pgs_cons (pg_name (i:=1) ndNmT rfl (Or.inl rfl) (.inr rfl)) pgs_nil)),pif_nil,pv 0⟩))
  (pss_cons (ps_lc (i:=6) [] ["_law_one"] [none] scTame.nd rfl (Or.inl rfl) rfl ⟨rfl,rfl,rfl,rfl⟩ (pi_list (pv 0)) (gown_name 0) rfl rfl rfl
   (fun pins fp s H C=>⟨pg_name (i:=0) ndOne rfl (Or.inl rfl) (.inr rfl),pif_nil,pe_ix (r:=rIxT K) ix_tup (pv 0) pe_int (fun _ _=>rfl)⟩))
  (pss_cons (ps_lc (i:=7) [] ["_law_one"] [none] scTame.nd rfl (Or.inl rfl) rfl ⟨rfl,rfl,rfl,rfl⟩ (pi_list (pv 0)) (gown_name 0) rfl rfl rfl
   (fun pins fp s H C=>⟨pg_name (i:=0) ndOne rfl (Or.inl rfl) (.inr rfl),pif_one (pt_cmpR (r:=rIn K false) op_in_seq (pe_ix (r:=rIxT K) ix_tup (pv 0) pe_int (fun _ _=>rfl)) (pe_lst (ac pe_str (ac pe_str pa_nil))) (by with_unfolding_all rfl)),pv 0⟩))
  (pss_cons (ps_if (PW.pt (pw_or (pt_cmpR op_lt (cB call_len_setT U.len PySem.boot_len (ac (cTy (call_setT rfl) U.set PyProof.Rows.boot_set (ac (pv 5) pa_nil)) pa_nil)) (cB call_len_seq U.len PySem.boot_len (ac (pv 5) pa_nil)) (nomark _))
    (pw_or1 (PW.pt (pw_and (pt_cmpR op_gt (cB call_len_seq U.len PySem.boot_len (ac (pv 2) pa_nil)) (cB call_len_seq U.len PySem.boot_len (ac (pv 7) pa_nil)) (nomark _)) (pw_and1 (pt_cmpR op_notIn_seq pe_str (pv 6) (by with_unfolding_all rfl)))))))) (pss_one (ps_ret pe_bl)) pss_nil)
  (pss_cons (ps_lc (i:=8) [] ["_law_one"] [none] scTame.nd rfl (Or.inl rfl) rfl ⟨rfl,rfl,rfl,rfl⟩ (pi_list (pe_slice sl_list (pv 7) po_none (po_some (cB call_len_seq U.len PySem.boot_len (ac (pv 2) pa_nil))))) (gown_name 0) rfl rfl rfl
   (fun pins fp s H C=>⟨pg_name (i:=0) ndOne rfl (Or.inl rfl) (.inr rfl),pif_one (pt_cmpR op_eq (pe_ix (r:=rIxT K) ix_tup (pv 0) pe_int (fun _ _=>rfl)) pe_str (nomark _)),pe_ix (r:=rIxT K) ix_tup (pv 0) pe_int (fun _ _=>rfl)⟩))
  (pss_cons (ps_lc (i:=9) [] ["_law_one"] [none] scTame.nd rfl (Or.inl rfl) rfl ⟨rfl,rfl,rfl,rfl⟩ (pi_list (pv 0)) (gown_name 0) rfl rfl rfl
   (fun pins fp s H C=>⟨pg_name (i:=0) ndOne rfl (Or.inl rfl) (.inr rfl),pif_one (pt_cmpR (r:=rIn K false) op_in_seq (pe_ix (r:=rIxT K) ix_tup (pv 0) pe_int (fun _ _=>rfl)) (pe_lst (ac pe_str (ac pe_str pa_nil))) (by with_unfolding_all rfl)),pe_ix (r:=rIxT K) ix_tup (pv 0) pe_int (fun _ _=>rfl)⟩))
  (pss_cons (ps_for PassesOwn.never rfl (pi_list (pv 5)) (pg_name (i:=4) scTame.nd rfl (Or.inl rfl))
   (pss_one (ps_if (PW.pt (pw_or (pt_cmpR op_in_seq (pv 4) (pv 1) (by with_unfolding_all rfl)) (pw_or (pt_cmpR op_in_seq (pv 4) (pv 8) (by with_unfolding_all rfl)) (pw_or1 (PW.pt (pw_and (pt_cmpR op_notIn_seq (pv 4) (pv 9) (by with_unfolding_all rfl)) (pw_and1 (pt_cmpR op_notIn_seq pe_str (pv 6) (by with_unfolding_all rfl))))))))) (pss_one (ps_ret pe_bl)) pss_nil)))
  (pss_one (ps_ret pe_bl)))))))),?_⟩
 have l24:=V1.l24
 refine ⟨_,rfl,lp,rfl,⟨_,SqL.of hlp⟩,fun D1 hD1=>?_⟩
 refine lc_nmsP (SqL.of hlp) hp l9 hD1 (fun H1 s1 e1=>?_)
 refine ⟨_,rfl,la,rfl,⟨_,SqL.of (s1 _ _ hla)⟩,fun D2 hD2=>?_⟩
 refine lc_sorts (s1 _ _ hla) (tats_same s1 hu) V1 hD2 (fun H2 s2 e2=>?_)
 have s12:=s1.trans s2
 refine ⟨_,rfl,la,rfl,⟨_,SqL.of (s12 _ _ hla)⟩,fun D3 hD3=>?_⟩
 refine lc_places (s12 _ _ hla) (tats_same s12 hu) V1 hD3 (fun H3 vs s3 e3 p3=>?_)
 have s13:=s12.trans s3
 have e1:=(s2.trans s3) _ _ e1
 have e2:=s3 _ _ e2
 dsimp only [gName]
 refine seq_via (fun σ' H'=>σ' = [some (.ref la),some (.ref lb),some (.ref lt),some (.ref lp),none,some (.ref D1),some (.ref D2),some (.ref D3),none,none]/\Same H3 H') ?_ (fun key=>?_)
 rotate_left
 ·refine ⟨_,rfl,D1,_,rfl,SqL.of e1,(by rw [List.length_map]; omega),fun l4 n4 hl4=>?_⟩
  have s4:=same_new hl4 (setO P w l4 (fun z=>decide (z ∈ ps.map (·.1))) n4)
  have g4:upd H3 l4 (setO P w l4 (fun z=>decide (z ∈ ps.map (·.1))) n4) l4 = some (setO P w l4 (fun z=>decide (z ∈ ps.map (·.1))) n4):=upd_same
  refine ⟨l4,_,n4,rfl,g4,?_⟩
  have s14:=s13.trans s4
  have e1:=s4 _ _ e1
  have e2:=s4 _ _ e2
  have e3:=s4 _ _ e3
  refine ⟨_,rfl,D1,_,rfl,.inl (SqL.of e1),_,_,rfl,rfl,_,rfl,?_⟩
  refine ite2 (fun _=>?_) (fun _=>?_)
  ·refine iteT ?_
   exact q _ _ s14
  refine ⟨_,rfl,lt,_,rfl,.inl (SqL.of (s14 _ _ hlt)),_,rfl,D3,_,rfl,.inl (SqL.of e3),_,_,rfl,rfl,_,rfl,?_⟩
  refine ite2 (fun _=>?_) (fun _=>?_)
  ·refine ⟨_,rfl,D2,_,rfl,.inl (SqL.of e2),rfl,flatStrs,_,rfl,?_⟩
   refine ite2 (fun _=>?_) (fun _=>?_)
   ·exact q _ _ s14
   ·exact key _ _ ⟨rfl,s4⟩
  ·refine iteF ?_
   exact key _ _ ⟨rfl,s4⟩
 rintro σ4 H4 ⟨rfl,s4⟩
 have s14:=s13.trans s4
 have e1:=s4 _ _ e1
 have e2:=s4 _ _ e2
 have e3:=s4 _ _ e3
 have p4:=tats_same s4 p3
 refine ⟨_,rfl,_,rfl,lt,_,rfl,.inl (SqL.of (s14 _ _ hlt)),_,rfl,D3,_,rfl,SqL.of e3,fun l5 hl5=>?_⟩
 rw [cut_takeN,<- List.map_take]
 have s5:=same_new hl5 (.lst ((vs.take (ts.map V.int).length).map V.ref))
 have g5:upd H4 l5 (.lst ((vs.take (ts.map V.int).length).map V.ref)) l5 = some (.lst ((vs.take (ts.map V.int).length).map V.ref)):=upd_same
 have p5:=pairedTake (tats_same s5 p4) (ts.map V.int).length
 generalize upd H4 l5 (.lst ((vs.take (ts.map V.int).length).map V.ref)) = H5 at s5 g5 p5 |-
 refine ⟨l5,rfl,⟨_,SqL.of g5⟩,fun D6 hD6=>?_⟩
 have okp:∀ r ∈ (rows.filter fun r=>byPl r.k).take (ts.map V.int).length,r.ok:=fun r hr=>V1.ok r (List.mem_filter.mp (List.mem_of_mem_take hr)).1
 have lenp:((rows.filter fun r=>byPl r.k).take (ts.map V.int).length).length<=500:=by
  have h1:=List.length_filter_le (fun r=>byPl r.k) rows
  rw [List.length_take]
  omega
 refine lc_gone g5 p5 okp lenp hD6 (fun H6 s6 e6=>?_)
 generalize (((rows.filter fun r=>byPl r.k).take (ts.map V.int).length).filter fun r=>decide (r.k = 1)).map (·.z) = gs at e6
 have s16:=s14.trans (s5.trans s6)
 refine ⟨_,rfl,la,rfl,⟨_,SqL.of (s16 _ _ hla)⟩,fun D7 hD7=>?_⟩
 refine lc_known (s16 _ _ hla) (tats_same s16 hu) V1 hD7 (fun H7 s7 e7=>?_)
 have s17:=s16.trans s7
 have e6:=s7 _ _ e6
 have e1:=(s5.trans (s6.trans s7)) _ _ e1
 have e2:=(s5.trans (s6.trans s7)) _ _ e2
 refine ⟨_,rfl,D1,rfl,⟨_,SqL.of e1⟩,for_list (K:=K) (a:=D1) (xs:=(ps.map (·.1)).map V.str) (fun i σ H'=>∃ v4,σ = [some (.ref la),some (.ref lb),some (.ref lt),some (.ref lp),v4,some (.ref D1),some (.ref D2),some (.ref D3),some (.ref D6),some (.ref D7)]/\H' = H7) ⟨_,rfl,rfl⟩ (fun i σ H' _ ⟨_,_,e⟩=>by rw [e]; exact SqL.of e1) ?_ ?_⟩
 ·rintro i x σ H' hx ⟨v4,rfl,rfl⟩
  obtain ⟨z,hz,rfl⟩:=strs_at hx
  refine ⟨_,rfl,_,rfl,lb,_,rfl,.inl (SqL.of (s17 _ _ hlb)),rfl,flatStrs,_,rfl,?_⟩
  refine ite2 (fun _=>?_) (fun _=>?_)
  ·refine iteT ?_
   exact q _ _ s17
  refine ⟨_,rfl,_,rfl,D6,_,rfl,.inl (SqL.of e6),rfl,flatStrs,_,rfl,?_⟩
  refine ite2 (fun _=>?_) (fun _=>?_)
  ·refine iteT ?_
   exact q _ _ s17
  refine ⟨_,rfl,_,rfl,D7,_,rfl,.inl (SqL.of e7),rfl,flatStrs,_,rfl,?_⟩
  refine ite2 (fun _=>?_) (fun _=>?_)
  ·refine ⟨_,rfl,D2,_,rfl,.inl (SqL.of e2),rfl,flatStrs,_,rfl,?_⟩
   refine ite2 (fun _=>?_) (fun _=>?_)
   ·exact q _ _ s17
   ·exact ⟨_,rfl,rfl⟩
  ·refine iteF ?_
   exact ⟨_,rfl,rfl⟩
 ·rintro σ H' ⟨v4,rfl,rfl⟩
  exact q _ _ s17
end
def spTamed (K:Frag):Sp:=fun vs H Q _=>∃ (la lb li:Addr) (us:List Addr) (rows:List Rw) (bars:List Str) (zs:List V) (ct:List Item),vs = [.ref la,.ref lb,.ref li]/\H la = some (.lst (us.map V.ref))/\Paired (TAt H) us rows/\VR rows/\H lb = some (.lst (bars.map V.str))/\H li = some (.lst zs)/\Paired (Says K T' H 3) zs (ct.map itemD)/\ct.length<=100/\(laidT ct).length<=800/\(laidP ct).length<=800/\
 ∀ (l:Addr) (ks:List V) (kt:List Item) (H':Hp),Same H H'->H l = none->H' l = some (.lst ks)->Paired (Says K T' H' 3) ks (kt.map itemD)->kt.length<=100->(laidT kt).length<=800->(laidP kt).length<=800->Q (.ref l) H'
section
variable {P:Program} {w:World} {K:Frag} {mg:Str->Option Value} {base:Heap} {f:Addr} {fd:FuncData}
theorem scTamed:FnScope ["_law_row_here","_law_bars_here","_law_items_here","_law_kept","_law_item","_law_things","_law_pairs"] ["_law_row_here","_law_bars_here","_law_items_here"] (defScope sTamed):=⟨rfl,rfl,rfl,by decide +kernel,rfl,by decide +kernel,by decide +kernel⟩
theorem ok_tamed {g1 g2:Addr} {d1 d2:FuncData} (F:Fun K "_law_tamed" "_law_tamed" sTamed f fd) (cL:Callee P w K mg base 1 "_law_laid" g1 d1 ["_law_items_here"] (spLaid K)) (cT:Callee P w K mg base 1 "_law_is_tame" g2 d2 ["_law_row_here","_law_bars_here","_law_things","_law_pairs"] (spTame K)):FnOk P w K mg base CX0 2 f fd ["_law_row_here","_law_bars_here","_law_items_here"] (spTamed K):=by
 refine F.ok scTamed (fun vs H Q E h=>?_) (fun cdv A outer s H vs Q E hr h=>?_)
 ·obtain ⟨la,lb,li,us,rows,bars,zs,ct,rfl,_⟩:=h
  rfl
 obtain ⟨la,lb,li,us,rows,bars,zs,ct,rfl,hla,hu,V1,hlb,hli,hz,lc,lt,lp,q⟩:=h
 refine ⟨_,pss_cons (ps_set (i:=3) scTamed.nd rfl (Or.inl rfl) (pe_lst pa_nil))
  (pss_cons (ps_for PassesOwn.never rfl (pi_list (pv 2)) (pg_name (i:=4) scTamed.nd rfl (Or.inl rfl))
   (pss_cons (ps_asg (cF cL hr (ac (pe_op op_cat (pv 3) (pe_lst (ac (pv 4) pa_nil))) pa_nil)) (pg_tup rfl (pgs_cons (pg_name (i:=5) scTamed.nd rfl (Or.inl rfl)) (pgs_cons (pg_name (i:=6) scTamed.nd rfl (Or.inl rfl)) pgs_nil))))
   (pss_one (ps_if (pt_val (cF cT hr (ac (pv 0) (ac (pv 1) (ac (pv 5) (ac (pv 6) pa_nil)))))) (pss_one (ps_expr (pe_bm PySem.F.plainAttrs_list PySem.F.slot_list_append PySem.F.type_list_append mt_append (pv 3) (ac (pv 4) pa_nil)))) pss_nil))))
  (pss_one (ps_ret (pv 3)))),?_⟩
 refine ⟨zz0,fun l hl=>?_⟩
 have s1:=same_new hl (.lst [])
 have g1:upd H l (.lst []) l = some (.lst []):=upd_same
 have z1:Paired (Says K (fun b=>b ≠ l) (upd H l (.lst [])) 3) zs (ct.map itemD):=Paired.imp' (fun _ _ z=>(says_ok (fun b _ e=>fun h=>e (by rw [h]; exact hl)) z).same s1) hz
 dsimp only [gName]
 generalize upd H l (.lst []) = H1 at s1 g1 z1 |-
 refine ⟨_,rfl,li,rfl,⟨_,SqL.of (s1 _ _ hli)⟩,for_list (K:=K) (a:=li) (xs:=zs) (fun i σ H'=>∃ (ks:List V) (kt:List Item) (v4 v5 v6:Option V),σ = [some (.ref la),some (.ref lb),some (.ref li),some (.ref l),v4,v5,v6]/\Same H H'/\H' l = some (.lst ks)/\Paired (Says K (fun b=>b ≠ l) H' 3) zs (ct.map itemD)/\Paired (Says K (fun b=>b ≠ l) H' 3) ks (kt.map itemD)/\kt.length<=i/\(laidT kt).length<=(laidT (ct.take i)).length/\(laidP kt).length<=(laidP (ct.take i)).length)
  ⟨[],[],_,_,_,rfl,s1,g1,z1,.nil,Nat.le_refl _,Nat.le_refl _,Nat.le_refl _⟩ (fun i σ H' _ ⟨_,_,_,_,_,_,sH,_⟩=>SqL.of (sH _ _ hli)) ?_ ?_⟩
 ·rintro i x σ H2 hx ⟨ks,kt,v4,v5,v6,rfl,s2,e2,z2,k2,lk,lkt,lkp⟩
  obtain ⟨d,hd,hxs⟩:=Paired.get z2 hx
  obtain ⟨it,hit,rfl⟩:=item_get hd
  have eT:=congrArg List.length (laidT_snoc ct i it hit)
  have eP:=congrArg List.length (laidP_snoc ct i it hit)
  rw [List.length_append] at eT eP
  have bT:=laidT_le ct (i + 1)
  have bP:=laidP_le ct (i + 1)
  have lT2:=congrArg List.length (laidT_app kt it)
  have lP2:=congrArg List.length (laidP_app kt it)
  rw [List.length_append] at lT2 lP2
  have hi:i < ct.length:=(List.getElem?_eq_some_iff.mp hit).1
  have lks:ks.length = kt.length:=by rw [k2.length,List.length_map]
  refine ⟨_,rfl,_,rfl,zz1,fun l3 hl3=>?_⟩
  have s3:=same_new hl3 (.lst [x])
  refine ⟨l,l3,_,_,rfl,rfl,s3 _ _ e2,upd_same,le1000 (by show ks.length + 1<=1000; omega),fun l4 hl4=>?_⟩
  have s4:=s3.trans (same_new hl4 (.lst (ks ++ [x])))
  have g4:upd (upd H2 l3 (.lst [x])) l4 (.lst (ks ++ [x])) l4 = some (.lst (ks ++ [x])):=upd_same
  generalize upd (upd H2 l3 (.lst [x])) l4 (.lst (ks ++ [x])) = H4 at s4 g4 |-
  have c4:Paired (Says K T' H4 3) (ks ++ [x]) ((kt ++ [it]).map itemD):=by
   rw [List.map_append]
   exact paired_app (Paired.imp' (fun _ _ z=>(says_ok (fun _ _ _=>True.intro) z).same s4) k2) (.cons ((says_ok (fun _ _ _=>True.intro) hxs).same s4) .nil)
  refine ⟨l4,kt ++ [it],_,rfl,SqL.of g4,c4,by omega,by omega,fun p H5 s5 two=>?_⟩
  obtain ⟨l1,l2,ys,n1,n2,n12,np,ep,e1,e2',gp⟩:=two
  refine ⟨p,_,rfl,SqT.of ep,rfl,_,_,rfl,_,_,rfl,rfl,?_⟩
  have s25:=s4.trans s5
  have s05:=s2.trans s25
  refine ⟨_,rfl,_,rfl,_,rfl,_,rfl,la,lb,l1,l2,us,rows,bars,_,ys,_,rfl,s05 _ _ hla,tats_same s05 hu,V1,s05 _ _ hlb,e1,e2',gp,by omega,fun b H6 s6=>?_⟩
  refine ⟨_,rfl,?_⟩
  have s26:=s25.trans s6
  have e6:=s26 _ _ e2
  have z6:Paired (Says K (fun b=>b ≠ l) H6 3) zs (ct.map itemD):=items_same s26 z2
  have k6:Paired (Says K (fun b=>b ≠ l) H6 3) ks (kt.map itemD):=items_same s26 k2
  refine ite2 (fun _=>?_) (fun _=>?_)
  ·refine ⟨_,rfl,.inl ⟨rfl,_,SqL.of e6⟩,_,rfl,l,_,_,rfl,rfl,e6,small1000 (by omega),?_⟩
   refine ⟨ks ++ [x],kt ++ [it],_,_,_,rfl,fun b u e=>by rw [upd_ne (ne_of_none e hl)]; exact (s2.trans s26) _ _ e,upd_same,Paired.imp' (fun _ _ z=>says_grow e6 (fun b o=>⟨o,o⟩) z) z6,?_,?_,by omega,by omega⟩
   ·rw [List.map_append]
    exact paired_app (Paired.imp' (fun _ _ z=>says_grow e6 (fun b o=>⟨o,o⟩) z) k6) (.cons (says_grow e6 (fun b o=>⟨o,o⟩) (hxs.same s26)) .nil)
   ·rw [List.length_append]
    exact Nat.succ_le_succ lk
  ·exact ⟨ks,kt,_,_,_,rfl,s2.trans s26,e6,z6,k6,Nat.le_succ_of_le lk,by omega,by omega⟩
 ·rintro σ H2 ⟨ks,kt,v4,v5,v6,rfl,s2,e2,z2,k2,lk,lkt,lkp⟩
  have lz:zs.length = ct.length:=by rw [hz.length,List.length_map]
  have b1:=laidT_le ct zs.length
  have b2:=laidP_le ct zs.length
  exact ⟨_,rfl,q l ks kt H2 s2 hl e2 (Paired.imp' (fun _ _ z=>says_ok (fun _ _ _=>True.intro) z) k2) (by omega) (by omega) (by omega)⟩
end
def DueAt (H:Hp) (v:V):Option (Str × Nat)->Prop
 | none=>v = .non
 | some m=>∃ u,v = .ref u/\H u = some (.tup [.str m.1,.int (m.2:Nat)])
theorem DueAt.same {H H':Hp} {v:V} {o:Option (Str × Nat)} (h:DueAt H v o) (s:Same H H'):DueAt H' v o:=by
 cases o with
 | none=>exact h
 | some m=>obtain ⟨u,e,h⟩:=h; exact ⟨u,e,s _ _ h⟩
def spFW (K:Frag):Sp:=fun vs H Q _=>∃ (la lb li:Addr) (us:List Addr) (rows:List Rw) (bars:List Str) (zs:List V) (ct:List Item),vs = [.ref la,.ref lb,.ref li]/\H la = some (.lst (us.map V.ref))/\Paired (TAt H) us rows/\VR rows/\H lb = some (.lst (bars.map V.str))/\H li = some (.lst zs)/\Paired (Says K T' H 3) zs (ct.map itemD)/\(laidT ct).length<=800/\(laidP ct).length<=800/\
 ∀ (v:V) (H':Hp),Same H H'->DueAt H' v (nlF (missC rows bars ct))->Q v H'
section
variable {P:Program} {w:World} {K:Frag} {mg:Str->Option Value} {base:Heap} {f:Addr} {fd:FuncData}
theorem scFW:FnScope ["_law_row_here","_law_bars_here","_law_items_here","_law_things","_law_pairs","_law_names","_law_places","_law_j","_law_gone","_law_known"] ["_law_row_here","_law_bars_here","_law_items_here"] (defScope sFW):=⟨rfl,rfl,rfl,by decide +kernel,rfl,by decide +kernel,by decide +kernel⟩
theorem ok_fw {g1:Addr} {d1:FuncData} (F:Fun K "_law_first_wrong" "_law_first_wrong" sFW f fd) (U:TxtL mg) (cL:Callee P w K mg base 1 "_law_laid" g1 d1 ["_law_items_here"] (spLaid K)):FnOk P w K mg base CX0 2 f fd ["_law_row_here","_law_bars_here","_law_items_here"] (spFW K):=by
 refine F.ok scFW (fun vs H Q E h=>?_) (fun cdv A outer s H vs Q E hr h=>?_)
 ·obtain ⟨la,lb,li,us,rows,bars,zs,ct,rfl,_⟩:=h
  rfl
 obtain ⟨la,lb,li,us,rows,bars,zs,ct,rfl,hla,hu,V1,hlb,hli,hz,lt,lp,q⟩:=h
 refine ⟨_,pss_cons (ps_asg (cF cL hr (ac (pv 2) pa_nil)) (pg_tup rfl (pgs_cons (pg_name (i:=3) scFW.nd rfl (Or.inl rfl)) (pgs_cons (pg_name (i:=4) scFW.nd rfl (Or.inl rfl)) pgs_nil))))
  (pss_cons (ps_lc (i:=5) [] ["_law_name","_law_thing"] [none,none] scFW.nd rfl (Or.inl rfl) rfl ⟨rfl,rfl,rfl,rfl⟩ (pi_list (pv 4)) (gown_tup2 (K:=K) (n:=2) 0 1) rfl rfl rfl
   (fun pins fp s H C=>⟨pg_tup rfl (pgs_cons (pg_name (i:=0) ndNmT rfl (Or.inl rfl) (.inr rfl)) (pgs_cons (pg_name (i:=1) ndNmT rfl (Or.inl rfl) (.inr rfl)) pgs_nil)),pif_nil,pv 0⟩))
  (pss_cons (ps_lc (i:=6) [] ["_law_one"] [none] scFW.nd rfl (Or.inl rfl) rfl ⟨rfl,rfl,rfl,rfl⟩ (pi_list (pv 0)) (gown_name 0) rfl rfl rfl
   (fun pins fp s H C=>⟨pg_name (i:=0) ndOne rfl (Or.inl rfl) (.inr rfl),pif_one (pt_cmpR (r:=rIn K false) op_in_seq (pe_ix (r:=rIxT K) ix_tup (pv 0) pe_int (fun _ _=>rfl)) (pe_lst (ac pe_str (ac pe_str pa_nil))) (by with_unfolding_all rfl)),pv 0⟩))
  (pss_cons (ps_for PassesOwn.never rfl (pi_range1 rfl U.range (ac (cB call_len_seq U.len PySem.boot_len (ac (pv 5) pa_nil)) pa_nil)) (pg_name (i:=7) scFW.nd rfl (Or.inl rfl))
   (pss_one (ps_if (pt_cmpR op_in_seq (pe_ix ix_list (pv 5) (pv 7) (fun _ _=>rfl)) (pe_slice sl_list (pv 5) po_none (po_some (pv 7))) (by with_unfolding_all rfl)) (pss_one (ps_ret (pe_tup (ac pe_str (ac (pv 7) pa_nil))))) pss_nil)))
  (pss_cons (ps_if (PW.pt (pw_and (pt_cmpR op_gt (cB call_len_seq U.len PySem.boot_len (ac (pv 3) pa_nil)) (cB call_len_seq U.len PySem.boot_len (ac (pv 6) pa_nil)) (nomark _)) (pw_and1 (pt_cmpR op_notIn_seq pe_str (pe_lc [] ["_law_one"] [none] rfl ⟨rfl,rfl,rfl,rfl⟩ (pi_list (pv 0)) (gown_name 0) rfl rfl rfl
   (fun pins fp s H C=>⟨pg_name (i:=0) ndOne rfl (Or.inl rfl) (.inr rfl),pif_nil,pe_ix (r:=rIxT K) ix_tup (pv 0) pe_int (fun _ _=>rfl)⟩)) (by with_unfolding_all rfl))))) (pss_one (ps_ret (pe_tup (ac pe_str (ac (cB call_len_seq U.len PySem.boot_len (ac (pv 6) pa_nil)) pa_nil))))) pss_nil)
  (pss_cons (ps_lc (i:=8) [] ["_law_one"] [none] scFW.nd rfl (Or.inl rfl) rfl ⟨rfl,rfl,rfl,rfl⟩ (pi_list (pe_slice sl_list (pv 6) po_none (po_some (cB call_len_seq U.len PySem.boot_len (ac (pv 3) pa_nil))))) (gown_name 0) rfl rfl rfl
   (fun pins fp s H C=>⟨pg_name (i:=0) ndOne rfl (Or.inl rfl) (.inr rfl),pif_one (pt_cmpR op_eq (pe_ix (r:=rIxT K) ix_tup (pv 0) pe_int (fun _ _=>rfl)) pe_str (nomark _)),pe_ix (r:=rIxT K) ix_tup (pv 0) pe_int (fun _ _=>rfl)⟩))
  (pss_cons (ps_lc (i:=9) [] ["_law_one"] [none] scFW.nd rfl (Or.inl rfl) rfl ⟨rfl,rfl,rfl,rfl⟩ (pi_list (pv 0)) (gown_name 0) rfl rfl rfl
   (fun pins fp s H C=>⟨pg_name (i:=0) ndOne rfl (Or.inl rfl) (.inr rfl),pif_one (pt_cmpR (r:=rIn K false) op_in_seq (pe_ix (r:=rIxT K) ix_tup (pv 0) pe_int (fun _ _=>rfl)) (pe_lst (ac pe_str (ac pe_str pa_nil))) (by with_unfolding_all rfl)),pe_ix (r:=rIxT K) ix_tup (pv 0) pe_int (fun _ _=>rfl)⟩))
  (pss_cons (ps_for PassesOwn.never rfl (pi_range1 rfl U.range (ac (cB call_len_seq U.len PySem.boot_len (ac (pv 5) pa_nil)) pa_nil)) (pg_name (i:=7) scFW.nd rfl (Or.inl rfl))
   (pss_cons (ps_if (pt_cmpR op_in_seq (pe_ix ix_list (pv 5) (pv 7) (fun _ _=>rfl)) (pv 1) (by with_unfolding_all rfl)) (pss_one (ps_ret (pe_tup (ac pe_str (ac (pv 7) pa_nil))))) pss_nil)
   (pss_cons (ps_if (pt_cmpR op_in_seq (pe_ix ix_list (pv 5) (pv 7) (fun _ _=>rfl)) (pv 8) (by with_unfolding_all rfl)) (pss_one (ps_ret (pe_tup (ac pe_str (ac (pv 7) pa_nil))))) pss_nil)
   (pss_one (ps_if (PW.pt (pw_and (pt_cmpR op_notIn_seq (pe_ix ix_list (pv 5) (pv 7) (fun _ _=>rfl)) (pv 9) (by with_unfolding_all rfl)) (pw_and1 (pt_cmpR op_notIn_seq pe_str (pe_lc [] ["_law_one"] [none] rfl ⟨rfl,rfl,rfl,rfl⟩ (pi_list (pv 0)) (gown_name 0) rfl rfl rfl
    (fun pins fp s H C=>⟨pg_name (i:=0) ndOne rfl (Or.inl rfl) (.inr rfl),pif_nil,pe_ix (r:=rIxT K) ix_tup (pv 0) pe_int (fun _ _=>rfl)⟩)) (by with_unfolding_all rfl))))) (pss_one (ps_ret (pe_tup (ac pe_str (ac (pv 7) pa_nil))))) pss_nil)))))
  (pss_one (ps_ret pe_non))))))))),?_⟩
 have l24:=V1.l24
 refine ⟨_,rfl,li,ct,zs,rfl,SqL.of hli,hz,by omega,by omega,fun p H1 s1 two=>?_⟩
 obtain ⟨l1,l2,ys,n1,n2,n12,np,ep,e1,e2,gp⟩:=two
 refine ⟨p,_,rfl,SqT.of ep,rfl,_,_,rfl,_,_,rfl,rfl,?_⟩
 refine ⟨_,rfl,l2,rfl,⟨_,SqL.of e2⟩,fun D2 hD2=>?_⟩
 refine lc_nmsP (SqL.of e2) gp (by omega) hD2 (fun H2 s2 h2=>?_)
 have h2:H2 D2 = some (.lst ((namesOf ct).map V.str)):=h2
 have s12:=s1.trans s2
 refine ⟨_,rfl,la,rfl,⟨_,SqL.of (s12 _ _ hla)⟩,fun D3 hD3=>?_⟩
 refine lc_places (s12 _ _ hla) (tats_same s12 hu) V1 hD3 (fun H3 vs s3 h3 p3=>?_)
 have s13:=s12.trans s3
 have h2:=s3 _ _ h2
 have e1:=(s2.trans s3) _ _ e1
 have lnm:(namesOf ct).length = (laidP ct).length:=by unfold namesOf; rw [List.length_map]
 have emc:missC rows bars ct = missF rows bars (laidT ct).length (namesOf ct):=rfl
 rw [emc] at q
 generalize namesOf ct = ns at h2 lnm q
 have lvs:vs.length = plN rows:=by rw [p3.length]; rfl
 generalize laidT ct = ts at e1 lt q
 clear emc e2 gp hD2 hD3 n1 n2 n12 np ep
 have lmap:(((ns.map V.str).length:Nat):Int).toNat = ns.length:=by rw [List.length_map]; omega
 dsimp only [gName]
 refine seq_via (fun σ' H'=>∃ v7,σ' = [some (.ref la),some (.ref lb),some (.ref li),some (.ref l1),some (.ref l2),some (.ref D2),some (.ref D3),v7,none,none]/\Same H3 H'/\NoDup ns) ?_ (fun key=>?_)
 rotate_left
 ·refine ⟨_,rfl,D2,_,rfl,.inl (SqL.of h2),((ns.map V.str).length:Nat),rfl,by omega,(by rw [List.length_map]; omega),?_⟩
  rw [lmap]
  refine for_range (n:=ns.length) (fun j σ H'=>∃ v7,σ = [some (.ref la),some (.ref lb),some (.ref li),some (.ref l1),some (.ref l2),some (.ref D2),some (.ref D3),v7,none,none]/\Same H3 H'/\∀ j',j' < j->∀ y,ns[j']? = some y->y ∉ ns.take j') ⟨_,rfl,Same.refl _,fun j' h=>absurd h (by omega)⟩ ?_ ?_
  ·rintro j σ H4 hj ⟨v7,rfl,s4,hn⟩
   have hz:ns[j]? = some ns[j]:=List.getElem?_eq_getElem hj
   have h4:=s4 _ _ h2
   rw [Int.zero_add]
   generalize ns[j] = z at hz
   refine ⟨_,rfl,_,rfl,D2,_,_,.str z,rfl,rfl,SqL.of h4,atI_nat (by rw [List.getElem?_map,hz]; rfl),_,rfl,_,rfl,_,rfl,D2,_,rfl,SqL.of h4,fun l5 hl5=>?_⟩
   rw [cut_takeN,<- List.map_take]
   have s5:=same_new hl5 (.lst ((ns.take j).map V.str))
   have g5:upd H4 l5 (.lst ((ns.take j).map V.str)) l5 = some (.lst ((ns.take j).map V.str)):=upd_same
   generalize upd H4 l5 (.lst ((ns.take j).map V.str)) = H5 at s5 g5 |-
   refine ⟨l5,_,rfl,.inl (SqL.of g5),rfl,flatStrs,_,rfl,?_⟩
   have s45:=s4.trans s5
   by_cases hm:z ∈ ns.take j
   ·refine iteB (by rw [if_neg Bool.false_ne_true,inStrs,decide_eq_true hm]) ?_
    refine ⟨_,rfl,zz2,fun u hu=>?_⟩
    refine q _ _ (s13.trans (s45.trans (same_new hu _))) ?_
    rw [fw_dbl hn hz hm]
    exact ⟨u,rfl,upd_same⟩
   ·refine iteC (by rw [if_neg Bool.false_ne_true,inStrs,decide_eq_false hm]) ?_
    refine ⟨_,rfl,s45,fun j' hj' y hy=>?_⟩
    by_cases e:j' = j
    ·subst e
     rw [hz] at hy
     cases hy
     exact hm
    ·exact hn j' (by omega) y hy
  ·rintro σ H4 ⟨v7,rfl,s4,hn⟩
   exact key _ _ ⟨_,rfl,s4,fun j y hy=>hn j (List.getElem?_eq_some_iff.mp hy).1 y hy⟩
 rintro σ4 H4 ⟨v7,rfl,s4,nd⟩
 have s14:=s13.trans s4
 have h2:=s4 _ _ h2
 have h3:=s4 _ _ h3
 have e1:=s4 _ _ e1
 have p4:=tats_same s4 p3
 have tl:decide (("tail" : Str) ∈ sortsL rows) = (firstK 2 0 rows).isSome:=sorts_in V1.ok (kk:=2) (by decide)
 have bg:decide (("bag" : Str) ∈ sortsL rows) = (firstK 4 0 rows).isSome:=sorts_in V1.ok (kk:=4) (by decide)
 refine seq_via (fun σ' H'=>σ' = [some (.ref la),some (.ref lb),some (.ref li),some (.ref l1),some (.ref l2),some (.ref D2),some (.ref D3),v7,none,none]/\Same H4 H'/\(ts.length<=plN rows\/(firstK 2 0 rows).isSome = true)) ?_ (fun key=>?_)
 rotate_left
 ·refine ⟨_,rfl,l1,_,rfl,.inl (SqL.of e1),_,rfl,D3,_,rfl,.inl (SqL.of h3),_,_,rfl,rfl,_,rfl,?_⟩
  by_cases c1:plN rows < ts.length
  ·refine dT (by rw [List.length_map,List.length_map]; show ((vs.length:Nat):Int) < (ts.length:Nat); omega) ?_
   refine ⟨_,rfl,la,rfl,⟨_,SqL.of (s14 _ _ hla)⟩,fun D hD=>?_⟩
   refine lc_sorts (s14 _ _ hla) (tats_same s14 hu) V1 hD (fun H5 s5 e5=>?_)
   refine ⟨D,_,rfl,.inl (SqL.of e5),rfl,flatStrs,_,rfl,?_⟩
   cases ht:(firstK 2 0 rows).isSome with
   | true=>
    refine iteC (by rw [if_pos rfl,inStrs,tl,ht]; rfl) ?_
    exact key _ _ ⟨rfl,s5,.inr ht⟩
   | false=>
    refine iteB (by rw [if_pos rfl,inStrs,tl,ht]; rfl) ?_
    refine ⟨_,rfl,D3,_,rfl,.inl (SqL.of (s5 _ _ h3)),zz2,fun u hu=>?_⟩
    refine q _ _ (s14.trans (s5.trans (same_new hu _))) ?_
    rw [fw_over nd c1 ht]
    exact ⟨u,rfl,by rw [upd_same,List.length_map,lvs]⟩
  ·refine dF (by rw [List.length_map,List.length_map]; show ¬ ((vs.length:Nat):Int) < (ts.length:Nat); omega) ?_
   refine iteF ?_
   exact key _ _ ⟨rfl,Same.refl _,.inl (by omega)⟩
 rintro σ5 H5 ⟨rfl,s5,ho⟩
 have s15:=s14.trans s5
 have h2:=s5 _ _ h2
 have h3:=s5 _ _ h3
 have e1:=s5 _ _ e1
 have p5:=tats_same s5 p4
 refine ⟨_,rfl,_,rfl,l1,_,rfl,.inl (SqL.of e1),_,rfl,D3,_,rfl,SqL.of h3,fun l6 hl6=>?_⟩
 rw [cut_takeN,<- List.map_take,List.length_map]
 have s6:=same_new hl6 (.lst ((vs.take ts.length).map V.ref))
 have g6:upd H5 l6 (.lst ((vs.take ts.length).map V.ref)) l6 = some (.lst ((vs.take ts.length).map V.ref)):=upd_same
 have p6:=pairedTake (tats_same s6 p5) ts.length
 generalize upd H5 l6 (.lst ((vs.take ts.length).map V.ref)) = H6 at s6 g6 p6 |-
 refine ⟨l6,rfl,⟨_,SqL.of g6⟩,fun D6 hD6=>?_⟩
 have okp:∀ r ∈ (rows.filter fun r=>byPl r.k).take ts.length,r.ok:=fun r hr=>V1.ok r (List.mem_filter.mp (List.mem_of_mem_take hr)).1
 have lenp:((rows.filter fun r=>byPl r.k).take ts.length).length<=500:=by
  have h1:=List.length_filter_le (fun r=>byPl r.k) rows
  rw [List.length_take]
  omega
 refine lc_gone g6 p6 okp lenp hD6 (fun H7 s7 e7=>?_)
 have e7:H7 D6 = some (.lst ((goneN rows ts.length).map V.str)):=e7
 have s17:=s15.trans (s6.trans s7)
 refine ⟨_,rfl,la,rfl,⟨_,SqL.of (s17 _ _ hla)⟩,fun D7 hD7=>?_⟩
 refine lc_known (s17 _ _ hla) (tats_same s17 hu) V1 hD7 (fun H8 s8 e8=>?_)
 have s18:=s17.trans s8
 have e7:=s8 _ _ e7
 have h2:=(s6.trans (s7.trans s8)) _ _ h2
 refine ⟨_,rfl,D2,_,rfl,.inl (SqL.of h2),((ns.map V.str).length:Nat),rfl,by omega,(by rw [List.length_map]; omega),?_⟩
 rw [lmap]
 refine for_range (n:=ns.length) (fun j σ H'=>∃ v7,σ = [some (.ref la),some (.ref lb),some (.ref li),some (.ref l1),some (.ref l2),some (.ref D2),some (.ref D3),v7,some (.ref D6),some (.ref D7)]/\Same H8 H'/\∀ j',j' < j->∀ y,ns[j']? = some y->unwW rows bars ts.length y = none) ⟨_,rfl,Same.refl _,fun j' h=>absurd h (by omega)⟩ ?_ ?_
 ·rintro j σ H9 hj ⟨v7,rfl,s9,hn⟩
  have hz:ns[j]? = some ns[j]:=List.getElem?_eq_getElem hj
  have h9:=s9 _ _ h2
  have s19:=s18.trans s9
  rw [Int.zero_add]
  generalize ns[j] = z at hz
  have hat:atI (ns.map V.str) ((j:Nat):Int) = some (.str z):=atI_nat (by rw [List.getElem?_map,hz]; rfl)
  have nxt:∀ {H':Hp},Same H8 H'->unwW rows bars ts.length z = none->∃ v7:Option V,([some (.ref la),some (.ref lb),some (.ref li),some (.ref l1),some (.ref l2),some (.ref D2),some (.ref D3),some (.int (j:Nat)),some (.ref D6),some (.ref D7)]:L2.St) = [some (.ref la),some (.ref lb),some (.ref li),some (.ref l1),some (.ref l2),some (.ref D2),some (.ref D3),v7,some (.ref D6),some (.ref D7)]/\Same H8 H'/\∀ j',j' < j + 1->∀ y,ns[j']? = some y->unwW rows bars ts.length y = none:=fun {H'} sH hw=>⟨_,rfl,sH,fun j' hj' y hy=>by
   by_cases e:j' = j
   ·subst e
    rw [hz] at hy
    cases hy
    exact hw
   ·exact hn j' (by omega) y hy⟩
  refine ⟨_,rfl,_,rfl,D2,_,_,.str z,rfl,rfl,SqL.of h9,hat,_,rfl,lb,_,rfl,.inl (SqL.of (s19 _ _ hlb)),rfl,flatStrs,_,rfl,?_⟩
  by_cases hb:z ∈ bars
  ·refine iteB (by rw [if_neg Bool.false_ne_true,inStrs,decide_eq_true hb]) ?_
   refine ⟨_,rfl,zz2,fun u hu=>?_⟩
   refine q _ _ (s19.trans (same_new hu _)) ?_
   rw [fw_unw nd ho hn hz (unw_bar hb) (by decide +kernel)]
   exact ⟨u,rfl,upd_same⟩
  refine iteC (by rw [if_neg Bool.false_ne_true,inStrs,decide_eq_false hb]) ?_
  refine ⟨_,rfl,_,rfl,D2,_,_,.str z,rfl,rfl,SqL.of h9,hat,_,rfl,D6,_,rfl,.inl (SqL.of (s9 _ _ e7)),rfl,flatStrs,_,rfl,?_⟩
  by_cases hg:z ∈ goneN rows ts.length
  ·refine iteB (by rw [if_neg Bool.false_ne_true,inStrs,decide_eq_true hg]) ?_
   refine ⟨_,rfl,zz2,fun u hu=>?_⟩
   refine q _ _ (s19.trans (same_new hu _)) ?_
   rw [fw_unw nd ho hn hz (unw_gone V1 hb hg) (by decide +kernel)]
   exact ⟨u,rfl,upd_same⟩
  refine iteC (by rw [if_neg Bool.false_ne_true,inStrs,decide_eq_false hg]) ?_
  refine ⟨_,rfl,_,rfl,D2,_,_,.str z,rfl,rfl,SqL.of h9,hat,_,rfl,D7,_,rfl,.inl (SqL.of (s9 _ _ e8)),rfl,flatStrs,_,rfl,?_⟩
  by_cases hk:z ∈ nms rows
  ·refine iteC (by rw [if_pos rfl,inStrs,decide_eq_true hk]; rfl) ?_
   refine iteF ?_
   exact nxt s9 (unw_ok V1 hb hg hk)
  refine iteB (by rw [if_pos rfl,inStrs,decide_eq_false hk]; rfl) ?_
  refine ⟨_,rfl,la,rfl,⟨_,SqL.of (s19 _ _ hla)⟩,fun D hD=>?_⟩
  refine lc_sorts (s19 _ _ hla) (tats_same s19 hu) V1 hD (fun H10 s10 e10=>?_)
  refine ⟨D,_,rfl,.inl (SqL.of e10),rfl,flatStrs,_,rfl,?_⟩
  have hw:=unw_no (many:=ts.length) hb hk
  cases ht:(firstK 4 0 rows).isSome with
  | true=>
   refine iteC (by rw [if_pos rfl,inStrs,bg,ht]; rfl) ?_
   exact nxt (s9.trans s10) (by rw [hw,ht,if_pos rfl])
  | false=>
   refine iteB (by rw [if_pos rfl,inStrs,bg,ht]; rfl) ?_
   refine ⟨_,rfl,zz2,fun u hu=>?_⟩
   refine q _ _ (s19.trans (s10.trans (same_new hu _))) ?_
   rw [ht,if_neg Bool.false_ne_true] at hw
   rw [fw_unw nd ho hn hz hw (by decide +kernel)]
   exact ⟨u,rfl,upd_same⟩
 ·rintro σ H9 ⟨v7,rfl,s9,hn⟩
  refine q _ _ (s18.trans s9) ?_
  rw [fw_none nd ho fun z hz=>by
   obtain ⟨j,hj⟩:=List.mem_iff_getElem?.mp hz
   exact hn j (List.getElem?_eq_some_iff.mp hj).1 z hj]
  rfl
end
def spItems (K:Frag):Sp:=fun vs H Q _=>∃ (a pa:Addr) (cs:List Int) (zs:List Str),vs = [.ref a,.ref pa]/\SqL K H a (cs.map V.int)/\cs.length<=12/\H pa = some (.lst (zs.map V.str))/\0 < zs.length/\zs.length<=28/\
 ∀ (l:Addr) (vs:List V) (ct:List Item) (H':Hp),Same H H'->H l = none->H' l = some (.lst vs)->Paired (Says K T' H' 3) vs (ct.map itemD)->ct.length<=12->(laidT ct).length<=36->(laidP ct).length<=36->Q (.ref l) H'
structure IW (K:Frag) (H0 H':Hp) (l:Addr) (vs:List V) (ct:List Item) (i:Nat):Prop where
 sm:Same H0 H'
 hl:H' l = some (.lst vs)
 hv:Paired (Says K (fun b=>b ≠ l) H' 3) vs (ct.map itemD)
 nl:H0 l = none
 lc:ct.length = i
 lt:(laidT ct).length<=3 * i
 lp:(laidP ct).length<=3 * i
section
variable {K:Frag} {H0 H' H'':Hp} {l:Addr} {vs:List V} {ct:List Item} {i:Nat}
theorem IW.same (h:IW K H0 H' l vs ct i) (s:Same H' H''):IW K H0 H'' l vs ct i:=⟨h.sm.trans s,s _ _ h.hl,items_same s h.hv,h.nl,h.lc,h.lt,h.lp⟩
theorem IW.push {x:V} {it:Item} (h:IW K H0 H' l vs ct i) (hx:Says K (fun b=>b ≠ l) H' 3 x (itemD it)) (h1:(itT it).length<=3) (h2:(itP it).length<=3):IW K H0 (upd H' l (.lst (vs ++ [x]))) l (vs ++ [x]) (ct ++ [it]) (i + 1):=by
 have lt:=h.lt
 have lp:=h.lp
 have lc:=h.lc
 refine ⟨fun b u e=>by rw [upd_ne (ne_of_none e h.nl)]; exact h.sm _ _ e,upd_same,?_,h.nl,by rw [List.length_append,List.length_singleton]; omega,by rw [laidT_app,List.length_append]; omega,by rw [laidP_app,List.length_append]; omega⟩
 rw [List.map_append]
 exact Paired.snoc (Paired.imp' (fun _ _ z=>says_grow h.hl (fun b o=>⟨o,o⟩) z) h.hv) (says_grow h.hl (fun b o=>⟨o,o⟩) hx)
end
section
variable {P:Program} {w:World} {K:Frag} {mg:Str->Option Value} {base:Heap} {f:Addr} {fd:FuncData}
theorem ndIt:([Str.ofString "_law_j",Str.ofString "_law_number_here",Str.ofString "_law_pool_here"]:List Str).Nodup:=by decide +kernel
theorem scItems:FnScope ["_law_cells","_law_pool_here","_law_items_here","_law_k","_law_cell","_law_number_here","_law_thing","_law_names","_law_pairs"] ["_law_cells","_law_pool_here"] (defScope sItems):=⟨rfl,rfl,rfl,by decide +kernel,rfl,by decide +kernel,by decide +kernel⟩
theorem ok_items {g1 g2:Addr} {d1 d2:FuncData} (F:Fun K "_law_items" "_law_items" sItems f fd) (U:TxtL mg) (cS:Callee P w K mg base 1 "_law_stirred" g1 d1 ["_law_cell","_law_k"] spStir) (cN:Callee P w K mg base 1 "_law_number" g2 d2 ["_law_number_here"] spNumb):FnOk P w K mg base CX0 2 f fd ["_law_cells","_law_pool_here"] (spItems K):=by
 refine F.ok scItems (fun vs H Q E h=>?_) (fun cdv A outer s H vs Q E hr h=>?_)
 ·obtain ⟨a,pa,cs,zs,rfl,_⟩:=h
  rfl
 obtain ⟨a,pa,cs,zs,rfl,hS,l12,hpa,z0,z28,q⟩:=h
 refine ⟨_,pss_cons (ps_set (i:=2) scItems.nd rfl (Or.inl rfl) (pe_lst pa_nil))
   (pss_cons (ps_for PassesOwn.never rfl (pi_enum rfl U.en (ac (pv 0) pa_nil)) (pg_tup rfl (pgs_cons (pg_name (i:=3) scItems.nd rfl (Or.inl rfl)) (pgs_cons (pg_name (i:=4) scItems.nd rfl (Or.inl rfl)) pgs_nil)))
    (pss_cons (ps_set (i:=5) scItems.nd rfl (Or.inr rfl) (cF cS hr (ac (pv 4) (ac (pe_op op_add (pv 3) pe_int) pa_nil))))
    (pss_cons (ps_set (i:=6) scItems.nd rfl (Or.inl rfl) (cF cN hr (ac (pe_op op_fdiv (pv 5) pe_int) pa_nil)))
    (pss_cons (ps_lc (i:=7) ["_law_pool_here","_law_number_here"] ["_law_j","_law_number_here","_law_pool_here"] [none,some 5,some 1] scItems.nd rfl (Or.inl rfl) rfl ⟨rfl,rfl,rfl,rfl⟩ (pi_range1 rfl U.range (ac pe_int pa_nil)) (gown_name 0) rfl rfl rfl
     (fun pins fp s H C=>⟨pg_name (i:=0) ndIt rfl (Or.inl rfl) (.inr rfl),pif_nil,pe_ix (r:=rIxL K) ix_list (pv 2) (pe_op op_mod (pe_op op_add (pe_op op_fdiv (pv 1) pe_int) (pe_op op_mul pe_int (pv 0))) (cB (r:=fun xs H Q=>∃ p ys,xs = [.ref p]/\(SqL K H p ys\/SqT K H p ys)/\Q (.int ys.length) H) call_len_seq U.len PySem.boot_len (ac (pv 2) pa_nil))) (fun _ _=>rfl)⟩))
    (pss_cons (ps_set (i:=8) scItems.nd rfl (Or.inl rfl) (pe_lst (ac (pe_tup (ac (pe_ix ix_list (pv 7) pe_int (fun _ _=>rfl)) (ac (pv 6) pa_nil))) (ac (pe_tup (ac (pe_ix ix_list (pv 7) pe_int (fun _ _=>rfl)) (ac pe_int pa_nil))) (ac (pe_tup (ac (pe_ix ix_list (pv 7) pe_int (fun _ _=>rfl)) (ac (pe_un un_neg pe_int) pa_nil))) pa_nil)))))
    (pss_one (ps_if (pt_cmpR op_lt (pe_op op_mod (pv 5) pe_int) pe_int (nomark _)) (pss_one (ps_expr (pe_bm PySem.F.plainAttrs_list PySem.F.slot_list_append PySem.F.type_list_append mt_append (pv 2) (ac (pe_tup (ac pe_str (ac (pv 6) pa_nil))) pa_nil))))
     (pss_one (ps_if (pt_cmpR op_eq (pe_op op_mod (pv 5) pe_int) pe_int (nomark _)) (pss_one (ps_expr (pe_bm PySem.F.plainAttrs_list PySem.F.slot_list_append PySem.F.type_list_append mt_append (pv 2) (ac (pe_tup (ac pe_str (ac (pe_slice sl_list (pe_lst (ac (pv 6) (ac pe_int (ac pe_int pa_nil)))) po_none (po_some (pe_op op_mod (pe_op op_fdiv (pv 5) pe_int) pe_int))) pa_nil))) pa_nil))))
      (pss_one (ps_if (pt_cmpR op_lt (pe_op op_mod (pv 5) pe_int) pe_int (nomark _)) (pss_one (ps_expr (pe_bm PySem.F.plainAttrs_list PySem.F.slot_list_append PySem.F.type_list_append mt_append (pv 2) (ac (pe_tup (ac pe_str (ac (pe_ix ix_list (pv 7) pe_int (fun _ _=>rfl)) (ac (pv 6) pa_nil)))) pa_nil))))
       (pss_one (ps_expr (pe_bm PySem.F.plainAttrs_list PySem.F.slot_list_append PySem.F.type_list_append mt_append (pv 2) (ac (pe_tup (ac pe_str (ac (pe_slice sl_list (pv 8) po_none (po_some (pe_op op_mod (pe_op op_fdiv (pv 5) pe_int) pe_int))) pa_nil))) pa_nil)))))))))))))))
   (pss_one (ps_ret (pv 2)))),?_⟩
 refine ⟨zz0,fun l hl=>?_⟩
 have s1:=same_new hl (.lst [])
 have I0:IW K H (upd H l (.lst [])) l [] [] 0:=⟨s1,upd_same,.nil,hl,rfl,Nat.le_refl _,Nat.le_refl _⟩
 dsimp only [gName]
 generalize upd H l (.lst []) = H1 at s1 I0 |-
 have pick:∀ (x:Int),∃ z:Str,atI (zs.map V.str) (x % (zs.length:Int)) = some (.str z):=fun x=>by
  have d0 : 0<=x % (zs.length:Int):=Int.emod_nonneg _ (by omega)
  have d1:x % (zs.length:Int) < (zs.length:Int):=Int.emod_lt_of_pos _ (by omega)
  obtain ⟨j,hj⟩:=Int.eq_ofNat_of_zero_le d0
  have hjl:j < zs.length:=by omega
  exact ⟨zs[j],by rw [hj]; exact atI_nat (by rw [List.getElem?_map,List.getElem?_eq_getElem hjl]; rfl)⟩
 have lz:((zs.map V.str).length:Int) = (zs.length:Int):=by rw [List.length_map]
 refine ⟨_,rfl,a,rfl,⟨_,s1.seq hS⟩,for_enum (K:=K) (a:=a) (xs:=cs.map V.int) (fun i σ H'=>∃ (vs:List V) (ct:List Item) (v3 v4 v5 v6 v7 v8:Option V),σ = [some (.ref a),some (.ref pa),some (.ref l),v3,v4,v5,v6,v7,v8]/\IW K H H' l vs ct i)
  ⟨[],[],_,_,_,_,_,_,rfl,I0⟩ (fun i σ H' _ ⟨_,_,_,_,_,_,_,_,_,h⟩=>h.sm.seq hS) ?_ ?_⟩
 rotate_left
 ·rintro σ H2 ⟨vs,ct,v3,v4,v5,v6,v7,v8,rfl,I2⟩
  have h1:=I2.lc
  have h2:=I2.lt
  have h3:=I2.lp
  rw [List.length_map] at h1 h2 h3
  exact ⟨_,rfl,q l vs ct H2 I2.sm hl I2.hl (Paired.imp' (fun _ _ z=>says_ok (fun _ _ _=>True.intro) z) I2.hv) (by omega) (by omega) (by omega)⟩
 rintro i x p σ H2 hx ⟨vs,ct,v3,v4,v5,v6,v7,v8,rfl,I2⟩ hpn
 obtain ⟨n,hn,rfl⟩:=int_get hx
 have hi:i < cs.length:=(List.getElem?_eq_some_iff.mp hn).1
 have sp:=same_new hpn (.tup [.int (i:Nat),.int n])
 refine ⟨p,_,rfl,SqT.of upd_same,rfl,_,_,rfl,_,_,rfl,rfl,?_⟩
 have I3:=I2.same sp
 generalize upd H2 p (.tup [.int (i:Nat),.int n]) = H3 at sp I3 |-
 clear I2 sp hpn
 refine ⟨_,rfl,_,rfl,_,_,rfl,rfl,n,_,rfl,?_⟩
 obtain ⟨m0,m1⟩:=stirF_lt n ((i:Nat) + 31)
 generalize stirF n ((i:Nat) + 31) = mm at m0 m1 |-
 refine ⟨_,rfl,_,_,rfl,rfl,⟨by decide,by decide⟩,mm / 8,rfl,by omega,by omega,fun th=>?_⟩
 refine ⟨3,rfl,by decide,by decide,fun D hD=>?_⟩
 refine lc_range (n:=3) (fun j ys H'=>∃ ws:List Str,Same H3 H'/\H' D = some (.lst ys)/\ys = ws.map V.str/\ws.length = j) ⟨[],same_new hD _,upd_same,rfl,rfl⟩ ?_ ?_
 ·rintro j ys H' hj ⟨ws,sH,hDy,ey,lw⟩
  refine ⟨fun _=>?_,fun e=>Bool.noConfusion e⟩
  obtain ⟨z,hat⟩:=pick (mm / 8 + 7 * ((0:Int) + (j:Int)))
  have hpa':=(I3.sm.trans sH) _ _ hpa
  refine ⟨_,rfl,_,rfl,_,_,rfl,rfl,⟨by decide,by decide⟩,_,rfl,_,_,rfl,rfl,.inl ⟨by decide,by decide⟩,_,_,rfl,rfl,_,rfl,pa,_,rfl,.inl (SqL.of hpa'),_,_,rfl,rfl,(by rw [lz]; omega),pa,_,_,.str z,rfl,rfl,SqL.of hpa',(by rw [lz]; exact hat),?_⟩
  refine lcN.mk hj (by decide) hDy (by rw [ey,List.length_map]; omega) ⟨ws ++ [z],fun b' u e=>by rw [upd_ne (ne_of_none e hD)]; exact sH _ _ e,upd_same,by rw [ey,List.map_append]; rfl,by rw [List.length_append,List.length_singleton]; omega⟩
 rintro ys H4 ⟨ws,s4,hDy,ey,lw⟩
 obtain ⟨z1,z2,z3,rfl⟩:∃ z1 z2 z3,ws = [z1,z2,z3]:=by
  match ws,lw with
  | [a,b,c],_=>exact ⟨a,b,c,rfl⟩
 subst ey
 have I4:=I3.same s4
 have lvs:vs.length = ct.length:=by rw [I4.hv.length,List.length_map]
 have lct:=I4.lc
 refine ⟨_,rfl,D,_,0,.str z1,rfl,rfl,SqL.of hDy,rfl,_,rfl,zz2,fun u1 hu1=>?_⟩
 have s5:=same_new hu1 (.tup [.str z1,.int th])
 have t1:upd H4 u1 (.tup [.str z1,.int th]) u1 = some (.tup [.str z1,.int th]):=upd_same
 have I5:=I4.same s5
 have hDy:=s5 _ _ hDy
 generalize upd H4 u1 (.tup [.str z1,.int th]) = H5 at s5 t1 I5 hDy |-
 refine ⟨_,rfl,D,_,1,.str z2,rfl,rfl,SqL.of hDy,rfl,zz2,fun u2 hu2=>?_⟩
 have s6:=same_new hu2 (.tup [.str z2,.int 0])
 have t2:upd H5 u2 (.tup [.str z2,.int 0]) u2 = some (.tup [.str z2,.int 0]):=upd_same
 have I6:=I5.same s6
 have hDy:=s6 _ _ hDy
 have t1:=s6 _ _ t1
 generalize upd H5 u2 (.tup [.str z2,.int 0]) = H6 at s6 t1 t2 I6 hDy |-
 refine ⟨_,rfl,D,_,2,.str z3,rfl,rfl,SqL.of hDy,rfl,_,rfl,zz2,fun u3 hu3=>?_⟩
 have s7:=same_new hu3 (.tup [.str z3,.int (-1)])
 have t3:upd H6 u3 (.tup [.str z3,.int (-1)]) u3 = some (.tup [.str z3,.int (-1)]):=upd_same
 have I7:=I6.same s7
 have hDy:=s7 _ _ hDy
 have t1:=s7 _ _ t1
 have t2:=s7 _ _ t2
 generalize upd H6 u3 (.tup [.str z3,.int (-1)]) = H7 at s7 t1 t2 t3 I7 hDy |-
 refine ⟨zz3,fun lq hlq=>?_⟩
 have s8:=same_new hlq (.lst [.ref u1,.ref u2,.ref u3])
 have g8:upd H7 lq (.lst [.ref u1,.ref u2,.ref u3]) lq = some (.lst [.ref u1,.ref u2,.ref u3]):=upd_same
 have I8:=I7.same s8
 have hDy:=s8 _ _ hDy
 have t1:=s8 _ _ t1
 have t2:=s8 _ _ t2
 have t3:=s8 _ _ t3
 dsimp only [gName]
 generalize upd H7 lq (.lst [.ref u1,.ref u2,.ref u3]) = H8 at s8 g8 t1 t2 t3 I8 hDy |-
 clear I7 I6 I5 I4 I3
 have hp3:∀ H',Same H8 H'->Paired (Says K (fun b=>b ≠ l) H' 1) [.ref u1,.ref u2,.ref u3] (([(z1,th),(z2,0),(z3,-1)]:List (Str × Int)).map pairD):=fun H' sH=>
  .cons (.tup (SqT.of (sH _ _ t1)) (.cons .str (.cons .int .nil))) (.cons (.tup (SqT.of (sH _ _ t2)) (.cons .str (.cons .int .nil))) (.cons (.tup (SqT.of (sH _ _ t3)) (.cons .str (.cons .int .nil))) .nil))
 have fin:∀ {H':Hp} {x:V} {it:Item},IW K H H' l (vs ++ [x]) (ct ++ [it]) (i + 1)->∃ (vs:List V) (ct:List Item) (v3 v4 v5 v6 v7 v8:Option V),([some (.ref a),some (.ref pa),some (.ref l),some (.int (i:Nat)),some (.int n),some (.int mm),some (.int th),some (.ref D),some (.ref lq)]:L2.St) = [some (.ref a),some (.ref pa),some (.ref l),v3,v4,v5,v6,v7,v8]/\IW K H H' l vs ct (i + 1):=fun h=>⟨_,_,_,_,_,_,_,_,rfl,h⟩
 refine ⟨_,rfl,_,_,rfl,rfl,zp8,_,_,rfl,rfl,_,rfl,?_⟩
 refine ite2 (fun _=>?_) (fun _=>?_)
 ·refine ⟨_,rfl,.inl ⟨rfl,_,SqL.of I8.hl⟩,_,rfl,zz2,fun u hu=>?_⟩
  have s9:=same_new hu (.tup [.str "one",.int th])
  have I9:=I8.same s9
  refine ⟨l,_,_,rfl,rfl,I9.hl,small1000 (by omega),?_⟩
  exact fin (I9.push (it:=.one th) (.tup (SqT.of upd_same) (.cons .str (.cons .int .nil))) (by show 1<=3; decide) (by show 0<=3; decide))
 refine ⟨_,rfl,_,_,rfl,rfl,zp8,rfl,_,rfl,?_⟩
 refine ite2 (fun _=>?_) (fun _=>?_)
 ·refine ⟨_,rfl,.inl ⟨rfl,_,SqL.of I8.hl⟩,_,rfl,zz3,fun l3 hl3=>?_⟩
  have s9:=same_new hl3 (.lst [.int th,.int 0,.int 1])
  have g9:upd H8 l3 (.lst [.int th,.int 0,.int 1]) l3 = some (.lst [.int th,.int 0,.int 1]):=upd_same
  have I9:=I8.same s9
  generalize upd H8 l3 (.lst [.int th,.int 0,.int 1]) = H9 at s9 g9 I9 |-
  refine ⟨_,rfl,_,_,rfl,rfl,⟨by decide,by decide⟩,_,_,rfl,rfl,zp4,_,rfl,l3,_,rfl,SqL.of g9,fun l4 hl4=>?_⟩
  obtain ⟨ms,em,lm,_⟩:=cut_ints [th,0,1] none (some (mm / 8 % 4))
  rw [show cutV [V.int th,.int 0,.int 1] none (some (mm / 8 % 4)) = ms.map V.int from em]
  have s10:=same_new hl4 (.lst (ms.map V.int))
  have g10:upd H9 l4 (.lst (ms.map V.int)) l4 = some (.lst (ms.map V.int)):=upd_same
  have n4:l4 ≠ l:=(ne_of_none I9.hl hl4).symm
  have I10:=I9.same s10
  generalize upd H9 l4 (.lst (ms.map V.int)) = H10 at s10 g10 I10 |-
  refine ⟨zz2,fun u hu=>?_⟩
  have s11:=same_new hu (.tup [.str "row",.ref l4])
  have I11:=I10.same s11
  refine ⟨l,_,_,rfl,rfl,I11.hl,small1000 (by omega),?_⟩
  exact fin (I11.push (it:=.row ms) (.tup (SqT.of upd_same) (.cons .str (.cons (.lst n4 (s11 _ _ g10) (ints_says _)) .nil))) lm (Nat.zero_le _))
 refine ⟨_,rfl,_,_,rfl,rfl,zp8,_,_,rfl,rfl,_,rfl,?_⟩
 refine ite2 (fun _=>?_) (fun _=>?_)
 ·refine ⟨_,rfl,.inl ⟨rfl,_,SqL.of I8.hl⟩,_,rfl,D,_,0,.str z1,rfl,rfl,SqL.of hDy,rfl,_,rfl,zz3,fun u hu=>?_⟩
  have s9:=same_new hu (.tup [.str "named",.str z1,.int th])
  have I9:=I8.same s9
  refine ⟨l,_,_,rfl,rfl,I9.hl,small1000 (by omega),?_⟩
  exact fin (I9.push (it:=.named z1 th) (.tup (SqT.of upd_same) (.cons .str (.cons .str (.cons .int .nil)))) (by show 0<=3; decide) (by show 1<=3; decide))
 ·refine ⟨_,rfl,.inl ⟨rfl,_,SqL.of I8.hl⟩,_,rfl,_,rfl,_,_,rfl,rfl,⟨by decide,by decide⟩,_,_,rfl,rfl,zp4,_,rfl,lq,_,rfl,SqL.of g8,fun l4 hl4=>?_⟩
  obtain ⟨k,hk⟩:=Int.eq_ofNat_of_zero_le (Int.emod_nonneg (mm / 64) (show (4:Int) ≠ 0 by decide))
  rw [hk,cut_takeN]
  have s10:=same_new hl4 (.lst (([.ref u1,.ref u2,.ref u3]:List V).take k))
  have g10:upd H8 l4 (.lst (([.ref u1,.ref u2,.ref u3]:List V).take k)) l4 = some (.lst (([.ref u1,.ref u2,.ref u3]:List V).take k)):=upd_same
  have n4:l4 ≠ l:=(ne_of_none I8.hl hl4).symm
  have I10:=I8.same s10
  generalize upd H8 l4 (.lst (([.ref u1,.ref u2,.ref u3]:List V).take k)) = H10 at s10 g10 I10 |-
  refine ⟨zz2,fun u hu=>?_⟩
  have s11:=same_new hu (.tup [.str "book",.ref l4])
  have I11:=I10.same s11
  refine ⟨l,_,_,rfl,rfl,I11.hl,small1000 (by omega),?_⟩
  refine fin (I11.push (it:=.book (([(z1,th),(z2,0),(z3,-1)]:List (Str × Int)).take k)) (.tup (SqT.of upd_same) (.cons .str (.cons (.lst n4 (s11 _ _ g10) ?_) .nil))) (Nat.zero_le _) ?_)
  ·rw [List.map_take]
   exact pairedTake (hp3 _ (s10.trans s11)) k
  ·show (List.take k _).length<=3
   rw [List.length_take]
   exact Nat.min_le_right _ _
end
def wordS:Nat->Str
 | 0=>"doubled"
 | 1=>"over"
 | 2=>"barred"
 | 3=>"again"
 | 4=>"strange"
 | _=>"lacking"
structure TxtW (mg:Str->Option Value) (cl:Nat->Addr) (MI CE CP:Addr):Prop where
 isi:mg "isinstance" = none
 ve:mg "ValueError" = none
 mi:mg "Misfit" = some (.ref MI)
 ce:mg "CallError" = some (.ref CE)
 pt:mg "Part" = some (.ref CP)
 m0:mg "Doubled" = some (.ref (cl 0))
 m1:mg "Over" = some (.ref (cl 1))
 m2:mg "Barred" = some (.ref (cl 2))
 m3:mg "Again" = some (.ref (cl 3))
 m4:mg "Strange" = some (.ref (cl 4))
 m5:mg "Lacking" = some (.ref (cl 5))
structure SortW (K:Frag) (cl:Nat->Addr) (MI CE:Addr) (i:Nat):Prop where
 ex:ExcCls K (cl i)
 set:XSet K (cl i)
 no:NoAttr K (cl i) "number"
 k:∀ j,j < 6->kitOne K (.ref (cl i)) (.ref (cl j)) = some (decide (j = i))
 mi:kitOne K (.ref (cl i)) (.ref MI) = some true
 ve:kitOne K (.ref (cl i)) (.type "ValueError") = some true
 ce:exmOne K (.ref (cl i)) (.ref CE) = some true
abbrev rG (K:Frag):List V->Hp->VK->Prop:=fun xs H Q=>∃ (ea D C:Addr) (b:Bool),xs = [.ref ea,.ref C]/\ExcH H ea D/\ExcCls K D/\kitOne K (.ref D) (.ref C) = some b/\Q (.bl b) H
abbrev rGT (K:Frag):List V->Hp->VK->Prop:=fun xs H Q=>∃ (ea D:Addr) (T:String) (b:Bool),xs = [.ref ea,.ty T]/\ExcH H ea D/\ExcCls K D/\kitOne K (.ref D) (.type T) = some b/\Q (.bl b) H
def WdOk (z:Str):Prop:=wordS (misI z) = z
theorem wd0:WdOk "doubled":=by unfold WdOk; decide +kernel
theorem wd1:WdOk "over":=by unfold WdOk; decide +kernel
theorem wd2:WdOk "barred":=by unfold WdOk; decide +kernel
theorem wd3:WdOk "again":=by unfold WdOk; decide +kernel
theorem wd4:WdOk "strange":=by unfold WdOk; decide +kernel
theorem wd5:WdOk "lacking":=by unfold WdOk; decide +kernel
theorem dbl_wd (fk:List (Key × V)):∀ (zs:List Str) (i:Nat),∀ m ∈ dblF fk i zs,WdOk m.1
 | [],_,m,h=>by cases h
 | z :: zs,i,m,h=>by
  rcases List.mem_append.mp h with h | h
  ·split at h
   ·cases h
   ·rw [List.mem_singleton.mp h]; exact wd0
  ·exact dbl_wd fk zs (i + 1) m h
theorem lack_wd (many:Nat) (fk:List (Key × V)):∀ (rows:List Rw) (i:Nat),∀ m ∈ lackF many fk i rows,WdOk m.1
 | [],_,m,h=>by cases h
 | r :: rs,i,m,h=>by
  rcases List.mem_append.mp h with h | h
  ·split at h
   ·rw [List.mem_singleton.mp h]; exact wd5
   ·cases h
  ·exact lack_wd many fk rs (i + 1) m h
theorem over_wd (rows:List Rw) (many:Nat):∀ m ∈ overF rows many,WdOk m.1:=fun m h=>by
 unfold overF at h
 split at h
 ·cases h
 ·obtain ⟨_,_,rfl⟩:=List.mem_map.mp h
  exact wd1
theorem unwW_wd {rows:List Rw} {bars:List Str} {many:Nat} {z x:Str} (h:unwW rows bars many z = some x):WdOk x:=by
 unfold unwW at h
 split at h
 ·cases h; exact wd2
 ·split at h
  ·split at h
   ·cases h
   ·cases h; exact wd4
  ·split at h
   ·cases h; exact wd3
   ·cases h
theorem unw_wd (rows:List Rw) (bars:List Str) (many:Nat) (fp:List (Str × Nat)):∀ m ∈ unwF rows bars many fp,WdOk m.1:=fun m h=>by
 unfold unwF at h
 obtain ⟨p,_,e⟩:=List.mem_filterMap.mp h
 cases e2:unwW rows bars many p.1 with
 | none=>rw [e2] at e; cases e
 | some x=>
  rw [e2] at e
  cases e
  exact unwW_wd e2
theorem miss_wd {rows:List Rw} {bars:List Str} {ct:List Item}:∀ m ∈ missC rows bars ct,WdOk m.1:=fun m h=>by
 unfold missC missF at h
 rw [List.mem_append,List.mem_append,List.mem_append] at h
 rcases h with ((h | h) | h) | h
 ·exact dbl_wd _ _ _ m h
 ·exact over_wd _ _ m h
 ·exact unw_wd _ _ _ _ m h
 ·exact lack_wd _ _ _ _ m h
def spLMade (K:Frag) (c:C5) (CF:Addr):Sp:=fun vs H Q _=>∃ (f a:Addr) (rows:List Rw) (bars:List Str) (ct:List Item),vs = [.ref f,.ref a]/\FormOk c CF H f rows bars/\CallOk K H a ct/\∀ (v:V) (H':Hp),Same H H'->DueAt H' v (nlF (missC rows bars ct))->Q v H'
section
variable {P:Program} {w:World} {K:Frag} {mg:Str->Option Value} {base:Heap} {f CF CP MI CE:Addr} {fd:FuncData} {cl:Nat->Addr} {c:C5}
theorem ndWd:([Str.ofString "_law_word",Str.ofString "_law_truth"]:List Str).Nodup:=by decide +kernel
theorem scLMade:FnScope ["_law_form_here","_law_items_here","_law_found","e","_law_words"] ["_law_form_here","_law_items_here"] (defScope sLMade):=⟨rfl,rfl,rfl,by decide +kernel,rfl,by decide +kernel,by decide +kernel⟩
theorem ok_lmade {gP:Addr} {eP:FuncData} (F:Fun K "_law_made" "_law_made" sLMade f fd) (U:TxtW mg cl MI CE CP) (so:∀ i,i < 6->SortW K cl MI CE i) (MP:Mk K CP gP) (GP:FnOk P w K mg base (CXs P w) 7 gP eP ["self","form","call"] (spPtI K c CF CP cl)) (bP:Binds K eP ["self","form","call"] []):FnOk P w K mg base CX0 9 f fd ["_law_form_here","_law_items_here"] (spLMade K c CF):=by
 refine F.ok scLMade (fun vs H Q E h=>?_) (fun cdv A outer s H vs Q E hr h=>?_)
 ·obtain ⟨f,a,rows,bars,ct,rfl,_⟩:=h
  rfl
 obtain ⟨f,a,rows,bars,ct,rfl,hF,hC,q⟩:=h
 refine ⟨_,pss_cons (ps_set (i:=2) scLMade.nd rfl (Or.inl rfl) pe_non)
  (pss_cons (ps_tryS rfl rfl
    (ph_asA (i:=3) scLMade.nd rfl rfl rfl U.ce (fun ea=>pss_cons (ps_set (i:=2) scLMade.nd rfl (Or.inl rfl) (pe_tup (ac pe_str (ac pe_int pa_nil))))
     (pss_cons (ps_set (i:=4) scLMade.nd rfl (Or.inl rfl) (pe_lst (ac (pe_tup (ac pe_str (ac (cB (r:=rG K) call_isinstG U.isi boot_isinstance (ac (pv 3) (ac (pe_glob (v:=.ref (cl 0)) rfl U.m0 rfl) pa_nil))) pa_nil))) (ac (pe_tup (ac pe_str (ac (cB (r:=rG K) call_isinstG U.isi boot_isinstance (ac (pv 3) (ac (pe_glob (v:=.ref (cl 1)) rfl U.m1 rfl) pa_nil))) pa_nil))) (ac (pe_tup (ac pe_str (ac (cB (r:=rG K) call_isinstG U.isi boot_isinstance (ac (pv 3) (ac (pe_glob (v:=.ref (cl 2)) rfl U.m2 rfl) pa_nil))) pa_nil))) pa_nil)))))
     (pss_cons (ps_set (i:=4) scLMade.nd rfl (Or.inl rfl) (pe_op op_cat (pv 4) (pe_lst (ac (pe_tup (ac pe_str (ac (cB (r:=rG K) call_isinstG U.isi boot_isinstance (ac (pv 3) (ac (pe_glob (v:=.ref (cl 3)) rfl U.m3 rfl) pa_nil))) pa_nil))) (ac (pe_tup (ac pe_str (ac (cB (r:=rG K) call_isinstG U.isi boot_isinstance (ac (pv 3) (ac (pe_glob (v:=.ref (cl 4)) rfl U.m4 rfl) pa_nil))) pa_nil))) pa_nil)))))
     (pss_cons (ps_set (i:=4) scLMade.nd rfl (Or.inl rfl) (pe_op op_cat (pv 4) (pe_lst (ac (pe_tup (ac pe_str (ac (cB (r:=rG K) call_isinstG U.isi boot_isinstance (ac (pv 3) (ac (pe_glob (v:=.ref (cl 5)) rfl U.m5 rfl) pa_nil))) pa_nil))) pa_nil))))
     (pss_one (ps_if (PW.pt (pw_and (pt_val (cB (r:=rG K) call_isinstG U.isi boot_isinstance (ac (pv 3) (ac (pe_glob (v:=.ref MI) rfl U.mi rfl) pa_nil)))) (pw_and1 (pt_val (cB (r:=rGT K) call_isinstGT U.isi boot_isinstance (ac (pv 3) (ac (pe_bltn (v:=.ty "ValueError") rfl U.ve (by decide +kernel:bootBuiltins "ValueError" = some (.type "ValueError")) rfl) pa_nil)))))))
      (pss_one (ps_set (i:=2) scLMade.nd rfl (Or.inl rfl) (pe_tup (ac (pe_bm PySem.F.plainAttrs_str PySem.F.slot_str_join PySem.F.type_str_join mt_join pe_str (ac (pe_lcH (ea:=ea) [] ["_law_word","_law_truth"] [none,none] rfl ⟨rfl,rfl,rfl,rfl⟩ (pi_listH (pv 4)) (gown_tup2H (K:=K) (n:=2) (ea:=ea) 0 1) rfl rfl rfl
       (fun pins fp s H C=>⟨pg_tupH (K:=K) rfl rfl (pgs_cons (pg_name (i:=0) ndWd rfl (Or.inl rfl) (.inr rfl)) (pgs_cons (pg_name (i:=1) ndWd rfl (Or.inl rfl) (.inr rfl)) pgs_nil)),pif_one (pt_val (pv 1)),pv 0⟩)) pa_nil)) (ac (pe_fldCK (K:=K) rfl (pv 3) rfl) pa_nil))))) pss_nil)))))) ph_nil)
   (fun pins σ xe E hp=>s1_expr (p2_make MP GP hr rfl U.pt bP .nil hp (ac (pv 0) (ac (pv 1) pa_nil)))))
  (pss_one (ps_ret (pv 2)))),?_⟩
 refine ⟨_,rfl,_,rfl,fun x dx hx hdx hne=>?_⟩
 have smk:Same H (upd (upd H dx (.own x)) x (.ins CP dx [])):=same_make0 hx hdx
 have hx1:upd (upd H dx (.own x)) x (.ins CP dx []) x = some (.ins CP dx []):=upd_same
 generalize upd (upd H dx (.own x)) x (.ins CP dx []) = H1 at smk hx1 |-
 refine ⟨x,f,a,dx,rows,bars,ct,rfl,hx1,hF.same smk,hC.same smk,fun hnl H2 sx pt=>?_,fun m hm d H2 s2 hd=>?_⟩
 ·refine ⟨rfl,_,rfl,q _ H2 (fun b' u e=>sx b' u (smk _ _ e) (ne_of_none e hx)) ?_⟩
  rw [hnl]
  rfl
 have hmm:m ∈ missC rows bars ct:=List.mem_of_find?_eq_some hm
 have ew:wordS (misI m.1) = m.1:=miss_wd m hmm
 have hi:=misI_lt m.1
 refine ⟨cl (misI m.1),rfl,fun tt ea hea=>.inl ⟨(so _ hi).ce,?_⟩⟩
 have s3:=same_new hea (excC ea (cl (misI m.1)) (some d) tt)
 have e3:upd H2 ea (excC ea (cl (misI m.1)) (some d) tt) ea = some (excC ea (cl (misI m.1)) (some d) tt):=upd_same
 have hd3:=s3 _ _ hd
 have sA:=smk.trans (s2.trans s3)
 generalize upd H2 ea (excC ea (cl (misI m.1)) (some d) tt) = H3 at s3 e3 hd3 sA |-
 have so':=so _ hi
 rw [hm] at q
 generalize hmi:misI m.1 = i at hi so' ew e3 s3
 have he:ExcH H3 ea (cl i):=.inl ⟨_,_,e3⟩
 refine ⟨zz2,fun ox hox=>?_⟩
 have sX:=same_new hox (.tup [.str "other",.int 0])
 try dsimp only [gName]
 generalize upd H3 ox (.tup [.str "other",.int 0]) = HX at sX |-
 have he:=he.same sX
 refine ⟨_,rfl,ea,cl i,cl 0,_,rfl,he,so'.ex,so'.k 0 (by decide),zz2,fun u0 hu0=>?_⟩
 have s0z:=same_new hu0 (.tup [.str "doubled",.bl (decide (0 = i))])
 have w0:upd HX u0 (.tup [.str "doubled",.bl (decide (0 = i))]) u0 = some (.tup [.str "doubled",.bl (decide (0 = i))]):=upd_same
 generalize upd HX u0 (.tup [.str "doubled",.bl (decide (0 = i))]) = H0_ at s0z w0 |-
 have he:=he.same s0z
 refine ⟨_,rfl,ea,cl i,cl 1,_,rfl,he,so'.ex,so'.k 1 (by decide),zz2,fun u1 hu1=>?_⟩
 have s1z:=same_new hu1 (.tup [.str "over",.bl (decide (1 = i))])
 have w1:upd H0_ u1 (.tup [.str "over",.bl (decide (1 = i))]) u1 = some (.tup [.str "over",.bl (decide (1 = i))]):=upd_same
 generalize upd H0_ u1 (.tup [.str "over",.bl (decide (1 = i))]) = H1_ at s1z w1 |-
 have he:=he.same s1z
 have w0:=s1z _ _ w0
 refine ⟨_,rfl,ea,cl i,cl 2,_,rfl,he,so'.ex,so'.k 2 (by decide),zz2,fun u2 hu2=>?_⟩
 have s2z:=same_new hu2 (.tup [.str "barred",.bl (decide (2 = i))])
 have w2:upd H1_ u2 (.tup [.str "barred",.bl (decide (2 = i))]) u2 = some (.tup [.str "barred",.bl (decide (2 = i))]):=upd_same
 generalize upd H1_ u2 (.tup [.str "barred",.bl (decide (2 = i))]) = H2_ at s2z w2 |-
 have he:=he.same s2z
 have w0:=s2z _ _ w0
 have w1:=s2z _ _ w1
 refine ⟨zz3,fun la hla=>?_⟩
 have sla:=same_new hla (.lst [.ref u0,.ref u1,.ref u2])
 have gla:upd H2_ la (.lst [.ref u0,.ref u1,.ref u2]) la = some (.lst [.ref u0,.ref u1,.ref u2]):=upd_same
 try dsimp only [gName]
 generalize upd H2_ la (.lst [.ref u0,.ref u1,.ref u2]) = Hla at sla gla |-
 have he:=he.same sla
 have w0:=sla _ _ w0
 have w1:=sla _ _ w1
 have w2:=sla _ _ w2
 refine ⟨_,rfl,?_⟩
 refine ⟨_,rfl,ea,cl i,cl 3,_,rfl,he,so'.ex,so'.k 3 (by decide),zz2,fun u3 hu3=>?_⟩
 have s3z:=same_new hu3 (.tup [.str "again",.bl (decide (3 = i))])
 have w3:upd Hla u3 (.tup [.str "again",.bl (decide (3 = i))]) u3 = some (.tup [.str "again",.bl (decide (3 = i))]):=upd_same
 generalize upd Hla u3 (.tup [.str "again",.bl (decide (3 = i))]) = H3_ at s3z w3 |-
 have he:=he.same s3z
 have w0:=s3z _ _ w0
 have w1:=s3z _ _ w1
 have w2:=s3z _ _ w2
 have gla:=s3z _ _ gla
 refine ⟨_,rfl,ea,cl i,cl 4,_,rfl,he,so'.ex,so'.k 4 (by decide),zz2,fun u4 hu4=>?_⟩
 have s4z:=same_new hu4 (.tup [.str "strange",.bl (decide (4 = i))])
 have w4:upd H3_ u4 (.tup [.str "strange",.bl (decide (4 = i))]) u4 = some (.tup [.str "strange",.bl (decide (4 = i))]):=upd_same
 generalize upd H3_ u4 (.tup [.str "strange",.bl (decide (4 = i))]) = H4_ at s4z w4 |-
 have he:=he.same s4z
 have w0:=s4z _ _ w0
 have w1:=s4z _ _ w1
 have w2:=s4z _ _ w2
 have gla:=s4z _ _ gla
 have w3:=s4z _ _ w3
 refine ⟨zz2,fun lb hlb=>?_⟩
 have slb:=same_new hlb (.lst [.ref u3,.ref u4])
 have glb:upd H4_ lb (.lst [.ref u3,.ref u4]) lb = some (.lst [.ref u3,.ref u4]):=upd_same
 try dsimp only [gName]
 generalize upd H4_ lb (.lst [.ref u3,.ref u4]) = Hlb at slb glb |-
 have he:=he.same slb
 have w0:=slb _ _ w0
 have w1:=slb _ _ w1
 have w2:=slb _ _ w2
 have gla:=slb _ _ gla
 have w3:=slb _ _ w3
 have w4:=slb _ _ w4
 refine ⟨la,lb,_,_,rfl,rfl,gla,glb,(by show 5<=sizeLine; decide),fun lc hlc=>?_⟩
 rw [show ([.ref u0,.ref u1,.ref u2] ++ [.ref u3,.ref u4]:List V) = [.ref u0,.ref u1,.ref u2,.ref u3,.ref u4] from rfl]
 have slc:=same_new hlc (.lst [.ref u0,.ref u1,.ref u2,.ref u3,.ref u4])
 have glc:upd Hlb lc (.lst [.ref u0,.ref u1,.ref u2,.ref u3,.ref u4]) lc = some (.lst [.ref u0,.ref u1,.ref u2,.ref u3,.ref u4]):=upd_same
 try dsimp only [gName]
 generalize upd Hlb lc (.lst [.ref u0,.ref u1,.ref u2,.ref u3,.ref u4]) = Hlc at slc glc |-
 have he:=he.same slc
 have w0:=slc _ _ w0
 have w1:=slc _ _ w1
 have w2:=slc _ _ w2
 have gla:=slc _ _ gla
 have w3:=slc _ _ w3
 have w4:=slc _ _ w4
 have glb:=slc _ _ glb
 refine ⟨_,rfl,?_⟩
 refine ⟨_,rfl,ea,cl i,cl 5,_,rfl,he,so'.ex,so'.k 5 (by decide),zz2,fun u5 hu5=>?_⟩
 have s5z:=same_new hu5 (.tup [.str "lacking",.bl (decide (5 = i))])
 have w5:upd Hlc u5 (.tup [.str "lacking",.bl (decide (5 = i))]) u5 = some (.tup [.str "lacking",.bl (decide (5 = i))]):=upd_same
 generalize upd Hlc u5 (.tup [.str "lacking",.bl (decide (5 = i))]) = H5_ at s5z w5 |-
 have he:=he.same s5z
 have w0:=s5z _ _ w0
 have w1:=s5z _ _ w1
 have w2:=s5z _ _ w2
 have gla:=s5z _ _ gla
 have w3:=s5z _ _ w3
 have w4:=s5z _ _ w4
 have glb:=s5z _ _ glb
 have glc:=s5z _ _ glc
 refine ⟨zz1,fun ld hld=>?_⟩
 have sld:=same_new hld (.lst [.ref u5])
 have gld:upd H5_ ld (.lst [.ref u5]) ld = some (.lst [.ref u5]):=upd_same
 try dsimp only [gName]
 generalize upd H5_ ld (.lst [.ref u5]) = Hld at sld gld |-
 have he:=he.same sld
 have w0:=sld _ _ w0
 have w1:=sld _ _ w1
 have w2:=sld _ _ w2
 have gla:=sld _ _ gla
 have w3:=sld _ _ w3
 have w4:=sld _ _ w4
 have glb:=sld _ _ glb
 have glc:=sld _ _ glc
 have w5:=sld _ _ w5
 refine ⟨lc,ld,_,_,rfl,rfl,glc,gld,(by show 6<=sizeLine; decide),fun le hle=>?_⟩
 rw [show ([.ref u0,.ref u1,.ref u2,.ref u3,.ref u4] ++ [.ref u5]:List V) = [.ref u0,.ref u1,.ref u2,.ref u3,.ref u4,.ref u5] from rfl]
 have sle:=same_new hle (.lst [.ref u0,.ref u1,.ref u2,.ref u3,.ref u4,.ref u5])
 have gle:upd Hld le (.lst [.ref u0,.ref u1,.ref u2,.ref u3,.ref u4,.ref u5]) le = some (.lst [.ref u0,.ref u1,.ref u2,.ref u3,.ref u4,.ref u5]):=upd_same
 try dsimp only [gName]
 generalize upd Hld le (.lst [.ref u0,.ref u1,.ref u2,.ref u3,.ref u4,.ref u5]) = Hle at sle gle |-
 have he:=he.same sle
 have w0:=sle _ _ w0
 have w1:=sle _ _ w1
 have w2:=sle _ _ w2
 have gla:=sle _ _ gla
 have w3:=sle _ _ w3
 have w4:=sle _ _ w4
 have glb:=sle _ _ glb
 have glc:=sle _ _ glc
 have w5:=sle _ _ w5
 have gld:=sle _ _ gld
 have sB:Same H3 Hle:=sX.trans (s0z.trans (s1z.trans (s2z.trans (sla.trans (s3z.trans (s4z.trans (slb.trans (slc.trans (s5z.trans (sld.trans (sle)))))))))))
 have sC:=sA.trans sB
 have hea':=sB _ _ e3
 have hd':=sB _ _ hd3
 refine ⟨_,rfl,ea,cl i,MI,true,rfl,he,so'.ex,so'.mi,_,rfl,?_⟩
 refine iteT ?_
 refine ⟨_,rfl,ea,cl i,"ValueError",true,rfl,he,so'.ex,so'.ve,_,rfl,?_⟩
 refine iteT ?_
 refine ⟨rfl,_,rfl,le,cl i,some d,tt,rfl,⟨_,SqL.of gle⟩,fun D hD=>?_⟩
 have hw:∀ k x,([.ref u0,.ref u1,.ref u2,.ref u3,.ref u4,.ref u5]:List V)[k]? = some x->∃ u,x = .ref u/\Hle u = some (.tup [.str (wordS k),.bl (decide (k = i))]):=fun k x hx=>by
  match k,hx with
  | 0,hx=>cases hx; exact ⟨u0,rfl,w0⟩
  | 1,hx=>cases hx; exact ⟨u1,rfl,w1⟩
  | 2,hx=>cases hx; exact ⟨u2,rfl,w2⟩
  | 3,hx=>cases hx; exact ⟨u3,rfl,w3⟩
  | 4,hx=>cases hx; exact ⟨u4,rfl,w4⟩
  | 5,hx=>cases hx; exact ⟨u5,rfl,w5⟩
  | k + 6,hx=>cases hx
 refine lc_listH (K:=K) (xs:=[.ref u0,.ref u1,.ref u2,.ref u3,.ref u4,.ref u5]) (fun k ys H'=>Same Hle H'/\H' D = some (.lst ys)/\((k<=i/\ys = [])\/(i < k/\ys = [.str (wordS i)]))) ⟨same_new hD _,upd_same,.inl ⟨Nat.zero_le _,rfl⟩⟩ (fun k ys H' h=>SqL.of (h.1 _ _ gle)) (fun k ys H' h=>h.1 _ _ hea') ?_ ?_
 ·rintro k x ys H' hk hx ⟨sH,hDy,hys⟩
  obtain ⟨u,rfl,hu⟩:=hw k x hx
  refine ⟨u,_,cl i,some d,tt,rfl,SqT.of (sH _ _ hu),rfl,sH _ _ hea',_,_,rfl,_,_,rfl,rfl,_,rfl,_,rfl,?_⟩
  by_cases hki:k = i
  ·subst hki
   refine ⟨fun _=>?_,fun e=>by rw [decide_eq_true rfl] at e; cases e⟩
   rcases hys with ⟨_,rfl⟩ | ⟨z,_⟩
   ·refine ⟨_,rfl,?_⟩
    refine lcN.mk hk (by show 6<=sizeLine; decide) hDy (Nat.zero_le _) ⟨fun b' u' e=>?_,upd_same,.inr ⟨Nat.lt_succ_self _,rfl⟩⟩
    rw [upd_ne (ne_of_none e hD)]
    exact sH _ _ e
   ·omega
  ·refine ⟨fun e=>absurd (of_decide_eq_true e) hki,fun _=>lcS.mk hk ⟨sH,hDy,?_⟩⟩
   rcases hys with ⟨h1,rfl⟩ | ⟨h1,h2⟩
   ·exact .inl ⟨by omega,rfl⟩
   ·exact .inr ⟨by omega,h2⟩
 ·rintro ys H' ⟨sH,hDy,hys⟩
  rcases hys with ⟨h1,_⟩ | ⟨_,rfl⟩
  ·exact absurd h1 (by show ¬ 6<=i; omega)
  rw [ew] at hDy
  have lw:m.1.length<=100:=by
   rw [<- ew]
   match i,hi with
   | 0,_=>decide +kernel
   | 1,_=>decide +kernel
   | 2,_=>decide +kernel
   | 3,_=>decide +kernel
   | 4,_=>decide +kernel
   | 5,_=>decide +kernel
  refine ⟨"",D,[m.1],rfl,rfl,hDy,by decide +kernel,?_,?_⟩
  ·show m.1.length + 0 + 1<=1048576
   omega
  rw [show Txt.join "" [m.1] = m.1 from rfl]
  refine ⟨_,rfl,ea,cl i,tt,d,_,.int (m.2:Nat),rfl,sH _ _ hea',sH _ _ hd',so'.ex,so'.set,so'.no,rfl,zz2,fun u hu=>?_⟩
  have s9:=same_new hu (.tup [.str m.1,.int (m.2:Nat)])
  exact ⟨_,rfl,q _ _ (sC.trans (sH.trans s9)) ⟨u,rfl,upd_same⟩⟩
end
theorem cut_dropN {xs:List V} {n:Nat}:cutV xs (some (n:Int)) none = xs.drop n:=by
 unfold cutV
 rw [HT.sIx_nat,HT.sIx_none]
 by_cases h:n<=xs.length
 ·rw [Nat.min_eq_left h]
  exact List.take_of_length_le (by rw [List.length_drop]; exact Nat.le_refl _)
 ·rw [Nat.min_eq_right (by omega),List.drop_of_length_le (Nat.le_refl _),List.drop_of_length_le (by omega)]
  simp
theorem cut_len {xs:List V} {i j:Nat}:(cutV xs (some (i:Int)) (some (j:Int))).length<=j - i:=by
 unfold cutV
 rw [HT.sIx_nat,HT.sIx_nat,List.length_take]
 omega
inductive CopyD:Dt->Prop where
 | int (i:Int):CopyD (.int i)
 | str (z:Str):CopyD (.str z)
 | row (ts:List Int):CopyD (.lst (ts.map .int))
 | book (ps:List (Str × Int)):CopyD (.lst (ps.map pairD))
theorem item_parts {K:Frag} {ok:Addr->Prop} {H:Hp} {x:V} {it:Item} (h:Says K ok H 3 x (itemD it)):∃ (a:Addr) (wd:Str) (rest:List V) (ds:List Dt),x = .ref a/\SqT K H a (.str wd :: rest)/\rest ≠ []/\rest.length<=2/\Paired (Says K ok H 2) rest ds/\itemD it = .tup (.str wd :: ds)/\∀ d ∈ ds,CopyD d:=by
 cases it with
 | one t=>
  obtain ⟨a,rfl,ha⟩:=item_one h
  exact ⟨a,_,_,_,rfl,ha,by simp,by show 1<=2; decide,.cons .int .nil,rfl,fun d hd=>by rw [List.mem_singleton.mp hd]; exact .int t⟩
 | row ts=>
  obtain ⟨a,b,rfl,ha,o,hb⟩:=item_row h
  exact ⟨a,_,_,_,rfl,ha,by simp,by show 1<=2; decide,.cons (.lst o hb (ints_says ts)) .nil,rfl,fun d hd=>by rw [List.mem_singleton.mp hd]; exact .row ts⟩
 | named z t=>
  obtain ⟨a,rfl,ha⟩:=item_named h
  refine ⟨a,_,_,_,rfl,ha,by simp,by show 2<=2; decide,.cons .str (.cons .int .nil),rfl,fun d hd=>?_⟩
  rcases List.mem_cons.mp hd with rfl | hd
  ·exact .str z
  ·rw [List.mem_singleton.mp hd]; exact .int t
 | book ps=>
  obtain ⟨a,b,ys,rfl,ha,o,hb,hy⟩:=item_book h
  exact ⟨a,_,_,_,rfl,ha,by simp,by show 1<=2; decide,.cons (.lst o hb hy) .nil,rfl,fun d hd=>by rw [List.mem_singleton.mp hd]; exact .book ps⟩
def spLawB (K:Frag):Sp:=fun vs H Q _=>∃ (a:Addr) (ns:List Int),vs = [.ref a]/\SqL K H a (ns.map V.int)/\ns.length<=63/\∀ H',Q (.bl true) H'
section
variable {P:Program} {w:World} {K:Frag} {mg:Str->Option Value} {base:Heap} {f CF:Addr} {fd:FuncData} {c:C5}
theorem scLaw:FnScope ["_law_script","_law_ends","_law_pool_here","_law_row_here","_law_bars_here","_law_items_here","_law_form_here","_law_handed","_law_item","_law_due","_law_again","_law_found"] ["_law_script"] (defScope sLaw):=⟨rfl,rfl,rfl,by decide +kernel,rfl,by decide +kernel,by decide +kernel⟩
abbrev rIsi (K:Frag):List V->Hp->VK->Prop:=fun xs H Q=>∃ (x:V) (T:String) (t:Value) (b:Bool),xs = [x,.ty T]/\TyOf K H x t/\kitOne K t (.type T) = some b/\Q (.bl b) H
abbrev rLof (K:Frag):List V->Hp->VK->Prop:=fun xs H Q=>∃ p ys,xs = [.ref p]/\(SqL K H p ys\/SqT K H p ys)/\∀ l,H l = none->Q (.ref l) (upd H l (.lst ys))
theorem ok_law {f1 f2 f3 f4 f5 f6 f7 f8 f9 gT:Addr} {e1 e2 e3 e4 e5 e6 e7 e8 e9 eT:FuncData} (F:Fun K "law" "law" sLaw f fd) (U:TxtL mg) (cN:Callee P w K mg base 1 "_law_nth" f1 e1 ["_law_script","_law_k"] (spNthA K)) (cPo:Callee P w K mg base 1 "_law_pool" f2 e2 ["_law_cell"] (spPool K)) (cRo:Callee P w K mg base 2 "_law_row" f3 e3 ["_law_cells","_law_pool_here","_law_ends"] (spRow K)) (cBa:Callee P w K mg base 1 "_law_bars" f4 e4 ["_law_row_here","_law_pool_here","_law_number_here"] spLBars)
  (cIt:Callee P w K mg base 2 "_law_items" f5 e5 ["_law_cells","_law_pool_here"] (spItems K)) (cTa:Callee P w K mg base 2 "_law_tamed" f6 e6 ["_law_row_here","_law_bars_here","_law_items_here"] (spTamed K)) (cFo:Callee P w K mg base 6 "_law_form" f7 e7 ["_law_row_here","_law_bars_here"] (spLForm c CF)) (cFW:Callee P w K mg base 2 "_law_first_wrong" f8 e8 ["_law_row_here","_law_bars_here","_law_items_here"] (spFW K)) (cMa:Callee P w K mg base 9 "_law_made" f9 e9 ["_law_form_here","_law_items_here"] (spLMade K c CF))
  (FK:FC K CF) (mT:Meth K CF "told" gT) (GT:FnOk P w K mg base CX0 3 gT eT ["self"] (spFTold c CF)) (bT:Binds K eT ["self"] []):FnOk P w K mg base CX0 10 f fd ["_law_script"] (spLawB K):=by
 refine F.ok scLaw (fun vs H Q E h=>?_) (fun cdv A outer s H vs Q E hr h=>?_)
 ·obtain ⟨a,ns,rfl,_⟩:=h
  rfl
 obtain ⟨sa,ns,rfl,hS,h63,q⟩:=h
 have hr1:Room 1 _:=hr.mono (by decide)
 have hr2:Room 2 _:=hr.mono (by decide)
 have hr3:Room 3 _:=hr.mono (by decide)
 have hr6:Room 6 _:=hr.mono (by decide)
 have hU:=hr.units
 refine ⟨_,pss_cons (ps_set (i:=1) scLaw.nd rfl (Or.inl rfl) (cF cN hr1 (ac (pv 0) (ac pe_int pa_nil))))
  (pss_cons (ps_set (i:=2) scLaw.nd rfl (Or.inl rfl) (cF cPo hr1 (ac (cF cN hr1 (ac (pv 0) (ac pe_int pa_nil))) pa_nil)))
  (pss_cons (ps_set (i:=3) scLaw.nd rfl (Or.inl rfl) (cF cRo hr2 (ac (pe_slice sl_list (pv 0) (po_some pe_int) (po_some pe_int)) (ac (pv 2) (ac (pv 1) pa_nil)))))
  (pss_cons (ps_set (i:=4) scLaw.nd rfl (Or.inl rfl) (cF cBa hr1 (ac (pv 3) (ac (pv 2) (ac (cF cN hr1 (ac (pv 0) (ac pe_int pa_nil))) pa_nil)))))
  (pss_cons (ps_set (i:=5) scLaw.nd rfl (Or.inl rfl) (cF cIt hr2 (ac (pe_slice sl_list (pv 0) (po_some pe_int) (po_some pe_int)) (ac (pe_op op_cat (pv 2) (pe_lst (ac pe_str (ac pe_str pa_nil)))) pa_nil))))
  (pss_cons (ps_if (pt_cmpR op_eq (pe_op op_mod (pe_op op_fdiv (pv 1) pe_int) pe_int) pe_int (nomark _)) (pss_one (ps_set (i:=5) scLaw.nd rfl (Or.inl rfl) (cF cTa hr2 (ac (pv 3) (ac (pv 4) (ac (pv 5) pa_nil)))))) pss_nil)
  (pss_cons (ps_set (i:=6) scLaw.nd rfl (Or.inl rfl) (cF cFo hr6 (ac (pv 3) (ac (pv 4) pa_nil))))
  (pss_cons (ps_set (i:=7) scLaw.nd rfl (Or.inl rfl) (pe_lst pa_nil))
  (pss_cons (ps_for PassesOwn.never rfl (pi_list (pv 5)) (pg_name (i:=8) scLaw.nd rfl (Or.inl rfl))
   (pss_one (ps_expr (pe_bm PySem.F.plainAttrs_list PySem.F.slot_list_append PySem.F.type_list_append mt_append (pv 7) (ac (pe_op op_catT (pe_slice sl_tup (pv 8) po_none (po_some pe_int)) (cTy call_tuple_of U.tuple PyProof.Rows.boot_tuple (ac (pe_lc [] ["_law_one"] [none] rfl ⟨rfl,rfl,rfl,rfl⟩ (pi_tup (pe_slice sl_tup (pv 8) (po_some pe_int) po_none)) (gown_name 0) rfl rfl rfl
    (fun pins fp s H C=>⟨pg_name (i:=0) ndOne rfl (Or.inl rfl) (.inr rfl),pif_nil,pe_ifExp (pt_val (cB (r:=rIsi K) call_isinst U.isi boot_isinstance (ac (pv 0) (ac (pe_bltn (v:=.ty "list") rfl U.list PyProof.Rows.boot_list rfl) pa_nil)))) (cTy (r:=rLof K) call_list_of U.list PyProof.Rows.boot_list (ac (pv 0) pa_nil)) (pv 0)⟩)) pa_nil))) pa_nil)))))
  (pss_cons (ps_set (i:=9) scLaw.nd rfl (Or.inl rfl) (cF cFW hr2 (ac (pv 3) (ac (pv 4) (ac (pv 5) pa_nil)))))
  (pss_cons (ps_for PassesOwn.never rfl (pi_range1 rfl U.range (ac pe_int pa_nil)) (pg_name (i:=10) scLaw.nd rfl (Or.inl rfl))
   (pss_cons (ps_set (i:=11) scLaw.nd rfl (Or.inl rfl) (cF cMa hr (ac (pv 6) (ac (pv 7) pa_nil))))
   (pss_one (ps_if (PW.pt (pw_or (pt_cmpR (OpR.or op_ne (op_neS hU)) (pv 11) (pv 9) (nomark _)) (pw_or1 (PW.pt (pw_and (pt_cmp (pc_notN (pv 11))) (pw_and1 (pt_val (cB call_isinst U.isi boot_isinstance (ac (pe_ix ix_tup (pv 11) pe_int (fun _ _=>rfl)) (ac (pe_bltn (v:=.ty "bool") rfl U.bool PyProof.Rows.boot_bool rfl) pa_nil)))))))))) (pss_one (ps_ret pe_bl)) pss_nil))))
  (pss_one (ps_ret (pe_and (pe_cmpR (op_eqS hU) (pv 7) (pv 5) (nomark _)) (pe_one (pe_cmpR (op_eqS hU) (pe_meth0 (pv 6) FK.cl mT GT hr3 bT .nil pass0) (pe_tup (ac (pv 3) (ac (pv 4) pa_nil))) (nomark _)))))))))))))))),?_⟩
 refine ⟨_,rfl,sa,ns,0,rfl,hS,h63,fun ends H1 s1=>?_⟩
 refine ⟨_,rfl,sa,ns,1,rfl,s1.seq hS,h63,fun c1 H2 s2=>?_⟩
 have s12:=s1.trans s2
 refine ⟨c1,rfl,fun pa zs H3 s3 npa hpa zn znm z0 z26=>?_⟩
 have s13:=s12.trans s3
 refine ⟨_,rfl,_,rfl,_,rfl,sa,_,rfl,s13.seq hS,fun p4 hp4=>?_⟩
 obtain ⟨ms,em,_,_⟩:=cut_ints ns (some ((3:Nat):Int)) (some ((23:Nat):Int))
 have lm:=cut_len (xs:=ns.map V.int) (i:=3) (j:=23)
 rw [em,List.length_map] at lm
 rw [show cutV (ns.map V.int) (some 3) (some 23) = ms.map V.int from em]
 have s4:=same_new hp4 (.lst (ms.map V.int))
 have g4:upd H3 p4 (.lst (ms.map V.int)) p4 = some (.lst (ms.map V.int)):=upd_same
 generalize upd H3 p4 (.lst (ms.map V.int)) = H4 at s4 g4 |-
 refine ⟨_,rfl,_,rfl,p4,pa,ms,zs,ends,rfl,SqL.of g4,lm,s4 _ _ hpa,z0,z26,znm,fun la us rows H5 s5 nla hla hu V1=>?_⟩
 have hpa5:=(s4.trans s5) _ _ hpa
 have s15:=s13.trans (s4.trans s5)
 clear g4 em lm hp4
 refine ⟨_,rfl,_,rfl,_,rfl,sa,ns,2,rfl,s15.seq hS,h63,fun c2 H6 s6=>?_⟩
 refine ⟨la,pa,c2,us,rows,zs,rfl,s6 _ _ hla,tats_same s6 hu,V1,s6 _ _ hpa5,zn,z26,fun lb bars H7 s7 nlb hlb bnd bz bk bl=>?_⟩
 have s57:=s6.trans s7
 have s17:=s15.trans s57
 have hla7:=s57 _ _ hla
 have hu7:=tats_same s57 hu
 have hpa7:=s57 _ _ hpa5
 have VV:Valid rows bars:=⟨V1.ok,V1.l24,by omega,V1.ord,fun z hz=>znm z (bz z hz),List.nodup_append.mpr ⟨V1.nd,bnd,fun x hx y hy e=>bk y hy (e ▸ hx)⟩⟩
 refine ⟨_,rfl,_,rfl,_,rfl,sa,_,rfl,s17.seq hS,fun p8 hp8=>?_⟩
 obtain ⟨ms,em,_,_⟩:=cut_ints ns (some ((23:Nat):Int)) (some ((35:Nat):Int))
 have lm:=cut_len (xs:=ns.map V.int) (i:=23) (j:=35)
 rw [em,List.length_map] at lm
 rw [show cutV (ns.map V.int) (some 23) (some 35) = ms.map V.int from em]
 have s8:=same_new hp8 (.lst (ms.map V.int))
 have g8:upd H7 p8 (.lst (ms.map V.int)) p8 = some (.lst (ms.map V.int)):=upd_same
 generalize upd H7 p8 (.lst (ms.map V.int)) = H8 at s8 g8 |-
 refine ⟨_,rfl,zz2,fun l9 hl9=>?_⟩
 have s9:=same_new hl9 (.lst [.str "zzzzzzzz",.str "q"])
 have g9:upd H8 l9 (.lst [.str "zzzzzzzz",.str "q"]) l9 = some (.lst [.str "zzzzzzzz",.str "q"]):=upd_same
 have g8:=s9 _ _ g8
 generalize upd H8 l9 (.lst [.str "zzzzzzzz",.str "q"]) = H9 at s9 g8 g9 |-
 have s79:=s8.trans s9
 refine ⟨pa,l9,_,_,rfl,rfl,s79 _ _ hpa7,g9,le1000 (by rw [List.length_map]; show zs.length + 2<=1000; omega),fun p10 hp10=>?_⟩
 have s10:=same_new hp10 (.lst (zs.map V.str ++ [.str "zzzzzzzz",.str "q"]))
 have g10:upd H9 p10 (.lst (zs.map V.str ++ [.str "zzzzzzzz",.str "q"])) p10 = some (.lst ((zs ++ [("zzzzzzzz" : Str),("q" : Str)]).map V.str)):=by rw [upd_same,List.map_append]; rfl
 have g8:=s10 _ _ g8
 generalize upd H9 p10 (.lst (zs.map V.str ++ [.str "zzzzzzzz",.str "q"])) = H10 at s10 g8 g10 |-
 have lz2:(zs ++ [("zzzzzzzz" : Str),("q" : Str)]).length = zs.length + 2:=by rw [List.length_append]; rfl
 refine ⟨p8,p10,ms,_,rfl,SqL.of g8,lm,g10,by omega,by omega,fun li vs ct H11 s11 nli hli hv lct lt lp=>?_⟩
 have s711:=s79.trans (s10.trans s11)
 have s111:=s17.trans s711
 have hla11:=s711 _ _ hla7
 have hu11:=tats_same s711 hu7
 have hlb11:=s711 _ _ hlb
 clear g8 g9 g10 em lm hp8 hl9 hp10
 dsimp only [gName]
 refine seq_via (fun σ' H'=>∃ (li:Addr) (vs:List V) (ct:List Item),σ' = [some (.ref sa),some (.int ends),some (.ref pa),some (.ref la),some (.ref lb),some (.ref li),none,none,none,none,none,none]/\Same H11 H'/\H' li = some (.lst vs)/\Paired (Says K T' H' 3) vs (ct.map itemD)/\ct.length<=100/\(laidT ct).length<=800/\(laidP ct).length<=800) ?_ (fun key=>?_)
 rotate_left
 ·refine ⟨_,rfl,_,_,rfl,rfl,⟨by decide,by decide⟩,_,_,rfl,rfl,zp2,rfl,_,rfl,?_⟩
  refine ite2 (fun _=>?_) (fun _=>?_)
  ·refine ⟨_,rfl,_,rfl,_,rfl,la,lb,li,us,rows,bars,vs,ct,rfl,hla11,hu11,V1,hlb11,hli,hv,by omega,by omega,by omega,fun l ks kt H' sH nl hl hk lk lkt lkp=>?_⟩
   exact key _ _ ⟨l,ks,kt,rfl,sH,hl,hk,lk,lkt,lkp⟩
  ·exact key _ _ ⟨li,vs,ct,rfl,Same.refl _,hli,hv,by omega,by omega,by omega⟩
 clear hli hv lct lt lp nli vs ct li
 rintro σ12 H12 ⟨li,vs,ct,rfl,s12',hli,hv,lct,lt,lp⟩
 have hla12:=s12' _ _ hla11
 have hu12:=tats_same s12' hu11
 have hlb12:=s12' _ _ hlb11
 refine ⟨_,rfl,_,rfl,la,lb,us,rows,bars,rfl,hla12,hu12,hlb12,VV,fun fo H13 s13' nfo hF=>?_⟩
 have hla13:=s13' _ _ hla12
 have hu13:=tats_same s13' hu12
 have hlb13:=s13' _ _ hlb12
 have hli13:=s13' _ _ hli
 have hv13:=items_same s13' hv
 clear hli hv hla12 hu12 hlb12 hla11 hu11 hlb11 hla7 hu7
 refine ⟨zz0,fun lh hlh=>?_⟩
 have s14:=same_new hlh (.lst [])
 have g14:upd H13 lh (.lst []) lh = some (.lst []):=upd_same
 dsimp only [gName]
 generalize upd H13 lh (.lst []) = H14 at s14 g14 |-
 have lvs:vs.length = ct.length:=by rw [hv13.length,List.length_map]
 refine ⟨_,rfl,li,rfl,⟨_,SqL.of (s14 _ _ hli13)⟩,for_list (K:=K) (a:=li) (xs:=vs) (fun i σ H'=>∃ (ks:List V) (v8:Option V),σ = [some (.ref sa),some (.int ends),some (.ref pa),some (.ref la),some (.ref lb),some (.ref li),some (.ref fo),some (.ref lh),v8,none,none,none]/\Same H13 H'/\H' lh = some (.lst ks)/\Paired (Says K (fun b=>b ≠ lh) H' 3) ks ((ct.take i).map itemD))
  ⟨[],_,rfl,s14,g14,.nil⟩ (fun i σ H' _ ⟨_,_,_,sH,_⟩=>SqL.of (sH _ _ hli13)) ?_ ?_⟩
 ·rintro i x σ H15 hx ⟨ks,v8,rfl,s15',elh,hk⟩
  obtain ⟨d,hd,hxs⟩:=Paired.get hv13 hx
  obtain ⟨it,hit,rfl⟩:=item_get hd
  obtain ⟨a,wd,rest,ds,rfl,hsq,rne,lr,hrest,eit,hcp⟩:=item_parts (hxs.same s15')
  have lks:ks.length<=i:=by rw [hk.length,List.length_map,List.length_take]; omega
  have hi:i < ct.length:=(List.getElem?_eq_some_iff.mp hit).1
  have l1 : 1<=rest.length:=Nat.one_le_iff_ne_zero.mpr fun e=>rne (List.eq_nil_of_length_eq_zero e)
  refine ⟨_,rfl,.inl ⟨rfl,_,SqL.of elh⟩,_,rfl,_,rfl,a,_,rfl,hsq,?_,fun p1 hp1=>?_⟩
  ·rintro ⟨_,e⟩
   have e':HT.sIx (V.str wd :: rest).length (V.str wd :: rest).length (some ((1:Nat):Int)) = (V.str wd :: rest).length:=e
   rw [HT.sIx_nat,List.length_cons] at e'
   omega
  rw [show cutV (V.str wd :: rest) none (some 1) = [V.str wd] from (cut_takeN (n:=1)).trans rfl]
  have t1:=same_new hp1 (.tup [.str wd])
  have u1:upd H15 p1 (.tup [.str wd]) p1 = some (.tup [.str wd]):=upd_same
  generalize upd H15 p1 (.tup [.str wd]) = H16 at t1 u1 |-
  refine ⟨_,rfl,_,rfl,a,_,rfl,t1.sqT hsq,?_,fun p2 hp2=>?_⟩
  ·rintro ⟨e,_⟩
   have e':HT.sIx (V.str wd :: rest).length 0 (some ((1:Nat):Int)) = 0:=e
   rw [HT.sIx_nat,List.length_cons] at e'
   omega
  rw [show cutV (V.str wd :: rest) (some 1) none = rest from (cut_dropN (n:=1)).trans rfl]
  have t2:=same_new hp2 (.tup rest)
  have u2:upd H16 p2 (.tup rest) p2 = some (.tup rest):=upd_same
  generalize upd H16 p2 (.tup rest) = H17 at t2 u2 |-
  refine ⟨p2,rfl,⟨_,SqT.of u2⟩,fun D hD=>?_⟩
  have hrest17:=Paired.imp' (fun _ _ z=>Says.same (t1.trans t2) z) hrest
  have s1517:=t1.trans t2
  have nlh:H17 lh ≠ none:=by rw [s1517 _ _ elh]; exact fun e=>by cases e
  refine lc_saysT (K:=K) (m:=2) (xs:=rest) ds hD (SqT.of u2) hrest.length (by omega) (fun j x d H' Qf Qs hxj hdj sH qf=>?_) (fun ws H18 s18 hDw hw=>?_)
  ·obtain ⟨d',hd',hxd⟩:=Paired.get hrest17 hxj
   rw [hdj] at hd'
   cases hd'
   have hxd:=hxd.same sH
   refine ⟨fun _=>?_,fun e=>Bool.noConfusion e⟩
   have hc:=hcp d (List.mem_of_getElem? hdj)
   cases hc with
   | int n=>
    have ex:=says_int hxd
    subst ex
    refine ⟨_,rfl,_,_,_,_,rfl,.int n,kt_int_list K,_,rfl,?_⟩
    refine iteF ?_
    exact ⟨_,rfl,qf _ _ (Same.refl _) .int⟩
   | str z=>
    have ex:=says_str hxd
    subst ex
    refine ⟨_,rfl,_,_,_,_,rfl,.str z,kt_str_list K,_,rfl,?_⟩
    refine iteF ?_
    exact ⟨_,rfl,qf _ _ (Same.refl _) .str⟩
   | row ts=>
    obtain ⟨b,xs,ex,_,hb,hxs⟩:=says_lst hxd
    subst ex
    refine ⟨_,rfl,_,_,_,_,rfl,.lst hb,kt_list_list K,_,rfl,?_⟩
    refine iteT ?_
    refine ⟨_,rfl,b,_,rfl,.inl (SqL.of hb),fun l hl=>?_⟩
    rw [says_ints hxs]
    exact qf _ _ (same_new hl _) (.lst hl upd_same (ints_says ts))
   | book ps=>
    obtain ⟨b,xs,ex,_,hb,hxs⟩:=says_lst hxd
    subst ex
    refine ⟨_,rfl,_,_,_,_,rfl,.lst hb,kt_list_list K,_,rfl,?_⟩
    refine iteT ?_
    refine ⟨_,rfl,b,_,rfl,.inl (SqL.of hb),fun l hl=>?_⟩
    exact qf _ _ (same_new hl _) (.lst hl upd_same (pairs_same (same_new hl _) (pairs_ok hxs)))
  refine ⟨D,ws,rfl,.inl ⟨SqL.of hDw,fun t ht=>?_⟩⟩
  have t3:=same_new ht (.tup ws)
  have u3:upd H18 t (.tup ws) t = some (.tup ws):=upd_same
  have hw3:=Paired.imp' (fun _ _ z=>Says.same t3 z) hw
  have s1719:=s18.trans t3
  generalize upd H18 t (.tup ws) = H19 at t3 u3 hw3 s1719 |-
  have s1519:=s1517.trans s1719
  have lws:ws.length = rest.length:=by rw [hw.length,hrest.length]
  refine ⟨p1,t,_,_,rfl,rfl,SqT.of ((t2.trans s1719) _ _ u1),SqT.of u3,by simp,le1000 (by show 1 + ws.length<=1000; omega),fun e=>?_,fun _ p hp=>?_⟩
  ·rw [e] at lws
   simp at lws
   omega
  have t4:=same_new hp (.tup ([.str wd] ++ ws))
  have u4:upd H19 p (.tup ([.str wd] ++ ws)) p = some (.tup (.str wd :: ws)):=upd_same
  have s1520:=s1519.trans t4
  have hw4:=Paired.imp' (fun _ _ z=>Says.same t4 z) hw3
  generalize upd H19 p (.tup ([.str wd] ++ ws)) = H20 at t4 u4 s1520 hw4 |-
  have elh20:=s1520 _ _ elh
  refine ⟨lh,_,_,rfl,rfl,elh20,small1000 (by omega),?_⟩
  refine ⟨ks ++ [.ref p],_,rfl,fun b u e=>by rw [upd_ne (ne_of_none e hlh)]; exact (s15'.trans s1520) _ _ e,upd_same,?_⟩
  rw [take_snoc hit,List.map_append]
  refine paired_app (Paired.imp' (fun _ _ z=>says_grow elh20 (fun b o=>⟨o,o⟩) (z.same s1520)) hk) (.cons ?_ .nil)
  refine says_grow (ok:=fun b=>b ≠ lh) elh20 (fun b o=>⟨o,o⟩) ?_
  rw [eit]
  exact .tup (SqT.of u4) (.cons .str (Paired.imp' (fun _ _ z=>says_ok (fun b o _=>fun e=>nlh (by rw [<- e]; exact o.2)) z) hw4))
 rintro σ15 H15 ⟨ks,v8,rfl,s15',elh,hk⟩
 rw [lvs,List.take_length] at hk
 have hkT:Paired (Says K T' H15 3) ks (ct.map itemD):=Paired.imp' (fun _ _ z=>says_ok (fun _ _ _=>True.intro) z) hk
 have hF15:=hF.same s15'
 have hla15:=s15' _ _ hla13
 have hu15:=tats_same s15' hu13
 have hlb15:=s15' _ _ hlb13
 have hli15:=s15' _ _ hli13
 have hv15:=items_same s15' hv13
 refine ⟨_,rfl,_,rfl,_,rfl,la,lb,li,us,rows,bars,vs,ct,rfl,hla15,hu15,V1,hlb15,hli15,hv15,by omega,by omega,fun dv H16 s16 hdue=>?_⟩
 have hC16:CallOk K H16 lh ct:=⟨⟨ks,SqL.of (s16 _ _ elh),items_same s16 hkT⟩,by omega,by omega⟩
 have hF16:=hF15.same s16
 dsimp only [gName]
 refine seq_via (fun σ' H'=>∃ (v8 v9 v10 v11:Option V),σ' = [some (.ref sa),some (.int ends),some (.ref pa),some (.ref la),some (.ref lb),some (.ref li),some (.ref fo),some (.ref lh),v8,v9,v10,v11]/\Same H16 H') ?_ (fun key=>?_)
 rotate_left
 ·refine ⟨2,rfl,by decide,by decide,?_⟩
  refine for_range (n:=2) (fun j σ H'=>∃ (v10 v11:Option V),σ = [some (.ref sa),some (.int ends),some (.ref pa),some (.ref la),some (.ref lb),some (.ref li),some (.ref fo),some (.ref lh),v8,some dv,v10,v11]/\Same H16 H') ⟨_,_,rfl,Same.refl _⟩ ?_ ?_
  ·rintro j σ H17 hj ⟨v10,v11,rfl,s17'⟩
   refine ⟨_,rfl,_,rfl,fo,lh,rows,bars,ct,rfl,hF16.same s17',hC16.same s17',fun v H18 s18 hv'=>?_⟩
   have hdue':=hdue.same (s17'.trans s18)
   refine ⟨_,rfl,_,rfl,?_⟩
   cases hn:nlF (missC rows bars ct) with
   | none=>
    rw [hn] at hv' hdue'
    have e1:v = .non:=hv'
    have e2:dv = .non:=hdue'
    subst e1
    subst e2
    refine .inl ⟨rfl,_,rfl,?_⟩
    refine iteC (by decide) ?_
    refine ⟨_,rfl,_,rfl,?_⟩
    refine iteC (by decide) ?_
    refine iteF ?_
    exact ⟨_,_,rfl,s17'.trans s18⟩
   | some m=>
    rw [hn] at hv' hdue'
    obtain ⟨u1,e1,h1⟩:=hv'
    obtain ⟨u2,e2,h2⟩:=hdue'
    subst e1
    subst e2
    refine .inr ⟨u1,u2,0,.tup [.str m.1,.int (m.2:Nat)],fun _=>True,fun _=>True,rfl,rfl,by decide,.tup (SqT.of h1) (.cons .str (.cons .int .nil)),.tup (SqT.of h2) (.cons .str (.cons .int .nil)),_,rfl,?_⟩
    refine iteF ?_
    refine ⟨_,rfl,_,rfl,?_⟩
    refine iteB (by rw [decide_eq_false (by intro e; cases e)]; rfl) ?_
    refine ⟨_,rfl,u1,_,1,.int (m.2:Nat),rfl,rfl,SqT.of h1,rfl,_,_,_,_,rfl,.int _,kt_int_bool K,_,rfl,?_⟩
    refine iteF ?_
    exact ⟨_,_,rfl,s17'.trans s18⟩
  ·rintro σ H17 ⟨v10,v11,rfl,s17'⟩
   exact key _ _ ⟨_,_,_,_,rfl,s17'⟩
 rintro σ17 H17 ⟨v8',v9,v10,v11,rfl,s17'⟩
 have sE:=s16.trans s17'
 have hF17:=hF16.same s17'
 refine ⟨_,rfl,_,rfl,lh,li,3,.lst (ct.map itemD),fun _=>True,fun _=>True,rfl,rfl,by decide,.lst True.intro (sE _ _ elh) (items_same sE hkT),.lst True.intro (sE _ _ hli15) (items_same sE hv15),_,rfl,?_⟩
 refine iteT ?_
 obtain ⟨dx',fs,lr',lb',ld',ps',h1,h2,h3,h4,h5,h6⟩:=hF17.at_
 refine ⟨_,rfl,fo,dx',fs,rfl,h1,h2.no _ (by decide +kernel),fo,rows,bars,rfl,V1.ok,by have:=V1.l24; omega,hF17.at_,fun t l1 l2 us' H18 s18 _ _ _ e1 e2 pu e3=>?_⟩
 refine ⟨_,rfl,_,rfl,zz2,fun t2 ht2=>?_⟩
 have s19:=same_new ht2 (.tup [.ref la,.ref lb])
 have sF:=sE.trans (s18.trans s19)
 exact ⟨t,t2,2,_,fun _=>True,fun _=>True,rfl,rfl,by decide,says_told (s19 _ _ e1) (s19 _ _ e2) (tats_same s19 pu) V1.ok (s19 _ _ e3),says_told upd_same (sF _ _ hla15) (tats_same sF hu15) V1.ok (sF _ _ hlb15),q _⟩
end
end K61
def PySem.W.Fast.tw15674501691848755785:Unit:=()
def PySem.W.Fast.tw16292246180575186224:Unit:=()
def PySem.W.Fast.tw2335458254525734411:Unit:=()
def PySem.W.Fast.tw4824494404002819801:Unit:=()
def PySem.W.Fast.tw673616133270261094:Unit:=()
def PySem.W.Fast.tw7601353911538434246:Unit:=()
def PySem.W.Fast.tw12378891995466131806:Unit:=()
def PySem.W.Fast.tw15902245491336142801:Unit:=()
def PySem.W.Fast.tw8230441722418556528:Unit:=()
def PySem.W.Fast.tw2101160438561901459:Unit:=()
def PySem.W.Fast.tw2407997743034752609:Unit:=()
def PySem.W.Fast.tw1319896859540289230:Unit:=()
def PySem.W.Fast.tw17401172166090847772:Unit:=()
def PySem.W.Fast.tw8222415973300099893:Unit:=()
def PySem.W.Fast.tw3892560347767457630:Unit:=()
def PySem.W.Fast.tw13182511327015555155:Unit:=()
def PySem.W.Fast.tw14370280544491360464:Unit:=()
def PySem.W.Fast.tw14110480046316988820:Unit:=()
def PySem.W.Fast.tw12810595175330437595:Unit:=()
def PySem.W.Fast.tw11255197705283225744:Unit:=()
def PySem.W.Fast.tw15244448259381005613:Unit:=()
def PySem.W.Fast.tw11799742921804010600:Unit:=()
def PySem.W.Fast.tw18194522195480830443:Unit:=()
def PySem.W.Fast.tw15070166430962486093:Unit:=()
def PySem.W.Fast.tw18153556821999247882:Unit:=()
def PySem.W.Fast.tw7725748285145507316:Unit:=()
def PySem.W.Fast.tw7321573970127410189:Unit:=()
def PySem.W.Fast.tw3733194388384450586:Unit:=()
def PySem.W.Fast.tw163527489682869446:Unit:=()
def PySem.W.Fast.tw13722745110980970658:Unit:=()
def PySem.W.Fast.tw10949183197046746999:Unit:=()
def PySem.W.Fast.tw17783683117012638080:Unit:=()
def PySem.W.Fast.tw2064229904081534034:Unit:=()
def PySem.W.Fast.tw11827382261301338414:Unit:=()
def PySem.W.Fast.tw4370058283474181121:Unit:=()
def PySem.W.Fast.tw17269411629385205318:Unit:=()
def PySem.W.Fast.tw17155443877289169423:Unit:=()
def PySem.W.Fast.tw443874839029867102:Unit:=()
def PySem.W.Fast.tw17501495543892834393:Unit:=()
def PySem.W.Fast.tw11346654667135183709:Unit:=()
def PySem.W.Fast.tw9747270974605274877:Unit:=()
def PySem.W.Fast.tw12169866701556700177:Unit:=()
def PySem.W.Fast.tw3936056224130376331:Unit:=()
def PySem.W.Fast.tw16730726119668462836:Unit:=()
def PySem.W.Fast.tw10192966416461590358:Unit:=()
def PySem.W.Fast.tw1821081524163333522:Unit:=()
def PySem.W.Fast.tw1069252559794656764:Unit:=()
def PySem.W.Fast.tw9929246905540485387:Unit:=()
def PySem.W.Fast.tw10617872789481970941:Unit:=()
def PySem.W.Fast.tw14588662964302327782:Unit:=()
namespace K61
open PySem L2 PyProof.Rows
theorem own_in {K:Frag} {h:Heap} {mg:Str->Option Value} {x:Str} {C:Addr} {bm:List Value} {nid:String} (X:K.In h) (G:h.Ns mainGlobals mg) (e:nsIn K mainGlobals x = some (some (.ref C))) (q:excIn K C bm nid = true):OwnCls x C bm nid mg h:=by
 have b:mg x = some (.ref C):=mg_of X G e
 refine ⟨b,?_⟩
 simp only [excIn] at q
 split at q
 case h_2=>cases q
 rename_i dd cd sl ho
 obtain ⟨nm,bs,mro,ns,qn,hd,sn,sub,ab,col,del⟩:=cd
 obtain ⟨l⟩:=sl
 dsimp only at q
 split at q
 case h_2=>cases q
 rename_i C' m k0 k1 k2 k3 n k5
 simp only [Bool.and_eq_true,beq_iff_eq,Bool.not_eq_true'] at q
 obtain ⟨⟨⟨⟨⟨rfl,rfl⟩,rfl⟩,ht⟩,hok⟩,hni⟩:=q
 exact ⟨m,ns,nm,qn,bs,hd,sn,sub,ab,col,dd,k0,k1,k2,k3,k5,_,X _ _ ho,.of_isNs (PySem.W.isNs_of_in X hok),PySem.W.nsMap_none_of_in X hok hni,PySem.W.tail_of_in X ht⟩
theorem ktab_of {w:World} {K:Frag} {Gr:Addr} {es:Array DictEntry} {n:Nat} {t0 t1 t2 t3 t4:Tok} (hl:K.lookup Gr = some ⟨.type "dict",none,.dict es n,#[]⟩) (hk:KeysLit w.params es.toList) (h0:nsIn K Gr "seat" = some (some (.int 0 t0))) (h1:nsIn K Gr "both" = some (some (.int 0 t1))) (h2:nsIn K Gr "tail" = some (some (.int 1 t2)))
  (h3:nsIn K Gr "tag" = some (some (.int 2 t3))) (h4:nsIn K Gr "bag" = some (some (.int 3 t4))):KTab w K Gr grpV:=by
 refine ⟨⟨es,n,hl,hk⟩,fun x v h=>?_⟩
 unfold grpV at h
 by_cases e0:x = "seat"
 ·subst e0; rw [List.lookup_cons_self] at h; cases h; exact ⟨_,h0,_,rfl⟩
 rw [List.lookup_cons,beq_eq_false_iff_ne.mpr e0] at h
 by_cases e1:x = "both"
 ·subst e1; rw [List.lookup_cons_self] at h; cases h; exact ⟨_,h1,_,rfl⟩
 rw [List.lookup_cons,beq_eq_false_iff_ne.mpr e1] at h
 by_cases e2:x = "tail"
 ·subst e2; rw [List.lookup_cons_self] at h; cases h; exact ⟨_,h2,_,rfl⟩
 rw [List.lookup_cons,beq_eq_false_iff_ne.mpr e2] at h
 by_cases e3:x = "tag"
 ·subst e3; rw [List.lookup_cons_self] at h; cases h; exact ⟨_,h3,_,rfl⟩
 rw [List.lookup_cons,beq_eq_false_iff_ne.mpr e3] at h
 by_cases e4:x = "bag"
 ·subst e4; rw [List.lookup_cons_self] at h; cases h; exact ⟨_,h4,_,rfl⟩
 rw [List.lookup_cons,beq_eq_false_iff_ne.mpr e4] at h
 cases h
theorem all_mk {l:PySem.W.OpenLaw} {w:World} {K:Frag} {h:Heap} {mg:Str->Option Value} {fa D C0 C1 C2 C3 C4 FM PT f1 f2 f3 f4 f5 f6 f7 f8 f9 f10 f11 f12 f13 f14 f15 f16 f17 f18 f19 f20 f21 f22 f23 f24 f25 f26 f27 f28 f29 f30 f31 f32 f33 f34 f35 f36 f37 f38 f39 f40 f41 f42 f43 f44 f45 f46 f47 f48 f49 f50 f51 f52 f53 f54 T8 T9 T11 T13:Addr} (X:K.In h) (G:h.Ns mainGlobals mg) (hfa:mg "law" = some (.ref fa))
  {od1 an1 od2 an2 od3 an3 od4 an4 od5 an5 od6 an6 od7 an7 od8 an8 od9 an9 od10 an10 od11 an11 od12 an12 od13 an13 od14 an14 od15 an15 od16 an16 od17 an17 od18 an18 od19 an19 od20 an20 od21 an21 od22 an22 od23 an23 od24 an24 od25 an25 od26 an26 od27 an27 od28 an28 od29 an29 od30 an30 od31 an31 od32 an32 od33 an33 od34 an34 od35 an35 od36 an36 od37 an37 od38 an38 od39 an39 od40 an40 od41 an41 od42 an42 od43 an43 od44 an44 od45 an45 od46 an46 od47 an47 od48 an48 od49 an49 od50 an50 od51 an51 od52 an52 od53 an53 od54 an54 odT8 odT9 odT11 odT13:Option Addr} {sl1 sl2 sl3 sl4 sl5 sl6 sl7 sl8 sl9 sl10 sl11 sl12 sl13 sl14 sl15 sl16 sl17 sl18 sl19 sl20 sl21 sl22 sl23 sl24 sl25 sl26 sl27 sl28 sl29 sl30 sl31 sl32 sl33 sl34 sl35 sl36 sl37 sl38 sl39 sl40 sl41 sl42 sl43 sl44 sl45 sl46 sl47 sl48 sl49 sl50 sl51 sl52 sl53 sl54 slT8 slT9 slT11 slT13:Array (Option Value)} {oc1 kV1 dc1 pm1 cd1 ct1 oc2 kV2 dc2 pm2 cd2 ct2 oc3 kV3 dc3 pm3 cd3 ct3 oc4 kV4 dc4 pm4 cd4 ct4 oc5 kV5 dc5 pm5 cd5 ct5 oc6 kV6 dc6 pm6 cd6 ct6 oc7 kV7 dc7 pm7 cd7 ct7 oc8 kV8 dc8 pm8 cd8 ct8 oc9 kV9 dc9 pm9 cd9 ct9 oc10 kV10 dc10 pm10 cd10 ct10 oc11 kV11 dc11 pm11 cd11 ct11 oc12 kV12 dc12 pm12 cd12 ct12 oc13 kV13 dc13 pm13 cd13 ct13 oc14 kV14 dc14 pm14 cd14 ct14 oc15 kV15 dc15 pm15 cd15 ct15 oc16 kV16 dc16 pm16 cd16 ct16 oc17 kV17 dc17 pm17 cd17 ct17 oc18 kV18 dc18 pm18 cd18 ct18 oc19 kV19 dc19 pm19 cd19 ct19 oc20 kV20 dc20 pm20 cd20 ct20 oc21 kV21 dc21 pm21 cd21 ct21 oc22 kV22 dc22 pm22 cd22 ct22 oc23 kV23 dc23 pm23 cd23 ct23 oc24 kV24 dc24 pm24 cd24 ct24 oc25 kV25 dc25 pm25 cd25 ct25 oc26 kV26 dc26 pm26 cd26 ct26 oc27 kV27 dc27 pm27 cd27 ct27 oc28 kV28 dc28 pm28 cd28 ct28 oc29 kV29 dc29 pm29 cd29 ct29 oc30 kV30 dc30 pm30 cd30 ct30 oc31 kV31 dc31 pm31 cd31 ct31 oc32 kV32 dc32 pm32 cd32 ct32 oc33 kV33 dc33 pm33 cd33 ct33 oc34 kV34 dc34 pm34 cd34 ct34 oc35 kV35 dc35 pm35 cd35 ct35 oc36 kV36 dc36 pm36 cd36 ct36 oc37 kV37 dc37 pm37 cd37 ct37 oc38 kV38 dc38 pm38 cd38 ct38 oc39 kV39 dc39 pm39 cd39 ct39 oc40 kV40 dc40 pm40 cd40 ct40 oc41 kV41 dc41 pm41 cd41 ct41 oc42 kV42 dc42 pm42 cd42 ct42 oc43 kV43 dc43 pm43 cd43 ct43 oc44 kV44 dc44 pm44 cd44 ct44 oc45 kV45 dc45 pm45 cd45 ct45 oc46 kV46 dc46 pm46 cd46 ct46 oc47 kV47 dc47 pm47 cd47 ct47 oc48 kV48 dc48 pm48 cd48 ct48 oc49 kV49 dc49 pm49 cd49 ct49 oc50 kV50 dc50 pm50 cd50 ct50 oc51 kV51 dc51 pm51 cd51 ct51 oc52 kV52 dc52 pm52 cd52 ct52 oc53 kV53 dc53 pm53 cd53 ct53 oc54 kV54 dc54 pm54 cd54 ct54 ocT8 ocT9 ocT11 ocT13:Value}
  {nT8 nT9 nT11 nT13:Nat}
  {CE E0 E9 E10 E11 E12 E13 E14 E15 tP tB tO sg Gr:Addr} {tL tN tMP tMB ktP0 ktP1 ktB0 ktB1 ktO0 ktO1 ktO2 ksg0 ksg1 kG0 kG1 kG2 kG3 kG4:Tok} {odtP odtB odtO odsg:Option Addr} {ntP ntB ntO nsg nG:Nat} {sltP sltB sltO slsg:Array (Option Value)} {esG:Array DictEntry}
  (aD:nsIn K mainGlobals "Parameter" = some (some (.ref D))) (pgD:plainGet K D Str.empty = true) (hdD:hasDictIn K D = true) (poD:plainOver K D = true) (saD:findIn K (.ref D) "__setattr__" = some (some (.builtin "object.__setattr__"))) (mkD:makesIn K D = true) (kcD:keepIn K (.ref D) = true)
  (aC0:nsIn K mainGlobals "Seat" = some (some (.ref C0))) (pgC0:plainGet K C0 Str.empty = true) (hdC0:hasDictIn K C0 = true) (poC0:plainOver K C0 = true) (saC0:findIn K (.ref C0) "__setattr__" = some (some (.builtin "object.__setattr__"))) (mkC0:makesIn K C0 = true) (kcC0:keepIn K (.ref C0) = true)
  (nC0_word:findIn K (.ref C0) "word" = some none)
  (nC0_name:findIn K (.ref C0) "name" = some none)
  (nC0_may_lack:findIn K (.ref C0) "may_lack" = some none)
  (aC1:nsIn K mainGlobals "Both" = some (some (.ref C1))) (pgC1:plainGet K C1 Str.empty = true) (hdC1:hasDictIn K C1 = true) (poC1:plainOver K C1 = true) (saC1:findIn K (.ref C1) "__setattr__" = some (some (.builtin "object.__setattr__"))) (mkC1:makesIn K C1 = true) (kcC1:keepIn K (.ref C1) = true)
  (nC1_word:findIn K (.ref C1) "word" = some none)
  (nC1_name:findIn K (.ref C1) "name" = some none)
  (nC1_may_lack:findIn K (.ref C1) "may_lack" = some none)
  (aC2:nsIn K mainGlobals "Tail" = some (some (.ref C2))) (pgC2:plainGet K C2 Str.empty = true) (hdC2:hasDictIn K C2 = true) (poC2:plainOver K C2 = true) (saC2:findIn K (.ref C2) "__setattr__" = some (some (.builtin "object.__setattr__"))) (mkC2:makesIn K C2 = true) (kcC2:keepIn K (.ref C2) = true)
  (nC2_word:findIn K (.ref C2) "word" = some none)
  (nC2_name:findIn K (.ref C2) "name" = some none)
  (nC2_may_lack:findIn K (.ref C2) "may_lack" = some none)
  (aC3:nsIn K mainGlobals "Tag" = some (some (.ref C3))) (pgC3:plainGet K C3 Str.empty = true) (hdC3:hasDictIn K C3 = true) (poC3:plainOver K C3 = true) (saC3:findIn K (.ref C3) "__setattr__" = some (some (.builtin "object.__setattr__"))) (mkC3:makesIn K C3 = true) (kcC3:keepIn K (.ref C3) = true)
  (nC3_word:findIn K (.ref C3) "word" = some none)
  (nC3_name:findIn K (.ref C3) "name" = some none)
  (nC3_may_lack:findIn K (.ref C3) "may_lack" = some none)
  (aC4:nsIn K mainGlobals "Bag" = some (some (.ref C4))) (pgC4:plainGet K C4 Str.empty = true) (hdC4:hasDictIn K C4 = true) (poC4:plainOver K C4 = true) (saC4:findIn K (.ref C4) "__setattr__" = some (some (.builtin "object.__setattr__"))) (mkC4:makesIn K C4 = true) (kcC4:keepIn K (.ref C4) = true)
  (nC4_word:findIn K (.ref C4) "word" = some none)
  (nC4_name:findIn K (.ref C4) "name" = some none)
  (nC4_may_lack:findIn K (.ref C4) "may_lack" = some none)
  (aFM:nsIn K mainGlobals "Form" = some (some (.ref FM))) (pgFM:plainGet K FM Str.empty = true) (hdFM:hasDictIn K FM = true) (poFM:plainOver K FM = true) (saFM:findIn K (.ref FM) "__setattr__" = some (some (.builtin "object.__setattr__"))) (mkFM:makesIn K FM = true) (kcFM:keepIn K (.ref FM) = true)
  (nFM_row:findIn K (.ref FM) "row" = some none)
  (nFM_bar_names:findIn K (.ref FM) "bar_names" = some none)
  (nFM_place_count:findIn K (.ref FM) "place_count" = some none)
  (nFM_tail_number:findIn K (.ref FM) "tail_number" = some none)
  (nFM_bag_number:findIn K (.ref FM) "bag_number" = some none)
  (nFM_doors:findIn K (.ref FM) "doors" = some none)
  (aPT:nsIn K mainGlobals "Part" = some (some (.ref PT))) (pgPT:plainGet K PT Str.empty = true) (hdPT:hasDictIn K PT = true) (poPT:plainOver K PT = true) (saPT:findIn K (.ref PT) "__setattr__" = some (some (.builtin "object.__setattr__"))) (mkPT:makesIn K PT = true) (kcPT:keepIn K (.ref PT) = true)
  (nPT_kept_form:findIn K (.ref PT) "kept_form" = some none)
  (nPT_things:findIn K (.ref PT) "things" = some none)
  (nPT_pairs:findIn K (.ref PT) "pairs" = some none)
  (a1:nsIn K mainGlobals "is_name" = some (some (.ref f1)))
  (l1:K.lookup f1 = some ⟨oc1,od1,.func (fnOf "is_name" "is_name" (defArgs sIs) (defBody sIs) (defScope sIs) .none kV1 dc1 pm1 an1 cd1 ct1),sl1⟩) (c1:codeIn K cd1 "is_name" = true) (k1:keepIn K (.ref f1) = true)
  (a2:findIn K (.ref D) "__init__" = some (some (.ref f2))) (i2:isFn K (.ref f2) = true)
  (l2:K.lookup f2 = some ⟨oc2,od2,.func (fnOf "__init__" "Parameter.__init__" (defArgs sPInit) (defBody sPInit) (defScope sPInit) .none kV2 dc2 pm2 an2 cd2 ct2),sl2⟩) (c2:codeIn K cd2 "Parameter.__init__" = true) (k2:keepIn K (.ref f2) = true)
  (a3:findIn K (.ref D) "free" = some (some (.ref f3))) (i3:isFn K (.ref f3) = true)
  (l3:K.lookup f3 = some ⟨oc3,od3,.func (fnOf "free" "Parameter.free" (defArgs sFree) (defBody sFree) (defScope sFree) .none kV3 dc3 pm3 an3 cd3 ct3),sl3⟩) (c3:codeIn K cd3 "Parameter.free" = true) (k3:keepIn K (.ref f3) = true)
  (a4:findIn K (.ref D) "by_place" = some (some (.ref f4))) (i4:isFn K (.ref f4) = true)
  (l4:K.lookup f4 = some ⟨oc4,od4,.func (fnOf "by_place" "Parameter.by_place" (defArgs sByPlace) (defBody sByPlace) (defScope sByPlace) .none kV4 dc4 pm4 an4 cd4 ct4),sl4⟩) (c4:codeIn K cd4 "Parameter.by_place" = true) (k4:keepIn K (.ref f4) = true)
  (a5:findIn K (.ref D) "by_name" = some (some (.ref f5))) (i5:isFn K (.ref f5) = true)
  (l5:K.lookup f5 = some ⟨oc5,od5,.func (fnOf "by_name" "Parameter.by_name" (defArgs sByName) (defBody sByName) (defScope sByName) .none kV5 dc5 pm5 an5 cd5 ct5),sl5⟩) (c5:codeIn K cd5 "Parameter.by_name" = true) (k5:keepIn K (.ref f5) = true)
  (a6:findIn K (.ref D) "takes_one" = some (some (.ref f6))) (i6:isFn K (.ref f6) = true)
  (l6:K.lookup f6 = some ⟨oc6,od6,.func (fnOf "takes_one" "Parameter.takes_one" (defArgs sTakes) (defBody sTakes) (defScope sTakes) .none kV6 dc6 pm6 an6 cd6 ct6),sl6⟩) (c6:codeIn K cd6 "Parameter.takes_one" = true) (k6:keepIn K (.ref f6) = true)
  (a7:findIn K (.ref D) "told" = some (some (.ref f7))) (i7:isFn K (.ref f7) = true)
  (l7:K.lookup f7 = some ⟨oc7,od7,.func (fnOf "told" "Parameter.told" (defArgs sTold) (defBody sTold) (defScope sTold) .none kV7 dc7 pm7 an7 cd7 ct7),sl7⟩) (c7:codeIn K cd7 "Parameter.told" = true) (k7:keepIn K (.ref f7) = true)
  (a8:findIn K (.ref C0) "__init__" = some (some (.ref f8))) (i8:isFn K (.ref f8) = true)
  (l8:K.lookup f8 = some ⟨oc8,od8,.func (fnOf "__init__" "Seat.__init__" (defArgs sSeat) (defBody sSeat) (defScope sSeat) (.ref T8) kV8 dc8 pm8 an8 cd8 ct8),sl8⟩) (c8:codeIn K cd8 "Seat.__init__" = true) (k8:keepIn K (.ref f8) = true)
  (t8:K.lookup T8 = some ⟨ocT8,odT8,.seq #[Value.bool false] nT8,slT8⟩)
  (a9:findIn K (.ref C1) "__init__" = some (some (.ref f9))) (i9:isFn K (.ref f9) = true)
  (l9:K.lookup f9 = some ⟨oc9,od9,.func (fnOf "__init__" "Both.__init__" (defArgs sBoth) (defBody sBoth) (defScope sBoth) (.ref T9) kV9 dc9 pm9 an9 cd9 ct9),sl9⟩) (c9:codeIn K cd9 "Both.__init__" = true) (k9:keepIn K (.ref f9) = true)
  (t9:K.lookup T9 = some ⟨ocT9,odT9,.seq #[Value.bool false] nT9,slT9⟩)
  (a10:findIn K (.ref C2) "__init__" = some (some (.ref f10))) (i10:isFn K (.ref f10) = true)
  (l10:K.lookup f10 = some ⟨oc10,od10,.func (fnOf "__init__" "Tail.__init__" (defArgs sTail) (defBody sTail) (defScope sTail) .none kV10 dc10 pm10 an10 cd10 ct10),sl10⟩) (c10:codeIn K cd10 "Tail.__init__" = true) (k10:keepIn K (.ref f10) = true)
  (a11:findIn K (.ref C3) "__init__" = some (some (.ref f11))) (i11:isFn K (.ref f11) = true)
  (l11:K.lookup f11 = some ⟨oc11,od11,.func (fnOf "__init__" "Tag.__init__" (defArgs sTag) (defBody sTag) (defScope sTag) (.ref T11) kV11 dc11 pm11 an11 cd11 ct11),sl11⟩) (c11:codeIn K cd11 "Tag.__init__" = true) (k11:keepIn K (.ref f11) = true)
  (t11:K.lookup T11 = some ⟨ocT11,odT11,.seq #[Value.bool false] nT11,slT11⟩)
  (a12:findIn K (.ref C4) "__init__" = some (some (.ref f12))) (i12:isFn K (.ref f12) = true)
  (l12:K.lookup f12 = some ⟨oc12,od12,.func (fnOf "__init__" "Bag.__init__" (defArgs sBag) (defBody sBag) (defScope sBag) .none kV12 dc12 pm12 an12 cd12 ct12),sl12⟩) (c12:codeIn K cd12 "Bag.__init__" = true) (k12:keepIn K (.ref f12) = true)
  (a13:findIn K (.ref FM) "__init__" = some (some (.ref f13))) (i13:isFn K (.ref f13) = true)
  (l13:K.lookup f13 = some ⟨oc13,od13,.func (fnOf "__init__" "Form.__init__" (defArgs sFInit) (defBody sFInit) (defScope sFInit) (.ref T13) kV13 dc13 pm13 an13 cd13 ct13),sl13⟩) (c13:codeIn K cd13 "Form.__init__" = true) (k13:keepIn K (.ref f13) = true)
  (t13:K.lookup T13 = some ⟨ocT13,odT13,.seq #[Value.none] nT13,slT13⟩)
  (a14:findIn K (.ref FM) "keep" = some (some (.ref f14))) (i14:isFn K (.ref f14) = true)
  (l14:K.lookup f14 = some ⟨oc14,od14,.func (fnOf "keep" "Form.keep" (defArgs sKeep) (defBody sKeep) (defScope sKeep) .none kV14 dc14 pm14 an14 cd14 ct14),sl14⟩) (c14:codeIn K cd14 "Form.keep" = true) (k14:keepIn K (.ref f14) = true)
  (a15:findIn K (.ref FM) "parameters" = some (some (.ref f15))) (i15:isFn K (.ref f15) = true)
  (l15:K.lookup f15 = some ⟨oc15,od15,.func (fnOf "parameters" "Form.parameters" (defArgs sFPars) (defBody sFPars) (defScope sFPars) .none kV15 dc15 pm15 an15 cd15 ct15),sl15⟩) (c15:codeIn K cd15 "Form.parameters" = true) (k15:keepIn K (.ref f15) = true)
  (a16:findIn K (.ref FM) "bars" = some (some (.ref f16))) (i16:isFn K (.ref f16) = true)
  (l16:K.lookup f16 = some ⟨oc16,od16,.func (fnOf "bars" "Form.bars" (defArgs sFBars) (defBody sFBars) (defScope sFBars) .none kV16 dc16 pm16 an16 cd16 ct16),sl16⟩) (c16:codeIn K cd16 "Form.bars" = true) (k16:keepIn K (.ref f16) = true)
  (a17:findIn K (.ref FM) "places" = some (some (.ref f17))) (i17:isFn K (.ref f17) = true)
  (l17:K.lookup f17 = some ⟨oc17,od17,.func (fnOf "places" "Form.places" (defArgs sFPlaces) (defBody sFPlaces) (defScope sFPlaces) .none kV17 dc17 pm17 an17 cd17 ct17),sl17⟩) (c17:codeIn K cd17 "Form.places" = true) (k17:keepIn K (.ref f17) = true)
  (a18:findIn K (.ref FM) "tail" = some (some (.ref f18))) (i18:isFn K (.ref f18) = true)
  (l18:K.lookup f18 = some ⟨oc18,od18,.func (fnOf "tail" "Form.tail" (defArgs sFTail) (defBody sFTail) (defScope sFTail) .none kV18 dc18 pm18 an18 cd18 ct18),sl18⟩) (c18:codeIn K cd18 "Form.tail" = true) (k18:keepIn K (.ref f18) = true)
  (a19:findIn K (.ref FM) "bag" = some (some (.ref f19))) (i19:isFn K (.ref f19) = true)
  (l19:K.lookup f19 = some ⟨oc19,od19,.func (fnOf "bag" "Form.bag" (defArgs sFBag) (defBody sFBag) (defScope sFBag) .none kV19 dc19 pm19 an19 cd19 ct19),sl19⟩) (c19:codeIn K cd19 "Form.bag" = true) (k19:keepIn K (.ref f19) = true)
  (a20:findIn K (.ref FM) "number_of" = some (some (.ref f20))) (i20:isFn K (.ref f20) = true)
  (l20:K.lookup f20 = some ⟨oc20,od20,.func (fnOf "number_of" "Form.number_of" (defArgs sFNum) (defBody sFNum) (defScope sFNum) .none kV20 dc20 pm20 an20 cd20 ct20),sl20⟩) (c20:codeIn K cd20 "Form.number_of" = true) (k20:keepIn K (.ref f20) = true)
  (a21:findIn K (.ref FM) "told" = some (some (.ref f21))) (i21:isFn K (.ref f21) = true)
  (l21:K.lookup f21 = some ⟨oc21,od21,.func (fnOf "told" "Form.told" (defArgs sFTold) (defBody sFTold) (defScope sFTold) .none kV21 dc21 pm21 an21 cd21 ct21),sl21⟩) (c21:codeIn K cd21 "Form.told" = true) (k21:keepIn K (.ref f21) = true)
  (a22:findIn K (.ref PT) "__init__" = some (some (.ref f22))) (i22:isFn K (.ref f22) = true)
  (l22:K.lookup f22 = some ⟨oc22,od22,.func (fnOf "__init__" "Part.__init__" (defArgs sPtInit) (defBody sPtInit) (defScope sPtInit) .none kV22 dc22 pm22 an22 cd22 ct22),sl22⟩) (c22:codeIn K cd22 "Part.__init__" = true) (k22:keepIn K (.ref f22) = true)
  (a23:findIn K (.ref E15) "__init__" = some (some (.ref f23))) (i23:isFn K (.ref f23) = true)
  (l23:K.lookup f23 = some ⟨oc23,od23,.func (fnOf "__init__" "Misfit.__init__" (defArgs sXMis) (defBody sXMis) (defScope sXMis) .none kV23 dc23 pm23 an23 cd23 ct23),sl23⟩) (c23:codeIn K cd23 "Misfit.__init__" = true) (k23:keepIn K (.ref f23) = true)
  (a24:nsIn K mainGlobals "parameter_of" = some (some (.ref f24)))
  (l24:K.lookup f24 = some ⟨oc24,od24,.func (fnOf "parameter_of" "parameter_of" (defArgs sPof) (defBody sPof) (defScope sPof) .none kV24 dc24 pm24 an24 cd24 ct24),sl24⟩) (c24:codeIn K cd24 "parameter_of" = true) (k24:keepIn K (.ref f24) = true)
  (a25:nsIn K mainGlobals "refuse_too_many" = some (some (.ref f25)))
  (l25:K.lookup f25 = some ⟨oc25,od25,.func (fnOf "refuse_too_many" "refuse_too_many" (defArgs sRMany) (defBody sRMany) (defScope sRMany) .none kV25 dc25 pm25 an25 cd25 ct25),sl25⟩) (c25:codeIn K cd25 "refuse_too_many" = true) (k25:keepIn K (.ref f25) = true)
  (a26:nsIn K mainGlobals "refuse_bad_order" = some (some (.ref f26)))
  (l26:K.lookup f26 = some ⟨oc26,od26,.func (fnOf "refuse_bad_order" "refuse_bad_order" (defArgs sROrder) (defBody sROrder) (defScope sROrder) .none kV26 dc26 pm26 an26 cd26 ct26),sl26⟩) (c26:codeIn K cd26 "refuse_bad_order" = true) (k26:keepIn K (.ref f26) = true)
  (a27:nsIn K mainGlobals "refuse_bars_without_name" = some (some (.ref f27)))
  (l27:K.lookup f27 = some ⟨oc27,od27,.func (fnOf "refuse_bars_without_name" "refuse_bars_without_name" (defArgs sRBars) (defBody sRBars) (defScope sRBars) .none kV27 dc27 pm27 an27 cd27 ct27),sl27⟩) (c27:codeIn K cd27 "refuse_bars_without_name" = true) (k27:keepIn K (.ref f27) = true)
  (a28:nsIn K mainGlobals "refuse_twice" = some (some (.ref f28)))
  (l28:K.lookup f28 = some ⟨oc28,od28,.func (fnOf "refuse_twice" "refuse_twice" (defArgs sRTwice) (defBody sRTwice) (defScope sRTwice) .none kV28 dc28 pm28 an28 cd28 ct28),sl28⟩) (c28:codeIn K cd28 "refuse_twice" = true) (k28:keepIn K (.ref f28) = true)
  (a29:nsIn K mainGlobals "number_of_word" = some (some (.ref f29)))
  (l29:K.lookup f29 = some ⟨oc29,od29,.func (fnOf "number_of_word" "number_of_word" (defArgs sNumW) (defBody sNumW) (defScope sNumW) .none kV29 dc29 pm29 an29 cd29 ct29),sl29⟩) (c29:codeIn K cd29 "number_of_word" = true) (k29:keepIn K (.ref f29) = true)
  (a30:nsIn K mainGlobals "laid" = some (some (.ref f30)))
  (l30:K.lookup f30 = some ⟨oc30,od30,.func (fnOf "laid" "laid" (defArgs sLaid) (defBody sLaid) (defScope sLaid) .none kV30 dc30 pm30 an30 cd30 ct30),sl30⟩) (c30:codeIn K cd30 "laid" = true) (k30:keepIn K (.ref f30) = true)
  (a31:nsIn K mainGlobals "misfits" = some (some (.ref f31)))
  (l31:K.lookup f31 = some ⟨oc31,od31,.func (fnOf "misfits" "misfits" (defArgs sMisfits) (defBody sMisfits) (defScope sMisfits) .none kV31 dc31 pm31 an31 cd31 ct31),sl31⟩) (c31:codeIn K cd31 "misfits" = true) (k31:keepIn K (.ref f31) = true)
  (a32:nsIn K mainGlobals "shape" = some (some (.ref f32)))
  (l32:K.lookup f32 = some ⟨oc32,od32,.func (fnOf "shape" "shape" (defArgs sShape) (defBody sShape) (defScope sShape) .none kV32 dc32 pm32 an32 cd32 ct32),sl32⟩) (c32:codeIn K cd32 "shape" = true) (k32:keepIn K (.ref f32) = true)
  (a33:nsIn K mainGlobals "first_numbers" = some (some (.ref f33)))
  (l33:K.lookup f33 = some ⟨oc33,od33,.func (fnOf "first_numbers" "first_numbers" (defArgs sFirsts) (defBody sFirsts) (defScope sFirsts) .none kV33 dc33 pm33 an33 cd33 ct33),sl33⟩) (c33:codeIn K cd33 "first_numbers" = true) (k33:keepIn K (.ref f33) = true)
  (a34:nsIn K mainGlobals "misfits_of" = some (some (.ref f34)))
  (l34:K.lookup f34 = some ⟨oc34,od34,.func (fnOf "misfits_of" "misfits_of" (defArgs sMOf) (defBody sMOf) (defScope sMOf) .none kV34 dc34 pm34 an34 cd34 ct34),sl34⟩) (c34:codeIn K cd34 "misfits_of" = true) (k34:keepIn K (.ref f34) = true)
  (a35:nsIn K mainGlobals "overs" = some (some (.ref f35)))
  (l35:K.lookup f35 = some ⟨oc35,od35,.func (fnOf "overs" "overs" (defArgs sOvers) (defBody sOvers) (defScope sOvers) .none kV35 dc35 pm35 an35 cd35 ct35),sl35⟩) (c35:codeIn K cd35 "overs" = true) (k35:keepIn K (.ref f35) = true)
  (a36:nsIn K mainGlobals "unwelcomes" = some (some (.ref f36)))
  (l36:K.lookup f36 = some ⟨oc36,od36,.func (fnOf "unwelcomes" "unwelcomes" (defArgs sUnw) (defBody sUnw) (defScope sUnw) .none kV36 dc36 pm36 an36 cd36 ct36),sl36⟩) (c36:codeIn K cd36 "unwelcomes" = true) (k36:keepIn K (.ref f36) = true)
  (a37:nsIn K mainGlobals "lackings" = some (some (.ref f37)))
  (l37:K.lookup f37 = some ⟨oc37,od37,.func (fnOf "lackings" "lackings" (defArgs sLack) (defBody sLack) (defScope sLack) .none kV37 dc37 pm37 an37 cd37 ct37),sl37⟩) (c37:codeIn K cd37 "lackings" = true) (k37:keepIn K (.ref f37) = true)
  (a38:nsIn K mainGlobals "one_entry" = some (some (.ref f38)))
  (l38:K.lookup f38 = some ⟨oc38,od38,.func (fnOf "one_entry" "one_entry" (defArgs sOneE) (defBody sOneE) (defScope sOneE) .none kV38 dc38 pm38 an38 cd38 ct38),sl38⟩) (c38:codeIn K cd38 "one_entry" = true) (k38:keepIn K (.ref f38) = true)
  (a39:nsIn K mainGlobals "refuse" = some (some (.ref f39)))
  (l39:K.lookup f39 = some ⟨oc39,od39,.func (fnOf "refuse" "refuse" (defArgs sRefuse) (defBody sRefuse) (defScope sRefuse) .none kV39 dc39 pm39 an39 cd39 ct39),sl39⟩) (c39:codeIn K cd39 "refuse" = true) (k39:keepIn K (.ref f39) = true)
  (a40:nsIn K mainGlobals "refuse_first_things" = some (some (.ref f40)))
  (l40:K.lookup f40 = some ⟨oc40,od40,.func (fnOf "refuse_first_things" "refuse_first_things" (defArgs sRFirst) (defBody sRFirst) (defScope sRFirst) .none kV40 dc40 pm40 an40 cd40 ct40),sl40⟩) (c40:codeIn K cd40 "refuse_first_things" = true) (k40:keepIn K (.ref f40) = true)
  (a41:nsIn K mainGlobals "_law_nth" = some (some (.ref f41)))
  (l41:K.lookup f41 = some ⟨oc41,od41,.func (fnOf "_law_nth" "_law_nth" (defArgs sNth) (defBody sNth) (defScope sNth) .none kV41 dc41 pm41 an41 cd41 ct41),sl41⟩) (c41:codeIn K cd41 "_law_nth" = true) (k41:keepIn K (.ref f41) = true)
  (a42:nsIn K mainGlobals "_law_stirred" = some (some (.ref f42)))
  (l42:K.lookup f42 = some ⟨oc42,od42,.func (fnOf "_law_stirred" "_law_stirred" (defArgs sStir) (defBody sStir) (defScope sStir) .none kV42 dc42 pm42 an42 cd42 ct42),sl42⟩) (c42:codeIn K cd42 "_law_stirred" = true) (k42:keepIn K (.ref f42) = true)
  (a43:nsIn K mainGlobals "_law_pool" = some (some (.ref f43)))
  (l43:K.lookup f43 = some ⟨oc43,od43,.func (fnOf "_law_pool" "_law_pool" (defArgs sPool) (defBody sPool) (defScope sPool) .none kV43 dc43 pm43 an43 cd43 ct43),sl43⟩) (c43:codeIn K cd43 "_law_pool" = true) (k43:keepIn K (.ref f43) = true)
  (a44:nsIn K mainGlobals "_law_row" = some (some (.ref f44)))
  (l44:K.lookup f44 = some ⟨oc44,od44,.func (fnOf "_law_row" "_law_row" (defArgs sRow) (defBody sRow) (defScope sRow) .none kV44 dc44 pm44 an44 cd44 ct44),sl44⟩) (c44:codeIn K cd44 "_law_row" = true) (k44:keepIn K (.ref f44) = true)
  (a45:nsIn K mainGlobals "_law_bars" = some (some (.ref f45)))
  (l45:K.lookup f45 = some ⟨oc45,od45,.func (fnOf "_law_bars" "_law_bars" (defArgs sBars) (defBody sBars) (defScope sBars) .none kV45 dc45 pm45 an45 cd45 ct45),sl45⟩) (c45:codeIn K cd45 "_law_bars" = true) (k45:keepIn K (.ref f45) = true)
  (a46:nsIn K mainGlobals "_law_form" = some (some (.ref f46)))
  (l46:K.lookup f46 = some ⟨oc46,od46,.func (fnOf "_law_form" "_law_form" (defArgs sForm) (defBody sForm) (defScope sForm) .none kV46 dc46 pm46 an46 cd46 ct46),sl46⟩) (c46:codeIn K cd46 "_law_form" = true) (k46:keepIn K (.ref f46) = true)
  (a47:nsIn K mainGlobals "_law_number" = some (some (.ref f47)))
  (l47:K.lookup f47 = some ⟨oc47,od47,.func (fnOf "_law_number" "_law_number" (defArgs sNumber) (defBody sNumber) (defScope sNumber) .none kV47 dc47 pm47 an47 cd47 ct47),sl47⟩) (c47:codeIn K cd47 "_law_number" = true) (k47:keepIn K (.ref f47) = true)
  (a48:nsIn K mainGlobals "_law_items" = some (some (.ref f48)))
  (l48:K.lookup f48 = some ⟨oc48,od48,.func (fnOf "_law_items" "_law_items" (defArgs sItems) (defBody sItems) (defScope sItems) .none kV48 dc48 pm48 an48 cd48 ct48),sl48⟩) (c48:codeIn K cd48 "_law_items" = true) (k48:keepIn K (.ref f48) = true)
  (a49:nsIn K mainGlobals "_law_laid" = some (some (.ref f49)))
  (l49:K.lookup f49 = some ⟨oc49,od49,.func (fnOf "_law_laid" "_law_laid" (defArgs sLLaid) (defBody sLLaid) (defScope sLLaid) .none kV49 dc49 pm49 an49 cd49 ct49),sl49⟩) (c49:codeIn K cd49 "_law_laid" = true) (k49:keepIn K (.ref f49) = true)
  (a50:nsIn K mainGlobals "_law_is_tame" = some (some (.ref f50)))
  (l50:K.lookup f50 = some ⟨oc50,od50,.func (fnOf "_law_is_tame" "_law_is_tame" (defArgs sTame) (defBody sTame) (defScope sTame) .none kV50 dc50 pm50 an50 cd50 ct50),sl50⟩) (c50:codeIn K cd50 "_law_is_tame" = true) (k50:keepIn K (.ref f50) = true)
  (a51:nsIn K mainGlobals "_law_tamed" = some (some (.ref f51)))
  (l51:K.lookup f51 = some ⟨oc51,od51,.func (fnOf "_law_tamed" "_law_tamed" (defArgs sTamed) (defBody sTamed) (defScope sTamed) .none kV51 dc51 pm51 an51 cd51 ct51),sl51⟩) (c51:codeIn K cd51 "_law_tamed" = true) (k51:keepIn K (.ref f51) = true)
  (a52:nsIn K mainGlobals "_law_first_wrong" = some (some (.ref f52)))
  (l52:K.lookup f52 = some ⟨oc52,od52,.func (fnOf "_law_first_wrong" "_law_first_wrong" (defArgs sFW) (defBody sFW) (defScope sFW) .none kV52 dc52 pm52 an52 cd52 ct52),sl52⟩) (c52:codeIn K cd52 "_law_first_wrong" = true) (k52:keepIn K (.ref f52) = true)
  (a53:nsIn K mainGlobals "_law_made" = some (some (.ref f53)))
  (l53:K.lookup f53 = some ⟨oc53,od53,.func (fnOf "_law_made" "_law_made" (defArgs sLMade) (defBody sLMade) (defScope sLMade) .none kV53 dc53 pm53 an53 cd53 ct53),sl53⟩) (c53:codeIn K cd53 "_law_made" = true) (k53:keepIn K (.ref f53) = true)
  (a54:nsIn K mainGlobals "law" = some (some (.ref f54)))
  (l54:K.lookup f54 = some ⟨oc54,od54,.func (fnOf "law" "law" (defArgs sLaw) (defBody sLaw) (defScope sLaw) .none kV54 dc54 pm54 an54 cd54 ct54),sl54⟩) (c54:codeIn K cd54 "law" = true) (k54:keepIn K (.ref f54) = true)
  (zisinstance:nsIn K mainGlobals "isinstance" = some none)
  (zstr:nsIn K mainGlobals "str" = some none)
  (zbool:nsIn K mainGlobals "bool" = some none)
  (zlen:nsIn K mainGlobals "len" = some none)
  (zall:nsIn K mainGlobals "all" = some none)
  (zrange:nsIn K mainGlobals "range" = some none)
  (zlist:nsIn K mainGlobals "list" = some none)
  (zenumerate:nsIn K mainGlobals "enumerate" = some none)
  (zset:nsIn K mainGlobals "set" = some none)
  (ztuple:nsIn K mainGlobals "tuple" = some none)
  (zValueError:nsIn K mainGlobals "ValueError" = some none)
  (gL:nsIn K mainGlobals "LETTERS" = some (some (.str letters tL)))
  (gN:nsIn K mainGlobals "LONGEST" = some (some (.int 8 tN)))
  (gMP:nsIn K mainGlobals "MOST_PARAMETERS" = some (some (.int 24 tMP)))
  (gMB:nsIn K mainGlobals "MOST_BARS" = some (some (.int 60 tMB)))
  (ytP:nsIn K mainGlobals "BY_PLACE" = some (some (.ref tP)))
  (utP:K.lookup tP = some ⟨.type "tuple",odtP,.seq #[.str "seat" ktP0,.str "both" ktP1] ntP,sltP⟩)
  (ytB:nsIn K mainGlobals "BY_NAME" = some (some (.ref tB)))
  (utB:K.lookup tB = some ⟨.type "tuple",odtB,.seq #[.str "both" ktB0,.str "tag" ktB1] ntB,sltB⟩)
  (ytO:nsIn K mainGlobals "OF_ONE_THING" = some (some (.ref tO)))
  (utO:K.lookup tO = some ⟨.type "tuple",odtO,.seq #[.str "seat" ktO0,.str "both" ktO1,.str "tag" ktO2] ntO,sltO⟩)
  (ysg:nsIn K mainGlobals "SINGLE_GROUPS" = some (some (.ref sg)))
  (usg:K.lookup sg = some ⟨.type "tuple",odsg,.seq #[.int 1 ksg0,.int 3 ksg1] nsg,slsg⟩)
  (yGr:nsIn K mainGlobals "GROUPS" = some (some (.ref Gr)))
  (lGr:K.lookup Gr = some ⟨.type "dict",none,.dict esG nG,#[]⟩)
  (kGr:KeysLit w.params esG.toList)
  (eG0:nsIn K Gr "seat" = some (some (.int 0 kG0)))
  (eG1:nsIn K Gr "both" = some (some (.int 0 kG1)))
  (eG2:nsIn K Gr "tail" = some (some (.int 1 kG2)))
  (eG3:nsIn K Gr "tag" = some (some (.int 2 kG3)))
  (eG4:nsIn K Gr "bag" = some (some (.int 3 kG4)))
  (dga:specialIn K (.ref D) "__getattribute__" = some (some (.builtin "type.__getattribute__")))
  (drd:PySem.W.readsIn K D (.type "type") = true)
  (dfc:PySem.W.findCls K (.ref D) (.type "type") "__init__" = some (.val (.ref f2)))
  (h0_3:findIn K (.ref C0) "free" = some (some (.ref f3)))
  (h0_4:findIn K (.ref C0) "by_place" = some (some (.ref f4)))
  (h0_5:findIn K (.ref C0) "by_name" = some (some (.ref f5)))
  (h0_6:findIn K (.ref C0) "takes_one" = some (some (.ref f6)))
  (h0_7:findIn K (.ref C0) "told" = some (some (.ref f7)))
  (h1_3:findIn K (.ref C1) "free" = some (some (.ref f3)))
  (h1_4:findIn K (.ref C1) "by_place" = some (some (.ref f4)))
  (h1_5:findIn K (.ref C1) "by_name" = some (some (.ref f5)))
  (h1_6:findIn K (.ref C1) "takes_one" = some (some (.ref f6)))
  (h1_7:findIn K (.ref C1) "told" = some (some (.ref f7)))
  (h2_3:findIn K (.ref C2) "free" = some (some (.ref f3)))
  (h2_4:findIn K (.ref C2) "by_place" = some (some (.ref f4)))
  (h2_5:findIn K (.ref C2) "by_name" = some (some (.ref f5)))
  (h2_6:findIn K (.ref C2) "takes_one" = some (some (.ref f6)))
  (h2_7:findIn K (.ref C2) "told" = some (some (.ref f7)))
  (h3_3:findIn K (.ref C3) "free" = some (some (.ref f3)))
  (h3_4:findIn K (.ref C3) "by_place" = some (some (.ref f4)))
  (h3_5:findIn K (.ref C3) "by_name" = some (some (.ref f5)))
  (h3_6:findIn K (.ref C3) "takes_one" = some (some (.ref f6)))
  (h3_7:findIn K (.ref C3) "told" = some (some (.ref f7)))
  (h4_3:findIn K (.ref C4) "free" = some (some (.ref f3)))
  (h4_4:findIn K (.ref C4) "by_place" = some (some (.ref f4)))
  (h4_5:findIn K (.ref C4) "by_name" = some (some (.ref f5)))
  (h4_6:findIn K (.ref C4) "takes_one" = some (some (.ref f6)))
  (h4_7:findIn K (.ref C4) "told" = some (some (.ref f7)))
  (yCE:nsIn K mainGlobals "CallError" = some (some (.ref CE)))
  (xgt:specialIn K (.builtin "object.__class__") "__get__" = some (some (.builtin "getset_descriptor.__get__")))
  (xtk:PySem.W.takesIn K (.builtin "object.__class__") = some true)
  (yE0:nsIn K mainGlobals "NoName" = some (some (.ref E0)))
  (yE9:nsIn K mainGlobals "Doubled" = some (some (.ref E9)))
  (yE10:nsIn K mainGlobals "Over" = some (some (.ref E10)))
  (yE11:nsIn K mainGlobals "Barred" = some (some (.ref E11)))
  (yE12:nsIn K mainGlobals "Again" = some (some (.ref E12)))
  (yE13:nsIn K mainGlobals "Strange" = some (some (.ref E13)))
  (yE14:nsIn K mainGlobals "Lacking" = some (some (.ref E14)))
  (yE15:nsIn K mainGlobals "Misfit" = some (some (.ref E15)))
  (xo:excIn K E0 [.type "ValueError",.type "Exception",.type "BaseException",.type "object"] "ValueError.__new__" = true)
  (ec9:(clsIn K E9).isSome = true)
  (ea9:findIn K (.ref E9) "__getattribute__" = some (some (.builtin "BaseException.__getattribute__")))
  (en9:findIn K (.ref E9) "__getattr__" = some none)
  (el9:findIn K (.ref E9) "__class__" = some (some (.builtin "object.__class__")))
  (eb9:mroIn K E9 (.type "BaseException") = some true)
  (eo9:mroIn K E9 (.type "object") = some true)
  (xm9:L2.xmIn K E9 = true)
  (ek9:keepIn K (.ref E9) = true)
  (k9_9:kitOne K (.ref E9) (.ref E9) = some true)
  (k9_10:kitOne K (.ref E9) (.ref E10) = some false)
  (k9_11:kitOne K (.ref E9) (.ref E11) = some false)
  (k9_12:kitOne K (.ref E9) (.ref E12) = some false)
  (k9_13:kitOne K (.ref E9) (.ref E13) = some false)
  (k9_14:kitOne K (.ref E9) (.ref E14) = some false)
  (km9:kitOne K (.ref E9) (.ref E15) = some true)
  (kv9:kitOne K (.ref E9) (.type "ValueError") = some true)
  (em9:exmOne K (.ref E9) (.ref CE) = some true)
  (ei9:findIn K (.ref E9) "__init__" = some (some (.ref f23)))
  (es9:specialIn K (.ref E9) "__call__" = some (some (.builtin "type.__call__")))
  (et9:instIn K (.ref E9) (.type "type") = some true)
  (xt9:L2.xtIn K E9 = true)
  (ef9:findIn K (.ref E9) "__setattr__" = some (some (.builtin "object.__setattr__")))
  (eq9:findIn K (.ref E9) "number" = some none)
  (ec10:(clsIn K E10).isSome = true)
  (ea10:findIn K (.ref E10) "__getattribute__" = some (some (.builtin "BaseException.__getattribute__")))
  (en10:findIn K (.ref E10) "__getattr__" = some none)
  (el10:findIn K (.ref E10) "__class__" = some (some (.builtin "object.__class__")))
  (eb10:mroIn K E10 (.type "BaseException") = some true)
  (eo10:mroIn K E10 (.type "object") = some true)
  (xm10:L2.xmIn K E10 = true)
  (ek10:keepIn K (.ref E10) = true)
  (k10_9:kitOne K (.ref E10) (.ref E9) = some false)
  (k10_10:kitOne K (.ref E10) (.ref E10) = some true)
  (k10_11:kitOne K (.ref E10) (.ref E11) = some false)
  (k10_12:kitOne K (.ref E10) (.ref E12) = some false)
  (k10_13:kitOne K (.ref E10) (.ref E13) = some false)
  (k10_14:kitOne K (.ref E10) (.ref E14) = some false)
  (km10:kitOne K (.ref E10) (.ref E15) = some true)
  (kv10:kitOne K (.ref E10) (.type "ValueError") = some true)
  (em10:exmOne K (.ref E10) (.ref CE) = some true)
  (ei10:findIn K (.ref E10) "__init__" = some (some (.ref f23)))
  (es10:specialIn K (.ref E10) "__call__" = some (some (.builtin "type.__call__")))
  (et10:instIn K (.ref E10) (.type "type") = some true)
  (xt10:L2.xtIn K E10 = true)
  (ef10:findIn K (.ref E10) "__setattr__" = some (some (.builtin "object.__setattr__")))
  (eq10:findIn K (.ref E10) "number" = some none)
  (ec11:(clsIn K E11).isSome = true)
  (ea11:findIn K (.ref E11) "__getattribute__" = some (some (.builtin "BaseException.__getattribute__")))
  (en11:findIn K (.ref E11) "__getattr__" = some none)
  (el11:findIn K (.ref E11) "__class__" = some (some (.builtin "object.__class__")))
  (eb11:mroIn K E11 (.type "BaseException") = some true)
  (eo11:mroIn K E11 (.type "object") = some true)
  (xm11:L2.xmIn K E11 = true)
  (ek11:keepIn K (.ref E11) = true)
  (k11_9:kitOne K (.ref E11) (.ref E9) = some false)
  (k11_10:kitOne K (.ref E11) (.ref E10) = some false)
  (k11_11:kitOne K (.ref E11) (.ref E11) = some true)
  (k11_12:kitOne K (.ref E11) (.ref E12) = some false)
  (k11_13:kitOne K (.ref E11) (.ref E13) = some false)
  (k11_14:kitOne K (.ref E11) (.ref E14) = some false)
  (km11:kitOne K (.ref E11) (.ref E15) = some true)
  (kv11:kitOne K (.ref E11) (.type "ValueError") = some true)
  (em11:exmOne K (.ref E11) (.ref CE) = some true)
  (ei11:findIn K (.ref E11) "__init__" = some (some (.ref f23)))
  (es11:specialIn K (.ref E11) "__call__" = some (some (.builtin "type.__call__")))
  (et11:instIn K (.ref E11) (.type "type") = some true)
  (xt11:L2.xtIn K E11 = true)
  (ef11:findIn K (.ref E11) "__setattr__" = some (some (.builtin "object.__setattr__")))
  (eq11:findIn K (.ref E11) "number" = some none)
  (ec12:(clsIn K E12).isSome = true)
  (ea12:findIn K (.ref E12) "__getattribute__" = some (some (.builtin "BaseException.__getattribute__")))
  (en12:findIn K (.ref E12) "__getattr__" = some none)
  (el12:findIn K (.ref E12) "__class__" = some (some (.builtin "object.__class__")))
  (eb12:mroIn K E12 (.type "BaseException") = some true)
  (eo12:mroIn K E12 (.type "object") = some true)
  (xm12:L2.xmIn K E12 = true)
  (ek12:keepIn K (.ref E12) = true)
  (k12_9:kitOne K (.ref E12) (.ref E9) = some false)
  (k12_10:kitOne K (.ref E12) (.ref E10) = some false)
  (k12_11:kitOne K (.ref E12) (.ref E11) = some false)
  (k12_12:kitOne K (.ref E12) (.ref E12) = some true)
  (k12_13:kitOne K (.ref E12) (.ref E13) = some false)
  (k12_14:kitOne K (.ref E12) (.ref E14) = some false)
  (km12:kitOne K (.ref E12) (.ref E15) = some true)
  (kv12:kitOne K (.ref E12) (.type "ValueError") = some true)
  (em12:exmOne K (.ref E12) (.ref CE) = some true)
  (ei12:findIn K (.ref E12) "__init__" = some (some (.ref f23)))
  (es12:specialIn K (.ref E12) "__call__" = some (some (.builtin "type.__call__")))
  (et12:instIn K (.ref E12) (.type "type") = some true)
  (xt12:L2.xtIn K E12 = true)
  (ef12:findIn K (.ref E12) "__setattr__" = some (some (.builtin "object.__setattr__")))
  (eq12:findIn K (.ref E12) "number" = some none)
  (ec13:(clsIn K E13).isSome = true)
  (ea13:findIn K (.ref E13) "__getattribute__" = some (some (.builtin "BaseException.__getattribute__")))
  (en13:findIn K (.ref E13) "__getattr__" = some none)
  (el13:findIn K (.ref E13) "__class__" = some (some (.builtin "object.__class__")))
  (eb13:mroIn K E13 (.type "BaseException") = some true)
  (eo13:mroIn K E13 (.type "object") = some true)
  (xm13:L2.xmIn K E13 = true)
  (ek13:keepIn K (.ref E13) = true)
  (k13_9:kitOne K (.ref E13) (.ref E9) = some false)
  (k13_10:kitOne K (.ref E13) (.ref E10) = some false)
  (k13_11:kitOne K (.ref E13) (.ref E11) = some false)
  (k13_12:kitOne K (.ref E13) (.ref E12) = some false)
  (k13_13:kitOne K (.ref E13) (.ref E13) = some true)
  (k13_14:kitOne K (.ref E13) (.ref E14) = some false)
  (km13:kitOne K (.ref E13) (.ref E15) = some true)
  (kv13:kitOne K (.ref E13) (.type "ValueError") = some true)
  (em13:exmOne K (.ref E13) (.ref CE) = some true)
  (ei13:findIn K (.ref E13) "__init__" = some (some (.ref f23)))
  (es13:specialIn K (.ref E13) "__call__" = some (some (.builtin "type.__call__")))
  (et13:instIn K (.ref E13) (.type "type") = some true)
  (xt13:L2.xtIn K E13 = true)
  (ef13:findIn K (.ref E13) "__setattr__" = some (some (.builtin "object.__setattr__")))
  (eq13:findIn K (.ref E13) "number" = some none)
  (ec14:(clsIn K E14).isSome = true)
  (ea14:findIn K (.ref E14) "__getattribute__" = some (some (.builtin "BaseException.__getattribute__")))
  (en14:findIn K (.ref E14) "__getattr__" = some none)
  (el14:findIn K (.ref E14) "__class__" = some (some (.builtin "object.__class__")))
  (eb14:mroIn K E14 (.type "BaseException") = some true)
  (eo14:mroIn K E14 (.type "object") = some true)
  (xm14:L2.xmIn K E14 = true)
  (ek14:keepIn K (.ref E14) = true)
  (k14_9:kitOne K (.ref E14) (.ref E9) = some false)
  (k14_10:kitOne K (.ref E14) (.ref E10) = some false)
  (k14_11:kitOne K (.ref E14) (.ref E11) = some false)
  (k14_12:kitOne K (.ref E14) (.ref E12) = some false)
  (k14_13:kitOne K (.ref E14) (.ref E13) = some false)
  (k14_14:kitOne K (.ref E14) (.ref E14) = some true)
  (km14:kitOne K (.ref E14) (.ref E15) = some true)
  (kv14:kitOne K (.ref E14) (.type "ValueError") = some true)
  (em14:exmOne K (.ref E14) (.ref CE) = some true)
  (ei14:findIn K (.ref E14) "__init__" = some (some (.ref f23)))
  (es14:specialIn K (.ref E14) "__call__" = some (some (.builtin "type.__call__")))
  (et14:instIn K (.ref E14) (.type "type") = some true)
  (xt14:L2.xtIn K E14 = true)
  (ef14:findIn K (.ref E14) "__setattr__" = some (some (.builtin "object.__setattr__")))
  (eq14:findIn K (.ref E14) "number" = some none)
  : ∃ fd:FuncData,(∀ (s:Shared) (v:Value),BindsTo s fd ⟨[v],[]⟩ [("_law_script",v)])/\∀ base:Heap,K.In base->base.Ns mainGlobals mg->FnOk l.prog w K mg base CX0 10 fa fd ["_law_script"] (spLawB K):=by
 have e:=hfa.symm.trans (mg_of X G a54)
 cases e
 have F1:=fun_mk (st:=sIs) l1 c1 k1
 have b1:=F1.binds (ps:=["thing"]) fun _ _ _ _ _ _ us hl=>match us,hl with | [_],_=>rfl
 have F2:=fun_mk (st:=sPInit) l2 c2 k2
 have b2:=F2.binds (ps:=["self","word","name","may_lack"]) fun _ _ _ _ _ _ us hl=>match us,hl with | [_,_,_,_],_=>rfl
 have F3:=fun_mk (st:=sFree) l3 c3 k3
 have b3:=F3.binds (ps:=["self"]) fun _ _ _ _ _ _ us hl=>match us,hl with | [_],_=>rfl
 have F4:=fun_mk (st:=sByPlace) l4 c4 k4
 have b4:=F4.binds (ps:=["self"]) fun _ _ _ _ _ _ us hl=>match us,hl with | [_],_=>rfl
 have F5:=fun_mk (st:=sByName) l5 c5 k5
 have b5:=F5.binds (ps:=["self"]) fun _ _ _ _ _ _ us hl=>match us,hl with | [_],_=>rfl
 have F6:=fun_mk (st:=sTakes) l6 c6 k6
 have b6:=F6.binds (ps:=["self"]) fun _ _ _ _ _ _ us hl=>match us,hl with | [_],_=>rfl
 have F7:=fun_mk (st:=sTold) l7 c7 k7
 have b7:=F7.binds (ps:=["self"]) fun _ _ _ _ _ _ us hl=>match us,hl with | [_],_=>rfl
 have F8:=funD_mk (st:=sSeat) (items:=[Value.bool false]) l8 c8 k8 t8 rfl
 have F9:=funD_mk (st:=sBoth) (items:=[Value.bool false]) l9 c9 k9 t9 rfl
 have F10:=fun_mk (st:=sTail) l10 c10 k10
 have b10:=F10.binds (ps:=["self","name"]) fun _ _ _ _ _ _ us hl=>match us,hl with | [_,_],_=>rfl
 have F11:=funD_mk (st:=sTag) (items:=[Value.bool false]) l11 c11 k11 t11 rfl
 have F12:=fun_mk (st:=sBag) l12 c12 k12
 have b12:=F12.binds (ps:=["self","name"]) fun _ _ _ _ _ _ us hl=>match us,hl with | [_,_],_=>rfl
 have F13:=funD_mk (st:=sFInit) (items:=[Value.none]) l13 c13 k13 t13 rfl
 have F14:=fun_mk (st:=sKeep) l14 c14 k14
 have b14:=F14.binds (ps:=["self","parameters","bars"]) fun _ _ _ _ _ _ us hl=>match us,hl with | [_,_,_],_=>rfl
 have F15:=fun_mk (st:=sFPars) l15 c15 k15
 have b15:=F15.binds (ps:=["self"]) fun _ _ _ _ _ _ us hl=>match us,hl with | [_],_=>rfl
 have F16:=fun_mk (st:=sFBars) l16 c16 k16
 have b16:=F16.binds (ps:=["self"]) fun _ _ _ _ _ _ us hl=>match us,hl with | [_],_=>rfl
 have F17:=fun_mk (st:=sFPlaces) l17 c17 k17
 have b17:=F17.binds (ps:=["self"]) fun _ _ _ _ _ _ us hl=>match us,hl with | [_],_=>rfl
 have F18:=fun_mk (st:=sFTail) l18 c18 k18
 have b18:=F18.binds (ps:=["self"]) fun _ _ _ _ _ _ us hl=>match us,hl with | [_],_=>rfl
 have F19:=fun_mk (st:=sFBag) l19 c19 k19
 have b19:=F19.binds (ps:=["self"]) fun _ _ _ _ _ _ us hl=>match us,hl with | [_],_=>rfl
 have F20:=fun_mk (st:=sFNum) l20 c20 k20
 have b20:=F20.binds (ps:=["self","name"]) fun _ _ _ _ _ _ us hl=>match us,hl with | [_,_],_=>rfl
 have F21:=fun_mk (st:=sFTold) l21 c21 k21
 have b21:=F21.binds (ps:=["self"]) fun _ _ _ _ _ _ us hl=>match us,hl with | [_],_=>rfl
 have F22:=fun_mk (st:=sPtInit) l22 c22 k22
 have b22:=F22.binds (ps:=["self","form","call"]) fun _ _ _ _ _ _ us hl=>match us,hl with | [_,_,_],_=>rfl
 have F23:=fun_mk (st:=sXMis) l23 c23 k23
 have b23:=F23.binds (ps:=["self","number"]) fun _ _ _ _ _ _ us hl=>match us,hl with | [_,_],_=>rfl
 have F24:=fun_mk (st:=sPof) l24 c24 k24
 have b24:=F24.binds (ps:=["told"]) fun _ _ _ _ _ _ us hl=>match us,hl with | [_],_=>rfl
 have F25:=fun_mk (st:=sRMany) l25 c25 k25
 have b25:=F25.binds (ps:=["parameters","bars"]) fun _ _ _ _ _ _ us hl=>match us,hl with | [_,_],_=>rfl
 have F26:=fun_mk (st:=sROrder) l26 c26 k26
 have b26:=F26.binds (ps:=["parameters"]) fun _ _ _ _ _ _ us hl=>match us,hl with | [_],_=>rfl
 have F27:=fun_mk (st:=sRBars) l27 c27 k27
 have b27:=F27.binds (ps:=["bars"]) fun _ _ _ _ _ _ us hl=>match us,hl with | [_],_=>rfl
 have F28:=fun_mk (st:=sRTwice) l28 c28 k28
 have b28:=F28.binds (ps:=["parameters","bars"]) fun _ _ _ _ _ _ us hl=>match us,hl with | [_,_],_=>rfl
 have F29:=fun_mk (st:=sNumW) l29 c29 k29
 have b29:=F29.binds (ps:=["parameters","word"]) fun _ _ _ _ _ _ us hl=>match us,hl with | [_,_],_=>rfl
 have F30:=fun_mk (st:=sLaid) l30 c30 k30
 have b30:=F30.binds (ps:=["call"]) fun _ _ _ _ _ _ us hl=>match us,hl with | [_],_=>rfl
 have F31:=fun_mk (st:=sMisfits) l31 c31 k31
 have b31:=F31.binds (ps:=["form","call"]) fun _ _ _ _ _ _ us hl=>match us,hl with | [_,_],_=>rfl
 have F32:=fun_mk (st:=sShape) l32 c32 k32
 have b32:=F32.binds (ps:=["call"]) fun _ _ _ _ _ _ us hl=>match us,hl with | [_],_=>rfl
 have F33:=fun_mk (st:=sFirsts) l33 c33 k33
 have b33:=F33.binds (ps:=["names"]) fun _ _ _ _ _ _ us hl=>match us,hl with | [_],_=>rfl
 have F34:=fun_mk (st:=sMOf) l34 c34 k34
 have b34:=F34.binds (ps:=["form","many","names"]) fun _ _ _ _ _ _ us hl=>match us,hl with | [_,_,_],_=>rfl
 have F35:=fun_mk (st:=sOvers) l35 c35 k35
 have b35:=F35.binds (ps:=["form","many"]) fun _ _ _ _ _ _ us hl=>match us,hl with | [_,_],_=>rfl
 have F36:=fun_mk (st:=sUnw) l36 c36 k36
 have b36:=F36.binds (ps:=["form","many","firsts"]) fun _ _ _ _ _ _ us hl=>match us,hl with | [_,_,_],_=>rfl
 have F37:=fun_mk (st:=sLack) l37 c37 k37
 have b37:=F37.binds (ps:=["form","many","firsts"]) fun _ _ _ _ _ _ us hl=>match us,hl with | [_,_,_],_=>rfl
 have F38:=fun_mk (st:=sOneE) l38 c38 k38
 have b38:=F38.binds (ps:=["parameter","number","many","firsts"]) fun _ _ _ _ _ _ us hl=>match us,hl with | [_,_,_,_],_=>rfl
 have F39:=fun_mk (st:=sRefuse) l39 c39 k39
 have b39:=F39.binds (ps:=["word","number"]) fun _ _ _ _ _ _ us hl=>match us,hl with | [_,_],_=>rfl
 have F40:=fun_mk (st:=sRFirst) l40 c40 k40
 have b40:=F40.binds (ps:=["form","call"]) fun _ _ _ _ _ _ us hl=>match us,hl with | [_,_],_=>rfl
 have F41:=fun_mk (st:=sNth) l41 c41 k41
 have b41:=F41.binds (ps:=["_law_script","_law_k"]) fun _ _ _ _ _ _ us hl=>match us,hl with | [_,_],_=>rfl
 have F42:=fun_mk (st:=sStir) l42 c42 k42
 have b42:=F42.binds (ps:=["_law_cell","_law_k"]) fun _ _ _ _ _ _ us hl=>match us,hl with | [_,_],_=>rfl
 have F43:=fun_mk (st:=sPool) l43 c43 k43
 have b43:=F43.binds (ps:=["_law_cell"]) fun _ _ _ _ _ _ us hl=>match us,hl with | [_],_=>rfl
 have F44:=fun_mk (st:=sRow) l44 c44 k44
 have b44:=F44.binds (ps:=["_law_cells","_law_pool_here","_law_ends"]) fun _ _ _ _ _ _ us hl=>match us,hl with | [_,_,_],_=>rfl
 have F45:=fun_mk (st:=sBars) l45 c45 k45
 have b45:=F45.binds (ps:=["_law_row_here","_law_pool_here","_law_number_here"]) fun _ _ _ _ _ _ us hl=>match us,hl with | [_,_,_],_=>rfl
 have F46:=fun_mk (st:=sForm) l46 c46 k46
 have b46:=F46.binds (ps:=["_law_row_here","_law_bars_here"]) fun _ _ _ _ _ _ us hl=>match us,hl with | [_,_],_=>rfl
 have F47:=fun_mk (st:=sNumber) l47 c47 k47
 have b47:=F47.binds (ps:=["_law_number_here"]) fun _ _ _ _ _ _ us hl=>match us,hl with | [_],_=>rfl
 have F48:=fun_mk (st:=sItems) l48 c48 k48
 have b48:=F48.binds (ps:=["_law_cells","_law_pool_here"]) fun _ _ _ _ _ _ us hl=>match us,hl with | [_,_],_=>rfl
 have F49:=fun_mk (st:=sLLaid) l49 c49 k49
 have b49:=F49.binds (ps:=["_law_items_here"]) fun _ _ _ _ _ _ us hl=>match us,hl with | [_],_=>rfl
 have F50:=fun_mk (st:=sTame) l50 c50 k50
 have b50:=F50.binds (ps:=["_law_row_here","_law_bars_here","_law_things","_law_pairs"]) fun _ _ _ _ _ _ us hl=>match us,hl with | [_,_,_,_],_=>rfl
 have F51:=fun_mk (st:=sTamed) l51 c51 k51
 have b51:=F51.binds (ps:=["_law_row_here","_law_bars_here","_law_items_here"]) fun _ _ _ _ _ _ us hl=>match us,hl with | [_,_,_],_=>rfl
 have F52:=fun_mk (st:=sFW) l52 c52 k52
 have b52:=F52.binds (ps:=["_law_row_here","_law_bars_here","_law_items_here"]) fun _ _ _ _ _ _ us hl=>match us,hl with | [_,_,_],_=>rfl
 have F53:=fun_mk (st:=sLMade) l53 c53 k53
 have b53:=F53.binds (ps:=["_law_form_here","_law_items_here"]) fun _ _ _ _ _ _ us hl=>match us,hl with | [_,_],_=>rfl
 have F54:=fun_mk (st:=sLaw) l54 c54 k54
 have no:∀ {x:Str},nsIn K mainGlobals x = some none->mg x = none:=fun z=>PySem.W.mg_none_of X G z
 have T:Txt1 K mg:=⟨no zisinstance,no zstr,no zbool,no zlen,no zall,no zrange,⟨tL,mg_of X G gL⟩,⟨tN,mg_of X G gN⟩,kt_NoneType_str K,kt_int_str K,kt_bool_str K,kt_list_str K,kt_tuple_str K,kt_dict_str K,kt_str_str K,kt_bool_bool K⟩
 have Wd:Wds K mg tP tB tO:=⟨mg_of X G ytP,mg_of X G ytB,mg_of X G ytO,fun H=>.inr ⟨_,_,_,utP,rfl,rfl,zz2,.cons ⟨_,rfl⟩ (.cons ⟨_,rfl⟩ (.nil))⟩,fun H=>.inr ⟨_,_,_,utB,rfl,rfl,zz2,.cons ⟨_,rfl⟩ (.cons ⟨_,rfl⟩ (.nil))⟩,fun H=>.inr ⟨_,_,_,utO,rfl,rfl,zz3,.cons ⟨_,rfl⟩ (.cons ⟨_,rfl⟩ (.cons ⟨_,rfl⟩ (.nil)))⟩⟩
 have TF:TxtF w K mg Gr sg:=⟨no zlen,no zenumerate,no zlist,no zset,⟨tMP,mg_of X G gMP⟩,⟨tMB,mg_of X G gMB⟩,mg_of X G yGr,ktab_of lGr kGr eG0 eG1 eG2 eG3 eG4,mg_of X G ysg,fun H=>.inr ⟨_,_,_,usg,rfl,rfl,zz2,.cons ⟨_,rfl⟩ (.cons ⟨_,rfl⟩ .nil)⟩⟩
 have pc0:PC K ⟨f3,f4,f5,f6,f7⟩ C0:=⟨⟨pgC0,hdC0,poC0,saC0⟩,nC0_word,nC0_name,nC0_may_lack,⟨h0_3,i3,k3⟩,⟨h0_4,i4,k4⟩,⟨h0_5,i5,k5⟩,⟨h0_6,i6,k6⟩,⟨h0_7,i7,k7⟩⟩
 have pc1:PC K ⟨f3,f4,f5,f6,f7⟩ C1:=⟨⟨pgC1,hdC1,poC1,saC1⟩,nC1_word,nC1_name,nC1_may_lack,⟨h1_3,i3,k3⟩,⟨h1_4,i4,k4⟩,⟨h1_5,i5,k5⟩,⟨h1_6,i6,k6⟩,⟨h1_7,i7,k7⟩⟩
 have pc2:PC K ⟨f3,f4,f5,f6,f7⟩ C2:=⟨⟨pgC2,hdC2,poC2,saC2⟩,nC2_word,nC2_name,nC2_may_lack,⟨h2_3,i3,k3⟩,⟨h2_4,i4,k4⟩,⟨h2_5,i5,k5⟩,⟨h2_6,i6,k6⟩,⟨h2_7,i7,k7⟩⟩
 have pc3:PC K ⟨f3,f4,f5,f6,f7⟩ C3:=⟨⟨pgC3,hdC3,poC3,saC3⟩,nC3_word,nC3_name,nC3_may_lack,⟨h3_3,i3,k3⟩,⟨h3_4,i4,k4⟩,⟨h3_5,i5,k5⟩,⟨h3_6,i6,k6⟩,⟨h3_7,i7,k7⟩⟩
 have pc4:PC K ⟨f3,f4,f5,f6,f7⟩ C4:=⟨⟨pgC4,hdC4,poC4,saC4⟩,nC4_word,nC4_name,nC4_may_lack,⟨h4_3,i3,k3⟩,⟨h4_4,i4,k4⟩,⟨h4_5,i5,k5⟩,⟨h4_6,i6,k6⟩,⟨h4_7,i7,k7⟩⟩
 have PP:Pcs K ⟨f3,f4,f5,f6,f7⟩ ⟨C0,C1,C2,C3,C4⟩:=fun k hk=>by
  rcases lt5 hk with rfl | rfl | rfl | rfl | rfl
  ·exact pc0
  ·exact pc1
  ·exact pc2
  ·exact pc3
  ·exact pc4
 have FK:FC K FM:=⟨⟨pgFM,hdFM,poFM,saFM⟩,nFM_row,nFM_bar_names,nFM_place_count,nFM_tail_number,nFM_bag_number,nFM_doors⟩
 let cl:Nat->Addr:=fun j=>match j with | 0=>E9 | 1=>E10 | 2=>E11 | 3=>E12 | 4=>E13 | _=>E14
 have ex9:ExcCls K E9:=⟨ec9,ea9,en9,el9,xgt,xtk,eb9,eo9⟩
 have ex10:ExcCls K E10:=⟨ec10,ea10,en10,el10,xgt,xtk,eb10,eo10⟩
 have ex11:ExcCls K E11:=⟨ec11,ea11,en11,el11,xgt,xtk,eb11,eo11⟩
 have ex12:ExcCls K E12:=⟨ec12,ea12,en12,el12,xgt,xtk,eb12,eo12⟩
 have ex13:ExcCls K E13:=⟨ec13,ea13,en13,el13,xgt,xtk,eb13,eo13⟩
 have ex14:ExcCls K E14:=⟨ec14,ea14,en14,el14,xgt,xtk,eb14,eo14⟩
 have so9:SortW K cl E15 CE 0:=⟨ex9,⟨xt9,ef9,eo9⟩,eq9,fun l hl=>match l,hl with | 0,_=>k9_9 | 1,_=>k9_10 | 2,_=>k9_11 | 3,_=>k9_12 | 4,_=>k9_13 | 5,_=>k9_14 | l + 6,h=>absurd h (by omega),km9,kv9,em9⟩
 have so10:SortW K cl E15 CE 1:=⟨ex10,⟨xt10,ef10,eo10⟩,eq10,fun l hl=>match l,hl with | 0,_=>k10_9 | 1,_=>k10_10 | 2,_=>k10_11 | 3,_=>k10_12 | 4,_=>k10_13 | 5,_=>k10_14 | l + 6,h=>absurd h (by omega),km10,kv10,em10⟩
 have so11:SortW K cl E15 CE 2:=⟨ex11,⟨xt11,ef11,eo11⟩,eq11,fun l hl=>match l,hl with | 0,_=>k11_9 | 1,_=>k11_10 | 2,_=>k11_11 | 3,_=>k11_12 | 4,_=>k11_13 | 5,_=>k11_14 | l + 6,h=>absurd h (by omega),km11,kv11,em11⟩
 have so12:SortW K cl E15 CE 3:=⟨ex12,⟨xt12,ef12,eo12⟩,eq12,fun l hl=>match l,hl with | 0,_=>k12_9 | 1,_=>k12_10 | 2,_=>k12_11 | 3,_=>k12_12 | 4,_=>k12_13 | 5,_=>k12_14 | l + 6,h=>absurd h (by omega),km12,kv12,em12⟩
 have so13:SortW K cl E15 CE 4:=⟨ex13,⟨xt13,ef13,eo13⟩,eq13,fun l hl=>match l,hl with | 0,_=>k13_9 | 1,_=>k13_10 | 2,_=>k13_11 | 3,_=>k13_12 | 4,_=>k13_13 | 5,_=>k13_14 | l + 6,h=>absurd h (by omega),km13,kv13,em13⟩
 have so14:SortW K cl E15 CE 5:=⟨ex14,⟨xt14,ef14,eo14⟩,eq14,fun l hl=>match l,hl with | 0,_=>k14_9 | 1,_=>k14_10 | 2,_=>k14_11 | 3,_=>k14_12 | 4,_=>k14_13 | 5,_=>k14_14 | l + 6,h=>absurd h (by omega),km14,kv14,em14⟩
 have so:∀ i,i < 6->SortW K cl E15 CE i:=fun i hi=>match i,hi with | 0,_=>so9 | 1,_=>so10 | 2,_=>so11 | 3,_=>so12 | 4,_=>so13 | 5,_=>so14 | l + 6,h=>absurd h (by omega)
 have PTc:PtC K PT:=⟨⟨pgPT,hdPT,poPT,saPT⟩,nPT_kept_form,nPT_things,nPT_pairs⟩
 have UW:TxtW mg cl E15 CE PT:=⟨no zisinstance,no zValueError,mg_of X G yE15,mg_of X G yCE,mg_of X G aPT,mg_of X G yE9,mg_of X G yE10,mg_of X G yE11,mg_of X G yE12,mg_of X G yE13,mg_of X G yE14⟩
 have UL:TxtL mg:=⟨no zlen,no zrange,no zset,no zenumerate,no zlist,no zisinstance,no zbool,no ztuple⟩
 have b8_0:Binds K _ ["self","name","free"] []:=fun s us KX hl=>match us,hl with | [u,v,x],_=>F8.bindsTo (fun _ _ _ _ _ _ _=>⟨_,rfl,rfl⟩) KX
 have b8_1:Binds K _ ["self","name","free"] [.bool false]:=fun s us KX hl=>match us,(show us.length = 2 by simpa using hl) with | [u,v],_=>F8.bindsTo (fun _ _ _ _ _ _ _=>⟨_,rfl,rfl⟩) KX
 have b8_2:KBinds K _ ["self","name","free"] ["free"] g21 g21:=⟨fun s us ws KX hl=>match us,ws,hl with | [u,v],[x],_=>F8.bindsTo (fun _ _ _ _ _ _ _=>⟨_,rfl,rfl⟩) KX,fun r z=>g21_rel r z⟩
 have b9_0:Binds K _ ["self","name","free"] []:=fun s us KX hl=>match us,hl with | [u,v,x],_=>F9.bindsTo (fun _ _ _ _ _ _ _=>⟨_,rfl,rfl⟩) KX
 have b9_1:Binds K _ ["self","name","free"] [.bool false]:=fun s us KX hl=>match us,(show us.length = 2 by simpa using hl) with | [u,v],_=>F9.bindsTo (fun _ _ _ _ _ _ _=>⟨_,rfl,rfl⟩) KX
 have b9_2:KBinds K _ ["self","name","free"] ["free"] g21 g21:=⟨fun s us ws KX hl=>match us,ws,hl with | [u,v],[x],_=>F9.bindsTo (fun _ _ _ _ _ _ _=>⟨_,rfl,rfl⟩) KX,fun r z=>g21_rel r z⟩
 have b11_0:Binds K _ ["self","name","free"] []:=fun s us KX hl=>match us,hl with | [u,v,x],_=>F11.bindsTo (fun _ _ _ _ _ _ _=>⟨_,rfl,rfl⟩) KX
 have b11_1:Binds K _ ["self","name","free"] [.bool false]:=fun s us KX hl=>match us,(show us.length = 2 by simpa using hl) with | [u,v],_=>F11.bindsTo (fun _ _ _ _ _ _ _=>⟨_,rfl,rfl⟩) KX
 have b11_2:KBinds K _ ["self","name","free"] ["free"] g21 g21:=⟨fun s us ws KX hl=>match us,ws,hl with | [u,v],[x],_=>F11.bindsTo (fun _ _ _ _ _ _ _=>⟨_,rfl,rfl⟩) KX,fun r z=>g21_rel r z⟩
 have b13_0:Binds K _ ["self","parameters","bars"] []:=fun s us KX hl=>match us,hl with | [u,v,x],_=>F13.bindsTo (fun _ _ _ _ _ _ _=>⟨_,rfl,rfl⟩) KX
 have b13_1:Binds K _ ["self","parameters","bars"] [.none]:=fun s us KX hl=>match us,(show us.length = 2 by simpa using hl) with | [u,v],_=>F13.bindsTo (fun _ _ _ _ _ _ _=>⟨_,rfl,rfl⟩) KX
 have b13_2:KBinds K _ ["self","parameters","bars"] ["bars"] g21 g21:=⟨fun s us ws KX hl=>match us,ws,hl with | [u,v],[x],_=>F13.bindsTo (fun _ _ _ _ _ _ _=>⟨_,rfl,rfl⟩) KX,fun r z=>g21_rel r z⟩
 refine ⟨fnOf "law" "law" (defArgs sLaw) (defBody sLaw) (defScope sLaw) .none kV54 dc54 pm54 an54 cd54 ct54,fun s v=>.of_eq rfl,fun base KB GB=>?_⟩
 have cI:Callee l.prog w K mg base 1 "is_name" f1 _ ["thing"] (spIs K):=⟨ok_is F1 T ,mg_of X G a1,k1,b1⟩
 have GP:FnOk l.prog w K mg base (CXe l.prog w) 2 f2 _ ["self","word","name","may_lack"] (spP K ⟨f3,f4,f5,f6,f7⟩ E0):=ok_pinit F2 (own_in KB GB yE0 xo) cI
 have CB:ClsFn K D "__init__" f2:=⟨dga,drd,dfc,k2⟩
 have mD:=mg_of X G aD
 have UC:Ctors l.prog w K mg base ⟨C0,C1,C2,C3,C4⟩ E0 f8 f9 f10 f11 f12 _ _ _ _ _:=⟨⟨⟨mkC0,a8,i8,kcC0⟩,ok_seat F8 pc0 CB mD GP b2,mg_of X G aC0,b8_0⟩,⟨⟨mkC0,a8,i8,kcC0⟩,ok_seat F8 pc0 CB mD GP b2,mg_of X G aC0,b8_1⟩,b8_2,⟨⟨mkC1,a9,i9,kcC1⟩,ok_both F9 pc1 CB mD GP b2,mg_of X G aC1,b9_0⟩,⟨⟨mkC1,a9,i9,kcC1⟩,ok_both F9 pc1 CB mD GP b2,mg_of X G aC1,b9_1⟩,b9_2,⟨⟨mkC2,a10,i10,kcC2⟩,ok_tail F10 pc2 CB mD GP b2,mg_of X G aC2,b10⟩,⟨⟨mkC3,a11,i11,kcC3⟩,ok_tag F11 pc3 CB mD GP b2,mg_of X G aC3,b11_0⟩,⟨⟨mkC3,a11,i11,kcC3⟩,ok_tag F11 pc3 CB mD GP b2,mg_of X G aC3,b11_1⟩,b11_2,⟨⟨mkC4,a12,i12,kcC4⟩,ok_bag F12 pc4 CB mD GP b2,mg_of X G aC4,b12⟩⟩
 have GF:FnOk l.prog w K mg base CX0 1 f3 _ ["self"] (spFree K ⟨f3,f4,f5,f6,f7⟩):=ok_free F3
 have GQ:FnOk l.prog w K mg base CX0 1 f4 _ ["self"] (spIn K ⟨f3,f4,f5,f6,f7⟩ bpL):=ok_by_place F4 Wd
 have GN:FnOk l.prog w K mg base CX0 1 f5 _ ["self"] (spIn K ⟨f3,f4,f5,f6,f7⟩ bnL):=ok_by_name F5 Wd
 have cM1:Callee l.prog w K mg base 1 "refuse_too_many" f25 _ ["parameters","bars"] (spMany K):=⟨ok_many F25 TF ,mg_of X G a25,k25,b25⟩
 have cM2:Callee l.prog w K mg base 1 "refuse_bad_order" f26 _ ["parameters"] (spOrd ⟨C0,C1,C2,C3,C4⟩):=⟨ok_order F26 TF PP ,mg_of X G a26,k26,b26⟩
 have cM3:Callee l.prog w K mg base 2 "refuse_bars_without_name" f27 _ ["bars"] spRB:=⟨ok_rbars F27 cI ,mg_of X G a27,k27,b27⟩
 have cM4:Callee l.prog w K mg base 2 "refuse_twice" f28 _ ["parameters","bars"] (spTw ⟨C0,C1,C2,C3,C4⟩):=⟨ok_twice F28 TF PP GN b5 ,mg_of X G a28,k28,b28⟩
 have cW:Callee l.prog w K mg base 1 "number_of_word" f29 _ ["parameters","word"] (spNW ⟨C0,C1,C2,C3,C4⟩):=⟨ok_numw F29 TF PP ,mg_of X G a29,k29,b29⟩
 have GK:FnOk l.prog w K mg base CX0 2 f14 _ ["self","parameters","bars"] (spKeep ⟨C0,C1,C2,C3,C4⟩ FM):=ok_keep F14 TF PP FK cW GQ b4 GN b5
 have GI:FnOk l.prog w K mg base CX0 3 f13 _ ["self","parameters","bars"] (spFI ⟨C0,C1,C2,C3,C4⟩ FM):=ok_finit F13 FK ⟨a14,i14,k14⟩ cM1 cM2 cM3 cM4 GK b14
 have kF0:Ctor l.prog w K mg base CX0 3 "Form" FM f13 _ ["self","parameters","bars"] [] (spFI ⟨C0,C1,C2,C3,C4⟩ FM):=⟨⟨mkFM,a13,i13,kcFM⟩,GI,mg_of X G aFM,b13_0⟩
 have kF1:Ctor l.prog w K mg base CX0 3 "Form" FM f13 _ ["self","parameters","bars"] [.none] (spFI ⟨C0,C1,C2,C3,C4⟩ FM):=⟨⟨mkFM,a13,i13,kcFM⟩,GI,mg_of X G aFM,b13_1⟩
 have mpa:Meth K FM "parameters" f15:=⟨a15,i15,k15⟩
 have Gpa:FnOk l.prog w K mg base CX0 1 f15 _ ["self"] (spPars ⟨C0,C1,C2,C3,C4⟩ FM):=ok_fpars F15 TF FK
 have mba:Meth K FM "bars" f16:=⟨a16,i16,k16⟩
 have Gba:FnOk l.prog w K mg base CX0 1 f16 _ ["self"] (spBars ⟨C0,C1,C2,C3,C4⟩ FM):=ok_fbars F16 TF FK
 have mpl:Meth K FM "places" f17:=⟨a17,i17,k17⟩
 have Gpl:FnOk l.prog w K mg base CX0 1 f17 _ ["self"] (spPlaces ⟨C0,C1,C2,C3,C4⟩ FM):=ok_fplaces F17 FK
 have mta:Meth K FM "tail" f18:=⟨a18,i18,k18⟩
 have Gta:FnOk l.prog w K mg base CX0 1 f18 _ ["self"] (spWord ⟨C0,C1,C2,C3,C4⟩ FM 2):=ok_ftail F18 FK
 have mbg:Meth K FM "bag" f19:=⟨a19,i19,k19⟩
 have Gbg:FnOk l.prog w K mg base CX0 1 f19 _ ["self"] (spWord ⟨C0,C1,C2,C3,C4⟩ FM 4):=ok_fbag F19 FK
 have mnu:Meth K FM "number_of" f20:=⟨a20,i20,k20⟩
 have Gnu:FnOk l.prog w K mg base CX0 1 f20 _ ["self","name"] (spNum ⟨C0,C1,C2,C3,C4⟩ FM):=ok_fnum F20 FK
 have cL:Callee l.prog w K mg base 1 "laid" f30 _ ["call"] (spLaid K):=⟨ok_laid F30 ,mg_of X G a30,k30,b30⟩
 have cSh:Callee l.prog w K mg base 2 "shape" f32 _ ["call"] (spShape K):=⟨ok_shape F32 (no zlen) cL ,mg_of X G a32,k32,b32⟩
 have cFn:Callee l.prog w K mg base 1 "first_numbers" f33 _ ["names"] spFirsts:=⟨ok_firsts F33 (no zenumerate) ,mg_of X G a33,k33,b33⟩
 have cOv:Callee l.prog w K mg base 2 "overs" f35 _ ["form","many"] (spOvers ⟨C0,C1,C2,C3,C4⟩ FM):=⟨ok_overs F35 (no zrange) FK mta Gta b18 mpl Gpl b17 ,mg_of X G a35,k35,b35⟩
 have cUn:Callee l.prog w K mg base 2 "unwelcomes" f36 _ ["form","many","firsts"] (spUnw ⟨C0,C1,C2,C3,C4⟩ FM):=⟨ok_unw F36 (no zset) FK mba Gba b16 mnu Gnu b20 mbg Gbg b19 mpl Gpl b17 ,mg_of X G a36,k36,b36⟩
 have cEn:Callee l.prog w K mg base 2 "one_entry" f38 _ ["parameter","number","many","firsts"] (spOneE ⟨C0,C1,C2,C3,C4⟩):=⟨ok_oneE F38 PP GQ b4 GN b5 ,mg_of X G a38,k38,b38⟩
 have cLa:Callee l.prog w K mg base 3 "lackings" f37 _ ["form","many","firsts"] (spLacks ⟨C0,C1,C2,C3,C4⟩ FM):=⟨ok_lacks F37 (no zenumerate) PP FK mpa Gpa b15 GF b3 cEn ,mg_of X G a37,k37,b37⟩
 have cMo:Callee l.prog w K mg base 4 "misfits_of" f34 _ ["form","many","names"] (spMOf ⟨C0,C1,C2,C3,C4⟩ FM):=⟨ok_mof F34 (no zenumerate) cFn cOv cUn cLa ,mg_of X G a34,k34,b34⟩
 have cMi:Callee l.prog w K mg base 5 "misfits" f31 _ ["form","call"] (spMis K ⟨C0,C1,C2,C3,C4⟩ FM):=⟨ok_mis F31 cSh cMo ,mg_of X G a31,k31,b31⟩
 have x9:XCls l.prog w K mg base "Doubled" (cl 0) f23 _ "number" "number":=⟨⟨xm9,ei9,i23,es9,et9,ek9⟩,⟨xt9,ef9,eo9⟩,eq9,ex9,mg_of X G yE9,ok_xmis F23,b23⟩
 have x10:XCls l.prog w K mg base "Over" (cl 1) f23 _ "number" "number":=⟨⟨xm10,ei10,i23,es10,et10,ek10⟩,⟨xt10,ef10,eo10⟩,eq10,ex10,mg_of X G yE10,ok_xmis F23,b23⟩
 have x11:XCls l.prog w K mg base "Barred" (cl 2) f23 _ "number" "number":=⟨⟨xm11,ei11,i23,es11,et11,ek11⟩,⟨xt11,ef11,eo11⟩,eq11,ex11,mg_of X G yE11,ok_xmis F23,b23⟩
 have x12:XCls l.prog w K mg base "Again" (cl 3) f23 _ "number" "number":=⟨⟨xm12,ei12,i23,es12,et12,ek12⟩,⟨xt12,ef12,eo12⟩,eq12,ex12,mg_of X G yE12,ok_xmis F23,b23⟩
 have x13:XCls l.prog w K mg base "Strange" (cl 4) f23 _ "number" "number":=⟨⟨xm13,ei13,i23,es13,et13,ek13⟩,⟨xt13,ef13,eo13⟩,eq13,ex13,mg_of X G yE13,ok_xmis F23,b23⟩
 have x14:XCls l.prog w K mg base "Lacking" (cl 5) f23 _ "number" "number":=⟨⟨xm14,ei14,i23,es14,et14,ek14⟩,⟨xt14,ef14,eo14⟩,eq14,ex14,mg_of X G yE14,ok_xmis F23,b23⟩
 have cRe:CalleeS l.prog w K mg base 3 "refuse" f39 _ ["word","number"] (spRefuse cl):=⟨ok_refuse F39 ⟨x9,x10,x11,x12,x13,x14⟩ ,mg_of X G a39,k39,b39⟩
 have cRf:CalleeS l.prog w K mg base 6 "refuse_first_things" f40 _ ["form","call"] (spRFirstS K ⟨C0,C1,C2,C3,C4⟩ FM cl):=⟨ok_rfirst F40 cMi cRe ,mg_of X G a40,k40,b40⟩
 have GPt:FnOk l.prog w K mg base (CXs l.prog w) 7 f22 _ ["self","form","call"] (spPtI K ⟨C0,C1,C2,C3,C4⟩ FM PT cl):=ok_ptI F22 PTc cRf cL
 have GO:FnOk l.prog w K mg base CX0 2 f7 _ ["self"] (spTold K ⟨f3,f4,f5,f6,f7⟩):=ok_told F7 (ok_takes_one F6 Wd) b6
 have GFT:FnOk l.prog w K mg base CX0 3 f21 _ ["self"] (spFTold ⟨C0,C1,C2,C3,C4⟩ FM):=ok_ftold F21 TF FK PP GO b7
 have mFT:Meth K FM "told" f21:=⟨a21,i21,k21⟩
 have cPo:CalleeE l.prog w K mg base 5 "parameter_of" f24 _ ["told"] (spPof K ⟨C0,C1,C2,C3,C4⟩ E0):=⟨ok_pof F24 UC ,mg_of X G a24,k24,b24⟩
 have cN:Callee l.prog w K mg base 1 "_law_nth" f41 _ ["_law_script","_law_k"] (spNthA K):=⟨ok_nth F41 ,mg_of X G a41,k41,b41⟩
 have cSt:Callee l.prog w K mg base 1 "_law_stirred" f42 _ ["_law_cell","_law_k"] spStir:=⟨ok_stir F42 ,mg_of X G a42,k42,b42⟩
 have cPl:Callee l.prog w K mg base 1 "_law_pool" f43 _ ["_law_cell"] (spPool K):=⟨ok_pool F43 UL ,mg_of X G a43,k43,b43⟩
 have cRo:Callee l.prog w K mg base 2 "_law_row" f44 _ ["_law_cells","_law_pool_here","_law_ends"] (spRow K):=⟨ok_row F44 UL cSt ,mg_of X G a44,k44,b44⟩
 have cBr:Callee l.prog w K mg base 1 "_law_bars" f45 _ ["_law_row_here","_law_pool_here","_law_number_here"] spLBars:=⟨ok_lbars F45 ,mg_of X G a45,k45,b45⟩
 have cFo:Callee l.prog w K mg base 6 "_law_form" f46 _ ["_law_row_here","_law_bars_here"] (spLForm ⟨C0,C1,C2,C3,C4⟩ FM):=⟨ok_lform F46 (no zlist) (mg_of X G aFM) ⟨mkFM,a13,i13,kcFM⟩ GI b13_0 cPo ,mg_of X G a46,k46,b46⟩
 have cNm:Callee l.prog w K mg base 1 "_law_number" f47 _ ["_law_number_here"] spNumb:=⟨ok_numb F47 ,mg_of X G a47,k47,b47⟩
 have cIt:Callee l.prog w K mg base 2 "_law_items" f48 _ ["_law_cells","_law_pool_here"] (spItems K):=⟨ok_items F48 UL cSt cNm ,mg_of X G a48,k48,b48⟩
 have cLl:Callee l.prog w K mg base 1 "_law_laid" f49 _ ["_law_items_here"] (spLaid K):=⟨ok_llaid F49 UL ,mg_of X G a49,k49,b49⟩
 have cTm:Callee l.prog w K mg base 1 "_law_is_tame" f50 _ ["_law_row_here","_law_bars_here","_law_things","_law_pairs"] (spTame K):=⟨ok_tame F50 UL ,mg_of X G a50,k50,b50⟩
 have cTd:Callee l.prog w K mg base 2 "_law_tamed" f51 _ ["_law_row_here","_law_bars_here","_law_items_here"] (spTamed K):=⟨ok_tamed F51 cLl cTm ,mg_of X G a51,k51,b51⟩
 have cFw:Callee l.prog w K mg base 2 "_law_first_wrong" f52 _ ["_law_row_here","_law_bars_here","_law_items_here"] (spFW K):=⟨ok_fw F52 UL cLl ,mg_of X G a52,k52,b52⟩
 have cMd:Callee l.prog w K mg base 9 "_law_made" f53 _ ["_law_form_here","_law_items_here"] (spLMade K ⟨C0,C1,C2,C3,C4⟩ FM):=⟨ok_lmade F53 UW so ⟨mkPT,a22,i22,kcPT⟩ GPt b22 ,mg_of X G a53,k53,b53⟩
 exact ok_law F54 UL cN cPl cRo cBr cIt cTd cFo cFw cMd FK mFT GFT b21
theorem walk {l:PySem.W.OpenLaw} {q:Program} {loose:List Str} {XP:(Str->Option Value)->Heap->Prop} {YP:World->Heap->Prop} {d:DefRec} {K:Params->Frag} (hn:l.most = some 63) (hdf:d.params.defaults = [])
  (hY:∀ (w:World) (h:Heap),YP w h->(K w.params).In h)
  (F:∀ (w:World) (mg:Str->Option Value) (fa:Addr) (h:Heap),(K w.params).In h->h.Ns mainGlobals mg->mg d.name = some (.ref fa)->
   ∃ fd:FuncData,(∀ (s:Shared) (u:Value),BindsTo s fd ⟨[u],[]⟩ [("_law_script",u)])/\∀ base:Heap,(K w.params).In base->base.Ns mainGlobals mg->FnOk l.prog w (K w.params) mg base CX0 10 fa fd ["_law_script"] (spLawB (K w.params))) :
  PySem.W.WalkO q loose XP YP l.row.toRowW d [] (fun f vs=>PySem.call f vs):=
 L2.walk_of (n:=63) (k:=10) (x:="_law_script") (CX:=fun _=>CX0) (sp:=fun w=>spLawB (K w.params)) hn (by decide) hdf ⟨rfl,by decide,by decide⟩ hY F (fun _ _ a ns hl _ hS=>⟨a,ns,rfl,hS,hl,fun _=>rfl⟩) fun _ _ _ _ _ z=>z
end K61
open PySem PySem.W PyProof.Rows
set_option maxRecDepth 100000 in
set_option maxHeartbeats 0 in
theorem PySem.Challenge.cw_callbinds_k61_parts_made_or_refused_holds : PySem.Challenge.rw_callbinds_k61_parts_made_or_refused.Holds := by
 w_on; o_law; k_head; (case hw => w_witness2)
 k_fill
 refine K61.walk (l := PySem.Challenge.rw_callbinds_k61_parts_made_or_refused) rfl rfl (fun w h Y => PySem.W.kIn_of Y) ?F
 case F =>
  intro w mg fa h KX G hmg
  refine' K61.all_mk KX G hmg ?aD ?pgD ?hdD ?poD ?saD ?mkD ?kcD ?aC0 ?pgC0 ?hdC0 ?poC0 ?saC0 ?mkC0 ?kcC0 ?nC0_word ?nC0_name ?nC0_may_lack ?aC1 ?pgC1 ?hdC1 ?poC1 ?saC1 ?mkC1 ?kcC1 ?nC1_word ?nC1_name ?nC1_may_lack ?aC2 ?pgC2 ?hdC2 ?poC2 ?saC2 ?mkC2 ?kcC2 ?nC2_word ?nC2_name ?nC2_may_lack ?aC3 ?pgC3 ?hdC3 ?poC3 ?saC3 ?mkC3 ?kcC3 ?nC3_word ?nC3_name ?nC3_may_lack ?aC4 ?pgC4 ?hdC4 ?poC4 ?saC4 ?mkC4 ?kcC4 ?nC4_word ?nC4_name ?nC4_may_lack ?aFM ?pgFM ?hdFM ?poFM ?saFM ?mkFM ?kcFM ?nFM_row ?nFM_bar_names ?nFM_place_count ?nFM_tail_number ?nFM_bag_number ?nFM_doors ?aPT ?pgPT ?hdPT ?poPT ?saPT ?mkPT ?kcPT ?nPT_kept_form ?nPT_things ?nPT_pairs ?a1 ?l1 ?c1 ?k1 ?a2 ?i2 ?l2 ?c2 ?k2 ?a3 ?i3 ?l3 ?c3 ?k3 ?a4 ?i4 ?l4 ?c4 ?k4 ?a5 ?i5 ?l5 ?c5 ?k5 ?a6 ?i6 ?l6 ?c6 ?k6 ?a7 ?i7 ?l7 ?c7 ?k7 ?a8 ?i8 ?l8 ?c8 ?k8 ?t8 ?a9 ?i9 ?l9 ?c9 ?k9 ?t9 ?a10 ?i10 ?l10 ?c10 ?k10 ?a11 ?i11 ?l11 ?c11 ?k11 ?t11 ?a12 ?i12 ?l12 ?c12 ?k12 ?a13 ?i13 ?l13 ?c13 ?k13 ?t13 ?a14 ?i14 ?l14 ?c14 ?k14 ?a15 ?i15 ?l15 ?c15 ?k15 ?a16 ?i16 ?l16 ?c16 ?k16 ?a17 ?i17 ?l17 ?c17 ?k17 ?a18 ?i18 ?l18 ?c18 ?k18 ?a19 ?i19 ?l19 ?c19 ?k19 ?a20 ?i20 ?l20 ?c20 ?k20 ?a21 ?i21 ?l21 ?c21 ?k21 ?a22 ?i22 ?l22 ?c22 ?k22 ?a23 ?i23 ?l23 ?c23 ?k23 ?a24 ?l24 ?c24 ?k24 ?a25 ?l25 ?c25 ?k25 ?a26 ?l26 ?c26 ?k26 ?a27 ?l27 ?c27 ?k27 ?a28 ?l28 ?c28 ?k28 ?a29 ?l29 ?c29 ?k29 ?a30 ?l30 ?c30 ?k30 ?a31 ?l31 ?c31 ?k31 ?a32 ?l32 ?c32 ?k32 ?a33 ?l33 ?c33 ?k33 ?a34 ?l34 ?c34 ?k34 ?a35 ?l35 ?c35 ?k35 ?a36 ?l36 ?c36 ?k36 ?a37 ?l37 ?c37 ?k37 ?a38 ?l38 ?c38 ?k38 ?a39 ?l39 ?c39 ?k39 ?a40 ?l40 ?c40 ?k40 ?a41 ?l41 ?c41 ?k41 ?a42 ?l42 ?c42 ?k42 ?a43 ?l43 ?c43 ?k43 ?a44 ?l44 ?c44 ?k44 ?a45 ?l45 ?c45 ?k45 ?a46 ?l46 ?c46 ?k46 ?a47 ?l47 ?c47 ?k47 ?a48 ?l48 ?c48 ?k48 ?a49 ?l49 ?c49 ?k49 ?a50 ?l50 ?c50 ?k50 ?a51 ?l51 ?c51 ?k51 ?a52 ?l52 ?c52 ?k52 ?a53 ?l53 ?c53 ?k53 ?a54 ?l54 ?c54 ?k54 ?zisinstance ?zstr ?zbool ?zlen ?zall ?zrange ?zlist ?zenumerate ?zset ?ztuple ?zValueError ?gL ?gN ?gMP ?gMB ?ytP ?utP ?ytB ?utB ?ytO ?utO ?ysg ?usg ?yGr ?lGr ?kGr ?eG0 ?eG1 ?eG2 ?eG3 ?eG4 ?dga ?drd ?dfc ?h0_3 ?h0_4 ?h0_5 ?h0_6 ?h0_7 ?h1_3 ?h1_4 ?h1_5 ?h1_6 ?h1_7 ?h2_3 ?h2_4 ?h2_5 ?h2_6 ?h2_7 ?h3_3 ?h3_4 ?h3_5 ?h3_6 ?h3_7 ?h4_3 ?h4_4 ?h4_5 ?h4_6 ?h4_7 ?yCE ?xgt ?xtk ?yE0 ?yE9 ?yE10 ?yE11 ?yE12 ?yE13 ?yE14 ?yE15 ?xo ?ec9 ?ea9 ?en9 ?el9 ?eb9 ?eo9 ?xm9 ?ek9 ?k9_9 ?k9_10 ?k9_11 ?k9_12 ?k9_13 ?k9_14 ?km9 ?kv9 ?em9 ?ei9 ?es9 ?et9 ?xt9 ?ef9 ?eq9 ?ec10 ?ea10 ?en10 ?el10 ?eb10 ?eo10 ?xm10 ?ek10 ?k10_9 ?k10_10 ?k10_11 ?k10_12 ?k10_13 ?k10_14 ?km10 ?kv10 ?em10 ?ei10 ?es10 ?et10 ?xt10 ?ef10 ?eq10 ?ec11 ?ea11 ?en11 ?el11 ?eb11 ?eo11 ?xm11 ?ek11 ?k11_9 ?k11_10 ?k11_11 ?k11_12 ?k11_13 ?k11_14 ?km11 ?kv11 ?em11 ?ei11 ?es11 ?et11 ?xt11 ?ef11 ?eq11 ?ec12 ?ea12 ?en12 ?el12 ?eb12 ?eo12 ?xm12 ?ek12 ?k12_9 ?k12_10 ?k12_11 ?k12_12 ?k12_13 ?k12_14 ?km12 ?kv12 ?em12 ?ei12 ?es12 ?et12 ?xt12 ?ef12 ?eq12 ?ec13 ?ea13 ?en13 ?el13 ?eb13 ?eo13 ?xm13 ?ek13 ?k13_9 ?k13_10 ?k13_11 ?k13_12 ?k13_13 ?k13_14 ?km13 ?kv13 ?em13 ?ei13 ?es13 ?et13 ?xt13 ?ef13 ?eq13 ?ec14 ?ea14 ?en14 ?el14 ?eb14 ?eo14 ?xm14 ?ek14 ?k14_9 ?k14_10 ?k14_11 ?k14_12 ?k14_13 ?k14_14 ?km14 ?kv14 ?em14 ?ei14 ?es14 ?et14 ?xt14 ?ef14 ?eq14
  (case yCE => k_is)
  (case yE0 => k_is)
  (case yE9 => k_is)
  (case yE10 => k_is)
  (case yE11 => k_is)
  (case yE12 => k_is)
  (case yE13 => k_is)
  (case yE14 => k_is)
  (case yE15 => k_is)
  (case aD => k_is)
  (case pgD => k_is)
  (case hdD => k_is)
  (case poD => k_is)
  (case saD => k_is)
  (case mkD => k_is)
  (case kcD => k_is)
  (case aC0 => k_is)
  (case pgC0 => k_is)
  (case hdC0 => k_is)
  (case poC0 => k_is)
  (case saC0 => k_is)
  (case mkC0 => k_is)
  (case kcC0 => k_is)
  (case nC0_word => k_is)
  (case nC0_name => k_is)
  (case nC0_may_lack => k_is)
  (case aC1 => k_is)
  (case pgC1 => k_is)
  (case hdC1 => k_is)
  (case poC1 => k_is)
  (case saC1 => k_is)
  (case mkC1 => k_is)
  (case kcC1 => k_is)
  (case nC1_word => k_is)
  (case nC1_name => k_is)
  (case nC1_may_lack => k_is)
  (case aC2 => k_is)
  (case pgC2 => k_is)
  (case hdC2 => k_is)
  (case poC2 => k_is)
  (case saC2 => k_is)
  (case mkC2 => k_is)
  (case kcC2 => k_is)
  (case nC2_word => k_is)
  (case nC2_name => k_is)
  (case nC2_may_lack => k_is)
  (case aC3 => k_is)
  (case pgC3 => k_is)
  (case hdC3 => k_is)
  (case poC3 => k_is)
  (case saC3 => k_is)
  (case mkC3 => k_is)
  (case kcC3 => k_is)
  (case nC3_word => k_is)
  (case nC3_name => k_is)
  (case nC3_may_lack => k_is)
  (case aC4 => k_is)
  (case pgC4 => k_is)
  (case hdC4 => k_is)
  (case poC4 => k_is)
  (case saC4 => k_is)
  (case mkC4 => k_is)
  (case kcC4 => k_is)
  (case nC4_word => k_is)
  (case nC4_name => k_is)
  (case nC4_may_lack => k_is)
  (case aFM => k_is)
  (case pgFM => k_is)
  (case hdFM => k_is)
  (case poFM => k_is)
  (case saFM => k_is)
  (case mkFM => k_is)
  (case kcFM => k_is)
  (case nFM_row => k_is)
  (case nFM_bar_names => k_is)
  (case nFM_place_count => k_is)
  (case nFM_tail_number => k_is)
  (case nFM_bag_number => k_is)
  (case nFM_doors => k_is)
  (case aPT => k_is)
  (case pgPT => k_is)
  (case hdPT => k_is)
  (case poPT => k_is)
  (case saPT => k_is)
  (case mkPT => k_is)
  (case kcPT => k_is)
  (case nPT_kept_form => k_is)
  (case nPT_things => k_is)
  (case nPT_pairs => k_is)
  (case a1 => k_is)
  (case l1 => k_is)
  (case c1 => k_is)
  (case k1 => k_is)
  (case a2 => k_is)
  (case i2 => k_is)
  (case l2 => k_is)
  (case c2 => k_is)
  (case k2 => k_is)
  (case a3 => k_is)
  (case i3 => k_is)
  (case l3 => k_is)
  (case c3 => k_is)
  (case k3 => k_is)
  (case a4 => k_is)
  (case i4 => k_is)
  (case l4 => k_is)
  (case c4 => k_is)
  (case k4 => k_is)
  (case a5 => k_is)
  (case i5 => k_is)
  (case l5 => k_is)
  (case c5 => k_is)
  (case k5 => k_is)
  (case a6 => k_is)
  (case i6 => k_is)
  (case l6 => k_is)
  (case c6 => k_is)
  (case k6 => k_is)
  (case a7 => k_is)
  (case i7 => k_is)
  (case l7 => k_is)
  (case c7 => k_is)
  (case k7 => k_is)
  (case a8 => k_is)
  (case i8 => k_is)
  (case l8 => k_is)
  (case c8 => k_is)
  (case k8 => k_is)
  (case t8 => k_is)
  (case a9 => k_is)
  (case i9 => k_is)
  (case l9 => k_is)
  (case c9 => k_is)
  (case k9 => k_is)
  (case t9 => k_is)
  (case a10 => k_is)
  (case i10 => k_is)
  (case l10 => k_is)
  (case c10 => k_is)
  (case k10 => k_is)
  (case a11 => k_is)
  (case i11 => k_is)
  (case l11 => k_is)
  (case c11 => k_is)
  (case k11 => k_is)
  (case t11 => k_is)
  (case a12 => k_is)
  (case i12 => k_is)
  (case l12 => k_is)
  (case c12 => k_is)
  (case k12 => k_is)
  (case a13 => k_is)
  (case i13 => k_is)
  (case l13 => k_is)
  (case c13 => k_is)
  (case k13 => k_is)
  (case t13 => k_is)
  (case a14 => k_is)
  (case i14 => k_is)
  (case l14 => k_is)
  (case c14 => k_is)
  (case k14 => k_is)
  (case a15 => k_is)
  (case i15 => k_is)
  (case l15 => k_is)
  (case c15 => k_is)
  (case k15 => k_is)
  (case a16 => k_is)
  (case i16 => k_is)
  (case l16 => k_is)
  (case c16 => k_is)
  (case k16 => k_is)
  (case a17 => k_is)
  (case i17 => k_is)
  (case l17 => k_is)
  (case c17 => k_is)
  (case k17 => k_is)
  (case a18 => k_is)
  (case i18 => k_is)
  (case l18 => k_is)
  (case c18 => k_is)
  (case k18 => k_is)
  (case a19 => k_is)
  (case i19 => k_is)
  (case l19 => k_is)
  (case c19 => k_is)
  (case k19 => k_is)
  (case a20 => k_is)
  (case i20 => k_is)
  (case l20 => k_is)
  (case c20 => k_is)
  (case k20 => k_is)
  (case a21 => k_is)
  (case i21 => k_is)
  (case l21 => k_is)
  (case c21 => k_is)
  (case k21 => k_is)
  (case a22 => k_is)
  (case i22 => k_is)
  (case l22 => k_is)
  (case c22 => k_is)
  (case k22 => k_is)
  (case a23 => k_is)
  (case i23 => k_is)
  (case l23 => k_is)
  (case c23 => k_is)
  (case k23 => k_is)
  (case a24 => k_is)
  (case l24 => k_is)
  (case c24 => k_is)
  (case k24 => k_is)
  (case a25 => k_is)
  (case l25 => k_is)
  (case c25 => k_is)
  (case k25 => k_is)
  (case a26 => k_is)
  (case l26 => k_is)
  (case c26 => k_is)
  (case k26 => k_is)
  (case a27 => k_is)
  (case l27 => k_is)
  (case c27 => k_is)
  (case k27 => k_is)
  (case a28 => k_is)
  (case l28 => k_is)
  (case c28 => k_is)
  (case k28 => k_is)
  (case a29 => k_is)
  (case l29 => k_is)
  (case c29 => k_is)
  (case k29 => k_is)
  (case a30 => k_is)
  (case l30 => k_is)
  (case c30 => k_is)
  (case k30 => k_is)
  (case a31 => k_is)
  (case l31 => k_is)
  (case c31 => k_is)
  (case k31 => k_is)
  (case a32 => k_is)
  (case l32 => k_is)
  (case c32 => k_is)
  (case k32 => k_is)
  (case a33 => k_is)
  (case l33 => k_is)
  (case c33 => k_is)
  (case k33 => k_is)
  (case a34 => k_is)
  (case l34 => k_is)
  (case c34 => k_is)
  (case k34 => k_is)
  (case a35 => k_is)
  (case l35 => k_is)
  (case c35 => k_is)
  (case k35 => k_is)
  (case a36 => k_is)
  (case l36 => k_is)
  (case c36 => k_is)
  (case k36 => k_is)
  (case a37 => k_is)
  (case l37 => k_is)
  (case c37 => k_is)
  (case k37 => k_is)
  (case a38 => k_is)
  (case l38 => k_is)
  (case c38 => k_is)
  (case k38 => k_is)
  (case a39 => k_is)
  (case l39 => k_is)
  (case c39 => k_is)
  (case k39 => k_is)
  (case a40 => k_is)
  (case l40 => k_is)
  (case c40 => k_is)
  (case k40 => k_is)
  (case a41 => k_is)
  (case l41 => k_is)
  (case c41 => k_is)
  (case k41 => k_is)
  (case a42 => k_is)
  (case l42 => k_is)
  (case c42 => k_is)
  (case k42 => k_is)
  (case a43 => k_is)
  (case l43 => k_is)
  (case c43 => k_is)
  (case k43 => k_is)
  (case a44 => k_is)
  (case l44 => k_is)
  (case c44 => k_is)
  (case k44 => k_is)
  (case a45 => k_is)
  (case l45 => k_is)
  (case c45 => k_is)
  (case k45 => k_is)
  (case a46 => k_is)
  (case l46 => k_is)
  (case c46 => k_is)
  (case k46 => k_is)
  (case a47 => k_is)
  (case l47 => k_is)
  (case c47 => k_is)
  (case k47 => k_is)
  (case a48 => k_is)
  (case l48 => k_is)
  (case c48 => k_is)
  (case k48 => k_is)
  (case a49 => k_is)
  (case l49 => k_is)
  (case c49 => k_is)
  (case k49 => k_is)
  (case a50 => k_is)
  (case l50 => k_is)
  (case c50 => k_is)
  (case k50 => k_is)
  (case a51 => k_is)
  (case l51 => k_is)
  (case c51 => k_is)
  (case k51 => k_is)
  (case a52 => k_is)
  (case l52 => k_is)
  (case c52 => k_is)
  (case k52 => k_is)
  (case a53 => k_is)
  (case l53 => k_is)
  (case c53 => k_is)
  (case k53 => k_is)
  (case a54 => k_is)
  (case l54 => k_is)
  (case c54 => k_is)
  (case k54 => k_is)
  (case zisinstance => k_is)
  (case zstr => k_is)
  (case zbool => k_is)
  (case zlen => k_is)
  (case zall => k_is)
  (case zrange => k_is)
  (case zlist => k_is)
  (case zenumerate => k_is)
  (case zset => k_is)
  (case ztuple => k_is)
  (case zValueError => k_is)
  (case gL => k_is)
  (case gN => k_is)
  (case gMP => k_is)
  (case gMB => k_is)
  (case ytP => k_is)
  (case utP => k_is)
  (case ytB => k_is)
  (case utB => k_is)
  (case ytO => k_is)
  (case utO => k_is)
  (case ysg => k_is)
  (case usg => k_is)
  (case yGr => k_is)
  (case lGr => k_is)
  (case kGr => k_keys)
  (case eG0 => k_is)
  (case eG1 => k_is)
  (case eG2 => k_is)
  (case eG3 => k_is)
  (case eG4 => k_is)
  (case dga => k_is)
  (case drd => k_is)
  (case dfc => k_is)
  (case h0_3 => k_is)
  (case h0_4 => k_is)
  (case h0_5 => k_is)
  (case h0_6 => k_is)
  (case h0_7 => k_is)
  (case h1_3 => k_is)
  (case h1_4 => k_is)
  (case h1_5 => k_is)
  (case h1_6 => k_is)
  (case h1_7 => k_is)
  (case h2_3 => k_is)
  (case h2_4 => k_is)
  (case h2_5 => k_is)
  (case h2_6 => k_is)
  (case h2_7 => k_is)
  (case h3_3 => k_is)
  (case h3_4 => k_is)
  (case h3_5 => k_is)
  (case h3_6 => k_is)
  (case h3_7 => k_is)
  (case h4_3 => k_is)
  (case h4_4 => k_is)
  (case h4_5 => k_is)
  (case h4_6 => k_is)
  (case h4_7 => k_is)
  (case xgt => k_is)
  (case xtk => k_is)
  (case xo => k_exc)
  (case ec9 => first | kernel_rfl | exact rfl)
  (case ea9 => k_is)
  (case en9 => k_is)
  (case el9 => k_is)
  (case eb9 => k_is)
  (case eo9 => k_is)
  (case xm9 => first | kernel_rfl | exact rfl)
  (case ek9 => k_is)
  (case k9_9 => kit_is)
  (case k9_10 => kit_is)
  (case k9_11 => kit_is)
  (case k9_12 => kit_is)
  (case k9_13 => kit_is)
  (case k9_14 => kit_is)
  (case km9 => kit_is)
  (case kv9 => kit_is)
  (case em9 => kts_exm)
  (case ei9 => k_is)
  (case es9 => k_is)
  (case et9 => k_is)
  (case xt9 => first | kernel_rfl | exact rfl)
  (case ef9 => k_is)
  (case eq9 => k_is)
  (case ec10 => first | kernel_rfl | exact rfl)
  (case ea10 => k_is)
  (case en10 => k_is)
  (case el10 => k_is)
  (case eb10 => k_is)
  (case eo10 => k_is)
  (case xm10 => first | kernel_rfl | exact rfl)
  (case ek10 => k_is)
  (case k10_9 => kit_is)
  (case k10_10 => kit_is)
  (case k10_11 => kit_is)
  (case k10_12 => kit_is)
  (case k10_13 => kit_is)
  (case k10_14 => kit_is)
  (case km10 => kit_is)
  (case kv10 => kit_is)
  (case em10 => kts_exm)
  (case ei10 => k_is)
  (case es10 => k_is)
  (case et10 => k_is)
  (case xt10 => first | kernel_rfl | exact rfl)
  (case ef10 => k_is)
  (case eq10 => k_is)
  (case ec11 => first | kernel_rfl | exact rfl)
  (case ea11 => k_is)
  (case en11 => k_is)
  (case el11 => k_is)
  (case eb11 => k_is)
  (case eo11 => k_is)
  (case xm11 => first | kernel_rfl | exact rfl)
  (case ek11 => k_is)
  (case k11_9 => kit_is)
  (case k11_10 => kit_is)
  (case k11_11 => kit_is)
  (case k11_12 => kit_is)
  (case k11_13 => kit_is)
  (case k11_14 => kit_is)
  (case km11 => kit_is)
  (case kv11 => kit_is)
  (case em11 => kts_exm)
  (case ei11 => k_is)
  (case es11 => k_is)
  (case et11 => k_is)
  (case xt11 => first | kernel_rfl | exact rfl)
  (case ef11 => k_is)
  (case eq11 => k_is)
  (case ec12 => first | kernel_rfl | exact rfl)
  (case ea12 => k_is)
  (case en12 => k_is)
  (case el12 => k_is)
  (case eb12 => k_is)
  (case eo12 => k_is)
  (case xm12 => first | kernel_rfl | exact rfl)
  (case ek12 => k_is)
  (case k12_9 => kit_is)
  (case k12_10 => kit_is)
  (case k12_11 => kit_is)
  (case k12_12 => kit_is)
  (case k12_13 => kit_is)
  (case k12_14 => kit_is)
  (case km12 => kit_is)
  (case kv12 => kit_is)
  (case em12 => kts_exm)
  (case ei12 => k_is)
  (case es12 => k_is)
  (case et12 => k_is)
  (case xt12 => first | kernel_rfl | exact rfl)
  (case ef12 => k_is)
  (case eq12 => k_is)
  (case ec13 => first | kernel_rfl | exact rfl)
  (case ea13 => k_is)
  (case en13 => k_is)
  (case el13 => k_is)
  (case eb13 => k_is)
  (case eo13 => k_is)
  (case xm13 => first | kernel_rfl | exact rfl)
  (case ek13 => k_is)
  (case k13_9 => kit_is)
  (case k13_10 => kit_is)
  (case k13_11 => kit_is)
  (case k13_12 => kit_is)
  (case k13_13 => kit_is)
  (case k13_14 => kit_is)
  (case km13 => kit_is)
  (case kv13 => kit_is)
  (case em13 => kts_exm)
  (case ei13 => k_is)
  (case es13 => k_is)
  (case et13 => k_is)
  (case xt13 => first | kernel_rfl | exact rfl)
  (case ef13 => k_is)
  (case eq13 => k_is)
  (case ec14 => first | kernel_rfl | exact rfl)
  (case ea14 => k_is)
  (case en14 => k_is)
  (case el14 => k_is)
  (case eb14 => k_is)
  (case eo14 => k_is)
  (case xm14 => first | kernel_rfl | exact rfl)
  (case ek14 => k_is)
  (case k14_9 => kit_is)
  (case k14_10 => kit_is)
  (case k14_11 => kit_is)
  (case k14_12 => kit_is)
  (case k14_13 => kit_is)
  (case k14_14 => kit_is)
  (case km14 => kit_is)
  (case kv14 => kit_is)
  (case em14 => kts_exm)
  (case ei14 => k_is)
  (case es14 => k_is)
  (case et14 => k_is)
  (case xt14 => first | kernel_rfl | exact rfl)
  (case ef14 => k_is)
  (case eq14 => k_is)
#print axioms PySem.Challenge.cw_callbinds_k61_parts_made_or_refused_holds
