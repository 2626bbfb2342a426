import PyProof.Rows.All
import Wide.All
import OpenK.AllK
import Wide.FinOn
import Lean
import PyProof.EqAt
import PyProof.EqKinds
import PyProof.TupleCall
import KE.KTryMore
import PyProof.ExcAttrAll.ValueError
import KE.KRevIter
import PyProof.SetNew
import PyProof.SetRoads
import PyProof.Rows.SetObj
import PyProof.DictCompW
import PyProof.DictItems
import PyProof.Rows.SetFrom
import PyProof.ListRange
import PyProof.Rows.Range3
import KE.IntBitsLaws
import PyProof.AttrMissHeap
import PyProof.FactsAll.bool_1
import KE.KDictOf
import PyProof.WalkInts
import PyProof.P3Eq
import PyProof.Rows.SortStr
import PyProof.Rows.SortWalk
import PyProof.DictRoadsH
import PyProof.FactsAll.set
import PyProof.CollectWalk
import PyProof.CollectIter
import PyProof.NeData
import KE.KMinBuiltin
import PyProof.Rows.CallKwBuiltin
import KE.RegKIsAll
import KE.RegKTryMore
import PySem.Challenge.RW_callbinds_k83_stands_or_parts
set_option Elab.async false
set_option linter.all false
set_option maxRecDepth 100000
set_option maxHeartbeats 4000000
open Nat (lt_of_lt_of_le lt_irrefl ne_of_lt le_of_lt ne_of_gt zero_le lt_succ_self le_succ lt_trans lt_of_le_of_lt lt_succ_of_lt not_lt_zero mod_lt lt_or_ge lt_of_sub_eq_succ le_succ_of_le)
open List (filterMap_cons mem_cons_self mem_cons_of_mem mem_append_left getElem?_set_ne mem_append_right size_toArray length_cons length_nil map_cons length_map append_nil of_mem_zip length_take getElem?_append_right getElem?_append_left getElem?_map take_sublist mem_of_getElem? length_append length_drop length_set all_cons any_cons replicate_succ flatten_cons append_assoc length_singleton nil_append find?_cons map_nil lookup_cons getElem?_eq_getElem getD_eq_getElem?_getD all_eq_true getElem_mem reverse_cons take_of_length_le map_map all_map take_add_one map_append take_succ_eq_append_getElem filter_append drop_length length_filter_le take_length mem_append getElem?_eq_none flatten_append take_append_drop length_range range_succ any_map find?_some any_append any_eq_true filter_cons zip_cons_cons not_lt drop_of_length_le take_nil drop_nil map_drop mem_of_mem_drop map_take mem_of_mem_take filter_congr nil_sublist append_eq_nil_iff getElem?_drop not_mem_nil nodup_nil length_reverse mem_cons nodup_range map_reverse reverse_perm map_set getElem?_of_mem lookup_cons_self)
open Int (toNat_natCast emod_nonneg emod_lt_of_pos)
open Option (getD_none map_some isSome_map map_eq_none_iff)
open PySem.W (instObj methodObj lookIn plainGet hasDictIn findIn plainGet_of isFn plainOver takerIn makesIn emptyDict keepIn kitOne kia_one callWith_K methodCall_KW fnOf codeIn KeysLit nsIn mg_of Frag)
namespace L2
open PySem PySem.Spec PyProof.Rows
theorem zz0 : 0<=sizeLine:=by decide
theorem zz2 : 2<=sizeLine:=by decide
theorem zz1 : 1<=sizeLine:=by decide
theorem zz3 : 3<=sizeLine:=by decide
theorem zp26:(0:Int)<26:=by decide
theorem zp2:(0:Int)<2:=by decide
theorem zp16:(0:Int)<16:=by decide
abbrev Key:=Sum Int Str
def qd:Key->Value->Bool
 | .inl k,v=>Value.isInt k v
 | .inr x,v=>Value.isStrOf x v
def zl0(w:World):Key->Int
 | .inl k=>hashInt k
 | .inr x=>hashStr w x
theorem yE:∀{k:Key}{v:Value},qd k v=true->(∃i t,k=Sum.inl i/\v=Value.int i t)\/(∃x t,k=Sum.inr x/\v=Value.str x t)
 | .inl i,v,h=>by
  obtain⟨t,e⟩:=Value.isInt_shape (k:=i) (v:=v) h;exact .inl ⟨i,t,rfl,e⟩
 | .inr x,v,h=>by
  obtain⟨t,e⟩:=Value.isStrOf_shape (x:=x) (v:=v) h;exact .inr ⟨x,t,rfl,e⟩
theorem zeJ(i:Int) (t:Tok):qd (.inl i) (.int i t)=true:=by simp [qd,Value.isInt]
theorem zeI(x:Str) (t:Tok):qd (.inr x) (.str x t)=true:=by simp [qd,Value.isStrOf]
theorem zj2(a b:Int):decide ((Sum.inl a:Key)=Sum.inl b)=(a==b):=by
 by_cases e:a=b
 ·subst e;simp
 ·have h:¬(Sum.inl a:Key)=Sum.inl b:=fun q=>e (Sum.inl.inj q)
  rw[decide_eq_false h];exact(beq_eq_false_iff_ne.mpr e).symm
theorem zgA(a b:Str):decide ((Sum.inr a:Key)=Sum.inr b)=decide (a=b):=by
 by_cases e:a=b
 ·subst e;simp
 ·have h:¬(Sum.inr a:Key)=Sum.inr b:=fun q=>e (Sum.inr.inj q)
  rw[decide_eq_false h,decide_eq_false e]
theorem zj1(a:Int) (b:Str):decide ((Sum.inl a:Key)=Sum.inr b)=false:=decide_eq_false (fun q=>nomatch q)
theorem zj0(a:Str) (b:Int):decide ((Sum.inr a:Key)=Sum.inl b)=false:=decide_eq_false (fun q=>nomatch q)
def yo(prog:Program) (w:World):PySem.KeyKind prog w Key where
 is:=qd
 hash:=zl0 w
 inj:=fun v a b ha hb=>by
  rcases yE ha with ⟨i,t,rfl,rfl⟩|⟨x,t,rfl,rfl⟩
  ·rcases yE hb with ⟨j,u,rfl,e⟩|⟨y,u,rfl,e⟩
   ·injection e with e1 _;rw[e1]
   ·exact nomatch e
  ·rcases yE hb with ⟨j,u,rfl,e⟩|⟨y,u,rfl,e⟩
   ·exact nomatch e
   ·injection e with e1 _;rw[e1]
 byValue:=fun k v h=>by
  rcases yE h with ⟨i,t,rfl,rfl⟩|⟨x,t,rfl,rfl⟩ <;> rfl
 pyHash:=fun hv h=>by
  rcases yE hv with ⟨i,t,rfl,rfl⟩|⟨x,t,rfl,rfl⟩
  ·exact wpAny_pyHash_int h
  ·exact wpAny_pyHash_str h
 eqBool:=fun hu hv h=>by
  rcases yE hu with ⟨i,t,rfl,rfl⟩|⟨x,t,rfl,rfl⟩
  ·rcases yE hv with ⟨j,u,rfl,rfl⟩|⟨y,u,rfl,rfl⟩
   ·rw[zj2] at h;exact wpAny_eqBool_int h
   ·rw[zj1] at h;exact SeqAt.EqAt.int_str i t y u _ _ _ _ h
  ·rcases yE hv with ⟨j,u,rfl,rfl⟩|⟨y,u,rfl,rfl⟩
   ·rw[zj0] at h;exact SeqAt.EqAt.str_int x t j u _ _ _ _ h
   ·rw[zgA] at h;exact wpAny_eqBool_str h
 «strs»:=fun k x t v h=>by
  rcases yE h with ⟨i,u,rfl,e⟩|⟨y,u,rfl,e⟩
  ·exact nomatch e
  ·injection e with e1 _
   subst e1;cases v <;> rfl
theorem zbP(prog:Program) (w:World) (i:Int) (t:Tok):(yo prog w).is (.inl i) (.int i t)=true:=zeJ i t
theorem zbO(prog:Program) (w:World) (x:Str) (t:Tok):(yo prog w).is (.inr x) (.str x t)=true:=zeI x t
inductive V where
 | non|bl (b:Bool)|int (i:Int)|str (x:Str)|byt (b:Array UInt8)|flt (b:UInt64)|ref (a:Addr)|ty (n:String)
 deriving DecidableEq
def zV:V->Value->Prop
 | .non,u=>u=Value.none
 | .bl b,u=>u=Value.bool b
 | .int i,u=>∃t,u=Value.int i t
 | .str x,u=>∃t,u=Value.str x t
 | .byt b,u=>∃t,u=Value.bytes b t
 | .flt b,u=>∃t,u=Value.float b t
 | .ref a,u=>u=Value.ref a
 | .ty n,u=>u=Value.type n
abbrev zQ:List V->List Value->Prop:=Paired zV
theorem zQ.length{xs:List V}{us:List Value}(r:zQ xs us):xs.length=us.length:=Paired.length r
theorem zQ.get:∀{xs:List V}{us:List Value}{i:Nat}{x:V},zQ xs us->xs[i]?=some x->∃u,us[i]?=some u/\zV x u
 | _,_,_,_,.nil,e=>by simp at e
 | _,_,0,_,.cons r _,e=>by simp at e;subst e;exact⟨_,rfl,r⟩
 | _,_,i+1,x,.cons _ t,e=>by
  obtain⟨u,h1,h2⟩:=zQ.get (i:=i) (x:=x) t (by simpa using e)
  exact⟨u,by simpa using h1,h2⟩
theorem zQ.set{x:V}{u:Value}(r:zV x u):∀{xs:List V}{us:List Value}(i:Nat),zQ xs us->zQ (xs.set i x) (us.set i u)
 | _,_,_,.nil=>.nil
 | _,_,0,.cons _ t=>.cons r t
 | _,_,i+1,.cons q t=>.cons q (zQ.set r i t)
theorem zQ.append:∀{xs ys:List V}{us ws:List Value},zQ xs us->zQ ys ws->zQ (xs++ys) (us++ws)
 | _,_,_,_,.nil,s=>s
 | _,_,_,_,.cons r t,s=>.cons r (zQ.append t s)
theorem zQ.take:∀{xs:List V}{us:List Value}(n:Nat),zQ xs us->zQ (xs.take n) (us.take n)
 | _,_,0,_=>.nil
 | _,_,_+1,.nil=>.nil
 | _,_,n+1,.cons r t=>.cons r (zQ.take n t)
theorem zQ.drop:∀{xs:List V}{us:List Value}(n:Nat),zQ xs us->zQ (xs.drop n) (us.drop n)
 | _,_,0,r=>r
 | _,_,_+1,.nil=>.nil
 | _,_,n+1,.cons _ t=>zQ.drop n t
def w9:Option V->Option Value->Prop
 | some v,some u=>zV v u
 | none,none=>True
 | _,_=>False
def KV{κ : Type}:List (κ×V)->List (κ×Value)->Prop:=Paired fun (p : κ×V) (q : κ×Value)=>p.1=q.1/\zV p.2 q.2
def kV:Key->V
 | .inl i=>.int i
 | .inr x=>.str x
inductive HO where
 | lst (xs:List V)
 | tup (xs:List V)
 | dK (kvs:List (Key×V))|dT (kvs:List (List Key×V))
 | set (S:Int->Bool) (n:Nat)
 | ins (C dx:Addr) (fs:List (Str×V))
 | own (x:Addr)
 | xd (fs:List (Str×V))
 | met (f x:Addr)
 | rng (lo hi:Int)
 | frz (o:Obj) (u:HO)
 | tbl (ps:Array Value)
 | ext (φ : Heap->Prop)
abbrev Hp:=Addr->Option HO
def upd(H:Hp) (a:Addr) (o:HO):Hp:=fun b=>if b=a then some o else H b
theorem za{H:Hp}{a:Addr}{o:HO}:upd H a o a=some o:=by unfold upd;rw[if_pos rfl]
theorem zh{H:Hp}{a b:Addr}{o:HO}(h:b≠a):upd H a o b=H b:=by unfold upd;rw[if_neg h]
theorem vz{H:Hp}{a:Addr}{o u:HO}:upd (upd H a o) a u=upd H a u:=by
 funext b;unfold upd;split <;> rfl
theorem xY{H:Hp}{a b:Addr}{o u:HO}(h:H a=some o) (h':H b=some u) (d:o≠u):a≠b:=by
 intro e;subst e;rw[h] at h';exact d (Option.some.inj h')
theorem zi{H:Hp}{a b:Addr}{o:HO}(h:H a=some o) (h':H b=none):a≠b:=by
 intro e;subst e;rw[h] at h';cases h'
section
variable (P:Program) (w:World)
def yH(H:Hp) (h:Heap) (a:Addr):HO->Prop
 | .lst xs=>xs.length<=sizeLine/\∃(its:List Value) (n:Nat),zQ xs its/\h.get? a=some { cls:=.type "list",data:=.seq its.toArray n }
 | .tup xs=>xs.length<=sizeLine/\∃its:List Value,zQ xs its/\IsTup h a its.toArray
 | .dK kvs=>kvs.length<=sizeLine/\(a==sysModules)=false/\∃vs,KV kvs vs/\h.DictOf (yo P w) a vs
 | .dT kvs=>kvs.length<=sizeLine/\(a==sysModules)=false/\∃xs:List (List Key×Addr×Value),
   Paired (fun (p:List Key×V) (q:List Key×Addr×Value)=>p.1=q.1/\H q.2.1=some (.tup (p.1.map kV))/\zV p.2 q.2.2) kvs xs/\
   ∃o es ep,h.get? a=some o/\o.ExactDict/\o.data=.dict es ep/\es.toList=xs.map (entryOfKey (tupleKind (yo P w)))/\(xs.map (·.1)).Nodup
 | .set S n=>h.SetOf (intKind P w) a S n
 | .ins C dx fs=>H dx=some (.own a)/\fs.length<=1000/\dx≠a/\h.get? a=some (instObj C dx)/\
   ∃mA,h.Ns1 dx mA/\(∀f,w9 (fs.lookup f) (mA f))/\PySem.Within mA (fs.map (·.1))
 | .own _=>∃o,h.get? a=some o
 | .xd fs=>∃mA,h.Ns1 a mA/\∀f,w9 (fs.lookup f) (mA f)
 | .rng lo hi=>∃t u v,h.get? a=some { cls:=.type "range",data:=.fields #[.int lo t,.int hi u,.int 1 v] }
 | .frz o u=>h.get? a=some o/\yH H h a u
 | .tbl ps=>h.get? a=some { cls:=.none,data:=.fields ps }
 | .met f x=>h.get? a=some (methodObj (.ref f) (.ref x))
 | .ext φ=>φ h/\(∃o,h.get? a=some o)/\∀h1 h2:Heap,φ h1->(∀o,h1.get? a=some o->h2.get? a=some o)->φ h2
def HOk(H:Hp) (h:Heap):Prop:=∀a o,H a=some o->yH P w H h a o
end
section
variable {P:Program}{w:World}{H H':Hp}{h h':Heap}{a:Addr}{o:HO}
theorem yH.lt(x:yH P w H h a o):a<h.objs.size:=by
 cases o with
 | lst xs=>obtain⟨_,_,_,_,e⟩:=x;exact Heap.lt_size e
 | tup xs=>obtain⟨_,_,_,p⟩:=x;exact p.lt
 | dK kvs=>obtain⟨_,_,_,_,o,_,_,e,_⟩:=x;exact Heap.lt_size e
 | dT kvs=>obtain⟨_,_,_,_,o,_,_,e,_⟩:=x;exact Heap.lt_size e
 | set S n=>obtain⟨o,_,_,_,e,_⟩:=x;exact Heap.lt_size e
 | ins C dx fs=>obtain⟨_,_,_,e,_⟩:=x;exact Heap.lt_size e
 | own y=>obtain⟨_,e⟩:=x;exact Heap.lt_size e
 | xd fs=>obtain⟨_,⟨_,_,_,e,_⟩,_⟩:=x;exact Heap.lt_size e
 | rng lo hi=>obtain⟨_,_,_,e⟩:=x;exact Heap.lt_size e
 | frz ob u=>obtain⟨e,_⟩:=x;exact Heap.lt_size e
 | tbl ps=>exact Heap.lt_size (show h.get? a=some _ from x)
 | met f y=>exact Heap.lt_size (show h.get? a=some _ from x)
 | ext φ=>obtain⟨_,⟨_,e⟩,_⟩:=x;exact Heap.lt_size e
theorem Paired.mapP{α β : Type}{F G : α->β->Prop}:∀{l₁:List α}{l₂:List β},Paired F l₁ l₂->(∀a b,F a b->G a b)->Paired G l₁ l₂
 | _,_,.nil,_=>.nil
 | _,_,.cons r t,f=>.cons (f _ _ r) (Paired.mapP t f)
theorem Paired.imp'{α β : Type}{F G : α->β->Prop}(f:∀a b,F a b->G a b) {l₁:List α}{l₂:List β}(r:Paired F l₁ l₂):Paired G l₁ l₂:=Paired.mapP r f
theorem yH.stay(x:yH P w H h a o) (k:∀b u,(b=a\/H b=some (.own a))->h.get? b=some u->h'.get? b=some u)
  (ho:∀b,H b=some (.own a)->H' b=some (.own a)) (ht:∀b xs,H b=some (.tup xs)->H' b=some (.tup xs)):yH P w H' h' a o:=by
 induction o with
 | lst xs=>obtain⟨z,its,n,r,e⟩:=x;exact⟨z,its,n,r,k _ _ (.inl rfl) e⟩
 | tup xs=>obtain⟨z,its,r,ob,e,c⟩:=x;exact⟨z,its,r,ob,k _ _ (.inl rfl) e,c⟩
 | dK kvs=>obtain⟨z,y,vs,r,ob,es,ep,e,c⟩:=x;exact⟨z,y,vs,r,ob,es,ep,k _ _ (.inl rfl) e,c⟩
 | dT kvs=>
  obtain⟨z,y,xs,r,ob,es,ep,e,c⟩:=x;exact⟨z,y,xs,Paired.mapP r fun p q z=>⟨z.1,ht _ _ z.2.1,z.2.2⟩,ob,es,ep,k _ _ (.inl rfl) e,c⟩
 | set S n=>obtain⟨ob,es,ep,t,e,c⟩:=x;exact⟨ob,es,ep,t,k _ _ (.inl rfl) e,c⟩
 | ins C dx fs=>
  obtain⟨d,z,ne,e,mA,⟨od,es,ep,e2,c⟩,r⟩:=x;exact⟨ho _ d,z,ne,k _ _ (.inl rfl) e,mA,⟨od,es,ep,k _ _ (.inr d) e2,c⟩,r⟩
 | own y=>obtain⟨ob,e⟩:=x;exact⟨ob,k _ _ (.inl rfl) e⟩
 | xd fs=>obtain⟨mA,⟨od,es,ep,e,c⟩,r⟩:=x;exact⟨mA,⟨od,es,ep,k _ _ (.inl rfl) e,c⟩,r⟩
 | rng lo hi=>obtain⟨t,u,v,e⟩:=x;exact⟨t,u,v,k _ _ (.inl rfl) e⟩
 | frz ob u ih=>obtain⟨e,q⟩:=x;exact⟨k _ _ (.inl rfl) e,ih q⟩
 | tbl ps=>
  have e:h.get? a=some { cls:=.none,data:=.fields ps }:=x;show h'.get? a=some { cls:=.none,data:=.fields ps };exact k a _ (.inl rfl) e
 | met f y=>
  have e:h.get? a=some (methodObj (.ref f) (.ref y)):=x;show h'.get? a=some (methodObj (.ref f) (.ref y));exact k a _ (.inl rfl) e
 | ext φ=>obtain⟨p,⟨o,e⟩,st⟩:=x;exact⟨st _ _ p fun o q=>k _ _ (.inl rfl) q,⟨o,k _ _ (.inl rfl) e⟩,st⟩
theorem HOk.lt(x:HOk P w H h) (e:H a=some o):a<h.objs.size:=(x a o e).lt
theorem HOk.fresh(x:HOk P w H h) (e:h.objs.size<=a):H a=none:=by
 cases q:H a with
 | none=>rfl
 | some u=>exact absurd (lt_of_lt_of_le (x.lt q) e) (lt_irrefl _)
theorem HOk.kept(x:HOk P w H h) (k:∀b u,h.get? b=some u->h'.get? b=some u):HOk P w H h':=fun a o e=>
 (x a o e).stay (fun b u _ q=>k b u q) (fun _ q=>q) fun _ _ q=>q
theorem HOk.laid(x:HOk P w H h) (k:∀b u,h.get? b=some u->h'.get? b=some u) (hp:h.objs.size<=a) (new:yH P w (upd H a o) h' a o):HOk P w (upd H a o) h':=fun b u e=>by
 have hn:=x.fresh hp;by_cases hb:b=a
 ·subst hb;rw[za] at e;cases e;exact new
 ·rw[zh hb] at e
  exact(x b u e).stay (fun c v _ q=>k c v q) (fun c q=>by rw[zh (zi q hn)];exact q) fun c xs q=>by rw[zh (zi q hn)];exact q
end
def Rd(H:Hp) (a:Addr) (u:HO):Prop:=H a=some u\/∃o,H a=some (.frz o u)
theorem Rd.ok{P:Program}{w:World}{H:Hp}{h:Heap}{a:Addr}{u:HO}(r:Rd H a u) (x:HOk P w H h):yH P w H h a u:=by
 rcases r with r|⟨o,r⟩
 ·exact x a u r
 ·obtain⟨_,q⟩:=x a _ r
  exact q
def Mut:Option HO->Prop
 | some (.lst _)=>True
 | some (.dK _)=>True
 | some (.dT _)=>True
 | some (.set _ _)=>True
 | some (.ins _ _ _)=>True
 | some (.ext _)=>True
 | _=>False
section
variable {P:Program}{w:World}{H:Hp}{h h':Heap}{x e:Addr}{o':HO}
theorem HOk.write(ok:HOk P w H h) (mu:Mut (H x)) (he:e=x\/H e=some (.own x)) (k:∀b u,b≠e->h.get? b=some u->h'.get? b=some u) (heo:∃u,h'.get? e=some u)
  (new:yH P w (upd H x o') h' x o'):HOk P w (upd H x o') h':=fun b u q=>by
 have nown:∀c y,H c=some (.own y)->c≠x:=fun c y r z=>by subst z;rw[r] at mu;exact mu
 have ntup:∀c xs,H c=some (.tup xs)->c≠x:=fun c xs r z=>by subst z;rw[r] at mu;exact mu
 by_cases hb:b=x
 ·subst hb;rw[za] at q;cases q;exact new
 ·rw[zh hb] at q
  by_cases hbe:b=e
  ·have q':H b=some (.own x):=by
    rcases he with z|z
    ·exact absurd (hbe.trans z) hb
    ·rw[hbe];exact z
   rw[q] at q';cases q';obtain⟨v,hv⟩:=heo;exact⟨v,by rw[hbe];exact hv⟩
  ·refine(ok b u q).stay (fun c v hc r=>k c v ?_ r) (fun c r=>by rw[zh (nown c b r)];exact r) fun c xs r=>by rw[zh (ntup c xs r)];exact r
   rcases hc with rfl|hc
   ·exact hbe
   ·rintro rfl
    rcases he with z|z
    ·exact nown c b hc z
    ·rw[hc] at z;cases z;exact hb rfl
end
structure Un(fs ex:List Addr) (H H':Hp) (h h':Heap):Prop where
 keep:∀b o,h.get? b=some o->H b=none->b∉fs->b∉ex->h'.get? b=some o
 slot:∀b o,h.get? b=some o->H b=none->b∈fs->b∉ex->∃sl,h'.get? b=some { o with slots:=sl }
 free:∀b o,h.get? b=some o->H b=none->b∉ex->H' b=none
 there:∀b o,h.get? b=some o->b∉ex->∃o',h'.get? b=some o'
 tups:∀b xs,H b=some (.tup xs)->H' b=some (.tup xs)
 frzs:∀b o u,H b=some (.frz o u)->H' b=some (.frz o u)
 tbls:∀b ps,H b=some (.tbl ps)->∃more,H' b=some (.tbl (ps++more))
section
variable {fs fs' ex ex':List Addr}{H H1 H2:Hp}{h h1 h2 h':Heap}{a x e:Addr}{o:HO}
theorem Un.any(u:Un fs ex H H1 h h1) {b:Addr}{ob:Obj}(q:h.get? b=some ob) (n:H b=none) (hx:b∉ex):∃sl,h1.get? b=some { ob with slots:=sl }:=by
 by_cases hb:b∈fs
 ·exact u.slot b ob q n hb hx
 ·exact⟨ob.slots,u.keep b ob q n hb hx⟩
theorem Un.kept(k:∀b u,h.get? b=some u->h'.get? b=some u):Un fs ex H H h h':=
 ⟨fun b ob q _ _ _=>k b ob q,fun b ob q _ _ _=>⟨ob.slots,k b ob q⟩,fun _ _ _ n _=>n,fun b ob q _=>⟨ob,k b ob q⟩,fun _ _ q=>q,fun _ _ _ q=>q,fun _ ps q=>⟨#[],by rw[q];simp⟩⟩
theorem Un.refl:Un fs ex H H h h:=Un.kept fun _ _ q=>q
theorem Un.laid(k:∀b u,h.get? b=some u->h'.get? b=some u) (hp:h.objs.size<=a) (hn:H a=none):Un fs ex H (upd H a o) h h' where
 keep:=fun b u q _ _ _=>k b u q
 slot:=fun b u q _ _ _=>⟨u.slots,k b u q⟩
 free:=fun b u q n _=>by rw[zh (ne_of_lt (lt_of_lt_of_le (Heap.lt_size q) hp))];exact n
 there:=fun b u q _=>⟨u,k b u q⟩
 tups:=fun b xs q=>by rw[zh (zi q hn)];exact q
 frzs:=fun b u xs q=>by rw[zh (zi q hn)];exact q
 tbls:=fun b ps q=>⟨#[],by rw[zh (zi q hn),q];simp⟩
theorem Un.write(mu:Mut (H x)) (he:e=x\/H e=some (.own x)) (k:∀b u,b≠e->h.get? b=some u->h'.get? b=some u) (heo:∃u,h'.get? e=some u):Un fs ex H (upd H x o) h h':=by
 have hx:∀b,H b=none->b≠x:=fun b n z=>by subst z;rw[n] at mu;exact mu
 have hb:∀b,H b=none->b≠e:=fun b n z=>by
  subst z;rcases he with r|r
  ·exact hx b n r
  ·rw[n] at r;cases r
 have hm:∀b u,H b=some u->¬Mut (some u)->b≠x:=fun b u q nm z=>by subst z;rw[q] at mu;exact nm mu
 refine⟨fun b u q n _ _=>k b u (hb b n) q,fun b u q n _ _=>⟨u.slots,k b u (hb b n) q⟩,fun b u q n _=>by rw[zh (hx b n)];exact n,fun b u q _=>?_,
  fun b xs q=>by rw[zh (hm b _ q fun z=>z)];exact q,fun b u xs q=>by rw[zh (hm b _ q fun z=>z)];exact q,fun b ps q=>⟨#[],by rw[zh (hm b _ q fun z=>z),q];simp⟩⟩
 by_cases hbe:b=e
 ·subst hbe;exact heo
 ·exact⟨u,k b u hbe q⟩
end
def trk(h:Heap) (H:Hp):List Addr:=(List.range h.objs.size).filter fun a=>(H a).isSome
def za5(h:Heap) (H:Hp):Heap:=PySem.W.hideAll h (trk h H)
theorem zeN(h:Heap) (H:Hp):(za5 h H).objs.size=h.objs.size:=PySem.W.hideAll_size _ _
theorem zgG{h:Heap}{H:Hp}{b:Addr}{o:Obj}(e:h.get? b=some o) (n:H b=none):(za5 h H).get? b=some o:=
 PySem.W.hideAll_get _ e fun hm=>by
  have q:(H b).isSome=true:=(List.mem_filter.mp hm).2;rw[n] at q;simp at q
theorem zh1{h:Heap}{H:Hp}{b:Addr}{o:Obj}(e:(za5 h H).get? b=some o):h.get? b=some o/\H b=none:=by
 have e':h.get? b=some o:=PySem.W.of_hideAll (trk h H) e;refine⟨e',?_⟩;cases q:H b with
 | none=>rfl
 | some x=>
  have hm:b∈trk h H:=List.mem_filter.mpr ⟨List.mem_range.mpr (Heap.lt_size e'),by simp [q]⟩
  have z:(za5 h H).get? b=none:=PySem.W.hideAll_none (trk h H) hm;rw[z] at e;cases e
def zit(g h:Heap) (L:Addr):List (Addr×Obj):=(List.range h.objs.size).filterMap fun a=>if a=L\/(g.get? a).isSome=true then none else (h.get? a).map fun o=>(a,o)
def rest(g h:Heap) (L d:Addr):List (Addr×Obj):=(zit g h L).filter fun p=>decide (p.1≠d)
structure Mod(K:Frag) (mg:Str->Option Value) (base:Heap):Prop where
 kin:K.In base
 glob:base.Ns mainGlobals mg
 blt:∃mb,base.Ns builtinsNs mb/\∀x:Str,x≠"__name__"->mb x=bootBuiltins x
 nolimit:base.NoLimit
structure Cx where
 prog:Program
 w:World
 K:Frag
 mg:Str->Option Value
 base:Heap
 A:Around
 N:List Str
 s₀:Shared
 H₀:Hp
 env:Env
 outer:List Env
 stack:List Env
 ex:List Addr
 fn:Str->Bool
 calm:Bool
 pn:List (Addr×Obj)
 xe:Value->Shared->Prop
def frs(l:List Env):List Addr:=l.filterMap (·.frame)
abbrev Cx.fs(X:Cx):List Addr:=frs X.outer
def Vis(sc:Scope) (x:Str):Prop:=sc.names.lookup x=some .local\/sc.names.lookup x=some .cell\/sc.names.lookup x=some .free
def Loc(sc:Scope) (x:Str):Prop:=sc.names.lookup x=some .local\/sc.names.lookup x=some .cell
def zmd(env:Env) (h:Heap) (m:Str->Option Value) (x:Str) (u:Value):Prop:=
 (env.kindOf x=some .local/\m x=some u)\/((env.kindOf x=some .cell\/env.kindOf x=some .free)/\∃c,env.cells.lookup x=some c/\h.IsCell c (some u))
structure Cx.Ok(X:Cx):Prop where
 mod:Mod X.K X.mg X.base
 kind:X.env.scope.kind=.function
 glob:X.env.globals=mainGlobals
 blt:X.env.builtins=builtinsNs
 above:X.s₀.heap.objs.size<=X.env.locals
 inj:∀x y c,X.env.cells.lookup x=some c->X.env.cells.lookup y=some c->x=y
 has:∀x,(X.env.kindOf x=some .cell\/X.env.kindOf x=some .free)->∃c,X.env.cells.lookup x=some c
 cab:∀x c,X.fn x=true->X.env.cells.lookup x=some c->X.s₀.heap.objs.size<=c
 hd:X.calm=true->X.A.handled=none
 frames:X.A.frames=some X.stack
 stk:X.stack=X.outer\/(X.stack=X.env::X.outer/\X.env.frame=some X.env.locals)
 exf:∀b∈X.ex,b≠X.env.locals/\∀x c,X.env.cells.lookup x=some c->c≠b
 bs:∀b o,X.base.get? b=some o->X.s₀.heap.get? b=some o/\X.H₀ b=none
 bsz:X.base.objs.size<=X.s₀.heap.objs.size
 noex:∀b o,X.base.get? b=some o->b∉X.ex
 exfs:∀b∈X.ex,b∉X.fs
 funs:X.s₀.heap.FunFrames X.base X.outer
 frf:∀b∈X.fs,X.H₀ b=none
structure Inv(X:Cx) (pins:List (Addr×Obj)) (σ : List (Option V)) (H:Hp) (s:Shared):Prop where
 ok:X.Ok
 os:s.os=X.s₀.os
 bare:AllBare s.gens
 base:Un X.fs X.ex X.H₀ H X.s₀.heap s.heap
 loc:∃m,s.heap.Ns X.env.locals m/\∀(i:Nat) (x:Str) (v:V),X.N[i]?=some x->σ[i]?=some (some v)->Vis X.env.scope x->∃u,zV v u/\zmd X.env s.heap m x u
 cell:∀x c,X.env.cells.lookup x=some c->∃v,s.heap.IsCell c v
 free:H X.env.locals=none
 freeC:∀x c,X.env.cells.lookup x=some c->H c=none
 pin:∀p∈X.pn++pins,s.heap.get? p.1=some p.2/\H p.1=none/\p.1≠X.env.locals/\p.1∉X.fs/\∀v,p.2.data≠.cell v
 hok:HOk X.prog X.w H s.heap
 len : σ.length=X.N.length
section
variable {X:Cx}{pins:List (Addr×Obj)}{σ : List (Option V)}{H H':Hp}{s:Shared}{h':Heap}
theorem Cx.Ok.nofr(ok:X.Ok) {b:Addr}{o:Obj}(e:X.base.get? b=some o):b∉X.fs:=fun hb=>by
 have:=(ok.funs.mem hb).1
 rw[e] at this;cases this
theorem Inv.bs(I:Inv X pins σ H s):∀b o,X.base.get? b=some o->s.heap.get? b=some o/\H b=none:=fun b o e=>
 ⟨I.base.keep b o (I.ok.bs b o e).1 (I.ok.bs b o e).2 (I.ok.nofr e) (I.ok.noex b o e),I.base.free b o (I.ok.bs b o e).1 (I.ok.bs b o e).2 (I.ok.noex b o e)⟩
theorem Inv.bk(I:Inv X pins σ H s):∀b o,X.base.get? b=some o->s.heap.get? b=some o:=fun b o e=>(I.bs b o e).1
theorem Inv.mod(I:Inv X pins σ H s):Mod X.K X.mg X.base:=I.ok.mod
theorem Inv.kIn(I:Inv X pins σ H s):X.K.In s.heap:=I.ok.mod.kin.keeps I.bk
theorem Inv.lt(I:Inv X pins σ H s):X.env.locals<s.heap.objs.size:=let ⟨_,hn,_⟩:=I.loc;hn.lt
theorem Inv.sz(I:Inv X pins σ H s):X.s₀.heap.objs.size<=s.heap.objs.size:=Nat.le_trans I.ok.above (le_of_lt I.lt)
theorem Inv.nofs(I:Inv X pins σ H s) {a:Addr}(h:s.heap.objs.size<=a):a∉X.fs:=fun hb=>by
 obtain⟨_,o,ho,_⟩:=I.ok.funs.mem hb;exact absurd (lt_of_lt_of_le (Heap.lt_size ho) (Nat.le_trans I.sz h)) (lt_irrefl _)
theorem Inv.cne(I:Inv X pins σ H s):∀x c,X.env.cells.lookup x=some c->c≠X.env.locals:=fun x c e z=>by
 obtain⟨v,o,ho,hd⟩:=I.cell x c e;obtain⟨m,⟨o',es,ep,ho',hd',_⟩,_⟩:=I.loc;rw[z,ho'] at ho;cases ho;rw[hd'] at hd;cases hd
theorem Inv.funs(I:Inv X pins σ H s):s.heap.FunFrames X.base X.outer:=by
 have all:∀(l:List Env),(∀b∈frs l,b∈X.fs)->X.s₀.heap.FunFrames X.base l->s.heap.FunFrames X.base l:=by
  intro l;induction l with
  | nil=>intro _ _;trivial
  | cons env r ih=>
   intro hs hl;obtain⟨hk,⟨L,o,hf,hn,ho,hd⟩,hr⟩:=hl;have hL:L∈X.fs:=hs L (by unfold frs;rw[filterMap_cons,hf];exact mem_cons_self)
   obtain⟨sl,e⟩:=I.base.slot L o ho (I.ok.frf L hL) hL fun z=>I.ok.exfs L z hL;exact⟨hk,⟨L,_,hf,hn,e,hd⟩,ih (fun b hb=>hs b (by unfold frs;rw[filterMap_cons,hf];exact mem_cons_of_mem _ hb)) hr⟩
 exact all X.outer (fun _ hb=>hb) I.ok.funs
theorem Inv.stack(I:Inv X pins σ H s):s.heap.FunFrames X.base X.stack:=by
 rcases I.ok.stk with e|⟨e,hf⟩
 ·rw[e];exact I.funs
 ·rw[e]
  obtain⟨m,hn,_⟩:=I.loc;refine .cons (by rw[I.ok.kind];decide) hf hn ?_ I.funs
  exact Heap.get?_none_of_le (Nat.le_trans I.ok.bsz I.ok.above)
theorem Inv.stkSub(I:Inv X pins σ H s):∀b∈frs X.stack,b∈X.env.locals::X.fs:=fun b hb=>by
 rcases I.ok.stk with e|⟨e,hf⟩
 ·rw[e] at hb;exact mem_cons_of_mem _ hb
 ·rw[e] at hb
  unfold frs at hb;rw[filterMap_cons,hf] at hb;exact hb
theorem Inv.stkFree(I:Inv X pins σ H s):∀b∈frs X.stack,H b=none:=fun b hb=>by
 rcases List.mem_cons.mp (I.stkSub b hb) with e|hb
 ·rw[e];exact I.free
 ·obtain⟨_,o,ho,_⟩:=I.ok.funs.mem hb
  exact I.base.free b o ho (I.ok.frf b hb) fun z=>I.ok.exfs b z hb
theorem Inv.step{g':Array GenState}{t':Nat}{d':Drawn}{ch:List Addr}(I:Inv X pins σ H s)
  (hch:∀b∈ch,(b∈X.ex\/X.s₀.heap.objs.size<=b)/\b≠X.env.locals/\(∀x c,X.env.cells.lookup x=some c->c≠b)/\∀p∈X.pn++pins,p.1≠b)
  (keep:∀b o,b≠X.env.locals->b∉X.fs->b∉ch->s.heap.get? b=some o->H b=none->h'.get? b=some o)
  (slot:∀b o,b≠X.env.locals->b∈X.fs->b∉ch->s.heap.get? b=some o->H b=none->∃sl,h'.get? b=some { o with slots:=sl }) (free:∀b o,b∉ch->s.heap.get? b=some o->H b=none->H' b=none)
  (there:∀b o,b∉ch->s.heap.get? b=some o->∃o',h'.get? b=some o')
  (tups:∀b xs,H b=some (.tup xs)->H' b=some (.tup xs)) (frzs:∀b o u,H b=some (.frz o u)->H' b=some (.frz o u)) (tbls:∀b ps,H b=some (.tbl ps)->∃more,H' b=some (.tbl (ps++more)))
  (ns:∀m,s.heap.Ns X.env.locals m->h'.Ns X.env.locals m) (hok:HOk X.prog X.w H' h') (hg:AllBare g') :
  Inv X pins σ H' { s with heap:=h',gens:=g',drawn:=d',toks:=t' }:=by
 have neL:∀b o,X.s₀.heap.get? b=some o->b≠X.env.locals:=fun b o e=>ne_of_lt (lt_of_lt_of_le (Heap.lt_size e) I.ok.above);have neC:∀b o,X.s₀.heap.get? b=some o->b∉X.ex->b∉ch:=fun b o e hx hb=>by
  rcases (hch b hb).1 with z|z
  ·exact hx z
  ·exact absurd (lt_of_lt_of_le (Heap.lt_size e) z) (lt_irrefl _)
 have cellK:∀x c,X.env.cells.lookup x=some c->∀v,s.heap.IsCell c v->h'.IsCell c v:=fun x c e v ⟨o,ho,hd⟩=>by
  have nch:c∉ch:=fun z=>(hch c z).2.2.1 x c e rfl;by_cases hc:c∈X.fs
  ·obtain⟨sl,q⟩:=slot c o (I.cne x c e) hc nch ho (I.freeC x c e)
   exact⟨_,q,hd⟩
  ·exact⟨o,keep c o (I.cne x c e) hc nch ho (I.freeC x c e),hd⟩
 refine⟨I.ok,I.os,hg,⟨fun b o e n hb hx=>?_,fun b o e n hb hx=>?_,fun b o e n hx=>?_,fun b o e hx=>?_,fun b xs e=>tups b xs (I.base.tups b xs e),fun b o xs e=>frzs b o xs (I.base.frzs b o xs e),fun b ps e=>?_⟩,?_,fun x c e=>?_,?_,fun x c e=>?_,fun p hp=>?_,hok,I.len⟩
 ·exact keep b o (neL b o e) hb (neC b o e hx) (I.base.keep b o e n hb hx) (I.base.free b o e n hx)
 ·obtain⟨sl,e1⟩:=I.base.slot b o e n hb hx
  obtain⟨sl',e2⟩:=slot b _ (neL b o e) hb (neC b o e hx) e1 (I.base.free b o e n hx);exact⟨sl',e2⟩
 ·obtain⟨o',e1⟩:=I.base.there b o e hx
  exact free b o' (neC b o e hx) e1 (I.base.free b o e n hx)
 ·obtain⟨o',e1⟩:=I.base.there b o e hx
  exact there b o' (neC b o e hx) e1
 ·obtain⟨m1,e1⟩:=I.base.tbls b ps e
  obtain⟨m2,e2⟩:=tbls b _ e1;exact⟨m1++m2,by rw[e2,Array.append_assoc]⟩
 ·obtain⟨m,hn,hl⟩:=I.loc
  refine⟨m,ns m hn,fun i x v e1 e2 e3=>?_⟩;obtain⟨u,r,l⟩:=hl i x v e1 e2 e3;refine⟨u,r,?_⟩;rcases l with l|⟨k,c,e,z⟩
  ·exact .inl l
  ·exact .inr ⟨k,c,e,cellK x c e _ z⟩
 ·obtain⟨v,z⟩:=I.cell x c e
  exact⟨v,cellK x c e v z⟩
 ·obtain⟨m,⟨o,_,_,ho,_⟩,_⟩:=I.loc
  exact free _ o (fun z=>(hch _ z).2.1 rfl) ho I.free
 ·obtain⟨v,o,ho,hd⟩:=I.cell x c e
  exact free c o (fun z=>(hch c z).2.2.1 x c e rfl) ho (I.freeC x c e)
 ·obtain⟨e,n,ne,nf,d⟩:=I.pin p hp
  have nch:p.1∉ch:=fun z=>(hch p.1 z).2.2.2 p hp rfl;exact⟨keep p.1 p.2 ne nf nch e n,free p.1 p.2 nch e n,ne,nf,d⟩
theorem Inv.un{t':Nat}(I:Inv X pins σ H s) (u:Un X.fs [] H H' s.heap h') (hok:HOk X.prog X.w H' h'):Inv X pins σ H' { s with heap:=h',toks:=t' }:=by
 obtain⟨m,⟨o,es,ep,ho,r⟩,_⟩:=id I.loc;obtain⟨sl,hL⟩:=u.any ho I.free (by simp)
 exact I.step (g':=s.gens) (d':=s.drawn) (ch:=[]) (fun _ z=>nomatch z) (fun b o _ hb _ e n=>u.keep b o e n hb (by simp)) (fun b o _ hb _ e n=>u.slot b o e n hb (by simp)) (fun b o _ e n=>u.free b o e n (by simp)) (fun b o _ e=>u.there b o e (by simp)) u.tups u.frzs u.tbls (fun m' hm=>by
  obtain⟨o',es',ep',ho',r'⟩:=hm;rw[ho] at ho';cases ho';exact⟨_,es',ep',hL,r'⟩) hok I.bare
theorem Inv.call{g':Array GenState}{t':Nat}{d':Drawn}{ch:List Addr}(I:Inv X pins σ H s) (u:Un (frs X.stack) ch H H' s.heap h') (hok:HOk X.prog X.w H' h') (hg:AllBare g')
  (hch:∀b∈ch,(b∈X.ex\/X.s₀.heap.objs.size<=b)/\b≠X.env.locals/\(∀x c,X.env.cells.lookup x=some c->c≠b)/\∀p∈X.pn++pins,p.1≠b) :
  Inv X pins σ H' { s with heap:=h',gens:=g',drawn:=d',toks:=t' }:=by
 obtain⟨m,⟨o,es,ep,ho,r⟩,_⟩:=id I.loc;obtain⟨sl,hL⟩:=u.any ho I.free fun z=>(hch _ z).2.1 rfl;exact I.step (ch:=ch) hch (fun b o hL hb hc e n=>u.keep b o e n (fun z=>(List.mem_cons.mp (I.stkSub b z)).elim hL hb) hc) (fun b o _ _ hc e n=>u.any e n hc) (fun b o hc e n=>u.free b o e n hc) (fun b o hc e=>u.there b o e hc) u.tups u.frzs u.tbls (fun m' hm=>by
  obtain⟨o',es',ep',ho',r'⟩:=hm;rw[ho] at ho';cases ho';exact⟨_,es',ep',hL,r'⟩) hok hg
theorem Inv.turned{t':Nat}{it:Addr}(I:Inv X pins σ H s) (k:∀b o,b≠it->s.heap.get? b=some o->h'.get? b=some o) (hn:H it=none) (hL:it≠X.env.locals)
  (h1:it∈X.ex\/X.s₀.heap.objs.size<=it) (h2:∀x c,X.env.cells.lookup x=some c->c≠it) (h3:∀p∈X.pn++pins,p.1≠it):Inv X pins σ H { s with heap:=h',toks:=t' }:=by
 have nit:∀b u,H b=some u->b≠it:=fun b u e z=>by rw[z,hn] at e;cases e
 refine I.step (g':=s.gens) (d':=s.drawn) (ch:=[it]) (fun b hb=>?_) (fun b o _ _ hc e _=>k b o (fun z=>hc (by simp [z])) e) (fun b o _ _ hc e _=>⟨o.slots,k b o (fun z=>hc (by simp [z])) e⟩) (fun _ _ _ _ n=>n)
  (fun b o hc e=>⟨o,k b o (fun z=>hc (by simp [z])) e⟩) (fun _ _ e=>e) (fun _ _ _ e=>e) (fun b ps e=>⟨#[],by rw[e];simp⟩) (fun m hm=>?_) (fun b u e=>?_) I.bare
 ·have e:b=it:=by simpa using hb
  subst e;exact⟨h1,hL,h2,h3⟩
 ·obtain⟨o,es,ep,ho,r⟩:=hm
  exact⟨o,es,ep,k _ o (Ne.symm hL) ho,r⟩
 ·refine(I.hok b u e).stay (fun c v hc q=>k c v ?_ q) (fun _ q=>q) fun _ _ q=>q
  rcases hc with z|z
  ·rw[z];exact nit b u e
  ·exact nit c _ z
theorem Inv.tok(I:Inv X pins σ H s) (t:Nat):Inv X pins σ H { s with toks:=t }:=I.un (h':=s.heap) (t':=t) Un.refl I.hok
theorem Inv.kept{t':Nat}(I:Inv X pins σ H s) (k:∀b u,s.heap.get? b=some u->h'.get? b=some u):Inv X pins σ H { s with heap:=h',toks:=t' }:=I.un (Un.kept k) (I.hok.kept k)
theorem Inv.laid{a:Addr}{o:HO}{t':Nat}(I:Inv X pins σ H s) (k:∀b u,s.heap.get? b=some u->h'.get? b=some u) (hp:s.heap.objs.size<=a) (new:yH X.prog X.w (upd H a o) h' a o) :
  Inv X pins σ (upd H a o) { s with heap:=h',toks:=t' }:=I.un (Un.laid k hp (I.hok.fresh hp)) (I.hok.laid k hp new)
theorem Inv.write{x e:Addr}{o:HO}{t':Nat}(I:Inv X pins σ H s) (mu:Mut (H x)) (he:e=x\/H e=some (.own x)) (k:∀b u,b≠e->s.heap.get? b=some u->h'.get? b=some u) (heo:∃u,h'.get? e=some u)
  (new:yH X.prog X.w (upd H x o) h' x o):Inv X pins σ (upd H x o) { s with heap:=h',toks:=t' }:=I.un (Un.write mu he k heo) (I.hok.write mu he k heo new)
theorem Inv.weak{σ':List (Option V)}(I:Inv X pins σ H s) (hl : σ'.length=σ.length) (w:∀(i:Nat) v,σ'[i]?=some (some v)->σ[i]?=some (some v)):Inv X pins σ' H s:=
 ⟨I.ok,I.os,I.bare,I.base,let ⟨m,hn,hl'⟩:=I.loc;⟨m,hn,fun i x v e1 e2 e3=>hl' i x v e1 (w i v e2) e3⟩,I.cell,I.free,I.freeC,I.pin,I.hok,hl.trans I.len⟩
theorem Inv.pins_of{pins':List (Addr×Obj)}(I:Inv X pins σ H s) (h:∀p∈pins',s.heap.get? p.1=some p.2/\H p.1=none/\p.1≠X.env.locals/\p.1∉X.fs/\∀v,p.2.data≠.cell v):Inv X pins' σ H s:=
 ⟨I.ok,I.os,I.bare,I.base,I.loc,I.cell,I.free,I.freeC,fun p hp=>(List.mem_append.mp hp).elim (fun z=>I.pin p (mem_append_left _ z)) (h p),I.hok,I.len⟩
theorem zbM{N:List Str}(hN:N.Nodup) {i j:Nat}{x:Str}(a:N[i]?=some x) (b:N[j]?=some x):i=j:=by
 obtain⟨h1,e1⟩:=List.getElem?_eq_some_iff.mp a;obtain⟨h2,e2⟩:=List.getElem?_eq_some_iff.mp b;exact(List.getElem_inj hN).mp (e1.trans e2.symm)
theorem qK{M:Model}{A:Around}{E:Value->Shared->Prop}{i:Nat}{x:Str}{v:V}{u:Value}{Q:Unit->Shared->Prop}(I:Inv X pins σ H s) (hN:X.N.Nodup) (hi:X.N[i]?=some x) (hx:Loc X.env.scope x) (r:zV v u)
  (h:∀s',Inv X pins (σ.set i (some v)) H s'->(∃a,Heap.SameBut a s.heap s'.heap/\(a=X.env.locals\/X.env.cells.lookup x=some a))->Q () s') (hf:X.fn x=true\/X.env.scope.names.lookup x=some .local:=by first|exact .inl rfl|exact .inr rfl|assumption):wpAny M A (storeName X.env x u) Q E s:=by
 obtain⟨m,hn,hl⟩:=id I.loc;have hcls:(X.env.scope.kind==.class||(X.env.scope.kind==.module&&X.env.locals != X.env.globals))=false:=by rw[I.ok.kind];rfl
 have hiσ : i<σ.length:=by rw[I.len];exact(List.getElem?_eq_some_iff.mp hi).1
 have cne:=I.cne;have tracked:∀{a:Addr}{h':Heap},(∃o,s.heap.get? a=some o/\H a=none)->Heap.SameBut a s.heap h'->HOk X.prog X.w H h':=fun {a h'} ha hs b ob e=>by
  obtain⟨_,_,hfree⟩:=ha;refine(I.hok b ob e).stay (fun c w' hc q=>(hs.2 c ?_).trans q) (fun _ q=>q) fun _ _ q=>q;rintro rfl;rcases hc with rfl|hc
  ·rw[hfree] at e;cases e
  ·rw[hfree] at hc;cases hc
 rcases hx with hk|hk
 ·refine wpAny_storeName_local hk hn (fun h' hn' hs=>?_) hcls
  obtain⟨oL,_,_,hoL,_⟩:=id hn;refine h _ ⟨I.ok,I.os,I.bare,⟨fun b o e n hb hx=>?_,fun b o e n hb hx=>?_,I.base.free,fun b o e hx=>?_,I.base.tups,I.base.frzs,I.base.tbls⟩,⟨_,hn',fun j y v' e1 e2 e3=>?_⟩,fun y c e=>?_,I.free,I.freeC,fun p hp=>?_,tracked ⟨oL,hoL,I.free⟩ hs,by simpa using I.len⟩ ⟨_,hs,.inl rfl⟩
  ·exact(hs.2 b (ne_of_lt (lt_of_lt_of_le (Heap.lt_size e) I.ok.above))).trans (I.base.keep b o e n hb hx)
  ·obtain⟨sl,e1⟩:=I.base.slot b o e n hb hx
   exact⟨sl,(hs.2 b (ne_of_lt (lt_of_lt_of_le (Heap.lt_size e) I.ok.above))).trans e1⟩
  ·obtain⟨o',e1⟩:=I.base.there b o e hx
   exact⟨o',(hs.2 b (ne_of_lt (lt_of_lt_of_le (Heap.lt_size e) I.ok.above))).trans e1⟩
  ·by_cases hj:j=i
   ·subst hj
    rw[hi] at e1;cases e1;rw[List.getElem?_set_self hiσ] at e2;cases e2;exact⟨u,r,.inl ⟨hk,by simp⟩⟩
   ·rw[getElem?_set_ne (Ne.symm hj)] at e2
    obtain⟨u',r',q⟩:=hl j y v' e1 e2 e3;refine⟨u',r',?_⟩;rcases q with ⟨k,e⟩|⟨k,c,e,z⟩
    ·refine .inl ⟨k,?_⟩
     have:y≠x:=fun e=>hj (zbM hN e1 (e ▸ hi))
     simp [this,e]
    ·exact .inr ⟨k,c,e,z.sameBut hs (cne y c e)⟩
  ·obtain⟨w',z⟩:=I.cell y c e
   exact⟨w',z.sameBut hs (cne y c e)⟩
  ·obtain⟨e,n,ne,nf,d⟩:=I.pin p hp
   exact⟨(hs.2 p.1 ne).trans e,n,ne,nf,d⟩
 ·have hfn:X.fn x=true:=by
   rcases hf with z|z
   ·exact z
   ·rw[z] at hk;cases hk
  obtain⟨c,hc⟩:=I.ok.has x (.inl hk);obtain⟨w',z⟩:=I.cell x c hc;refine wpAny_storeName_cell I.ok.kind hk hc z (fun h' hc' hs=>?_);obtain⟨oc,hoc,hocd⟩:=id z;refine h { s with heap:=h' } ⟨I.ok,I.os,I.bare,⟨fun b o e n hb hx=>?_,fun b o e n hb hx=>?_,I.base.free,fun b o e hx=>?_,I.base.tups,I.base.frzs,I.base.tbls⟩,⟨m,hn.sameBut hs (Ne.symm (cne x c hc)),fun j y v' e1 e2 e3=>?_⟩,fun y c' e=>?_,I.free,I.freeC,fun p hp=>?_,tracked ⟨oc,hoc,I.freeC x c hc⟩ hs,by simpa using I.len⟩ ⟨c,hs,.inr hc⟩
  ·exact(hs.2 b (ne_of_lt (lt_of_lt_of_le (Heap.lt_size e) (I.ok.cab x c hfn hc)))).trans (I.base.keep b o e n hb hx)
  ·obtain⟨sl,e1⟩:=I.base.slot b o e n hb hx
   exact⟨sl,(hs.2 b (ne_of_lt (lt_of_lt_of_le (Heap.lt_size e) (I.ok.cab x c hfn hc)))).trans e1⟩
  ·obtain⟨o',e1⟩:=I.base.there b o e hx
   exact⟨o',(hs.2 b (ne_of_lt (lt_of_lt_of_le (Heap.lt_size e) (I.ok.cab x c hfn hc)))).trans e1⟩
  ·by_cases hj:j=i
   ·subst hj
    rw[hi] at e1;cases e1;rw[List.getElem?_set_self hiσ] at e2;cases e2;exact⟨u,r,.inr ⟨.inl hk,c,hc,hc'⟩⟩
   ·rw[getElem?_set_ne (Ne.symm hj)] at e2
    obtain⟨u',r',q⟩:=hl j y v' e1 e2 e3;refine⟨u',r',?_⟩;rcases q with q|⟨k,c',e,z'⟩
    ·exact .inl q
    ·refine .inr ⟨k,c',e,z'.sameBut hs ?_⟩
     rintro rfl;exact hj (zbM hN e1 (I.ok.inj _ _ _ e hc ▸ hi))
  ·by_cases hcc:c'=c
   ·subst hcc;exact⟨_,hc'⟩
   ·obtain⟨w2,z2⟩:=I.cell y c' e
    exact⟨w2,z2.sameBut hs hcc⟩
  ·obtain⟨e,n,ne,nf,d⟩:=I.pin p hp
   refine⟨(hs.2 p.1 ?_).trans e,n,ne,nf,d⟩;intro q;rw[q,hoc] at e;have q':oc=p.2:=Option.some.inj e;exact d w' (by rw[<- q'];exact hocd)
theorem jF{M:Model}{A:Around}{E:Value->Shared->Prop}{i:Nat}{x:Str}{v:V}{u:Value}{Q:Unit->Shared->Prop}(I:Inv X pins σ H s) (hN:X.N.Nodup) (hi:X.N[i]?=some x) (hx:Loc X.env.scope x) (r:zV v u)
  (h:∀s',Inv X pins (σ.set i (some v)) H s'->Q () s') (hf:X.fn x=true\/X.env.scope.names.lookup x=some .local:=by first|exact .inl rfl|exact .inr rfl|assumption):wpAny M A (storeName X.env x u) Q E s:=
 qK I hN hi hx r (fun s' I' _=>h s' I') hf
theorem Inv.call'{s':Shared}{ch:List Addr}(I:Inv X pins σ H s) (ho:s'.os=s.os) (u:Un (frs X.stack) ch H H' s.heap s'.heap) (hok:HOk X.prog X.w H' s'.heap) (hg:AllBare s'.gens)
  (hch:∀b∈ch,(b∈X.ex\/X.s₀.heap.objs.size<=b)/\b≠X.env.locals/\(∀x c,X.env.cells.lookup x=some c->c≠b)/\∀p∈X.pn++pins,p.1≠b):Inv X pins σ H' s':=by
 obtain⟨h',g',d',t',o'⟩:=s';have e:o'=s.os:=ho;subst e;exact I.call (g':=g') (t':=t') (d':=d') u hok hg hch
end
abbrev XK:=Value->Option Addr->Hp->Prop
abbrev St:=List (Option V)
abbrev VK:=V->Hp->Prop
abbrev TE:=St->Hp->VK->Prop
abbrev TT:=St->Hp->(Bool->Hp->Prop)->Prop
abbrev TA:=St->Hp->(List V->Hp->Prop)->Prop
structure jp where
 nx:St->Hp->Prop
 rt:VK
 bk:St->Hp->Prop:=fun _ _=>False
 ct:St->Hp->Prop:=fun _ _=>False
abbrev TS:=jp->St->Hp->Prop
def EP(X:Cx) (pins:List (Addr×Obj)) (σ : St) (Q:VK) (u:Value) (s':Shared):Prop:=∃v H',Inv X pins σ H' s'/\zV v u/\Q v H'
def TP(X:Cx) (pins:List (Addr×Obj)) (σ : St) (Q:Bool->Hp->Prop) (b:Bool) (s':Shared):Prop:=∃H',Inv X pins σ H' s'/\Q b H'
def AP(X:Cx) (pins:List (Addr×Obj)) (σ : St) (Q:List V->Hp->Prop) (us:List Value) (s':Shared):Prop:=∃vs H',Inv X pins σ H' s'/\zQ vs us/\Q vs H'
def SP(X:Cx) (pins:List (Addr×Obj)) (D:jp) (f:Flow) (s':Shared):Prop:=
 match f with
 | .next=>∃σ' H',Inv X pins σ' H' s'/\D.nx σ' H'
 | .brk=>∃σ' H',Inv X pins σ' H' s'/\D.bk σ' H'
 | .cont=>∃σ' H',Inv X pins σ' H' s'/\D.ct σ' H'
 | .ret u=>∃v σ' H',Inv X pins σ' H' s'/\zV v u/\D.rt v H'
structure PE(X:Cx) (e:Expr) (t:TE):Prop where
 run:∀(pins:List (Addr×Obj)) (s:Shared) (σ : St) (H:Hp) (Q:VK),Inv X pins σ H s->t σ H Q->wpAny (model X.prog X.w) X.A (eval e X.env) (EP X pins σ Q) X.xe s
instance {X:Cx}{e:Expr}{t:TE}:CoeFun (PE X e t) (fun _=>∀(pins:List (Addr×Obj)) (s:Shared) (σ : St) (H:Hp) (Q:VK),Inv X pins σ H s->t σ H Q->wpAny (model X.prog X.w) X.A (eval e X.env) (EP X pins σ Q) X.xe s):=⟨PE.run⟩
structure PT(X:Cx) (e:Expr) (t:TT):Prop where
 run:∀(pins:List (Addr×Obj)) (s:Shared) (σ : St) (H:Hp) (Q:Bool->Hp->Prop),Inv X pins σ H s->t σ H Q->wpAny (model X.prog X.w) X.A (isTrue e X.env (eval e X.env)) (TP X pins σ Q) X.xe s
instance {X:Cx}{e:Expr}{t:TT}:CoeFun (PT X e t) (fun _=>∀(pins:List (Addr×Obj)) (s:Shared) (σ : St) (H:Hp) (Q:Bool->Hp->Prop),Inv X pins σ H s->t σ H Q->wpAny (model X.prog X.w) X.A (isTrue e X.env (eval e X.env)) (TP X pins σ Q) X.xe s):=⟨PT.run⟩
structure PW(X:Cx) (e:Expr) (t:TT):Prop where
 run:∀(whole:Sem Value) (pins:List (Addr×Obj)) (s:Shared) (σ : St) (H:Hp) (Q:Bool->Hp->Prop),Inv X pins σ H s->t σ H Q->wpAny (model X.prog X.w) X.A (isTrue e X.env whole) (TP X pins σ Q) X.xe s
instance {X:Cx}{e:Expr}{t:TT}:CoeFun (PW X e t) (fun _=>∀(whole:Sem Value) (pins:List (Addr×Obj)) (s:Shared) (σ : St) (H:Hp) (Q:Bool->Hp->Prop),Inv X pins σ H s->t σ H Q->wpAny (model X.prog X.w) X.A (isTrue e X.env whole) (TP X pins σ Q) X.xe s):=⟨PW.run⟩
theorem PW.pt{X:Cx}{e:Expr}{t:TT}(h:PW X e t):PT X e t:=⟨h _⟩
structure PA(X:Cx) (es:List Expr) (t:TA):Prop where
 run:∀(pos:Pos) (pins:List (Addr×Obj)) (s:Shared) (σ : St) (H:Hp) (Q:List V->Hp->Prop),Inv X pins σ H s->t σ H Q->wpAny (model X.prog X.w) X.A (spliced (backTo pos (starEach es X.env))) (AP X pins σ Q) X.xe s
instance {X:Cx}{es:List Expr}{t:TA}:CoeFun (PA X es t) (fun _=>∀(pos:Pos) (pins:List (Addr×Obj)) (s:Shared) (σ : St) (H:Hp) (Q:List V->Hp->Prop),Inv X pins σ H s->t σ H Q->wpAny (model X.prog X.w) X.A (spliced (backTo pos (starEach es X.env))) (AP X pins σ Q) X.xe s):=⟨PA.run⟩
structure PS(X:Cx) (st:Stmt) (t:TS):Prop where
 run:∀(pins:List (Addr×Obj)) (s:Shared) (σ : St) (H:Hp) (D:jp),Inv X pins σ H s->t D σ H->wpAny (model X.prog X.w) X.A (exec st X.env) (SP X pins D) X.xe s
instance {X:Cx}{st:Stmt}{t:TS}:CoeFun (PS X st t) (fun _=>∀(pins:List (Addr×Obj)) (s:Shared) (σ : St) (H:Hp) (D:jp),Inv X pins σ H s->t D σ H->wpAny (model X.prog X.w) X.A (exec st X.env) (SP X pins D) X.xe s):=⟨PS.run⟩
structure PSs(X:Cx) (st:List Stmt) (t:TS):Prop where
 run:∀(pins:List (Addr×Obj)) (s:Shared) (σ : St) (H:Hp) (D:jp),Inv X pins σ H s->t D σ H->wpAny (model X.prog X.w) X.A (execs st X.env) (SP X pins D) X.xe s
instance {X:Cx}{st:List Stmt}{t:TS}:CoeFun (PSs X st t) (fun _=>∀(pins:List (Addr×Obj)) (s:Shared) (σ : St) (H:Hp) (D:jp),Inv X pins σ H s->t D σ H->wpAny (model X.prog X.w) X.A (execs st X.env) (SP X pins D) X.xe s):=⟨PSs.run⟩
theorem thn{α : Type}{t:Sem α}{Q Q' : α->Shared->Prop}{M:Model}{A:Around}{E:Value->Shared->Prop}{s:Shared}(h:wpAny M A t Q E s) (hQ:∀a s,Q a s->Q' a s):wpAny M A t Q' E s:=wpAny_mono h hQ fun _ _ x=>x
section
variable {X:Cx}
inductive zmf(i:Nat) (σ : St) (H:Hp) (Q:VK):Prop where
 | mk (v:V) (e : σ[i]?=some (some v)) (q:Q v H)
def zbj(i:Nat):TE:=fun σ H Q=>zmf i σ H Q
def tC(v:V):TE:=fun _ H Q=>Q v H
theorem zjH{i:Nat}{x:Str}{pos:Pos}(hN:X.N[i]?=some x) (hv:Vis X.env.scope x) (hd:(x==("__debug__" : Str))=false:=by decide) (hcd:(x==("__classdict__" : Str))=false:=by decide):PE X (.Name x pos) (zbj i):=by
 refine⟨?_⟩;intro pins s σ H Q I h;obtain⟨v,e,h⟩:=h;obtain⟨m,hn,hl⟩:=I.loc;obtain⟨u,r,l⟩:=hl i x v hN e hv;have fin:EP X pins σ Q u s:=⟨v,H,I,r,h⟩;rcases l with ⟨hk,hm⟩|⟨hk,c,hc,hcell⟩
 ·exact wpAny_Name (wpAny_loadName_local I.ok.kind hk hn hm fin) hd
 ·rcases hk with hk|hk
  ·exact wpAny_Name (wpAny_loadName_cell I.ok.kind hk hc hcell fin) hd
  ·exact wpAny_Name (wpAny_loadName_free I.ok.kind hk hc hcell fin hcd) hd
theorem zf{i j pos}:PE X (.Constant (.int i) j pos) (tC (.int i)):=⟨fun _ _ _ H _ I h=>wpAny_Constant_int ⟨.int i,H,I.tok _,⟨_,rfl⟩,h⟩⟩
theorem xX{b j pos}:PE X (.Constant (.bool b) j pos) (tC (.bl b)):=⟨fun _ _ _ H _ I h=>Constant_bool ⟨.bl b,H,I,rfl,h⟩⟩
theorem uT{j pos}:PE X (.Constant .none j pos) (tC .non):=⟨fun _ _ _ H _ I h=>Constant_none ⟨.non,H,I,rfl,h⟩⟩
theorem zD{x j pos}:PE X (.Constant (.str x) j pos) (tC (.str x)):=⟨fun _ _ _ H _ I h=>Calls.Constant_str ⟨.str x,H,I.tok _,⟨_,rfl⟩,h⟩⟩
def Gl(X:Cx) (x:Str):Prop:=X.env.kindOf x=some .globalImplicit
theorem vK{E:Value->Shared->Prop}{pins:List (Addr×Obj)}{s:Shared}{σ : St}{H:Hp}{x:Str}{u:Value}{pos:Pos}{Q:Value->Shared->Prop}(I:Inv X pins σ H s) (hg:Gl X x) (hm:X.mg x=some u) (h:Q u s)
  (hd:(x==("__debug__" : Str))=false:=by decide):wpAny (model X.prog X.w) X.A (eval (.Name x pos) X.env) Q E s:=
 Calls.Name_function_global I.ok.kind hg (Calls.loadGlobal_global (by rw[I.ok.glob];exact I.mod.glob.keeps I.bk) hm h) hd
theorem ww{E:Value->Shared->Prop}{pins:List (Addr×Obj)}{s:Shared}{σ : St}{H:Hp}{x:Str}{u:Value}{pos:Pos}{Q:Value->Shared->Prop}(I:Inv X pins σ H s) (hg:Gl X x) (hm:X.mg x=none) (hv:bootBuiltins x=some u) (h:Q u s)
  (hn:x≠"__name__":=by decide) (hd:(x==("__debug__" : Str))=false:=by decide):wpAny (model X.prog X.w) X.A (eval (.Name x pos) X.env) Q E s:=by
 obtain⟨mb,h1,h2⟩:=I.mod.blt;exact Calls.Name_function_global I.ok.kind hg (Calls.loadGlobal_builtin (by rw[I.ok.glob];exact I.mod.glob.keeps I.bk) hm (by rw[I.ok.blt];exact h1.keeps I.bk) ((h2 x hn).trans hv) h) hd
theorem xz{x:Str}{v:V}{u:Value}{pos:Pos}(hg:Gl X x) (hm:X.mg x=some u) (r:zV v u) (hd:(x==("__debug__" : Str))=false:=by decide):PE X (.Name x pos) (tC v):=⟨fun _ _ _ H _ I h=>vK I hg hm ⟨v,H,I,r,h⟩ hd⟩
theorem vH{x:Str}{v:V}{u:Value}{pos:Pos}(hg:Gl X x) (hm:X.mg x=none) (hv:bootBuiltins x=some u) (r:zV v u) (hn:x≠"__name__":=by decide) (hd:(x==("__debug__" : Str))=false:=by decide):PE X (.Name x pos) (tC v):=⟨fun _ _ _ H _ I h=>ww I hg hm hv ⟨v,H,I,r,h⟩ hn hd⟩
variable {a b:Expr}{ta tb:TE}{pos:Pos}
structure PC(X:Cx) (op:CmpOp) (a b:Expr) (t:TE):Prop where
 run:∀(pins:List (Addr×Obj)) (s:Shared) (σ : St) (H:Hp) (Q:VK),Inv X pins σ H s->t σ H Q->
  wpAny (model X.prog X.w) X.A (eval a X.env) (fun v s₁=>wpAny (model X.prog X.w) X.A (eval b X.env) (fun u s₂=>wpAny (model X.prog X.w) X.A (compareOp op v u) (EP X pins σ Q) X.xe s₂) X.xe s₁) X.xe s
instance {X:Cx}{op:CmpOp}{a b:Expr}{t:TE}:CoeFun (PC X op a b t) (fun _=>∀(pins:List (Addr×Obj)) (s:Shared) (σ : St) (H:Hp) (Q:VK),Inv X pins σ H s->t σ H Q->
  wpAny (model X.prog X.w) X.A (eval a X.env) (fun v s₁=>wpAny (model X.prog X.w) X.A (eval b X.env) (fun u s₂=>wpAny (model X.prog X.w) X.A (compareOp op v u) (EP X pins σ Q) X.xe s₂) X.xe s₁) X.xe s):=⟨PC.run⟩
theorem zbN(b:Expr) {op:CmpOp}(h:op≠.In) (h2:op≠.NotIn):behindInMarks op b=false:=by
 have e1:(op==CmpOp.In)=false:=by cases op <;> first|rfl|exact absurd rfl h
 have e2:(op==CmpOp.NotIn)=false:=by cases op <;> first|rfl|exact absurd rfl h2
 cases b <;> simp [behindInMarks,e1,e2]
def zlr(ta:TE):TE:=fun σ H Q=>ta σ H fun x H1=>Q (.bl (decide (x=.non))) H1
def zkr(ta:TE):TE:=fun σ H Q=>ta σ H fun x H1=>Q (.bl (!decide (x=.non))) H1
theorem zV.none_iff{x:V}{v:Value}(r:zV x v):(v==Value.none)=decide (x=.non):=by
 cases x with
 | non=>cases r;rfl
 | bl _=>cases r;rfl
 | int _=>obtain⟨t,rfl⟩:=r;rfl
 | str _=>obtain⟨t,rfl⟩:=r;rfl
 | byt _=>obtain⟨t,rfl⟩:=r;rfl
 | flt _=>obtain⟨t,rfl⟩:=r;rfl
 | ref _=>cases r;rfl
 | ty _=>cases r;rfl
theorem xQ{j pos'} (ha:PE X a ta):PC X .Is a (.Constant .none j pos') (zlr ta):=by
 refine⟨?_⟩;intro pins s σ H Q I h;refine thn (ha pins s σ H _ I h) fun v s1 ⟨x,H1,I1,r1,q1⟩=>?_;exact Constant_none (is_none_gen ⟨.bl _,H1,I1,by rw[r1.none_iff];rfl,q1⟩)
theorem zdN{j pos'} (ha:PE X a ta):PC X .IsNot a (.Constant .none j pos') (zkr ta):=by
 refine⟨?_⟩;intro pins s σ H Q I h;refine thn (ha pins s σ H _ I h) fun v s1 ⟨x,H1,I1,r1,q1⟩=>?_;exact Constant_none (isnot_none_gen ⟨.bl _,H1,I1,by rw[r1.none_iff];rfl,q1⟩)
def tB(t:TE):TT:=fun σ H Q=>t σ H fun x H1=>∃c,x=.bl c/\Q c H1
theorem zcG{op:CmpOp}{t:TE}(h:PC X op a b t) (h1:behindInMarks op b=false:=by first|exact zbN _ (by decide) (by decide)|rfl):PE X (.Compare a [op] [b] pos) t:=⟨fun pins s σ H Q I hw=>wpAny_Compare1 (h pins s σ H Q I hw) h1⟩
theorem xE{op:CmpOp}{t:TE}(h:PC X op a b t) (h1:behindInMarks op b=false:=by first|exact zbN _ (by decide) (by decide)|rfl):PT X (.Compare a [op] [b] pos) (tB t):=by
 refine⟨?_⟩;intro pins s σ H Q I hw;refine wpAny_isTrue_Compare1 (thn (h pins s σ H _ I hw) fun v s1 h1=>thn h1 fun u s2 h2=>thn h2 fun c s3 ⟨x,H1,I1,r1,q1⟩=>?_) h1;obtain⟨d,rfl,q⟩:=q1;cases r1;exact wpAny_truthy_bool ⟨H1,I1,q⟩
theorem yr{e:Expr}{t:TE}(h:PE X e t) (he:∀whole,isTrue e X.env whole=(do let v <- whole;standAt e.pos;holding [v] (truthy v)):=by intro _;rfl):PT X e (tB t):=by
 refine⟨?_⟩;intro pins s σ H Q I hw;refine isTrue_plain (thn (h pins s σ H _ I hw) fun v s1 ⟨x,H1,I1,r1,q1⟩=>?_) (he _);obtain⟨d,rfl,q⟩:=q1;cases r1;exact wpAny_truthy_bool ⟨H1,I1,q⟩
variable {tA tB':TT}{rest:List Expr}
def zlx(t u:TT):TT:=fun σ H Q=>t σ H fun c H1=>if c=true then u σ H1 Q else Q false H1
def tOr(t u:TT):TT:=fun σ H Q=>t σ H fun c H1=>if c=true then Q true H1 else u σ H1 Q
def zlp(t:TT):TT:=fun σ H Q=>t σ H fun c H1=>Q (!c) H1
theorem yQ(ha:PT X a tA):PW X (.BoolOp .And [a] pos) tA:=by
 refine⟨?_⟩;intro wh pins s σ H Q I h;refine isTrue_and (thn (ha pins s σ H Q I h) fun c s1 e=>?_);cases c with
 | true=>exact isTrue_and_nil e
 | false=>exact e
theorem xD(ha:PT X a tA):PW X (.BoolOp .Or [a] pos) tA:=by
 refine⟨?_⟩;intro wh pins s σ H Q I h;refine isTrue_or (thn (ha pins s σ H Q I h) fun c s1 e=>?_);cases c with
 | false=>exact isTrue_or_nil e
 | true=>exact e
theorem xa(ha:PT X a tA) (hb:PW X (.BoolOp .And (b::rest) pos) tB'):PW X (.BoolOp .And (a::b::rest) pos) (zlx tA tB'):=by
 refine⟨?_⟩;intro wh pins s σ H Q I h;refine isTrue_and (thn (ha pins s σ H _ I h) fun c s1 ⟨H1,I1,q1⟩=>?_);cases c with
 | true=>exact hb wh pins s1 σ H1 Q I1 q1
 | false=>exact⟨H1,I1,q1⟩
theorem xW(ha:PT X a tA) (hb:PW X (.BoolOp .Or (b::rest) pos) tB'):PW X (.BoolOp .Or (a::b::rest) pos) (tOr tA tB'):=by
 refine⟨?_⟩;intro wh pins s σ H Q I h;refine isTrue_or (thn (ha pins s σ H _ I h) fun c s1 ⟨H1,I1,q1⟩=>?_);cases c with
 | true=>exact⟨H1,I1,q1⟩
 | false=>exact hb wh pins s1 σ H1 Q I1 q1
theorem xc(ha:PT X a tA):PT X (.UnaryOp .Not a pos) (zlp tA):=by
 refine⟨?_⟩;intro pins s σ H Q I h;exact isTrue_not (ha pins s σ H (fun c H1=>Q (!c) H1) I h)
def zkv(ta tb:TE):TE:=fun σ H Q=>ta σ H fun x H1=>∃c,x=.bl c/\if c=true then tb σ H1 Q else Q (.bl false) H1
def zkq(ta:TE):TE:=fun σ H Q=>ta σ H fun x H1=>∃c,x=.bl c/\Q (.bl (!c)) H1
theorem zaT{op} {t:TE}(h:PE X a t):PE X (.BoolOp op [a] pos) t:=⟨fun pins s σ H Q I hw=>BoolOp_one (h pins s σ H Q I hw)⟩
theorem zaU(ha:PE X a ta) (hb:PE X (.BoolOp .And (b::rest) pos) tb):PE X (.BoolOp .And (a::b::rest) pos) (zkv ta tb):=by
 refine⟨?_⟩;intro pins s σ H Q I h;refine BoolOp_and (thn (ha pins s σ H _ I h) fun v s1 ⟨x,H1,I1,r1,q1⟩=>?_);obtain⟨c,rfl,q1⟩:=q1;cases r1;refine wpAny_truthy_bool ?_;cases c with
 | true=>exact hb pins s1 σ H1 Q I1 q1
 | false=>exact⟨.bl false,H1,I1,rfl,q1⟩
theorem zcF(ha:PE X a ta):PE X (.UnaryOp .Not a pos) (zkq ta):=by
 refine⟨?_⟩;intro pins s σ H Q I h;refine UnaryOp_ (thn (ha pins s σ H _ I h) fun v s1 ⟨x,H1,I1,r1,q1⟩=>?_);obtain⟨c,rfl,q1⟩:=q1;cases r1;exact not_of (wpAny_truthy_bool ⟨.bl (!c),H1,I1,rfl,q1⟩)
def tIf(t:TT) (ta tb:TE):TE:=fun σ H Q=>t σ H fun c H1=>if c=true then ta σ H1 Q else tb σ H1 Q
theorem j0{c:Expr}(hc:PT X c tA) (ha:PE X a ta) (hb:PE X b tb):PE X (.IfExp c a b pos) (tIf tA ta tb):=by
 refine⟨?_⟩;intro pins s σ H Q I h;refine wpAny_IfExp (thn (hc pins s σ H _ I h) fun d s1 ⟨H1,I1,q1⟩=>?_);cases d with
 | true=>exact ha pins s1 σ H1 Q I1 q1
 | false=>exact hb pins s1 σ H1 Q I1 q1
end
def SqL(K:Frag) (H:Hp) (a:Addr) (xs:List V):Prop:=
 Rd H a (.lst xs)\/
  ∃(o:Obj) (its:Array Value) (n:Nat),K.lookup a=some o/\o.cls=.type "list"/\o.dict=none/\o.data=.seq its n/\its.size<=sizeLine/\zQ xs its.toList
def SqT(K:Frag) (H:Hp) (a:Addr) (xs:List V):Prop:=
 Rd H a (.tup xs)\/
  ∃(o:Obj) (its:Array Value) (n:Nat),K.lookup a=some o/\o.cls=.type "tuple"/\o.data=.seq its n/\its.size<=sizeLine/\zQ xs its.toList
def zl5:Value->Option V
 | .none=>some .non
 | .bool b=>some (.bl b)
 | .int i _=>some (.int i)
 | .str x _=>some (.str x)
 | .bytes b _=>some (.byt b)
 | .float b _=>some (.flt b)
 | .ref a=>some (.ref a)
 | .type n=>some (.ty n)
 | _=>none
theorem zV.abs{x:V}{u:Value}(r:zV x u):zl5 u=some x:=by
 cases x with
 | non=>cases r;rfl
 | bl _=>cases r;rfl
 | int _=>obtain⟨t,rfl⟩:=r;rfl
 | str _=>obtain⟨t,rfl⟩:=r;rfl
 | byt _=>obtain⟨t,rfl⟩:=r;rfl
 | flt _=>obtain⟨t,rfl⟩:=r;rfl
 | ref _=>cases r;rfl
 | ty _=>cases r;rfl
theorem zV.inj{x y:V}{u:Value}(r:zV x u) (q:zV y u):x=y:=Option.some.inj (r.abs.symm.trans q.abs)
theorem zQ.inj:∀{xs ys:List V}{us:List Value},zQ xs us->zQ ys us->xs=ys
 | _,_,_,.nil,.nil=>rfl
 | _,_,_,.cons r t,.cons r' t'=>by rw[r.inj r',zQ.inj t t']
section
variable {X:Cx}{pins:List (Addr×Obj)}{σ : St}{H:Hp}{s:Shared}{a:Addr}{xs ys:List V}
theorem SqL.of{K:Frag}(h:H a=some (.lst xs)):SqL K H a xs:=.inl (.inl h)
theorem SqT.of{K:Frag}(h:H a=some (.tup xs)):SqT K H a xs:=.inl (.inl h)
theorem Inv.list(I:Inv X pins σ H s) (h:SqL X.K H a xs):∃its:List Value,zQ xs its/\PlainL s.heap a its.toArray/\xs.length<=sizeLine:=by
 rcases h with h|⟨o,its,n,hk,hc,hd,hs,hz,r⟩
 ·obtain⟨z,its,n,r,e⟩:=h.ok I.hok
  exact⟨its,r,⟨_,n,e,rfl,rfl,rfl⟩,z⟩
 ·refine⟨its.toList,r,⟨o,n,I.kIn a o hk,hc,hd,by simpa using hs⟩,?_⟩
  have e:=r.length;simp only[Array.length_toList] at e;omega
theorem Inv.tuple(I:Inv X pins σ H s) (h:SqT X.K H a xs):∃its:List Value,zQ xs its/\IsTup s.heap a its.toArray/\xs.length<=sizeLine:=by
 rcases h with h|⟨o,its,n,hk,hc,hs,hz,r⟩
 ·obtain⟨z,its,r,p⟩:=h.ok I.hok
  exact⟨its,r,p,z⟩
 ·refine⟨its.toList,r,⟨o,I.kIn a o hk,hc,n,by simpa using hs⟩,?_⟩
  have e:=r.length;simp only[Array.length_toList] at e;omega
theorem Inv.list_inj(I:Inv X pins σ H s) (h:SqL X.K H a xs) (h':SqL X.K H a ys):xs=ys:=by
 obtain⟨its,r,⟨o,n,e,_,_,d⟩,_⟩:=I.list h;obtain⟨its',r',⟨o',n',e',_,_,d'⟩,_⟩:=I.list h';rw[e] at e';cases e';rw[d] at d';injection d' with d1 _
 have:its=its':=by simpa using congrArg Array.toList d1
 subst this;exact r.inj r'
end
abbrev Cx.wish(X:Cx) (E:Value->Shared->Prop):Cx:={ X with xe:=E }
abbrev Cx.nox(X:Cx):Cx:=X.wish fun _ _=>False
theorem Cx.Ok.wish{X:Cx}(ok:X.Ok) (E:Value->Shared->Prop):(X.wish E).Ok:=
 ⟨ok.mod,ok.kind,ok.glob,ok.blt,ok.above,ok.inj,ok.has,ok.cab,ok.hd,ok.frames,ok.stk,ok.exf,ok.bs,ok.bsz,ok.noex,ok.exfs,ok.funs,ok.frf⟩
theorem Cx.Ok.unwish{X:Cx}{E:Value->Shared->Prop}(ok:(X.wish E).Ok):X.Ok:=
 ⟨ok.mod,ok.kind,ok.glob,ok.blt,ok.above,ok.inj,ok.has,ok.cab,ok.hd,ok.frames,ok.stk,ok.exf,ok.bs,ok.bsz,ok.noex,ok.exfs,ok.funs,ok.frf⟩
section
variable {X:Cx}{pins:List (Addr×Obj)}{σ : St}{H:Hp}{s:Shared}{E:Value->Shared->Prop}
theorem Inv.wish(I:Inv X pins σ H s) (E:Value->Shared->Prop):Inv (X.wish E) pins σ H s:=⟨I.ok.wish E,I.os,I.bare,I.base,I.loc,I.cell,I.free,I.freeC,I.pin,I.hok,I.len⟩
theorem Inv.unwish(I:Inv (X.wish E) pins σ H s):Inv X pins σ H s:=⟨I.ok.unwish,I.os,I.bare,I.base,I.loc,I.cell,I.free,I.freeC,I.pin,I.hok,I.len⟩
theorem SP.unwish{D:jp}{f:Flow}{s':Shared}(h:SP (X.wish E) pins D f s'):SP X pins D f s':=by
 cases f with
 | next=>obtain⟨σ',H',I,q⟩:=h;exact⟨σ',H',I.unwish,q⟩
 | brk=>obtain⟨σ',H',I,q⟩:=h;exact⟨σ',H',I.unwish,q⟩
 | cont=>obtain⟨σ',H',I,q⟩:=h;exact⟨σ',H',I.unwish,q⟩
 | ret u=>obtain⟨v,σ',H',I,r,q⟩:=h;exact⟨v,σ',H',I.unwish,r,q⟩
theorem PSs.nox{st:List Stmt}{t:TS}(h:PSs X.nox st t):PSs X st t:=⟨fun pins s σ H D I hw=>
 wpAny_mono (h pins s σ H D (I.wish _) hw) (fun _ _ q=>q.unwish) fun _ _ z=>False.elim z⟩
end
section
variable {X:Cx}{st:Stmt}{rest:List Stmt}{t u:TS}{e:Expr}{te:TE}{pos:Pos}
def ziv:TS:=fun D σ H=>D.nx σ H
def uO(t u:TS):TS:=fun D σ H=>t { D with nx:=u D } σ H
theorem zE:PSs X [] ziv:=⟨fun _ _ σ H _ I h=>wpAny_execs_nil ⟨σ,H,I,h⟩⟩
theorem zj(h1:PS X st t) (h2:PSs X rest u):PSs X (st::rest) (uO t u):=by
 refine⟨?_⟩;intro pins s σ H D I h;refine wpAny_execs_cons (thn (h1 pins s σ H { D with nx:=u D } I h) fun f s1 q=>?_)
 cases f with
 | next=>
  obtain⟨σ',H',I',q⟩:=q;exact h2 pins s1 σ' H' D I' q
 | ret v=>exact q
 | brk=>exact q
 | cont=>exact q
theorem ze(h1:PS X st t):PSs X [st] t:=by
 refine⟨?_⟩;intro pins s σ H D I h;refine wpAny_execs_cons (thn (h1 pins s σ H D I h) fun f s1 q=>?_);cases f with
 | next=>exact wpAny_execs_nil q
 | ret v=>exact q
 | brk=>exact q
 | cont=>exact q
theorem Inv.quiet{pins:List (Addr×Obj)}{σ : St}{H:Hp}{s:Shared}(I:Inv X pins σ H s):interactive X.env=false:=by simp [interactive,I.ok.kind]
def zkt(te:TE):TS:=fun D σ H=>te σ H fun _ H1=>D.nx σ H1
theorem z6(he:PE X e te) (hs:swapsWith e none pos.line X.env=pure false:=by rfl):PS X (.Expr e pos) (zkt te):=by
 refine⟨?_⟩;intro pins s σ H D I h;exact wpAny_Expr_any (thn (he pins s σ H _ I h) fun v s1 ⟨x,H1,I1,r1,q1⟩=>⟨σ,H1,I1,q1⟩) I.quiet hs
def zlo(te:TE):TS:=fun D σ H=>te σ H D.rt
theorem zC(he:PE X e te):PS X (.Return (some e) pos) (zlo te):=by
 refine⟨?_⟩;intro pins s σ H D I h;exact wpAny_Return_some (thn (he pins s σ H _ I h) fun v s1 ⟨x,H1,I1,r1,q1⟩=>⟨x,σ,H1,I1,r1,q1⟩)
def zls(c:TT) (t u:TS):TS:=fun D σ H=>c σ H fun b H1=>if b=true then t D σ H1 else u D σ H1
theorem zP{c:Expr}{a b:List Stmt}{tc:TT}(hc:PT X c tc) (ha:PSs X a t) (hb:PSs X b u):PS X (.If c a b pos) (zls tc t u):=by
 refine⟨?_⟩;intro pins s σ H D I h;refine wpAny_If (thn (hc pins s σ H _ I h) fun d s1 ⟨H1,I1,q1⟩=>?_);cases d with
 | true=>exact ha pins s1 σ H1 D I1 q1
 | false=>exact hb pins s1 σ H1 D I1 q1
end
abbrev TG:=V->St->Hp->(St->Hp->Prop)->Prop
abbrev TGs:=List V->St->Hp->(St->Hp->Prop)->Prop
structure PG(X:Cx) (target:Expr) (t:TG):Prop where
 run:∀(pins:List (Addr×Obj)) (s:Shared) (σ : St) (H:Hp) (v:V) (u:Value) (Q:St->Hp->Prop),Inv X pins σ H s->zV v u->t v σ H Q->
  wpAny (model X.prog X.w) X.A (assign target X.env u) (fun _ s'=>∃σ' H',Inv X pins σ' H' s'/\Q σ' H') X.xe s
instance {X:Cx}{target:Expr}{t:TG}:CoeFun (PG X target t) (fun _=>∀(pins:List (Addr×Obj)) (s:Shared) (σ : St) (H:Hp) (v:V) (u:Value) (Q:St->Hp->Prop),Inv X pins σ H s->zV v u->t v σ H Q->
  wpAny (model X.prog X.w) X.A (assign target X.env u) (fun _ s'=>∃σ' H',Inv X pins σ' H' s'/\Q σ' H') X.xe s):=⟨PG.run⟩
structure PGs(X:Cx) (ts:List Expr) (t:TGs):Prop where
 run:∀(pins:List (Addr×Obj)) (s:Shared) (σ : St) (H:Hp) (vs:List V) (us:List Value) (Q:St->Hp->Prop),Inv X pins σ H s->zQ vs us->t vs σ H Q->
  wpAny (model X.prog X.w) X.A (assignInOrder ((assignEach ts X.env).map (·.2)) us) (fun _ s'=>∃σ' H',Inv X pins σ' H' s'/\Q σ' H') X.xe s
instance {X:Cx}{ts:List Expr}{t:TGs}:CoeFun (PGs X ts t) (fun _=>∀(pins:List (Addr×Obj)) (s:Shared) (σ : St) (H:Hp) (vs:List V) (us:List Value) (Q:St->Hp->Prop),Inv X pins σ H s->zQ vs us->t vs σ H Q->
  wpAny (model X.prog X.w) X.A (assignInOrder ((assignEach ts X.env).map (·.2)) us) (fun _ s'=>∃σ' H',Inv X pins σ' H' s'/\Q σ' H') X.xe s):=⟨PGs.run⟩
abbrev zkg:=V->V->V->Hp->(Hp->Prop)->Prop
def zlh(X:Cx) (t:zkg):Prop:=
 ∀(pins:List (Addr×Obj)) (s:Shared) (σ : St) (H:Hp) (o i v:V) (ov iv u:Value) (Q:Hp->Prop),Inv X pins σ H s->zV o ov->zV i iv->zV v u->t o i v H Q->
  wpAny (model X.prog X.w) X.A (setItem ov iv u) (fun _ s'=>∃H',Inv X pins σ H' s'/\Q H') X.xe s
abbrev TIp:=V->V->Hp->VK->Prop
def PIp(X:Cx) (op:Operator) (t:TIp):Prop:=
 ∀(pins:List (Addr×Obj)) (s:Shared) (σ : St) (H:Hp) (x y:V) (v u:Value) (Q:VK),Inv X pins σ H s->zV x v->zV y u->t x y H Q->
  wpAny (model X.prog X.w) X.A (inplaceOp op v u) (EP X pins σ Q) X.xe s
section
variable {X:Cx}{pos:Pos}
def zN(i:Nat):TG:=fun v σ H Q=>Q (σ.set i (some v)) H
theorem zk{i:Nat}{x:Str}(hN:X.N.Nodup) (hi:X.N[i]?=some x) (hx:Loc X.env.scope x) (hf:X.fn x=true\/X.env.scope.names.lookup x=some .local:=by first|exact .inl rfl|exact .inr rfl|assumption):PG X (.Name x pos) (zN i):=by
 refine⟨?_⟩;intro pins s σ H v u Q I r h;exact wpAny_assign_Name (jF I hN hi hx r (fun s' I'=>⟨_,H,I',h⟩) hf)
def zk5:TGs:=fun vs σ H Q=>vs=[]/\Q σ H
def zgJ(t:TG) (u:TGs):TGs:=fun vs σ H Q=>∃v r,vs=v::r/\t v σ H fun σ' H'=>u r σ' H' Q
theorem yL:PGs X [] zk5:=by
 refine⟨?_⟩;intro pins s σ H vs us Q I r h;obtain⟨e,h⟩:=h;subst e;cases r;exact assignInOrder_nil ⟨σ,H,I,h⟩
theorem zL{e:Expr}{es:List Expr}{t:TG}{u:TGs}(h1:PG X e t) (h2:PGs X es u)
  (hs:(assignEach (e::es) X.env).map (·.2)=assign e X.env::(assignEach es X.env).map (·.2):=by rfl):PGs X (e::es) (zgJ t u):=by
 refine⟨?_⟩;intro pins s σ H vs us Q I r h;obtain⟨v,vr,e1,h⟩:=h;subst e1;cases r with
 | cons r rr=>
  rw[hs];refine assignInOrder_cons (thn (h1 pins s σ H _ _ _ I r h) fun _ s1 ⟨σ1,H1,I1,q1⟩=>?_);exact h2 pins s1 σ1 H1 _ _ Q I1 rr q1
def zk4(K:Frag) (n:Nat) (t:TGs):TG:=fun v σ H Q=>∃a xs,v=.ref a/\SqT K H a xs/\xs.length=n/\t xs σ H Q
theorem xf{es:List Expr}{k:Nat}{t:TGs}{n:Nat}(hc:X.calm=true) (h:PGs X es t)
  (hn:(assignEach es X.env).length=n:=by rfl) (hst:(assignEach es X.env).findIdx? (·.1)=none:=by rfl):PG X (.Tuple es k pos) (zk4 X.K n t):=by
 refine⟨?_⟩;intro pins s σ H v u Q I r hw;obtain⟨a,xs,e1,hq,hl,hw⟩:=hw;subst e1;cases r;obtain⟨its,rv,ht,hz⟩:=I.tuple hq;refine assign_Tuple_tuple (I.ok.hd hc) ht (by simp [hn,<- hl,rv.length]) hst fun h' hx=>?_
 have I1:Inv X pins σ H { s with heap:=h' }:=I.kept (t':=s.toks) fun b o e=>hx b o (ne_of_lt (Heap.lt_size e)) e
 exact h pins _ σ H xs _ Q I1 (by simpa using rv) hw
def zl2(to ti:TE) (t:zkg):TG:=fun v σ H Q=>to σ H fun o H1=>ti σ H1 fun i H2=>t o i v H2 fun H3=>Q σ H3
theorem zfV{o i:Expr}{to ti:TE}{t:zkg}(ho:PE X o to) (hi:PE X i ti) (hs:zlh X t)
  (ha:∀v,assign (.Subscript o i pos) X.env v=(do
   let ov <- holding [v] (eval o X.env)
   let iv <- holding [v,ov] (eval i X.env)
   standAt pos
   holding [v,ov,iv] (setItem ov iv v)
   release [v,ov,iv] []):=by intro _;rfl):PG X (.Subscript o i pos) (zl2 to ti t):=by
 refine⟨?_⟩;intro pins s σ H v u Q I r h;rw[ha];refine wpAny_bind (wpAny_holding (thn (ho pins s σ H _ I h) fun ov s1 ⟨x,H1,I1,r1,q1⟩=>?_));refine wpAny_bind (wpAny_holding (thn (hi pins s1 σ H1 _ I1 q1) fun iv s2 ⟨y,H2,I2,r2,q2⟩=>?_));refine wpAny_bind (wpAny_standAt (wpAny_bind (wpAny_holding (thn (hs pins s2 σ H2 x y v ov iv u _ I2 r1 r2 r q2) fun _ s3 ⟨H3,I3,q3⟩=>?_))));exact wpAny_release ⟨σ,H3,I3,q3⟩
def zi9(te:TE) (g:TG):TS:=fun D σ H=>te σ H fun x H1=>g x σ H1 D.nx
theorem wQ{tg e:Expr}{te:TE}{g:TG}(he:PE X e te) (hg:PG X tg g) (hs:swapsWithSole [tg] e pos.line X.env=pure false:=by rfl) (hw:swappedStores [tg] e X.env=pure none:=by rfl)
  (h1:(assignEach [tg] X.env).map (·.2)=[assign tg X.env]:=by rfl):PS X (.Assign [tg] e pos) (zi9 te g):=by
 refine⟨?_⟩;intro pins s σ H D I h;refine wpAny_Assign_stores (thn (he pins s σ H _ I h) fun v s1 ⟨x,H1,I1,r1,q1⟩=>?_) hs hw;rw[h1];exact thn (hg pins s1 σ H1 x v _ I1 r1 q1) fun _ s2 q=>q
theorem zy{i:Nat}{x:Str}{e:Expr}{te:TE}{pos':Pos}(hN:X.N.Nodup) (hi:X.N[i]?=some x) (hx:Loc X.env.scope x) (he:PE X e te) (hs:swapsWith e (some (.Name x pos')) pos.line X.env=pure false:=by rfl) (hf:X.fn x=true\/X.env.scope.names.lookup x=some .local:=by first|exact .inl rfl|exact .inr rfl|assumption) :
  PS X (.Assign [.Name x pos'] e pos) (zi9 te (zN i)):=by
 refine⟨?_⟩;intro pins s σ H D I h;refine wpAny_Assign_Name (thn (he pins s σ H _ I h) fun v s1 ⟨y,H1,I1,r1,q1⟩=>?_) hs;exact jF I1 hN hi hx r1 (fun s2 I2=>⟨_,H1,I2,q1⟩) hf
def zlw(i:Nat) (te:TE) (ti:TIp):TS:=fun D σ H=>∃x,σ[i]?=some (some x)/\te σ H fun y H1=>ti x y H1 fun z H2=>D.nx (σ.set i (some z)) H2
theorem zjF{i:Nat}{x:Str}{e:Expr}{te:TE}{op:Operator}{ti:TIp}{pos':Pos}(hN:X.N.Nodup) (hi:X.N[i]?=some x) (hx:Loc X.env.scope x) (he:PE X e te) (ho:PIp X op ti) (hf:X.fn x=true\/X.env.scope.names.lookup x=some .local:=by first|exact .inl rfl|exact .inr rfl|assumption) :
  PS X (.AugAssign (.Name x pos') op e pos) (zlw i te ti):=by
 refine⟨?_⟩;intro pins s σ H D I h;obtain⟨v,e1,h⟩:=h;obtain⟨m,hn,hl⟩:=I.loc;have vis:Vis X.env.scope x:=by rcases hx with k|k;exact .inl k;exact .inr (.inl k)
 obtain⟨u,r,l⟩:=hl i x v hi e1 vis;refine wpAny_AugAssign_Name ?_;have go:wpAny (model X.prog X.w) X.A (eval e X.env) (fun w s₂=>wpAny (model X.prog X.w) X.A (inplaceOp op u w) (fun r s₃=>wpAny (model X.prog X.w) X.A (storeName X.env x r) (fun _=>SP X pins D .next) X.xe s₃) X.xe s₂) X.xe s:=by
  refine thn (he pins s σ H _ I h) fun w s1 ⟨y,H1,I1,r1,q1⟩=>?_;refine thn (ho pins s1 σ H1 v y u w _ I1 r r1 q1) fun z s2 ⟨zv,H2,I2,r2,q2⟩=>?_;exact jF I2 hN hi hx r2 (fun s3 I3=>⟨_,H2,I3,q2⟩) hf
 rcases l with ⟨hk,hm⟩|⟨hk,c,hc,hcell⟩
 ·exact wpAny_loadName_local I.ok.kind hk hn hm go
 ·rcases hk with hk|hk
  ·exact wpAny_loadName_cell I.ok.kind hk hc hcell go
  ·rcases hx with k|k
   ·have:X.env.scope.names.lookup x=some .free:=hk
    rw[k] at this;cases this
   ·have:X.env.scope.names.lookup x=some .free:=hk
    rw[k] at this;cases this
def ipI(f:Int->Int->Int):TIp:=fun x y H Q=>∃i j,x=.int i/\y=.int j/\Q (.int (f i j)) H
theorem zj4:PIp X .Add (ipI fun i j=>i+j):=by
 intro pins s σ H x y v u Q I r1 r2 h;obtain⟨i,j,e1,e2,q⟩:=h;subst e1;subst e2;obtain⟨t,rfl⟩:=r1;obtain⟨t',rfl⟩:=r2;exact iadd_int ⟨.int _,H,I.tok _,⟨_,rfl⟩,q⟩
def zi2(c:TT) (tb:TS):TS:=fun D σ H=>∃W:Nat->St->Hp->Prop,(∃m,W m σ H)/\∀m σ H,W m σ H->
 c σ H fun b H1=>if b=true then ∃N:St->Hp->Prop,(∀σ' H',N σ' H'->∃m',m'<m/\W m' σ' H')/\tb { D with nx:=N,ct:=N,bk:=D.nx } σ H1 else D.nx σ H1
theorem zbE{c:Expr}{body:List Stmt}{tc:TT}{tb:TS}(hp:PassesOwn (model X.prog X.w) X.A X.env X.xe) (hc:PT X c tc) (hb:PSs X body tb):PS X (.While c body [] pos) (zi2 tc tb):=by
 refine⟨?_⟩;intro pins s σ H D I h;obtain⟨W,⟨m0,w0⟩,turn⟩:=h;refine wpAny_While (codeAny_whileLoop (fun n s'=>∃σ' H',Inv X pins σ' H' s'/\W n σ' H') ?_ m0 ⟨σ,H,I,w0⟩);rintro n s1 ⟨σ1,H1,I1,w1⟩;refine wpAny_passesOwn hp (thn (hc pins s1 σ1 H1 _ I1 (turn n σ1 H1 w1)) fun b s2 ⟨H2,I2,q2⟩=>?_);cases b with
 | true=>
  obtain⟨N,hN,q2⟩:=q2;rw[if_pos rfl];refine wpAny_passesOwn hp (thn (hb pins s2 σ1 H2 _ I2 q2) fun f s3 q3=>?_);cases f with
  | next=>
   obtain⟨σ3,H3,I3,n3⟩:=q3;obtain⟨m',hm,w3⟩:=hN σ3 H3 n3;exact⟨m',hm,σ3,H3,I3,w3⟩
  | cont=>
   obtain⟨σ3,H3,I3,n3⟩:=q3;obtain⟨m',hm,w3⟩:=hN σ3 H3 n3;exact⟨m',hm,σ3,H3,I3,w3⟩
  | brk=>exact q3
  | ret v=>exact q3
 | false=>
  rw[if_neg Bool.false_ne_true];exact wpAny_execs_nil ⟨σ1,H2,I2,q2⟩
end
structure It where
 go:Nat->Hp->Prop
 yld:Nat->Hp->V->Hp->Prop
 stop:Nat->Hp->Prop
def x8(X:Cx) (pins:List (Addr×Obj)) (H:Hp) (b:Addr):Prop:=
 H b=none/\b≠X.env.locals/\b∉X.fs/\(b∈X.ex\/X.s₀.heap.objs.size<=b)/\(∀x c,X.env.cells.lookup x=some c->c≠b)/\∀p∈X.pn++pins,p.1≠b
theorem Inv.fpOk{X:Cx}{pins:List (Addr×Obj)}{σ : St}{H H':Hp}{s:Shared}{b:Addr}(I:Inv X pins σ H s) (hb:s.heap.objs.size<=b) (hn:H' b=none):x8 X pins H' b:=by
 refine⟨hn,ne_of_gt (lt_of_lt_of_le I.lt hb),I.nofs hb,.inr (Nat.le_trans I.sz hb),fun x c e z=>?_,fun p hp z=>?_⟩
 ·obtain⟨v,q⟩:=I.cell x c e
  exact absurd (lt_of_lt_of_le q.lt (by rw[z];exact hb)) (lt_irrefl _)
 ·exact absurd (lt_of_lt_of_le (Heap.lt_size (I.pin p hp).1) (by rw[z];exact hb)) (lt_irrefl _)
structure zca(P:Program) (w:World) (K:Frag) (tg:Expr) (J:It) (fp:List Addr) (it:Addr) (tn:Nat->Heap->Prop):Prop where
 mem:it∈fp
 obj:∀i h,tn i h->∀b∈fp,∃o,h.get? b=some o/\∀v,o.data≠.cell v
 keep:∀i h h',tn i h->(∀b∈fp,∀o,h.get? b=some o->h'.get? b=some o)->tn i h'
 item:∀(X:Cx),X.prog=P->X.w=w->X.K=K->X.calm=true->∀(i:Nat) (pins:List (Addr×Obj)) (s:Shared) (σ : St) (H:Hp) (E:Value->Shared->Prop),Inv X pins σ H s->(∀b∈fp,x8 X pins H b)->tn i s.heap->J.go i H->
  wpAny (model P w) X.A (pyNext (.ref it)) (fun r s1=>∃u,r=some u/\
   wpAny (model P w) X.A (letOwnedTupleGo tg (.ref it) u) (fun _ s2=>∃x H',Inv X pins σ H' s2/\zV x u/\J.yld i H x H'/\tn (i+1) s2.heap/\∀b∈fp,H' b=none) E s1) E s
 done:∀(X:Cx),X.prog=P->X.w=w->X.K=K->X.calm=true->∀(i:Nat) (pins:List (Addr×Obj)) (s:Shared) (σ : St) (H:Hp) (E:Value->Shared->Prop),Inv X pins σ H s->(∀b∈fp,x8 X pins H b)->tn i s.heap->J.stop i H->
  wpAny (model P w) X.A (pyNext (.ref it)) (fun r s1=>r=none/\Inv X pins σ H s1) E s
 self:∀(A:Around) (i:Nat) (s:Shared) (Q:Value->Shared->Prop) (E:Value->Shared->Prop),tn i s.heap->Q (.ref it) s->wpAny (model P w) A (pyIter (.ref it)) Q E s
abbrev TI:=St->Hp->(It->Hp->Prop)->Prop
def PIE(X:Cx) (pins:List (Addr×Obj)) (σ : St) (tg:Expr) (R:It->Hp->Prop) (itv:Value) (s2:Shared):Prop:=
 ∃(it:Addr) (fp:List Addr) (tn:Nat->Heap->Prop) (J:It) (H':Hp),itv=.ref it/\Inv X pins σ H' s2/\zca X.prog X.w X.K tg J fp it tn/\tn 0 s2.heap/\(∀b∈fp,x8 X pins H' b)/\R J H'
structure PI(X:Cx) (tg iter:Expr) (wi:TI):Prop where
 run:∀(pins:List (Addr×Obj)) (s:Shared) (σ : St) (H:Hp) (R:It->Hp->Prop),Inv X pins σ H s->wi σ H R->
  wpAny (model X.prog X.w) X.A (eval iter X.env) (fun v s1=>wpAny (model X.prog X.w) X.A (pyIter v) (PIE X pins σ tg R) X.xe s1) X.xe s
instance {X:Cx}{tg iter:Expr}{wi:TI}:CoeFun (PI X tg iter wi) (fun _=>∀(pins:List (Addr×Obj)) (s:Shared) (σ : St) (H:Hp) (R:It->Hp->Prop),Inv X pins σ H s->wi σ H R->
  wpAny (model X.prog X.w) X.A (eval iter X.env) (fun v s1=>wpAny (model X.prog X.w) X.A (pyIter v) (PIE X pins σ tg R) X.xe s1) X.xe s):=⟨PI.run⟩
theorem zgH{M:Model}{A:Around}{E:Value->Shared->Prop}{s:Shared}{tg:Expr}{it:Addr}{u:Value}{o:Obj}{n:String}{vs:Array Value}{Q:Unit->Shared->Prop}(ho:s.heap.get? it=some o) (hc:o.cls=.type n) (hd:o.data=.fields vs)
  (hn:["enumerate","zip","dict_itemiterator","dict_reverseitemiterator","odict_iterator","itertools.zip_longest","itertools.pairwise"].contains n=false) (hQ:Q () s):wpAny M A (letOwnedTupleGo tg (.ref it) u) Q E s:=by
 unfold letOwnedTupleGo;cases tg <;> first
  | exact wpAny_pure hQ
  | (cases u <;> first
    | exact wpAny_pure hQ
    | (refine wpAny_bind (wpAny_load ho ?_)
       rw[hc,hd];show wpAny M A (if (["enumerate","zip","dict_itemiterator","dict_reverseitemiterator","odict_iterator","itertools.zip_longest","itertools.pairwise"].contains n&&vs[0]?==some (rawInt _))=true then _ else _) Q E s
       rw[if_neg (by intro h;rw[hn,Bool.false_and] at h;cases h)]
       exact wpAny_pure hQ))
def Itl(K:Frag) (a:Addr):It:=
 ⟨fun i H=>∃xs x,SqL K H a xs/\xs[i]?=some x,fun i H x H'=>H'=H/\∀xs,SqL K H a xs->xs[i]?=some x,fun i H=>∃xs,SqL K H a xs/\xs.length<=i⟩
def Itr(lo:Int) (n:Nat):It:=⟨fun i _=>i<n,fun i H x H'=>H'=H/\x=.int (lo+i),fun i _=>n<=i⟩
theorem zea{P:Program}{w:World}{K:Frag}{tg:Expr}(a it:Addr):zca P w K tg (Itl K a) [it] it (fun i h=>h.IsListIter it a i) where
 mem:=by simp
 obj:=fun i h st b hb=>by
  have e:b=it:=by simpa using hb
  subst e;obtain⟨o,e,c,d⟩:=st;exact⟨o,e,fun v z=>by rw[d] at z;cases z⟩
 keep:=fun i h h' st k=>st.at fun o e=>k it (by simp) o e
 item:=by
  intro X hP hw hK hc i pins s σ H E I hf st hg;subst hP hw hK;obtain⟨xs,x,hq,hx⟩:=hg;obtain⟨its,rv,p,hz⟩:=I.list hq;obtain⟨u,hu,ru⟩:=rv.get hx;obtain⟨f0,f1,f2,f3,f4,f5⟩:=hf it (by simp)
  refine wpAny_pyNext_list_item st p.isList (x:=u) (by simpa using hu) fun h' st' sb=>?_
  have I1:Inv X pins σ H { s with heap:=h' }:=I.turned (t':=s.toks) (fun b o hb e=>(sb.2 b hb).trans e) f0 f1 f3 f4 f5
  obtain⟨o,e,c,d⟩:=id st';exact⟨u,rfl,zgH (s:={ s with heap:=h' }) e c d (by decide) ⟨x,H,I1,ru,⟨rfl,fun ys hy=>by rw[I.list_inj hy hq];exact hx⟩,st',fun b hb=>(hf b hb).1⟩⟩
 done:=by
  intro X hP hw hK hc i pins s σ H E I hf st hg;subst hP hw hK;obtain⟨xs,hq,hx⟩:=hg;obtain⟨its,rv,p,hz⟩:=I.list hq;obtain⟨f0,f1,f2,f3,f4,f5⟩:=hf it (by simp)
  have hl:=rv.length;exact wpAny_pyNext_list_end (I.ok.hd hc) st p.isList (by simp;omega) fun h' eb=>⟨rfl,I.turned (t':=s.toks) (fun b o hb e=>eb b o hb e) f0 f1 f3 f4 f5⟩
 self:=fun _ _ _ _ _ st h=>wpAny_pyIter_listiter st h
theorem zcd{P:Program}{w:World}{K:Frag}{tg:Expr}(it:Addr) (lo:Int) (n:Nat):zca P w K tg (Itr lo n) [it] it (fun i h=>IsRangeIter h it (lo+(i:Nat) * 1) ((n:Int) - (i:Nat)) 1) where
 mem:=by simp
 obj:=fun i h st b hb=>by
  have e:b=it:=by simpa using hb
  subst e;exact⟨_,st,fun v z=>by
   have z':Data.fields _=Data.cell v:=z;cases z'⟩
 keep:=fun i h h' st k=>k it (by simp) _ st
 item:=by
  intro X hP hw hK hc i pins s σ H E I hf st hg;subst hP hw hK;obtain⟨f0,f1,f2,f3,f4,f5⟩:=hf it (by simp)
  have W:=Walks.range (prog:=X.prog) (w:=X.w) (I.ok.hd hc) it lo 1 n;refine W.item i s _ _ hg st fun v h' tk hv st' kk=>?_;obtain⟨t,rfl⟩:=hv;have I1:Inv X pins σ H { s with heap:=h',toks:=tk }:=I.turned (fun b o hb e=>kk b o (by simpa using hb) e) f0 f1 f3 f4 f5
  refine⟨_,rfl,zgH (s:={ s with heap:=h',toks:=tk }) (n:="range_iterator") st' rfl rfl (by decide) ⟨.int (lo+i),H,I1,⟨t,?_⟩,⟨rfl,rfl⟩,st',fun b hb=>(hf b hb).1⟩⟩
  rw[Int.mul_one]
 done:=by
  intro X hP hw hK hc i pins s σ H E I hf st hg;subst hP hw hK;obtain⟨f0,f1,f2,f3,f4,f5⟩:=hf it (by simp)
  exact wpAny_pyNext_range_end (I.ok.hd hc) st (by have:n<=i:=hg;omega) fun h' eb=>⟨rfl,I.turned (t':=s.toks) (fun b o hb e=>eb b o hb e) f0 f1 f3 f4 f5⟩
 self:=fun _ _ _ _ _ st h=>wpAny_pyIter_rangeiter st h
section
variable {X:Cx}{tg:Expr}
def zk0(K:Frag) (tl:TE):TI:=fun σ H R=>tl σ H fun x H1=>∃a,x=.ref a/\(∃xs,SqL K H1 a xs)/\R (Itl K a) H1
theorem zM{l:Expr}{tl:TE}(hl:PE X l tl):PI X tg l (zk0 X.K tl):=by
 refine⟨?_⟩;intro pins s σ H R I h;refine thn (hl pins s σ H _ I h) fun v s1 ⟨x,H1,I1,r1,q1⟩=>?_;obtain⟨a,e,⟨xs,hq⟩,q⟩:=q1;subst e;cases r1;obtain⟨its,rv,p,hz⟩:=I1.list hq;refine wpAny_pyIter_list p.isList ?_;refine⟨s1.heap.objs.size,[s1.heap.objs.size],_,_,H1,rfl,I1.kept (t':=s1.toks) fun b o e=>Heap.get?_push_of_some _ e,zea a _,⟨_,Heap.get?_push_size _ rfl,rfl,rfl⟩,fun b hb=>?_,q⟩;have e:b=s1.heap.objs.size:=by simpa using hb
 subst e;exact I1.fpOk (Nat.le_refl _) (I1.hok.fresh (Nat.le_refl _))
theorem zbB{pins:List (Addr×Obj)}{σ : St}{H:Hp}{s:Shared}{R:It->Hp->Prop}{E:Value->Shared->Prop}{lo hi:Int}{t u v:Tok}{tk:Nat}(I:Inv X pins σ H s) (h1 : -(2 ^ 62)<=lo) (h2:lo<2 ^ 62) (h3 : -(2 ^ 62)<=hi) (h4:hi<2 ^ 62)
  (q:R (Itr lo (hi - lo).toNat) H):wpAny (model X.prog X.w) X.A (pyIter (.ref s.heap.objs.size)) (PIE X pins σ tg R) E { s with heap:=s.heap.push { cls:=.type "range",data:=.fields #[.int lo t,.int hi u,.int 1 v] },toks:=tk }:=by
 refine wpAny_pyIter_range (IsRange.new ..) (small_one h1 h2 h3 h4) ?_;have I1:Inv X pins σ H { s with heap:=s.heap.push { cls:=.type "range",data:=.fields #[.int lo t,.int hi u,.int 1 v] },toks:=tk }:=I.kept fun b o e=>Heap.get?_push_of_some _ e
 refine⟨(s.heap.push { cls:=.type "range",data:=.fields #[.int lo t,.int hi u,.int 1 v] }).objs.size,[(s.heap.push { cls:=.type "range",data:=.fields #[.int lo t,.int hi u,.int 1 v] }).objs.size],_,_,H,rfl,
  I1.kept (t':=tk) fun b o e=>Heap.get?_push_of_some _ e,zcd _ lo (hi - lo).toNat,?_,fun b hb=>?_,q⟩
 ·have e1:lo+((0:Nat):Int) * 1=lo:=by simp
  have e2:(((hi - lo).toNat:Nat):Int) - ((0:Nat):Int)=Builtin.Range.rangeSize lo hi 1:=by rw[rangeSize_one];split <;> omega
  show IsRangeIter _ _ (lo+((0:Nat):Int) * 1) ((((hi - lo).toNat:Nat):Int) - ((0:Nat):Int)) 1;rw[e1,e2];exact Heap.get?_push_size _ rfl
 ·have e:b=(s.heap.push { cls:=.type "range",data:=.fields #[.int lo t,.int hi u,.int 1 v] }).objs.size:=by simpa using hb
  subst e;exact I1.fpOk (Nat.le_refl _) (I1.hok.fresh (Nat.le_refl _))
def zkZ(ta:TA):TI:=fun σ H R=>ta σ H fun vs H1=>∃j:Int,vs=[.int j]/\-(2 ^ 62)<=j/\j<2 ^ 62/\R (Itr 0 j.toNat) H1
def zkY(ta:TA):TI:=fun σ H R=>ta σ H fun vs H1=>∃i j:Int,vs=[.int i,.int j]/\(-(2 ^ 62)<=i/\i<2 ^ 62/\-(2 ^ 62)<=j/\j<2 ^ 62)/\R (Itr i (j - i).toNat) H1
theorem vF{a:Expr}{ta:TA}{p pos:Pos}(hg:Gl X "range") (hm:X.mg "range"=none) (ha:PA X [a] ta) (hs:starEach [a] X.env=[(false,eval a X.env)]:=by rfl):PI X tg (.Call (.Name "range" p) [a] [] pos) (zkZ ta):=by
 refine⟨?_⟩;intro pins s σ H R I h;refine Call_ (ww I hg hm boot_range (PyProof.Rows.callWith_type1 (thn (ha pos pins s σ H _ I h) fun us s1 ⟨vs,H1,I1,r1,q1⟩=>?_) hs rfl));obtain⟨j,e,q1,q2,q⟩:=q1;subst e;cases r1 with
 | cons r rr=>
  cases rr;obtain⟨t,rfl⟩:=r;exact call_range_1 (zbB I1 (by omega) (by omega) q1 q2 (by simpa using q))
theorem zel{a b:Expr}{ta:TA}{p pos:Pos}(hg:Gl X "range") (hm:X.mg "range"=none) (ha:PA X [a,b] ta) (hs:starEach [a,b] X.env=[(false,eval a X.env),(false,eval b X.env)]:=by rfl) (hs2:starEach [b] X.env=[(false,eval b X.env)]:=by rfl) :
  PI X tg (.Call (.Name "range" p) [a,b] [] pos) (zkY ta):=by
 refine⟨?_⟩;intro pins s σ H R I h;refine Call_ (ww I hg hm boot_range (PyProof.Rows.callWith_type1 (thn (ha pos pins s σ H _ I h) fun us s1 ⟨vs,H1,I1,r1,q1⟩=>?_) (by rw[hs,hs2]) (by rw[hs2];rfl)))
 obtain⟨i,j,e,⟨q1,q2,q3,q4⟩,q⟩:=q1;subst e;cases r1 with
 | cons r rr=>
  cases rr with
  | cons r' rr=>
   cases rr;obtain⟨t,rfl⟩:=r;obtain⟨t',rfl⟩:=r';exact call_range_2 (zbB I1 q1 q2 q3 q4 q)
def zlu(wi:TI) (g:TG) (tb:TS):TS:=fun D σ H=>wi σ H fun J H1=>∃W:Nat->Nat->St->Hp->Prop,(∃m,W 0 m σ H1)/\∀i m σ H,W i m σ H->
 (J.stop i H/\D.nx σ H)\/(J.go i H/\∃N:St->Hp->Prop,(∀σ' H',N σ' H'->∃m',m'<m/\W (i+1) m' σ' H')/\∀x H',J.yld i H x H'->g x σ H' fun σ2 H2=>tb { D with nx:=N,ct:=N,bk:=D.nx } σ2 H2)
def vj(fp:List Addr) (h:Heap):List (Addr×Obj):=fp.filterMap fun b=>(h.get? b).map fun o=>(b,o)
theorem yO{fp:List Addr}{h:Heap}{b:Addr}{o:Obj}(hb:b∈fp) (e:h.get? b=some o):(b,o)∈vj fp h:=List.mem_filterMap.mpr ⟨b,hb,by rw[e];rfl⟩
theorem zeA{fp:List Addr}{h:Heap}{p:Addr×Obj}(hp:p∈vj fp h):p.1∈fp/\h.get? p.1=some p.2:=by
 obtain⟨b,hb,e⟩:=List.mem_filterMap.mp hp;cases q:h.get? b with
 | none=>rw[q] at e;cases e
 | some o=>
  rw[q] at e;have e':(b,o)=p:=Option.some.inj e;subst e';exact⟨hb,q⟩
theorem Inv.pinned{pins:List (Addr×Obj)}{σ : St}{H:Hp}{s:Shared}{fp:List Addr}(I:Inv X pins σ H s) (hf:∀b∈fp,x8 X pins H b) (ho:∀b∈fp,∃o,s.heap.get? b=some o/\∀v,o.data≠.cell v):Inv X (pins++vj fp s.heap) σ H s:=
 I.pins_of fun p hp=>(List.mem_append.mp hp).elim (fun z=>I.pin p (mem_append_right _ z)) fun z=>by
  obtain⟨hb,e⟩:=zeA z;obtain⟨f0,f1,f2,_⟩:=hf p.1 hb;obtain⟨o,e',d⟩:=ho p.1 hb;rw[e] at e';cases e';exact⟨e,f0,f1,f2,d⟩
theorem Inv.unpinned{pins pl:List (Addr×Obj)}{σ : St}{H:Hp}{s:Shared}(I:Inv X (pins++pl) σ H s):Inv X pins σ H s:=I.pins_of fun p hp=>I.pin p (mem_append_right _ (mem_append_left _ hp))
theorem yW{iter:Expr}{body:List Stmt}{wi:TI}{g:TG}{tb:TS}{pos:Pos}(hp:PassesOwn (model X.prog X.w) X.A X.env X.xe) (hc:X.calm=true) (hi:PI X tg iter wi) (hg:PG X tg g) (hb:PSs X body tb)
  (hs:∀x,foldedSetIterable iter X.env x=pure x:=by intro _;rfl):PS X (.For tg iter body [] pos) (zlu wi g tb):=by
 refine⟨?_⟩;intro pins s σ H D I h;refine wpAny_For (thn (hi pins s σ H _ I h) fun v s1 h1=>thn h1 fun itv s2 h2=>?_) hs;obtain⟨it,fp,tn,J,H2,e,I2,T,st2,f2,W,⟨m0,w0⟩,turn⟩:=h2;subst e;have stat:∀{H':Hp},(∀b∈fp,H' b=none)->∀b∈fp,x8 X pins H' b:=fun hn b hb=>⟨hn b hb,(f2 b hb).2⟩;refine codeAny_forLoop_any (fun n s'=>∃i σ' H',Inv X pins σ' H' s'/\tn i s'.heap/\(∀b∈fp,H' b=none)/\W i n σ' H') ?_ m0 ⟨0,σ,H2,I2,st2,fun b hb=>(f2 b hb).1,w0⟩;rintro n s3 ⟨i,σ3,H3,I3,st3,fr3,w3⟩;rcases turn i n σ3 H3 w3 with ⟨stop,qn⟩|⟨go,N,hN,step⟩
 ·refine wpAny_passesOwn hp (thn (T.done X rfl rfl rfl hc i pins s3 σ3 H3 X.xe I3 (stat fr3) st3 stop) fun r s4 ⟨hr,I4⟩=>?_)
  subst hr;exact wpAny_execs_nil ⟨σ3,H3,I4,qn⟩
 ·refine wpAny_passesOwn hp (thn (T.item X rfl rfl rfl hc i pins s3 σ3 H3 X.xe I3 (stat fr3) st3 go) fun r s4 ⟨u,hr,h4⟩=>?_)
  subst hr;refine wpAny_passesOwn hp (thn h4 fun _ s5 ⟨x,H5,I5,r5,y5,st5,fr5⟩=>?_);have I5':=I5.pinned (stat fr5) (T.obj _ _ st5);refine wpAny_passesOwn hp (thn (hg _ s5 σ3 H5 x u _ I5' r5 (step x H5 y5)) fun _ s6 ⟨σ6,H6,I6,q6⟩=>?_);refine wpAny_passesOwn hp (thn (hb _ s6 σ6 H6 _ I6 q6) fun f s7 q7=>?_);have again:∀{σ7:St}{H7:Hp},Inv X (pins++vj fp s5.heap) σ7 H7 s7->N σ7 H7->∃m,m<n/\∃i σ' H',Inv X pins σ' H' s7/\tn i s7.heap/\(∀b∈fp,H' b=none)/\W i m σ' H':=fun {σ7 H7} I7 n7=>by
   obtain⟨m',hm,w7⟩:=hN σ7 H7 n7;refine⟨m',hm,i+1,σ7,H7,I7.unpinned,T.keep _ _ _ st5 fun b hb o e=>(I7.pin (b,o) (mem_append_right _ (mem_append_right _ (yO hb e)))).1,fun b hb=>?_,w7⟩;obtain⟨o,e,d⟩:=T.obj _ _ st5 b hb;exact(I7.pin (b,o) (mem_append_right _ (mem_append_right _ (yO hb e)))).2.1
  cases f with
  | next=>obtain⟨σ7,H7,I7,n7⟩:=q7;exact again I7 n7
  | cont=>obtain⟨σ7,H7,I7,n7⟩:=q7;exact again I7 n7
  | brk=>obtain⟨σ7,H7,I7,q7⟩:=q7;exact⟨σ7,H7,I7.unpinned,q7⟩
  | ret v=>obtain⟨x7,σ7,H7,I7,r7,q7⟩:=q7;exact⟨x7,σ7,H7,I7.unpinned,r7,q7⟩
end
theorem xn{K:Frag}{a:Addr}{xs:List V}{g:TG}{tb:TS}{D:jp}{σ : St}{H:Hp}(Pv:Nat->St->Hp->Prop) (h0:Pv 0 σ H) (hl:∀i σ H,i<=xs.length->Pv i σ H->SqL K H a xs)
  (hs:∀i x σ H,xs[i]?=some x->Pv i σ H->g x σ H fun σ2 H2=>tb { D with nx:=Pv (i+1),ct:=Pv (i+1),bk:=D.nx } σ2 H2) (hd:∀σ H,Pv xs.length σ H->D.nx σ H) :
  ∃W:Nat->Nat->St->Hp->Prop,(∃m,W 0 m σ H)/\∀i m σ H,W i m σ H->
   ((Itl K a).stop i H/\D.nx σ H)\/((Itl K a).go i H/\∃N:St->Hp->Prop,(∀σ' H',N σ' H'->∃m',m'<m/\W (i+1) m' σ' H')/\∀x H',(Itl K a).yld i H x H'->g x σ H' fun σ2 H2=>tb { D with nx:=N,ct:=N,bk:=D.nx } σ2 H2):=by
 refine⟨fun i m σ H=>m=xs.length - i/\i<=xs.length/\Pv i σ H,⟨xs.length,by simp,zero_le _,h0⟩,?_⟩
 rintro i m σ H ⟨rfl,hi,p⟩;have q:=hl i σ H hi p;by_cases hlt:i<xs.length
 ·refine .inr ⟨⟨xs,xs[i],q,by simp [hlt]⟩,Pv (i+1),fun σ' H' p'=>⟨xs.length - (i+1),by omega,rfl,hlt,p'⟩,fun x H' y=>?_⟩
  obtain⟨e,y⟩:=y;subst e;exact hs i x σ _ (y xs q) p
 ·have e:i=xs.length:=by omega
  subst e;exact .inl ⟨⟨xs,q,Nat.le_refl _⟩,hd σ H p⟩
theorem u7{lo:Int}{n:Nat}{g:TG}{tb:TS}{D:jp}{σ : St}{H:Hp}(Pv:Nat->St->Hp->Prop) (h0:Pv 0 σ H)
  (hs:∀i σ H,i<n->Pv i σ H->g (.int (lo+i)) σ H fun σ2 H2=>tb { D with nx:=Pv (i+1),ct:=Pv (i+1),bk:=D.nx } σ2 H2) (hd:∀σ H,Pv n σ H->D.nx σ H) :
  ∃W:Nat->Nat->St->Hp->Prop,(∃m,W 0 m σ H)/\∀i m σ H,W i m σ H->
   ((Itr lo n).stop i H/\D.nx σ H)\/((Itr lo n).go i H/\∃N:St->Hp->Prop,(∀σ' H',N σ' H'->∃m',m'<m/\W (i+1) m' σ' H')/\∀x H',(Itr lo n).yld i H x H'->g x σ H' fun σ2 H2=>tb { D with nx:=N,ct:=N,bk:=D.nx } σ2 H2):=by
 refine⟨fun i m σ H=>m=n - i/\i<=n/\Pv i σ H,⟨n,by simp,zero_le _,h0⟩,?_⟩
 rintro i m σ H ⟨rfl,hi,p⟩;by_cases hlt:i<n
 ·refine .inr ⟨hlt,Pv (i+1),fun σ' H' p'=>⟨n - (i+1),by omega,rfl,hlt,p'⟩,fun x H' y=>?_⟩
  obtain⟨e,y⟩:=y;subst e y;exact hs i σ _ hlt p
 ·have e:i=n:=by omega
  subst e;exact .inl ⟨Nat.le_refl _,hd σ H p⟩
abbrev R2:=V->V->Hp->VK->Prop
def OpR(X:Cx) (f:Value->Value->Sem Value) (r:R2):Prop:=
 ∀(pins:List (Addr×Obj)) (s:Shared) (σ : St) (H:Hp) (x y:V) (v u:Value) (Q:VK),Inv X pins σ H s->zV x v->zV y u->r x y H Q->
  wpAny (model X.prog X.w) X.A (f v u) (EP X pins σ Q) X.xe s
def xh(X:Cx) (f:Value) (r:List V->Hp->VK->Prop):Prop:=
 ∀(pins:List (Addr×Obj)) (s:Shared) (σ : St) (H:Hp) (xs:List V) (us:List Value) (Q:VK),Inv X pins σ H s->zQ xs us->r xs H Q->
  wpAny (model X.prog X.w) X.A (call f us) (EP X pins σ Q) X.xe s
def zma(X:Cx) (r:V->Hp->(Bool->Hp->Prop)->Prop):Prop:=
 ∀(pins:List (Addr×Obj)) (s:Shared) (σ : St) (H:Hp) (x:V) (v:Value) (Q:Bool->Hp->Prop),Inv X pins σ H s->zV x v->r x H Q->
  wpAny (model X.prog X.w) X.A (truthy v) (TP X pins σ Q) X.xe s
def tOp(r:R2) (ta tb:TE):TE:=fun σ H Q=>ta σ H fun x H1=>tb σ H1 fun y H2=>r x y H2 Q
inductive IrI(C:Int->Int->Prop) (g:Int->Int->V) (x y:V) (H:Hp) (Q:VK):Prop where
 | mk (i j:Int) (e1:x=.int i) (e2:y=.int j) (c:C i j) (q:Q (g i j) H)
def rI(C:Int->Int->Prop) (g:Int->Int->V):R2:=fun x y H Q=>IrI C g x y H Q
inductive zme(g:Int->Int->V) (x y:V) (H:Hp) (Q:VK):Prop where
 | mk (i j:Int) (e1:x=.int i) (e2:y=.int j) (q:Q (g i j) H)
def rI0(g:Int->Int->V):R2:=fun x y H Q=>zme g x y H Q
section
variable {X:Cx}{a b c:Expr}{ta tb tc:TE}{pos:Pos}
theorem zkc(ha:PE X a ta) (hb:PE X b tb) {pins:List (Addr×Obj)}{s:Shared}{σ : St}{H:Hp}{R:V->V->Hp->Prop}(I:Inv X pins σ H s)
  (h:ta σ H fun x H1=>tb σ H1 fun y H2=>R x y H2) {Q:Value->Shared->Prop}{f:Value->Value->Sem Value}
  (hf:∀v u s2 x y H2,Inv X pins σ H2 s2->zV x v->zV y u->R x y H2->wpAny (model X.prog X.w) X.A (f v u) Q X.xe s2) :
  wpAny (model X.prog X.w) X.A (eval a X.env) (fun v s₁=>wpAny (model X.prog X.w) X.A (eval b X.env) (fun u s₂=>wpAny (model X.prog X.w) X.A (f v u) Q X.xe s₂) X.xe s₁) X.xe s:=by
 refine thn (ha pins s σ H _ I h) fun v s1 ⟨x,H1,I1,r1,q1⟩=>?_;refine thn (hb pins s1 σ H1 _ I1 q1) fun u s2 ⟨y,H2,I2,r2,q2⟩=>?_;exact hf v u s2 x y H2 I2 r1 r2 q2
theorem zz{op:Operator}{r:R2}(ho:OpR X (binaryOp op) r) (ha:PE X a ta) (hb:PE X b tb):PE X (.BinOp a op b pos) (tOp r ta tb):=by
 refine⟨?_⟩;intro pins s σ H Q I h;exact wpAny_BinOp (zkc ha hb I h fun v u s2 x y H2 I2 rx ry q=>ho pins s2 σ H2 x y v u Q I2 rx ry q)
theorem opI{f:Value->Value->Sem Value}{C:Int->Int->Prop}{g:Int->Int->Int}
  (rule:∀(i j:Int) (t u:Tok) (s:Shared) (Q:Value->Shared->Prop) (E:Value->Shared->Prop),C i j->Q (.int (g i j) s.toks) { s with toks:=s.toks+1 }->wpAny (model X.prog X.w) X.A (f (.int i t) (.int j u)) Q E s) :
  OpR X f (rI C fun i j=>.int (g i j)):=by
 intro pins s σ H x y v u Q I rx ry h;obtain⟨i,j,rfl,rfl,hc,q⟩:=h;obtain⟨t,rfl⟩:=rx;obtain⟨t',rfl⟩:=ry;exact rule i j t t' s _ _ hc ⟨.int (g i j),H,I.tok _,⟨_,rfl⟩,q⟩
theorem zlJ{f:Value->Value->Sem Value}{g:Int->Int->Int}
  (rule:∀(i j:Int) (t u:Tok) (s:Shared) (Q:Value->Shared->Prop) (E:Value->Shared->Prop),Q (.int (g i j) s.toks) { s with toks:=s.toks+1 }->wpAny (model X.prog X.w) X.A (f (.int i t) (.int j u)) Q E s) :
  OpR X f (rI0 fun i j=>.int (g i j)):=by
 intro pins s σ H x y v u Q I rx ry h;obtain⟨i,j,rfl,rfl,q⟩:=h;obtain⟨t,rfl⟩:=rx;obtain⟨t',rfl⟩:=ry;exact rule i j t t' s _ _ ⟨.int (g i j),H,I.tok _,⟨_,rfl⟩,q⟩
theorem zjN{f:Value->Value->Sem Value}{g:Int->Int->Bool}
  (rule:∀(i j:Int) (t u:Tok) (s:Shared) (Q:Value->Shared->Prop) (E:Value->Shared->Prop),Q (.bool (g i j)) s->wpAny (model X.prog X.w) X.A (f (.int i t) (.int j u)) Q E s) :
  OpR X f (rI0 fun i j=>.bl (g i j)):=by
 intro pins s σ H x y v u Q I rx ry h;obtain⟨i,j,rfl,rfl,q⟩:=h;obtain⟨t,rfl⟩:=rx;obtain⟨t',rfl⟩:=ry;exact rule i j t t' s _ _ ⟨.bl (g i j),H,I,rfl,q⟩
def zlk(i j:Int):Prop:=0<j/\j<1073741824
def zkk(i j:Int):Prop:=(-(2 ^ 64)<i/\i<2 ^ 64)\/(-(2 ^ 64)<j/\j<2 ^ 64)
theorem zkk.ok{i j:Int}(h:zkk i j):IntMulOk i j:=by
 rcases h with ⟨h1,h2⟩|⟨h1,h2⟩
 ·exact .of_left (intBits_le_64 h1 h2)
 ·exact .of_right (intBits_le_64 h1 h2)
theorem xR:OpR X (binaryOp .Add) (rI0 fun i j=>.int (i+j)):=zlJ fun _ _ _ _ _ _ _ q=>add_int q
theorem zcJ:OpR X (binaryOp .Mult) (rI zkk fun i j=>.int (i * j)):=opI fun _ _ _ _ _ _ _ hc q=>mul_int q hc.ok
theorem yC:OpR X (binaryOp .FloorDiv) (rI zlk fun i j=>.int (i / j)):=opI fun i j _ _ _ _ _ hc q=>by
 have h1:(0:Int)<j:=hc.1;have h2:j<1073741824:=hc.2;exact floordiv_int (by omega) (by rw[Int.fdiv_eq_ediv_of_nonneg i (by omega)];exact q) (.inl (PyProof.noPylong_small (by omega)))
theorem yt:OpR X (binaryOp .Mod) (rI (fun _ j=>0<j) fun i j=>.int (i % j)):=opI fun i j _ _ _ _ _ hc q=>by
 have h1:(0:Int)<j:=hc;exact mod_int' (by omega) (by rw[Int.fmod_eq_emod_of_nonneg i (by omega)];exact q)
end
def zkC:V->V->Bool
 | .non,.non=>true|.non,.int _=>true|.int _,.non=>true|.non,.bl _=>true|.bl _,.non=>true|.non,.str _=>true|.str _,.non=>true
 | .int _,.int _=>true|.bl _,.bl _=>true|.str _,.str _=>true|.byt _,.byt _=>true
 | .int _,.str _=>true|.str _,.int _=>true|.bl _,.str _=>true|.str _,.bl _=>true
 | _,_=>false
def rEq:R2:=fun x y H Q=>zkC x y=true/\Q (.bl (decide (x=y))) H
def rNe:R2:=fun x y H Q=>zkC x y=true/\Q (.bl (!decide (x=y))) H
theorem zd1{i j:Int}:decide (V.int i=V.int j)=(i==j):=by
 rw[Bool.eq_iff_iff];simp
theorem zgW{i j:Bool}:decide (V.bl i=V.bl j)=(i==j):=by
 rw[Bool.eq_iff_iff];simp
theorem zd0{i j:Str}:decide (V.str i=V.str j)=(i==j):=by
 rw[Bool.eq_iff_iff];simp
theorem zd2{i j:Array UInt8}:decide (V.byt i=V.byt j)=(i.toList==j.toList):=by
 rw[Bool.eq_iff_iff];cases i;cases j;simp
section
variable {X:Cx}{a b c:Expr}{ta tb tc:TE}{pos:Pos}
theorem ye{pins:List (Addr×Obj)}{σ : St}{H:Hp}{s:Shared}{Q:VK}{k k':Bool}(I:Inv X pins σ H s) (q:Q (.bl k) H) (e:k=k'):EP X pins σ Q (.bool k') s:=by
 subst e;exact⟨.bl k,H,I,rfl,q⟩
theorem yx:OpR X (compareOp .Eq) rEq:=by
 intro pins s σ H x y v u Q I rx ry h;obtain⟨hs,q⟩:=h;cases x with
 | non=>
  cases rx;cases y with
  | non=>cases ry;exact PySem.EqNone.eq_none_none (ye I q (by simp))
  | bl j=>cases ry;exact PySem.EqNone.eq_none_bool (ye I q (by simp))
  | int j=>obtain⟨t',rfl⟩:=ry;exact PySem.EqNone.eq_none_int (ye I q (by simp))
  | str j=>obtain⟨t',rfl⟩:=ry;exact PySem.EqNone.eq_none_str (ye I q (by simp))
  | _=>exact absurd (show false=true from hs) Bool.false_ne_true
 | bl i=>
  cases rx;cases y with
  | non=>cases ry;exact PySem.EqNone.eq_bool_none (ye I q (by simp))
  | bl j=>cases ry;exact eq_bool (ye I q zgW)
  | str j=>obtain⟨t',rfl⟩:=ry;exact PySem.EqMixed.eq_bool_str (ye I q (by simp))
  | _=>exact absurd (show false=true from hs) Bool.false_ne_true
 | int i=>
  obtain⟨t,rfl⟩:=rx;cases y with
  | non=>cases ry;exact PySem.EqNone.eq_int_none (ye I q (by simp))
  | int j=>obtain⟨t',rfl⟩:=ry;exact eq_int (ye I q zd1)
  | str j=>obtain⟨t',rfl⟩:=ry;exact PySem.EqMixed.eq_int_str (ye I q (by simp))
  | _=>exact absurd (show false=true from hs) Bool.false_ne_true
 | str i=>
  obtain⟨t,rfl⟩:=rx;cases y with
  | non=>cases ry;exact PySem.EqNone.eq_str_none (ye I q (by simp))
  | bl j=>cases ry;exact PySem.EqMixed.eq_str_bool (ye I q (by simp))
  | int j=>obtain⟨t',rfl⟩:=ry;exact PySem.EqMixed.eq_str_int (ye I q (by simp))
  | str j=>obtain⟨t',rfl⟩:=ry;exact eq_str (ye I q zd0)
  | _=>exact absurd (show false=true from hs) Bool.false_ne_true
 | byt i=>
  obtain⟨t,rfl⟩:=rx;cases y with
  | byt j=>obtain⟨t',rfl⟩:=ry;exact PySem.W.eq_bytes (ye I q zd2)
  | _=>exact absurd (show false=true from hs) Bool.false_ne_true
 | _=>cases y <;> exact absurd (show false=true from hs) Bool.false_ne_true
theorem j5:OpR X (compareOp .NotEq) rNe:=by
 intro pins s σ H x y v u Q I rx ry h;obtain⟨hs,q⟩:=h;cases x with
 | non=>
  cases rx;cases y with
  | non=>cases ry;exact PySem.EqNone.ne_none_none (ye I q (by simp))
  | bl j=>cases ry;exact PySem.EqNone.ne_none_bool (ye I q (by simp))
  | int j=>obtain⟨t',rfl⟩:=ry;exact PySem.EqNone.ne_none_int (ye I q (by simp))
  | str j=>obtain⟨t',rfl⟩:=ry;exact PySem.EqNone.ne_none_str (ye I q (by simp))
  | _=>exact absurd (show false=true from hs) Bool.false_ne_true
 | bl i=>
  cases rx;cases y with
  | non=>cases ry;exact PySem.EqNone.ne_bool_none (ye I q (by simp))
  | bl j=>cases ry;exact ne_bool (ye I q (congrArg not zgW))
  | str j=>obtain⟨t',rfl⟩:=ry;exact PySem.EqMixed.ne_bool_str (ye I q (by simp))
  | _=>exact absurd (show false=true from hs) Bool.false_ne_true
 | int i=>
  obtain⟨t,rfl⟩:=rx;cases y with
  | non=>cases ry;exact PySem.EqNone.ne_int_none (ye I q (by simp))
  | int j=>obtain⟨t',rfl⟩:=ry;exact ne_int (ye I q (congrArg not zd1))
  | str j=>obtain⟨t',rfl⟩:=ry;exact PySem.EqMixed.ne_int_str (ye I q (by simp))
  | _=>exact absurd (show false=true from hs) Bool.false_ne_true
 | str i=>
  obtain⟨t,rfl⟩:=rx;cases y with
  | non=>cases ry;exact PySem.EqNone.ne_str_none (ye I q (by simp))
  | bl j=>cases ry;exact PySem.EqMixed.ne_str_bool (ye I q (by simp))
  | int j=>obtain⟨t',rfl⟩:=ry;exact PySem.EqMixed.ne_str_int (ye I q (by simp))
  | str j=>obtain⟨t',rfl⟩:=ry;exact ne_str (ye I q (congrArg not zd0))
  | _=>exact absurd (show false=true from hs) Bool.false_ne_true
 | byt i=>
  obtain⟨t,rfl⟩:=rx;cases y with
  | byt j=>obtain⟨t',rfl⟩:=ry;exact PySem.W.ne_bytes (ye I q (congrArg not zd2))
  | _=>exact absurd (show false=true from hs) Bool.false_ne_true
 | _=>cases y <;> exact absurd (show false=true from hs) Bool.false_ne_true
theorem vU:OpR X (compareOp .Lt) (rI0 fun i j=>.bl (decide (i<j))):=zjN fun _ _ _ _ _ _ _ q=>lt_int q
theorem zf2:OpR X (compareOp .LtE) (rI0 fun i j=>.bl (decide (i<=j))):=zjN fun _ _ _ _ _ _ _ q=>le_int q
theorem zf3:OpR X (compareOp .Gt) (rI0 fun i j=>.bl (decide (j<i))):=zjN fun _ _ _ _ _ _ _ q=>gt_int q
theorem zet:OpR X (compareOp .In) (fun x y H Q=>∃i j,x=.str i/\y=.str j/\Q (.bl (!(Builtin.Str.occurrences j i 0 j.length 1).isEmpty)) H):=by
 intro pins s σ H x y v u Q I rx ry h;obtain⟨i,j,rfl,rfl,q⟩:=h;obtain⟨t,rfl⟩:=rx;obtain⟨t',rfl⟩:=ry;exact in_str (ye I q rfl)
theorem OpR.or{f:Value->Value->Sem Value}{r r':R2}(h:OpR X f r) (h':OpR X f r'):OpR X f (fun x y H Q=>r x y H Q\/r' x y H Q):=by
 intro pins s σ H x y v u Q I rx ry q;rcases q with q|q
 ·exact h pins s σ H x y v u Q I rx ry q
 ·exact h' pins s σ H x y v u Q I rx ry q
theorem zI(b:Expr) {op:CmpOp}(h:op≠.In:=by decide) (h2:op≠.NotIn:=by decide):behindInMarks op b=false:=by
 have e1:(op==CmpOp.In)=false:=by cases op <;> first|rfl|exact absurd rfl h
 have e2:(op==CmpOp.NotIn)=false:=by cases op <;> first|rfl|exact absurd rfl h2
 cases b <;> simp [behindInMarks,e1,e2]
theorem xZ{op:CmpOp}{r:R2}(ho:OpR X (compareOp op) r) (ha:PE X a ta) (hb:PE X b tb) (hm:behindInMarks op b=false):PE X (.Compare a [op] [b] pos) (tOp r ta tb):=by
 refine⟨?_⟩;intro pins s σ H Q I h;exact wpAny_Compare1 (zkc ha hb I h fun v u s2 x y H2 I2 rx ry q=>ho pins s2 σ H2 x y v u Q I2 rx ry q) hm
inductive zli(x:V) (H:Hp) (Q:Bool->Hp->Prop):Prop where
 | mk (k:Bool) (e:x=.bl k) (q:Q k H)
def zbk(t:TE):TT:=fun σ H Q=>t σ H fun x H'=>zli x H' Q
theorem zo{op:CmpOp}{r:R2}(ho:OpR X (compareOp op) r) (ha:PE X a ta) (hb:PE X b tb) (hm:behindInMarks op b=false):PT X (.Compare a [op] [b] pos) (zbk (tOp r ta tb)):=by
 refine⟨?_⟩;intro pins s σ H Q I h;refine wpAny_isTrue_Compare1 (thn (ha pins s σ H _ I h) fun v s1 ⟨x,H1,I1,r1,q1⟩=>thn (hb pins s1 σ H1 _ I1 q1) fun u s2 ⟨y,H2,I2,r2,q2⟩=>
  thn (ho pins s2 σ H2 x y v u _ I2 r1 r2 q2) fun c s3 ⟨z,H3,I3,r3,k,e,q3⟩=>?_) hm
 subst e;cases r3;exact wpAny_truthy_bool ⟨H3,I3,q3⟩
def zi8(r r':R2) (ta tb tc:TE):TE:=fun σ H Q=>ta σ H fun x H1=>tb σ H1 fun y H2=>r x y H2 fun z H3=>∃k,z=.bl k/\
 (if k=true then tc σ H3 fun w' H4=>r' y w' H4 Q else Q (.bl false) H3)
theorem zfQ{op op':CmpOp}{r r':R2}(ho:OpR X (compareOp op) r) (ho':OpR X (compareOp op') r') (ha:PE X a ta) (hb:PE X b tb) (hc:PE X c tc)
  (hm:lastMarks [op,op'] [b,c]=false:=by with_unfolding_all rfl):PT X (.Compare a [op,op'] [b,c] pos) (zbk (zi8 r r' ta tb tc)):=by
 refine⟨?_⟩;intro pins s σ H Q I h;refine isTrue_chain (thn (ha pins s σ H _ I h) fun v s1 ⟨x,H1,I1,r1,q1⟩=>test_link (thn (hb pins s1 σ H1 _ I1 q1) fun u s2 ⟨y,H2,I2,r2,q2⟩=>
  thn (ho pins s2 σ H2 x y v u _ I2 r1 r2 q2) fun d s3 ⟨z,H3,I3,r3,k,e,q3⟩=>?_)) hm
 subst e;cases r3;refine wpAny_truthy_bool ?_;cases k with
 | false=>
  obtain⟨k',e',q'⟩:=q3;cases e';exact ite_ff ⟨H3,I3,q'⟩
 | true=>
  refine ite_tt (test_last (thn (hc pins s3 σ H3 _ I3 q3) fun w' s4 ⟨z',H4,I4,r4,q4⟩=>thn (ho' pins s4 σ H4 y z' u w' _ I4 r2 r4 q4) fun d' s5 ⟨z2,H5,I5,r5,k2,e2,q5⟩=>?_));subst e2;cases r5;exact wpAny_truthy_bool ⟨H5,I5,q5⟩
def zlf(K:Frag) (x:V) (H:Hp) (k:Bool):Prop:=
 match x with
 | .non=>k=false
 | .bl b=>k=b
 | .int i=>k=(i != 0)
 | .str y=>y.length<=sizeLine/\k=((y.length:Int) != 0)
 | .byt y=>y.size<=sizeLine/\k=((y.size:Int) != 0)
 | .ref p=>(∃xs,SqL K H p xs/\k=!xs.isEmpty)\/(∃xs,SqT K H p xs/\k=!xs.isEmpty)\/∃kvs,H p=some (.dK kvs)/\k=!kvs.isEmpty
 | _=>False
theorem zc3{κ : Type}{kvs:List (κ×V)}{vs:List (κ×Value)}(r:KV kvs vs):(!vs.isEmpty)=!kvs.isEmpty:=by
 cases r <;> rfl
theorem qg{xs:List V}{its:List Value}(r:zQ xs its):(!its.toArray.isEmpty)=!xs.isEmpty:=by
 cases r <;> simp
theorem ub:(sizeLine:Nat)<2 ^ 63:=by rw[sizeLine_eq];decide
theorem zi1:zma X (fun x H Q=>∃k,zlf X.K x H k/\Q k H):=by
 intro pins s σ H x v Q I rx h;obtain⟨k,e,q⟩:=h;have hl:=ub;have hs:sizeLine=16777216:=sizeLine_eq;cases x with
 | non=>
  cases rx;have e':k=false:=e;subst e';exact truthy_none ⟨H,I,q⟩
 | bl b=>
  cases rx;have e':k=b:=e;subst e';exact wpAny_truthy_bool ⟨H,I,q⟩
 | int i=>
  obtain⟨t,rfl⟩:=rx;have e':k=(i != 0):=e;subst e';exact PySem.P.truthy_int ⟨H,I,q⟩
 | str y=>
  obtain⟨t,rfl⟩:=rx;obtain⟨hy,e'⟩:y.length<=sizeLine/\k=((y.length:Int) != 0):=e;subst e';exact PySem.P.truthy_str (by omega) ⟨H,I.tok _,q⟩
 | byt y=>
  obtain⟨t,rfl⟩:=rx;obtain⟨hy,e'⟩:y.size<=sizeLine/\k=((y.size:Int) != 0):=e;subst e';exact PySem.W.truthy_bytes (by omega) ⟨H,I.tok _,q⟩
 | ref p=>
  cases rx;have e':(∃xs,SqL X.K H p xs/\k=!xs.isEmpty)\/(∃xs,SqT X.K H p xs/\k=!xs.isEmpty)\/∃kvs,H p=some (.dK kvs)/\k=!kvs.isEmpty:=e;rcases e' with ⟨xs,hx,e'⟩|⟨xs,hx,e'⟩|⟨kvs,hx,e'⟩
  ·subst e'
   obtain⟨its,r,pl,hz⟩:=I.list hx;have hlen:=r.length;exact wpAny_truthy_list pl.isList (by simp only[size_toArray];omega) ⟨H,I.tok _,by rw[qg r];exact q⟩
  ·subst e'
   obtain⟨its,r,pl,hz⟩:=I.tuple hx;have hlen:=r.length;exact truthy_tuple pl (by simp only[size_toArray];omega) ⟨H,I.tok _,by rw[qg r];exact q⟩
  ·subst e'
   obtain⟨hz,hS,vs,r,m⟩:kvs.length<=sizeLine/\(p==sysModules)=false/\∃vs,KV kvs vs/\s.heap.DictOf (yo X.prog X.w) p vs:=I.hok p _ hx;have hlen:kvs.length=vs.length:=Paired.length r;exact wpAny_truthy_dict hS m (by omega) ⟨H,I.tok _,by rw[zc3 r];exact q⟩
 | _=>exact(show False from e).elim
theorem zfP(ha:PE X a ta) (he:∀whole,isTrue a X.env whole=(do let v <- whole;standAt a.pos;holding [v] (truthy v))) :
  PT X a (fun σ H Q=>ta σ H fun x H'=>∃k,zlf X.K x H' k/\Q k H'):=by
 refine⟨?_⟩;intro pins s σ H Q I h;exact isTrue_plain (thn (ha pins s σ H _ I h) fun v s1 ⟨x,H1,I1,r1,q1⟩=>zi1 pins s1 σ H1 x v Q I1 r1 q1) (he _)
theorem xr:OpR X (binaryOp .Add) (fun x y H Q=>∃i j,x=.str i/\y=.str j/\i.length+j.length<=sizeLine/\Q (.str (i++j)) H):=by
 intro pins s σ H x y v u Q I rx ry h;obtain⟨i,j,rfl,rfl,hz,q⟩:=h;obtain⟨t,rfl⟩:=rx;obtain⟨t',rfl⟩:=ry;exact add_str (fun t' tk=>⟨.str (i++j),H,I.tok _,⟨_,rfl⟩,q⟩) hz
theorem wA{x:V}{us:List Value}(r:zQ [x] us):∃u,us=[u]/\zV x u:=by
 cases r with
 | cons r1 r2=>cases r2;exact⟨_,rfl,r1⟩
theorem ze0{x y:V}{us:List Value}(r:zQ [x,y] us):∃u w',us=[u,w']/\zV x u/\zV y w':=by
 cases r with
 | cons r1 r2=>
  cases r2 with
  | cons r3 r4=>cases r4;exact⟨_,_,rfl,r1,r3⟩
theorem ja(hc:X.calm=true):xh X (.builtin "max") (fun xs H Q=>∃i j,xs=[.int i,.int j]/\Q (.int (if j>i then j else i)) H):=by
 intro pins s σ H xs us Q I r h;obtain⟨i,j,rfl,q⟩:=h;obtain⟨u,w',rfl,⟨t,rfl⟩,⟨t',rfl⟩⟩:=ze0 r;refine max_two_ints (I.ok.hd hc) fun h' tk k=>⟨_,H,I.kept k,?_,q⟩;by_cases hj:j>i
 ·rw[if_pos hj,if_pos hj];exact⟨_,rfl⟩
 ·rw[if_neg hj,if_neg hj];exact⟨_,rfl⟩
theorem jj:xh X (.builtin "divmod") (fun xs H Q=>∃i j,xs=[.int i,.int j]/\zlk i j/\∀p,H p=none->Q (.ref p) (upd H p (.tup [.int (i / j),.int (i % j)]))):=by
 intro pins s σ H xs us Q I r h;obtain⟨i,j,rfl,⟨h1,h2⟩,q⟩:=h;obtain⟨u,w',rfl,⟨t,rfl⟩,⟨t',rfl⟩⟩:=ze0 r;refine divmod_int (by omega) ?_ (.inl (PyProof.noPylong_small (by omega)))
 rw[Int.fdiv_eq_ediv_of_nonneg i (by omega),Int.fmod_eq_emod_of_nonneg i (by omega)]
 have hn:H s.heap.objs.size=none:=I.hok.fresh (Nat.le_refl _);refine⟨.ref s.heap.objs.size,_,?_,rfl,q _ hn⟩;refine I.laid (fun b o e=>Heap.get?_push_of_some _ e) (Nat.le_refl _) ⟨by simp only[length_cons,length_nil];rw[sizeLine_eq];decide,[.int (i / j) s.toks,.int (i % j) (s.toks+1)],.cons ⟨_,rfl⟩ (.cons ⟨_,rfl⟩ .nil),?_⟩
 exact⟨_,Heap.get?_push_size s.heap rfl,rfl,0,rfl⟩
end
structure zdi(h:Heap) (x dx C:Addr) (mA:Str->Option Value):Prop where
 obj:h.get? x=some (instObj C dx)
 ns:h.Ns1 dx mA
 ne:dx≠x
theorem zeG{h:Heap}{dx:Addr}{mA:Str->Option Value}(n:h.Ns1 dx mA):∃od,h.get? dx=some od/\∀name,lookIn name od=some (mA name):=by
 obtain⟨o,es,ep,ho,hd,hk,_,hm⟩:=n;refine⟨o,ho,fun name=>?_⟩;have e:=hm name;unfold nsFind findBy at e;rw[<- Array.find?_toList] at e;unfold lookIn;rw[hd];dsimp only;split
 ·rename_i y q
  rw[q] at e;exact congrArg some e
 ·rename_i q
  rw[q] at e;have a:es.toList.any (·.refKey)=false:=by
   rw[List.any_eq_false];intro y hy;obtain⟨z,t,hkey⟩:=hk y (Array.mem_toList_iff.mp hy);simp [DictEntry.refKey,hkey]
  have a':¬es.toList.any (·.refKey)=true:=by rw[a];exact Bool.false_ne_true
  rw[if_neg a'];exact congrArg some e
theorem zdi.look{h:Heap}{x dx C:Addr}{mA:Str->Option Value}(I:zdi h x dx C mA):∃od,PySem.W.InstAt h x (instObj C dx) C (some od)/\∀name,lookIn name od=some (mA name):=
 let ⟨od,ho,hl⟩:=zeG I.ns
 ⟨od,⟨I.obj,rfl,rfl,ho⟩,hl⟩
section
variable {prog:Program}{w:World}{A:Around}{E:Value->Shared->Prop}{s:Shared}{K:Frag}{x dx C f:Addr}{mA:Str->Option Value}{name:Str}{v:Value}
theorem zic{expr:Bool}{Q:Value->Shared->Prop}(X:K.In s.heap) (I:zdi s.heap x dx C mA) (hg:plainGet K C name=true) (hh:hasDictIn K C=true)
  (ha:findIn K (.ref C) name=some none) (hv:mA name=some v) (hv':PySem.W.handedIn v=true) (h:Q v { s with toks:=s.toks+1 }) :
  wpAny (model prog w) A (getAttr (.ref x) name expr) Q E s:=by
 obtain⟨od,J,hl⟩:=I.look;exact PySem.W.get_value X J (plainGet_of hg).1 (PySem.W.findObj_own hh ha rfl (by rw[hl,hv])) hv' h
theorem zgI{pl:Sem Bool}{Q:Value×List Value->Shared->Prop}(X:K.In s.heap) (I:zdi s.heap x dx C mA) (hg:plainGet K C name=true)
  (hf:findIn K (.ref C) name=some (some (.ref f))) (ht:isFn K (.ref f)=true) (hv:mA name=none) (h:Q (.ref f,[.ref x]) s) :
  wpAny (model prog w) A (getMethod (.ref x) name pl) Q E s:=by
 obtain⟨od,J,hl⟩:=I.look;exact PySem.W.method_fn X J (plainGet_of hg).1 (plainGet_of hg).2 hf (beq_iff_eq.mp ht) (by show(lookIn name od).map (·.isSome)=some false;rw[hl,hv];rfl) h
theorem zhg{ns:List Str}{Q:Unit->Shared->Prop}(X:K.In s.heap) (I:zdi s.heap x dx C mA)
  (hs:findIn K (.ref C) "__setattr__"=some (some (.builtin "object.__setattr__"))) (hp:plainOver K C=true) (ht:takerIn K C name=some none) (hh:hasDictIn K C=true)
  (hw:PySem.Within mA ns) (hsz:ns.length<=sizeLine)
  (h:∀h',zdi h' x dx C (fun y=>if y=name then some v else mA y)->Heap.SameBut dx s.heap h'->Q () { s with heap:=h',toks:=s.toks+2 }) :
  wpAny (model prog w) A (setAttr (.ref x) name v) Q E s:=by
 obtain⟨od,J,hl⟩:=I.look;refine PySem.W.set_plain X J hs (PySem.W.osa_open (s:={ s with toks:=s.toks+1 }) (r:=none) X J hp ht fun b=>?_)
 obtain⟨cd,hc,hd'⟩:=PySem.W.any_some hh;have hx:s.heap.get? x=some ⟨.ref C,some dx,.plain,#[]⟩:=I.obj;refine wpAny_bind (wpAny_pure (wpAny_bind (wpAny_bind (wpAny_loadPart hx (wpAny_bind (PySem.W.Looks.here (s:={ s with toks:=s.toks+1 }) (PySem.W.looks_clsIn X hc) ?_))))))
 rw[hd'];refine wpAny_pure (a:=some dx) (wpAny_bind (wpAny_pure (wpAny_bind ?_)));refine wpAny_nsSet1 (s:={ s with toks:=s.toks+1 }) I.ns fun h' hn2 hs2=>?_
 obtain⟨oD,esD,epD,hoD,hdD,hcD⟩:=hn2.count (PySem.Within.cons name v hw);refine wpAny_bind (wpAny_lookBehind hoD (by rw[hdD];exact pastItsLine_dict (Nat.le_trans hcD (by rw[length_cons];omega))) ?_)
 exact wpAny_pure (h _ ⟨(hs2.2 _ (Ne.symm I.ne)).trans I.obj,hn2,I.ne⟩ hs2)
theorem zgv{R:Result->Shared->Prop}{vs:List Value}{kw:List (Str×Value)}(X:K.In s.heap) (hm:makesIn K C=true)
  (hi:findIn K (.ref C) "__init__"=some (some (.ref f))) (hf:PySem.W.typeIn K (.ref f)=some (.type "function"))
  (h:codeAny (model prog w) (A.under (.builtin "type.__call__" ⟨.ref C::vs,kw⟩)) (.call (.ref f) ⟨.ref (s.heap.objs.size+1)::vs,kw⟩) (PySem.W.InitBack (s.heap.objs.size+1) R)
   { s with heap:=(s.heap.push emptyDict).push (instObj C s.heap.objs.size) }) :
  codeAny (model prog w) A (.call (.ref C) ⟨vs,kw⟩) R s:=by
 obtain⟨hh,g,d,t,os⟩:=s;exact PySem.W.make_core (PySem.W.makes_of X hm) (PySem.W.looks_findIn X hi) (fun self=>PySem.W.bind_fn X self hf) (.inl rfl) h
end
def z8(f:Str) (v:V):List (Str×V)->List (Str×V)
 | []=>[(f,v)]
 | (g,x)::r=>if g=f then (g,v)::r else (g,x)::z8 f v r
theorem zq(f g:Str) (v:V):∀fs:List (Str×V),(z8 f v fs).lookup g=if g=f then some v else fs.lookup g
 | []=>by
  show List.lookup g [(f,v)]=_;by_cases h:g=f
  ·have hb:(g==f)=true:=beq_iff_eq.mpr h
   simp only[List.lookup,hb,if_pos h]
  ·have hb:(g==f)=false:=beq_eq_false_iff_ne.mpr h
   simp only[List.lookup,hb,if_neg h]
 | (k,x)::r=>by
  have ih:=zq f g v r;rw[show z8 f v ((k,x)::r)=(if k=f then (k,v)::r else (k,x)::z8 f v r) from rfl]
  by_cases hk:k=f
  ·rw[if_pos hk]
   by_cases h:g=k
   ·have hb:(g==k)=true:=beq_iff_eq.mpr h
    simp only[List.lookup,hb,if_pos (h.trans hk)]
   ·have hb:(g==k)=false:=beq_eq_false_iff_ne.mpr h
    simp only[List.lookup,hb,if_neg (fun e:g=f=>h (e.trans hk.symm))]
  ·rw[if_neg hk]
   by_cases h:g=k
   ·have hb:(g==k)=true:=beq_iff_eq.mpr h
    simp only[List.lookup,hb,if_neg (fun e:g=f=>hk (h.symm.trans e))]
   ·have hb:(g==k)=false:=beq_eq_false_iff_ne.mpr h
    simp only[List.lookup,hb];exact ih
theorem uY(f:Str) (v:V):∀fs:List (Str×V),f∈(z8 f v fs).map (·.1)/\∀g,g∈fs.map (·.1)->g∈(z8 f v fs).map (·.1)
 | []=>⟨by simp [z8],fun g h=>by simp at h⟩
 | (k,x)::r=>by
  obtain⟨i1,i2⟩:=uY f v r;rw[show z8 f v ((k,x)::r)=(if k=f then (k,v)::r else (k,x)::z8 f v r) from rfl]
  by_cases hk:k=f
  ·rw[if_pos hk]
   subst hk;exact⟨by simp,fun g h=>by simpa using h⟩
  ·rw[if_neg hk]
   refine⟨?_,fun g h=>?_⟩
   ·rw[map_cons]
    exact mem_cons_of_mem _ i1
   ·rw[map_cons] at h |-
    rcases List.mem_cons.mp h with e|e
    ·exact List.mem_cons.mpr (.inl e)
    ·exact mem_cons_of_mem _ (i2 g e)
theorem je(f:Str) (v:V):∀fs:List (Str×V),(z8 f v fs).length<=fs.length+1
 | []=>by simp [z8]
 | (k,x)::r=>by
  have ih:=je f v r;rw[show z8 f v ((k,x)::r)=(if k=f then (k,v)::r else (k,x)::z8 f v r) from rfl]
  by_cases hk:k=f
  ·rw[if_pos hk,length_cons,length_cons];omega
  ·rw[if_neg hk,length_cons,length_cons];omega
theorem w9.some_of{v:V}{o:Option Value}(r:w9 (some v) o):∃u,o=some u/\zV v u:=by
 cases o with
 | none=>exact(show False from r).elim
 | some u=>exact⟨u,rfl,r⟩
theorem w9.none_of{o:Option Value}(r:w9 none o):o=none:=by
 cases o with
 | none=>rfl
 | some u=>exact(show False from r).elim
theorem zeO{v:V}{u:Value}(r:zV v u):PySem.W.handedIn u=true:=by
 cases v with
 | non=>cases (show u=Value.none from r);rfl
 | bl b=>cases (show u=Value.bool b from r);rfl
 | int i=>obtain⟨t,e⟩:=(show ∃t,u=Value.int i t from r);cases e;rfl
 | str x=>obtain⟨t,e⟩:=(show ∃t,u=Value.str x t from r);cases e;rfl
 | byt b=>obtain⟨t,e⟩:=(show ∃t,u=Value.bytes b t from r);cases e;rfl
 | flt b=>obtain⟨t,e⟩:=(show ∃t,u=Value.float b t from r);cases e;rfl
 | ref a=>cases (show u=Value.ref a from r);rfl
 | ty n=>cases (show u=Value.type n from r);rfl
section
variable {P:Program}{w:World}{H H':Hp}{h h':Heap}{a C dx:Addr}{fs fs':List (Str×V)}
theorem jv(hok:HOk P w H h) (e:H a=some (.ins C dx fs)):∃mA,zdi h a dx C mA/\(∀f,w9 (fs.lookup f) (mA f))/\PySem.Within mA (fs.map (·.1))/\fs.length<=1000/\H dx=some (.own a):=by
 obtain⟨d,z,ne,ob,mA,n,r,q⟩:=(show yH P w H h a (.ins C dx fs) from hok a _ e);exact⟨mA,⟨ob,n,ne⟩,r,q,z,d⟩
end
structure Cls(K:Frag) (C:Addr):Prop where
 pg:plainGet K C Str.empty=true
 hd:hasDictIn K C=true
 po:plainOver K C=true
 sa:findIn K (.ref C) "__setattr__"=some (some (.builtin "object.__setattr__"))
theorem Cls.get{K:Frag}{C:Addr}(c:Cls K C) (f:Str):plainGet K C f=true:=c.pg
def xt(K:Frag) (C:Addr) (f:Str):Prop:=findIn K (.ref C) f=some none
theorem xt.taker{K:Frag}{C:Addr}{f:Str}(n:xt K C f):takerIn K C f=some none:=by
 unfold takerIn;rw[show findIn K (.ref C) f=some none from n];rfl
structure xp(K:Frag) (C:Addr) (m:Str) (f:Addr):Prop where
 at_:findIn K (.ref C) m=some (some (.ref f))
 fn:isFn K (.ref f)=true
 kp:keepIn K (.ref f)=true
section
variable {X:Cx}{pins:List (Addr×Obj)}{σ : St}{H:Hp}{s:Shared}{a C dx:Addr}{fs:List (Str×V)}{f:Str}{v:V}{A:Around}{E:Value->Shared->Prop}
theorem zc6{b:Bool}{Q:Value->Shared->Prop}(I:Inv X pins σ H s) (e:H a=some (.ins C dx fs)) (c:Cls X.K C) (n:xt X.K C f) (l:fs.lookup f=some v)
  (h:∀u s',Inv X pins σ H s'->zV v u->Q u s'):wpAny (model X.prog X.w) A (getAttr (.ref a) f b) Q E s:=by
 obtain⟨mA,O,r,_,_,_⟩:=jv I.hok e;obtain⟨u,hu,ru⟩:=w9.some_of (v:=v) (o:=mA f) (by rw[<- l];exact r f)
 exact zic I.kIn O (c.get f) c.hd n hu (zeO ru) (h u _ (I.tok _) ru)
theorem ud{m:Str}{g:Addr}{pl:Sem Bool}{Q:Value×List Value->Shared->Prop}(I:Inv X pins σ H s) (e:H a=some (.ins C dx fs)) (c:Cls X.K C) (k:xp X.K C m g) (l:fs.lookup m=none)
  (h:Q (.ref g,[.ref a]) s):wpAny (model X.prog X.w) A (getMethod (.ref a) m pl) Q E s:=by
 obtain⟨mA,O,r,_,_,_⟩:=jv I.hok e;have hn:mA m=none:=w9.none_of (by rw[<- l];exact r m)
 exact zgI I.kIn O (c.get m) k.at_ k.fn hn h
theorem zcj{y:V}{u:Value}{Q:Unit->Shared->Prop}(I:Inv X pins σ H s) (e:H a=some (.ins C dx fs)) (c:Cls X.K C) (n:xt X.K C f) (hl:fs.length<1000) (ry:zV y u)
  (h:∀s',Inv X pins σ (upd H a (.ins C dx (z8 f y fs))) s'->Q () s'):wpAny (model X.prog X.w) A (setAttr (.ref a) f u) Q E s:=by
 obtain⟨mA,O,r,wi,_,ho⟩:=jv I.hok e;have hz:(fs.map (·.1)).length<=sizeLine:=by rw[length_map,sizeLine_eq];omega
 refine zhg I.kIn O c.sa c.po n.taker c.hd wi hz fun h' O' sb=>h _ ?_;have hd:∃o,h'.get? dx=some o:=let ⟨o,_,_,e',_⟩:=O'.ns;⟨o,e'⟩;refine I.write (x:=a) (e:=dx) (by rw[e];exact True.intro) (.inr ho) (fun b q hb z=>(sb.2 b hb).trans z) hd ?_
 refine⟨by rw[zh O.ne];exact ho,?_,O.ne,O'.obj,_,O'.ns,fun g=>?_,fun g hg=>?_⟩
 ·have:=je f y fs;omega
 ·show w9 ((z8 f y fs).lookup g) (if g=f then some u else mA g)
  rw[zq];by_cases q:g=f
  ·rw[if_pos q,if_pos q];exact ry
  ·rw[if_neg q,if_neg q];exact r g
 ·by_cases q:g=f
  ·rw[q];exact(uY f y fs).1
  ·refine(uY f y fs).2 g (wi g fun z=>hg ?_)
   show(if g=f then some u else mA g)=none
   rw[if_neg q];exact z
theorem Inv.made(I:Inv X pins σ H s):Inv X pins σ (upd (upd H s.heap.objs.size (.own (s.heap.objs.size+1))) (s.heap.objs.size+1) (.ins C s.heap.objs.size []))
  { s with heap:=(s.heap.push emptyDict).push (instObj C s.heap.objs.size) }:=by
 have e1:(s.heap.push emptyDict).get? s.heap.objs.size=some emptyDict:=Heap.get?_push_size s.heap rfl;have e2:((s.heap.push emptyDict).push (instObj C s.heap.objs.size)).get? (s.heap.objs.size+1)=some (instObj C s.heap.objs.size):=by
  have:=Heap.get?_push_size (s.heap.push emptyDict) (o:=instObj C s.heap.objs.size) rfl
  rwa [Heap.size_push] at this
 have e3:(s.heap.push emptyDict).Ns s.heap.objs.size (fun _=>none):=⟨emptyDict,#[],_,e1,rfl,(fun e he=>absurd he (by simp)),fun _=>rfl⟩
 have I1:=I.laid (a:=s.heap.objs.size) (o:=.own (s.heap.objs.size+1)) (h':=s.heap.push emptyDict) (t':=s.toks) (fun b u q=>Heap.get?_push_of_some _ q) (Nat.le_refl _) ⟨_,e1⟩;refine I1.laid (a:=s.heap.objs.size+1) (o:=.ins C s.heap.objs.size []) (t':=s.toks) (fun b u q=>Heap.get?_push_of_some _ q) (Nat.le_of_eq (Heap.size_push _ _)) ?_;have ne:s.heap.objs.size≠s.heap.objs.size+1:=ne_of_lt (lt_succ_self _);refine⟨by rw[zh ne,za],zero_le _,ne,e2,fun _=>none,(Heap.Ns1.of_empty e3).at fun o q=>Heap.get?_push_of_some _ q,fun _=>True.intro,fun y hy=>absurd rfl hy⟩
theorem zim{prog:Program}{w:World}{env:Env}{e:Expr}{f:Str}{pos:Pos}{s:Shared}{Q:Value->Shared->Prop}(hb:attributeBase e f env (eval e env)=eval e env)
  (h:wpAny (model prog w) A (eval e env) (fun o s₁=>wpAny (model prog w) A (getAttr o f true) Q E s₁) E s):wpAny (model prog w) A (eval (.Attribute e f pos) env) Q E s:=
 Attribute_any_ h (by rw[arm_eval_Attribute,hb])
end
def zks(K:Frag) (ta:TE) (f:Str):TE:=fun σ H Q=>ta σ H fun x H1=>∃a C dx fs v,x=.ref a/\H1 a=some (.ins C dx fs)/\Cls K C/\xt K C f/\fs.lookup f=some v/\Q v H1
def zlz(K:Frag) (ta tv:TE) (f:Str):TS:=fun D σ H=>tv σ H fun y H1=>ta σ H1 fun x H2=>∃a C dx fs,x=.ref a/\H2 a=some (.ins C dx fs)/\Cls K C/\xt K C f/\fs.length<1000/\
 D.nx σ (upd H2 a (.ins C dx (z8 f y fs)))
section
variable {X:Cx}{o e value:Expr}{f:Str}{pos pos' tpos:Pos}{ta tv:TE}
theorem y4(he:PE X e ta) (hb:attributeBase e f X.env (eval e X.env)=eval e X.env):PE X (.Attribute e f pos) (zks X.K ta f):=by
 refine⟨?_⟩;intro pins s σ H Q I h;refine zim hb (thn (he pins s σ H _ I h) fun u s1 ⟨x,H1,I1,rx,a,C,dx,fs,v,ex,ea,c,n,l,q⟩=>?_);subst ex;obtain rfl:u=Value.ref a:=rx;exact zc6 I1 ea c n l fun u' s2 I2 ru=>⟨v,H1,I2,ru,q⟩
theorem wP(ha:PE X o ta) (hv:PE X value tv) (hs:swapsWith value (some (.Attribute o f pos')) pos.line X.env=pure false):PS X (.Assign [.Attribute o f pos'] value pos) (zlz X.K ta tv f):=by
 refine⟨?_⟩;intro pins s σ H D I h;refine plainObj_wpAny_Assign_Attribute (thn (hv pins s σ H _ I h) fun u s1 ⟨y,H1,I1,ry,q⟩=>thn (ha pins s1 σ H1 _ I1 q) fun ov s2 ⟨x,H2,I2,rx,a,C,dx,fs,ex,ea,c,n,l,q2⟩=>?_) hs;subst ex;obtain rfl:ov=Value.ref a:=rx;exact zcj I2 ea c n l ry fun s3 I3=>⟨σ,_,I3,q2⟩
end
section
variable {X:Cx}{pins:List (Addr×Obj)}{σ : St}{H:Hp}{s:Shared}{A:Around}{E:Value->Shared->Prop}{Q:Value->Shared->Prop}{c:Value}{b:Bool}
inductive vR(K:Frag) (H:Hp):V->Value->Prop where
 | non:vR K H .non (.type "NoneType")
 | bl (x:Bool):vR K H (.bl x) (.type "bool")
 | int (i:Int):vR K H (.int i) (.type "int")
 | str (x:Str):vR K H (.str x) (.type "str")
 | flt (x:UInt64):vR K H (.flt x) (.type "float")
 | lst {a:Addr}{xs:List V}(e:H a=some (.lst xs)):vR K H (.ref a) (.type "list")
 | frz {a:Addr}{o:Obj}{xs:List V}(e:H a=some (.frz o (.lst xs))):vR K H (.ref a) (.type "list")
 | tup {a:Addr}{xs:List V}(e:H a=some (.tup xs)):vR K H (.ref a) (.type "tuple")
 | dK {a:Addr}{kvs:List (Key×V)}(e:H a=some (.dK kvs)):vR K H (.ref a) (.type "dict")
 | dT {a:Addr}{kvs:List (List Key×V)}(e:H a=some (.dT kvs)):vR K H (.ref a) (.type "dict")
 | ins {a C dx:Addr}{fs:List (Str×V)}(e:H a=some (.ins C dx fs)) (cl:Cls K C) (ha:findIn K (.ref C) "__class__"=some (some (.builtin "object.__class__")))
   (hn:PySem.W.specialIn K (.builtin "object.__class__") "__get__"=some (some (.builtin "getset_descriptor.__get__"))) (htk:PySem.W.takesIn K (.builtin "object.__class__")=some true)
   (hm:PySem.W.mroIn K C (.type "object")=some true):vR K H (.ref a) (.ref C)
theorem zeL{x:V}{u t:Value}(I:Inv X pins σ H s) (rx:zV x u) (ty:vR X.K H x t) (e:kitOne X.K t c=some b) (h:∀tk,Q (.bool b) { s with toks:=tk }) :
  wpAny (model X.prog X.w) A (call (.builtin "isinstance") [u,c]) Q E s:=by
 cases ty with
 | non=>cases (show u=Value.none from rx);exact kia_one PySem.W.kitx_none I.kIn True.intro e (fun z=>nomatch z) h
 | bl y=>cases (show u=Value.bool y from rx);exact kia_one PySem.W.kitx_bool I.kIn True.intro e (fun z=>nomatch z) h
 | int i=>obtain⟨t,q⟩:=(show ∃t,u=Value.int i t from rx);cases q;exact kia_one PySem.W.kitx_int I.kIn True.intro e (fun z=>nomatch z) h
 | str y=>obtain⟨t,q⟩:=(show ∃t,u=Value.str y t from rx);cases q;exact kia_one PySem.W.kitx_str I.kIn True.intro e (fun z=>nomatch z) h
 | flt y=>obtain⟨t,q⟩:=(show ∃t,u=Value.float y t from rx);cases q;exact kia_one PySem.W.kitx_float I.kIn True.intro e (fun z=>nomatch z) h
 | @lst a xs ea=>
  cases (show u=Value.ref a from rx);obtain⟨_,_,n,_,h1⟩:=(show yH X.prog X.w H s.heap a (.lst xs) from I.hok a _ ea);exact kia_one PySem.W.kitx_list I.kIn ⟨_,h1,rfl⟩ e (fun z=>nomatch z) h
 | @frz a ob xs ea=>
  cases (show u=Value.ref a from rx);obtain⟨_,_,_,n,_,h1⟩:=(show yH X.prog X.w H s.heap a (.frz ob (.lst xs)) from I.hok a _ ea);exact kia_one PySem.W.kitx_list I.kIn ⟨_,h1,rfl⟩ e (fun z=>nomatch z) h
 | @tup a xs ea=>
  cases (show u=Value.ref a from rx);obtain⟨_,_,_,p⟩:=(show yH X.prog X.w H s.heap a (.tup xs) from I.hok a _ ea);obtain⟨o,h1,h2,_⟩:=p;exact kia_one PySem.W.kitx_tuple I.kIn ⟨o,h1,h2⟩ e (fun z=>nomatch z) h
 | @dK a kvs ea=>
  cases (show u=Value.ref a from rx);obtain⟨_,_,vs,_,p⟩:=(show yH X.prog X.w H s.heap a (.dK kvs) from I.hok a _ ea);obtain⟨o,es,ep,h1,h2,_⟩:=p;exact kia_one PySem.W.kitx_dict I.kIn ⟨o,h1,h2.1⟩ e (fun z=>nomatch z) h
 | @dT a kvs ea=>
  cases (show u=Value.ref a from rx);obtain⟨_,_,xs,_,o,es,ep,h1,h2,_⟩:=(show yH X.prog X.w H s.heap a (.dT kvs) from I.hok a _ ea);exact kia_one PySem.W.kitx_dict I.kIn ⟨o,h1,h2.1⟩ e (fun z=>nomatch z) h
 | @ins a C dx fs ea cl ha hn htk hm=>
  cases (show u=Value.ref a from rx);obtain⟨mA,O,_⟩:=jv I.hok ea;obtain⟨od,J,_⟩:=O.look;exact kia_one (PySem.W.kitx_own (cl.get _) cl.hd ha hn htk hm) I.kIn J e (fun z=>nomatch z) h
end
structure yw(k:Nat) (A:Around):Prop where
 hd:A.handled=none
 dp:A.depth+3 * k+5<recursionLimit
 un:A.units+16 * k+200<cLine
theorem yw.mono{j k:Nat}{A:Around}(r:yw k A) (h:j<=k):yw j A:=⟨r.hd,by have:=r.dp;omega,by have:=r.un;omega⟩
theorem yw.deeper{k:Nat}{A:Around}(r:yw (k+1) A) (env:Env):yw k (A.deeper env):=
 ⟨r.hd,by have:=r.dp;show A.depth+1+3 * k+5<_;omega,by have:=r.un;show A.units+3+16 * k+200<_;omega⟩
theorem yw.in1{k:Nat}{A:Around}(r:yw (k+1) A):yw k A.in1:=
 ⟨r.hd,by have:=r.dp;show A.depth+3 * k+5<_;omega,by have:=r.un;show A.units+1+16 * k+200<_;omega⟩
theorem zcR{A:Around}{C:Addr}{us:List Value}{kw:List (Str×Value)}:(A.under (.builtin "type.__call__" ⟨.ref C::us,kw⟩)).depth=A.depth+1:=by
 first|rfl|simp [Around.under,Code.weight,Code.isCreation,Code.isGuard,Code.isCaller,Code.frames,Code.isFrame,guardIds]
theorem zcQ{A:Around}{C:Addr}{us:List Value}{kw:List (Str×Value)}:(A.under (.builtin "type.__call__" ⟨.ref C::us,kw⟩)).units=A.units+1:=by
 first|rfl|simp [Around.under,Code.cUnits,Code.frames,Code.isFrame]
theorem yw.make{k:Nat}{A:Around}(r:yw (k+1) A) (C:Addr) (us:List Value) (kw:List (Str×Value)):yw k (A.under (.builtin "type.__call__" ⟨.ref C::us,kw⟩)):=
 ⟨r.hd,by have:=r.dp;rw[zcR];omega,by have:=r.un;rw[zcQ];omega⟩
theorem yw.depth{k:Nat}{A:Around}(r:yw k A):A.depth<recursionLimit:=by have:=r.dp;omega
theorem yw.units{k:Nat}{A:Around}(r:yw k A):A.units+64<cLine:=by have:=r.un;omega
theorem yw.units0{k:Nat}{A:Around}(r:yw k A):A.units<cLine:=by have:=r.un;omega
def zi4:TA:=fun _ H Q=>Q [] H
def ziy(ta:TE) (tr:TA):TA:=fun σ H Q=>ta σ H fun x H1=>tr σ H1 fun xs H2=>Q (x::xs) H2
section
variable {X:Cx}{e:Expr}{es:List Expr}{te:TE}{t:TA}{pos:Pos}
theorem zd:PA X [] zi4:=⟨fun _ _ _ _ H Q I h=>Calls.spliced_nil ⟨[],H,I,.nil,h⟩⟩
theorem zhH(ha:PE X e te) (hr:PA X es t) (hs:starEach (e::es) X.env=(false,eval e X.env)::starEach es X.env:=by rfl):PA X (e::es) (ziy te t):=by
 refine⟨?_⟩;intro pos pins s σ H Q I h;rw[hs];show wpAny _ _ (spliced ((false,eval e X.env)::backTo pos (starEach es X.env))) _ _ s;refine Calls.spliced_cons (thn (ha pins s σ H _ I h) fun u s1 ⟨x,H1,I1,r1,q1⟩=>?_);exact thn (hr pos pins s1 σ H1 _ I1 q1) fun us s2 ⟨xs,H2,I2,r2,q2⟩=>⟨x::xs,H2,I2,.cons r1 r2,q2⟩
def zln(t:TA):TE:=fun σ H Q=>t σ H fun xs H1=>xs.length<=sizeLine/\∀p,H1 p=none->Q (.ref p) (upd H1 p (.tup xs))
def zlq(t:TA):TE:=fun σ H Q=>t σ H fun xs H1=>xs.length<=sizeLine/\∀p,H1 p=none->Q (.ref p) (upd H1 p (.lst xs))
theorem zZ{x1} (h:PA X es t):PE X (.Tuple es x1 pos) (zln t):=by
 refine⟨?_⟩;intro pins s σ H Q I hq;refine wpAny_Tuple_spliced (thn (h pos pins s σ H _ I hq) fun us s1 ⟨xs,H1,I1,r,z,q⟩=>⟨by rw[<- r.length];exact z,?_⟩)
 have hf:H1 s1.heap.objs.size=none:=I1.hok.fresh (Nat.le_refl _);refine⟨.ref s1.heap.objs.size,upd H1 s1.heap.objs.size (.tup xs),I1.laid (t':=s1.toks) (fun b u e=>Heap.get?_push_of_some _ e) (Nat.le_refl _) ?_,rfl,q _ hf⟩;exact⟨z,us,r,⟨_,Heap.get?_push_size _ rfl,rfl,_,rfl⟩⟩
theorem zW(h:PA X es t):PE X (.List es pos) (zlq t):=by
 refine⟨?_⟩;intro pins s σ H Q I hq;refine wpAny_List_spliced (thn (h pos pins s σ H _ I hq) fun us s1 ⟨xs,H1,I1,r,z,q⟩=>⟨by rw[<- r.length];exact z,?_⟩)
 have hf:H1 s1.heap.objs.size=none:=I1.hok.fresh (Nat.le_refl _);refine⟨.ref s1.heap.objs.size,upd H1 s1.heap.objs.size (.lst xs),I1.laid (t':=s1.toks) (fun b u e=>Heap.get?_push_of_some _ e) (Nat.le_refl _) ?_,rfl,q _ hf⟩;exact⟨z,us,0,r,Heap.get?_push_size _ rfl⟩
end
abbrev Sp:=List V->Hp->VK->XK->Prop
abbrev CXT:=List Env->Hp->Shared->XK->Value->Shared->Prop
structure qF(P:Program) (w:World) (K:Frag) (mg:Str->Option Value) (base:Heap) (A:Around) (outer:List Env) (s:Shared) (H:Hp):Prop where
 frames:A.frames=some outer
 mod:Mod K mg base
 bs:∀b o,base.get? b=some o->s.heap.get? b=some o/\H b=none
 bsz:base.objs.size<=s.heap.objs.size
 funs:s.heap.FunFrames base outer
 frf:∀b∈frs outer,H b=none
 hok:HOk P w H s.heap
 bare:AllBare s.gens
def CE(outer:List Env) (P:Program) (w:World) (H:Hp) (s:Shared) (Q:VK) (u:Value) (s':Shared):Prop:=
 ∃v H',s'.os=s.os/\AllBare s'.gens/\Un (frs outer) [] H H' s.heap s'.heap/\HOk P w H' s'.heap/\zV v u/\Q v H'
def CR(CX:CXT) (outer:List Env) (P:Program) (w:World) (H:Hp) (s:Shared) (Q:VK) (E:XK) (r:Result) (s':Shared):Prop:=
 match r with
 | .ok (.ret u)=>CE outer P w H s Q u s'
 | .ok _=>False
 | .error e=>CX outer H s E e s'
structure zJ(P:Program) (w:World) (K:Frag) (mg:Str->Option Value) (base:Heap) (CX:CXT) (k:Nat) (f:Addr) (fd:FuncData) (ps:List Str) (sp:Sp):Prop where
 len:∀vs H Q E,sp vs H Q E->vs.length=ps.length
 run:∀(A:Around) (outer:List Env) (s:Shared) (H:Hp) (args:Args) (us:List Value) (vs:List V) (Q:VK) (E:XK),yw k A->qF P w K mg base A outer s H->BindsTo s fd args (ps.zip us)->zQ vs us->sp vs H Q E->
  codeAny (model P w) A (.call (.ref f) args) (CR CX outer P w H s Q E) s
theorem qF.make{P:Program}{w:World}{K:Frag}{mg:Str->Option Value}{base:Heap}{A:Around}{outer:List Env}{s:Shared}{H:Hp}(e:qF P w K mg base A outer s H) (C:Addr) (us:List Value) (kw:List (Str×Value)) :
  qF P w K mg base (A.under (.builtin "type.__call__" ⟨.ref C::us,kw⟩)) outer s H:=⟨by first|exact e.frames|(simpa [Around.under,Code.envs,Code.isFrame,pushEnvs] using e.frames),e.mod,e.bs,e.bsz,e.funs,e.frf,e.hok,e.bare⟩
theorem qF.in1{P:Program}{w:World}{K:Frag}{mg:Str->Option Value}{base:Heap}{A:Around}{outer:List Env}{s:Shared}{H:Hp}(e:qF P w K mg base A outer s H) :
  qF P w K mg base A.in1 outer s H:=⟨e.frames,e.mod,e.bs,e.bsz,e.funs,e.frf,e.hok,e.bare⟩
section
variable {X:Cx}{pins:List (Addr×Obj)}{σ : St}{H:Hp}{s s':Shared}
theorem Inv.env0(I:Inv X pins σ H s):qF X.prog X.w X.K X.mg X.base X.A X.stack s H:=
 ⟨I.ok.frames,I.ok.mod,I.bs,Nat.le_trans I.ok.bsz I.sz,I.stack,I.stkFree,I.hok,I.bare⟩
theorem Inv.after{Q:VK}{u:Value}(I:Inv X pins σ H s) (h:CE X.stack X.prog X.w H s Q u s'):EP X pins σ Q u s':=by
 obtain⟨v,H',os,bare,un,hok,r,q⟩:=h;obtain⟨hh,g,d,t,os'⟩:=s';obtain rfl:os'=s.os:=os;exact⟨v,H',I.call (h':=hh) (g':=g) (d':=d) (t':=t) (ch:=[]) un hok bare (fun b z=>absurd z (by simp)),r,q⟩
end
def ze6(sp:Sp) (dvs:List V) (E:XK) (t:TA):TE:=fun σ H Q=>t σ H fun vs H1=>sp (vs++dvs) H1 Q E
def ziw(C:Addr) (m:Str) (sp:Sp) (dvs:List V) (E:XK) (ta:TE) (t:TA):TE:=fun σ H Q=>ta σ H fun x H1=>∃a dx fs,x=.ref a/\H1 a=some (.ins C dx fs)/\fs.lookup m=none/\
 t σ H1 fun vs H2=>sp (x::(vs++dvs)) H2 Q E
def zix(C:Addr) (sp:Sp) (dvs:List V) (E:XK) (t:TA):TE:=fun σ H Q=>t σ H fun vs H1=>∀x dx,H1 x=none->H1 dx=none->dx≠x->
 sp (.ref x::(vs++dvs)) (upd (upd H1 dx (.own x)) x (.ins C dx [])) (fun v H2=>v=.non/\Q (.ref x) H2) E
def z7(K:Frag) (fd:FuncData) (ps:List Str) (ds:List Value):Prop:=
 ∀(s:Shared) (us:List Value),K.In s.heap->(us++ds).length=ps.length->BindsTo s fd ⟨us,[]⟩ (ps.zip (us++ds))
theorem z7.all{K:Frag}{fd:FuncData}{ps:List Str}(h:∀us:List Value,us.length=ps.length->bindArgs fd ⟨us,[]⟩=pure (ps.zip us)):z7 K fd ps []:=fun s us _ hl=>by
 rw[append_nil] at hl |-;exact .of_eq (h us hl)
def wz(CX:CXT) (X:Cx) (E:XK):Prop:=∀(pins:List (Addr×Obj)) (σ : St) (H:Hp) (s:Shared) (e:Value) (s':Shared),Inv X pins σ H s->CX X.stack H s E e s'->X.xe e s'
section
variable {X:Cx}{CX:CXT}{k:Nat}{f C:Addr}{fd:FuncData}{ps:List Str}{sp:Sp}{dvs:List V}{ds:List Value}{E:XK}{x m:Str}{p pos apos:Pos}{e o:Expr}{es:List Expr}{ta:TE}{t:TA}
theorem jU{pins:List (Addr×Obj)}{σ : St}{H:Hp}{s:Shared}{Q:VK}{us:List Value}{vs:List V}(F:zJ X.prog X.w X.K X.mg X.base CX k f fd ps sp) (hr:yw k X.A) (hb:z7 X.K fd ps ds) (hd:zQ dvs ds) (hx:wz CX X E)
  (I:Inv X pins σ H s) (r:zQ vs us) (h:sp (vs++dvs) H Q E):wpAny (model X.prog X.w) X.A (call (.ref f) us) (EP X pins σ Q) X.xe s:=by
 have r2:zQ (vs++dvs) (us++ds):=r.append hd;have hl:(us++ds).length=ps.length:=by rw[<- r2.length];exact F.len _ _ _ _ h
 refine wpAny_call (codeAny_mono (F.run X.A X.stack s H ⟨us,[]⟩ (us++ds) (vs++dvs) Q E hr I.env0 (hb s us I.kIn hl) r2 h) fun r s' hq=>?_);cases r with
 | error e=>exact hx pins σ H s e s' I hq
 | ok fl=>
  cases fl with
  | ret u=>exact I.after hq
  | next=>exact False.elim hq
  | brk=>exact False.elim hq
  | cont=>exact False.elim hq
theorem zhG(F:zJ X.prog X.w X.K X.mg X.base CX k f fd ps sp) (hr:yw k X.A) (hg:Gl X x) (hm:X.mg x=some (.ref f)) (hk:keepIn X.K (.ref f)=true) (hb:z7 X.K fd ps ds) (hd:zQ dvs ds) (hx:wz CX X E)
  (ha:PA X (e::es) t) (hdb:(x==("__debug__" : Str))=false:=by decide) (he:starEach (e::es) X.env=(false,eval e X.env)::starEach es X.env:=by rfl) (hpl:(backTo pos (starEach es X.env)).any (·.1)=false:=by rfl) :
  PE X (.Call (.Name x p) (e::es) [] pos) (ze6 sp dvs E t):=by
 refine⟨?_⟩;intro pins s σ H Q I h;refine wpAny_Call_Name_kw (vK I hg hm ?_ hdb);refine callWith_K (h₀:=X.base) I.ok.mod.kin hk (thn (ha pos pins s σ H _ I h) fun us s1 ⟨vs,H1,I1,r,q⟩=>⟨I1.kIn,?_⟩) he hpl;exact jU F hr hb hd hx I1 r q
theorem zdK{pl:Sem Bool}(he:PE X o ta) (c:Cls X.K C) (hm:xp X.K C m f) (F:zJ X.prog X.w X.K X.mg X.base CX k f fd ps sp) (hr:yw k X.A) (hb:z7 X.K fd ps ds) (hd:zQ dvs ds) (hx:wz CX X E) (ha:PA X (e::es) t)
  (hst:starEach (e::es) X.env=(false,eval e X.env)::starEach es X.env:=by rfl) (hpl:(backTo pos (starEach es X.env)).any (·.1)=false:=by rfl)
  (ht:eval (.Call (.Attribute o m apos) (e::es) [] pos) X.env=(do
   let ov <- eval o X.env
   standAt apos.atName
   let (f,first) <- holding [ov] (getMethod ov m pl)
   callWith pos f first (backTo pos (starEach (e::es) X.env)) (backToKw pos (keywordEach [] X.env))):=by rfl) :
  PE X (.Call (.Attribute o m apos) (e::es) [] pos) (ziw C m sp dvs E ta t):=by
 refine⟨?_⟩;intro pins s σ H Q I h;refine methodCall_KW (pl:=pl) (thn (he pins s σ H _ I h) fun u s1 ⟨x,H1,I1,rx,a,dx,fs,ex,ea,l,q⟩=>?_) ht;subst ex;obtain rfl:u=Value.ref a:=rx;refine ud I1 ea c hm l ?_;refine callWith_K (first:=[.ref a]) (h₀:=X.base) I.ok.mod.kin hm.kp (thn (ha pos pins s1 σ H1 _ I1 q) fun us s2 ⟨vs,H2,I2,r,q2⟩=>⟨I2.kIn,?_⟩) hst hpl
 exact jU (us:=.ref a::us) (vs:=.ref a::vs) F hr hb hd hx I2 (.cons rfl r) q2
theorem yz{pl:Sem Bool}(he:PE X o ta) (c:Cls X.K C) (hm:xp X.K C m f) (F:zJ X.prog X.w X.K X.mg X.base CX k f fd ps sp) (hr:yw k X.A) (hb:z7 X.K fd ps ds) (hd:zQ dvs ds) (hx:wz CX X E)
  (ht:eval (.Call (.Attribute o m apos) [] [] pos) X.env=(do
   let ov <- eval o X.env
   standAt apos.atName
   let (f,first) <- holding [ov] (getMethod ov m pl)
   callWith pos f first (backTo pos (starEach [] X.env)) (backToKw pos (keywordEach [] X.env))):=by rfl) :
  PE X (.Call (.Attribute o m apos) [] [] pos) (ziw C m sp dvs E ta zi4):=by
 refine⟨?_⟩;intro pins s σ H Q I h;refine methodCall_KW (pl:=pl) (thn (he pins s σ H _ I h) fun u s1 ⟨x,H1,I1,rx,a,dx,fs,ex,ea,l,q⟩=>?_) ht;subst ex;obtain rfl:u=Value.ref a:=rx;refine ud I1 ea c hm l ?_;exact PySem.W.callWith_K0 (first:=[.ref a]) I1.kIn hm.kp (jU (us:=[.ref a]) (vs:=[.ref a]) F hr hb hd hx I1 (.cons rfl .nil) q)
structure Mk(K:Frag) (C f:Addr):Prop where
 makes:makesIn K C=true
 init:findIn K (.ref C) "__init__"=some (some (.ref f))
 fn:isFn K (.ref f)=true
 kp:keepIn K (.ref C)=true
theorem zfM{pins:List (Addr×Obj)}{σ : St}{H:Hp}{s:Shared}{Q:VK}{us:List Value}{vs:List V}(M:Mk X.K C f) (F:zJ X.prog X.w X.K X.mg X.base CX k f fd ps sp) (hr:yw (k+1) X.A) (hb:z7 X.K fd ps ds) (hd:zQ dvs ds)
  (hx:wz CX X E) (I:Inv X pins σ H s) (r:zQ vs us)
  (h:∀x dx,H x=none->H dx=none->dx≠x->sp (.ref x::(vs++dvs)) (upd (upd H dx (.own x)) x (.ins C dx [])) (fun v H2=>v=.non/\Q (.ref x) H2) E) :
  wpAny (model X.prog X.w) X.A (call (.ref C) us) (EP X pins σ Q) X.xe s:=by
 have hq:=h (s.heap.objs.size+1) s.heap.objs.size (I.hok.fresh (le_succ _)) (I.hok.fresh (Nat.le_refl _)) (ne_of_lt (lt_succ_self _));have I2:=Inv.made (C:=C) I;have r2:zQ (V.ref (s.heap.objs.size+1)::(vs++dvs)) (Value.ref (s.heap.objs.size+1)::(us++ds)):=.cons rfl (r.append hd);have hl:(Value.ref (s.heap.objs.size+1)::us++ds).length=ps.length:=by
  have e:=r2.length;rw[F.len _ _ _ _ hq] at e;exact e.symm
 refine wpAny_call (zgv (f:=f) I.kIn M.makes M.init (beq_iff_eq.mp M.fn) (codeAny_mono (F.run _ X.stack _ _ ⟨Value.ref (s.heap.objs.size+1)::us,[]⟩ (Value.ref (s.heap.objs.size+1)::(us++ds)) _ _ E (hr.make C us [])
  (I2.env0.make C us []) (hb _ (Value.ref (s.heap.objs.size+1)::us) I2.kIn hl) r2 hq) fun r s' hq'=>?_))
 cases r with
 | error e=>exact hx pins σ _ _ e s' I2 hq'
 | ok fl=>
  cases fl with
  | ret u=>
   obtain⟨v,H',I3,rv,ev,q3⟩:=I2.after hq';subst ev;exact⟨rv,⟨V.ref (s.heap.objs.size+1),H',I3,rfl,q3⟩⟩
  | next=>exact False.elim hq'
  | brk=>exact False.elim hq'
  | cont=>exact False.elim hq'
theorem zdL(M:Mk X.K C f) (F:zJ X.prog X.w X.K X.mg X.base CX k f fd ps sp) (hr:yw (k+1) X.A) (hg:Gl X x) (hm:X.mg x=some (.ref C)) (hb:z7 X.K fd ps ds) (hd:zQ dvs ds) (hx:wz CX X E)
  (ha:PA X (e::es) t) (hdb:(x==("__debug__" : Str))=false:=by decide) (he:starEach (e::es) X.env=(false,eval e X.env)::starEach es X.env:=by rfl) (hpl:(backTo pos (starEach es X.env)).any (·.1)=false:=by rfl) :
  PE X (.Call (.Name x p) (e::es) [] pos) (zix C sp dvs E t):=by
 refine⟨?_⟩;intro pins s σ H Q I h;refine wpAny_Call_Name_kw (vK I hg hm ?_ hdb);refine callWith_K (h₀:=X.base) I.ok.mod.kin M.kp (thn (ha pos pins s σ H _ I h) fun us s1 ⟨vs,H1,I1,r,q⟩=>⟨I1.kIn,?_⟩) he hpl;exact zfM M F hr hb hd hx I1 r q
end
section
variable {X:Cx}{CX:CXT}{k:Nat}{f C:Addr}{fd:FuncData}{ps ks:List Str}{sp:Sp}{E:XK}{x m:Str}{p pos apos kpos:Pos}{e o:Expr}{es:List Expr}{kws:List Keyword}{te ta:TE}{t tk:TA}{nm:Option Str}
variable {g:List Value->List Value->List Value}{gV:List V->List V->List V}
end
structure zu(N P:List Str) (sc:Scope):Prop where
 kind:sc.kind=.function
 co:sc.isCoroutine=false
 gen:sc.isGenerator=false
 nd:N.Nodup
 pre:N.take P.length=P
 par:∀x∈P,sc.names.lookup x=some .local\/sc.names.lookup x=some .cell
 nofree:∀y∈sc.names,y.2≠.free
theorem zal{kindOf:Str->Option NameKind}{x:Str}:∀{binds:List (Str×Value)}{m:Str->Option Value},(∀v,(x,v)∉binds)->bindL kindOf binds m x=m x
 | [],_,_=>rfl
 | (n,v)::r,m,h=>by
  unfold bindL;rw[zal fun w hw=>h w (mem_cons_of_mem _ hw)];split
  ·have:x≠n:=by rintro rfl;exact h v mem_cons_self
   simp [this]
  ·rfl
theorem zan{kindOf:Str->Option NameKind}{x:Str}:∀{binds:List (Str×Value)}{m:Str->Option Value},(∀v,(x,v)∉binds)->bindC kindOf binds m x=m x
 | [],_,_=>rfl
 | (n,v)::r,m,h=>by
  unfold bindC;rw[zan fun w hw=>h w (mem_cons_of_mem _ hw)];split
  ·rfl
  ·have:x≠n:=by rintro rfl;exact h v mem_cons_self
   simp [this]
theorem zam{kindOf:Str->Option NameKind}{x:Str}{v:Value}:∀{P:List Str}{vs:List Value}{i:Nat}{m:Str->Option Value},P.Nodup->P[i]?=some x->vs[i]?=some v->kindOf x=some .local->
  bindL kindOf (P.zip vs) m x=some v
 | [],_,_,_,_,h,_,_=>by simp at h
 | _::_,[],_,_,_,_,h,_=>by simp at h
 | p::P,w::vs,0,m,nd,h1,h2,hk=>by
  simp at h1 h2;subst h1;subst h2;show bindL kindOf ((p,w)::P.zip vs) m p=_;unfold bindL;rw[zal fun v hv=>(List.nodup_cons.mp nd).1 (of_mem_zip hv).1,if_pos hk];simp
 | p::P,w::vs,i+1,m,nd,h1,h2,hk=>by
  show bindL kindOf ((p,w)::P.zip vs) m x=_;unfold bindL;exact zam (i:=i) (List.nodup_cons.mp nd).2 (by simpa using h1) (by simpa using h2) hk
theorem zao{kindOf:Str->Option NameKind}{x:Str}{v:Value}:∀{P:List Str}{vs:List Value}{i:Nat}{m:Str->Option Value},P.Nodup->P[i]?=some x->vs[i]?=some v->kindOf x≠some .local->
  bindC kindOf (P.zip vs) m x=some v
 | [],_,_,_,_,h,_,_=>by simp at h
 | _::_,[],_,_,_,_,h,_=>by simp at h
 | p::P,w::vs,0,m,nd,h1,h2,hk=>by
  simp at h1 h2;subst h1;subst h2;show bindC kindOf ((p,w)::P.zip vs) m p=_;unfold bindC;rw[zan fun v hv=>(List.nodup_cons.mp nd).1 (of_mem_zip hv).1,if_neg hk];simp
 | p::P,w::vs,i+1,m,nd,h1,h2,hk=>by
  show bindC kindOf ((p,w)::P.zip vs) m x=_;unfold bindC;exact zao (i:=i) (List.nodup_cons.mp nd).2 (by simpa using h1) (by simpa using h2) hk
def ul(N:List Str) (vs:List V):St:=vs.map some++List.replicate (N.length - vs.length) none
def zdc(CX:CXT) (P:Program) (w:World) (K:Frag) (mg:Str->Option Value) (base:Heap) (N:List Str) (qual:Str) (scope:Scope) (f:Addr) (cd:Value) (A:Around) (outer:List Env) (s:Shared) (H:Hp) (E:XK):Cx where
 prog:=P
 w:=w
 K:=K
 mg:=mg
 base:=base
 A:=A.deeper (envOfC qual scope s.heap.objs.size f cd)
 N:=N
 s₀:=s
 H₀:=H
 env:=envOfC qual scope s.heap.objs.size f cd
 outer:=outer
 stack:=envOfC qual scope s.heap.objs.size f cd::outer
 ex:=[]
 calm:=true
 fn:=fun _=>true
 pn:=[]
 xe:=fun e s'=>wpAny (model P w) (A.deeper (envOfC qual scope s.heap.objs.size f cd)) (leaving (envOfC qual scope s.heap.objs.size f cd) e) (fun _ s''=>CX outer H s E e s'') (fun e' s''=>CX outer H s E e' s'') s'
theorem zb5{sc:Scope}{n:Nat}{x:Str}(h:sc.names.lookup x=some .cell):∃c,(cellsFrom n sc.names []).lookup x=some c:=by
 have q:=PySem.W.cellsFrom_some sc.names n [] (.inl h);exact Option.isSome_iff_exists.mp q
theorem zeM{CX:CXT}{P:Program}{w:World}{K:Frag}{mg:Str->Option Value}{base:Heap}{N ps:List Str}{qual:Str}{scope:Scope}{f:Addr}{cd:Value}{A:Around}{outer:List Env}{s s1:Shared}{H:Hp}{E:XK}{us:List Value}{vs:List V}
  (S:zu N ps scope) (hd:A.handled=none) (e0:qF P w K mg base A outer s H) (hl:vs.length=ps.length) (r:zQ vs us)
  (x:InCallC s s.heap.objs.size (bindL (envOfC qual scope s.heap.objs.size f cd).kindOf (ps.zip us) fun _=>none) (cellsFrom (s.heap.objs.size+1) scope.names []) (bindC (envOfC qual scope s.heap.objs.size f cd).kindOf (ps.zip us) fun _=>none) s1) :
  Inv (zdc CX P w K mg base N qual scope f cd A outer s H E) [] (ul N vs) H s1:=by
 have hpl:ps.length<=N.length:=by have:=congrArg List.length S.pre;rw[length_take] at this;omega
 obtain⟨h1,tk,rfl,hk⟩:=x.done;have noA:∀b:Addr,b∉(zdc CX P w K mg base N qual scope f cd A outer s H E).ex:=fun b z=>absurd (show b∈([]:List Addr) from z) (by simp)
 refine⟨⟨e0.mod,S.kind,rfl,rfl,Nat.le_refl _,fun y z c h1 h2=>?_,fun y hy=>?_,fun y c _ h=>?_,fun _=>hd,Around.frames_deeper e0.frames,.inr ⟨rfl,rfl⟩,fun b z=>absurd z (noA b),e0.bs,e0.bsz,fun b _ _=>noA b,fun b z=>absurd z (noA b),e0.funs,e0.frf⟩,
  rfl,e0.bare,Un.kept hk,⟨_,x.toInCall.ns,fun i y v h1 h2 h3=>?_⟩,fun y c h=>⟨_,x.cell y c h⟩,e0.hok.fresh (Nat.le_refl _),fun y c h=>?_,fun p hp=>absurd (show p∈([]:List (Addr×Obj)) from hp) (by simp),e0.hok.kept hk,?_⟩
 ·exact name_of_addr x.apart (PySem.mem_of_lookup h1) (PySem.mem_of_lookup h2)
 ·have hy:scope.names.lookup y=some .cell\/scope.names.lookup y=some .free:=hy
  rcases hy with hy|hy
  ·exact zb5 hy
  ·exact absurd rfl (S.nofree _ (PySem.mem_of_lookup hy))
 ·exact le_of_lt (x.above y c (PySem.mem_of_lookup h))
 ·have hi:i<vs.length:=by
   unfold ul at h2;by_cases hi:i<vs.length
   ·exact hi
   ·rw[getElem?_append_right (by simpa using hi)] at h2
    rw[List.getElem?_replicate] at h2;split at h2 <;> cases h2
  have ha:vs[i]?=some v:=by
   unfold ul at h2;rw[getElem?_append_left (by simpa using hi),getElem?_map] at h2
   cases e:vs[i]? with
   | none=>rw[e] at h2;cases h2
   | some a=>rw[e] at h2;cases h2;rfl
  obtain⟨u,hu,rv⟩:=r.get ha;have hp:ps[i]?=some y:=by
   rw[<- S.pre,List.getElem?_take_of_lt (by omega)];exact h1
  have ndP:ps.Nodup:=by rw[<- S.pre];exact S.nd.sublist (take_sublist _ _)
  refine⟨u,rv,?_⟩;rcases S.par y (mem_of_getElem? hp) with k|k
  ·exact .inl ⟨k,zam ndP hp hu k⟩
  ·obtain⟨c,e⟩:=zb5 (n:=s.heap.objs.size+1) k
   refine .inr ⟨.inl k,c,e,?_⟩;have q:=x.cell y c e;rw[zao ndP hp hu (by show scope.names.lookup y≠_;rw[k];decide)] at q
   exact q
 ·exact e0.hok.fresh (le_of_lt (x.above y c (PySem.mem_of_lookup h)))
 ·unfold ul
  show _=N.length;rw[length_append,length_map,List.length_replicate];omega
theorem ziV{CX:CXT}{P:Program}{w:World}{K:Frag}{mg:Str->Option Value}{base:Heap}{k:Nat}{f:Addr}{name qual:Str}{params:Arguments}{body:List Stmt}{scope:Scope}{dV kV doc pm cdv ct oc:Value}{an od:Option Addr}
  {osl:Array (Option Value)}{N ps:List Str}{sp:Sp}(lk:K.lookup f=some ⟨oc,od,.func (fnOf name qual params body scope dV kV doc pm an cdv ct),osl⟩) (hcd:codeIn K cdv qual=true) (S:zu N ps scope)
  (len:∀vs H Q E,sp vs H Q E->vs.length=ps.length)
  (hbody:∀(A:Around) (outer:List Env) (s:Shared) (H:Hp) (vs:List V) (Q:VK) (E:XK),yw k (A.deeper (envOfC qual scope s.heap.objs.size f cdv))->sp vs H Q E->
   ∃t,PSs (zdc CX P w K mg base N qual scope f cdv A outer s H E) body t/\t { nx:=fun _ H'=>Q .non H',rt:=Q } (ul N vs) H) :
  zJ P w K mg base CX (k+1) f (fnOf name qual params body scope dV kV doc pm an cdv ct) ps sp:=by
 refine⟨len,fun A outer s H args us vs Q E hr e0 hb r hsp=>?_⟩;have hl:=len _ _ _ _ hsp;have KX:K.In s.heap:=e0.mod.kin.keeps fun b o e=>(e0.bs b o e).1;have lim:s.heap.NoLimit:=e0.mod.nolimit.keeps fun b o e=>(e0.bs b o e).1;have hkind:∀y∈ps.zip us,scope.names.lookup y.1=some .local\/(scope.names.lookup y.1=some .cell/\((cellsFrom (s.heap.objs.size+1) scope.names []).lookup y.1).isSome=true):=fun⟨n,v⟩ hy=>by
  rcases S.par n (of_mem_zip hy).1 with q|q
  ·exact .inl q
  ·exact .inr ⟨q,PySem.W.cellsFrom_some _ _ _ (.inl q)⟩
 refine codeAny_call_function hr.depth (KX _ _ lk) rfl S.co S.gen rfl (PySem.W.codeRec_of KX hcd) (hb _ _ _ _ ?_);refine wpAny_newFunctionEnv_cells S.kind hkind fun env he s1 x=>?_;subst he;refine⟨lim.keeps x.toInCall.keep,codeAny_func ?_⟩;obtain⟨t,ht,hq⟩:=hbody A outer s H vs Q E (hr.deeper _) hsp;have I:Inv (zdc CX P w K mg base N qual scope f cdv A outer s H E) [] (ul N vs) H s1:=zeM S hr.hd e0 hl r x;refine wpAny_mono (ht [] s1 (ul N vs) H _ I hq) (fun fl s' hs=>?_) fun e s' hs=>hs;have fin:∀{σ':St}{H':Hp}{v:V}{u:Value},Inv (zdc CX P w K mg base N qual scope f cdv A outer s H E) [] σ' H' s'->zV v u->Q v H'->CE outer P w H s Q u s':=
  fun {σ' H' v u} J rv q=>⟨v,H',J.os,J.bare,J.base,J.hok,rv,q⟩
 cases fl with
 | ret u=>
  obtain⟨v,σ',H',J,rv,q⟩:=hs;exact fin J rv q
 | next=>
  obtain⟨σ',H',J,q⟩:=hs;exact fin (v:=V.non) (u:=Value.none) J rfl q
 | brk=>
  obtain⟨_,_,_,q⟩:=hs;exact False.elim q
 | cont=>
  obtain⟨_,_,_,q⟩:=hs;exact False.elim q
section
variable {X:Cx}{x:Str}{p pos:Pos}{e:Expr}{es:List Expr}{t:TA}{id T:String}{r:List V->Hp->VK->Prop}
def tCB(r:List V->Hp->VK->Prop) (t:TA):TE:=fun σ H Q=>t σ H fun vs H1=>r vs H1 Q
theorem zfY(hc:xh X (.builtin id) r) (hg:Gl X x) (hm:X.mg x=none) (hv:bootBuiltins x=some (.builtin id)) (ha:PA X (e::es) t) (hn:x≠"__name__":=by decide) (hdb:(x==("__debug__" : Str))=false:=by decide)
  (he:starEach (e::es) X.env=(false,eval e X.env)::starEach es X.env:=by rfl) (hpl:(backTo pos (starEach es X.env)).any (·.1)=false:=by rfl):PE X (.Call (.Name x p) (e::es) [] pos) (tCB r t):=by
 refine⟨?_⟩;intro pins s σ H Q I h;refine wpAny_Call_Name_kw (ww I hg hm hv ?_ hn hdb);exact PyProof.Rows.callWith_builtin1 (thn (ha pos pins s σ H _ I h) fun us s1 ⟨vs,H1,I1,r1,q1⟩=>hc pins s1 σ H1 vs us Q I1 r1 q1) he hpl
theorem zen(hc:xh X (.type T) r) (hg:Gl X x) (hm:X.mg x=none) (hv:bootBuiltins x=some (.type T)) (ha:PA X (e::es) t) (hn:x≠"__name__":=by decide) (hdb:(x==("__debug__" : Str))=false:=by decide)
  (he:starEach (e::es) X.env=(false,eval e X.env)::starEach es X.env:=by rfl) (hpl:(backTo pos (starEach es X.env)).any (·.1)=false:=by rfl):PE X (.Call (.Name x p) (e::es) [] pos) (tCB r t):=by
 refine⟨?_⟩;intro pins s σ H Q I h;refine wpAny_Call_Name_kw (ww I hg hm hv ?_ hn hdb);exact PyProof.Rows.callWith_type1 (thn (ha pos pins s σ H _ I h) fun us s1 ⟨vs,H1,I1,r1,q1⟩=>hc pins s1 σ H1 vs us Q I1 r1 q1) he hpl
theorem zcH(hc:xh X (.type T) r) (hg:Gl X x) (hm:X.mg x=none) (hv:bootBuiltins x=some (.type T)) (hn:x≠"__name__":=by decide) (hdb:(x==("__debug__" : Str))=false:=by decide) :
  PE X (.Call (.Name x p) [] [] pos) (tCB r zi4):=by
 refine⟨?_⟩;intro pins s σ H Q I h;refine wpAny_Call_Name_kw (ww I hg hm hv ?_ hn hdb);exact PyProof.Rows.callWith_type0 (hc pins s σ H [] [] Q I .nil h)
end
end L2
namespace HT
open PySem PyProof.Rows
section
open PySem.SeqAt
open PySem.AutoSeq1 (wpAny_loadPart')
open PySem.MeetsSeq PySem.MeetsSeq2 PySem.MeetsSeq3
end
section
variable {prog:Program}{w:World}{A:Around}{E:Value->Shared->Prop}{s:Shared}
theorem zlm{t b:Addr}{vs ws:List Value}{Q:Value->Shared->Prop}(ht:IsTup s.heap t vs.toArray) (hb:IsTup s.heap b ws.toArray) (hv:vs≠[])
  (h1:ws=[]->Q (.ref t) s) (h2:ws≠[]->Q (.ref s.heap.objs.size) { s with heap:=s.heap.push { cls:=.type "tuple",data:=.seq (vs++ws).toArray } })
  (hsz:vs.length+ws.length<=sizeLine):wpAny (model prog w) A (binaryOp .Add (.ref t) (.ref b)) Q E s:=by
 obtain⟨⟨cls,dd,data,sl⟩,ho,hc,n,hd⟩:=id ht;obtain⟨⟨cls2,dd2,data2,sl2⟩,ho2,hc2,n2,hd2⟩:=id hb;simp only at hc hd hc2 hd2;subst hc hd hc2 hd2;have e:vs.toArray++ws.toArray=(vs++ws).toArray:=by simp
 by_cases hw:ws=[]
 ·exact concat_meets ⟨_,ho,rfl⟩ ⟨_,ho2,rfl⟩ noFill_tuple_add seq_tuple_add PySem.F.slot_tuple_add PySem.F.entry_tuple_add (PySem.F.args_tuple_add_2 _ _)
   (tuple_addW1 t b vs.toArray ws.toArray n n2 dd dd2 sl sl2 (by simpa using hv) (by simp [hw])) ⟨ho,ho2,h1 hw⟩
 ·refine concat_meets ⟨_,ho,rfl⟩ ⟨_,ho2,rfl⟩ noFill_tuple_add seq_tuple_add PySem.F.slot_tuple_add PySem.F.entry_tuple_add (PySem.F.args_tuple_add_2 _ _)
   (tuple_addW2 t b vs.toArray ws.toArray n n2 dd dd2 sl sl2 (by simpa using hv) (by simpa using hw) (by rw[size_toArray,size_toArray];exact hsz)) ⟨ho,ho2,?_⟩
  rw[e];exact h2 hw
def sIx(n d:Nat):Option Int->Nat
 | none=>d
 | some v=>if v<0 then (v+(n:Int)).toNat else min v.toNat n
theorem zkG(n d:Nat):sIx n d none=d:=rfl
theorem zll(n d k:Nat):sIx n d (some (k:Int))=min k n:=by
 show(if (k:Int)<0 then ((k:Int)+(n:Int)).toNat else min (k:Int).toNat n)=min k n
 rw[if_neg (by omega),toNat_natCast]
theorem zjy(n d:Nat) (hd:d<=n) (o:Option Int):sIx n d o<=n:=by
 cases o with
 | none=>exact hd
 | some v=>
  show(if v<0 then (v+(n:Int)).toNat else min v.toNat n)<=n
  by_cases hv:v<0
  ·rw[if_pos hv];omega
  ·rw[if_neg hv];exact Nat.min_le_right _ _
theorem zd5(v:Int) (n d:Nat):(if v<0 then max (v+(n:Int)) 0 else min v (n:Int))=((sIx n d (some v):Nat):Int):=by
 show(if v<0 then max (v+(n:Int)) 0 else min v (n:Int))=(((if v<0 then (v+(n:Int)).toNat else min v.toNat n):Nat):Int)
 by_cases hv:v<0
 ·simp only[if_pos hv];omega
 ·simp only[if_neg hv];omega
theorem zdh(lo hi:Option Int) (n:Nat):Builtin.Slice.sliceAdjust lo hi 1 (n:Int)=(((sIx n 0 lo:Nat):Int),((sIx n n hi:Nat):Int)):=by
 have h1:¬((1:Int)<0):=by omega
 unfold Builtin.Slice.sliceAdjust;simp only[h1,if_false];refine Prod.ext ?_ ?_
 ·cases lo with
  | none=>rfl
  | some v=>exact zd5 v n 0
 ·cases hi with
  | none=>rfl
  | some v=>exact zd5 v n n
theorem zcE(i j:Nat):Builtin.Slice.slicePlaces (i:Int) (j:Int) 1=j - i:=by
 unfold Builtin.Slice.slicePlaces;have h1:(1:Int)>0:=by omega
 simp only[h1,if_true,Int.ediv_one];split <;> omega
theorem jJ{v:Value}{o:Option Int}{Q:Option Int->Shared->Prop}(p:IsPart v o) (h:Q o s):wpAny (model prog w) A (Builtin.Slice.slicePartIndex v) Q E s:=by
 cases p with
 | none=>exact slicePart_none h
 | int i t=>exact slicePart_int h
theorem uQ{sl:Addr}{vl vu:Value}{lo hi:Option Int}{n:Nat}{Q:Int×Int×Nat->Shared->Prop}(hs:s.heap.IsSliceOf sl vl vu .none) (pl:IsPart vl lo) (pu:IsPart vu hi)
  (h:Q (((sIx n 0 lo:Nat):Int),1,sIx n n hi - sIx n 0 lo) s):wpAny (model prog w) A (Builtin.Slice.sliceApplied (.ref sl) (pure (n:Int))) Q E s:=by
 obtain⟨os,hos,hcs,hds⟩:=id hs;unfold Builtin.Slice.sliceApplied Builtin.Slice.sliceFields;refine wpAny_bind (wpAny_bind (wpAny_field hos hds (x:=vl) rfl (wpAny_bind (wpAny_field hos hds (x:=vu) rfl (wpAny_bind (wpAny_field hos hds (x:=.none) rfl (wpAny_pure ?_)))))));refine wpAny_bind (slicePart_none ?_);show wpAny _ _ (if ((1:Int)==0)=true then _ else _) _ _ s
 rw[if_neg (by decide)]
 refine wpAny_bind (jJ pl (wpAny_bind (jJ pu (wpAny_bind (wpAny_pure ?_)))));show wpAny _ _ (match Builtin.Slice.sliceAdjust lo hi 1 (n:Int) with|(lo,hi)=>pure (lo,(1:Int),Builtin.Slice.slicePlaces lo hi 1)) _ _ s
 rw[zdh lo hi n];show wpAny _ _ (pure (((sIx n 0 lo:Nat):Int),(1:Int),Builtin.Slice.slicePlaces ((sIx n 0 lo:Nat):Int) ((sIx n n hi:Nat):Int) 1)) _ _ s;rw[zcE];exact wpAny_pure h
theorem zfT(xs:Array Value) (i k:Nat):((List.range k).filterMap fun (m:Nat)=>xs[((i:Int)+(m:Int) * 1).toNat]?).toArray=((xs.toList.drop i).take k).toArray:=by
 have e:(fun (m:Nat)=>xs[((i:Int)+(m:Int) * 1).toNat]?)=fun m=>xs[i+m]?:=by
  funext m
  have:((i:Int)+(m:Int) * 1).toNat=i+m:=by omega
  rw[this]
 rw[e]
 have:=pick_run xs i k
 rw[List.filterMap_map] at this;have e2:((fun x=>xs[x]?) ∘ fun x=>i+x)=fun m=>xs[i+m]?:=rfl;rw[e2] at this;rw[this]
theorem zdU{t sl:Addr}{items:Array Value}{vl vu:Value}{lo hi:Option Int}{Q:Value->Shared->Prop}(ht:IsTup s.heap t items) (hs:s.heap.IsSliceOf sl vl vu .none) (pl:IsPart vl lo) (pu:IsPart vu hi)
  (hw:¬(sIx items.size 0 lo=0/\sIx items.size items.size hi=items.size))
  (h:Q (.ref s.heap.objs.size) { s with heap:=s.heap.push { cls:=.type "tuple",data:=.seq ((items.toList.drop (sIx items.size 0 lo)).take (sIx items.size items.size hi - sIx items.size 0 lo)).toArray } })
  (hsz:items.size<=sizeLine):wpAny (model prog w) A (getItem (.ref t) (.ref sl)) Q E s:=by
 have htake:sizeOk (.seq ((items.toList.drop (sIx items.size 0 lo)).take (sIx items.size items.size hi - sIx items.size 0 lo)).toArray):=by
  show((items.toList.drop (sIx items.size 0 lo)).take (sIx items.size items.size hi - sIx items.size 0 lo)).toArray.size<=sizeLine;rw[size_toArray,length_take,length_drop,Array.length_toList];omega
 have hj:sIx items.size items.size hi<=items.size:=zjy _ _ (Nat.le_refl _) hi;obtain⟨os,hos,hcs,hds⟩:=id hs;have hTs:s.TypeIs (.ref sl) "slice":=⟨os,hos,hcs⟩;unfold getItem
 try with_reducible refine wpAny_holding ?_
 first|refine wpAny_bind (wpAny_pure ?_)|skip
 refine wpAny_bind (wpAny_sequenceKey ht.typeIs (by decide) ?_)
 refine wpAny_bind (wpAny_callSpecial?_slot (name:=Str.ofString "__getitem__") ht.typeIs PyProof.Rows.slot_tuple_getitem
  (wpAny_call_entry PyProof.Rows.slot_tuple_getitem ht.typeIs entry_tuple_getitem ?_ (args_tuple_getitem _ _)))
 show wpAny _ _ (Builtin.Tuple.tupleItemsOf (.ref t) >>= _) _ _ s;refine wpAny_bind (tupleItemsOf_ ht ?_);refine wpAny_bind (wpAny_typeOf hTs ?_);rw[if_pos (by decide)]
 refine wpAny_bind (uQ hs pl pu ?_);have hno:¬((((sIx items.size 0 lo:Nat):Int)==0&&(1:Int)==1&&(sIx items.size items.size hi - sIx items.size 0 lo)==items.size)=true):=by
  intro q;rw[Bool.and_eq_true,Bool.and_eq_true] at q;have q1:((sIx items.size 0 lo:Nat):Int)=0:=eq_of_beq q.1.1;have q2:sIx items.size items.size hi - sIx items.size 0 lo=items.size:=eq_of_beq q.2;exact hw ⟨by omega,by omega⟩
 show wpAny _ _ (if (((sIx items.size 0 lo:Nat):Int)==0&&(1:Int)==1&&(sIx items.size items.size hi - sIx items.size 0 lo)==items.size)=true then _ else _) _ _ s
 rw[if_neg hno,zfT]
 first
  | exact wpAny_bind (m:=Builtin.Tuple.tupleExact _) (wpAny_newObj_type (wpAny_pure ⟨_,rfl,wpAny_pure h⟩) htake)
  | exact wpAny_bind (m:=Builtin.Tuple.tupleExact _) (wpAny_newObj_type (wpAny_bind (wpAny_pure (wpAny_pure ⟨_,rfl,wpAny_pure h⟩))) htake)
  | exact wpAny_bind (wpAny_bind (m:=Builtin.Tuple.tupleExact _) (wpAny_newObj_type (wpAny_pure (wpAny_pure ⟨_,rfl,wpAny_pure h⟩)) htake))
  | exact wpAny_bind (wpAny_bind (m:=Builtin.Tuple.tupleExact _) (wpAny_newObj_type (wpAny_pure ⟨_,rfl,wpAny_pure h⟩) htake))
end
end HT
namespace L2
open PySem PySem.Spec PyProof.Rows
abbrev TO:=St->Hp->(Option Int->Hp->Prop)->Prop
structure PO(X:Cx) (e:Option Expr) (t:TO):Prop where
 run:∀(pins:List (Addr×Obj)) (s:Shared) (σ : St) (H:Hp) (Q:Option Int->Hp->Prop),Inv X pins σ H s->t σ H Q->
  wpAny (model X.prog X.w) X.A (evalPart e X.env) (fun u s'=>∃o H',Inv X pins σ H' s'/\IsPart u o/\Q o H') X.xe s
instance {X:Cx}{e:Option Expr}{t:TO}:CoeFun (PO X e t) (fun _=>∀(pins:List (Addr×Obj)) (s:Shared) (σ : St) (H:Hp) (Q:Option Int->Hp->Prop),Inv X pins σ H s->t σ H Q->
  wpAny (model X.prog X.w) X.A (evalPart e X.env) (fun u s'=>∃o H',Inv X pins σ H' s'/\IsPart u o/\Q o H') X.xe s):=⟨PO.run⟩
def zg8:TO:=fun _ H Q=>Q none H
def zkp(t:TE):TO:=fun σ H Q=>t σ H fun x H1=>∃i,x=.int i/\Q (some i) H1
section
variable {X:Cx}{e:Expr}{te:TE}{lo hi:Option Expr}{tl th:TO}{pos p2:Pos}
theorem yJ:PO X none zg8:=by
 refine⟨?_⟩;intro pins s σ H Q I h;rw[evalPart_none];exact wpAny_pure ⟨none,H,I,.none,h⟩
theorem yj(h:PE X e te):PO X (some e) (zkp te):=by
 refine⟨?_⟩;intro pins s σ H Q I hw;rw[evalPart_some];refine thn (h pins s σ H _ I hw) fun u s1 ⟨x,H1,I1,r1,q1⟩=>?_;obtain⟨i,rfl,q⟩:=q1;obtain⟨t,rfl⟩:=r1;exact⟨some i,H1,I1,.int i t,q⟩
def SlR(X:Cx) (r:V->Option Int->Option Int->Hp->VK->Prop):Prop:=
 ∀(pins:List (Addr×Obj)) (s:Shared) (σ : St) (H:Hp) (x:V) (v vl vu:Value) (lo hi:Option Int) (sl:Addr) (Q:VK),Inv X pins σ H s->zV x v->s.heap.IsSliceOf sl vl vu .none->IsPart vl lo->IsPart vu hi->r x lo hi H Q->
  ∃T id,typeLookup (.type T) "__getitem__"=pure (some (.builtin id))/\s.TypeIs v T/\wpAny (model X.prog X.w) X.A (getItem v (.ref sl)) (EP X pins σ Q) X.xe s
def tSl(r:V->Option Int->Option Int->Hp->VK->Prop) (te:TE) (tl th:TO):TE:=fun σ H Q=>te σ H fun x H1=>tl σ H1 fun l H2=>th σ H2 fun u H3=>r x l u H3 Q
theorem yf{r:V->Option Int->Option Int->Hp->VK->Prop}(hr:SlR X r) (he:PE X e te) (hl:PO X lo tl) (hu:PO X hi th):PE X (.Subscript e (.Slice lo hi none p2) pos) (tSl r te tl th):=by
 refine⟨?_⟩;intro pins s σ H Q I h;refine Subscript_ (thn (he pins s σ H _ I h) fun v s1 ⟨x,H1,I1,r1,q1⟩=>?_);refine wpAny_Slice (thn (hl pins s1 σ H1 _ I1 q1) fun vl s2 ⟨l,H2,I2,pl,q2⟩=>thn (hu pins s2 σ H2 _ I2 q2) fun vu s3 ⟨u,H3,I3,pu,q3⟩=>?_);rw[evalPart_none];refine wpAny_pure ?_;have I4:Inv X pins σ H3 { s3 with heap:=s3.heap.push { cls:=.type "slice",data:=.fields #[vl,vu,.none] } }:=I3.kept (t':=s3.toks) fun b ob q=>Heap.get?_push_of_some _ q
 obtain⟨T,id,hT,ht,hg⟩:=hr pins { s3 with heap:=s3.heap.push { cls:=.type "slice",data:=.fields #[vl,vu,.none] } } σ H3 x v vl vu l u s3.heap.objs.size Q I4 r1 (Heap.IsSliceOf.new ..) pl pu q3
 show wpAny (model X.prog X.w) X.A (subscriptTail e (.Slice lo hi none p2) v (.ref s3.heap.objs.size)) (EP X pins σ Q) X.xe { s3 with heap:=s3.heap.push { cls:=.type "slice",data:=.fields #[vl,vu,.none] } }
 exact tail_any (ops:=[.ref s3.heap.objs.size,v]) ht hT hg (by with_unfolding_all rfl)
def xo(xs:List V) (lo hi:Option Int):List V:=(xs.drop (HT.sIx xs.length 0 lo)).take (HT.sIx xs.length xs.length hi - HT.sIx xs.length 0 lo)
theorem ji(xs:List V) (lo hi:Option Int):(xo xs lo hi).length<=xs.length:=by
 unfold xo;rw[length_take,length_drop];omega
def zfO(K:Frag):V->Option Int->Option Int->Hp->VK->Prop:=fun x lo hi H Q=>∃a xs,x=.ref a/\SqT K H a xs/\
 ¬(HT.sIx xs.length 0 lo=0/\HT.sIx xs.length xs.length hi=xs.length)/\∀p,H p=none->Q (.ref p) (upd H p (.tup (xo xs lo hi)))
theorem zaA:SlR X (zfO X.K):=by
 intro pins s σ H x v vl vu lo hi sl Q I rx hs pl pu h;obtain⟨a,xs,rfl,hx,hw,q⟩:=h;cases rx;obtain⟨its,r,ht,hz⟩:=I.tuple hx;have hlen:its.toArray.size=xs.length:=by rw[size_toArray];exact r.length.symm
 refine⟨"tuple",_,PyProof.Rows.slot_tuple_getitem.lookup,ht.typeIs,?_⟩;refine HT.zdU ht hs pl pu (by rw[hlen];exact hw) ?_ (by rw[hlen];exact hz)
 rw[hlen];refine⟨.ref s.heap.objs.size,_,I.laid (t':=s.toks) (o:=.tup (xo xs lo hi)) (fun b ob q=>Heap.get?_push_of_some _ q) (Nat.le_refl _) ?_,rfl,q _ (I.hok.fresh (Nat.le_refl _))⟩;exact⟨Nat.le_trans (ji xs lo hi) hz,_,(r.drop (HT.sIx xs.length 0 lo)).take (HT.sIx xs.length xs.length hi - HT.sIx xs.length 0 lo),IsTup.new _ _⟩
def zbC(K:Frag):R2:=fun x y H Q=>∃a b xs ys,x=.ref a/\y=.ref b/\SqT K H a xs/\SqT K H b ys/\xs≠[]/\xs.length+ys.length<=sizeLine/\
 (ys=[]->Q (.ref a) H)/\(ys≠[]->∀p,H p=none->Q (.ref p) (upd H p (.tup (xs++ys))))
theorem zQ.nil_iff{xs:List V}{us:List Value}(r:zQ xs us):us=[] ↔ xs=[]:=by
 cases r with
 | nil=>simp
 | cons _ _=>simp
theorem js:OpR X (binaryOp .Add) (zbC X.K):=by
 intro pins s σ H x y v u Q I rx ry h;obtain⟨a,b,xs,ys,rfl,rfl,ha,hb,hx,hz,q1,q2⟩:=h;cases rx;cases ry;obtain⟨its,r1,p1,_⟩:=I.tuple ha;obtain⟨its2,r2,p2,_⟩:=I.tuple hb;refine HT.zlm p1 p2 (fun z=>hx (r1.nil_iff.mp z)) (fun z=>⟨.ref a,H,I,rfl,q1 (r2.nil_iff.mp z)⟩) (fun z=>?_) (by rw[<- r1.length,<- r2.length];exact hz)
 refine⟨.ref s.heap.objs.size,_,I.laid (t':=s.toks) (o:=.tup (xs++ys)) (fun b ob q=>Heap.get?_push_of_some _ q) (Nat.le_refl _) ?_,rfl,q2 (fun w=>z (r2.nil_iff.mpr w)) _ (I.hok.fresh (Nat.le_refl _))⟩;exact⟨by rw[length_append];exact hz,_,r1.append r2,IsTup.new _ _⟩
end
def ixN(n:Nat) (i:Int):Option Nat:=if 0<=i then (if i<n then some i.toNat else none) else if -(n:Int)<=i then some (i+n).toNat else none
def atI{α : Type}(xs:List α) (i:Int):Option α:=(ixN xs.length i).bind fun j=>xs[j]?
theorem za3{n:Nat}{i:Int}{j:Nat}(h:ixN n i=some j):seqIndex? i n=some j/\j<n/\-(n:Int)<=i/\i<n:=by
 unfold ixN at h;by_cases h0 : 0<=i
 ·rw[if_pos h0] at h
  by_cases h1:i<n
  ·rw[if_pos h1] at h
   have e:i.toNat=j:=Option.some.inj h;exact⟨by rw[seqIndex_of h0 h1,e],by omega,by omega,h1⟩
  ·rw[if_neg h1] at h;cases h
 ·rw[if_neg h0] at h
  by_cases h1 : -(n:Int)<=i
  ·rw[if_pos h1] at h
   have e:(i+n).toNat=j:=Option.some.inj h;exact⟨by rw[seqIndex_neg (by omega) h1,e],by omega,h1,by omega⟩
  ·rw[if_neg h1] at h;cases h
theorem zbc{α : Type}{xs:List α}{i:Int}{v : α}(h:atI xs i=some v):∃j,seqIndex? i xs.length=some j/\xs[j]?=some v/\j<xs.length/\-(xs.length:Int)<=i/\i<xs.length:=by
 unfold atI at h;cases e:ixN xs.length i with
 | none=>rw[e] at h;cases h
 | some j=>
  rw[e] at h;obtain⟨h1,h2,h3,h4⟩:=za3 e;exact⟨j,h1,h,h2,h3,h4⟩
theorem wY{α : Type}{xs:List α}{j:Nat}{v : α}(h:xs[j]?=some v):atI xs (j:Int)=some v:=by
 have hj:j<xs.length:=(List.getElem?_eq_some_iff.mp h).1;have e:ixN xs.length (j:Int)=some j:=by
  unfold ixN;rw[if_pos (by omega),if_pos (by omega)];simp
 unfold atI;rw[e];exact h
def ziu(b:Expr):Prop:=∀o i,subscripted b false o i=operate [o,i] (getItem o i)
def IxR(X:Cx) (r:R2):Prop:=
 ∀(value slice:Expr) (pins:List (Addr×Obj)) (s:Shared) (σ : St) (H:Hp) (x y:V) (v u:Value) (Q:VK),Inv X pins σ H s->zV x v->zV y u->r x y H Q->
  subscripted slice false v u=operate [v,u] (getItem v u)->wpAny (model X.prog X.w) X.A (subscriptTail value slice v u) (EP X pins σ Q) X.xe s
def MtR(X:Cx) (id:String) (r:V->List V->Hp->VK->Prop):Prop:=
 ∀(pins:List (Addr×Obj)) (s:Shared) (σ : St) (H:Hp) (x:V) (xs:List V) (v:Value) (us:List Value) (Q:VK),Inv X pins σ H s->zV x v->zQ xs us->r x xs H Q->
  wpAny (model X.prog X.w) X.A (call (.builtin id) (v::us)) (EP X pins σ Q) X.xe s
section
variable {X:Cx}{a b:Expr}{ta tb:TE}{pos:Pos}
theorem zB{r:R2}(hr:IxR X r) (ha:PE X a ta) (hb:PE X b tb) (hs:ziu b):PE X (.Subscript a b pos) (tOp r ta tb):=by
 refine⟨?_⟩;intro pins s σ H Q I h;exact Subscript_ (zkc ha hb I h fun v u s2 x y H2 I2 rx ry q=>hr a b pins s2 σ H2 x y v u Q I2 rx ry q (hs _ _))
inductive zmh(K:Frag) (x y:V) (H:Hp) (Q:VK):Prop where
 | mk (p:Addr) (xs:List V) (i:Int) (v:V) (e1:x=.ref p) (e2:y=.int i) (h:SqL K H p xs) (a:atI xs i=some v) (q:Q v H)
def zlH(K:Frag):R2:=fun x y H Q=>zmh K x y H Q
inductive zmg(K:Frag) (x y:V) (H:Hp) (Q:VK):Prop where
 | mk (p:Addr) (xs:List V) (i:Int) (v:V) (e1:x=.ref p) (e2:y=.int i) (h:SqT K H p xs) (a:atI xs i=some v) (q:Q v H)
def xk(K:Frag):R2:=fun x y H Q=>zmg K x y H Q
def zlG:R2:=fun x y H Q=>∃z i c,x=.str z/\y=.int i/\z.length<=sizeLine/\atI z.cps.toList i=some c/\Q (.str ⟨#[c]⟩) H
theorem yR:IxR X (zlH X.K):=by
 intro value slice pins s σ H x y v u Q I rx ry h hs;obtain⟨p,xs,i,z,rfl,rfl,hq,he,q⟩:=h;cases rx;obtain⟨t,rfl⟩:=ry;obtain⟨its,r,pl,hz⟩:=I.list hq;obtain⟨j,h1,h2,h3,h4,h5⟩:=zbc he;obtain⟨w,ew,rw'⟩:=r.get h2;have hl:=r.length;have hn:=ub;have fin:EP X pins σ Q w s:=⟨z,H,I,rw',q⟩;by_cases h0 : 0<=i
 ·have hj:i.toNat=j:=by
   rw[seqIndex_of h0 h5] at h1;exact Option.some.inj h1
  exact item_listR pl.isList h0 (by omega) (by rw[hj];simpa using ew) fin hs
 ·have hj:(i+(its.toArray.size:Int)).toNat=j:=by
   rw[seqIndex_neg (by omega) h4] at h1
   rw[size_toArray,<- hl];exact Option.some.inj h1
  exact subscriptTail_builtinR (x:=w) pl.isList.typeIs slot_list_getitem.lookup
   (wpAny_getItem_list_neg (Q:=fun r s'=>r=w/\EP X pins σ Q r s') pl.isList (by omega) (by rw[size_toArray] <;> omega) (by omega) (by rw[hj];simpa using ew) ⟨rfl,fin⟩) hs
theorem zw:IxR X (xk X.K):=by
 intro value slice pins s σ H x y v u Q I rx ry h hs;obtain⟨p,xs,i,z,rfl,rfl,hq,he,q⟩:=h;cases rx;obtain⟨t,rfl⟩:=ry;obtain⟨its,r,pl,hz⟩:=I.tuple hq;obtain⟨j,h1,h2,h3,h4,h5⟩:=zbc he;obtain⟨w,ew,rw'⟩:=r.get h2;have hl:=r.length;have hn:=ub;have fin:EP X pins σ Q w s:=⟨z,H,I,rw',q⟩;exact subscriptTail_builtinR (x:=w) pl.typeIs slot_tuple_getitem.lookup
  (getItem_tuple (j:=j) (Q:=fun r s'=>r=w/\EP X pins σ Q r s') pl (by omega) (by omega) (by rw[size_toArray,<- hl];exact h1) (by simpa using ew) ⟨rfl,fin⟩) hs
theorem u0:IxR X zlG:=by
 intro value slice pins s σ H x y v u Q I rx ry h hs;obtain⟨z,i,c,rfl,rfl,hz,he,q⟩:=h;obtain⟨t,rfl⟩:=rx;obtain⟨t',rfl⟩:=ry;obtain⟨j,h1,h2,h3,h4,h5⟩:=zbc he;have hl:z.cps.toList.length=z.length:=by simp [Str.length]
 rw[hl] at h1 h4 h5;have hn:=ub;exact tail_any (typeIs_str s z t) slot_str_getitem.lookup (getItem_str (c:=c) (by
  have e1:decide (i < -(2 ^ 63:Int))=false:=decide_eq_false (by omega)
  have e2:decide (i>=2 ^ 63)=false:=decide_eq_false (by omega)
  rw[e1,e2,Bool.or_false]) (by rw[h1];simpa using h2) ⟨.str ⟨#[c]⟩,H,I.tok _,⟨_,rfl⟩,q⟩) hs
theorem zcP(its:List Value) (n j:Nat) (u:Value):Obj.mapSeq (·.setIfInBounds j u) { cls:=.type "list",data:=.seq its.toArray n }={ cls:=.type "list",data:=.seq (its.set j u).toArray n }:=by
 simp [Obj.mapSeq]
theorem Inv.lst{pins:List (Addr×Obj)}{σ : St}{H:Hp}{s:Shared}{p:Addr}{xs:List V}(I:Inv X pins σ H s) (h:H p=some (.lst xs)) :
  ∃(its:List Value) (n:Nat),zQ xs its/\s.heap.get? p=some { cls:=.type "list",data:=.seq its.toArray n }/\xs.length<=sizeLine:=by
 obtain⟨z,its,n,r,e⟩:=I.hok p _ h;exact⟨its,n,r,e,z⟩
theorem Inv.lstUpd{pins:List (Addr×Obj)}{σ : St}{H:Hp}{s:Shared}{p:Addr}{xs ys:List V}{its its':List Value}{n n':Nat}{f:Obj->Obj}(I:Inv X pins σ H s) (h:H p=some (.lst xs))
  (ho:s.heap.get? p=some { cls:=.type "list",data:=.seq its.toArray n }) (hf:f { cls:=.type "list",data:=.seq its.toArray n }={ cls:=.type "list",data:=.seq its'.toArray n' }) (r:zQ ys its') (hz:ys.length<=sizeLine) (t:Nat) :
  Inv X pins σ (upd H p (.lst ys)) { s with heap:=s.heap.update p f,toks:=t }:=by
 have e:(s.heap.update p f).get? p=some { cls:=.type "list",data:=.seq its'.toArray n' }:=by
  rw[Heap.get?_update_self f ho (by rw[hf] <;> rfl),hf]
 refine I.write (x:=p) (e:=p) (by rw[h];trivial) (.inl rfl) (fun b u hb q=>(Heap.get?_update_other _ _ (Ne.symm hb)).trans q) ⟨_,e⟩ ?_
 exact⟨hz,its',n',r,e⟩
def zkJ:V->V->V->Hp->(Hp->Prop)->Prop:=fun o i v H Q=>∃p xs k j,o=.ref p/\i=.int k/\H p=some (.lst xs)/\ixN xs.length k=some j/\Q (upd H p (.lst (xs.set j v)))
theorem zbs:zlh X zkJ:=by
 intro pins s σ H o i v ov iv u Q I ro ri rv h;obtain⟨p,xs,k,j,rfl,rfl,hp,hj,q⟩:=h;cases ro;obtain⟨t,rfl⟩:=ri;obtain⟨its,n,r,ho,hz⟩:=I.lst hp;obtain⟨h1,h2,h3,h4⟩:=za3 hj;have hl:=r.length;have hn:=ub;have I':Inv X pins σ (upd H p (.lst (xs.set j v))) { s with heap:=s.heap.update p (Obj.mapSeq (·.setIfInBounds j u)) }:=
  I.lstUpd hp ho (zcP its n j u) (r.set rv j) (by rw[length_set];exact hz) s.toks
 by_cases h0 : 0<=k
 ·have hk:k.toNat=j:=by
   rw[seqIndex_of h0 h4] at h1;exact Option.some.inj h1
  exact PySem.W.ki_setAt ho h0 (by omega) (by rw[size_toArray,<- hl];exact h4) (by rw[hk];exact⟨_,I',q⟩)
 ·have hk:(k+(its.toArray.size:Int)).toNat=j:=by
   rw[seqIndex_neg (by omega) h3] at h1
   rw[size_toArray,<- hl];exact Option.some.inj h1
  exact PySem.W.ki_setBack ho (by omega) (by rw[size_toArray,<- hl];exact h3) (by omega) (by rw[hk];exact⟨_,I',q⟩)
theorem zaz(lo hi:Option Int) (n:Nat):(sliceBounds lo hi none n).1=((HT.sIx n 0 lo:Nat):Int)/\(sliceBounds lo hi none n).2.1=((HT.sIx n n hi:Nat):Int)/\(sliceBounds lo hi none n).2.2=1:=by
 refine⟨?_,?_,rfl⟩
 ·cases lo with
  | none=>simp [sliceBounds,HT.sIx]
  | some i=>
   simp only[sliceBounds,HT.sIx,getD_none,show(1:Int)>0 by decide,if_true]
   by_cases h:i<0
   ·simp only[h,if_true] <;> omega
   ·simp only[h,if_false] <;> omega
 ·cases hi with
  | none=>simp [sliceBounds,HT.sIx]
  | some i=>
   simp only[sliceBounds,HT.sIx,getD_none,show(1:Int)>0 by decide,if_true]
   by_cases h:i<0
   ·simp only[h,if_true] <;> omega
   ·simp only[h,if_false] <;> omega
theorem qx(its:List Value) (lo hi:Option Int):slicePick its.toArray lo hi none=((its.drop (HT.sIx its.length 0 lo)).take (HT.sIx its.length its.length hi - HT.sIx its.length 0 lo)).toArray:=by
 obtain⟨h1,h2,h3⟩:=zaz lo hi its.toArray.size;unfold slicePick;rw[h1,h2,h3];simp only[sliceRange_one,pick_run,size_toArray] <;> rfl
def zlC(K:Frag):V->Option Int->Option Int->Hp->VK->Prop:=fun x lo hi H Q=>∃a xs,x=.ref a/\SqL K H a xs/\∀p,H p=none->Q (.ref p) (upd H p (.lst (xo xs lo hi)))
theorem yU:SlR X (zlC X.K):=by
 intro pins s σ H x v vl vu lo hi sl Q I rx hs pl pu h;obtain⟨a,xs,rfl,hx,q⟩:=h;cases rx;obtain⟨its,r,ht,hz⟩:=I.list hx;have hlen:=r.length;refine⟨"list",_,slot_list_getitem.lookup,ht.isList.typeIs,?_⟩;refine wpAny_getItem_list_slice ht.isList hs pl pu .none (by simp) ?_ (by rw[size_toArray] <;> omega)
 rw[qx,<- hlen];refine⟨.ref s.heap.objs.size,_,I.laid (t':=s.toks) (o:=.lst (xo xs lo hi)) (fun b ob q=>Heap.get?_push_of_some _ q) (Nat.le_refl _) ?_,rfl,q _ (I.hok.fresh (Nat.le_refl _))⟩;exact⟨Nat.le_trans (ji xs lo hi) hz,_,0,(r.drop (HT.sIx xs.length 0 lo)).take (HT.sIx xs.length xs.length hi - HT.sIx xs.length 0 lo),Heap.get?_push_size _ rfl⟩
def xN:V->Bool
 | .non=>true
 | .bl _=>true
 | .int _=>true
 | .str _=>true
 | _=>false
def eqV:V->V->Bool
 | .non,.non=>true
 | .bl a,.bl b=>a==b
 | .bl a,.int b=>(if a then 1 else 0)==b
 | .int a,.bl b=>a==(if b then 1 else 0)
 | .int a,.int b=>a==b
 | .str a,.str b=>a==b
 | _,_=>false
theorem zgR{A:Around}{s:Shared}{y x:V}{u v:Value}(ry:zV y u) (rx:zV x v) (fy:xN y=true) (fx:xN x=true):SeqAt.EqAt A s u v (eqV y x):=by
 cases y with
 | non=>
  cases ry;cases x with
  | non=>cases rx;exact SeqAt.EqAt.same _
  | bl b=>cases rx;exact SeqAt.EqAt.none_bool b
  | int b=>obtain⟨t,rfl⟩:=rx;exact SeqAt.EqAt.none_int b t
  | str b=>obtain⟨t,rfl⟩:=rx;exact SeqAt.EqAt.none_str b t
  | _=>exact absurd (show false=true from fx) Bool.false_ne_true
 | bl a=>
  cases ry;cases x with
  | non=>cases rx;exact SeqAt.EqAt.bool_none a
  | bl b=>cases rx;exact SeqAt.EqAt.bool_bool a b
  | int b=>obtain⟨t,rfl⟩:=rx;exact SeqAt.EqAt.bool_int a b t
  | str b=>obtain⟨t,rfl⟩:=rx;exact SeqAt.EqAt.bool_str a b t
  | _=>exact absurd (show false=true from fx) Bool.false_ne_true
 | int a=>
  obtain⟨t',rfl⟩:=ry;cases x with
  | non=>cases rx;exact SeqAt.EqAt.int_none a t'
  | bl b=>cases rx;exact SeqAt.EqAt.int_bool a t' b
  | int b=>obtain⟨t,rfl⟩:=rx;exact SeqAt.EqAt.int_int a t' b t
  | str b=>obtain⟨t,rfl⟩:=rx;exact SeqAt.EqAt.int_str a t' b t
  | _=>exact absurd (show false=true from fx) Bool.false_ne_true
 | str a=>
  obtain⟨t',rfl⟩:=ry;cases x with
  | non=>cases rx;exact SeqAt.EqAt.str_none a t'
  | bl b=>cases rx;exact SeqAt.EqAt.str_bool a t' b
  | int b=>obtain⟨t,rfl⟩:=rx;exact SeqAt.EqAt.str_int a t' b t
  | str b=>obtain⟨t,rfl⟩:=rx;exact SeqAt.EqAt.str_str a t' b t
  | _=>exact absurd (show false=true from fx) Bool.false_ne_true
 | _=>exact absurd (show false=true from fy) Bool.false_ne_true
def eqU(x:V) (u:Value):Bool:=match u with
 | .none=>eqV .non x
 | .bool b=>eqV (.bl b) x
 | .int i _=>eqV (.int i) x
 | .str z _=>eqV (.str z) x
 | _=>false
theorem zgQ{x y:V}{u:Value}(r:zV y u) (f:xN y=true):eqU x u=eqV y x:=by
 cases y with
 | non=>cases r;rfl
 | bl b=>cases r;rfl
 | int i=>obtain⟨t,rfl⟩:=r;rfl
 | str z=>obtain⟨t,rfl⟩:=r;rfl
 | _=>exact absurd (show false=true from f) Bool.false_ne_true
theorem uM{x:V}:∀{xs:List V}{us:List Value},zQ xs us->xs.all xN=true->us.any (eqU x)=xs.any fun y=>eqV y x
 | _,_,.nil,_=>rfl
 | y::xs,u::us,.cons r t,f=>by
  rw[all_cons,Bool.and_eq_true] at f;rw[any_cons,any_cons,zgQ r f.1,uM t f.2]
theorem vm{A:Around}{s:Shared}{x:V}{v:Value}(rx:zV x v) (fx:xN x=true):∀{xs:List V}{us:List Value},zQ xs us->xs.all xN=true->∀u∈us,SeqAt.EqAt A s u v (eqU x u)
 | _,_,.nil,_=>fun u hu=>by cases hu
 | y::xs,u::us,.cons r t,f=>fun u' hu=>by
  rw[all_cons,Bool.and_eq_true] at f;rcases List.mem_cons.mp hu with rfl|hu
  ·rw[zgQ r f.1];exact zgR r rx f.1 fx
  ·exact vm rx fx t f.2 u' hu
def inV(x:V) (xs:List V):Bool:=xs.any fun y=>eqV y x
def rIn(K:Frag) (neg:Bool):R2:=fun x y H Q=>∃p xs,y=.ref p/\(SqL K H p xs\/SqT K H p xs)/\xN x=true/\xs.all xN=true/\Q (.bl (if neg then !inV x xs else inV x xs)) H
theorem yn:OpR X (compareOp .In) (rIn X.K false):=by
 intro pins s σ H x y v u Q I rx ry h;obtain⟨p,xs,rfl,hq,fx,fs,q⟩:=h;cases ry;rcases hq with hq|hq
 ·obtain⟨its,r,pl,hz⟩:=I.list hq
  refine SeqAt.in_listAt (eqU x) pl.isList (fun w hw=>vm rx fx r fs w (by simpa using hw)) ⟨.bl _,H,I,rfl,?_⟩
  rw[show its.toArray.any (eqU x)=its.any (eqU x) by simp,uM r fs]
  exact q
 ·obtain⟨its,r,pl,hz⟩:=I.tuple hq
  refine SeqAt.in_tupleAt (eqU x) pl (fun w hw=>vm rx fx r fs w (by simpa using hw)) ⟨.bl _,H,I,rfl,?_⟩
  rw[show its.toArray.any (eqU x)=its.any (eqU x) by simp,uM r fs]
  exact q
theorem yv:OpR X (compareOp .NotIn) (rIn X.K true):=by
 intro pins s σ H x y v u Q I rx ry h;obtain⟨p,xs,rfl,hq,fx,fs,q⟩:=h;cases ry;rcases hq with hq|hq
 ·obtain⟨its,r,pl,hz⟩:=I.list hq
  refine SeqAt.notIn_listAt (eqU x) pl.isList (fun w hw=>vm rx fx r fs w (by simpa using hw)) ⟨.bl _,H,I,rfl,?_⟩
  rw[show its.toArray.any (eqU x)=its.any (eqU x) by simp,uM r fs]
  exact q
 ·obtain⟨its,r,pl,hz⟩:=I.tuple hq
  refine SeqAt.notIn_tupleAt (eqU x) pl (fun w hw=>vm rx fx r fs w (by simpa using hw)) ⟨.bl _,H,I,rfl,?_⟩
  rw[show its.toArray.any (eqU x)=its.any (eqU x) by simp,uM r fs]
  exact q
theorem zF:xh X (.builtin "len") (fun xs H Q=>∃p ys,xs=[.ref p]/\(SqL X.K H p ys\/SqT X.K H p ys)/\Q (.int ys.length) H):=by
 intro pins s σ H xs us Q I r h;obtain⟨p,ys,rfl,hq,q⟩:=h;obtain⟨u,rfl,rx⟩:=wA r;cases rx;have hn:=ub;rcases hq with hq|hq
 ·obtain⟨its,r',pl,hz⟩:=I.list hq
  have hlen:=r'.length;exact Calls.call_len_list pl.isList (by simp only[size_toArray] <;> omega) ⟨.int ys.length,H,I.tok _,⟨s.toks+1,by rw[size_toArray,hlen]⟩,q⟩
 ·obtain⟨its,r',pl,hz⟩:=I.tuple hq
  have hlen:=r'.length;exact len_tuple pl (by simp only[size_toArray] <;> omega) ⟨.int ys.length,H,I.tok _,⟨s.toks+1,by rw[size_toArray,hlen]⟩,q⟩
theorem wX:xh X (.builtin "len") (fun xs H Q=>∃z,xs=[.str z]/\z.length<=sizeLine/\Q (.int z.length) H):=by
 intro pins s σ H xs us Q I r h;obtain⟨z,rfl,hz,q⟩:=h;obtain⟨u,rfl,t,rfl⟩:=wA r;have hn:=ub;exact len_str (by omega) ⟨.int z.length,H,I.tok _,⟨_,rfl⟩,q⟩
theorem yZ:xh X (.type "list") (fun xs H Q=>∃p ys,xs=[.ref p]/\(SqL X.K H p ys\/SqT X.K H p ys)/\∀l,H l=none->Q (.ref l) (upd H l (.lst ys))):=by
 intro pins s σ H xs us Q I r h;obtain⟨p,ys,rfl,hq,q⟩:=h;obtain⟨u,rfl,rx⟩:=wA r;cases rx;have fin:∀(its:List Value),zQ ys its->ys.length<=sizeLine->∀(h':Heap) (c':Nat),(∀b o',s.heap.get? b=some o'->h'.get? b=some o')->
   h'.get? s.heap.objs.size=some { cls:=.type "list",dict:=none,data:=.seq its.toArray c',slots:=#[] }->EP X pins σ Q (.ref s.heap.objs.size) { s with heap:=h' }:=fun its r' hz h' c' kp e=>
  ⟨.ref s.heap.objs.size,_,I.laid (t':=s.toks) kp (Nat.le_refl _) (show yH X.prog X.w _ h' _ (.lst ys) from ⟨hz,its,c',r',e⟩),rfl,q _ (I.hok.fresh (Nat.le_refl _))⟩
 rcases hq with hq|hq
 ·obtain⟨its,r',pl,hz⟩:=I.list hq
  have hlen:=r'.length;obtain⟨o,ho,hc,n,hd⟩:=pl.isList;exact call_list_seq p (.inl rfl) ho hc hd (fun h' c' kp e=>fin its r' hz h' c' kp e) (by simp only[size_toArray] <;> omega)
 ·obtain⟨its,r',pl,hz⟩:=I.tuple hq
  have hlen:=r'.length;obtain⟨o,ho,hc,n,hd⟩:=pl;exact call_list_seq p (.inr rfl) ho hc hd (fun h' c' kp e=>fin its r' hz h' c' kp e) (by simp only[size_toArray] <;> omega)
def tyV(K:Frag) (T:String) (x:V) (H:Hp):Prop:=match x with
 | .str _=>T="str"
 | .int _=>T="int"
 | .ref p=>(T="list"/\∃xs,SqL K H p xs)\/(T="tuple"/\∃o,K.lookup p=some o/\o.cls=.type "tuple"/\o.dict=none)\/
   (T="dict"/\((∃kvs,H p=some (.dK kvs))\/∃kvs,H p=some (.dT kvs)))\/(T="set"/\∃S n,H p=some (.set S n))
 | _=>False
theorem zi0{pins:List (Addr×Obj)}{σ : St}{H:Hp}{s:Shared}{T:String}{x:V}{v:Value}(I:Inv X pins σ H s) (r:zV x v) (ty:tyV X.K T x H) :
  s.TypeIs v T/\∀a,v=.ref a->∃ob,s.heap.get? a=some ob/\ob.dict=none:=by
 cases x with
 | str z=>
  obtain⟨t,rfl⟩:=r;cases (show T="str" from ty);exact⟨typeIs_str s z t,fun _ e=>nomatch e⟩
 | int i=>
  obtain⟨t,rfl⟩:=r;cases (show T="int" from ty);exact⟨typeIs_int s i t,fun _ e=>nomatch e⟩
 | ref p=>
  cases r;rcases ty with ⟨rfl,xs,hq⟩|⟨rfl,o,hk,hc,hd⟩|⟨rfl,hk⟩|⟨rfl,S,n,hk⟩
  ·obtain⟨its,_,pl,_⟩:=I.list hq
   refine⟨pl.isList.typeIs,fun a e=>?_⟩;cases e;obtain⟨o,n,e,c,hd,_⟩:=pl;exact⟨o,e,hd⟩
  ·refine⟨⟨o,I.kIn p o hk,hc⟩,fun a e=>?_⟩
   cases e;exact⟨o,I.kIn _ o hk,hd⟩
  ·have z:∃o,s.heap.get? p=some o/\o.ExactDict:=by
    rcases hk with ⟨kvs,hk⟩|⟨kvs,hk⟩
    ·obtain⟨_,_,_,_,o,_,_,e,ex,_⟩:=I.hok p _ hk
     exact⟨o,e,ex⟩
    ·obtain⟨_,_,_,_,o,_,_,e,ex,_⟩:=I.hok p _ hk
     exact⟨o,e,ex⟩
   obtain⟨o,e,ex⟩:=z;refine⟨⟨o,e,ex.1⟩,fun a e2=>?_⟩;cases e2;exact⟨o,e,ex.2.1⟩
  ·obtain⟨o,_,_,_,e,ex,_⟩:=I.hok p _ hk
   refine⟨⟨o,e,ex.1⟩,fun a e2=>?_⟩;cases e2;exact⟨o,e,ex.2.1⟩
 | _=>exact False.elim ty
def tBM(K:Frag) (T:String) (r:V->List V->Hp->VK->Prop) (to:TE) (t:TA):TE:=fun σ H Q=>to σ H fun x H1=>tyV K T x H1/\t σ H1 fun xs H2=>r x xs H2 Q
variable {o e:Expr}{es:List Expr}{to:TE}{t:TA}{name:Str}{apos cpos:Pos}{T id:String}{r:V->List V->Hp->VK->Prop}
theorem xL(pa:PlainAttrs T) (slot:Slot T name id) (hty:typeOf (.builtin id)=pure (.type "method_descriptor")) (hm:MtR X id r) (ho:PE X o to) (ha:PA X (e::es) t)
  (hbase:attributeBase o name X.env (eval o X.env)=eval o X.env:=by rfl)
  (hfew:((backTo cpos (starEach (e::es) X.env)).all (fun x=>!x.1)&&(backToKw cpos (keywordEach [] X.env)).all (fun x=>x.1.isSome)
   && decide ((e::es).length+([]:List Keyword).length+(if ([]:List Keyword).isEmpty then 0 else 1)<30))=true:=by rfl)
  (hline:(apos.endLine==cpos.line)=true:=by rfl) (hs:starEach (e::es) X.env=(false,eval e X.env)::starEach es X.env:=by rfl) (hplain:(backTo cpos (starEach es X.env)).any (·.1)=false:=by rfl) :
  PE X (.Call (.Attribute o name apos) (e::es) [] cpos) (tBM X.K T r to t):=by
 refine⟨?_⟩;intro pins s σ H Q I h;refine wpAny_Call_method_late hbase hfew hline rfl (thn (ho pins s σ H _ I h) fun v s1 ⟨x,H1,I1,r1,ty,q1⟩=>?_);obtain⟨h1,h2⟩:=zi0 I1 r1 ty;refine⟨T,id,pa,slot,hty,h1,h2,?_⟩;have hA:=ha cpos pins s1 σ H1 _ I1 q1;rw[hs] at hA |-;refine Calls.callWith_builtin (by show(false||(backTo cpos (starEach es X.env)).any (·.1))=false;rw[hplain] <;> rfl) (Calls.evalArgs_plain ?_)
 exact thn hA fun us s2 ⟨vs,H2,I2,r2,q2⟩=>hm pins s2 σ H2 x vs v us Q I2 r1 r2 q2
end
def MtM(X:Cx) (id:String) (r:V->List V->Hp->VK->Prop):Prop:=
 ∀(pins:List (Addr×Obj)) (s:Shared) (σ : St) (H:Hp) (x:V) (xs:List V) (v:Value) (us:List Value) (Q:VK),Inv X pins σ H s->zV x v->zQ xs us->r x xs H Q->
  wpAny (model X.prog X.w) X.A (call (.builtin id) (v::us)) (EP X pins σ Q) X.xe s
theorem zQ.one:∀{x:V}{us:List Value},zQ [x] us->∃u,us=[u]/\zV x u
 | _,_,.cons r .nil=>⟨_,rfl,r⟩
theorem zQ.eraseIdx:∀{xs:List V}{us:List Value}(i:Nat),zQ xs us->zQ (xs.eraseIdx i) (us.eraseIdx i)
 | _,_,_,.nil=>.nil
 | _,_,0,.cons _ t=>t
 | _,_,i+1,.cons r t=>.cons r (zQ.eraseIdx i t)
theorem zQ.rep{xs:List V}{us:List Value}(h:zQ xs us):∀k:Nat,zQ (List.replicate k xs).flatten (List.replicate k us).flatten
 | 0=>.nil
 | k+1=>by
  rw[replicate_succ,replicate_succ,flatten_cons,flatten_cons];exact zQ.append h (zQ.rep h k)
theorem qX{α : Type}:∀(l:List α) (i:Nat),(l.eraseIdx i).length<=l.length
 | [],_=>Nat.le_refl _
 | _::_,0=>le_succ _
 | _::r,i+1=>Nat.succ_le_succ (qX r i)
theorem zad(its:List Value):∀(k:Nat) (acc:List Value),
  List.foldl (fun x1 x2=>x1++x2) acc.toArray (List.replicate k its.toArray)=(acc++(List.replicate k its).flatten).toArray
 | 0,acc=>by simp
 | k+1,acc=>by
  have e:acc.toArray++its.toArray=(acc++its).toArray:=by simp
  have e2:(acc++its)++(List.replicate k its).flatten=acc++(List.replicate (k+1) its).flatten:=by
   rw[replicate_succ,flatten_cons,append_assoc]
  rw[<- e2,<- zad its k (acc++its),<- e,replicate_succ,List.foldl_cons]
section
variable {X:Cx}{pins:List (Addr×Obj)}{σ : St}{H:Hp}{s:Shared}{l b:Addr}{xs ys zs:List V}
theorem Inv.lset{its its':List Value}{n:Nat}{f:Array Value->Array Value}{t':Nat}(I:Inv X pins σ H s) (hH:H l=some (.lst xs))
  (e:s.heap.get? l=some { cls:=.type "list",data:=.seq its.toArray n }) (hf:f its.toArray=its'.toArray) (hv:zQ ys its') (hz:ys.length<=sizeLine) :
  Inv X pins σ (upd H l (.lst ys)) { s with heap:=s.heap.update l (Obj.mapSeq f),toks:=t' }:=by
 have q:=PySem.IsL.update e f;rw[hf] at q;refine I.write (x:=l) (e:=l) (by rw[hH];exact trivial) (.inl rfl) (fun b' u hb hu=>(Heap.get?_update_other s.heap (Obj.mapSeq f) (Ne.symm hb)).trans hu) ⟨_,q⟩ ?_
 exact⟨hz,its',_,hv,q⟩
theorem Inv.lnew{its:List Value}{t':Nat}(I:Inv X pins σ H s) (hv:zQ ys its) (hz:ys.length<=sizeLine) :
  Inv X pins σ (upd H s.heap.objs.size (.lst ys)) { s with heap:=s.heap.push { cls:=.type "list",data:=.seq its.toArray },toks:=t' }:=
 I.laid (fun _ _ q=>Heap.get?_push_of_some _ q) (Nat.le_refl _) ⟨hz,its,0,hv,Heap.get?_push_size _ rfl⟩
theorem Inv.fresh(I:Inv X pins σ H s):H s.heap.objs.size=none:=I.hok.fresh (Nat.le_refl _)
theorem Inv.lstM(I:Inv X pins σ H s) (hH:H l=some (.lst xs)):xs.length<=sizeLine/\∃(its:List Value) (n:Nat),zQ xs its/\xs.length=its.length/\s.heap.get? l=some { cls:=.type "list",data:=.seq its.toArray n }:=by
 obtain⟨z,its,n,r,e⟩:=I.hok l _ hH;exact⟨z,its,n,r,r.length,e⟩
theorem zbL{n:Nat}(h:n<=sizeLine):Builtin.List.listTooLong n=false:=by
 unfold Builtin.List.listTooLong;exact decide_eq_false (by omega)
end
section
variable {X:Cx}
def zhA:V->List V->Hp->VK->Prop:=fun x vs H Q=>∃l xs y,x=.ref l/\vs=[y]/\H l=some (.lst xs)/\xs.length<sizeLine/\Q .non (upd H l (.lst (xs++[y])))
theorem yu:MtM X "list.append" zhA:=by
 intro pins s σ H x vs v us Q I rx rv h;obtain⟨l,xs,y,rfl,rfl,hH,hz,q⟩:=h;cases rx;obtain⟨u,rfl,ru⟩:=rv.one;obtain⟨z,its,n,r,hl,e⟩:=I.lstM hH;refine call_meets F.slot_list_append ⟨_,e,rfl⟩ F.entry_list_append (F.args_list_append_2 _ _) (PySem.list_append l its.toArray n u (by rw[size_toArray];omega)) ⟨e,?_⟩
 refine⟨.non,_,I.lset (its':=its++[u]) hH e (by simp) (r.append (.cons ru .nil)) ?_,rfl,q⟩
 rw[length_append,length_singleton];omega
def zhz:V->List V->Hp->VK->Prop:=fun x vs H Q=>∃l b xs zs,x=.ref l/\vs=[.ref b]/\H l=some (.lst xs)/\H b=some (.lst zs)/\xs.length+zs.length<=sizeLine/\Q .non (upd H l (.lst (xs++zs)))
theorem qW:MtM X "list.extend" zhz:=by
 intro pins s σ H x vs v us Q I rx rv h;obtain⟨l,b,xs,zs,rfl,rfl,hH,hB,hz,q⟩:=h;cases rx;obtain⟨u,rfl,ru⟩:=rv.one;cases ru;obtain⟨z,its,n,r,hl,e⟩:=I.lstM hH;obtain⟨z2,its2,n2,r2,hl2,e2⟩:=I.lstM hB;have hsz:its.toArray.size+its2.toArray.size<=sizeLine:=by rw[size_toArray,size_toArray];omega
 have hlong:¬(!its.toArray.isEmpty&&Builtin.List.listTooLong (its.toArray.size+its2.toArray.size))=true:=by
  rw[zbL hsz,Bool.and_false];exact Bool.false_ne_true
 refine call_meets F.slot_list_extend ⟨_,e,rfl⟩ F.entry_list_extend (F.args_list_extend_2 _ _)
  (AutoSeq1.list_extend_list_list_0 l its.toArray n b its2.toArray n2 hlong (by rw[size_toArray];omega) (by omega)) ⟨e,e2,?_⟩
 refine⟨.non,_,I.lset (its':=its++its2) hH e (by simp) (r.append r2) ?_,rfl,q⟩
 rw[length_append];omega
def zjD:V->List V->Hp->VK->Prop:=fun x vs H Q=>∃l xs i k y,x=.ref l/\vs=[.int i]/\H l=some (.lst xs)/\-(2 ^ 63)<=i/\i<2 ^ 63/\seqIndex? i xs.length=some k/\xs[k]?=some y/\Q y (upd H l (.lst (xs.eraseIdx k)))
theorem zgu:MtM X "list.pop" zjD:=by
 intro pins s σ H x vs v us Q I rx rv h;obtain⟨l,xs,i,k,y,rfl,rfl,hH,h1,h2,hk,hy,q⟩:=h;cases rx;obtain⟨u,rfl,ru⟩:=rv.one;obtain⟨t,rfl⟩:=ru;obtain⟨z,its,n,r,hl,e⟩:=I.lstM hH;obtain⟨w,hw,rw'⟩:=r.get hy;refine call_meets F.slot_list_pop ⟨_,e,rfl⟩ F.entry_list_pop (F.args_list_pop_2 _ _)
  (MeetsSeq.list_pop_at l its.toArray n i t k w (fitsIndex_both h1 h2) (by rw[size_toArray,<- hl];exact hk) (by rw[<- Array.getElem?_toList];exact hw) (by rw[size_toArray];omega)) ⟨e,?_⟩
 refine⟨y,_,I.lset (its':=its.eraseIdx k) hH e ?_ (r.eraseIdx k) ?_,rw',q⟩
 ·show its.toArray.eraseIdxIfInBounds k=(its.eraseIdx k).toArray
  rw[List.eraseIdxIfInBounds_toArray]
 ·have:=qX xs k
  omega
def zlI:R2:=fun x y H Q=>∃l b xs zs,x=.ref l/\y=.ref b/\H l=some (.lst xs)/\H b=some (.lst zs)/\xs.length+zs.length<=sizeLine/\∀p,H p=none->Q (.ref p) (upd H p (.lst (xs++zs)))
theorem ym:OpR X (binaryOp .Add) zlI:=by
 intro pins s σ H x y v u Q I rx ry h;obtain⟨l,b,xs,zs,rfl,rfl,hH,hB,hz,q⟩:=h;cases rx;cases ry;obtain⟨z,its,n,r,hl,e⟩:=I.lstM hH;obtain⟨z2,its2,n2,r2,hl2,e2⟩:=I.lstM hB;refine PySem.P.add_list e e2 ?_ (by rw[size_toArray,size_toArray];omega)
 have ea:its.toArray++its2.toArray=(its++its2).toArray:=by simp
 rw[ea];exact⟨.ref _,_,I.lnew (t':=s.toks) (r.append r2) (by rw[length_append];omega),rfl,q _ I.fresh⟩
def zlD:R2:=fun x y H Q=>∃l k xs,x=.ref l/\y=.int k/\H l=some (.lst xs)/\-(2 ^ 63)<=k/\k<2 ^ 63/\xs.length * k.toNat<=sizeLine/\
 ∀p,H p=none->Q (.ref p) (upd H p (.lst (List.replicate k.toNat xs).flatten))
theorem zh5{α : Type}(xs:List α) (k:Nat):(List.replicate k xs).flatten.length=k * xs.length:=by
 induction k with
 | zero=>simp
 | succ k ih=>rw[replicate_succ,flatten_cons,length_append,ih,Nat.succ_mul,Nat.add_comm]
theorem zf1:OpR X (binaryOp .Mult) zlD:=by
 intro pins s σ H x y v u Q I rx ry h;obtain⟨l,k,xs,rfl,rfl,hH,h1,h2,hz,q⟩:=h;cases rx;obtain⟨t,rfl⟩:=ry;obtain⟨z,its,n,r,hl,e⟩:=I.lstM hH;have hlen:its.toArray.size * k.toNat<=sizeLine:=by rw[size_toArray,<- hl];exact hz
 have hcap:¬its.toArray.size * k.toNat>(2 ^ 63 - 1) / 8:=by
  have:(sizeLine:Nat)<=(2 ^ 63 - 1) / 8:=by decide
  omega
 have hfit:¬(!Builtin.List.listFitsIndex k)=true:=by
  rw[fitsIndex_both h1 h2];exact Bool.false_ne_true
 have hlong:¬Builtin.List.listTooLong (its.toArray.size * k.toNat)=true:=by
  rw[zbL hlen];exact Bool.false_ne_true
 have hnew:List.foldl (fun x1 x2=>x1++x2) #[] (List.replicate (if its.toArray.isEmpty=true then 0 else k.toNat) its.toArray)=(List.replicate k.toNat its).flatten.toArray:=by
  have f0:∀m:Nat,List.foldl (fun x1 x2=>x1++x2) #[] (List.replicate m its.toArray)=(List.replicate m its).flatten.toArray:=fun m=>by
   have:=zad its m []
   rw[nil_append] at this;exact this
  rw[f0];cases its with
  | nil=>simp
  | cons a r'=>rw[if_neg (by simp)]
 refine wpAny_binaryOp_repeat_ref (T:="list") (U:="int") (by decide) ⟨_,e,rfl⟩ (fun s'=>typeIs_int s' k t) noFill_list_mul F.fills_int_mul F.slot_int_rmul repeat_list F.slot_int_index.lookup
  (call_meets F.slot_int_rmul (typeIs_int s k t) F.entry_int_rmul (F.args_int_rmul_2 _ _) (int___rmul___int_list k t l its.toArray n)
   ⟨e,rfl,⟨_,e,rfl⟩,call_meets F.slot_list_mul ⟨_,e,rfl⟩ F.entry_list_mul (F.args_list_mul_2 _ _) (AutoListH.list___mul___list_int_3 l its.toArray n k t hfit hcap hlong) ⟨e,?_⟩⟩)
 rw[hnew];exact⟨.ref _,_,I.lnew (t':=s.toks) (r.rep k.toNat) (by rw[zh5,Nat.mul_comm];exact hz),rfl,q _ I.fresh⟩
end
section
variable {prog:Program}{w:World}{A:Around}{E:Value->Shared->Prop}{s:Shared}
end
section
variable {X:Cx}
end
section
variable {κ : Type}[DecidableEq κ]
def z5(kvs:List (κ×V)) (k : κ):Option V:=(kvs.find? fun kv=>decide (kv.1=k)).map (·.2)
def xb(kvs:List (κ×V)) (k : κ) (v:V):List (κ×V):=
 if (kvs.any fun kv=>decide (kv.1=k))=true then kvs.map (fun kv=>if kv.1=k then (kv.1,v) else kv) else kvs++[(k,v)]
theorem y8{p : κ×V}{r:List (κ×V)}{k : κ}(e:p.1=k):z5 (p::r) k=some p.2:=by simp [z5,find?_cons,e]
theorem y9{p : κ×V}{r:List (κ×V)}{k : κ}(e:¬p.1=k):z5 (p::r) k=z5 r k:=by simp [z5,find?_cons,e]
theorem wB(k : κ):∀kvs:List (κ×V),(kvs.any fun kv=>decide (kv.1=k))=(z5 kvs k).isSome
 | []=>rfl
 | p::r=>by
  rw[any_cons];by_cases e:p.1=k
  ·simp only[y8 e,decide_eq_true e,Bool.true_or,Option.isSome_some]
  ·rw[y9 e,decide_eq_false e,Bool.false_or];exact wB k r
theorem zbh(k j : κ) (y:V):∀kvs:List (κ×V),z5 (kvs.map fun kv=>if kv.1=k then (kv.1,y) else kv) j=(z5 kvs j).map fun x=>if j=k then y else x
 | []=>rfl
 | p::r=>by
  have ih:=zbh k j y r;rw[map_cons];by_cases h:p.1=k
  ·rw[if_pos h]
   by_cases e:p.1=j
   ·rw[y8 (p:=(p.1,y)) e,y8 e,map_some,if_pos (e.symm.trans h)]
   ·rw[y9 (p:=(p.1,y)) e,y9 e,ih]
  ·rw[if_neg h]
   by_cases e:p.1=j
   ·rw[y8 (p:=p) e,y8 e,map_some,if_neg (fun z=>h (e.trans z))]
   ·rw[y9 (p:=p) e,y9 e,ih]
theorem qH(k j : κ) (y:V):∀kvs:List (κ×V),z5 kvs k=none->z5 (kvs++[(k,y)]) j=if j=k then some y else z5 kvs j
 | [],_=>by
  by_cases e:k=j
  ·rw[if_pos e.symm];exact y8 (p:=(k,y)) e
  ·rw[if_neg (fun z=>e z.symm)];exact y9 (p:=(k,y)) e
 | p::r,hn=>by
  rw[List.cons_append];have hk:¬p.1=k:=fun z=>by rw[y8 z] at hn;cases hn
  rw[y9 hk] at hn;have ih:=qH k j y r hn;by_cases e:p.1=j
  ·rw[y8 e,y8 e,if_neg (fun z=>hk (e.trans z))]
  ·rw[y9 e,y9 e,ih]
theorem zbg(kvs:List (κ×V)) (k j : κ) (y:V):z5 (xb kvs k y) j=if j=k then some y else z5 kvs j:=by
 unfold xb;by_cases a:(kvs.any fun kv=>decide (kv.1=k))=true
 ·rw[if_pos a,zbh]
  rw[wB] at a;by_cases e:j=k
  ·obtain⟨x,hx⟩:=Option.isSome_iff_exists.mp a
   rw[if_pos e,e,hx,map_some,if_pos rfl]
  ·rw[if_neg e]
   cases z5 kvs j with
   | none=>rfl
   | some x=>rw[map_some,if_neg e]
 ·rw[if_neg a]
  refine qH k j y kvs ?_;rw[wB] at a;cases q:z5 kvs k with
  | none=>rfl
  | some x=>rw[q] at a;exact(a rfl).elim
theorem xM(kvs:List (κ×V)) (k : κ) (v:V):(xb kvs k v).length<=kvs.length+1:=by
 unfold xb;split
 ·rw[length_map];omega
 ·rw[length_append,length_cons,length_nil];omega
theorem w9.isSome_eq{o:Option V}{u:Option Value}(r:w9 o u):o.isSome=u.isSome:=by
 cases o with
 | none=>cases u with
  | none=>rfl
  | some _=>exact(show False from r).elim
 | some _=>cases u with
  | none=>exact(show False from r).elim
  | some _=>rfl
theorem w9.getD{o:Option V}{u:Option Value}{d:V}{d':Value}(r:w9 o u) (rd:zV d d'):zV (o.getD d) (u.getD d'):=by
 cases o with
 | none=>cases u with
  | none=>exact rd
  | some _=>exact(show False from r).elim
 | some _=>cases u with
  | none=>exact(show False from r).elim
  | some _=>exact r
theorem KV.val{kvs:List (κ×V)}{vs:List (κ×Value)}(r:KV kvs vs) (k : κ):w9 (z5 kvs k) (valueAt vs k):=by
 unfold KV at r;induction r with
 | nil=>exact True.intro
 | @cons p q ps qs h t ih=>
  obtain⟨h1,h2⟩:=h;by_cases e:p.1=k
  ·have e':q.1=k:=h1.symm.trans e
   have b:valueAt (q::qs) k=some q.2:=by simp [valueAt,find?_cons,e']
   rw[y8 e,b];exact h2
  ·have e':¬q.1=k:=fun z=>e (h1.trans z)
   have b:valueAt (q::qs) k=valueAt qs k:=by simp [valueAt,find?_cons,e']
   rw[y9 e,b];exact ih
theorem KV.any{kvs:List (κ×V)}{vs:List (κ×Value)}(r:KV kvs vs) (k : κ):(kvs.any fun kv=>decide (kv.1=k))=vs.any fun kv=>decide (kv.1=k):=by
 unfold KV at r;induction r with
 | nil=>rfl
 | cons h t ih=>rw[any_cons,any_cons,ih,h.1]
theorem KV.repl{kvs:List (κ×V)}{vs:List (κ×Value)}(r:KV kvs vs) (k : κ) {y:V}{u:Value}(ry:zV y u) :
  KV (kvs.map fun kv=>if kv.1=k then (kv.1,y) else kv) (vs.map fun kv=>if kv.1=k then (kv.1,u) else kv):=by
 unfold KV at r |-;induction r with
 | nil=>exact .nil
 | @cons p q ps qs h t ih=>
  rw[map_cons,map_cons];refine .cons ?_ ih;obtain⟨h1,h2⟩:=h;by_cases e:p.1=k
  ·rw[if_pos e,if_pos (h1.symm.trans e)];exact⟨h1,ry⟩
  ·rw[if_neg e,if_neg (fun z=>e (h1.trans z))];exact⟨h1,h2⟩
theorem KV.put{kvs:List (κ×V)}{vs:List (κ×Value)}(r:KV kvs vs) (k : κ) {y:V}{u:Value}(ry:zV y u):KV (xb kvs k y) (stored vs k u):=by
 unfold xb stored;rw[r.any k];by_cases e:(vs.any fun kv=>decide (kv.1=k))=true
 ·rw[if_pos e,if_pos e];exact r.repl k ry
 ·rw[if_neg e,if_neg e];exact Paired.snoc r ⟨rfl,ry⟩
theorem KV.length{kvs:List (κ×V)}{vs:List (κ×Value)}(r:KV kvs vs):kvs.length=vs.length:=Paired.length r
end
theorem qe{P:Program}{w:World}{k:Key}{u:Value}(r:zV (kV k) u):(yo P w).is k u=true:=by
 cases k with
 | inl i=>obtain⟨t,e⟩:=(show ∃t,u=Value.int i t from r);subst e;exact zbP P w i t
 | inr x=>obtain⟨t,e⟩:=(show ∃t,u=Value.str x t from r);subst e;exact zbO P w x t
theorem qZ{P:Program}{w:World}:∀{ks:List Key}{us:List Value},zQ (ks.map kV) us->ItemsAre (yo P w) ks us
 | [],_,r=>by rw[map_nil] at r;cases r;exact .nil
 | k::ks,_,r=>by
  rw[map_cons] at r;cases r with
  | cons h t=>exact .cons (qe h) (qZ t)
abbrev KT(H:Hp):List (List Key×V)->List (List Key×Addr×Value)->Prop:=Paired fun p q=>p.1=q.1/\H q.2.1=some (.tup (p.1.map kV))/\zV p.2 q.2.2
theorem KT.val{H:Hp}{kvs:List (List Key×V)}{xs:List (List Key×Addr×Value)}(r:KT H kvs xs) (k:List Key):w9 (z5 kvs k) ((atKey xs k).map (·.2)):=by
 induction r with
 | nil=>exact True.intro
 | @cons p q ps qs h t ih=>
  obtain⟨h1,_,h2⟩:=h;by_cases e:p.1=k
  ·have e':q.1=k:=h1.symm.trans e
   have b:atKey (q::qs) k=some q.2:=by simp [atKey,find?_cons,e']
   rw[y8 e,b];exact h2
  ·have e':¬q.1=k:=fun z=>e (h1.trans z)
   have b:atKey (q::qs) k=atKey qs k:=by simp [atKey,find?_cons,e']
   rw[y9 e,b];exact ih
theorem KT.repl{H:Hp}{kvs:List (List Key×V)}{xs:List (List Key×Addr×Value)}(r:KT H kvs xs) (k:List Key) {y:V}{u:Value}(ry:zV y u) :
  KT H (kvs.map fun kv=>if kv.1=k then (kv.1,y) else kv) (xs.map (putAt k u)):=by
 induction r with
 | nil=>exact .nil
 | @cons p q ps qs h t ih=>
  rw[map_cons,map_cons];refine .cons ?_ ih;obtain⟨h1,h2,h3⟩:=h;unfold putAt;by_cases e:p.1=k
  ·rw[if_pos e,if_pos (h1.symm.trans e)];exact⟨h1,h2,ry⟩
  ·rw[if_neg e,if_neg (fun z=>e (h1.trans z))];exact⟨h1,h2,h3⟩
theorem KT.put{H:Hp}{kvs:List (List Key×V)}{xs:List (List Key×Addr×Value)}(r:KT H kvs xs) (k:List Key) {b:Addr}{y:V}{u:Value}(hb:H b=some (.tup (k.map kV))) (ry:zV y u) :
  KT H (xb kvs k y) (storedH xs k b u):=by
 have e:(kvs.any fun kv=>decide (kv.1=k))=(atKey xs k).isSome:=by
  rw[wB,(r.val k).isSome_eq,isSome_map]
 unfold xb storedH;rw[e];by_cases q:(atKey xs k).isSome=true
 ·rw[if_pos q,if_pos q];exact r.repl k ry
 ·rw[if_neg q,if_neg q];exact Paired.snoc r ⟨rfl,hb,ry⟩
theorem KT.keeps{H H':Hp}{kvs:List (List Key×V)}{xs:List (List Key×Addr×Value)}(r:KT H kvs xs) (ht:∀b ys,H b=some (.tup ys)->H' b=some (.tup ys)):KT H' kvs xs:=
 Paired.mapP r fun _ _ z=>⟨z.1,ht _ _ z.2.1,z.2.2⟩
section
variable {P:Program}{w:World}{H:Hp}{h:Heap}{a:Addr}
theorem ziO{u:HO}(ok:HOk P w H h) (e:Rd H a u):yH P w H h a u:=e.ok ok
theorem qp{kvs:List (Key×V)}(ok:HOk P w H h) (e:Rd H a (.dK kvs)):kvs.length<=sizeLine/\(a==sysModules)=false/\∃vs,KV kvs vs/\h.DictOf (yo P w) a vs:=
 show yH P w H h a (.dK kvs) from ziO ok e
theorem ziX{kvs:List (Key×V)}(ok:HOk P w H h) (e:H a=some (.dK kvs)):kvs.length<=sizeLine/\(a==sysModules)=false/\∃vs,KV kvs vs/\h.DictOf (yo P w) a vs:=qp ok (.inl e)
theorem uZ{ks:List Key}(ok:HOk P w H h) (e:H a=some (.tup (ks.map kV))):(tupleKind (yo P w)).is h ks a:=by
 obtain⟨_,its,r,o,h1,h2,n,h3⟩:=(show yH P w H h a (.tup (ks.map kV)) from ok a _ e);exact⟨o,its.toArray,n,h1,h2,h3,by simpa using qZ r⟩
theorem ql{kvs:List (List Key×V)}(ok:HOk P w H h) (e:Rd H a (.dT kvs)):kvs.length<=sizeLine/\(a==sysModules)=false/\
  ∃xs,KT H kvs xs/\h.DictOfH (tupleKind (yo P w)) a xs:=by
 obtain⟨z,y,xs,r,o,es,ep,h1,h2,h3,h4,h5⟩:=(show yH P w H h a (.dT kvs) from ziO ok e);refine⟨z,y,xs,r,o,es,ep,h1,h2,h3,h4,fun x hx=>?_,h5⟩;have all:∀{l:List (List Key×V)}{m:List (List Key×Addr×Value)},KT H l m->∀x∈m,(tupleKind (yo P w)).is h x.1 x.2.1:=by
  intro l m q;induction q with
  | nil=>intro x hx;exact nomatch hx
  | @cons p q ps qs hq t ih=>
   intro x hx;rcases List.mem_cons.mp hx with e|hx
   ·subst e
    exact uZ ok (by rw[<- hq.1];exact hq.2.1)
   ·exact ih x hx
 exact all r x hx
theorem zlc{kvs:List (List Key×V)}(ok:HOk P w H h) (e:H a=some (.dT kvs)):kvs.length<=sizeLine/\(a==sysModules)=false/\
  ∃xs,KT H kvs xs/\h.DictOfH (tupleKind (yo P w)) a xs:=ql ok (.inl e)
end
def zbe(H:Hp) (a:Addr) (y:V) (r:Option V):Prop:=
 (∃kvs k,Rd H a (.dK kvs)/\y=kV k/\r=z5 kvs k)\/∃kvs k b,Rd H a (.dT kvs)/\y=.ref b/\H b=some (.tup (k.map kV))/\r=z5 kvs k
def zlj(H:Hp) (a:Addr) (y v:V) (H':Hp):Prop:=
 (∃kvs k,H a=some (.dK kvs)/\y=kV k/\kvs.length<sizeLine/\H'=upd H a (.dK (xb kvs k v)))\/
 ∃kvs k b,H a=some (.dT kvs)/\y=.ref b/\H b=some (.tup (k.map kV))/\kvs.length<sizeLine/\H'=upd H a (.dT (xb kvs k v))
section
variable {X:Cx}{pins:List (Addr×Obj)}{σ : St}{H:Hp}{s:Shared}{a:Addr}{y v:V}{u r:Value}{o:Option V}{A:Around}{E:Value->Shared->Prop}
theorem Inv.big(I:Inv X pins σ H s):sysModules<s.heap.objs.size:=by
 have h:mainGlobals<s.heap.objs.size:=(I.mod.glob.keeps I.bk).lt;exact lt_trans (by decide) h
theorem zeR{Q:Value->Shared->Prop}(hu:A.units+1<cLine) (I:Inv X pins σ H s) (g:zbe H a y (some v)) (ry:zV y u) (h:∀w' s',Inv X pins σ H s'->zV v w'->Q w' s') :
  wpAny (model X.prog X.w) A (getItem (.ref a) u) Q E s:=by
 rcases g with ⟨kvs,k,e,ey,l⟩|⟨kvs,k,b,e,ey,eb,l⟩
 ·subst ey
  obtain⟨z,hd,vs,rel,dd⟩:=qp I.hok e;obtain⟨w',hw,rw'⟩:=w9.some_of (v:=v) (o:=valueAt vs k) (by rw[l];exact rel.val k)
  exact wpAny_getItem_of (qe ry) dd.mapOf hw (h w' _ (I.tok _) rw')
 ·subst ey
  cases (show u=Value.ref b from ry);obtain⟨z,hd,xs,rel,dd⟩:=ql I.hok e;obtain⟨w',hw,rw'⟩:=w9.some_of (v:=v) (o:=(atKey xs k).map (·.2)) (by rw[l];exact rel.val k)
  obtain⟨p,hp,hp2⟩:=Option.map_eq_some_iff.mp hw;refine wpAny_getItem_heap (tupleKind_room_in1 hu) (uZ I.hok eb) dd hp ?_;rw[hp2];exact h w' _ (I.tok _) rw'
theorem zl3{Q:Value->Shared->Prop}(hu:A.units+1<cLine) (I:Inv X pins σ H s) (g:zbe H a y o) (ry:zV y u) (h:∀s',Inv X pins σ H s'->Q (.bool o.isSome) s') :
  wpAny (model X.prog X.w) A (compareOp .In u (.ref a)) Q E s:=by
 rcases g with ⟨kvs,k,e,ey,l⟩|⟨kvs,k,b,e,ey,eb,l⟩
 ·subst ey
  obtain⟨z,hd,vs,rel,dd⟩:=qp I.hok e;refine wpAny_in_of (qe ry) hd dd.mapOf ?_;rw[<- (rel.val k).isSome_eq,<- l];exact h _ (I.tok _)
 ·subst ey
  cases (show u=Value.ref b from ry);obtain⟨z,hd,xs,rel,dd⟩:=ql I.hok e;refine wpAny_in_heap (tupleKind_room_in1 hu) (uZ I.hok eb) hd dd ?_;have q:=(rel.val k).isSome_eq;rw[isSome_map] at q;rw[<- q,<- l];exact h _ (I.tok _)
theorem zil{Q:Value->Shared->Prop}(hu:A.units+1<cLine) (I:Inv X pins σ H s) (g:zbe H a y o) (ry:zV y u) (h:∀s',Inv X pins σ H s'->Q (.bool (!o.isSome)) s') :
  wpAny (model X.prog X.w) A (compareOp .NotIn u (.ref a)) Q E s:=by
 rcases g with ⟨kvs,k,e,ey,l⟩|⟨kvs,k,b,e,ey,eb,l⟩
 ·subst ey
  obtain⟨z,hd,vs,rel,dd⟩:=qp I.hok e;refine wpAny_notIn_of (qe ry) hd dd.mapOf ?_;rw[<- (rel.val k).isSome_eq,<- l];exact h _ (I.tok _)
 ·subst ey
  cases (show u=Value.ref b from ry);obtain⟨z,hd,xs,rel,dd⟩:=ql I.hok e;refine wpAny_notIn_heap (tupleKind_room_in1 hu) (uZ I.hok eb) hd dd ?_;have q:=(rel.val k).isSome_eq;rw[isSome_map] at q;rw[<- q,<- l];exact h _ (I.tok _)
theorem za7{h':Heap}{t':Nat}{ob:HO}(I:Inv X pins σ H s) (mu:Mut (H a)) (hs:Heap.SameBut a s.heap h') (he:∃q,h'.get? a=some q) (new:yH X.prog X.w (upd H a ob) h' a ob) :
  Inv X pins σ (upd H a ob) { s with heap:=h',toks:=t' }:=
 I.write (x:=a) (e:=a) mu (.inl rfl) (fun b q hb z=>(hs.2 b hb).trans z) he new
theorem zgU{P:Program}{w:World}{H':Hp}{h':Heap}{kvs:List (Key×V)}{vs:List (Key×Value)}(z:kvs.length<=sizeLine) (hd:(a==sysModules)=false) (rel:KV kvs vs) (dd:h'.DictOf (yo P w) a vs) :
  yH P w H' h' a (.dK kvs):=⟨z,hd,vs,rel,dd⟩
theorem zeQ{H':Hp}{Q:Unit->Shared->Prop}(hu:A.units+1<cLine) (I:Inv X pins σ H s) (g:zlj H a y v H') (ry:zV y u) (rv:zV v r) (h:∀s',Inv X pins σ H' s'->Q () s') :
  wpAny (model X.prog X.w) A (setItem (.ref a) u r) Q E s:=by
 rcases g with ⟨kvs,k,e,ey,l,eH⟩|⟨kvs,k,b,e,ey,eb,l,eH⟩
 ·subst ey eH
  obtain⟨z,hd,vs,rel,dd⟩:=ziX I.hok e;have hz:vs.length<=sizeLine:=by rw[<- rel.length];exact z
  have hl:(xb kvs k v).length<=sizeLine:=by have:=xM kvs k v;omega
  refine wpAny_setItem_pairs (hsz:=hz) (qe ry) dd fun h' dd' hs=>h _ ?_;have he:∃q,h'.get? a=some q:=let ⟨q,_,_,hq,_⟩:=dd';⟨q,hq⟩;exact za7 I (by rw[e];exact True.intro) hs he (zgU hl hd (rel.put k rv) dd')
 ·subst ey eH
  cases (show u=Value.ref b from ry);obtain⟨z,hd,xs,rel,dd⟩:=zlc I.hok e;have hz:xs.length<=sizeLine:=by rw[<- Paired.length rel];exact z
  have hl:(xb kvs k v).length<=sizeLine:=by have:=xM kvs k v;omega
  refine wpAny_setItem_heap (hsz:=hz) (tupleKind_room_in1 hu) (uZ I.hok eb) dd fun h' dd' hs=>h _ ?_;obtain⟨q,es,ep,hq,h2,h3,h4,_,h5⟩:=dd';refine za7 I (by rw[e];exact True.intro) hs ⟨q,hq⟩ ⟨hl,hd,_,(rel.put k eb rv).keeps fun c ys ec=>?_,q,es,ep,hq,h2,h3,h4,h5⟩
  rw[zh (xY ec e (fun z=>nomatch z))];exact ec
end
section
variable {X:Cx}{pins:List (Addr×Obj)}{σ : St}{H:Hp}{s:Shared}{a:Addr}{kvs:List (Key×V)}{k:Key}{u:Value}{A:Around}{E:Value->Shared->Prop}
end
def zki(i:Expr):Prop:=∀ov iv,subscripted i false ov iv=operate [ov,iv] (getItem ov iv)
theorem zdo{prog:Program}{w:World}{A:Around}{E:Value->Shared->Prop}{s:Shared}{env:Env}{value slice:Expr}{pos:Pos}{T id:String}{Q:Value->Shared->Prop}
  (hl:typeLookup (.type T) "__getitem__"=pure (some (.builtin id))) (hs:zki slice)
  (h:wpAny (model prog w) A (eval value env) (fun o s₁=>wpAny (model prog w) A (eval slice env) (fun i s₂=>s₂.TypeIs o T/\wpAny (model prog w) A (getItem o i) Q E s₂) E s₁) E s) :
  wpAny (model prog w) A (eval (.Subscript value slice pos) env) Q E s:=by
 refine Subscript_ (wpAny_mono h (fun o s₁ h₁=>wpAny_mono h₁ (fun i s₂ h₂=>?_) fun _ _ x=>x) fun _ _ x=>x);obtain⟨hT,h₂⟩:=h₂;unfold subscriptTail;refine wpAny_bind ?_;rw[getitemInPython_of_ne hT.not_modules];refine wpAny_bind (wpAny_specialOf hT hl ?_);have fin:wpAny (model prog w) A (subscripted slice false o i) (fun r s₃=>wpAny (model prog w) A (letTemporaryGo value o r >>= fun _=>pure r) Q E s₃) E s₂:=by
  rw[hs o i];exact wpAny_operating (wpAny_mono h₂ (fun r s₃ h₃=>wpAny_bind (wpAny_letTemporaryGo (wpAny_pure h₃))) fun _ _ x=>x)
 first
  | exact wpAny_pure (wpAny_bind fin)
  | exact wpAny_bind (wpAny_pure (wpAny_bind fin))
  | exact wpAny_bind fin
theorem zbY{X:Cx}{pins:List (Addr×Obj)}{σ : St}{H:Hp}{s:Shared}{a:Addr}{y:V}{o:Option V}(I:Inv X pins σ H s) (g:zbe H a y o):s.TypeIs (.ref a) "dict":=by
 rcases g with ⟨kvs,k,e,_,_⟩|⟨kvs,k,b,e,_,_,_⟩
 ·obtain⟨_,_,vs,_,dd⟩:=qp I.hok e
  exact dd.typeIs
 ·obtain⟨_,_,xs,_,dd⟩:=ql I.hok e
  exact dd.typeIs
def zku(td ty:TE):TE:=fun σ H Q=>td σ H fun x H1=>ty σ H1 fun y H2=>∃a v,x=.ref a/\zbe H2 a y (some v)/\Q v H2
def zlv(ty td:TE):TE:=fun σ H Q=>ty σ H fun y H1=>td σ H1 fun x H2=>∃a o,x=.ref a/\zbe H2 a y o/\Q (.bl o.isSome) H2
def zha(ty td:TE):TE:=fun σ H Q=>ty σ H fun y H1=>td σ H1 fun x H2=>∃a o,x=.ref a/\zbe H2 a y o/\Q (.bl (!o.isSome)) H2
def zkH(td ty tv:TE):TS:=fun D σ H=>tv σ H fun v H1=>td σ H1 fun x H2=>ty σ H2 fun y H3=>∃a H4,x=.ref a/\zlj H3 a y v H4/\D.nx σ H4
section
variable {X:Cx}{o i e value:Expr}{pos pos' tpos:Pos}{td ty tv:TE}
theorem zdM(hu:X.A.units+1<cLine) (ho:PE X o td) (hi:PE X i ty) (hs:zki i):PE X (.Subscript o i pos) (zku td ty):=by
 refine⟨?_⟩;intro pins s σ H Q I h;refine zdo PySem.F.slot_dict_getitem.lookup hs (thn (ho pins s σ H _ I h) fun u s1 ⟨x,H1,I1,rx,q1⟩=>thn (hi pins s1 σ H1 _ I1 q1) fun iv s2 ⟨y,H2,I2,ry,a,v,ex,g,q2⟩=>?_);subst ex;obtain rfl:u=Value.ref a:=rx;exact⟨zbY I2 g,zeR hu I2 g ry fun w' s3 I3 rw'=>⟨v,H2,I3,rw',q2⟩⟩
theorem zjJ(hu:X.A.units+1<cLine) (hi:PE X i ty) (ho:PE X o td):PC X .In i o (zlv ty td):=by
 refine⟨?_⟩;intro pins s σ H Q I h;refine thn (hi pins s σ H _ I h) fun iv s1 ⟨y,H1,I1,ry,q1⟩=>thn (ho pins s1 σ H1 _ I1 q1) fun u s2 ⟨x,H2,I2,rx,a,ov,ex,g,q2⟩=>?_;subst ex;obtain rfl:u=Value.ref a:=rx;exact zl3 hu I2 g ry fun s3 I3=>⟨.bl ov.isSome,H2,I3,rfl,q2⟩
theorem zeo(hu:X.A.units+1<cLine) (hi:PE X i ty) (ho:PE X o td):PC X .NotIn i o (zha ty td):=by
 refine⟨?_⟩;intro pins s σ H Q I h;refine thn (hi pins s σ H _ I h) fun iv s1 ⟨y,H1,I1,ry,q1⟩=>thn (ho pins s1 σ H1 _ I1 q1) fun u s2 ⟨x,H2,I2,rx,a,ov,ex,g,q2⟩=>?_;subst ex;obtain rfl:u=Value.ref a:=rx;exact zil hu I2 g ry fun s3 I3=>⟨.bl (!ov.isSome),H2,I3,rfl,q2⟩
theorem zhB(hu:X.A.units+1<cLine) (ho:PE X o td) (hi:PE X i ty) (hv:PE X value tv) (hs:swapsWith value (some (.Subscript o i pos')) pos.line X.env=pure false) :
  PS X (.Assign [.Subscript o i pos'] value pos) (zkH td ty tv):=by
 refine⟨?_⟩;intro pins s σ H D I h;refine wpAny_Assign_Subscript (thn (hv pins s σ H _ I h) fun r s1 ⟨v,H1,I1,rv,q1⟩=>thn (ho pins s1 σ H1 _ I1 q1) fun u s2 ⟨x,H2,I2,rx,q2⟩=>thn (hi pins s2 σ H2 _ I2 q2) fun iv s3 ⟨y,H3,I3,ry,a,H4,ex,g,q3⟩=>?_) hs;subst ex;obtain rfl:u=Value.ref a:=rx;exact zeQ hu I3 g ry rv fun s4 I4=>⟨σ,H4,I4,q3⟩
end
theorem zgV{P:Program}{w:World}{H:Hp}(h:Heap) (hb:sysModules<h.objs.size):yH P w H (h.push { cls:=.type "dict",data:=.dict #[] }) h.objs.size (.dK []):=
 ⟨zero_le _,beq_eq_false_iff_ne.mpr (Ne.symm (ne_of_lt hb)),[],.nil,Heap.DictOf.new h⟩
def zi6:TE:=fun _ H Q=>∀p,H p=none->Q (.ref p) (upd H p (.dK []))
section
variable {X:Cx}{pos:Pos}
theorem zfW:PE X (.Dict [] [] pos) zi6:=⟨fun pins s σ H Q I h=>
 wpAny_Dict_empty ⟨.ref s.heap.objs.size,_,I.laid (a:=s.heap.objs.size) (o:=.dK []) (t':=s.toks) (fun _ _ q=>Heap.get?_push_of_some _ q) (Nat.le_refl _) (zgV s.heap I.big),rfl,h _ (I.hok.fresh (Nat.le_refl _))⟩⟩
end
def zi3:List (TE×TE)->St->Hp->(List (V×V)->Hp->Prop)->Prop
 | [],_,H,Q=>Q [] H
 | (tk,tv)::r,σ,H,Q=>tk σ H fun x H1=>tv σ H1 fun y H2=>zi3 r σ H2 fun ps H3=>Q ((x,y)::ps) H3
structure M1(X:Cx) (o:Expr) (m:Str) (apos:Pos) (e:Expr) (cpos:Pos):Prop where
 base:attributeBase o m X.env (eval o X.env)=eval o X.env
 few:((backTo cpos (starEach [e] X.env)).all (fun x=>!x.1)&&(backToKw cpos (keywordEach [] X.env)).all (fun x=>x.1.isSome)
  && decide (([e]:List Expr).length+([]:List Keyword).length+(if ([]:List Keyword).isEmpty then 0 else 1)<30))=true
 line:(apos.endLine==cpos.line)=true
 trees:backTo cpos (starEach [e] X.env)=[(false,eval e X.env)]
def IsD(H:Hp) (a:Addr):Prop:=(∃kvs,Rd H a (.dK kvs))\/∃kvs,Rd H a (.dT kvs)
theorem zj3{X:Cx}{pins:List (Addr×Obj)}{σ : St}{H:Hp}{s:Shared}{a:Addr}(I:Inv X pins σ H s) (d:IsD H a) :
  s.TypeIs (.ref a) "dict"/\(∀b,Value.ref a=.ref b->∃ob,s.heap.get? b=some ob/\ob.dict=none)/\(a==sysModules)=false:=by
 rcases d with ⟨kvs,e⟩|⟨kvs,e⟩
 ·obtain⟨_,hd,vs,_,dd⟩:=qp I.hok e
  refine⟨dd.typeIs,fun b q=>?_,hd⟩;cases q;obtain⟨ob,_,_,h1,h2,_⟩:=dd;exact⟨ob,h1,h2.2.1⟩
 ·obtain⟨_,hd,xs,_,dd⟩:=ql I.hok e
  refine⟨dd.typeIs,fun b q=>?_,hd⟩;cases q;obtain⟨ob,_,_,h1,h2,_⟩:=dd;exact⟨ob,h1,h2.2.1⟩
section
variable {X:Cx}{pins:List (Addr×Obj)}{σ : St}{H:Hp}{s:Shared}{a:Addr}{y d:V}{u r:Value}{o:Option V}{A:Around}{E:Value->Shared->Prop}
theorem zkb{Q:Value->Shared->Prop}(hu:A.units+1<cLine) (I:Inv X pins σ H s) (g:zbe H a y o) (ry:zV y u) (h:∀w' s',Inv X pins σ H s'->zV (o.getD .non) w'->Q w' s') :
  wpAny (model X.prog X.w) A (call (.builtin "dict.get") [.ref a,u]) Q E s:=by
 rcases g with ⟨kvs,k,e,ey,l⟩|⟨kvs,k,b,e,ey,eb,l⟩
 ·subst ey
  obtain⟨z,hd,vs,rel,dd⟩:=qp I.hok e;refine call_meetsIn PySem.F.slot_dict_get dd.typeIs PySem.F.entry_dict_get (PySem.F.args_dict_get_2 _ _) (meets_dict_get (yo X.prog X.w) a (qe ry) hd) ⟨_,dd.mapOf,h _ _ (I.tok _) ?_⟩;rw[l];exact(rel.val k).getD rfl
 ·subst ey
  cases (show u=Value.ref b from ry);obtain⟨z,hd,xs,rel,dd⟩:=ql I.hok e;refine call_meetsIn PySem.F.slot_dict_get dd.typeIs PySem.F.entry_dict_get (PySem.F.args_dict_get_2 _ _) (meetsH_dict_get (tupleKind (yo X.prog X.w)) a b hd) ⟨tupleKind_room_in1 hu,k,xs,uZ I.hok eb,dd,h _ _ (I.tok _) ?_⟩;rw[l];exact(rel.val k).getD rfl
end
def zi7(td ty:TE):TE:=fun σ H Q=>td σ H fun x H1=>∃a,x=.ref a/\IsD H1 a/\ty σ H1 fun y H2=>∃o,zbe H2 a y o/\Q (o.getD .non) H2
section
variable {X:Cx}{o e f:Expr}{apos cpos:Pos}{td ty tx:TE}
theorem zfX(hu:X.A.units+1<cLine) (ho:PE X o td) (he:PE X e ty) (m:M1 X o "get" apos e cpos):PE X (.Call (.Attribute o "get" apos) [e] [] cpos) (zi7 td ty):=by
 refine⟨?_⟩;intro pins s σ H Q I h;refine wpAny_Call_method m.base m.few m.line PySem.F.plainAttrs_dict PySem.F.slot_dict_get PySem.F.type_dict_get (thn (ho pins s σ H _ I h) fun u s1 ⟨x,H1,I1,rx,a,ex,d,q1⟩=>?_);subst ex;obtain rfl:u=Value.ref a:=rx;obtain⟨t1,t2,_⟩:=zj3 I1 d;refine⟨t1,t2,?_⟩;rw[m.trees];refine Calls.callWith_builtin rfl (Calls.evalArgs_plain (Calls.spliced_cons (thn (he pins s1 σ H1 _ I1 q1) fun iv s2 ⟨y,H2,I2,ry,ov,g,q2⟩=>Calls.spliced_nil ?_)));exact zkb hu I2 g ry fun w' s3 I3 rw'=>⟨_,H2,I3,rw',q2⟩
end
section
variable {X:Cx}{pins:List (Addr×Obj)}{σ : St}{H:Hp}{s:Shared}{a:Addr}{kvs:List (Key×V)}{A:Around}{E:Value->Shared->Prop}
end
section
variable {X:Cx}{pins:List (Addr×Obj)}{σ : St}{H:Hp}{s:Shared}{a:Addr}{y:V}{u:Value}{A:Around}{E:Value->Shared->Prop}
end
end L2
namespace Att
open PySem PySem.W PySem.Calls PyProof.Rows
theorem jm{P:Params}{h:Heap}:∀(ns:List Int) (vs:List Value),WellAll P h vs (ns.map WData.int)->IntsAre vs ns:=by
 intro ns;induction ns with
 | nil=>
  intro vs w;rw[map_nil] at w;cases w;exact .nil
 | cons n ns ih=>
  intro vs w;rw[map_cons] at w;cases w with
  | cons a b=>
   cases a;exact .cons _ _ (ih _ b)
theorem zef{l:OpenLaw}{n:Nat}(hn:l.most=some n) {P:Params}{h:Heap}{args:List WData}{vals:List Value}
  (hpre:l.row.toRowW.claim.pre args=true) (hwl:WellAll P h vals args) :
  ∃a vs ns,vals=[Value.ref a]/\args=[WData.list (ns.map WData.int)]/\h.get? a=some { cls:=.type "list",data:=.seq vs.toArray }/\IntsAre vs ns/\ns.length<=n:=by
 have hsh:WShape.hasAll [] args [.list .int]=true:=(pre_splitW hpre).1;have hc:l.pre.holds [] { args:=args }=true:=(pre_splitW hpre).2;obtain⟨d,r,rfl,h1,h2⟩:=hasAllW_cons hsh;obtain rfl:=hasAllW_nil h2;obtain⟨xs,rfl,h3⟩:=hasW_list h1;obtain⟨ns,rfl⟩:=items_int h3;have hlen:ns.length<=n:=by
  unfold OpenLaw.pre at hc;have h4:(WTm.not (.lt (.lit (.int (n:Int))) (.len (.arg 0)))).holds [] { args:=[.list (ns.map .int)] }=true:=by
   have h4:=(holds_andW hc).1;rw[hn] at h4;exact h4
  have h5:=condW_of h4 (w_not (w_lt w_lit (w_len_list (w_arg rfl))));rw[length_map] at h5;refine Nat.le_of_not_lt fun q=>?_;have q':(n:Int)<((ns.length:Nat):Int):=by omega
  first
   | (rw[decide_eq_true q'] at h5;exact absurd h5 (by decide))
   | (simp at h5;omega)
 cases hwl with
 | cons w1 w2=>
  cases w2;cases w1 with
  | list ho hall=>exact⟨_,_,ns,rfl,rfl,ho,jm ns _ hall,hlen⟩
theorem zek(l:OpenLaw) (args:List WData):l.row.toRowW.claim.post args (.bool true) args=true:=
 postW_of (r:=l.row.toRowW) (X:=(true==true))
  (show WShape.has [] (.bool true) .bool=true by first|rfl|decide|simp [WShape.has,WShape.arms,WShape.armsAll])
  (show(WTm.eq .res (.lit (.bool true))).value [] { args:=args,res:=some (.bool true),after:=args }=some (.bool (true==true)) from w_eq_bool (w_res rfl) w_lit) rfl
section
variable {prog:Program}{w:World}{A:Around}{E:Value->Shared->Prop}{s:Shared}{K:Frag}
def zlZ(h:Heap) (L d:Addr):List (Addr×Obj):=(List.range h.objs.size).filterMap fun a=>if a=L\/a=d then none else (h.get? a).map fun o=>(a,o)
end
end Att
namespace L2
open PySem PySem.Spec PyProof.Rows
theorem qG:∀{vs:List Value}{ns:List Int},IntsAre vs ns->zQ (ns.map V.int) vs
 | _,_,.nil=>.nil
 | _,_,.cons n t h=>.cons ⟨t,rfl⟩ (qG h)
def zkh(H:Hp):Prop:=∀b,H b=none\/∃o xs,H b=some (.frz o (.lst xs))
theorem zgz{P:Program}{w:World}{K:Frag}{mg mb:Str->Option Value}{CX:CXT}{k:Nat}{fa a:Addr}{fd:FuncData}{x:Str}{sp:Sp}{s₁:Shared}{vs:List Value}{ns:List Int}
  (KX:K.In s₁.heap) (hns:s₁.heap.Ns mainGlobals mg) (hb:s₁.heap.Ns builtinsNs mb) (hbb:∀x:Str,x≠"__name__"->mb x=bootBuiltins x) (hlim:s₁.heap.NoLimit) (hg:s₁.gens=#[])
  (ha:s₁.heap.get? a=some { cls:=.type "list",data:=.seq vs.toArray }) (hi:IntsAre vs ns) (hl:ns.length<=sizeLine) (hr:yw k callerA)
  (F:∀base:Heap,K.In base->base.Ns mainGlobals mg->zJ P w K mg base CX k fa fd [x] sp) (hbind:∀(s:Shared) (u:Value),BindsTo s fd ⟨[u],[]⟩ [(x,u)])
  (hsp:∀H:Hp,zkh H->SqL K H a (ns.map V.int)->sp [.ref a] H (fun v _=>v=.bl true) fun _ _ _=>False)
  (hCX:∀H e s',CX [] H s₁ (fun _ _ _=>False) e s'->False) :
  codeAny (model P w) callerA (.call (.ref fa) ⟨[.ref a],[]⟩) (fun r s'=>r=.ok (.ret (.bool true))/\OldK s₁.heap s'.heap/\s'.os=s₁.os/\AllBare s'.gens) s₁:=by
 have rv:=qG hi;have lenV:=hi.length;have core:∀H:Hp,zkh H->SqL K H a (ns.map V.int)->HOk P w H s₁.heap->(∀b,H b≠none->b=a)->(H a≠none->K.lookup a=none)->
   codeAny (model P w) callerA (.call (.ref fa) ⟨[.ref a],[]⟩) (fun r s'=>r=.ok (.ret (.bool true))/\OldK s₁.heap s'.heap/\s'.os=s₁.os/\AllBare s'.gens) s₁:=by
  intro H hO hS hok hA hK;have base_of:∀{b:Addr}{o:Obj},s₁.heap.get? b=some o->H b=none->(za5 s₁.heap H).get? b=some o:=fun e n=>zgG e n;have noA:∀{b:Addr}{o:Obj}{es:Array DictEntry}{ep:Nat},s₁.heap.get? b=some o->o.data=.dict es ep->H b=none:=fun {b o es ep} e d=>by
   cases q:H b with
   | none=>rfl
   | some u=>
    have e':b=a:=hA b (by rw[q];simp)
    subst e';rw[ha] at e;cases e;have d':Data.seq vs.toArray _=Data.dict es ep:=d;cases d'
  have nsK:∀{b:Addr}{m:Str->Option Value},s₁.heap.Ns b m->(za5 s₁.heap H).Ns b m:=fun {b m} ⟨o,es,ep,e,d,r⟩=>⟨o,es,ep,base_of e (noA e d),d,r⟩;have hKb:K.In (za5 s₁.heap H):=fun b o e=>base_of (KX b o e) (by
   cases q:H b with
   | none=>rfl
   | some u=>
    have e':b=a:=hA b (by rw[q];simp)
    subst e';rw[hK (by rw[q];simp)] at e;cases e)
  have hM:Mod K mg (za5 s₁.heap H):=⟨hKb,nsK hns,⟨mb,nsK hb,hbb⟩,let ⟨mc,h1,h2⟩:=hlim;⟨mc,nsK h1,h2⟩⟩;have e0:qF P w K mg (za5 s₁.heap H) callerA [] s₁ H:=⟨rfl,hM,fun b o e=>zh1 e,Nat.le_of_eq (zeN _ _),trivial,fun b hb=>absurd (show b∈([]:List Addr) from hb) (by simp),hok,.of_eq hg⟩
  refine codeAny_mono ((F _ hKb (nsK hns)).run callerA [] s₁ H ⟨[.ref a],[]⟩ [.ref a] [.ref a] _ _ hr e0 (hbind s₁ (.ref a)) (.cons rfl .nil) (hsp H hO hS)) fun r s' h=>?_;cases r with
  | error e=>exact(hCX H e s' h).elim
  | ok fl=>
   cases fl with
   | next=>exact False.elim h
   | brk=>exact False.elim h
   | cont=>exact False.elim h
   | ret u=>
    obtain⟨v,H',os,bare,un,hok',r',q⟩:=h;have q':v=.bl true:=q;subst q';obtain rfl:u=Value.bool true:=r';refine⟨rfl,OldK.of_keep fun b o e=>?_,os,bare⟩;cases q:H b with
    | none=>exact un.keep b o e q (by intro z;exact absurd (show b∈([]:List Addr) from z) (by simp)) (by simp)
    | some u=>
     rcases hO b with z|⟨ob,xs,z⟩
     ·rw[q] at z;cases z
     ·have z2:=un.frzs b ob _ z
      obtain⟨e1,_⟩:=hok b _ z;obtain⟨e2,_⟩:=hok' b _ z2;rw[e] at e1;cases e1;exact e2
 cases hk:K.lookup a with
 | some o=>
  have e:=KX a o hk;rw[ha] at e;cases e;refine core (fun _=>none) (fun _=>.inl rfl) (.inr ⟨_,vs.toArray,_,hk,rfl,rfl,rfl,by rw[size_toArray,lenV];exact hl,by simpa using rv⟩) (fun b u z=>by have z':(none:Option HO)=some u:=z;cases z') (fun b z=>absurd rfl z) fun z=>absurd rfl z
 | none=>
  refine core (fun b=>if b=a then some (.frz { cls:=.type "list",data:=.seq vs.toArray } (.lst (ns.map V.int))) else none) (fun b=>?_) (.inl (.inr ⟨{ cls:=.type "list",data:=.seq vs.toArray },if_pos rfl⟩)) (fun b u z=>?_) (fun b z=>?_) fun _=>hk
  ·by_cases hb:b=a
   ·exact .inr ⟨_,_,if_pos hb⟩
   ·exact .inl (if_neg hb)
  ·by_cases hb:b=a
   ·have z':=(if_pos hb).symm.trans z
    cases z';subst hb;exact⟨ha,by rw[length_map];exact hl,vs,_,rv,ha⟩
   ·have z':=(if_neg hb).symm.trans z
    cases z'
  ·by_cases hb:b=a
   ·exact hb
   ·exact absurd (if_neg hb) z
def yy(s:Stmt) (j:Nat):Stmt:=match s with
 | .ClassDef _ _ _ body _ _ _ _ _ _ _=>body.getD j (.Pass ⟨0,0,0,0⟩)
 | _=>.Pass ⟨0,0,0,0⟩
def yh(s:Stmt):Arguments:=match s with
 | .FunctionDef _ a _ _ _ _ _ _ _ _=>a
 | _=>{ posonlyargs:=[],args:=[],vararg:=none,kwonlyargs:=[],kw_defaults:=[],kwarg:=none,defaults:=[] }
def ya(s:Stmt):List Stmt:=match s with
 | .FunctionDef _ _ b _ _ _ _ _ _ _=>b
 | _=>[]
def zg(s:Stmt):Scope:=match s with
 | .FunctionDef _ _ _ _ _ _ sc _ _ _=>sc
 | _=>{ kind:=.function,names:=[],isGenerator:=false,isCoroutine:=false }
abbrev CX0:CXT:=fun _ _ _ _ _ _=>False
abbrev E0:XK:=fun _ _ _=>False
theorem yp{X:Cx}:wz CX0 X E0:=fun _ _ _ _ _ _ _ h=>h.elim
structure Fun(K:Frag) (x qual:Str) (st:Stmt) (f:Addr) (fd:FuncData):Prop where
 ex:∃(oc:Value) (od:Option Addr) (kV doc pm:Value) (an:Option Addr) (cdv ct:Value) (osl:Array (Option Value)),
  fd=fnOf x qual (yh st) (ya st) (zg st) .none kV doc pm an cdv ct/\K.lookup f=some ⟨oc,od,.func fd,osl⟩/\codeIn K cdv qual=true
 kp:keepIn K (.ref f)=true
section
variable {P:Program}{w:World}{K:Frag}{mg:Str->Option Value}{base:Heap}
theorem Fun.ok{x qual:Str}{st:Stmt}{f:Addr}{fd:FuncData}{N ps:List Str}{k:Nat}{sp:Sp}(F:Fun K x qual st f fd) (S:zu N ps (zg st)) (len:∀vs H Q E,sp vs H Q E->vs.length=ps.length)
  (hbody:∀(cdv:Value) (A:Around) (outer:List Env) (s:Shared) (H:Hp) (vs:List V) (Q:VK) (E:XK),yw k (A.deeper (envOfC qual (zg st) s.heap.objs.size f cdv))->sp vs H Q E->
   ∃t,PSs (zdc CX0 P w K mg base N qual (zg st) f cdv A outer s H E).nox (ya st) t/\t { nx:=fun _ H'=>Q .non H',rt:=Q } (ul N vs) H):zJ P w K mg base CX0 (k+1) f fd ps sp:=by
 obtain⟨oc,od,kV,doc,pm,an,cdv,ct,osl,rfl,lk,hcd⟩:=F.ex;refine ziV lk hcd S len fun A outer s H vs Q E hr hsp=>?_;obtain⟨t,h,q⟩:=hbody cdv A outer s H vs Q E hr hsp;exact⟨t,h.nox,q⟩
theorem Fun.binds{x qual:Str}{st:Stmt}{f:Addr}{fd:FuncData}{ps:List Str}(F:Fun K x qual st f fd)
  (h:∀(kV doc pm:Value) (an:Option Addr) (cdv ct:Value) (us:List Value),us.length=ps.length->bindArgs (fnOf x qual (yh st) (ya st) (zg st) .none kV doc pm an cdv ct) ⟨us,[]⟩=pure (ps.zip us)):z7 K fd ps []:=by
 obtain⟨oc,od,kV,doc,pm,an,cdv,ct,osl,rfl,lk,hcd⟩:=F.ex;exact .all (h kV doc pm an cdv ct)
theorem zgK{x qual:Str}{st:Stmt}{f:Addr}{oc:Value}{od an:Option Addr}{osl:Array (Option Value)}{kV doc pm cdv ct:Value}(l:K.lookup f=some ⟨oc,od,.func (fnOf x qual (yh st) (ya st) (zg st) .none kV doc pm an cdv ct),osl⟩)
  (c:codeIn K cdv qual=true) (k:keepIn K (.ref f)=true):Fun K x qual st f (fnOf x qual (yh st) (ya st) (zg st) .none kV doc pm an cdv ct):=⟨⟨oc,od,kV,doc,pm,an,cdv,ct,osl,rfl,l,c⟩,k⟩
end
theorem zdT{A:Around}{k:Nat}(hr:yw k A):A.units+1<cLine:=lt_of_le_of_lt (Nat.add_le_add_left (by decide : 1<=64) _) hr.units
theorem zT{n:Nat}(h:n<=1000):n<sizeLine:=lt_of_le_of_lt h (by decide)
section
variable {X:Cx}
theorem pv(i:Nat) {x:Str}{pos:Pos}(hN:X.N[i]?=some x:=by rfl) (hv:Vis X.env.scope x:=by first|exact Or.inl rfl|exact Or.inr (Or.inl rfl)|exact Or.inr (Or.inr rfl)) (hd:(x==("__debug__" : Str))=false:=by decide)
  (hcd:(x==("__classdict__" : Str))=false:=by decide):PE X (.Name x pos) (zbj i):=zjH hN hv hd hcd
end
theorem yq{A B:Prop}(h:B):if false=true then A else B:=by
 rw[if_neg Bool.false_ne_true];exact h
theorem xm{A B:Prop}(h:A):if true=true then A else B:=by
 rw[if_pos rfl];exact h
theorem za4{c A B:Prop}[Decidable c] (h1:c->A) (h2:¬c->B):if c then A else B:=by
 by_cases h:c
 ·rw[if_pos h]
  exact h1 h
 ·rw[if_neg h]
  exact h2 h
def zm(H H':Hp):Prop:=∀b o,H b=some o->H' b=some o
theorem zm.refl(H:Hp):zm H H:=fun _ _ h=>h
theorem zm.trans{H H1 H2:Hp}(a:zm H H1) (b:zm H1 H2):zm H H2:=fun c o h=>b c o (a c o h)
theorem zm.free{H H':Hp}(e:zm H H') {l:Addr}(h:H' l=Option.none):H l=Option.none:=by
 cases q:H l with
 | none=>rfl
 | some o=>
  rw[e l o q] at h;cases h
theorem zm.seq{K:Frag}{H H':Hp}{a:Addr}{xs:List V}(e:zm H H') (h:SqL K H a xs):SqL K H' a xs:=by
 rcases h with (h|⟨o,h⟩)|h
 ·exact .inl (.inl (e _ _ h))
 ·exact .inl (.inr ⟨o,e _ _ h⟩)
 ·exact .inr h
section
variable {X:Cx}
end
section
variable {κ : Type}[DecidableEq κ]
end
def clB(env:Env) (fr:List Str):List (Str×Addr):=fr.map fun n=>(n,(env.cells.lookup n).getD 0)
theorem zb4{env:Env}:∀{fr:List Str}{x:Str}{c:Addr},(clB env fr).lookup x=some c->x∈fr/\c=(env.cells.lookup x).getD 0
 | [],x,c,h=>by simp [clB] at h
 | n::r,x,c,h=>by
  have h':List.lookup x ((n,(env.cells.lookup n).getD 0)::clB env r)=some c:=h;rw[lookup_cons] at h';cases e:x==n with
  | true=>
   rw[e] at h';have e':x=n:=by simpa using e
   subst e';exact⟨mem_cons_self,(Option.some.inj h').symm⟩
  | false=>
   rw[e] at h';obtain⟨h1,h2⟩:=zb4 h';exact⟨mem_cons_of_mem _ h1,h2⟩
theorem zba{env:Env}:∀{fr:List Str}{x:Str},x∈fr->(clB env fr).lookup x=some ((env.cells.lookup x).getD 0)
 | n::r,x,h=>by
  show List.lookup x ((n,(env.cells.lookup n).getD 0)::clB env r)=_;rw[lookup_cons];cases e:x==n with
  | true=>
   have e':x=n:=by simpa using e
   subst e';rfl
  | false=>
   rcases List.mem_cons.mp h with z|z
   ·subst z;simp at e
   ·exact zba z
theorem vh{env:Env}:∀{names:List (Str×NameKind)}{x:Str}{k:NameKind},
  (names.map fun (n,k)=>if (k==NameKind.free&&env.scope.kind==.function&&env.kindOf n==some .cell) then (n,NameKind.cell) else (n,k)).lookup x=some k->
  ∃k0,(x,k0)∈names/\(k=k0\/(k0=.free/\k=.cell))
 | [],_,_,h=>by simp at h
 | (n,k0)::r,x,k,h=>by
  have h':List.lookup x ((if (k0==NameKind.free&&env.scope.kind==.function&&env.kindOf n==some .cell)=true then (n,NameKind.cell) else (n,k0)) ::
   (r.map fun (n,k)=>if (k==NameKind.free&&env.scope.kind==.function&&env.kindOf n==some .cell) then (n,NameKind.cell) else (n,k)))=some k:=h
  by_cases hc:(k0==NameKind.free&&env.scope.kind==.function&&env.kindOf n==some .cell)=true
  ·rw[if_pos hc,lookup_cons] at h'
   cases e:x==n with
   | true=>
    rw[e] at h';have e':x=n:=by simpa using e
    subst e';simp only[Bool.and_eq_true] at hc;exact⟨k0,mem_cons_self,.inr ⟨by simpa using hc.1.1,(Option.some.inj h').symm⟩⟩
   | false=>
    rw[e] at h';obtain⟨k1,h1,h2⟩:=vh h';exact⟨k1,mem_cons_of_mem _ h1,h2⟩
  ·rw[if_neg hc,lookup_cons] at h'
   cases e:x==n with
   | true=>
    rw[e] at h';have e':x=n:=by simpa using e
    subst e';exact⟨k0,mem_cons_self,.inl (Option.some.inj h').symm⟩
   | false=>
    rw[e] at h';obtain⟨k1,h1,h2⟩:=vh h';exact⟨k1,mem_cons_of_mem _ h1,h2⟩
theorem wN{env:Env}(hk:env.scope.kind=.function):∀{names:List (Str×NameKind)}{x:Str},names.lookup x=some .free->env.kindOf x=some .cell->
  (names.map fun (n,k)=>if (k==NameKind.free&&env.scope.kind==.function&&env.kindOf n==some .cell) then (n,NameKind.cell) else (n,k)).lookup x=some .cell
 | [],_,h,_=>by simp at h
 | (n,k0)::r,x,h,hx=>by
  show List.lookup x ((if (k0==NameKind.free&&env.scope.kind==.function&&env.kindOf n==some .cell)=true then (n,NameKind.cell) else (n,k0)) ::
   (r.map fun (n,k)=>if (k==NameKind.free&&env.scope.kind==.function&&env.kindOf n==some .cell) then (n,NameKind.cell) else (n,k)))=some .cell
  rw[lookup_cons] at h;cases e:x==n with
  | true=>
   rw[e] at h;have e':x=n:=by simpa using e
   subst e';have h0:k0=.free:=Option.some.inj h;subst h0;rw[if_pos (by rw[hk,hx];decide),lookup_cons]
   simp
  | false=>
   rw[e] at h;have ih:=wN hk h hx;split
   ·rw[lookup_cons,e];exact ih
   ·rw[lookup_cons,e];exact ih
abbrev zU(X:Cx) (pins:List (Addr×Obj)) (sc:Scope) (fr Nc:List Str) (fp:List Addr) (s:Shared) (H:Hp) (C:Addr):Cx:=
 { prog:=X.prog,w:=X.w,K:=X.K,mg:=X.mg,base:=X.base,A:=X.A,N:=Nc,s₀:=s,H₀:=H,env:=compEnvC sc (clB X.env fr) C X.env,outer:=X.stack,stack:=X.stack,ex:=fp,fn:=fun _=>false,calm:=X.calm,pn:=X.pn++pins,xe:=fun _ _=>False }
structure y7(env:Env) (sc:Scope) (fr:List Str):Prop where
 kind:sc.kind=.function
 clos:closureFor sc env=pure (clB env fr)
 cells:(fr.all fun n=>(env.cells.lookup n).isSome)=true
 names:(sc.names.all fun y=>(y.2 != .cell)&&(y.2 != .free||fr.contains y.1)&&(y.2 != .local||sc.names.lookup y.1==some .local))=true
def uf(N Nc:List Str) (caps:List (Option Nat)) (env:Env) (sc:Scope) (fr:List Str):Bool:=
 (Nc.zip caps).all fun p=>match p.2 with
  | none=>true
  | some j=>(N[j]?==some p.1)&&(env.kindOf p.1==some .cell)&&(sc.names.lookup p.1==some .free)&&fr.contains p.1
def xi(caps:List (Option Nat)) (σ : St):St:=caps.map fun o=>match o with
 | none=>none
 | some j=>(σ[j]?).join
section
variable {X:Cx}{pins:List (Addr×Obj)}{σ : St}{H:Hp}{s:Shared}{sc:Scope}{fr Nc:List Str}{fp:List Addr}{C:Addr}
theorem y7.sub{env:Env}(B:y7 env sc fr) {x:Str}{c:Addr}(h:(clB env fr).lookup x=some c):env.cells.lookup x=some c:=by
 obtain⟨h1,h2⟩:=zb4 h;have h3:=List.all_eq_true.mp B.cells x h1;obtain⟨d,hd⟩:=Option.isSome_iff_exists.mp h3;rw[hd] at h2 |-;rw[h2];rfl
theorem y7.free{env:Env}(B:y7 env sc fr) {x:Str}{k:NameKind}(h:(relabel sc env).names.lookup x=some k) (hk:k=.cell\/k=.free):x∈fr:=by
 obtain⟨k0,h1,h2⟩:=vh h;have h3:=List.all_eq_true.mp B.names _ h1;simp only[Bool.and_eq_true,Bool.or_eq_true,bne_iff_ne,ne_eq,List.contains_iff_mem] at h3;have h4:k0=.free:=by
  rcases h2 with h2|⟨h2,_⟩
  ·subst h2
   rcases hk with z|z
   ·exact absurd z h3.1.1
   ·exact z
  ·exact h2
 rcases h3.1.2 with z|z
 ·exact absurd h4 z
 ·exact z
theorem zd4(I:Inv X pins σ H s) (B:y7 X.env sc fr) (hf:∀b∈fp,x8 X pins H b) (ho:∀b∈fp,∃o,s.heap.get? b=some o) (hC:s.heap.objs.size<=C):(zU X pins sc fr Nc fp s H C).Ok where
 mod:=I.ok.mod
 kind:=B.kind
 glob:=I.ok.glob
 blt:=I.ok.blt
 above:=hC
 inj:=fun x y c h1 h2=>I.ok.inj x y c (B.sub h1) (B.sub h2)
 has:=fun x h=>by
  have hx:x∈fr:=by
   rcases h with h|h
   ·exact B.free h (.inl rfl)
   ·exact B.free h (.inr rfl)
  exact⟨_,zba hx⟩
 cab:=fun x c h=>absurd h (by simp)
 hd:=I.ok.hd
 frames:=I.ok.frames
 stk:=.inl rfl
 exf:=fun b hb=>by
  obtain⟨o,e⟩:=ho b hb;refine⟨fun z=>?_,fun x c h=>(hf b hb).2.2.2.2.1 x c (B.sub h)⟩;have z':b=C:=z
  have:=Heap.lt_size e
  rw[z'] at this;exact absurd (lt_of_lt_of_le this hC) (lt_irrefl _)
 bs:=I.bs
 bsz:=Nat.le_trans I.ok.bsz I.sz
 noex:=fun b o e hb=>by
  rcases (hf b hb).2.2.2.1 with z|z
  ·exact I.ok.noex b o e z
  ·exact absurd (lt_of_lt_of_le (Heap.lt_size (I.ok.bs b o e).1) z) (lt_irrefl _)
 exfs:=fun b hb h=>by
  rcases List.mem_cons.mp (I.stkSub b h) with z|z
  ·exact(hf b hb).2.1 z
  ·exact(hf b hb).2.2.1 z
 funs:=I.stack
 frf:=I.stkFree
theorem Inv.pin_lt(I:Inv X pins σ H s) {p:Addr×Obj}(hp:p∈X.pn++pins):p.1<s.heap.objs.size:=Heap.lt_size (I.pin p hp).1
theorem zdd{caps:List (Option Nat)}{h':Heap}{D:Addr}{m:Str->Option Value}{t' n0:Nat}(I:Inv X pins σ H s) (B:y7 X.env sc fr) (hf:∀b∈fp,x8 X pins H b) (ho:∀b∈fp,∃o,s.heap.get? b=some o)
  (hC:s.heap.objs.size<=C) (hD:s.heap.objs.size<=D) (hDC:D≠C) (keep:∀b o,s.heap.get? b=some o->h'.get? b=some o) (hl:h'.get? D=some { cls:=.type "list",data:=.seq ([]:List Value).toArray n0 }) (hn:h'.Ns C m)
  (hcap:uf X.N Nc caps X.env sc fr=true) (hlen:caps.length=Nc.length) :
  Inv (zU X pins sc fr Nc fp s H C) [] (xi caps σ) (upd H D (.lst [])) { s with heap:=h',toks:=t' }:=by
 have hk:X.env.scope.kind=.function:=I.ok.kind;have fresh:∀a,s.heap.objs.size<=a->H a=none:=fun a ha=>I.hok.fresh ha;refine⟨zd4 I B hf ho hC,rfl,I.bare,Un.laid keep hD (fresh D hD),⟨m,hn,fun i x v e1 e2 e3=>?_⟩,fun x c h=>?_,?_,fun x c h=>?_,fun p hp=>?_,?_,?_⟩
 ·
  have e2':(caps[i]?).map (fun o=>match o with|none=>none|some j=>(σ[j]?).join)=some (some v):=by
   have:(xi caps σ)[i]?=some (some v):=e2
   unfold xi at this;rw[getElem?_map] at this;exact this
  cases hc:caps[i]? with
  | none=>rw[hc] at e2';cases e2'
  | some o=>
   rw[hc] at e2';cases o with
   | none=>simp at e2'
   | some j=>
    have e4:(σ[j]?).join=some v:=by simpa using e2'
    have e5 : σ[j]?=some (some v):=by
     cases q : σ[j]? with
     | none=>rw[q] at e4;cases e4
     | some w'=>rw[q] at e4;simp at e4;rw[e4]
    have e6:(Nc.zip caps)[i]?=some (x,some j):=by
     rw[List.getElem?_zip_eq_some];exact⟨e1,hc⟩
    have e7:=List.all_eq_true.mp hcap _ (mem_of_getElem? e6);simp only[Bool.and_eq_true,beq_iff_eq,List.contains_iff_mem] at e7;obtain⟨⟨⟨a1,a2⟩,a3⟩,a4⟩:=e7;obtain⟨m0,hn0,hl0⟩:=I.loc;obtain⟨u,r,l⟩:=hl0 j x v a1 e5 (.inr (.inl a2));refine⟨u,r,.inr ⟨.inl (wN hk a3 a2),_,zba a4,?_⟩⟩;rcases l with ⟨z,_⟩|⟨_,c,ec,hcell⟩
    ·rw[a2] at z;cases z
    ·have:(X.env.cells.lookup x).getD 0=c:=by rw[ec];rfl
     rw[this];exact hcell.keeps keep
 ·obtain⟨v,hv⟩:=I.cell x c (B.sub h)
  exact⟨v,hv.keeps keep⟩
 ·show upd H D (.lst []) C=none
  rw[zh (Ne.symm hDC)];exact fresh C hC
 ·obtain⟨v,hv⟩:=I.cell x c (B.sub h)
  have:c≠D:=fun z=>by have:=hv.lt;rw[z] at this;exact absurd (lt_of_lt_of_le this hD) (lt_irrefl _)
  rw[zh this];exact I.freeC x c (B.sub h)
 ·have hp':p∈X.pn++pins:=by simpa using hp
  obtain⟨e,n,ne,nf,d⟩:=I.pin p hp';have hlt:=I.pin_lt hp';refine⟨keep _ _ e,?_,?_,fun z=>?_,d⟩
  ·rw[zh (fun z=>by rw[z] at hlt;exact absurd (lt_of_lt_of_le hlt hD) (lt_irrefl _))];exact n
  ·intro z
   have z':p.1=C:=z;rw[z'] at hlt;exact absurd (lt_of_lt_of_le hlt hC) (lt_irrefl _)
  ·rcases List.mem_cons.mp (I.stkSub p.1 z) with q|q
   ·exact ne q
   ·exact nf q
 ·exact I.hok.laid keep hD ⟨zero_le _,[],n0,.nil,hl⟩
 ·show(xi caps σ).length=Nc.length
  unfold xi;rw[length_map,hlen]
theorem u9{pl:List (Addr×Obj)}{σ':St}{H':Hp}{s':Shared}(I:Inv X pins σ H s) (hf:∀b∈fp,x8 X pins H b) (J:Inv (zU X pins sc fr Nc fp s H C) pl σ' H' s'):Inv X pins σ H' s':=
 I.call' J.os J.base J.hok J.bare fun b hb=>⟨(hf b hb).2.2.2.1,(hf b hb).2.1,(hf b hb).2.2.2.2.1,(hf b hb).2.2.2.2.2⟩
theorem zaj{pl:List (Addr×Obj)}{σ' σ2:St}{H':Hp}{s':Shared}{h2:Heap}{t2:Nat}(I:Inv X pins σ H s) (J:Inv (zU X pins sc fr Nc fp s H C) pl σ' H' s') (J2:Inv X pins σ2 H' s') (hs:Heap.SameBut C s'.heap h2):Inv X pins σ2 H' { s' with heap:=h2,toks:=t2 }:=by
 have hC:s.heap.objs.size<=C:=J.ok.above;refine J2.turned (it:=C) (fun b o hb e=>(hs.2 b hb).trans e) J.free ?_ (.inr (Nat.le_trans I.sz hC)) (fun x c h z=>?_) fun p hp z=>?_
 ·intro z
  have:=I.lt
  rw[<- z] at this;exact absurd (lt_of_lt_of_le this hC) (lt_irrefl _)
 ·obtain⟨v,hv⟩:=I.cell x c h
  have:=hv.lt
  rw[z] at this;exact absurd (lt_of_lt_of_le this hC) (lt_irrefl _)
 ·have:=I.pin_lt hp
  rw[z] at this;exact absurd (lt_of_lt_of_le this hC) (lt_irrefl _)
end
def zkn:TT:=fun _ H Q=>Q true H
structure PIf(X:Cx) (ifs:List Expr) (t:TT):Prop where
 run:∀(pins:List (Addr×Obj)) (s:Shared) (σ : St) (H:Hp) (Q:Bool->Hp->Prop),Inv X pins σ H s->t σ H Q->
  wpAny (model X.prog X.w) X.A (forIn ifs true fun c r=>if r=true then do let ok <- isTrue c X.env (eval c X.env);pure (ForInStep.yield ok) else pure (ForInStep.yield r)) (TP X pins σ Q) X.xe s
instance {X:Cx}{ifs:List Expr}{t:TT}:CoeFun (PIf X ifs t) (fun _=>∀(pins:List (Addr×Obj)) (s:Shared) (σ : St) (H:Hp) (Q:Bool->Hp->Prop),Inv X pins σ H s->t σ H Q->
  wpAny (model X.prog X.w) X.A (forIn ifs true fun c r=>if r=true then do let ok <- isTrue c X.env (eval c X.env);pure (ForInStep.yield ok) else pure (ForInStep.yield r)) (TP X pins σ Q) X.xe s):=⟨PIf.run⟩
theorem yK{X:Cx}:PIf X [] zkn:=⟨fun _ _ _ H _ I h=>wpAny_tests_nil ⟨H,I,h⟩⟩
theorem yk{X:Cx}{c:Expr}{t:TT}(hc:PT X c t):PIf X [c] t:=⟨fun pins s σ H Q I h=>wpAny_tests_one (hc pins s σ H Q I h)⟩
def zdj(g:TG) (ow:List Nat):Prop:=
 ∀(v:V) (σ : St) (H:Hp) (Q:St->Hp->Prop),g v σ H Q->g v σ H fun σ2 H2=>Q σ2 H2/\σ2.length=σ.length/\∀i,i∉ow->σ2[i]?=σ[i]?
theorem zG(i:Nat):zdj (zN i) [i]:=fun v σ H Q h=>⟨h,length_set ..,fun j hj=>getElem?_set_ne (fun e=>hj (by simp [e]))⟩
theorem u5{K:Frag}{n:Nat}(i j:Nat):zdj (zk4 K n (zgJ (zN i) (zgJ (zN j) zk5))) [i,j]:=by
 rintro v σ H Q ⟨a,xs,e1,e2,e3,v1,r1,e4,v2,r2,e5,e6,q⟩;refine⟨a,xs,e1,e2,e3,v1,r1,e4,v2,r2,e5,e6,q,by rw[length_set,length_set],fun k hk=>?_⟩
 have h1:i≠k:=fun e=>hk (by simp [e])
 have h2:j≠k:=fun e=>hk (by simp [e])
 rw[getElem?_set_ne h2,getElem?_set_ne h1]
section
variable {prog:Program}{w:World}{A:Around}{R:Result->Shared->Prop}{s:Shared}
theorem za8{elt target iter:Expr}{ifs:List Expr}{scope:Scope}{pos:Pos}{it acc:Value}{env:Env}(I:Nat->Shared->Prop)
  (turn:∀n s,I n s->wpAny (model prog w) A (pyNext it) (fun r s₁=>match r with
   | none=>R (.ok .next) s₁
   | some v=>wpAny (model prog w) A (letOwnedTupleGo target it v) (fun _ s₀=>wpAny (model prog w) A (assign target env v) (fun _ s₂=>
     wpAny (model prog w) A (forIn ifs true fun c r=>if r=true then do let ok <- isTrue c env (eval c env);pure (ForInStep.yield ok) else pure (ForInStep.yield r)) (fun ok s₃=>
      if ok=true then wpAny (model prog w) A (eval elt env) (fun x s₄=>
       wpAny (model prog w) A (call (.builtin "list.append") [acc,x]) (fun _ s₅=>∃m,m<n/\I m s₅) (fun _ _=>False) s₄) (fun _ _=>False) s₃
      else ∃m,m<n/\I m s₃) (fun _ _=>False) s₂) (fun _ _=>False) s₀) (fun _ _=>False) s₁) (fun _ _=>False) s)
  (n:Nat) (h:I n s) :
  codeAny (model prog w) A (.compLoop (.ListComp elt [⟨target,iter,ifs,0⟩] scope pos) 0 it acc env) R s:=by
 refine codeAny_loop rfl I (fun n s hI=>?_) n h;show wpAny _ A ((compTurn (.ListComp elt [⟨target,iter,ifs,0⟩] scope pos) 0 it acc env).onRaise (fun x=>do noteFrame x env;theTreesLotGoes x)) _ _ s
 refine wpAny_noted ?_;rw[compTurn_list];refine wpAny_bind (wpAny_standAt (wpAny_bind (wpAny_mono (turn n s hI) (fun r s₁ h₁=>?_) fun _ _ z=>z.elim)));cases r with
 | none=>exact wpAny_pure h₁
 | some v=>
  refine wpAny_bind (wpAny_mono h₁ (fun _ s₀ h₀=>?_) fun _ _ z=>z.elim);refine wpAny_bind (wpAny_mono h₀ (fun _ s₂ h₂=>wpAny_bind (wpAny_mono h₂ (fun ok s₃ h₃=>?_) fun _ _ z=>z.elim)) fun _ _ z=>z.elim);cases ok with
  | false=>exact wpAny_pure ⟨rfl,h₃⟩
  | true=>
   exact wpAny_bind (wpAny_bind (wpAny_mono h₃ (fun x s₄ h₄=>wpAny_bind (wpAny_mono h₄ (fun _ s₅ h₅=>wpAny_pure (wpAny_pure ⟨rfl,h₅⟩)) fun _ _ z=>z.elim)) fun _ _ z=>z.elim))
end
def LCr(J:It) (caps:List (Option Nat)) (g:TG) (tt:TT) (te:TE) (σ : St) (H1:Hp) (Q:VK) (D:Addr):Prop:=
 ∃W:Nat->Nat->List V->Hp->Prop,(∃m,W 0 m [] (upd H1 D (.lst [])))/\∀i m ys H,W i m ys H->
  (J.stop i H/\Q (.ref D) H)\/
  (J.go i H/\∀x H',J.yld i H x H'->g x (xi caps σ) H' fun σ2 H2=>tt σ2 H2 fun ok H3=>
   (ok=true->te σ2 H3 fun v H4=>H4 D=some (.lst ys)/\ys.length<sizeLine/\∃m',m'<m/\W (i+1) m' (ys++[v]) (upd H4 D (.lst (ys++[v]))))/\
   (ok=false->∃m',m'<m/\W (i+1) m' ys H3))
def tLC(wi:TI) (caps:List (Option Nat)) (g:TG) (tt:TT) (te:TE):TE:=fun σ H Q=>wi σ H fun J H1=>∀D,H1 D=none->LCr J caps g tt te σ H1 Q D
section
variable {X:Cx}{pins:List (Addr×Obj)}{σ : St}{s:Shared}{sc:Scope}{fr Nc:List Str}{caps:List (Option Nat)}{elt tg iter:Expr}{ifs:List Expr}{g:TG}{tt:TT}{te:TE}{ow:List Nat}{pos pos2:Pos}{E:Value->Shared->Prop}
theorem zb3{H2:Hp}{it:Addr}{fp:List Addr}{tn:Nat->Heap->Prop}{J:It}{Q:VK}{RR:Value->Addr->Result->Shared->Prop}
  (hc:X.calm=true) (B:y7 X.env sc fr) (go:zdj g ow) (how:(ow.all fun i=>caps[i]?==some none)=true) (hcap:uf X.N Nc caps X.env sc fr=true) (hlen:caps.length=Nc.length)
  (hb:∀(pins:List (Addr×Obj)) (fp:List Addr) (s:Shared) (H:Hp) (C:Addr),PG (zU X pins sc fr Nc fp s H C) tg g/\PIf (zU X pins sc fr Nc fp s H C) ifs tt/\PE (zU X pins sc fr Nc fp s H C) elt te)
  (I2:Inv X pins σ H2 s) (T:zca X.prog X.w X.K tg J fp it tn) (st2:tn 0 s.heap) (f2:∀b∈fp,x8 X pins H2 b) (h:∀D,H2 D=none->LCr J caps g tt te σ H2 Q D)
  (fin:∀(D C:Addr) (σ':St) (H':Hp) (s':Shared),Inv (zU X pins sc fr Nc fp s H2 C) [] σ' H' s'->Q (.ref D) H'->RR (.ref D) C (.ok .next) s') :
  wpAny (model X.prog X.w) X.A (newList []) (fun acc s₃=>wpAny (model X.prog X.w) X.A (newFunctionEnv sc X.env.globals (clB X.env fr) [] X.env.qual none .none (some X.env)) (fun cenv s₄=>
   codeAny (model X.prog X.w) X.A (.compStart (.ListComp elt [⟨tg,iter,ifs,0⟩] sc pos) 0 (.ref it) acc { cenv with scope:=relabel sc X.env }) (RR acc cenv.locals) s₄) E s₃) E s:=by
 have hcell:∀y∈sc.names,y.2≠.cell:=fun y hy=>by
  have h3:=List.all_eq_true.mp B.names _ hy;simp only[Bool.and_eq_true,bne_iff_ne,ne_eq] at h3;exact h3.1.1
 refine wpAny_newObj_type (wpAny_newFunctionEnv hcell (by intro y hy;simp at hy) (fun h₁ hns₁ hsb₁=>?_) B.kind)
 dsimp only at hns₁ hsb₁ |-;generalize hH2:s.heap.push { cls:=.type "list",dict:=none,data:=.seq ([]:List Value).toArray }=H3 at hns₁ hsb₁ |-;have hCs:H3.objs.size=s.heap.objs.size+1:=by rw[<- hH2,Heap.size_push]
 have hDC:s.heap.objs.size≠H3.objs.size:=by rw[hCs];exact ne_of_lt (lt_succ_self _)
 have hC:s.heap.objs.size<=H3.objs.size:=by rw[hCs];exact le_succ _
 have old:∀b o,s.heap.get? b=some o->h₁.get? b=some o:=fun b o e=>
  hsb₁.extBut b o (ne_of_lt (lt_of_lt_of_le (Heap.lt_size e) hC)) (Heap.get?_push_of_some _ (hH2 ▸ Heap.get?_push_of_some _ e))
 have hD:h₁.get? s.heap.objs.size=some { cls:=.type "list",data:=.seq ([]:List Value).toArray }:=hsb₁.extBut _ _ hDC (Heap.get?_push_of_some _ (hH2 ▸ Heap.get?_push_size _ rfl));have ho:∀b∈fp,∃o,s.heap.get? b=some o:=fun b hb'=>let ⟨o,e,_⟩:=T.obj 0 _ st2 b hb';⟨o,e⟩;have I4:∀t',Inv (zU X pins sc fr Nc fp s H2 H3.objs.size) [] (xi caps σ) (upd H2 s.heap.objs.size (.lst [])) { s with heap:=h₁,toks:=t' }:=fun t'=>
  zdd I2 B f2 ho hC (Nat.le_refl _) hDC old hD hns₁ hcap hlen
 have ok:=(I4 0).ok;obtain⟨hbg,hbt,hbe⟩:=hb pins fp s H2 H3.objs.size;obtain⟨W,⟨m0,w0⟩,turn⟩:=h s.heap.objs.size (I2.hok.fresh (Nat.le_refl _));have stat:∀{H':Hp},(∀b∈fp,H' b=none)->∀b∈fp,x8 (zU X pins sc fr Nc fp s H2 H3.objs.size) [] H' b:=fun hn b hb'=>
  ⟨hn b hb',(ok.exf b hb').1,ok.exfs b hb',.inl hb',(ok.exf b hb').2,fun p hp=>(f2 b hb').2.2.2.2.2 p (by simpa using hp)⟩
 have hfp0:∀b∈fp,upd H2 s.heap.objs.size (.lst []) b=none:=fun b hb'=>by
  obtain⟨o,e⟩:=ho b hb';rw[zh (ne_of_lt (Heap.lt_size e))];exact(f2 b hb').1
 have loop:∀s₃:Shared,s₃={ s with heap:=h₁,toks:=s.toks+([]:List (Str×Value)).length }->
   codeAny (model X.prog X.w) X.A (.compLoop (.ListComp elt [⟨tg,iter,ifs,0⟩] sc pos) 0 (.ref it) (.ref s.heap.objs.size) (compEnvC sc (clB X.env fr) H3.objs.size X.env)) (RR (.ref s.heap.objs.size) H3.objs.size) s₃:=by
  rintro s₃ rfl;refine za8 (fun n s'=>∃i σ' H' ys,Inv (zU X pins sc fr Nc fp s H2 H3.objs.size) [] σ' H' s'/\tn i s'.heap/\(∀b∈fp,H' b=none)/\W i n ys H'/\
   (∀(k:Nat) (v:V),(xi caps σ)[k]?=some (some v)->σ'[k]?=some (some v))) ?_ m0
   ⟨0,_,_,[],I4 _,T.keep _ _ _ st2 (fun b _ o e=>old b o e),hfp0,w0,fun _ _ e=>e⟩
  rintro n s3 ⟨i,σ3,H4,ys,I3,st3,fr3,w3,wk3⟩;have I3':Inv (zU X pins sc fr Nc fp s H2 H3.objs.size) [] (xi caps σ) H4 s3:=I3.weak (by rw[I3.len];exact(I4 0).len) wk3
  rcases turn i n ys H4 w3 with ⟨stop,qn⟩|⟨gg,step⟩
  ·refine thn (T.done (zU X pins sc fr Nc fp s H2 H3.objs.size) rfl rfl rfl hc i [] s3 _ H4 (fun _ _=>False) I3' (stat fr3) st3 stop) fun r s4 ⟨hr,I4'⟩=>?_
   subst hr;exact fin _ _ _ _ _ I4' qn
  ·refine thn (T.item (zU X pins sc fr Nc fp s H2 H3.objs.size) rfl rfl rfl hc i [] s3 _ H4 (fun _ _=>False) I3' (stat fr3) st3 gg) fun r s4 ⟨u,hr,h4⟩=>?_
   subst hr;refine thn h4 fun _ s5 ⟨x,H5,I5,r5,y5,st5,fr5⟩=>?_;have I5':=I5.pinned (stat fr5) (T.obj _ _ st5);refine thn (hbg _ s5 _ H5 x u _ I5' r5 (go _ _ _ _ (step x H5 y5))) fun _ s6 ⟨σ6,H6,I6,q6,l6,k6⟩=>?_;have wk6:∀(k:Nat) (v:V),(xi caps σ)[k]?=some (some v)->σ6[k]?=some (some v):=fun k v e=>by
    rw[k6 k fun hk=>?_]
    ·exact e
    ·have h1:=List.all_eq_true.mp how k hk
     have h2:caps[k]?=some none:=by simpa using h1
     unfold xi at e;rw[getElem?_map,h2] at e;cases e
   refine thn (hbt _ s6 σ6 H6 _ I6 q6) fun ok s7 ⟨H7,I7,q7⟩=>?_;have again:∀{H8:Hp}{s8:Shared}{ys':List V},Inv (zU X pins sc fr Nc fp s H2 H3.objs.size) ([]++vj fp s5.heap) σ6 H8 s8->(∃m',m'<n/\W (i+1) m' ys' H8)->
     ∃m,m<n/\∃i σ' H' ys,Inv (zU X pins sc fr Nc fp s H2 H3.objs.size) [] σ' H' s8/\tn i s8.heap/\(∀b∈fp,H' b=none)/\W i m ys H'/\(∀(k:Nat) (v:V),(xi caps σ)[k]?=some (some v)->σ'[k]?=some (some v)):=fun {H8 s8 ys'} I8 ⟨m',hm,w8⟩=>by
    refine⟨m',hm,i+1,σ6,H8,ys',I8.unpinned,T.keep _ _ _ st5 fun b hb' o e=>(I8.pin (b,o) (mem_append_right _ (mem_append_right _ (yO hb' e)))).1,fun b hb'=>?_,w8,wk6⟩;obtain⟨o,e,d⟩:=T.obj _ _ st5 b hb';exact(I8.pin (b,o) (mem_append_right _ (mem_append_right _ (yO hb' e)))).2.1
   cases ok with
   | false=>
    rw[if_neg Bool.false_ne_true];exact again I7 (q7.2 rfl)
   | true=>
    rw[if_pos rfl];refine thn (hbe _ s7 σ6 H7 _ I7 (q7.1 rfl)) fun uv s8 ⟨v,H8,I8,r8,hD8,hz,q8⟩=>?_;refine thn (yu (X:=zU X pins sc fr Nc fp s H2 H3.objs.size) _ s8 σ6 H8 (.ref s.heap.objs.size) [v] _ [uv] (fun _ H'=>H'=upd H8 s.heap.objs.size (.lst (ys++[v]))) I8 rfl (.cons r8 .nil) ⟨_,ys,v,rfl,rfl,hD8,hz,rfl⟩) fun _ s9 ⟨_,H9,I9,_,e9⟩=>?_;subst e9;exact again I9 q8
 exact codeAny_compStart_list (loop _ rfl) (T.self _ 0 _ _ _ (T.keep _ _ _ st2 (fun b _ o e=>old b o e)) (loop _ rfl))
theorem y7.loc{env:Env}(B:y7 env sc fr):∀x∈sc.names,x.2=.local->sc.names.lookup x.1=some .local:=fun y hy e=>by
 have h3:=List.all_eq_true.mp B.names _ hy;simp only[Bool.and_eq_true,Bool.or_eq_true,bne_iff_ne,ne_eq,beq_iff_eq] at h3;rcases h3.2 with z|z
 ·exact absurd e z
 ·exact z
theorem yP{wi:TI}(fr Nc:List Str) (caps:List (Option Nat)) (hc:X.calm=true) (B:y7 X.env sc fr) (hi:PI X tg iter wi) (go:zdj g ow) (how:(ow.all fun i=>caps[i]?==some none)=true)
  (hcap:uf X.N Nc caps X.env sc fr=true) (hlen:caps.length=Nc.length)
  (hb:∀(pins:List (Addr×Obj)) (fp:List Addr) (s:Shared) (H:Hp) (C:Addr),PG (zU X pins sc fr Nc fp s H C) tg g/\PIf (zU X pins sc fr Nc fp s H C) ifs tt/\PE (zU X pins sc fr Nc fp s H C) elt te)
  (hs:∀x,foldedSetIterable iter X.env x=pure x:=by intro _;rfl):PE X (.ListComp elt [⟨tg,iter,ifs,0⟩] sc pos) (tLC wi caps g tt te):=by
 refine⟨?_⟩;intro pins s σ H Q I h;rw[eval_ListComp];refine wpAny_comprehension_free (use:=none) rfl hs B.clos B.kind B.loc (thn (hi pins s σ H _ I h) fun v s1 h1=>thn h1 fun itv s2 h2=>?_);obtain⟨it,fp,tn,J,H2,e,I2,T,st2,f2,q⟩:=h2;subst e;refine zb3 (RR:=fun acc C=>compPost (model X.prog X.w) X.A X.xe none (EP X pins σ Q) acc C) hc B go how hcap hlen hb I2 T st2 f2 q ?_;intro D C σ' H' s' J' qq;obtain⟨m,hn,_⟩:=J'.loc;exact⟨m,hn,fun h' hs'=>⟨.ref D,H',zaj I2 J' (u9 I2 f2 J') hs',rfl,qq⟩⟩
theorem vi{wi:TI}{i:Nat}{x:Str}{pos':Pos}(fr Nc:List Str) (caps:List (Option Nat)) (hN:X.N.Nodup) (hix:X.N[i]?=some x) (hx:Loc X.env.scope x) (hc:X.calm=true) (B:y7 X.env sc fr) (hi:PI X tg iter wi) (go:zdj g ow) (how:(ow.all fun i=>caps[i]?==some none)=true)
  (hcap:uf X.N Nc caps X.env sc fr=true) (hlen:caps.length=Nc.length)
  (hb:∀(pins:List (Addr×Obj)) (fp:List Addr) (s:Shared) (H:Hp) (C:Addr),PG (zU X pins sc fr Nc fp s H C) tg g/\PIf (zU X pins sc fr Nc fp s H C) ifs tt/\PE (zU X pins sc fr Nc fp s H C) elt te)
  (hsw:swapsWith (.ListComp elt [⟨tg,iter,ifs,0⟩] sc pos) (some (.Name x pos')) pos2.line X.env=pure true:=by rfl)
  (hs:∀x,foldedSetIterable iter X.env x=pure x:=by intro _;rfl) (hf:X.fn x=true\/X.env.scope.names.lookup x=some .local:=by first|exact .inl rfl|exact .inr rfl|assumption) :
  PS X (.Assign [.Name x pos'] (.ListComp elt [⟨tg,iter,ifs,0⟩] sc pos) pos2) (zi9 (tLC wi caps g tt te) (zN i)):=by
 refine⟨?_⟩;intro pins s σ H D0 I h;rw[exec_Assign_Name_used _ _ _ _ hsw];refine wpAny_bind (wpAny_standAt (wpAny_bind ?_));show wpAny _ X.A (do let _ <- comprehension (.ListComp elt [⟨tg,iter,ifs,0⟩] sc pos) sc X.env _ (newList []) false (eval iter X.env) (some (assign (.Name x pos') X.env))) _ _ s
 refine wpAny_bind (wpAny_mono (wpAny_comprehension_free (use:=some (assign (.Name x pos') X.env)) (Q:=fun _ s'=>SP X pins D0 .next s') rfl hs B.clos B.kind B.loc
  (thn (hi pins s σ H _ I h) fun v s1 h1=>thn h1 fun itv s2 h2=>?_)) (fun _ s' hq=>wpAny_pure (wpAny_pure hq)) fun _ _ e=>e)
 obtain⟨it,fp,tn,J,H2,e,I2,T,st2,f2,q⟩:=h2;subst e;refine zb3 (Q:=fun v H1=>zN i v σ H1 D0.nx) (RR:=fun acc C=>compPost (model X.prog X.w) X.A X.xe (some (assign (.Name x pos') X.env)) (fun _ s'=>SP X pins D0 .next s') acc C) hc B go how hcap hlen hb I2 T st2 f2 q ?_;intro D C σ' H' s' J' qq;have I':=u9 I2 f2 J';obtain⟨m,hn,_⟩:=J'.loc;have hC:s2.heap.objs.size<=C:=J'.ok.above;show wpAny _ X.A (assign (.Name x pos') X.env (.ref D)) _ _ s';refine wpAny_assign_Name (qK (v:=.ref D) I' hN hix hx rfl (fun s'' I'' ⟨a,sb,ha⟩=>?_) hf);have haC:C≠a:=by
  rintro rfl;rcases ha with z|z
  ·have:=I2.lt
   rw[<- z] at this;exact absurd (lt_of_lt_of_le this hC) (lt_irrefl _)
  ·obtain⟨v,hv⟩:=I2.cell x C z
   exact absurd (lt_of_lt_of_le hv.lt hC) (lt_irrefl _)
 have hCH:H' C=none:=J'.free;refine⟨m,hn.sameBut sb haC,fun h' hs'=>⟨_,H',?_,qq⟩⟩;refine I''.turned (it:=C) (t':=s''.toks) (fun b o hb e=>(hs'.2 b hb).trans e) hCH ?_ (.inr (Nat.le_trans I2.sz hC)) (fun x c h z=>?_) fun p hp z=>?_
 ·intro z
  have:=I2.lt
  rw[<- z] at this;exact absurd (lt_of_lt_of_le this hC) (lt_irrefl _)
 ·obtain⟨v,hv⟩:=I2.cell x c h
  have:=hv.lt
  rw[z] at this;exact absurd (lt_of_lt_of_le this hC) (lt_irrefl _)
 ·have:=I2.pin_lt hp
  rw[z] at this;exact absurd (lt_of_lt_of_le this hC) (lt_irrefl _)
end
def Its(z:Str):It:=⟨fun i _=>i<z.cps.size,fun i H x H'=>H'=H/\∃c,z.cps[i]?=some c/\x=.str ⟨#[c]⟩,fun i _=>z.cps.size<=i⟩
theorem ze5{P:Program}{w:World}{K:Frag}{tg:Expr}(it:Addr) (z:Str) (t:Tok):zca P w K tg (Its z) [it] it (fun i h=>h.IsStrIter it (strIterType z) z t i) where
 mem:=by simp
 obj:=fun i h st b hb=>by
  have e:b=it:=by simpa using hb
  subst e;obtain⟨o,e,_,d⟩:=st;exact⟨o,e,fun v q=>by rw[d] at q;cases q⟩
 keep:=fun i h h' st k=>by
  obtain⟨o,e,r⟩:=st;exact⟨o,k it (by simp) o e,r⟩
 item:=by
  intro X hP hw hK hc i pins s σ H E I hf st hg;subst hP hw hK;obtain⟨f0,f1,f2,f3,f4,f5⟩:=hf it (by simp)
  have hi:i<z.cps.size:=hg;have hx:z.cps[i]?=some z.cps[i]:=by simp [hi]
  have fin:∀h',h'.IsStrIter it (strIterType z) z t (i+1)->Heap.SameBut it s.heap h'->
    ∃u,some (Value.str ⟨#[z.cps[i]]⟩ s.toks)=some u/\wpAny (model X.prog X.w) X.A (letOwnedTupleGo tg (.ref it) u) (fun _ s2=>∃x H',Inv X pins σ H' s2/\zV x u/\(Its z).yld i H x H'/\s2.heap.IsStrIter it (strIterType z) z t (i+1)/\∀b∈[it],H' b=none) E { s with heap:=h',toks:=s.toks+1 }:=fun h' hit hs=>by
   have I1:Inv X pins σ H { s with heap:=h',toks:=s.toks+1 }:=I.turned (fun b o hb e=>(hs.2 b hb).trans e) f0 f1 f3 f4 f5
   obtain⟨o,e1,e2,e3⟩:=id hit;refine⟨_,rfl,zgH (s:={ s with heap:=h',toks:=s.toks+1 }) e1 e2 e3 ?_ ⟨.str ⟨#[z.cps[i]]⟩,H,I1,⟨_,rfl⟩,⟨rfl,_,hx,rfl⟩,hit,fun b hb=>(hf b hb).1⟩⟩
   unfold strIterType;split <;> decide
  cases ha:z.cps.all (·<128)
  ·have e:strIterType z="str_iterator":=by simp [strIterType,ha]
   rw[e] at st;exact wpAny_pyNext_wide_item st hx fun h' a b=>fin h' (e.symm ▸ a) b
  ·have e:strIterType z="str_ascii_iterator":=by simp [strIterType,ha]
   rw[e] at st;exact wpAny_pyNext_ascii_item st hx fun h' a b=>fin h' (e.symm ▸ a) b
 done:=by
  intro X hP hw hK hc i pins s σ H E I hf st hg;subst hP hw hK;obtain⟨f0,f1,f2,f3,f4,f5⟩:=hf it (by simp)
  have hi:z.cps.size<=i:=hg;have hx:z.cps[i]?=none:=by simp [hi]
  have fin:∀h',Heap.ExtBut it s.heap h'->(none:Option Value)=none/\Inv X pins σ H { s with heap:=h' }:=fun h' eb=>⟨rfl,I.turned (t':=s.toks) (fun b o hb e=>eb b o hb e) f0 f1 f3 f4 f5⟩
  cases ha:z.cps.all (·<128)
  ·have e:strIterType z="str_iterator":=by simp [strIterType,ha]
   rw[e] at st;exact wpAny_pyNext_wide_end (I.ok.hd hc) st hx fin
  ·have e:strIterType z="str_ascii_iterator":=by simp [strIterType,ha]
   rw[e] at st;exact wpAny_pyNext_ascii_end (I.ok.hd hc) st hx fin
 self:=fun A i s Q E st h=>by
  cases ha:z.cps.all (·<128)
  ·have e:strIterType z="str_iterator":=by simp [strIterType,ha]
   rw[e] at st;exact wpAny_pyIter_striter_wide st h
  ·have e:strIterType z="str_ascii_iterator":=by simp [strIterType,ha]
   rw[e] at st;exact wpAny_pyIter_striter_ascii st h
section
variable {X:Cx}{tg:Expr}
def zl1(tl:TE):TI:=fun σ H R=>tl σ H fun x H1=>∃z,x=.str z/\R (Its z) H1
theorem zaS{l:Expr}{tl:TE}(hl:PE X l tl):PI X tg l (zl1 tl):=by
 refine⟨?_⟩;intro pins s σ H R I h;refine thn (hl pins s σ H _ I h) fun v s1 ⟨x,H1,I1,r1,q1⟩=>?_;obtain⟨z,e,q⟩:=q1;subst e;obtain⟨t,rfl⟩:=r1;refine wpAny_pyIter_strU ?_;refine⟨s1.heap.objs.size,[s1.heap.objs.size],_,_,H1,rfl,I1.kept (t':=s1.toks) fun b o e=>Heap.get?_push_of_some _ e,ze5 _ z t,⟨_,Heap.get?_push_size _ rfl,rfl,rfl⟩,fun b hb=>?_,q⟩;have e:b=s1.heap.objs.size:=by simpa using hb
 subst e;exact I1.fpOk (Nat.le_refl _) (I1.hok.fresh (Nat.le_refl _))
def zlB:V->Option Int->Option Int->Hp->VK->Prop:=fun x lo hi H Q=>∃z,x=.str z/\z.length<=sizeLine/\Q (.str (Txt.slice z lo hi)) H
theorem zjb:SlR X zlB:=by
 intro pins s σ H x v vl vu lo hi sl Q I rx hs pl pu h;obtain⟨z,rfl,hz,q⟩:=h;obtain⟨t,rfl⟩:=rx;refine⟨"str",_,F.slot_str_getitem.lookup,typeIs_str _ _ _,?_⟩;have fin:∀t' k,EP X pins σ Q (.str (Txt.slice z lo hi) t') { s with toks:=k }:=fun t' k=>⟨.str (Txt.slice z lo hi),H,I.tok k,⟨t',rfl⟩,q⟩
 cases pl with
 | none=>
  cases pu with
  | none=>exact wpAny_getItem_str_slice (l:=none) (u:=none) (st:=none) hs rfl (post_val_or_str ⟨Nat.le_trans (Txt.slice_le z _ _) hz,fin⟩)
  | int j tj=>exact wpAny_getItem_str_slice (l:=none) (u:=some (j,tj)) (st:=none) hs rfl (post_val_or_str ⟨Nat.le_trans (Txt.slice_le z _ _) hz,fin⟩)
 | int i ti=>
  cases pu with
  | none=>exact wpAny_getItem_str_slice (l:=some (i,ti)) (u:=none) (st:=none) hs rfl (post_val_or_str ⟨Nat.le_trans (Txt.slice_le z _ _) hz,fin⟩)
  | int j tj=>exact wpAny_getItem_str_slice (l:=some (i,ti)) (u:=some (j,tj)) (st:=none) hs rfl (post_val_or_str ⟨Nat.le_trans (Txt.slice_le z _ _) hz,fin⟩)
theorem vN(hc:X.calm=true):xh X (.builtin "all") (fun xs H Q=>∃(p:Addr) (bs:List Bool),xs=[.ref p]/\SqL X.K H p (bs.map V.bl)/\Q (.bl (bs.all id)) H):=by
 intro pins s σ H xs us Q I r h;obtain⟨p,bs,rfl,hS,q⟩:=h;obtain⟨u,rfl,ru⟩:=wA r;cases ru;obtain⟨its,rv,hp,hz⟩:=I.list hS;have hlen:its.length=bs.length:=by rw[<- rv.length,length_map]
 have hne:p≠s.heap.objs.size:=ne_of_lt (by obtain⟨_,e,_⟩:=hp.isList;exact Heap.lt_size e)
 refine call_all_walk (wpAny_pyIter_list hp.isList ?_);refine⟨s.heap.objs.size,_,_,_,_,_,fun i=>bs.getD i false,rfl,Walks.list (A:=X.A.in1) (I.ok.hd hc) s.heap.objs.size p hne its.toArray,⟨⟨_,Heap.get?_push_size _ rfl,rfl,rfl⟩,hp.isList.push _⟩,?_,fun h' tk k=>?_⟩
 ·intro i v s' Q' E' hP hQ
  have hv:its[i]?=some v:=by simpa using hP
  have hi:i<bs.length:=by rw[<- hlen];exact(List.getElem?_eq_some_iff.mp hv).1
  obtain⟨u',e1,e2⟩:=rv.get (i:=i) (x:=V.bl bs[i]) (by rw[getElem?_map,getElem?_eq_getElem hi];rfl)
  rw[hv] at e1;cases e1;cases e2;refine wpAny_truthy_bool ?_
  have:bs.getD i false=bs[i]:=by rw[getD_eq_getElem?_getD,getElem?_eq_getElem hi];rfl
  rw[<- this];exact hQ
 ·have e:((List.range its.toArray.size).all fun i=>bs.getD i false)=bs.all id:=by
   rw[size_toArray,hlen,Bool.eq_iff_iff,all_eq_true,all_eq_true];constructor
   ·intro hh b hb
    obtain⟨i,hi,rfl⟩:=List.getElem_of_mem hb
    have:=hh i (List.mem_range.mpr hi)
    rw[getD_eq_getElem?_getD,getElem?_eq_getElem hi] at this;exact this
   ·intro hh i hi
    have hi':=List.mem_range.mp hi;rw[getD_eq_getElem?_getD,getElem?_eq_getElem hi'];exact hh _ (getElem_mem hi')
  rw[e];exact⟨.bl (bs.all id),H,I.kept (h':=h') (t':=tk) (fun b o q=>k b o (fun hm=>by
   have e:b=s.heap.objs.size:=by simpa using hm
   exact absurd (Heap.lt_size q) (by rw[e];exact lt_irrefl _)) (Heap.get?_push_of_some _ q)),rfl,q⟩
theorem xw:xh X (.builtin "isinstance") (fun xs H Q=>∃x T t b,xs=[x,.ty T]/\vR X.K H x t/\kitOne X.K t (.type T)=some b/\Q (.bl b) H):=by
 intro pins s σ H xs us Q I r h;obtain⟨x,T,t,b,rfl,ty,e,q⟩:=h;obtain⟨u,w',rfl,ru,rw'⟩:=ze0 r;cases rw';exact zeL I ru ty e fun tk=>⟨.bl b,H,I.tok tk,rfl,q⟩
end
def vn:Expr->Bool
 | .Starred ..=>true
 | _=>false
theorem yF{e:Expr}{es:List Expr}{env:Env}(h:vn e=false):starEach (e::es) env=(false,eval e env)::starEach es env:=by
 cases e <;> first|rfl|cases h
theorem wD{env:Env}{pos:Pos}:∀{es:List Expr},es.any vn=false->(backTo pos (starEach es env)).any (·.1)=false
 | [],_=>rfl
 | e::es,h=>by
  rw[any_cons,Bool.or_eq_false_iff] at h;rw[yF h.1];show(false||(backTo pos (starEach es env)).any (·.1))=false
  rw[wD h.2];rfl
section
variable {X:Cx}{CX:CXT}{k:Nat}{f C:Addr}{fd:FuncData}{ps:List Str}{sp:Sp}{dvs:List V}{ds:List Value}{E:XK}{x m:Str}{p pos apos:Pos}{e o:Expr}{es:List Expr}{te ta:TE}{t:TA}{id T:String}{r:List V->Hp->VK->Prop}
theorem ac(ha:PE X e te) (hr:PA X es t) (h:vn e=false:=by rfl):PA X (e::es) (ziy te t):=zhH ha hr (yF h)
theorem cB(hc:xh X (.builtin id) r) (hm:X.mg x=none) (hv:bootBuiltins x=some (.builtin id)) (ha:PA X (e::es) t) (hg:Gl X x:=by rfl) (hn:x≠"__name__":=by decide) (hdb:(x==("__debug__" : Str))=false:=by decide)
  (h1:vn e=false:=by rfl) (h2:es.any vn=false:=by rfl):PE X (.Call (.Name x p) (e::es) [] pos) (tCB r t):=zfY hc hg hm hv ha hn hdb (yF h1) (wD h2)
theorem cTy(hc:xh X (.type T) r) (hm:X.mg x=none) (hv:bootBuiltins x=some (.type T)) (ha:PA X (e::es) t) (hg:Gl X x:=by rfl) (hn:x≠"__name__":=by decide) (hdb:(x==("__debug__" : Str))=false:=by decide)
  (h1:vn e=false:=by rfl) (h2:es.any vn=false:=by rfl):PE X (.Call (.Name x p) (e::es) [] pos) (tCB r t):=zen hc hg hm hv ha hn hdb (yF h1) (wD h2)
structure zK(P:Program) (w:World) (K:Frag) (mg:Str->Option Value) (base:Heap) (k:Nat) (x:Str) (f:Addr) (fd:FuncData) (ps:List Str) (sp:Sp):Prop where
 ok:zJ P w K mg base CX0 k f fd ps sp
 mg:mg x=some (.ref f)
 kp:keepIn K (.ref f)=true
 bd:z7 K fd ps []
theorem cF(c:zK X.prog X.w X.K X.mg X.base k x f fd ps sp) (hr:yw k X.A) (ha:PA X (e::es) t) (hg:Gl X x:=by rfl) (hdb:(x==("__debug__" : Str))=false:=by decide)
  (h1:vn e=false:=by rfl) (h2:es.any vn=false:=by rfl):PE X (.Call (.Name x p) (e::es) [] pos) (ze6 sp [] E0 t):=
 zhG c.ok hr hg c.mg c.kp c.bd .nil yp ha hdb (yF h1) (wD h2)
end
end L2
namespace L2
open PySem PyProof.Rows
theorem jl(K:Frag):kitOne K (.type "NoneType") (.type "str")=some false:=by kernel_rfl
theorem zc0(K:Frag):kitOne K (.type "int") (.type "str")=some false:=by kernel_rfl
theorem zbU(K:Frag):kitOne K (.type "int") (.type "bool")=some false:=by kernel_rfl
theorem zc1(K:Frag):kitOne K (.type "int") (.type "int")=some true:=by kernel_rfl
theorem zbW(K:Frag):kitOne K (.type "bool") (.type "str")=some false:=by kernel_rfl
theorem uG(K:Frag):kitOne K (.type "bool") (.type "bool")=some true:=by kernel_rfl
theorem zcZ(K:Frag):kitOne K (.type "str") (.type "str")=some true:=by kernel_rfl
theorem zbT(K:Frag):kitOne K (.type "list") (.type "str")=some false:=by kernel_rfl
theorem za2(K:Frag):kitOne K (.type "list") (.type "list")=some true:=by kernel_rfl
theorem za1(K:Frag):kitOne K (.type "tuple") (.type "str")=some false:=by kernel_rfl
theorem qc(K:Frag):kitOne K (.type "tuple") (.type "tuple")=some true:=by kernel_rfl
theorem zbV(K:Frag):kitOne K (.type "dict") (.type "str")=some false:=by kernel_rfl
end L2
namespace L2
open PySem PySem.Spec PyProof.Rows
inductive Dt where
 | non|bl (b:Bool)|int (i:Int)|str (z:Str)|tup (ds:List Dt)|lst (ds:List Dt)
def vw:V->Dt->Prop
 | .non,.non=>True
 | .bl a,.bl b=>a=b
 | .int a,.int b=>a=b
 | .str a,.str b=>a=b
 | _,_=>False
def zS(K:Frag) (ok:Addr->Prop) (H:Hp):Nat->V->Dt->Prop
 | 0,x,d=>vw x d
 | n+1,x,d=>vw x d\/(∃a xs ds,x=.ref a/\d=.tup ds/\SqT K H a xs/\Paired (zS K ok H n) xs ds)\/(∃a xs ds,x=.ref a/\d=.lst ds/\ok a/\H a=some (.lst xs)/\Paired (zS K ok H n) xs ds)
section
variable {K:Frag}{ok ok':Addr->Prop}{H H':Hp}
theorem zS.flat{n:Nat}{x:V}{d:Dt}(h:vw x d):zS K ok H n x d:=by
 cases n with
 | zero=>exact h
 | succ n=>exact .inl h
theorem zS.int{n:Nat}{i:Int}:zS K ok H n (.int i) (.int i):=.flat rfl
theorem zS.str{n:Nat}{z:Str}:zS K ok H n (.str z) (.str z):=.flat rfl
theorem zS.bl{n:Nat}{b:Bool}:zS K ok H n (.bl b) (.bl b):=.flat rfl
theorem zS.non{n:Nat}:zS K ok H n .non .non:=.flat True.intro
theorem zS.tup{n:Nat}{a:Addr}{xs:List V}{ds:List Dt}(h:SqT K H a xs) (r:Paired (zS K ok H n) xs ds):zS K ok H (n+1) (.ref a) (.tup ds):=.inr (.inl ⟨a,xs,ds,rfl,rfl,h,r⟩)
theorem zS.lst{n:Nat}{a:Addr}{xs:List V}{ds:List Dt}(o:ok a) (h:H a=some (.lst xs)) (r:Paired (zS K ok H n) xs ds):zS K ok H (n+1) (.ref a) (.lst ds):=.inr (.inr ⟨a,xs,ds,rfl,rfl,o,h,r⟩)
theorem zS.frame(hT:∀a xs,SqT K H a xs->SqT K H' a xs) (hL:∀a xs,ok a->H a=some (.lst xs)->ok' a/\H' a=some (.lst xs)):∀{n:Nat}{x:V}{d:Dt},zS K ok H n x d->zS K ok' H' n x d
 | 0,_,_,h=>h
 | n+1,x,d,h=>by
  rcases h with h|⟨a,xs,ds,e1,e2,h,r⟩|⟨a,xs,ds,e1,e2,o,h,r⟩
  ·exact .inl h
  ·exact .inr (.inl ⟨a,xs,ds,e1,e2,hT a xs h,Paired.imp' (fun _ _ z=>zS.frame hT hL z) r⟩)
  ·exact .inr (.inr ⟨a,xs,ds,e1,e2,(hL a xs o h).1,(hL a xs o h).2,Paired.imp' (fun _ _ z=>zS.frame hT hL z) r⟩)
theorem zm.sqT{a:Addr}{xs:List V}(e:zm H H') (h:SqT K H a xs):SqT K H' a xs:=by
 rcases h with (h|⟨o,h⟩)|h
 ·exact .inl (.inl (e _ _ h))
 ·exact .inl (.inr ⟨o,e _ _ h⟩)
 ·exact .inr h
theorem zS.same{n:Nat}{x:V}{d:Dt}(e:zm H H') (h:zS K ok H n x d):zS K ok H' n x d:=h.frame (fun _ _ z=>e.sqT z) fun _ _ o z=>⟨o,e _ _ z⟩
theorem Paired.get{α β : Type}{F : α->β->Prop}:∀{l₁:List α}{l₂:List β}{i:Nat}{a : α},Paired F l₁ l₂->l₁[i]?=some a->∃b,l₂[i]?=some b/\F a b
 | _,_,_,_,.nil,e=>by simp at e
 | _,_,0,_,.cons r _,e=>by simp at e;subst e;exact⟨_,rfl,r⟩
 | _,_,i+1,a,.cons _ t,e=>by
  obtain⟨b,h1,h2⟩:=Paired.get (i:=i) (a:=a) t (by simpa using e)
  exact⟨b,by simpa using h1,h2⟩
end
section
variable {X:Cx}{pins:List (Addr×Obj)}{σ : St}{H:Hp}{s:Shared}{ok ok':Addr->Prop}
theorem zae{A:Around}{x y:V}{d:Dt}{u v:Value}(hx:vw x d) (hy:vw y d) (ru:zV x u) (rv:zV y v):SeqAt.EqAt A s u v true:=by
 cases d with
 | non=>
  cases x <;> try exact hx.elim
  cases y <;> try exact hy.elim
  cases ru;cases rv;exact SeqAt.EqAt.same _
 | bl b=>
  cases x <;> try exact hx.elim
  cases y <;> try exact hy.elim
  rename_i a c;obtain rfl:a=b:=hx;obtain rfl:c=a:=hy;cases ru;cases rv;exact SeqAt.EqAt.same _
 | int b=>
  cases x <;> try exact hx.elim
  cases y <;> try exact hy.elim
  rename_i a c;obtain rfl:a=b:=hx;obtain rfl:c=a:=hy;obtain⟨t,rfl⟩:=ru;obtain⟨t',rfl⟩:=rv
  have:=SeqAt.EqAt.int_int (A:=A) (s:=s) c t c t'
  simpa using this
 | str b=>
  cases x <;> try exact hx.elim
  cases y <;> try exact hy.elim
  rename_i a c;obtain rfl:a=b:=hx;obtain rfl:c=a:=hy;obtain⟨t,rfl⟩:=ru;obtain⟨t',rfl⟩:=rv
  have:=SeqAt.EqAt.str_str (A:=A) (s:=s) c t c t'
  simpa using this
 | tup ds=>cases x <;> exact hx.elim
 | lst ds=>cases x <;> exact hx.elim
theorem qj{a:Addr}{d:Dt}(h:vw (.ref a) d):False:=by cases d <;> exact h
theorem vq(n:Nat):((List.range n).all fun _=>true)=true:=by rw[all_eq_true];intro _ _;rfl
theorem vM(I:Inv X pins σ H s):∀(n:Nat) {A:Around}{x y:V}{d:Dt}{u v:Value},zS X.K ok H n x d->zS X.K ok' H n y d->zV x u->zV y v->A.units+n<cLine->SeqAt.EqAt A s u v true
 | 0,A,x,y,d,u,v,hx,hy,ru,rv,_=>zae hx hy ru rv
 | n+1,A,x,y,d,u,v,hx,hy,ru,rv,hu=>by
  have hin:A.in1.units+n<cLine:=by show A.units+1+n<cLine;omega
  rcases hx with hx|⟨a,xs,ds,rfl,rfl,hx,r⟩|⟨a,xs,ds,rfl,rfl,_,hx,r⟩
  ·rcases hy with hy|⟨b,ys,es,rfl,rfl,hy,q⟩|⟨b,ys,es,rfl,rfl,_,hy,q⟩
   ·exact zae hx hy ru rv
   ·cases x <;> exact hx.elim
   ·cases x <;> exact hx.elim
  ·rcases hy with hy|⟨b,ys,es,rfl,e2,hy,q⟩|⟨b,ys,es,rfl,e2,_,hy,q⟩
   ·cases y <;> exact hy.elim
   ·cases e2
    cases ru;cases rv;by_cases hab:a=b
    ·subst hab;exact SeqAt.EqAt.same _
    ·obtain⟨ia,va,pa,_⟩:=I.tuple hx
     obtain⟨ib,vb,pb,_⟩:=I.tuple hy;have la:ia.length=ds.length:=by rw[<- va.length,r.length]
     have lb:ib.length=ds.length:=by rw[<- vb.length,q.length]
     have:=SeqAt.RcAt.tuples (A:=A) (s:=s) (e:=fun _=>true) (show s.heap.IsTuple a ia.toArray from pa) (show s.heap.IsTuple b ib.toArray from pb) (by omega) (fun j h1 h2=>by
      have j1:j<ia.length:=by simpa using h1
      have j2:j<ib.length:=by simpa using h2
      have hxl:j<xs.length:=by rw[va.length];exact j1
      have hyl:j<ys.length:=by rw[vb.length];exact j2
      obtain⟨u',e1,e2⟩:=va.get (i:=j) (getElem?_eq_getElem hxl);obtain⟨v',e3,e4⟩:=vb.get (i:=j) (getElem?_eq_getElem hyl);obtain⟨d1,f1,f2⟩:=Paired.get r (getElem?_eq_getElem hxl);obtain⟨d2,f3,f4⟩:=Paired.get q (getElem?_eq_getElem hyl);rw[f1] at f3;cases f3;rw[getElem?_eq_getElem j1] at e1;rw[getElem?_eq_getElem j2] at e3;cases e1;cases e3;simpa using vM I n f2 f4 e2 e4 hin)
     rw[vq] at this;have z:(ia.toArray.size==ib.toArray.size)=true:=by simp [la,lb]
     rw[z] at this;exact SeqAt.EqAt.of_refs hab this
   ·cases e2
  ·rcases hy with hy|⟨b,ys,es,rfl,e2,hy,q⟩|⟨b,ys,es,rfl,e2,_,hy,q⟩
   ·cases y <;> exact hy.elim
   ·cases e2
   ·cases e2
    cases ru;cases rv;by_cases hab:a=b
    ·subst hab;exact SeqAt.EqAt.same _
    ·obtain⟨ia,va,pa,_⟩:=I.list (SqL.of hx)
     obtain⟨ib,vb,pb,_⟩:=I.list (SqL.of hy);have la:ia.length=ds.length:=by rw[<- va.length,r.length]
     have lb:ib.length=ds.length:=by rw[<- vb.length,q.length]
     have:=SeqAt.RcAt.lists (A:=A) (s:=s) (e:=fun _=>true) pa.isList pb.isList (by simp [la,lb]) (by omega) (fun j h1 h2=>by
      have j1:j<ia.length:=by simpa using h1
      have j2:j<ib.length:=by simpa using h2
      have hxl:j<xs.length:=by rw[va.length];exact j1
      have hyl:j<ys.length:=by rw[vb.length];exact j2
      obtain⟨u',e1,e2⟩:=va.get (i:=j) (getElem?_eq_getElem hxl);obtain⟨v',e3,e4⟩:=vb.get (i:=j) (getElem?_eq_getElem hyl);obtain⟨d1,f1,f2⟩:=Paired.get r (getElem?_eq_getElem hxl);obtain⟨d2,f3,f4⟩:=Paired.get q (getElem?_eq_getElem hyl);rw[f1] at f3;cases f3;rw[getElem?_eq_getElem j1] at e1;rw[getElem?_eq_getElem j2] at e3;cases e1;cases e3;simpa using vM I n f2 f4 e2 e4 hin)
     rw[vq] at this;exact SeqAt.EqAt.of_refs hab this
theorem zdH(I:Inv X pins σ H s) {n:Nat}{A:Around}{a b:Addr}{d:Dt}(hx:zS X.K ok H (n+1) (.ref a) d) (hy:zS X.K ok' H (n+1) (.ref b) d) (hu:A.units+n+1<cLine) :
  SeqAt.RcAt A s (.ref a) (.ref b) true/\SeqAt.RcNeAt A s (.ref a) (.ref b) false:=by
 have hin:A.in1.units+n<cLine:=by show A.units+1+n<cLine;omega
 rcases hx with hx|⟨a,xs,ds,e0,rfl,hx,r⟩|⟨a,xs,ds,e0,rfl,_,hx,r⟩
 ·exact(qj hx).elim
 ·cases e0
  rcases hy with hy|⟨b,ys,es,e1,e2,hy,q⟩|⟨b,ys,es,e1,e2,_,hy,q⟩
  ·exact(qj hy).elim
  ·cases e1;cases e2
   obtain⟨ia,va,pa,_⟩:=I.tuple hx;obtain⟨ib,vb,pb,_⟩:=I.tuple hy;have la:ia.length=ds.length:=by rw[<- va.length,r.length]
   have lb:ib.length=ds.length:=by rw[<- vb.length,q.length]
   have el:∀j (h1:j<ia.toArray.size) (h2:j<ib.toArray.size),SeqAt.EqAt A.in1 s ia.toArray[j] ib.toArray[j] true:=fun j h1 h2=>by
    have j1:j<ia.length:=by simpa using h1
    have j2:j<ib.length:=by simpa using h2
    have hxl:j<xs.length:=by rw[va.length];exact j1
    have hyl:j<ys.length:=by rw[vb.length];exact j2
    obtain⟨u',e1,e2⟩:=va.get (i:=j) (getElem?_eq_getElem hxl);obtain⟨v',e3,e4⟩:=vb.get (i:=j) (getElem?_eq_getElem hyl);obtain⟨d1,f1,f2⟩:=Paired.get r (getElem?_eq_getElem hxl);obtain⟨d2,f3,f4⟩:=Paired.get q (getElem?_eq_getElem hyl);rw[f1] at f3;cases f3;rw[getElem?_eq_getElem j1] at e1;rw[getElem?_eq_getElem j2] at e3;cases e1;cases e3;simpa using vM I n f2 f4 e2 e4 hin
   have z:(ia.toArray.size==ib.toArray.size)=true:=by simp [la,lb]
   have t1:=SeqAt.RcAt.tuples (A:=A) (s:=s) (e:=fun _=>true) (show s.heap.IsTuple a ia.toArray from pa) (show s.heap.IsTuple b ib.toArray from pb) (by omega) el
   have t2:=SeqAt.RcNeAt.tuples (A:=A) (s:=s) (e:=fun _=>true) (show s.heap.IsTuple a ia.toArray from pa) (show s.heap.IsTuple b ib.toArray from pb) (by omega) el
   rw[vq,z] at t1 t2;exact⟨t1,t2⟩
  ·cases e1;cases e2
 ·cases e0
  rcases hy with hy|⟨b,ys,es,e1,e2,hy,q⟩|⟨b,ys,es,e1,e2,_,hy,q⟩
  ·exact(qj hy).elim
  ·cases e1;cases e2
  ·cases e1;cases e2
   obtain⟨ia,va,pa,_⟩:=I.list (SqL.of hx);obtain⟨ib,vb,pb,_⟩:=I.list (SqL.of hy);have la:ia.length=ds.length:=by rw[<- va.length,r.length]
   have lb:ib.length=ds.length:=by rw[<- vb.length,q.length]
   have el:∀j (h1:j<ia.toArray.size) (h2:j<ib.toArray.size),SeqAt.EqAt A.in1 s ia.toArray[j] ib.toArray[j] true:=fun j h1 h2=>by
    have j1:j<ia.length:=by simpa using h1
    have j2:j<ib.length:=by simpa using h2
    have hxl:j<xs.length:=by rw[va.length];exact j1
    have hyl:j<ys.length:=by rw[vb.length];exact j2
    obtain⟨u',e1,e2⟩:=va.get (i:=j) (getElem?_eq_getElem hxl);obtain⟨v',e3,e4⟩:=vb.get (i:=j) (getElem?_eq_getElem hyl);obtain⟨d1,f1,f2⟩:=Paired.get r (getElem?_eq_getElem hxl);obtain⟨d2,f3,f4⟩:=Paired.get q (getElem?_eq_getElem hyl);rw[f1] at f3;cases f3;rw[getElem?_eq_getElem j1] at e1;rw[getElem?_eq_getElem j2] at e3;cases e1;cases e3;simpa using vM I n f2 f4 e2 e4 hin
   have t1:=SeqAt.RcAt.lists (A:=A) (s:=s) (e:=fun _=>true) pa.isList pb.isList (by simp [la,lb]) (by omega) el
   have t2:=SeqAt.RcNeAt.lists (A:=A) (s:=s) (e:=fun _=>true) pa.isList pb.isList (by simp [la,lb]) (by omega) el
   rw[vq] at t1 t2;exact⟨t1,t2⟩
def ziP(K:Frag) (b:Bool):R2:=fun x y H Q=>∃(a c:Addr) (n:Nat) (d:Dt) (ok ok':Addr->Prop),x=.ref a/\y=.ref c/\n<=20/\zS K ok H (n+1) x d/\zS K ok' H (n+1) y d/\Q (.bl b) H
theorem zjM(hu:X.A.units+64<cLine):OpR X (compareOp .Eq) (ziP X.K true):=by
 intro pins s σ H x y v u Q I rx ry h;obtain⟨a,c,n,d,ok,ok',rfl,rfl,hn,hx,hy,q⟩:=h;cases rx;cases ry;exact(zdH (A:=X.A) I hx hy (by omega)).1 X.prog X.w X.xe _ ⟨.bl true,H,I,rfl,q⟩
theorem zjL(hu:X.A.units+64<cLine):OpR X (compareOp .NotEq) (ziP X.K false):=by
 intro pins s σ H x y v u Q I rx ry h;obtain⟨a,c,n,d,ok,ok',rfl,rfl,hn,hx,hy,q⟩:=h;cases rx;cases ry;exact(zdH (A:=X.A) I hx hy (by omega)).2 X.prog X.w X.xe _ ⟨.bl false,H,I,rfl,q⟩
end
def Ite(K:Frag) (a:Addr):It:=
 ⟨fun i H=>∃xs x,SqL K H a xs/\xs[i]?=some x,fun i H x H'=>∃(p:Addr) (y:V),x=.ref p/\H p=none/\(∀xs,SqL K H a xs->xs[i]?=some y)/\H'=upd H p (.tup [.int i,y]),fun i H=>∃xs,SqL K H a xs/\xs.length<=i⟩
theorem zeb{P:Program}{w:World}{K:Frag}{elts:List Expr}{x1:Nat}{tpos:Pos}(a e it:Addr) (hne:e≠it) :
  zca P w K (.Tuple elts x1 tpos) (Ite K a) [e,it] e (fun i h=>(∃old,IsEnum h e it (i:Int) old)/\h.IsListIter it a i) where
 mem:=by simp
 obj:=fun i h st b hb=>by
  rcases List.mem_cons.mp hb with rfl|hb
  ·obtain⟨⟨old,he⟩,_⟩:=st
   exact⟨_,he,fun v q=>by cases q⟩
  ·have e':b=it:=by simpa using hb
   subst e';obtain⟨_,o,ho,_,hd⟩:=st;exact⟨o,ho,fun v q=>by rw[hd] at q;cases q⟩
 keep:=fun i h h' st k=>by
  obtain⟨⟨old,he⟩,o,ho,r⟩:=st;exact⟨⟨old,k e (by simp) _ he⟩,o,k it (by simp) o ho,r⟩
 item:=by
  intro X hP hw hK hc i pins s σ H E I hf st hg;subst hP hw hK;obtain⟨f0,f1,f2,f3,f4,f5⟩:=hf e (by simp)
  obtain⟨g0,g1,g2,g3,g4,g5⟩:=hf it (by simp)
  obtain⟨⟨old,he⟩,hit⟩:=st;obtain⟨xs,x,hS,hx⟩:=hg;obtain⟨its,rv,hp,hz⟩:=I.list hS;obtain⟨u,hu,ru⟩:=rv.get hx;refine wpAny_pyNext_enum_item he hit hp.isList (x:=u) (by simpa using hu) hne fun h' he' hit' htup hsz hk=>?_
  have I0:Inv X pins σ H { s with heap:=h',toks:=s.toks+1 }:=by
   refine I.step (g':=s.gens) (d':=s.drawn) (ch:=[e,it]) (fun b hb=>?_) (fun b o _ _ hc' e1 _=>hk b o (fun z=>hc' (by simp [z])) (fun z=>hc' (by simp [z])) e1) (fun b o _ _ hc' e1 _=>⟨o.slots,hk b o (fun z=>hc' (by simp [z])) (fun z=>hc' (by simp [z])) e1⟩) (fun _ _ _ _ n=>n)
    (fun b o hc' e1=>⟨o,hk b o (fun z=>hc' (by simp [z])) (fun z=>hc' (by simp [z])) e1⟩) (fun _ _ e1=>e1) (fun _ _ _ e1=>e1) (fun b ps e1=>⟨#[],by rw[e1];simp⟩) (fun m hm=>?_) (fun b u' e1=>?_) I.bare
   ·rcases List.mem_cons.mp hb with rfl|hb
    ·exact⟨f3,f1,f4,f5⟩
    ·have e':b=it:=by simpa using hb
     subst e';exact⟨g3,g1,g4,g5⟩
   ·obtain⟨o,es,ep,ho,r⟩:=hm
    exact⟨o,es,ep,hk _ o (Ne.symm f1) (Ne.symm g1) ho,r⟩
   ·have nit:∀c v',H c=some v'->c≠e/\c≠it:=fun c v' q=>⟨fun z=>(by rw[z,f0] at q;cases q),fun z=>(by rw[z,g0] at q;cases q)⟩
    refine(I.hok b u' e1).stay (fun c v' hc' q=>?_) (fun _ q=>q) fun _ _ q=>q;rcases hc' with z|z
    ·subst z;exact hk c v' (nit c _ e1).1 (nit c _ e1).2 q
    ·exact hk c v' (nit c _ z).1 (nit c _ z).2 q
  have hfr:H s.heap.objs.size=none:=I.hok.fresh (Nat.le_refl _);have I1:Inv X pins σ (upd H s.heap.objs.size (.tup [.int i,x])) { s with heap:=h',toks:=s.toks+1 }:=by
   have hok:HOk X.prog X.w (upd H s.heap.objs.size (.tup [.int i,x])) h':=fun b o q=>by
    by_cases hb:b=s.heap.objs.size
    ·subst hb
     rw[za] at q;cases q;exact⟨by show 2<=sizeLine;decide,[.int i s.toks,u],.cons ⟨_,rfl⟩ (.cons ru .nil),⟨_,htup,rfl,_,rfl⟩⟩
    ·rw[zh hb] at q
     exact(I0.hok b o q).stay (fun _ _ _ z=>z) (fun c z=>by rw[zh (zi z hfr)];exact z) fun c xs' z=>by rw[zh (zi z hfr)];exact z
   refine I0.step (s:={ s with heap:=h',toks:=s.toks+1 }) (g':=s.gens) (d':=s.drawn) (h':=h') (t':=s.toks+1) (ch:=[s.heap.objs.size]) (fun b hb=>?_) (fun b o _ _ _ e1 _=>e1) (fun b o _ _ _ e1 _=>⟨o.slots,e1⟩) (fun b o hb e1 n=>by rw[zh (fun z=>hb (by simp [z]))];exact n)
    (fun b o _ e1=>⟨o,e1⟩) (fun b xs' e1=>by rw[zh (zi e1 hfr)];exact e1) (fun b o' u' e1=>by rw[zh (zi e1 hfr)];exact e1) (fun b ps e1=>⟨#[],by rw[zh (zi e1 hfr),e1];simp⟩) (fun m hm=>hm) hok I0.bare
   have e':b=s.heap.objs.size:=by simpa using hb
   subst e';refine⟨.inr I.sz,fun z=>?_,fun y c h z=>?_,fun p hp' z=>?_⟩
   ·have:=I.lt;rw[<- z] at this;exact absurd this (lt_irrefl _)
   ·obtain⟨v',hv⟩:=I.cell y c h
    have:=hv.lt;rw[z] at this;exact absurd this (lt_irrefl _)
   ·have:=I.pin_lt hp';rw[z] at this;exact absurd this (lt_irrefl _)
  refine⟨_,rfl,wpAny_letOwnedTupleGo_enum he' fun h2 he2 hs2=>?_⟩;have nes:s.heap.objs.size≠e:=fun z=>by
   have:=Heap.lt_size (show s.heap.get? e=some _ from he)
   rw[<- z] at this;exact absurd this (lt_irrefl _)
  have nis:s.heap.objs.size≠it:=fun z=>by
   obtain⟨o,ho,_⟩:=hit
   have:=Heap.lt_size ho
   rw[<- z] at this;exact absurd this (lt_irrefl _)
  have I2:Inv X pins σ (upd H s.heap.objs.size (.tup [.int i,x])) { s with heap:=h2,toks:=s.toks+1 }:=
   I1.turned (s:={ s with heap:=h',toks:=s.toks+1 }) (t':=s.toks+1) (it:=e) (fun b o hb q=>(hs2.2 b hb).trans q) (by rw[zh nes.symm];exact f0) f1 f3 f4 f5
  refine⟨.ref s.heap.objs.size,_,I2,rfl,⟨_,x,rfl,hfr,fun xs' h'=>?_,rfl⟩,⟨⟨_,by simpa using he2⟩,?_⟩,fun b hb=>?_⟩
  ·rw[I.list_inj h' hS];exact hx
  ·obtain⟨o,ho,r⟩:=hit'
   exact⟨o,(hs2.2 it (Ne.symm hne)).trans ho,r⟩
  ·rcases List.mem_cons.mp hb with rfl|hb
   ·rw[zh nes.symm];exact f0
   ·have e':b=it:=by simpa using hb
    subst e';rw[zh nis.symm];exact g0
 done:=by
  intro X hP hw hK hc i pins s σ H E I hf st hg;subst hP hw hK;obtain⟨⟨old,he⟩,hit⟩:=st;obtain⟨g0,g1,g2,g3,g4,g5⟩:=hf it (by simp)
  obtain⟨xs,hS,hle⟩:=hg;obtain⟨its,rv,hp,hz⟩:=I.list hS;have hx:its.toArray[i]?=none:=by simp [<- rv.length,hle]
  exact wpAny_pyNext_enum_end (I.ok.hd hc) he hit hp.isList hx fun h' eb=>⟨rfl,I.turned (t':=s.toks) (fun b o hb e1=>eb b o hb e1) g0 g1 g3 g4 g5⟩
 self:=fun A i s Q E st h=>by
  obtain⟨⟨old,he⟩,_⟩:=st;exact wpAny_pyIter_enum he h
section
variable {X:Cx}{elts:List Expr}{x1:Nat}{tpos:Pos}
def zk1(K:Frag) (ta:TA):TI:=fun σ H R=>ta σ H fun vs H1=>∃a,vs=[.ref a]/\(∃xs,SqL K H1 a xs)/\R (Ite K a) H1
theorem wS{l:Expr}{ta:TA}{p pos:Pos}(hg:Gl X "enumerate") (hm:X.mg "enumerate"=none) (ha:PA X [l] ta) (hl:vn l=false:=by rfl):PI X (.Tuple elts x1 tpos) (.Call (.Name "enumerate" p) [l] [] pos) (zk1 X.K ta):=by
 refine⟨?_⟩;intro pins s σ H R I h;refine Call_ (ww I hg hm PyProof.Rows.boot_enumerate (PyProof.Rows.callWith_type1 (thn (ha pos pins s σ H _ I h) fun us s1 ⟨vs,H1,I1,r1,q1⟩=>?_) (yF hl) rfl));obtain⟨a,e,⟨xs,hS⟩,q⟩:=q1;subst e;obtain⟨u,rfl,ru⟩:=wA r1;cases ru;obtain⟨its,rv,hp,hz⟩:=I1.list hS;refine call_enumerate_list hp.isList fun h' he hit hsz hk=>?_;refine wpAny_pyIter_enum he ?_;have hfr:∀b,s1.heap.objs.size<=b->H1 b=none:=fun b hb=>I1.hok.fresh hb;have I2:Inv X pins σ H1 { s1 with heap:=h' }:=I1.kept (t':=s1.toks) hk
 refine⟨s1.heap.objs.size+1,[s1.heap.objs.size+1,s1.heap.objs.size],_,_,H1,rfl,I2,zeb a _ _ (Nat.succ_ne_self _),⟨⟨_,he⟩,hit⟩,fun b hb=>?_,q⟩;rcases List.mem_cons.mp hb with rfl|hb
 ·exact I1.fpOk (le_succ _) (hfr _ (le_succ _))
 ·have e':b=s1.heap.objs.size:=by simpa using hb
  subst e';exact I1.fpOk (Nat.le_refl _) (hfr _ (Nat.le_refl _))
end
end L2
namespace Att
open PySem PySem.W PySem.Calls PyProof.Rows
theorem zbv{ns:List Int}(h:WData.layableAll [WData.list (ns.map WData.int)]=true):∀n∈ns,Builtin.Int.intBits n<=1048576:=fun n hn=>
 PySem.intBits_le_of_layable (layable0_of_all (lay0_int (layableW_item (layW_cons h).1 (.int n) (List.mem_map.mpr ⟨n,hn,rfl⟩))))
theorem zio{l:OpenLaw}{n:Nat}{q:Program}{loose:List Str}{XP:(Str->Option Value)->Heap->Prop}{YP:World->Heap->Prop}{d:DefRec}
  (hn:l.most=some n) (hdf:d.params.defaults=[])
  (call:∀(w:World) (s₀ s₁:Shared) (mg mb:Str->Option Value) (fa:Addr) (o:Obj) (pm cd doc:Value) (a:Addr) (vs:List Value) (ns:List Int),
   Ground q loose [] XP w s₀ mg mb s₁.heap->YP w s₁.heap->
   s₁.heap.get? fa=some o->o.data=.func (docDef d.name d.params d.body d.scope pm cd doc)->s₁.heap.CodeRec cd d.name->mg d.name=some (.ref fa)->
   s₁.heap.get? a=some { cls:=.type "list",data:=.seq vs.toArray }->IntsAre vs ns->ns.length<=n->(∀m∈ns,Builtin.Int.intBits m<=1048576)->s₁.gens=#[]->
   codeAny (model l.prog w) callerA (.call (.ref fa) ⟨[.ref a],[]⟩) (fun r s'=>r=.ok (.ret (.bool true))/\OldK s₁.heap s'.heap/\s'.os=s₁.os/\AllBare s'.gens) s₁) :
  WalkO q loose XP YP l.row.toRowW d [] (fun f vs=>PySem.call f vs):=by
 intro w s₀ s₁ mg mb G Y fa o pm cd doc dV kV ho hd hcd hD hmg hg args vals as hpre hlay hrd hwl hlo;obtain rfl:dV=.none:=Dflts.none hD hdf;obtain rfl:kV=.none:=Dflts.noKw hD;obtain⟨a,vs,ns,rfl,rfl,hobj,hints,hlen⟩:=zef hn hpre hwl;refine enter_call (codeAny_mono (call w s₀ s₁ mg mb fa o pm cd doc a vs ns G Y ho (fd_plain hd) hcd hmg hobj hints hlen (zbv hlay) hg) fun r s' hq=>?_);obtain⟨rfl,h2,h3,h4⟩:=hq;exact⟨.inl ⟨.bool true,.bool true,[],rfl,fun _=>rfl,.bool true,zek l _,fun _=>⟨List.Pairwise.nil,fun _ hm=>(nomatch hm)⟩⟩,h2,h3,h4⟩
end Att
namespace L2
open PySem PySem.Spec PyProof.Rows
theorem zkm{l:PySem.W.OpenLaw}{n k:Nat}{q:Program}{loose:List Str}{XP:(Str->Option Value)->Heap->Prop}{YP:World->Heap->Prop}{d:DefRec}{K:Params->Frag}{CX:World->CXT}{sp:World->Sp}{x:Str}
  (hn:l.most=some n) (hn2:n<=sizeLine) (hdf:d.params.defaults=[]) (hr:yw k callerA)
  (hY:∀(w:World) (h:Heap),YP w h->(K w.params).In h)
  (F:∀(w:World) (mg:Str->Option Value) (fa:Addr) (h:Heap),(K w.params).In h->h.Ns mainGlobals mg->mg d.name=some (.ref fa)->
   ∃fd:FuncData,(∀(s:Shared) (u:Value),BindsTo s fd ⟨[u],[]⟩ [(x,u)])/\
    ∀base:Heap,(K w.params).In base->base.Ns mainGlobals mg->zJ l.prog w (K w.params) mg base (CX w) k fa fd [x] (sp w))
  (hsp:∀(w:World) (H:Hp) (a:Addr) (ns:List Int),ns.length<=n->(∀m∈ns,Builtin.Int.intBits m<=1048576)->zkh H->SqL (K w.params) H a (ns.map V.int)->sp w [.ref a] H (fun v _=>v=.bl true) fun _ _ _=>False)
  (hCX:∀(w:World) (H:Hp) (s:Shared) (e:Value) (s':Shared),CX w [] H s (fun _ _ _=>False) e s'->False) :
  PySem.W.WalkO q loose XP YP l.row.toRowW d [] (fun f vs=>PySem.call f vs):=by
 refine Att.zio hn hdf fun w s₀ s₁ mg mb fa o pm cd doc a vs ns G Y ho hd hcd hmg hobj hints hlen hbits hg=>?_;have KX:=hY w _ Y;obtain⟨fd,hb,hF⟩:=F w mg fa _ KX G.T.g hmg;exact zgz KX G.T.g G.T.b G.T.builtins G.T.nolimit hg hobj hints (Nat.le_trans hlen hn2) hr hF hb (fun H hO hS=>hsp w H a ns hlen hbits hO hS) fun H e s'=>hCX w H s₁ e s'
section
variable {X:Cx}
end
structure qE(K:Frag) (x qual:Str) (st:Stmt) (f:Addr) (fd:FuncData) (items:List Value):Prop where
 ex:∃(oc:Value) (od:Option Addr) (T:Addr) (kV doc pm:Value) (an:Option Addr) (cdv ct:Value) (osl:Array (Option Value)) (o:Obj) (n:Nat),
  fd=fnOf x qual (yh st) (ya st) (zg st) (.ref T) kV doc pm an cdv ct/\K.lookup f=some ⟨oc,od,.func fd,osl⟩/\codeIn K cdv qual=true/\K.lookup T=some o/\o.data=.seq items.toArray n
 kp:keepIn K (.ref f)=true
section
variable {P:Program}{w:World}{K:Frag}{mg:Str->Option Value}{base:Heap}
theorem qE.ok{x qual:Str}{st:Stmt}{f:Addr}{fd:FuncData}{items:List Value}{N ps:List Str}{k:Nat}{sp:Sp}(F:qE K x qual st f fd items) (S:zu N ps (zg st)) (len:∀vs H Q E,sp vs H Q E->vs.length=ps.length)
  (hbody:∀(cdv:Value) (A:Around) (outer:List Env) (s:Shared) (H:Hp) (vs:List V) (Q:VK) (E:XK),yw k (A.deeper (envOfC qual (zg st) s.heap.objs.size f cdv))->sp vs H Q E->
   ∃t,PSs (zdc CX0 P w K mg base N qual (zg st) f cdv A outer s H E).nox (ya st) t/\t { nx:=fun _ H'=>Q .non H',rt:=Q } (ul N vs) H):zJ P w K mg base CX0 (k+1) f fd ps sp:=by
 obtain⟨oc,od,T,kV,doc,pm,an,cdv,ct,osl,o,n,rfl,lk,hcd,_,_⟩:=F.ex;refine ziV lk hcd S len fun A outer s H vs Q E hr hsp=>?_;obtain⟨t,h,q⟩:=hbody cdv A outer s H vs Q E hr hsp;exact⟨t,h.nox,q⟩
theorem qE.bindsTo{x qual:Str}{st:Stmt}{f:Addr}{fd:FuncData}{items:List Value}(F:qE K x qual st f fd items) {args:Args}{bs:List (Str×Value)}
  (h:∀(T:Addr) (kV doc pm:Value) (an:Option Addr) (cdv ct:Value),∃k:Option (Array Value)->Sem (List (Str×Value)),
   bindArgs (fnOf x qual (yh st) (ya st) (zg st) (.ref T) kV doc pm an cdv ct) args=seqItems? (.ref T) >>= k/\k (some items.toArray)=pure bs) {s:Shared}(KX:K.In s.heap):BindsTo s fd args bs:=by
 obtain⟨oc,od,T,kV,doc,pm,an,cdv,ct,osl,o,n,rfl,lk,hcd,lt,hs⟩:=F.ex;obtain⟨k,h1,h2⟩:=h T kV doc pm an cdv ct;exact BindsTo.of_defaults (T:=T) (n:=n) rfl (KX _ _ lt) hs h1 h2
theorem zid{x qual:Str}{st:Stmt}{f T:Addr}{oc:Value}{od an:Option Addr}{osl:Array (Option Value)}{kV doc pm cdv ct:Value}{o:Obj}{n:Nat}{items:List Value}
  (l:K.lookup f=some ⟨oc,od,.func (fnOf x qual (yh st) (ya st) (zg st) (.ref T) kV doc pm an cdv ct),osl⟩)
  (c:codeIn K cdv qual=true) (k:keepIn K (.ref f)=true) (lT:K.lookup T=some o) (hs:o.data=.seq items.toArray n) :
  qE K x qual st f (fnOf x qual (yh st) (ya st) (zg st) (.ref T) kV doc pm an cdv ct) items:=⟨⟨oc,od,T,kV,doc,pm,an,cdv,ct,osl,o,n,rfl,l,c,lT,hs⟩,k⟩
end
section
variable {X:Cx}{CX:CXT}{k:Nat}{f C:Addr}{fd:FuncData}{ps ks:List Str}{sp:Sp}{E:XK}{x:Str}{p pos:Pos}{e:Expr}{es:List Expr}{kws:List Keyword}{t tk:TA}
 {g:List Value->List Value->List Value}{gV:List V->List V->List V}
end
theorem yB{t u:TS}{D:jp}{σ : St}{H:Hp}(R:St->Hp->Prop) (h2:∀σ H,R σ H->u D σ H) (h1:(∀σ H,R σ H->u D σ H)->t { D with nx:=u D } σ H):uO t u D σ H:=h1 h2
def lcN(n i:Nat) (D:Addr) (Pv:Nat->List V->Hp->Prop) (ys:List V):VK:=fun v H4=>H4 D=some (.lst ys)/\ys.length<sizeLine/\∃m',m'<n - i/\m'=n - (i+1)/\i+1<=n/\Pv (i+1) (ys++[v]) (upd H4 D (.lst (ys++[v])))
def lcS(n i:Nat) (Pv:Nat->List V->Hp->Prop) (ys:List V):Hp->Prop:=fun H4=>∃m',m'<n - i/\m'=n - (i+1)/\i+1<=n/\Pv (i+1) ys H4
theorem lcN.mk{n i:Nat}{D:Addr}{Pv:Nat->List V->Hp->Prop}{ys:List V}{v:V}{H4:Hp}(hi:i<n) (hn:n<=sizeLine) (hD:H4 D=some (.lst ys)) (hy:ys.length<=i) (p:Pv (i+1) (ys++[v]) (upd H4 D (.lst (ys++[v])))):lcN n i D Pv ys v H4:=
 ⟨hD,by omega,n - (i+1),by omega,rfl,hi,p⟩
theorem lcS.mk{n i:Nat}{Pv:Nat->List V->Hp->Prop}{ys:List V}{H4:Hp}(hi:i<n) (p:Pv (i+1) ys H4):lcS n i Pv ys H4:=⟨n - (i+1),by omega,rfl,hi,p⟩
theorem wV{K:Frag}{a:Addr}{xs:List V}{caps:List (Option Nat)}{g:TG}{tt:TT}{te:TE}{σ : St}{H1:Hp}{Q:VK}{D:Addr}(Pv:Nat->List V->Hp->Prop) (h0:Pv 0 [] (upd H1 D (.lst [])))
  (hl:∀i ys H,Pv i ys H->SqL K H a xs)
  (hs:∀i x ys H,i<xs.length->xs[i]?=some x->Pv i ys H->g x (xi caps σ) H fun σ2 H2=>tt σ2 H2 fun ok H3=>(ok=true->te σ2 H3 (lcN xs.length i D Pv ys))/\(ok=false->lcS xs.length i Pv ys H3))
  (hd:∀ys H,Pv xs.length ys H->Q (.ref D) H):LCr (Itl K a) caps g tt te σ H1 Q D:=by
 refine⟨fun i m ys H=>m=xs.length - i/\i<=xs.length/\Pv i ys H,⟨xs.length,by simp,zero_le _,h0⟩,?_⟩
 rintro i m ys H ⟨rfl,hi,p⟩;have q:=hl i ys H p;by_cases hlt:i<xs.length
 ·refine .inr ⟨⟨xs,xs[i],q,by simp [hlt]⟩,fun x H' y=>?_⟩
  obtain⟨e,y⟩:=y;subst e;exact hs i x ys _ hlt (y xs q) p
 ·have e:i=xs.length:=by omega
  subst e;exact .inl ⟨⟨xs,q,Nat.le_refl _⟩,hd ys H p⟩
theorem xq{H:Hp}{x dx:Addr}{o1:HO}(hx:H x=none) (hd:H dx=none):zm H (upd (upd H dx (.own x)) x o1):=fun b u q=>by
 rw[zh (zi q hx),zh (zi q hd)];exact q
theorem zc{H:Hp}{p:Addr}(h:H p=none) (o:HO):zm H (upd H p o):=fun b u q=>by rw[zh (zi q h)];exact q
theorem zbQ{lo:Int}{n:Nat}{caps:List (Option Nat)}{g:TG}{tt:TT}{te:TE}{σ : St}{H1:Hp}{Q:VK}{D:Addr}(Pv:Nat->List V->Hp->Prop) (h0:Pv 0 [] (upd H1 D (.lst [])))
  (hs:∀i ys H,i<n->Pv i ys H->g (.int (lo+i)) (xi caps σ) H fun σ2 H2=>tt σ2 H2 fun ok H3=>(ok=true->te σ2 H3 (lcN n i D Pv ys))/\(ok=false->lcS n i Pv ys H3))
  (hd:∀ys H,Pv n ys H->Q (.ref D) H):LCr (Itr lo n) caps g tt te σ H1 Q D:=by
 refine⟨fun i m ys H=>m=n - i/\i<=n/\Pv i ys H,⟨n,by simp,zero_le _,h0⟩,?_⟩
 rintro i m ys H ⟨rfl,hi,p⟩;by_cases hlt:i<n
 ·refine .inr ⟨hlt,fun x H' y=>?_⟩
  obtain⟨e,y⟩:=y;subst e y;exact hs i ys _ hlt p
 ·have e:i=n:=by omega
  subst e;exact .inl ⟨Nat.le_refl _,hd ys H p⟩
theorem zh8{K:Frag}{a:Addr}{xs:List V}{caps:List (Option Nat)}{g:TG}{tt:TT}{te:TE}{σ : St}{H1:Hp}{Q:VK}{D:Addr}(Pv:Nat->List V->Hp->Prop) (h0:Pv 0 [] (upd H1 D (.lst [])))
  (hl:∀i ys H,Pv i ys H->SqL K H a xs)
  (hs:∀i x p ys H,i<xs.length->xs[i]?=some x->Pv i ys H->H p=none->g (.ref p) (xi caps σ) (upd H p (.tup [.int i,x])) fun σ2 H2=>tt σ2 H2 fun ok H3=>(ok=true->te σ2 H3 (lcN xs.length i D Pv ys))/\(ok=false->lcS xs.length i Pv ys H3))
  (hd:∀ys H,Pv xs.length ys H->Q (.ref D) H):LCr (Ite K a) caps g tt te σ H1 Q D:=by
 refine⟨fun i m ys H=>m=xs.length - i/\i<=xs.length/\Pv i ys H,⟨xs.length,by simp,zero_le _,h0⟩,?_⟩
 rintro i m ys H ⟨rfl,hi,p⟩;have q:=hl i ys H p;by_cases hlt:i<xs.length
 ·refine .inr ⟨⟨xs,xs[i],q,by simp [hlt]⟩,fun x H' y=>?_⟩
  obtain⟨pp,y,rfl,hp,y2,rfl⟩:=y;exact hs i y pp ys H hlt (y2 xs q) p hp
 ·have e:i=xs.length:=by omega
  subst e;exact .inl ⟨⟨xs,q,Nat.le_refl _⟩,hd ys H p⟩
theorem vo{K:Frag}{a:Addr}{xs:List V}{g:TG}{tb:TS}{D:jp}{σ : St}{H:Hp}(Pv:Nat->St->Hp->Prop) (h0:Pv 0 σ H) (hl:∀i σ H,i<=xs.length->Pv i σ H->SqL K H a xs)
  (hs:∀i x p σ H,xs[i]?=some x->Pv i σ H->H p=none->g (.ref p) σ (upd H p (.tup [.int i,x])) fun σ2 H2=>tb { D with nx:=Pv (i+1),ct:=Pv (i+1),bk:=D.nx } σ2 H2) (hd:∀σ H,Pv xs.length σ H->D.nx σ H) :
  ∃W:Nat->Nat->St->Hp->Prop,(∃m,W 0 m σ H)/\∀i m σ H,W i m σ H->
   ((Ite K a).stop i H/\D.nx σ H)\/((Ite K a).go i H/\∃N:St->Hp->Prop,(∀σ' H',N σ' H'->∃m',m'<m/\W (i+1) m' σ' H')/\∀x H',(Ite K a).yld i H x H'->g x σ H' fun σ2 H2=>tb { D with nx:=N,ct:=N,bk:=D.nx } σ2 H2):=by
 refine⟨fun i m σ H=>m=xs.length - i/\i<=xs.length/\Pv i σ H,⟨xs.length,by simp,zero_le _,h0⟩,?_⟩
 rintro i m σ H ⟨rfl,hi,p⟩;have q:=hl i σ H hi p;by_cases hlt:i<xs.length
 ·refine .inr ⟨⟨xs,xs[i],q,by simp [hlt]⟩,Pv (i+1),fun σ' H' p'=>⟨xs.length - (i+1),by omega,rfl,hlt,p'⟩,fun x H' y=>?_⟩
  obtain⟨pp,y,rfl,hp,y2,rfl⟩:=y;exact hs i y pp σ H (y2 xs q) p hp
 ·have e:i=xs.length:=by omega
  subst e;exact .inl ⟨⟨xs,q,Nat.le_refl _⟩,hd σ H p⟩
section
variable {X:Cx}{pins:List (Addr×Obj)}{σ : St}{H H':Hp}{s s':Shared}{ea:Addr}{cls:Value}{vs:List Value}{h':Heap}{M:Model}{E:Value->Shared->Prop}
end
section
variable {X:Cx}{E:XK}{x:Str}{C:Addr}{B Bn newId nid initId inN:String}{bm bmN:List Value}{np cpos pos:Pos}{e:Expr}{es:List Expr}{t:TA}
end
section
variable {P:Program}{w:World}{K:Frag}{mg:Str->Option Value}{base:Heap}{N:List Str}{qual:Str}{scope:Scope}{f:Addr}{cd:Value}{A:Around}{outer:List Env}{s:Shared}{H:Hp}{E E':XK}
end
section
variable {X:Cx}{k:Nat}{f:Addr}{fd:FuncData}{ps:List Str}{sp:Sp}{E:XK}{x:Str}{p pos:Pos}{e:Expr}{es:List Expr}{t:TA}
end
section
variable {X:Cx}{pins:List (Addr×Obj)}{σ : St}{H H':Hp}{s s':Shared}{ea a:Addr}{cls:Value}{o:HO}{h5:Heap}
end
section
variable {X:Cx}{pins:List (Addr×Obj)}{σ : St}{H:Hp}{s:Shared}{M:Model}{A:Around}{E:Value->Shared->Prop}{i:Nat}{n:Str}{pos:Pos}
end
section
variable {X:Cx}{pins:List (Addr×Obj)}{σ : St}{e:Expr}{es:List Expr}{te ta:TE}{t tr:TA}{E:XK}{x m:Str}{p pos apos:Pos}{k:Nat}{f C:Addr}{fd:FuncData}{ps:List Str}{sp:Sp}{o:Expr}{dvs:List V}{ds:List Value}
end
section
variable {X:Cx}{pins:List (Addr×Obj)}{σ : St}{H:Hp}{s:Shared}{ea:Addr}
variable {st b₀:Stmt}{suite:List Stmt}{c n:Str}{np hpos pos:Pos}{C:Addr}{i:Nat}{tb:XK->TS}{ts:TS}{ok:Value->Prop}
end
end L2
namespace L2
open PySem PySem.W PySem.Builtin PySem.Builtin.ObjectAttr PySem.Builtin.Getset_descriptor PySem.Spec PyProof.Rows
section
variable {prog:Program}{w:World}{A:Around}{E:Value->Shared->Prop}{s:Shared}{K:Frag}{x D:Addr}
end
end L2
namespace L2
open PySem PySem.Spec PyProof.Rows
section
variable {X:Cx}
end
section
variable {P:Program}{w:World}{K:Frag}{mg:Str->Option Value}{base:Heap}
end
section
variable {X:Cx}{k:Nat}{f:Addr}{fd:FuncData}{ps:List Str}{sp:Sp}{x:Str}{p pos:Pos}{e:Expr}{es:List Expr}{t:TA}
end
section
variable {prog:Program}{w:World}{A:Around}{E:Value->Shared->Prop}{s:Shared}{r:Addr}{n:Int}{t u v:Tok}
end
theorem zg0:bootBuiltins "reversed"=some (.type "reversed"):=by decide +kernel
section
variable {X:Cx}{tg:Expr}
end
section
variable {X:Cx}{o i:Expr}{to ti:TE}{pos tpos:Pos}
def zlF:R2:=fun x y H Q=>∃(a c:Addr) (xs ys:List V),x=.ref a/\y=.ref c/\H a=some (.lst xs)/\H c=some (.lst ys)/\xs.length≠ys.length/\Q (.bl false) H
theorem zf5(hu:X.A.units<cLine):OpR X (compareOp .Eq) zlF:=by
 intro pins s σ H x y v u Q I rx ry h;obtain⟨a,c,xs,ys,rfl,rfl,ha,hc,hn,q⟩:=h;cases rx;cases ry;obtain⟨its,r,pl,_⟩:=I.list (SqL.of ha);obtain⟨its2,r2,pl2,_⟩:=I.list (SqL.of hc);have e1:=r.length;have e2:=r2.length;exact PySem.SeqAt.eq_list_lengthsAt pl.isList pl2.isList (by simp only[size_toArray,bne_iff_ne];omega) hu ⟨.bl false,H,I,rfl,q⟩
end
section
variable {X:Cx}{pins:List (Addr×Obj)}{σ : St}{e:Expr}{te:TE}{pos p:Pos}{C:Addr}{x:Str}
end
theorem wa{H H1:Hp}{x dx:Addr}{o1 o2:HO}(hx:H x=none) (hd:H dx=none) (s:zm (upd (upd H dx (.own x)) x o1) H1):zm H (upd H1 x o2):=fun b u q=>by
 rw[zh (zi q hx)];exact s _ _ (xq hx hd b u q)
structure zeX(P:Program) (w:World) (K:Frag) (mg:Str->Option Value) (base:Heap) (CX:CXT) (k:Nat) (x:Str) (C i:Addr) (fd:FuncData) (ps:List Str) (ds:List Value) (sp:Sp):Prop where
 mkr:Mk K C i
 ok:zJ P w K mg base CX k i fd ps sp
 mg:mg x=some (.ref C)
 bd:z7 K fd ps ds
section
variable {X:Cx}{CX:CXT}{k:Nat}{C i f:Addr}{fd:FuncData}{ps ks:List Str}{sp:Sp}{E:XK}{x m:Str}{p pos apos:Pos}{e:Expr}{es:List Expr}{t tk:TA}{ds:List Value}{dvs:List V}{kws:List Keyword}
 {g:List Value->List Value->List Value}{gV:List V->List V->List V}
theorem cMk(c:zeX X.prog X.w X.K X.mg X.base CX k x C i fd ps ds sp) (hd:zQ dvs ds) (hp:wz CX X E) (hr:yw (k+1) X.A) (ha:PA X (e::es) t) (hg:Gl X x:=by rfl) (hdb:(x==("__debug__" : Str))=false:=by decide)
  (h1:vn e=false:=by rfl) (h2:es.any vn=false:=by rfl):PE X (.Call (.Name x p) (e::es) [] pos) (zix C sp dvs E t):=zdL c.mkr c.ok hr hg c.mg c.bd hd hp ha hdb (yF h1) (wD h2)
structure qw(K:Frag) (C:Addr) (m:Str) (f:Addr):Prop where
 ga:PySem.W.specialIn K (.ref C) "__getattribute__"=some (some (.builtin "type.__getattribute__"))
 rd:PySem.W.readsIn K C (.type "type")=true
 fc:PySem.W.findCls K (.ref C) (.type "type") m=some (.val (.ref f))
 kp:keepIn K (.ref f)=true
theorem zbF{pl:Sem Bool}(B:qw X.K C m f) (hm:X.mg x=some (.ref C)) (F:zJ X.prog X.w X.K X.mg X.base CX k f fd ps sp) (hr:yw k X.A) (hb:z7 X.K fd ps []) (hx:wz CX X E) (ha:PA X (e::es) t) (hg:Gl X x:=by rfl)
  (hdb:(x==("__debug__" : Str))=false:=by decide) (h1:vn e=false:=by rfl) (h2:es.any vn=false:=by rfl)
  (ht:eval (.Call (.Attribute (.Name x p) m apos) (e::es) [] pos) X.env=(do
   let ov <- eval (.Name x p) X.env
   standAt apos.atName
   let (f,first) <- holding [ov] (getMethod ov m pl)
   callWith pos f first (backTo pos (starEach (e::es) X.env)) (backToKw pos (keywordEach [] X.env))):=by rfl) :
  PE X (.Call (.Attribute (.Name x p) m apos) (e::es) [] pos) (ze6 sp [] E t):=by
 refine⟨?_⟩;intro pins s σ H Q I h;refine methodCall_KW (pl:=pl) (vK I hg hm ?_ hdb) ht;refine PySem.W.method_cls I.kIn B.ga (PySem.W.cls_value I.kIn B.rd B.fc rfl ?_);have It:=I.tok (s.toks+1);refine callWith_K (first:=[]) (h₀:=X.base) I.ok.mod.kin B.kp (thn (ha pos pins _ σ H _ It h) fun us s2 ⟨vs,H2,I2,r,q2⟩=>⟨I2.kIn,?_⟩) (yF h1) (wD h2)
 exact jU F hr hb .nil hx I2 r q2
end
theorem vE{X:Cx}{st:Stmt}:PS X st (fun _ _ _=>False):=⟨fun _ _ _ _ _ _ h=>h.elim⟩
def zmb(P:Program) (w:World) (a:Addr) (S:Str->Bool) (n:Nat) (h:Heap):Prop:=h.SetOf (strKind P w) a S n
abbrev wv(P:Program) (w:World) (a:Addr) (S:Str->Bool) (n:Nat):HO:=.ext (zmb P w a S n)
theorem zaC{P:Program}{w:World}{H:Hp}{h:Heap}{a:Addr}{S:Str->Bool}{n:Nat}(e:h.SetOf (strKind P w) a S n):yH P w H h a (wv P w a S n):=
 ⟨e,let ⟨o,_,_,_,h1,_⟩:=e;⟨o,h1⟩,fun g1 g2 q k=>let ⟨o,es,ep,t,h1,c⟩:=q;⟨o,es,ep,t,k o h1,c⟩⟩
section
variable {X:Cx}
theorem zeU:xh X (.type "set") (fun xs H Q=>xs=[]/\∀p,H p=none->Q (.ref p) (upd H p (wv X.prog X.w p (fun _=>false) 0))):=by
 intro pins s σ H xs us Q I r h;obtain⟨rfl,q⟩:=h;cases r;refine call_set_0 fun led=>?_;have hf:H s.heap.objs.size=none:=I.hok.fresh (Nat.le_refl _);refine⟨.ref s.heap.objs.size,_,I.laid (t':=s.toks) (fun b u e=>Heap.get?_push_of_some _ e) (Nat.le_refl _) (zaC ?_),rfl,q _ hf⟩;exact(setObjOf_fresh led).setOf (Heap.get?_push_size _ rfl) (by decide)
theorem j6:OpR X (compareOp .In) (fun x y H Q=>∃(a:Addr) (S:Str->Bool) (n:Nat) (z:Str),x=.str z/\y=.ref a/\H a=some (wv X.prog X.w a S n)/\Q (.bl (S z)) H):=by
 intro pins s σ H x y v u Q I rx ry h;obtain⟨a,S,n,z,rfl,rfl,e,q⟩:=h;obtain⟨t,rfl⟩:=rx;cases ry;have hS:s.heap.SetOf (strKind X.prog X.w) a S n:=(I.hok a _ e).1;exact wpAny_inSet_of (strKind_is X.prog X.w z t) rfl hS ⟨.bl (S z),H,I.tok _,rfl,q⟩
def zko(P:Program) (w:World) (to te:TE):TE:=fun σ H Q=>to σ H fun x H1=>∃(a:Addr) (S:Str->Bool) (n:Nat),x=.ref a/\H1 a=some (wv P w a S n)/\te σ H1 fun y H2=>∃(S:Str->Bool) (n:Nat) (z:Str),y=.str z/\H2 a=some (wv P w a S n)/\n+1<scanBound/\
 Q .non (upd H2 a (wv P w a (fun k=>S k||decide (k=z)) (if S z then n else n+1)))
theorem zhE{o e:Expr}{apos cpos:Pos}{to te:TE}(ho:PE X o to) (he:PE X e te) (m:M1 X o "add" apos e cpos):PE X (.Call (.Attribute o "add" apos) [e] [] cpos) (zko X.prog X.w to te):=by
 refine⟨?_⟩;intro pins s σ H Q I h;refine wpAny_Call_method m.base m.few m.line PySem.F.plainAttrs_set PySem.F.slot_set_add PySem.F.type_set_add (thn (ho pins s σ H _ I h) fun u s1 ⟨x,H1,I1,rx,a,S,n,ex,d,q1⟩=>?_);subst ex;obtain rfl:u=Value.ref a:=rx;have hS:s1.heap.SetOf (strKind X.prog X.w) a S n:=(I1.hok a _ d).1;refine⟨hS.typeIs,hS.noDict,?_⟩;rw[m.trees];refine Calls.callWith_builtin rfl (Calls.evalArgs_plain (Calls.spliced_cons (thn (he pins s1 σ H1 _ I1 q1) fun iv s2 ⟨y,H2,I2,ry,S2,n2,z,ey,e2,hn,q2⟩=>Calls.spliced_nil ?_)));subst ey;obtain⟨t,rfl⟩:=ry;have hS2:s2.heap.SetOf (strKind X.prog X.w) a S2 n2:=(I2.hok a _ e2).1;refine call_set_add (strKind_is X.prog X.w z t) rfl hS2 hn fun h' hs hS3=>⟨.non,_,?_,rfl,q2⟩;refine I2.write (x:=a) (e:=a) (by rw[e2];exact True.intro) (.inl rfl) (fun b q hb z=>(hs.2 b hb).trans z) (let ⟨o,_,_,_,h1,_⟩:=hS3;⟨o,h1⟩) (zaC hS3)
def zi5(Cs:Addr->Prop) (m:Str) (sp:Sp) (E:XK) (ta:TE):TE:=fun σ H Q=>ta σ H fun x H1=>∃a C dx fs,x=.ref a/\Cs C/\H1 a=some (.ins C dx fs)/\fs.lookup m=none/\sp [x] H1 Q E
theorem wc{CX:CXT}{k:Nat}{f:Addr}{fd:FuncData}{ps:List Str}{sp:Sp}{E:XK}{m:Str}{pos apos:Pos}{o:Expr}{ta:TE}{Cs:Addr->Prop}{pl:Sem Bool}(he:PE X o ta) (hC:∀C,Cs C->Cls X.K C/\xp X.K C m f) (F:zJ X.prog X.w X.K X.mg X.base CX k f fd ps sp) (hr:yw k X.A) (hb:z7 X.K fd ps []) (hx:wz CX X E)
  (ht:eval (.Call (.Attribute o m apos) [] [] pos) X.env=(do
   let ov <- eval o X.env
   standAt apos.atName
   let (f,first) <- holding [ov] (getMethod ov m pl)
   callWith pos f first (backTo pos (starEach [] X.env)) (backToKw pos (keywordEach [] X.env))):=by rfl) :
  PE X (.Call (.Attribute o m apos) [] [] pos) (zi5 Cs m sp E ta):=by
 refine⟨?_⟩;intro pins s σ H Q I h;refine methodCall_KW (pl:=pl) (thn (he pins s σ H _ I h) fun u s1 ⟨x,H1,I1,rx,a,C,dx,fs,ex,hc,ea,l,q⟩=>?_) ht;subst ex;obtain rfl:u=Value.ref a:=rx;obtain⟨c,hm⟩:=hC C hc;refine ud I1 ea c hm l ?_;exact PySem.W.callWith_K0 (first:=[.ref a]) I1.kIn hm.kp (jU (us:=[.ref a]) (vs:=[.ref a]) F hr hb .nil hx I1 (.cons rfl .nil) q)
structure zkj(w:World) (K:Frag) (a:Addr) (f:Str->Option V):Prop where
 obj:∃es n,K.lookup a=some ⟨.type "dict",none,.dict es n,#[]⟩/\KeysLit w.params es.toList
 vals:∀x v,f x=some v->∃u,nsIn K a x=some (some u)/\zV v u
theorem zhF{e:Expr}{d:Str}{p pos:Pos}{a:Addr}{f:Str->Option V}{te:TE}(T:zkj X.w X.K a f) (hm:X.mg d=some (.ref a)) (he:PE X e te) (hg:Gl X d:=by rfl) (hs:zki e:=by first|exact fun _ _=>rfl|decide|rfl) (hdb:(d==("__debug__" : Str))=false:=by decide) :
  PE X (.Subscript (.Name d p) e pos) (fun σ H Q=>te σ H fun y H1=>∃x v,y=.str x/\f x=some v/\Q v H1):=by
 refine⟨?_⟩;intro pins s σ H Q I h;obtain⟨es,n,hl,hk⟩:=T.obj;refine zdo PySem.F.slot_dict_getitem.lookup hs (vK I hg hm (thn (he pins s σ H _ I h) fun iv s2 ⟨y,H2,I2,ry,x,v,ey,ef,q2⟩=>?_) hdb);subst ey;obtain⟨t,rfl⟩:=ry;obtain⟨u,eu,ru⟩:=T.vals x v ef;have hmap:=PySem.W.mapOf_K (prog:=X.prog) (w:=X.w) I2.kIn hl hk;exact⟨hmap.typeIs,wpAny_getItem_of (strKind_is X.prog X.w x t) hmap (PySem.W.find_K hl eu) ⟨v,H2,I2.tok _,ru,q2⟩⟩
end
section
variable {X:Cx}{pins:List (Addr×Obj)}{σ : St}{H:Hp}{s:Shared}{sc:Scope}{fr Nc:List Str}{fp:List Addr}{C:Addr}
theorem zb2{caps:List (Option Nat)}{h':Heap}{D:Addr}{m:Str->Option Value}{t':Nat}{o0:HO}(I:Inv X pins σ H s) (B:y7 X.env sc fr) (hf:∀b∈fp,x8 X pins H b) (ho:∀b∈fp,∃o,s.heap.get? b=some o)
  (hC:s.heap.objs.size<=C) (hD:s.heap.objs.size<=D) (hDC:D≠C) (keep:∀b o,s.heap.get? b=some o->h'.get? b=some o) (new:yH X.prog X.w (upd H D o0) h' D o0) (hn:h'.Ns C m)
  (hcap:uf X.N Nc caps X.env sc fr=true) (hlen:caps.length=Nc.length) :
  Inv (zU X pins sc fr Nc fp s H C) [] (xi caps σ) (upd H D o0) { s with heap:=h',toks:=t' }:=by
 have hk:X.env.scope.kind=.function:=I.ok.kind;have fresh:∀a,s.heap.objs.size<=a->H a=none:=fun a ha=>I.hok.fresh ha;refine⟨zd4 I B hf ho hC,rfl,I.bare,Un.laid keep hD (fresh D hD),⟨m,hn,fun i x v e1 e2 e3=>?_⟩,fun x c h=>?_,?_,fun x c h=>?_,fun p hp=>?_,?_,?_⟩
 ·
  have e2':(caps[i]?).map (fun o=>match o with|none=>none|some j=>(σ[j]?).join)=some (some v):=by
   have:(xi caps σ)[i]?=some (some v):=e2
   unfold xi at this;rw[getElem?_map] at this;exact this
  cases hc:caps[i]? with
  | none=>rw[hc] at e2';cases e2'
  | some o=>
   rw[hc] at e2';cases o with
   | none=>simp at e2'
   | some j=>
    have e4:(σ[j]?).join=some v:=by simpa using e2'
    have e5 : σ[j]?=some (some v):=by
     cases q : σ[j]? with
     | none=>rw[q] at e4;cases e4
     | some w'=>rw[q] at e4;simp at e4;rw[e4]
    have e6:(Nc.zip caps)[i]?=some (x,some j):=by
     rw[List.getElem?_zip_eq_some];exact⟨e1,hc⟩
    have e7:=List.all_eq_true.mp hcap _ (mem_of_getElem? e6);simp only[Bool.and_eq_true,beq_iff_eq,List.contains_iff_mem] at e7;obtain⟨⟨⟨a1,a2⟩,a3⟩,a4⟩:=e7;obtain⟨m0,hn0,hl0⟩:=I.loc;obtain⟨u,r,l⟩:=hl0 j x v a1 e5 (.inr (.inl a2));refine⟨u,r,.inr ⟨.inl (wN hk a3 a2),_,zba a4,?_⟩⟩;rcases l with ⟨z,_⟩|⟨_,c,ec,hcell⟩
    ·rw[a2] at z;cases z
    ·have:(X.env.cells.lookup x).getD 0=c:=by rw[ec];rfl
     rw[this];exact hcell.keeps keep
 ·obtain⟨v,hv⟩:=I.cell x c (B.sub h)
  exact⟨v,hv.keeps keep⟩
 ·show upd H D o0 C=none
  rw[zh (Ne.symm hDC)];exact fresh C hC
 ·obtain⟨v,hv⟩:=I.cell x c (B.sub h)
  have:c≠D:=fun z=>by have:=hv.lt;rw[z] at this;exact absurd (lt_of_lt_of_le this hD) (lt_irrefl _)
  rw[zh this];exact I.freeC x c (B.sub h)
 ·have hp':p∈X.pn++pins:=by simpa using hp
  obtain⟨e,n,ne,nf,d⟩:=I.pin p hp';have hlt:=I.pin_lt hp';refine⟨keep _ _ e,?_,?_,fun z=>?_,d⟩
  ·rw[zh (fun z=>by rw[z] at hlt;exact absurd (lt_of_lt_of_le hlt hD) (lt_irrefl _))];exact n
  ·intro z
   have z':p.1=C:=z;rw[z'] at hlt;exact absurd (lt_of_lt_of_le hlt hC) (lt_irrefl _)
  ·rcases List.mem_cons.mp (I.stkSub p.1 z) with q|q
   ·exact ne q
   ·exact nf q
 ·exact I.hok.laid keep hD new
 ·show(xi caps σ).length=Nc.length
  unfold xi;rw[length_map,hlen]
end
section
variable {prog:Program}{w:World}{A:Around}{R:Result->Shared->Prop}{s:Shared}
theorem qy{kx vx target iter:Expr}{ifs:List Expr}{scope:Scope}{pos:Pos}{it:Value}{D:Addr}{env:Env}(I:Nat->Shared->Prop)
  (turn:∀n s,I n s->wpAny (model prog w) A (pyNext it) (fun r s₁=>match r with
   | none=>R (.ok .next) s₁
   | some v=>wpAny (model prog w) A (letOwnedTupleGo target it v) (fun _ s₀=>wpAny (model prog w) A (assign target env v) (fun _ s₂=>
     wpAny (model prog w) A (forIn ifs true fun c r=>if r=true then do let ok <- isTrue c env (eval c env);pure (ForInStep.yield ok) else pure (ForInStep.yield r)) (fun ok s₃=>
      if ok=true then wpAny (model prog w) A (eval kx env) (fun kv s₄=>wpAny (model prog w) A (eval vx env) (fun vv s₅=>
       wpAny (model prog w) A (dictSet D kv vv) (fun _ s₆=>∃m,m<n/\I m s₆) (fun _ _=>False) s₅) (fun _ _=>False) s₄) (fun _ _=>False) s₃
      else ∃m,m<n/\I m s₃) (fun _ _=>False) s₂) (fun _ _=>False) s₀) (fun _ _=>False) s₁) (fun _ _=>False) s)
  (n:Nat) (h:I n s) :
  codeAny (model prog w) A (.compLoop (.DictComp kx vx [⟨target,iter,ifs,0⟩] scope pos) 0 it (.ref D) env) R s:=by
 refine codeAny_loop rfl I (fun n s hI=>?_) n h;show wpAny _ A ((compTurn (.DictComp kx vx [⟨target,iter,ifs,0⟩] scope pos) 0 it (.ref D) env).onRaise (fun x=>do noteFrame x env;theTreesLotGoes x)) _ _ s
 refine wpAny_noted ?_;rw[compTurn_dict];refine wpAny_bind (wpAny_standAt (wpAny_bind (wpAny_mono (turn n s hI) (fun r s₁ h₁=>?_) fun _ _ z=>z.elim)));cases r with
 | none=>exact wpAny_pure h₁
 | some v=>
  refine wpAny_bind (wpAny_mono h₁ (fun _ s₀ h₀=>?_) fun _ _ z=>z.elim);refine wpAny_bind (wpAny_mono h₀ (fun _ s₂ h₂=>wpAny_bind (wpAny_mono h₂ (fun ok s₃ h₃=>?_) fun _ _ z=>z.elim)) fun _ _ z=>z.elim);cases ok with
  | false=>exact wpAny_pure ⟨rfl,h₃⟩
  | true=>
   exact wpAny_bind (wpAny_bind (wpAny_mono h₃ (fun kv s₄ h₄=>wpAny_bind (wpAny_holding (wpAny_mono h₄ (fun vv s₅ h₅=>wpAny_bind (wpAny_standAt (wpAny_holding (wpAny_mono h₅ (fun _ s₆ h₆=>wpAny_pure ⟨rfl,h₆⟩) fun _ _ z=>z.elim)))) fun _ _ z=>z.elim))) fun _ _ z=>z.elim))
end
def DCr(J:It) (caps:List (Option Nat)) (g:TG) (tt:TT) (tk tv:TE) (σ : St) (H1:Hp) (Q:VK) (D:Addr):Prop:=
 ∃W:Nat->Nat->List (Key×V)->Hp->Prop,(∃m,W 0 m [] (upd H1 D (.dK [])))/\∀i m ys H,W i m ys H->
  (J.stop i H/\Q (.ref D) H)\/
  (J.go i H/\∀x H',J.yld i H x H'->g x (xi caps σ) H' fun σ2 H2=>tt σ2 H2 fun ok H3=>
   (ok=true->tk σ2 H3 fun y H4=>tv σ2 H4 fun v H5=>∃k,y=kV k/\H5 D=some (.dK ys)/\ys.length<sizeLine/\∃m',m'<m/\W (i+1) m' (xb ys k v) (upd H5 D (.dK (xb ys k v))))/\
   (ok=false->∃m',m'<m/\W (i+1) m' ys H3))
def tDC(wi:TI) (caps:List (Option Nat)) (g:TG) (tt:TT) (tk tv:TE):TE:=fun σ H Q=>wi σ H fun J H1=>∀D,H1 D=none->DCr J caps g tt tk tv σ H1 Q D
section
variable {X:Cx}{pins:List (Addr×Obj)}{σ : St}{s:Shared}{sc:Scope}{fr Nc:List Str}{caps:List (Option Nat)}{kx vx tg iter:Expr}{ifs:List Expr}{g:TG}{tt:TT}{tk tv:TE}{ow:List Nat}{pos pos2:Pos}{E:Value->Shared->Prop}
theorem zkw{H:Hp}(I:Inv X pins σ H s):sysModules<s.heap.objs.size:=I.big
theorem zeS{H2:Hp}{it:Addr}{fp:List Addr}{tn:Nat->Heap->Prop}{J:It}{Q:VK}{RR:Value->Addr->Result->Shared->Prop}
  (hc:X.calm=true) (B:y7 X.env sc fr) (go:zdj g ow) (how:(ow.all fun i=>caps[i]?==some none)=true) (hcap:uf X.N Nc caps X.env sc fr=true) (hlen:caps.length=Nc.length)
  (hb:∀(pins:List (Addr×Obj)) (fp:List Addr) (s:Shared) (H:Hp) (C:Addr),PG (zU X pins sc fr Nc fp s H C) tg g/\PIf (zU X pins sc fr Nc fp s H C) ifs tt/\PE (zU X pins sc fr Nc fp s H C) kx tk/\PE (zU X pins sc fr Nc fp s H C) vx tv)
  (I2:Inv X pins σ H2 s) (T:zca X.prog X.w X.K tg J fp it tn) (st2:tn 0 s.heap) (f2:∀b∈fp,x8 X pins H2 b) (h:∀D,H2 D=none->DCr J caps g tt tk tv σ H2 Q D)
  (fin:∀(D C:Addr) (σ':St) (H':Hp) (s':Shared),Inv (zU X pins sc fr Nc fp s H2 C) [] σ' H' s'->Q (.ref D) H'->RR (.ref D) C (.ok .next) s') :
  wpAny (model X.prog X.w) X.A newDict (fun acc s₃=>wpAny (model X.prog X.w) X.A (newFunctionEnv sc X.env.globals (clB X.env fr) [] X.env.qual none .none (some X.env)) (fun cenv s₄=>
   codeAny (model X.prog X.w) X.A (.compStart (.DictComp kx vx [⟨tg,iter,ifs,0⟩] sc pos) 0 (.ref it) acc { cenv with scope:=relabel sc X.env }) (RR acc cenv.locals) s₄) E s₃) E s:=by
 have hcell:∀y∈sc.names,y.2≠.cell:=fun y hy=>by
  have h3:=List.all_eq_true.mp B.names _ hy;simp only[Bool.and_eq_true,bne_iff_ne,ne_eq] at h3;exact h3.1.1
 refine wpAny_newObj_type (wpAny_newFunctionEnv hcell (by intro y hy;simp at hy) (fun h₁ hns₁ hsb₁=>?_) B.kind)
 dsimp only at hns₁ hsb₁ |-;have hnew:(s.heap.push { cls:=.type "dict",dict:=none,data:=.dict #[] }).DictOf (yo X.prog X.w) s.heap.objs.size []:=Heap.DictOf.new s.heap;generalize hH2:s.heap.push { cls:=.type "dict",dict:=none,data:=.dict #[] }=H3 at hns₁ hsb₁ hnew |-;have hCs:H3.objs.size=s.heap.objs.size+1:=by rw[<- hH2,Heap.size_push]
 have hDC:s.heap.objs.size≠H3.objs.size:=by rw[hCs];exact ne_of_lt (lt_succ_self _)
 have hC:s.heap.objs.size<=H3.objs.size:=by rw[hCs];exact le_succ _
 have old:∀b o,s.heap.get? b=some o->h₁.get? b=some o:=fun b o e=>
  hsb₁.extBut b o (ne_of_lt (lt_of_lt_of_le (Heap.lt_size e) hC)) (Heap.get?_push_of_some _ (hH2 ▸ Heap.get?_push_of_some _ e))
 have hsm:sysModules<s.heap.objs.size:=zkw I2;have hD:h₁.DictOf (yo X.prog X.w) s.heap.objs.size []:=hnew.at fun o e=>hsb₁.extBut _ _ hDC (Heap.get?_push_of_some _ e);have hDo:∀H',yH X.prog X.w H' h₁ s.heap.objs.size (.dK []):=fun _=>⟨zero_le _,beq_eq_false_iff_ne.mpr (Ne.symm (ne_of_lt hsm)),[],.nil,hD⟩;have ho:∀b∈fp,∃o,s.heap.get? b=some o:=fun b hb'=>let ⟨o,e,_⟩:=T.obj 0 _ st2 b hb';⟨o,e⟩;have I4:∀t',Inv (zU X pins sc fr Nc fp s H2 H3.objs.size) [] (xi caps σ) (upd H2 s.heap.objs.size (.dK [])) { s with heap:=h₁,toks:=t' }:=fun t'=>
  zb2 I2 B f2 ho hC (Nat.le_refl _) hDC old (hDo _) hns₁ hcap hlen
 have ok:=(I4 0).ok;obtain⟨hbg,hbt,hbk,hbv⟩:=hb pins fp s H2 H3.objs.size;obtain⟨W,⟨m0,w0⟩,turn⟩:=h s.heap.objs.size (I2.hok.fresh (Nat.le_refl _));have stat:∀{H':Hp},(∀b∈fp,H' b=none)->∀b∈fp,x8 (zU X pins sc fr Nc fp s H2 H3.objs.size) [] H' b:=fun hn b hb'=>
  ⟨hn b hb',(ok.exf b hb').1,ok.exfs b hb',.inl hb',(ok.exf b hb').2,fun p hp=>(f2 b hb').2.2.2.2.2 p (by simpa using hp)⟩
 have hfp0:∀b∈fp,upd H2 s.heap.objs.size (.dK []) b=none:=fun b hb'=>by
  obtain⟨o,e⟩:=ho b hb';rw[zh (ne_of_lt (Heap.lt_size e))];exact(f2 b hb').1
 have loop:∀s₃:Shared,s₃={ s with heap:=h₁,toks:=s.toks+([]:List (Str×Value)).length }->
   codeAny (model X.prog X.w) X.A (.compLoop (.DictComp kx vx [⟨tg,iter,ifs,0⟩] sc pos) 0 (.ref it) (.ref s.heap.objs.size) (compEnvC sc (clB X.env fr) H3.objs.size X.env)) (RR (.ref s.heap.objs.size) H3.objs.size) s₃:=by
  rintro s₃ rfl;refine qy (fun n s'=>∃i σ' H' ys,Inv (zU X pins sc fr Nc fp s H2 H3.objs.size) [] σ' H' s'/\tn i s'.heap/\(∀b∈fp,H' b=none)/\W i n ys H'/\
   (∀(k:Nat) (v:V),(xi caps σ)[k]?=some (some v)->σ'[k]?=some (some v))) ?_ m0
   ⟨0,_,_,[],I4 _,T.keep _ _ _ st2 (fun b _ o e=>old b o e),hfp0,w0,fun _ _ e=>e⟩
  rintro n s3 ⟨i,σ3,H4,ys,I3,st3,fr3,w3,wk3⟩;have I3':Inv (zU X pins sc fr Nc fp s H2 H3.objs.size) [] (xi caps σ) H4 s3:=I3.weak (by rw[I3.len];exact(I4 0).len) wk3
  rcases turn i n ys H4 w3 with ⟨stop,qn⟩|⟨gg,step⟩
  ·refine thn (T.done (zU X pins sc fr Nc fp s H2 H3.objs.size) rfl rfl rfl hc i [] s3 _ H4 (fun _ _=>False) I3' (stat fr3) st3 stop) fun r s4 ⟨hr,I4'⟩=>?_
   subst hr;exact fin _ _ _ _ _ I4' qn
  ·refine thn (T.item (zU X pins sc fr Nc fp s H2 H3.objs.size) rfl rfl rfl hc i [] s3 _ H4 (fun _ _=>False) I3' (stat fr3) st3 gg) fun r s4 ⟨u,hr,h4⟩=>?_
   subst hr;refine thn h4 fun _ s5 ⟨x,H5,I5,r5,y5,st5,fr5⟩=>?_;have I5':=I5.pinned (stat fr5) (T.obj _ _ st5);refine thn (hbg _ s5 _ H5 x u _ I5' r5 (go _ _ _ _ (step x H5 y5))) fun _ s6 ⟨σ6,H6,I6,q6,l6,k6⟩=>?_;have wk6:∀(k:Nat) (v:V),(xi caps σ)[k]?=some (some v)->σ6[k]?=some (some v):=fun k v e=>by
    rw[k6 k fun hk=>?_]
    ·exact e
    ·have h1:=List.all_eq_true.mp how k hk
     have h2:caps[k]?=some none:=by simpa using h1
     unfold xi at e;rw[getElem?_map,h2] at e;cases e
   refine thn (hbt _ s6 σ6 H6 _ I6 q6) fun ok s7 ⟨H7,I7,q7⟩=>?_;have again:∀{H8:Hp}{s8:Shared}{ys':List (Key×V)},Inv (zU X pins sc fr Nc fp s H2 H3.objs.size) ([]++vj fp s5.heap) σ6 H8 s8->(∃m',m'<n/\W (i+1) m' ys' H8)->
     ∃m,m<n/\∃i σ' H' ys,Inv (zU X pins sc fr Nc fp s H2 H3.objs.size) [] σ' H' s8/\tn i s8.heap/\(∀b∈fp,H' b=none)/\W i m ys H'/\(∀(k:Nat) (v:V),(xi caps σ)[k]?=some (some v)->σ'[k]?=some (some v)):=fun {H8 s8 ys'} I8 ⟨m',hm,w8⟩=>by
    refine⟨m',hm,i+1,σ6,H8,ys',I8.unpinned,T.keep _ _ _ st5 fun b hb' o e=>(I8.pin (b,o) (mem_append_right _ (mem_append_right _ (yO hb' e)))).1,fun b hb'=>?_,w8,wk6⟩;obtain⟨o,e,d⟩:=T.obj _ _ st5 b hb';exact(I8.pin (b,o) (mem_append_right _ (mem_append_right _ (yO hb' e)))).2.1
   cases ok with
   | false=>
    rw[if_neg Bool.false_ne_true];exact again I7 (q7.2 rfl)
   | true=>
    rw[if_pos rfl];refine thn (hbk _ s7 σ6 H7 _ I7 (q7.1 rfl)) fun uk s8 ⟨y,H8,I8,r8,q8⟩=>?_;refine thn (hbv _ s8 σ6 H8 _ I8 q8) fun uv s9 ⟨v,H9,I9,r9,k,ey,hD9,hz,q9⟩=>?_;subst ey;obtain⟨z,hd,vs,rel,dd⟩:=ziX I9.hok hD9;have hzs:vs.length<=sizeLine:=by rw[<- rel.length];exact z
    have hl:(xb ys k v).length<=sizeLine:=by have:=xM ys k v;omega
    refine wpAny_dictSet_pairs (hsz:=hzs) (qe r8) dd fun h' dd' hs=>?_;have he:∃q,h'.get? s.heap.objs.size=some q:=let ⟨q,_,_,hq,_⟩:=dd';⟨q,hq⟩;exact again (za7 I9 (by rw[hD9];exact True.intro) hs he (zgU hl hd (rel.put k r9) dd')) q9
 exact codeAny_compStart_dict (loop _ rfl) (T.self _ 0 _ _ _ (T.keep _ _ _ st2 (fun b _ o e=>old b o e)) (loop _ rfl))
theorem zkK{wi:TI}(fr Nc:List Str) (caps:List (Option Nat)) (hc:X.calm=true) (B:y7 X.env sc fr) (hi:PI X tg iter wi) (go:zdj g ow) (how:(ow.all fun i=>caps[i]?==some none)=true)
  (hcap:uf X.N Nc caps X.env sc fr=true) (hlen:caps.length=Nc.length)
  (hb:∀(pins:List (Addr×Obj)) (fp:List Addr) (s:Shared) (H:Hp) (C:Addr),PG (zU X pins sc fr Nc fp s H C) tg g/\PIf (zU X pins sc fr Nc fp s H C) ifs tt/\PE (zU X pins sc fr Nc fp s H C) kx tk/\PE (zU X pins sc fr Nc fp s H C) vx tv)
  (hs:∀x,foldedSetIterable iter X.env x=pure x:=by intro _;rfl):PE X (.DictComp kx vx [⟨tg,iter,ifs,0⟩] sc pos) (tDC wi caps g tt tk tv):=by
 refine⟨?_⟩;intro pins s σ H Q I h;rw[arm_eval_DictComp];refine wpAny_comprehension_free (use:=none) rfl hs B.clos B.kind B.loc (thn (hi pins s σ H _ I h) fun v s1 h1=>thn h1 fun itv s2 h2=>?_);obtain⟨it,fp,tn,J,H2,e,I2,T,st2,f2,q⟩:=h2;subst e;refine zeS (RR:=fun acc C=>compPost (model X.prog X.w) X.A X.xe none (EP X pins σ Q) acc C) hc B go how hcap hlen hb I2 T st2 f2 q ?_;intro D C σ' H' s' J' qq;obtain⟨m,hn,_⟩:=J'.loc;exact⟨m,hn,fun h' hs'=>⟨.ref D,H',zaj I2 J' (u9 I2 f2 J') hs',rfl,qq⟩⟩
end
theorem zQ.rev{xs:List V}{us:List Value}(r:zQ xs us):zQ xs.reverse us.reverse:=by
 induction r with
 | nil=>exact .nil
 | cons h t ih=>
  rw[reverse_cons,reverse_cons];exact ih.append (.cons h .nil)
def eqT(xs ys:List V):Bool:=((List.range (min xs.length ys.length)).all fun j=>eqV (xs[j]?.getD .non) (ys[j]?.getD .non))&&xs.length==ys.length
end L2
namespace K83
open PySem L2 PyProof.Rows
def top(i:Nat):Stmt:=PySem.Challenge.pw_callbinds_k83_stands_or_parts.main.body.getD i (.Pass ⟨0,0,0,0⟩)
abbrev sIs:Stmt:=top 3
abbrev zcr:Stmt:=yy (top 51) 0
abbrev zfF:Stmt:=yy (top 51) 1
abbrev jT:Stmt:=yy (top 51) 2
abbrev zaQ:Stmt:=yy (top 51) 3
abbrev zjq:Stmt:=yy (top 51) 4
abbrev zkF:Stmt:=yy (top 51) 5
abbrev zfw:Stmt:=yy (top 52) 0
abbrev zfK:Stmt:=yy (top 53) 0
abbrev zfu:Stmt:=yy (top 54) 0
abbrev zjr:Stmt:=yy (top 55) 0
abbrev zjB:Stmt:=yy (top 56) 0
abbrev zcw:Stmt:=yy (top 41) 0
abbrev zfE:Stmt:=yy (top 41) 1
abbrev zcv:Stmt:=yy (top 41) 2
abbrev zcx:Stmt:=yy (top 41) 3
abbrev jS:Stmt:=yy (top 41) 4
abbrev zcu:Stmt:=yy (top 41) 5
abbrev zfJ:Stmt:=yy (top 41) 6
abbrev zfI:Stmt:=yy (top 41) 7
abbrev zjA:Stmt:=yy (top 41) 8
abbrev zjt:Stmt:=top 57
abbrev zcp:Stmt:=top 42
abbrev zaL:Stmt:=top 43
abbrev zcq:Stmt:=top 44
abbrev zaK:Stmt:=top 45
abbrev zfA:Stmt:=top 46
abbrev zcm:Stmt:=top 5
abbrev zcy:Stmt:=top 6
abbrev zfC:Stmt:=top 19
abbrev jR:Stmt:=top 27
abbrev zfH:Stmt:=top 28
abbrev zcl:Stmt:=top 29
abbrev zaP:Stmt:=top 30
abbrev zjw:Stmt:=top 31
abbrev zcs:Stmt:=top 32
abbrev zjo:Stmt:=top 33
abbrev zfD:Stmt:=top 34
abbrev zfy:Stmt:=top 35
abbrev zaJ:Stmt:=top 8
abbrev jQ:Stmt:=top 9
abbrev zaI:Stmt:=top 10
abbrev zcn:Stmt:=top 11
abbrev zaN:Stmt:=top 12
abbrev zaM:Stmt:=top 13
abbrev zjv:Stmt:=top 14
abbrev zjp:Stmt:=top 15
abbrev jP:Stmt:=top 16
abbrev uR:Stmt:=top 17
abbrev zju:Stmt:=top 59
abbrev zfv:Stmt:=top 60
abbrev zfx:Stmt:=top 61
abbrev zjs:Stmt:=top 62
abbrev zfL:Stmt:=top 63
abbrev zfG:Stmt:=top 64
abbrev zaO:Stmt:=top 65
abbrev zaH:Stmt:=top 66
abbrev zfz:Stmt:=top 67
abbrev zct:Stmt:=top 68
abbrev zjz:Stmt:=top 69
abbrev zco:Stmt:=top 70
abbrev zfB:Stmt:=top 71
abbrev zjx:Stmt:=top 72
def low(c:Nat):Bool:=decide (97<=c)&&decide (c<=122)
def zR(z:Str):Bool:=decide (1<=z.length)&&decide (z.length<=8)&&z.cps.toList.all low
def nmV:V->Bool
 | .str z=>zR z
 | _=>false
def OkS(z:Str):Prop:=z.length<=1000/\∀c∈z.cps.toList,c<128
def OkV(K:Frag) (H:Hp) (x:V):Prop:=(∃z,x=.str z/\OkS z)\/(nmV x=false/\∃t,vR K H x t/\kitOne K t (.type "str")=some false)
theorem qV{z:Str}:zR z=true ↔ 1<=z.length/\z.length<=8/\∀c∈z.cps.toList,97<=c/\c<=122:=by
 unfold zR low;simp only[Bool.and_eq_true,decide_eq_true_eq,all_eq_true];constructor
 ·rintro⟨⟨a,b⟩,c⟩;exact⟨a,b,c⟩
 ·rintro⟨a,b,c⟩;exact⟨⟨a,b⟩,c⟩
theorem j9{z:Str}(h:z.length=0\/9<=z.length):zR z=false:=by
 cases e:zR z with
 | false=>rfl
 | true=>
  have:=qV.mp e
  omega
theorem j8{z:Str}(h:zR z=true):OkS z:=by
 obtain⟨_,h2,h3⟩:=qV.mp h;exact⟨by omega,fun c hc=>by have:=h3 c hc;omega⟩
def letters:Str:="abcdefghijklmnopqrstuvwxyz"
theorem zcS:∀c:Nat,c<128->(!(Builtin.Str.occurrences letters ⟨#[c]⟩ 0 letters.length 1).isEmpty)=low c:=by decide +kernel
theorem zc{H:Hp}{p:Addr}(h:H p=none) (o:HO):zm H (upd H p o):=fun b u q=>by rw[zh (zi q h)];exact q
theorem zd9{K:Frag}{H H':Hp}{x:V}{t:Value}(s:zm H H') (h:vR K H x t):vR K H' x t:=by
 cases h with
 | non=>exact .non
 | bl b=>exact .bl b
 | int i=>exact .int i
 | str z=>exact .str z
 | flt z=>exact .flt z
 | lst e=>exact .lst (s _ _ e)
 | frz e=>exact .frz (s _ _ e)
 | tup e=>exact .tup (s _ _ e)
 | dK e=>exact .dK (s _ _ e)
 | dT e=>exact .dT (s _ _ e)
 | ins e a b c d f=>exact .ins (s _ _ e) a b c d f
theorem OkV.same{K:Frag}{H H':Hp}{x:V}(s:zm H H') (h:OkV K H x):OkV K H' x:=by
 rcases h with h|⟨h,t,ty,e⟩
 ·exact .inl h
 ·exact .inr ⟨h,t,zd9 s ty,e⟩
theorem nd1:([Str.ofString "sign"]:List Str).Nodup:=by decide +kernel
def zhb(K:Frag):Sp:=fun vs H Q _=>∃x,vs=[x]/\OkV K H x/\∀H',zm H H'->Q (.bl (nmV x)) H'
structure zkf(K:Frag) (mg:Str->Option Value):Prop where
 isi:mg "isinstance"=none
 str:mg "str"=none
 bool:mg "bool"=none
 len:mg "len"=none
 all:mg "all"=none
 range:mg "range"=none
 letters:∃t,mg "LETTERS"=some (.str letters t)
 longest:∃t,mg "LONGEST"=some (.int 8 t)
 kNon:kitOne K (.type "NoneType") (.type "str")=some false
 kInt:kitOne K (.type "int") (.type "str")=some false
 kBl:kitOne K (.type "bool") (.type "str")=some false
 kLst:kitOne K (.type "list") (.type "str")=some false
 kTup:kitOne K (.type "tuple") (.type "str")=some false
 kDct:kitOne K (.type "dict") (.type "str")=some false
 kStr:kitOne K (.type "str") (.type "str")=some true
 bBl:kitOne K (.type "bool") (.type "bool")=some true
section
variable {P:Program}{w:World}{K:Frag}{mg:Str->Option Value}{base:Heap}{f:Addr}{fd:FuncData}
theorem zly:zu ["thing"] ["thing"] (zg sIs):=⟨rfl,rfl,rfl,by decide +kernel,rfl,by decide +kernel,by decide +kernel⟩
theorem zkM(F:Fun K "is_name" "is_name" sIs f fd) (T:zkf K mg):zJ P w K mg base CX0 1 f fd ["thing"] (zhb K):=by
 refine F.ok zly (fun vs H Q E h=>?_) (fun cdv A outer s H vs Q E hr h=>?_)
 ·obtain⟨x,rfl,_⟩:=h
  rfl
 obtain⟨x,rfl,hx,q⟩:=h;obtain⟨tL,hL⟩:=T.letters;obtain⟨tN,hN⟩:=T.longest;refine⟨_,zj (zP (PW.pt (xW (xc (yr (cB xw T.isi boot_isinstance (ac (pv 0) (ac (vH (v:=.ty "str") rfl T.str PyProof.Rows.boot_str rfl) zd)))))
   (xD (xc (zfQ zf2 zf2 zf (cB wX T.len PySem.boot_len (ac (pv 0) zd)) (xz (v:=.int 8) rfl hN ⟨_,rfl⟩))))))
   (ze (zC xX)) zE)
  (ze (zC (cB (vN rfl) T.all boot_all (ac (yP [] ["sign"] [none] rfl ⟨rfl,rfl,rfl,rfl⟩ (zaS (pv 0)) (zG 0) rfl rfl rfl
   (fun pins fp s H C=>⟨zk (i:=0) nd1 rfl (Or.inl rfl) (.inr rfl),yK,xZ zet (pv 0) (xz (v:=.str letters) rfl hL ⟨_,rfl⟩) (by with_unfolding_all rfl)⟩)) zd)))),?_⟩
 rcases hx with ⟨z,rfl,hz1,hz2⟩|⟨hn,t,ty,e⟩
 ·refine⟨_,rfl,_,_,_,_,rfl,.str z,T.kStr,_,rfl,?_⟩
  refine yq ?_;refine⟨_,rfl,z,rfl,Nat.le_trans hz1 (by decide),_,_,rfl,rfl,_,rfl,?_⟩
  have no:zR z=false->Q (.bl false) H:=fun e=>by
   have:=q H (zm.refl H)
   have e':nmV (.str z)=false:=e;rw[e'] at this;exact this
  refine za4 (fun c=>?_) (fun c=>?_)
  ·have c':(1:Int)<=(z.length:Int):=of_decide_eq_true c
   refine⟨_,_,rfl,rfl,_,rfl,?_⟩;by_cases h8:(z.length:Int)<=8
   ·rw[decide_eq_true h8]
    refine yq ?_;refine⟨_,rfl,z,rfl,fun D hD=>?_⟩;refine⟨fun i m ys H'=>i<=z.cps.size/\m=z.cps.size - i/\ys=(z.cps.toList.take i).map (fun c=>V.bl (low c))/\H'=upd H D (.lst ys),⟨_,zero_le _,rfl,rfl,rfl⟩,?_⟩;rintro i m ys H' ⟨hi,rfl,rfl,rfl⟩;by_cases he:i=z.cps.size
    ·subst he
     refine .inl ⟨Nat.le_refl _,?_⟩;refine⟨D,z.cps.toList.map low,rfl,SqL.of ?_,?_⟩
     ·rw[za,take_of_length_le (by simp),map_map]
      rfl
     ·have e:(z.cps.toList.map low).all id=nmV (.str z):=by
       show _=zR z;unfold zR;rw[decide_eq_true (show 1<=z.length by omega),decide_eq_true (show z.length<=8 by omega),all_map]
       rfl
      rw[e];exact q _ (zc hD _)
    ·refine .inr ⟨by show i<z.cps.size;omega,?_⟩
     rintro x H' ⟨rfl,c,hc,rfl⟩;refine⟨fun _=>?_,fun e=>Bool.noConfusion e⟩;refine⟨_,rfl,_,_,rfl,rfl,za,?_,z.cps.size - (i+1),by omega,by omega,rfl,?_,?_⟩
     ·rw[length_map,length_take]
      have:z.cps.size<=1000:=hz1
      exact zT (by omega)
     ·have hc':z.cps.toList[i]?=some c:=by simpa using hc
      have hlow:=zcS c (hz2 c (mem_of_getElem? hc'));rw[hlow,take_add_one,hc',map_append];rfl
     ·rw[vz]
   ·rw[decide_eq_false h8]
    refine xm ?_;exact no (j9 (.inr (by omega)))
  ·have c':¬(1:Int)<=(z.length:Int):=of_decide_eq_false (Bool.eq_false_iff.mpr c)
   refine⟨_,rfl,?_⟩;exact xm (no (j9 (.inl (by omega))))
 ·refine⟨_,rfl,_,_,_,_,rfl,ty,e,_,rfl,?_⟩
  refine xm ?_;refine xm ?_
  have:=q H (zm.refl H)
  rw[hn] at this;exact this
end
theorem dT{A B:Prop}{c:Prop}[Decidable c] (h:c) (a:A):if decide c=true then A else B:=by rw[decide_eq_true h];exact xm a
theorem dF{A B:Prop}{c:Prop}[Decidable c] (h:¬c) (b:B):if decide c=true then A else B:=by rw[decide_eq_false h];exact yq b
def kw:Nat->Str
 | 0=>"seat"|1=>"both"|2=>"tail"|3=>"tag"|_=>"bag"
def zjC(k:Nat) (x:V) (b:Bool):List V:=match k with
 | 0=>[.str "seat",x,.bl b]|1=>[.str "both",x,.bl b]|2=>[.str "tail",x]|3=>[.str "tag",x,.bl b]|_=>[.str "bag",x]
def fr(k:Nat) (b:Bool):Bool:=match k with
 | 0=>b|1=>b|2=>true|3=>b|_=>true
theorem lt5{k:Nat}(h:k<5):k=0\/k=1\/k=2\/k=3\/k=4:=by omega
def pf(wd:Str) (x:V) (b:Bool):List (Str×V):=z8 "may_lack" (.bl b) (z8 "name" x (z8 "word" (.str wd) []))
theorem uy{wd:Str}{x:V}{b:Bool}:(pf wd x b).lookup ("word" : Str)=some (.str wd):=by
 unfold pf;rw[zq,if_neg (by decide +kernel),zq,if_neg (by decide +kernel),zq,if_pos rfl]
theorem vG{wd:Str}{x:V}{b:Bool}:(pf wd x b).lookup ("name" : Str)=some x:=by
 unfold pf;rw[zq,if_neg (by decide +kernel),zq,if_pos rfl]
theorem zhD{wd:Str}{x:V}{b:Bool}:(pf wd x b).lookup ("may_lack" : Str)=some (.bl b):=by
 unfold pf;rw[zq,if_pos rfl]
theorem uz{wd:Str}{x:V}{b:Bool}{m:Str}(h1:¬m="may_lack") (h2:¬m="name") (h3:¬m="word"):(pf wd x b).lookup m=none:=by
 unfold pf;rw[zq,if_neg h1,zq,if_neg h2,zq,if_neg h3];rfl
structure MA where
 (fF fP fB fT fO:Addr)
structure PC(K:Frag) (m:MA) (C:Addr):Prop where
 cl:Cls K C
 nW:xt K C "word"
 nN:xt K C "name"
 nM:xt K C "may_lack"
 mF:xp K C "free" m.fF
 mP:xp K C "by_place" m.fP
 mB:xp K C "by_name" m.fB
 mT:xp K C "takes_one" m.fT
 mO:xp K C "told" m.fO
def spP(K:Frag) (m:MA):Sp:=fun vs H Q _=>∃(p dx C:Addr) (wd:Str) (x:V) (b:Bool),vs=[.ref p,.str wd,x,.bl b]/\H p=some (.ins C dx [])/\PC K m C/\OkV K H x/\nmV x=true/\∀H1,zm H H1->Q .non (upd H1 p (.ins C dx (pf wd x b)))
def spS(K:Frag) (C:Addr) (wd:Str):Sp:=fun vs H Q _=>∃(p dx:Addr) (x:V) (b:Bool),vs=[.ref p,x,.bl b]/\H p=some (.ins C dx [])/\OkV K H x/\nmV x=true/\∀H1,zm H H1->Q .non (upd H1 p (.ins C dx (pf wd x b)))
def spT(K:Frag) (C:Addr) (wd:Str):Sp:=fun vs H Q _=>∃(p dx:Addr) (x:V),vs=[.ref p,x]/\H p=some (.ins C dx [])/\OkV K H x/\nmV x=true/\∀H1,zm H H1->Q .non (upd H1 p (.ins C dx (pf wd x true)))
def bpL:List V:=[.str "seat",.str "both"]
def bnL:List V:=[.str "both",.str "tag"]
def otL:List V:=[.str "seat",.str "both",.str "tag"]
def zax(K:Frag) (m:MA):Sp:=fun vs H Q _=>∃(p dx C:Addr) (wd:Str) (x:V) (b:Bool),vs=[.ref p]/\PC K m C/\H p=some (.ins C dx (pf wd x b))/\Q (.bl b) H
def jG(K:Frag) (m:MA) (l:List V):Sp:=fun vs H Q _=>∃(p dx C:Addr) (wd:Str) (x:V) (b:Bool),vs=[.ref p]/\PC K m C/\H p=some (.ins C dx (pf wd x b))/\Q (.bl (inV (.str wd) l)) H
structure Wds(K:Frag) (mg:Str->Option Value) (tP tB tO:Addr):Prop where
 mP:mg "BY_PLACE"=some (.ref tP)
 mB:mg "BY_NAME"=some (.ref tB)
 mO:mg "OF_ONE_THING"=some (.ref tO)
 hP:∀H,SqT K H tP bpL
 hB:∀H,SqT K H tB bnL
 hO:∀H,SqT K H tO otL
section
variable {P:Program}{w:World}{K:Frag}{mg:Str->Option Value}{base:Heap}{f C tP tB tO:Addr}{fd:FuncData}{m:MA}
theorem zhm:zu ["self","word","name","may_lack"] ["self","word","name","may_lack"] (zg zcr):=⟨rfl,rfl,rfl,by decide +kernel,rfl,by decide +kernel,by decide +kernel⟩
theorem zge{g:Addr}{gd:FuncData}(F:Fun K "__init__" "Parameter.__init__" zcr f fd) (cI:zK P w K mg base 1 "is_name" g gd ["thing"] (zhb K)) :
  zJ P w K mg base CX0 2 f fd ["self","word","name","may_lack"] (spP K m):=by
 refine F.ok zhm (fun vs H Q E h=>?_) (fun cdv A outer s H vs Q E hr h=>?_)
 ·obtain⟨p,dx,C,wd,x,b,rfl,_⟩:=h
  rfl
 obtain⟨p,dx,C,wd,x,b,rfl,hp,c,hx,q1,q2⟩:=h;refine⟨_,zj (zP (xc (yr (cF cI hr (ac (pv 2) zd)))) (ze vE) zE)
  (zj (wP (pv 0) (pv 1) rfl) (zj (wP (pv 0) (pv 2) rfl) (ze (wP (pv 0) (pv 3) rfl)))),?_⟩
 refine⟨_,rfl,x,rfl,hx,fun H1 s1=>⟨_,rfl,?_⟩⟩;rw[q1];refine yq ?_;refine⟨_,rfl,_,rfl,p,C,dx,[],rfl,s1 _ _ hp,c.cl,c.nW,(by show 0<1000;decide),?_⟩
 refine⟨_,rfl,_,rfl,p,C,dx,_,rfl,za,c.cl,c.nN,(by show 1<1000;decide),?_⟩
 refine⟨_,rfl,_,rfl,p,C,dx,_,rfl,za,c.cl,c.nM,(by show 2<1000;decide),?_⟩
 rw[vz,vz];exact q2 _ s1
theorem zjf:zu ["self","name","free"] ["self","name","free"] (zg zfw):=⟨rfl,rfl,rfl,by decide +kernel,rfl,by decide +kernel,by decide +kernel⟩
theorem zhL{g D:Addr}{gd:FuncData}{ds:List Value}(F:qE K "__init__" "Seat.__init__" zfw f fd ds) (c:PC K m C) (B:qw K D "__init__" g) (mD:mg "Parameter"=some (.ref D)) (G:zJ P w K mg base CX0 2 g gd ["self","word","name","may_lack"] (spP K m)) (bg:z7 K gd ["self","word","name","may_lack"] []) :
  zJ P w K mg base CX0 3 f fd ["self","name","free"] (spS K C "seat"):=by
 refine F.ok zjf (fun vs H Q E h=>?_) (fun cdv A outer s H vs Q E hr h=>?_)
 ·obtain⟨p,dx,x,b,rfl,_⟩:=h
  rfl
 obtain⟨p,dx,x,b,rfl,hp,hx,q1,q2⟩:=h;refine⟨_,ze (z6 (zbF B mD G hr bg yp (ac (pv 0) (ac zD (ac (pv 1) (ac (pv 2) zd)))))),?_⟩;exact⟨_,rfl,_,rfl,_,rfl,p,dx,C,_,x,b,rfl,hp,c,hx,q1,q2⟩
theorem zjn:zu ["self","name","free"] ["self","name","free"] (zg zfK):=⟨rfl,rfl,rfl,by decide +kernel,rfl,by decide +kernel,by decide +kernel⟩
theorem zh0{g D:Addr}{gd:FuncData}{ds:List Value}(F:qE K "__init__" "Both.__init__" zfK f fd ds) (c:PC K m C) (B:qw K D "__init__" g) (mD:mg "Parameter"=some (.ref D)) (G:zJ P w K mg base CX0 2 g gd ["self","word","name","may_lack"] (spP K m)) (bg:z7 K gd ["self","word","name","may_lack"] []) :
  zJ P w K mg base CX0 3 f fd ["self","name","free"] (spS K C "both"):=by
 refine F.ok zjn (fun vs H Q E h=>?_) (fun cdv A outer s H vs Q E hr h=>?_)
 ·obtain⟨p,dx,x,b,rfl,_⟩:=h
  rfl
 obtain⟨p,dx,x,b,rfl,hp,hx,q1,q2⟩:=h;refine⟨_,ze (z6 (zbF B mD G hr bg yp (ac (pv 0) (ac zD (ac (pv 1) (ac (pv 2) zd)))))),?_⟩;exact⟨_,rfl,_,rfl,_,rfl,p,dx,C,_,x,b,rfl,hp,c,hx,q1,q2⟩
theorem zkD:zu ["self","name","free"] ["self","name","free"] (zg zjr):=⟨rfl,rfl,rfl,by decide +kernel,rfl,by decide +kernel,by decide +kernel⟩
theorem zjQ{g D:Addr}{gd:FuncData}{ds:List Value}(F:qE K "__init__" "Tag.__init__" zjr f fd ds) (c:PC K m C) (B:qw K D "__init__" g) (mD:mg "Parameter"=some (.ref D)) (G:zJ P w K mg base CX0 2 g gd ["self","word","name","may_lack"] (spP K m)) (bg:z7 K gd ["self","word","name","may_lack"] []) :
  zJ P w K mg base CX0 3 f fd ["self","name","free"] (spS K C "tag"):=by
 refine F.ok zkD (fun vs H Q E h=>?_) (fun cdv A outer s H vs Q E hr h=>?_)
 ·obtain⟨p,dx,x,b,rfl,_⟩:=h
  rfl
 obtain⟨p,dx,x,b,rfl,hp,hx,q1,q2⟩:=h;refine⟨_,ze (z6 (zbF B mD G hr bg yp (ac (pv 0) (ac zD (ac (pv 1) (ac (pv 2) zd)))))),?_⟩;exact⟨_,rfl,_,rfl,_,rfl,p,dx,C,_,x,b,rfl,hp,c,hx,q1,q2⟩
theorem zje:zu ["self","name"] ["self","name"] (zg zfu):=⟨rfl,rfl,rfl,by decide +kernel,rfl,by decide +kernel,by decide +kernel⟩
theorem zhJ{g D:Addr}{gd:FuncData}(F:Fun K "__init__" "Tail.__init__" zfu f fd) (c:PC K m C) (B:qw K D "__init__" g) (mD:mg "Parameter"=some (.ref D)) (G:zJ P w K mg base CX0 2 g gd ["self","word","name","may_lack"] (spP K m)) (bg:z7 K gd ["self","word","name","may_lack"] []) :
  zJ P w K mg base CX0 3 f fd ["self","name"] (spT K C "tail"):=by
 refine F.ok zje (fun vs H Q E h=>?_) (fun cdv A outer s H vs Q E hr h=>?_)
 ·obtain⟨p,dx,x,rfl,_⟩:=h
  rfl
 obtain⟨p,dx,x,rfl,hp,hx,q1,q2⟩:=h;refine⟨_,ze (z6 (zbF B mD G hr bg yp (ac (pv 0) (ac zD (ac (pv 1) (ac xX zd)))))),?_⟩;exact⟨_,rfl,_,rfl,p,dx,C,_,x,true,rfl,hp,c,hx,q1,q2⟩
theorem zkE:zu ["self","name"] ["self","name"] (zg zjB):=⟨rfl,rfl,rfl,by decide +kernel,rfl,by decide +kernel,by decide +kernel⟩
theorem zjY{g D:Addr}{gd:FuncData}(F:Fun K "__init__" "Bag.__init__" zjB f fd) (c:PC K m C) (B:qw K D "__init__" g) (mD:mg "Parameter"=some (.ref D)) (G:zJ P w K mg base CX0 2 g gd ["self","word","name","may_lack"] (spP K m)) (bg:z7 K gd ["self","word","name","may_lack"] []) :
  zJ P w K mg base CX0 3 f fd ["self","name"] (spT K C "bag"):=by
 refine F.ok zkE (fun vs H Q E h=>?_) (fun cdv A outer s H vs Q E hr h=>?_)
 ·obtain⟨p,dx,x,rfl,_⟩:=h
  rfl
 obtain⟨p,dx,x,rfl,hp,hx,q1,q2⟩:=h;refine⟨_,ze (z6 (zbF B mD G hr bg yp (ac (pv 0) (ac zD (ac (pv 1) (ac xX zd)))))),?_⟩;exact⟨_,rfl,_,rfl,p,dx,C,_,x,true,rfl,hp,c,hx,q1,q2⟩
theorem zjj:zu ["self"] ["self"] (zg zfF):=⟨rfl,rfl,rfl,by decide +kernel,rfl,by decide +kernel,by decide +kernel⟩
theorem zhW(F:Fun K "free" "Parameter.free" zfF f fd):zJ P w K mg base CX0 1 f fd ["self"] (zax K m):=by
 refine F.ok zjj (fun vs H Q E h=>?_) (fun cdv A outer s H vs Q E hr h=>?_)
 ·obtain⟨p,dx,C,wd,x,b,rfl,_⟩:=h
  rfl
 obtain⟨p,dx,C,wd,x,b,rfl,c,hp,q⟩:=h;refine⟨_,ze (zC (y4 (pv 0) rfl)),?_⟩;exact⟨_,rfl,p,C,dx,_,_,rfl,hp,c.cl,c.nM,zhD,q⟩
theorem zeh:zu ["self"] ["self"] (zg jT):=⟨rfl,rfl,rfl,by decide +kernel,rfl,by decide +kernel,by decide +kernel⟩
theorem zbJ(F:Fun K "by_place" "Parameter.by_place" jT f fd) (Wd:Wds K mg tP tB tO):zJ P w K mg base CX0 1 f fd ["self"] (jG K m bpL):=by
 refine F.ok zeh (fun vs H Q E h=>?_) (fun cdv A outer s H vs Q E hr h=>?_)
 ·obtain⟨p,dx,C,wd,x,b,rfl,_⟩:=h
  rfl
 obtain⟨p,dx,C,wd,x,b,rfl,c,hp,q⟩:=h;refine⟨_,ze (zC (xZ yn (y4 (pv 0) rfl) (xz (v:=.ref tP) rfl Wd.mP rfl) (by with_unfolding_all rfl))),?_⟩
 exact⟨_,rfl,p,C,dx,_,_,rfl,hp,c.cl,c.nW,uy,tP,bpL,rfl,.inr (Wd.hP H),rfl,(by decide),q⟩
theorem zfs:zu ["self"] ["self"] (zg zaQ):=⟨rfl,rfl,rfl,by decide +kernel,rfl,by decide +kernel,by decide +kernel⟩
theorem zcN(F:Fun K "by_name" "Parameter.by_name" zaQ f fd) (Wd:Wds K mg tP tB tO):zJ P w K mg base CX0 1 f fd ["self"] (jG K m bnL):=by
 refine F.ok zfs (fun vs H Q E h=>?_) (fun cdv A outer s H vs Q E hr h=>?_)
 ·obtain⟨p,dx,C,wd,x,b,rfl,_⟩:=h
  rfl
 obtain⟨p,dx,C,wd,x,b,rfl,c,hp,q⟩:=h;refine⟨_,ze (zC (xZ yn (y4 (pv 0) rfl) (xz (v:=.ref tB) rfl Wd.mB rfl) (by with_unfolding_all rfl))),?_⟩
 exact⟨_,rfl,p,C,dx,_,_,rfl,hp,c.cl,c.nW,uy,tB,bnL,rfl,.inr (Wd.hB H),rfl,(by decide),q⟩
end
structure C5 where
 (c0 c1 c2 c3 c4:Addr)
def C5.at(c:C5):Nat->Addr
 | 0=>c.c0|1=>c.c1|2=>c.c2|3=>c.c3|_=>c.c4
structure ziZ(P:Program) (w:World) (K:Frag) (mg:Str->Option Value) (base:Heap) (c:C5) (i0 i1 i2 i3 i4:Addr) (d0 d1 d2 d3 d4:FuncData):Prop where
 k0:zeX P w K mg base CX0 3 "Seat" c.c0 i0 d0 ["self","name","free"] [] (spS K c.c0 "seat")
 k1:zeX P w K mg base CX0 3 "Both" c.c1 i1 d1 ["self","name","free"] [] (spS K c.c1 "both")
 k2:zeX P w K mg base CX0 3 "Tail" c.c2 i2 d2 ["self","name"] [] (spT K c.c2 "tail")
 k3:zeX P w K mg base CX0 3 "Tag" c.c3 i3 d3 ["self","name","free"] [] (spS K c.c3 "tag")
 k4:zeX P w K mg base CX0 3 "Bag" c.c4 i4 d4 ["self","name"] [] (spT K c.c4 "bag")
def Res(c:C5) (H:Hp) (k:Nat) (x:V) (b:Bool) (Q:VK):Prop:=
 nmV x=true/\∀(o dx:Addr) (H':Hp),zm H H'->H' o=some (.ins (c.at k) dx (pf (kw k) x (fr k b)))->Q (.ref o) H'
def ziE(K:Frag) (c:C5):Sp:=fun vs H Q _=>∃(p:Addr) (k:Nat) (x:V) (b:Bool),vs=[.ref p]/\k<5/\H p=some (.tup (zjC k x b))/\OkV K H x/\Res c H k x b Q
theorem zlU:¬(V.str "both"=V.str "seat"):=by decide +kernel
theorem zlT:¬(V.str "tail"=V.str "seat"):=by decide +kernel
theorem zlS:¬(V.str "tail"=V.str "both"):=by decide +kernel
theorem zlR:¬(V.str "tag"=V.str "seat"):=by decide +kernel
theorem zlQ:¬(V.str "tag"=V.str "both"):=by decide +kernel
theorem zlP:¬(V.str "tag"=V.str "tail"):=by decide +kernel
theorem zlO:¬(V.str "bag"=V.str "seat"):=by decide +kernel
theorem zlN:¬(V.str "bag"=V.str "both"):=by decide +kernel
theorem zlM:¬(V.str "bag"=V.str "tail"):=by decide +kernel
theorem zlL:¬(V.str "bag"=V.str "tag"):=by decide +kernel
section
variable {P:Program}{w:World}{K:Frag}{mg:Str->Option Value}{base:Heap}{f i0 i1 i2 i3 i4:Addr}{fd d0 d1 d2 d3 d4:FuncData}{c:C5}
theorem zlY{x:V}{k:Nat}{b:Bool}(h:k<5):atI (zjC k x b) 0=some (.str (kw k)):=by rcases lt5 h with rfl|rfl|rfl|rfl|rfl <;> rfl
theorem ziK:zu ["told","word"] ["told"] (zg zjt):=⟨rfl,rfl,rfl,by decide +kernel,rfl,by decide +kernel,by decide +kernel⟩
theorem zjS(F:Fun K "parameter_of" "parameter_of" zjt f fd) (U:ziZ P w K mg base c i0 i1 i2 i3 i4 d0 d1 d2 d3 d4):zJ P w K mg base CX0 5 f fd ["told"] (ziE K c):=by
 refine F.ok ziK (fun vs H Q E h=>?_) (fun cdv A outer s H vs Q E hr h=>?_)
 ·obtain⟨p,k,x,b,rfl,_⟩:=h
  rfl
 obtain⟨p,k,x,b,rfl,hk,hp,hx,r1,r2⟩:=h;refine⟨_,zj (zy (i:=1) ziK.nd rfl (Or.inl rfl) (zB zw (pv 0) zf (fun _ _=>rfl)))
  (zj (zP (zo yx (pv 1) zD (zI _)) (ze (zC (cMk U.k0 .nil yp hr (ac (zB zw (pv 0) zf (fun _ _=>rfl)) (ac (zB zw (pv 0) zf (fun _ _=>rfl)) zd))))) zE)
  (zj (zP (zo yx (pv 1) zD (zI _)) (ze (zC (cMk U.k1 .nil yp hr (ac (zB zw (pv 0) zf (fun _ _=>rfl)) (ac (zB zw (pv 0) zf (fun _ _=>rfl)) zd))))) zE)
  (zj (zP (zo yx (pv 1) zD (zI _)) (ze (zC (cMk U.k2 .nil yp hr (ac (zB zw (pv 0) zf (fun _ _=>rfl)) zd)))) zE)
  (zj (zP (zo yx (pv 1) zD (zI _)) (ze (zC (cMk U.k3 .nil yp hr (ac (zB zw (pv 0) zf (fun _ _=>rfl)) (ac (zB zw (pv 0) zf (fun _ _=>rfl)) zd))))) zE)
  (ze (zC (cMk U.k4 .nil yp hr (ac (zB zw (pv 0) zf (fun _ _=>rfl)) zd)))))))),?_⟩
 refine⟨_,rfl,p,_,_,.str (kw k),rfl,rfl,SqT.of hp,zlY hk,?_⟩;rcases lt5 hk with rfl|rfl|rfl|rfl|rfl
 ·have hS:SqT K H p _:=SqT.of hp
  refine⟨_,rfl,rfl,_,rfl,?_⟩;refine dT rfl ?_;exact⟨_,rfl,p,_,_,x,rfl,rfl,hS,rfl,_,rfl,p,_,_,.bl b,rfl,rfl,hS,rfl,fun o dx ho hdx ne=>⟨o,dx,x,b,rfl,za,hx.same (xq ho hdx),r1,fun H1 s1=>⟨rfl,r2 o dx _ (wa ho hdx s1) za⟩⟩⟩
 ·have hS:SqT K H p _:=SqT.of hp
  refine⟨_,rfl,rfl,_,rfl,?_⟩;refine dF zlU ?_;refine⟨_,rfl,rfl,_,rfl,?_⟩;refine dT rfl ?_;exact⟨_,rfl,p,_,_,x,rfl,rfl,hS,rfl,_,rfl,p,_,_,.bl b,rfl,rfl,hS,rfl,fun o dx ho hdx ne=>⟨o,dx,x,b,rfl,za,hx.same (xq ho hdx),r1,fun H1 s1=>⟨rfl,r2 o dx _ (wa ho hdx s1) za⟩⟩⟩
 ·have hS:SqT K H p _:=SqT.of hp
  refine⟨_,rfl,rfl,_,rfl,?_⟩;refine dF zlT ?_;refine⟨_,rfl,rfl,_,rfl,?_⟩;refine dF zlS ?_;refine⟨_,rfl,rfl,_,rfl,?_⟩;refine dT rfl ?_;exact⟨_,rfl,p,_,_,x,rfl,rfl,hS,rfl,fun o dx ho hdx ne=>⟨o,dx,x,rfl,za,hx.same (xq ho hdx),r1,fun H1 s1=>⟨rfl,r2 o dx _ (wa ho hdx s1) za⟩⟩⟩
 ·have hS:SqT K H p _:=SqT.of hp
  refine⟨_,rfl,rfl,_,rfl,?_⟩;refine dF zlR ?_;refine⟨_,rfl,rfl,_,rfl,?_⟩;refine dF zlQ ?_;refine⟨_,rfl,rfl,_,rfl,?_⟩;refine dF zlP ?_;refine⟨_,rfl,rfl,_,rfl,?_⟩;refine dT rfl ?_;exact⟨_,rfl,p,_,_,x,rfl,rfl,hS,rfl,_,rfl,p,_,_,.bl b,rfl,rfl,hS,rfl,fun o dx ho hdx ne=>⟨o,dx,x,b,rfl,za,hx.same (xq ho hdx),r1,fun H1 s1=>⟨rfl,r2 o dx _ (wa ho hdx s1) za⟩⟩⟩
 ·have hS:SqT K H p _:=SqT.of hp
  refine⟨_,rfl,rfl,_,rfl,?_⟩;refine dF zlO ?_;refine⟨_,rfl,rfl,_,rfl,?_⟩;refine dF zlN ?_;refine⟨_,rfl,rfl,_,rfl,?_⟩;refine dF zlM ?_;refine⟨_,rfl,rfl,_,rfl,?_⟩;refine dF zlL ?_;exact⟨_,rfl,p,_,_,x,rfl,rfl,hS,rfl,fun o dx ho hdx ne=>⟨o,dx,x,rfl,za,hx.same (xq ho hdx),r1,fun H1 s1=>⟨rfl,r2 o dx _ (wa ho hdx s1) za⟩⟩⟩
end
end K83
namespace L2
open PySem PySem.Spec PyProof.Rows
def dcN(n i:Nat) (D:Addr) (Pv:Nat->List (Key×V)->Hp->Prop) (ys:List (Key×V)) (y:V):VK:=fun v H5=>∃k,y=kV k/\H5 D=some (.dK ys)/\ys.length<sizeLine/\∃m',m'<n - i/\m'=n - (i+1)/\i+1<=n/\Pv (i+1) (xb ys k v) (upd H5 D (.dK (xb ys k v)))
def dcS(n i:Nat) (Pv:Nat->List (Key×V)->Hp->Prop) (ys:List (Key×V)) (H4:Hp):Prop:=∃m',m'<n - i/\m'=n - (i+1)/\i+1<=n/\Pv (i+1) ys H4
theorem dcN.mk{n i:Nat}{D:Addr}{Pv:Nat->List (Key×V)->Hp->Prop}{ys:List (Key×V)}{y v:V}{H5:Hp}(k:Key) (hi:i<n) (ek:y=kV k) (hn:n<=sizeLine) (hD:H5 D=some (.dK ys)) (hy:ys.length<=i) (p:Pv (i+1) (xb ys k v) (upd H5 D (.dK (xb ys k v)))):dcN n i D Pv ys y v H5:=
 ⟨k,ek,hD,by omega,n - (i+1),by omega,rfl,hi,p⟩
theorem dcS.mk{n i:Nat}{Pv:Nat->List (Key×V)->Hp->Prop}{ys:List (Key×V)}{H4:Hp}(hi:i<n) (p:Pv (i+1) ys H4):dcS n i Pv ys H4:=⟨n - (i+1),by omega,rfl,hi,p⟩
theorem zik{K:Frag}{a:Addr}{xs:List V}{caps:List (Option Nat)}{g:TG}{tt:TT}{tk tv:TE}{σ : St}{H1:Hp}{Q:VK}{D:Addr}(Pv:Nat->List (Key×V)->Hp->Prop) (h0:Pv 0 [] (upd H1 D (.dK [])))
  (hl:∀i ys H,Pv i ys H->SqL K H a xs)
  (hs:∀i x p ys H,i<xs.length->xs[i]?=some x->Pv i ys H->H p=none->g (.ref p) (xi caps σ) (upd H p (.tup [.int i,x])) fun σ2 H2=>tt σ2 H2 fun ok H3=>(ok=true->tk σ2 H3 fun y H4=>tv σ2 H4 (dcN xs.length i D Pv ys y))/\(ok=false->dcS xs.length i Pv ys H3))
  (hd:∀ys H,Pv xs.length ys H->Q (.ref D) H):DCr (Ite K a) caps g tt tk tv σ H1 Q D:=by
 refine⟨fun i m ys H=>m=xs.length - i/\i<=xs.length/\Pv i ys H,⟨xs.length,by simp,zero_le _,h0⟩,?_⟩
 rintro i m ys H ⟨rfl,hi,p⟩;have q:=hl i ys H p;by_cases hlt:i<xs.length
 ·refine .inr ⟨⟨xs,xs[i],q,by simp [hlt]⟩,fun x H' y=>?_⟩
  obtain⟨pp,y,rfl,hp,y2,rfl⟩:=y;exact hs i y pp ys H hlt (y2 xs q) p hp
 ·have e:i=xs.length:=by omega
  subst e;exact .inl ⟨⟨xs,q,Nat.le_refl _⟩,hd ys H p⟩
end L2
namespace K83
open PySem L2 PyProof.Rows
structure Rw where
 (k:Nat) (z:Str) (b:Bool)
def Rw.ok(r:Rw):Prop:=r.k<5/\zR r.z=true
abbrev rv(r:Rw):List V:=zjC r.k (.str r.z) r.b
abbrev pr(r:Rw):List (Str×V):=pf (kw r.k) (.str r.z) (fr r.k r.b)
def PAt(c:C5) (H:Hp) (p:Addr) (r:Rw):Prop:=∃dx,H p=some (.ins (c.at r.k) dx (pr r))
def wm(k:Nat):Bool:=k==0||k==1
def yd(k:Nat):Bool:=k==1||k==3
theorem zgE:∀k:Nat,k<5->inV (.str (kw k)) bpL=wm k:=by decide +kernel
theorem zab:∀k:Nat,k<5->inV (.str (kw k)) bnL=yd k:=by decide +kernel
def grp:Nat->Nat
 | 0=>0|1=>0|2=>1|3=>2|_=>3
def qt(l g:Nat):Bool:=decide (g<l)||(g==l&&(g==1||g==3))
def xu:Nat->List Rw->Bool
 | _,[]=>true
 | l,r::rs=>!qt l (grp r.k)&&xu (grp r.k) rs
def nms(rows:List Rw):List Str:=(rows.filter fun r=>yd r.k).map (·.z)
structure jk(rows:List Rw) (bars:List Str):Prop where
 ok:∀r∈rows,r.ok
 l24:rows.length<=24
 l60:bars.length<=60
 ord:xu 0 rows=true
 bn:∀z∈bars,zR z=true
 nd:(nms rows++bars).Nodup
def zO(kk:Nat):Nat->List Rw->Option Nat
 | _,[]=>none
 | i,r::rs=>if r.k=kk then some i else zO kk (i+1) rs
def wj:Option Nat->V
 | none=>.non
 | some i=>.int i
def yY:Nat->List (Key×V)->List Rw->List (Key×V)
 | _,acc,[]=>acc
 | i,acc,r::rs=>yY (i+1) (if yd r.k=true then xb acc (.inr r.z) (.int i) else acc) rs
def plN(rows:List Rw):Nat:=(rows.filter fun r=>wm r.k).length
def zg1:List Str:=["row","bar_names","place_count","tail_number","bag_number","doors"]
structure FF(fs:List (Str×V)) (lr lb ld:Addr) (rows:List Rw):Prop where
 row:fs.lookup ("row" : Str)=some (.ref lr)
 bn:fs.lookup ("bar_names" : Str)=some (.ref lb)
 pc:fs.lookup ("place_count" : Str)=some (.int (plN rows))
 tn:fs.lookup ("tail_number" : Str)=some (wj (zO 2 0 rows))
 bg:fs.lookup ("bag_number" : Str)=some (wj (zO 4 0 rows))
 dr:fs.lookup ("doors" : Str)=some (.ref ld)
 no:∀m,m∉zg1->fs.lookup m=none
def xH(c:C5) (CF:Addr) (H:Hp) (f:Addr) (rows:List Rw) (bars:List Str):Prop:=
 ∃dx fs lr lb ld ps,H f=some (.ins CF dx fs)/\FF fs lr lb ld rows/\H lr=some (.lst (ps.map V.ref))/\Paired (PAt c H) ps rows/\H lb=some (.lst (bars.map V.str))/\H ld=some (.dK (yY 0 [] rows))
section
variable {c:C5}{CF f p:Addr}{H H':Hp}{rows:List Rw}{bars:List Str}{r:Rw}{ps:List Addr}
theorem PAt.same(h:PAt c H p r) (s:zm H H'):PAt c H' p r:=h.imp fun _=>s _ _
theorem yG(s:zm H H') (h:Paired (PAt c H) ps rows):Paired (PAt c H') ps rows:=Paired.imp' (fun _ _ z=>z.same s) h
theorem xH.same(h:xH c CF H f rows bars) (s:zm H H'):xH c CF H' f rows bars:=by
 obtain⟨dx,fs,lr,lb,ld,ps,h1,h2,h3,h4,h5,h6⟩:=h;exact⟨dx,fs,lr,lb,ld,ps,s _ _ h1,h2,s _ _ h3,yG s h4,s _ _ h5,s _ _ h6⟩
def zcc(c:C5) (CF:Addr) (H H':Hp) (f:Addr) (rows:List Rw) (bars:List Str):Prop:=
 ∃dx fs lr lb ld ps,H' f=some (.ins CF dx fs)/\FF fs lr lb ld rows/\H' lr=some (.lst (ps.map V.ref))/\Paired (PAt c H') ps rows/\H' lb=some (.lst (bars.map V.str))/\H' ld=some (.dK (yY 0 [] rows))/\H lr=none/\H lb=none
theorem zcc.of{H0:Hp}(h:zcc c CF H H' f rows bars) (s:zm H0 H):zcc c CF H0 H' f rows bars:=by
 obtain⟨dx,fs,lr,lb,ld,ps,h1,h2,h3,h4,h5,h6,h7,h8⟩:=h;exact⟨dx,fs,lr,lb,ld,ps,h1,h2,h3,h4,h5,h6,s.free h7,s.free h8⟩
theorem yb{α β : Type}{R : α->β->Prop}{xs:List α}{ys:List β}(h:Paired R xs ys):∀{i:Nat}{x : α},xs[i]?=some x->∃y,ys[i]?=some y/\R x y:=by
 induction h with
 | nil=>intro i x e;simp at e
 | cons r t ih=>
  intro i x e;cases i with
  | zero=>exact⟨_,rfl,by simp at e;exact e ▸ r⟩
  | succ i=>simpa using ih (by simpa using e)
end
def zib(x:Str):Option V:=([(("seat" : Str),V.int 0),("both",.int 0),("tail",.int 1),("tag",.int 2),("bag",.int 3)]:List (Str×V)).lookup x
theorem zia:∀k:Nat,k<5->zib (kw k)=some (.int (grp k)):=by decide +kernel
theorem zj9(k:Nat):grp k<4:=by unfold grp;split <;> decide
structure zb9(w:World) (K:Frag) (mg:Str->Option Value) (G sg:Addr):Prop where
 len:mg "len"=none
 en:mg "enumerate"=none
 lst:mg "list"=none
 set:mg "set"=none
 mp:∃t,mg "MOST_PARAMETERS"=some (.int 24 t)
 mb:∃t,mg "MOST_BARS"=some (.int 60 t)
 mgr:mg "GROUPS"=some (.ref G)
 gt:zkj w K G zib
 ms:mg "SINGLE_GROUPS"=some (.ref sg)
 hs:∀H,SqT K H sg [.int 1,.int 3]
def Cs5(c:C5):Addr->Prop:=fun C=>∃k,k<5/\C=c.at k
def zfe(K:Frag):Sp:=fun vs H Q _=>∃(a b:Addr) (xs ys:List V),vs=[.ref a,.ref b]/\SqL K H a xs/\SqL K H b ys/\xs.length<=24/\ys.length<=60/\Q .non H
def ziF(c:C5):Sp:=fun vs H Q _=>∃(a:Addr) (ps:List Addr) (rows:List Rw),vs=[.ref a]/\H a=some (.lst (ps.map V.ref))/\Paired (PAt c H) ps rows/\(∀r∈rows,r.ok)/\xu 0 rows=true/\∀H',zm H H'->Q .non H'
def zky:Sp:=fun vs H Q _=>∃(b:Addr) (bars:List Str),vs=[.ref b]/\H b=some (.lst (bars.map V.str))/\(∀z∈bars,zR z=true)/\∀H',zm H H'->Q .non H'
def zkx(c:C5):Sp:=fun vs H Q _=>∃(a b:Addr) (ps:List Addr) (rows:List Rw) (bars:List Str),vs=[.ref a,.ref b]/\H a=some (.lst (ps.map V.ref))/\Paired (PAt c H) ps rows/\(∀r∈rows,r.ok)/\rows.length<=500/\H b=some (.lst (bars.map V.str))/\bars.length<=500/\(nms rows++bars).Nodup/\∀H',zm H H'->Q .non H'
def zkA(c:C5):Sp:=fun vs H Q _=>∃(a:Addr) (ps:List Addr) (rows:List Rw) (kk:Nat),vs=[.ref a,.str (kw kk)]/\kk<5/\H a=some (.lst (ps.map V.ref))/\Paired (PAt c H) ps rows/\(∀r∈rows,r.ok)/\∀H',zm H H'->Q (wj (zO kk 0 rows)) H'
theorem uc:∀i:Nat,i<5->∀k:Nat,k<5->decide (V.str (kw k)=V.str (kw i))=(k==i):=by decide +kernel
theorem jy{α : Type}{xs:List α}{i:Nat}{x : α}(h:xs[i]?=some x):xs.drop i=x::xs.drop (i+1):=by
 have hi:i<xs.length:=(List.getElem?_eq_some_iff.mp h).1;rw[List.drop_eq_getElem_cons hi];rw[getElem?_eq_getElem hi] at h;rw[Option.some.inj h]
theorem yV{ps:List Addr}{i:Nat}{x:V}(h:(ps.map V.ref)[i]?=some x):∃p,ps[i]?=some p/\x=.ref p:=by
 rw[getElem?_map] at h;cases e:ps[i]? with
 | none=>rw[e] at h;cases h
 | some p=>rw[e] at h;exact⟨p,rfl,(Option.some.inj h).symm⟩
theorem strs_at{zs:List Str}{i:Nat}{x:V}(h:(zs.map V.str)[i]?=some x):∃z,zs[i]?=some z/\x=.str z:=by
 rw[getElem?_map] at h;cases e:zs[i]? with
 | none=>rw[e] at h;cases h
 | some p=>rw[e] at h;exact⟨p,rfl,(Option.some.inj h).symm⟩
section
variable {P:Program}{w:World}{K:Frag}{mg:Str->Option Value}{base:Heap}{f G sg:Addr}{fd:FuncData}{c:C5}{m:MA}
def Pcs(K:Frag) (m:MA) (c:C5):Prop:=∀k,k<5->PC K m (c.at k)
theorem zhl:zu ["parameters","bars"] ["parameters","bars"] (zg zcp):=⟨rfl,rfl,rfl,by decide +kernel,rfl,by decide +kernel,by decide +kernel⟩
theorem zhT(F:Fun K "refuse_too_many" "refuse_too_many" zcp f fd) (T:zb9 w K mg G sg):zJ P w K mg base CX0 1 f fd ["parameters","bars"] (zfe K):=by
 refine F.ok zhl (fun vs H Q E h=>?_) (fun cdv A outer s H vs Q E hr h=>?_)
 ·obtain⟨a,b,xs,ys,rfl,_⟩:=h
  rfl
 obtain⟨a,b,xs,ys,rfl,ha,hb,l1,l2,q⟩:=h;obtain⟨t1,m1⟩:=T.mp;obtain⟨t2,m2⟩:=T.mb;refine⟨_,zj (zP (zo zf3 (cB zF T.len PySem.boot_len (ac (pv 0) zd)) (xz (v:=.int 24) rfl m1 ⟨_,rfl⟩) (zI _)) (ze vE) zE)
  (ze (zP (zo zf3 (cB zF T.len PySem.boot_len (ac (pv 1) zd)) (xz (v:=.int 60) rfl m2 ⟨_,rfl⟩) (zI _)) (ze vE) zE)),?_⟩
 refine⟨_,rfl,a,_,rfl,.inl ha,_,_,rfl,rfl,_,rfl,?_⟩;refine dF (by show ¬(24:Int)<(xs.length:Int);omega) ?_
 refine⟨_,rfl,b,_,rfl,.inl hb,_,_,rfl,rfl,_,rfl,?_⟩;exact dF (by show ¬(60:Int)<(ys.length:Int);omega) q
theorem wF:zu ["parameters","last","at","parameter","group"] ["parameters"] (zg zaL):=⟨rfl,rfl,rfl,by decide +kernel,rfl,by decide +kernel,by decide +kernel⟩
theorem zgg(F:Fun K "refuse_bad_order" "refuse_bad_order" zaL f fd) (T:zb9 w K mg G sg) (PP:Pcs K m c):zJ P w K mg base CX0 1 f fd ["parameters"] (ziF c):=by
 refine F.ok wF (fun vs H Q E h=>?_) (fun cdv A outer s H vs Q E hr h=>?_)
 ·obtain⟨a,ps,rows,rfl,_⟩:=h
  rfl
 obtain⟨a,ps,rows,rfl,ha,hp,hok,ho,q⟩:=h;refine⟨_,zj (zy (i:=1) wF.nd rfl (Or.inl rfl) zf)
  (ze (yW PassesOwn.never rfl (wS rfl T.en (ac (pv 0) zd)) (xf rfl (zL (zk (i:=2) wF.nd rfl (Or.inl rfl)) (zL (zk (i:=3) wF.nd rfl (Or.inl rfl)) yL)))
   (zj (zy (i:=4) wF.nd rfl (Or.inl rfl) (zhF T.gt T.mgr (y4 (pv 3) rfl)))
   (zj (zP (PW.pt (xW (zo vU (pv 4) (pv 1) (zI _)) (xD (PW.pt (xa (zo yx (pv 4) (pv 1) (zI _)) (yQ (zo yn (pv 4) (xz (v:=.ref sg) rfl T.ms rfl) (by with_unfolding_all rfl)))))))) (ze vE) zE)
   (ze (zy (i:=1) wF.nd rfl (Or.inl rfl) (pv 4))))))),?_⟩
 show uO _ _ _ _ _;refine⟨_,rfl,a,rfl,⟨_,SqL.of ha⟩,vo (K:=K) (a:=a) (xs:=ps.map V.ref) (fun i σ H'=>∃(l:Nat) (v2 v3 v4:Option V),σ=[some (.ref a),some (.int (l:Nat)),v2,v3,v4]/\zm H H'/\xu l (rows.drop i)=true)
  ⟨0,_,_,_,rfl,zm.refl _,ho⟩ (fun i σ H' _ ⟨_,_,_,_,_,sH,_⟩=>SqL.of (sH _ _ ha)) ?_ ?_⟩
 ·rintro i x p σ H' hx ⟨l,v2,v3,v4,rfl,sH,hl⟩ hpn
  obtain⟨pa,hpa,rfl⟩:=yV hx;obtain⟨r,hr',dx,hdx⟩:=yb hp hpa;have rok:=hok r (mem_of_getElem? hr');have C:=PP r.k rok.1;rw[jy hr'] at hl;have hl':(!qt l (grp r.k)&&xu (grp r.k) (rows.drop (i+1)))=true:=hl;rw[Bool.and_eq_true,Bool.not_eq_true'] at hl';obtain⟨hb,hl2⟩:=hl';have hb':(decide (grp r.k<l)||(grp r.k==l&&(grp r.k==1||grp r.k==3)))=false:=hb
  rw[Bool.or_eq_false_iff] at hb';have sp:=zc hpn (.tup [.int (i:Nat),.ref pa]);refine⟨p,_,rfl,SqT.of za,rfl,_,_,rfl,_,_,rfl,rfl,?_⟩;refine⟨_,rfl,pa,_,dx,_,_,rfl,sp _ _ (sH _ _ hdx),C.cl,C.nW,uy,kw r.k,.int (grp r.k),rfl,zia r.k rok.1,?_⟩;refine⟨_,rfl,_,rfl,_,_,rfl,rfl,_,rfl,?_⟩;refine dF (fun z=>by have:=of_decide_eq_false hb'.1;omega) ?_
  have fin:∃(l':Nat) (v2 v3 v4:Option V),([some (.ref a),some (.int (grp r.k:Nat)),some (.int (i:Nat)),some (.ref pa),some (.int (grp r.k:Nat))]:L2.St)=[some (.ref a),some (.int (l':Nat)),v2,v3,v4]/\zm H (upd H' p (.tup [.int (i:Nat),.ref pa]))/\xu l' (rows.drop (i+1))=true:=
   ⟨grp r.k,_,_,_,rfl,sH.trans sp,hl2⟩
  refine⟨_,rfl,_,rfl,rfl,_,rfl,?_⟩;by_cases e:grp r.k=l
  ·refine dT (by rw[e]) ?_
   refine⟨_,rfl,sg,_,rfl,.inr (T.hs _),rfl,(by decide),_,rfl,?_⟩
   have h13:(grp r.k==1||grp r.k==3)=false:=by
    have:=hb'.2
    rw[e] at this |-;simpa using this
   have hin:inV (.int (grp r.k:Nat)) [.int 1,.int 3]=false:=by
    have g4:=zj9 r.k
    have:∀g:Nat,g<4->(g==1||g==3)=false->inV (.int (g:Nat)) [.int 1,.int 3]=false:=by decide +kernel
    exact this _ g4 h13
   rw[show(if false=true then !inV (V.int ((grp r.k:Nat):Int)) [V.int 1,V.int 3] else inV (V.int ((grp r.k:Nat):Int)) [V.int 1,V.int 3])=false from hin]
   refine yq ?_;exact⟨_,rfl,fin⟩
  ·refine dF (fun z=>e (by have:=V.int.inj z;omega)) ?_
   exact⟨_,rfl,fin⟩
 ·rintro σ H' ⟨l,v2,v3,v4,rfl,sH,_⟩
  exact q _ sH
end
end K83
namespace L2
open PySem PySem.Spec PyProof.Rows
theorem jr{X:Cx}{K:Frag}{e:Expr}{f:Str}{pos:Pos}{ta:TE}(hK:X.K=K) (he:PE X e ta) (hb:attributeBase e f X.env (eval e X.env)=eval e X.env):PE X (.Attribute e f pos) (zks K ta f):=hK ▸ y4 he hb
end L2
namespace K83
open PySem L2 PyProof.Rows
theorem z3{n:Nat}(h:n<=1000):n<=sizeLine:=le_of_lt (zT h)
theorem zh3{rows:List Rw}{i:Nat}{r:Rw}(h:rows[i]?=some r):nms (rows.take (i+1))=nms (rows.take i)++(if yd r.k=true then [r.z] else []):=by
 have hi:i<rows.length:=(List.getElem?_eq_some_iff.mp h).1;have e:rows[i]=r:=by rw[getElem?_eq_getElem hi] at h;exact Option.some.inj h
 unfold nms;rw[take_succ_eq_append_getElem hi,filter_append,map_append,e];cases hb:yd r.k <;> simp [hb]
section
variable {P:Program}{w:World}{K:Frag}{mg:Str->Option Value}{base:Heap}{f G sg:Addr}{fd:FuncData}{c:C5}{m:MA}
theorem zck:zu ["parameters","word","at","parameter"] ["parameters","word"] (zg zfA):=⟨rfl,rfl,rfl,by decide +kernel,rfl,by decide +kernel,by decide +kernel⟩
theorem zhP(F:Fun K "number_of_word" "number_of_word" zfA f fd) (T:zb9 w K mg G sg) (PP:Pcs K m c):zJ P w K mg base CX0 1 f fd ["parameters","word"] (zkA c):=by
 refine F.ok zck (fun vs H Q E h=>?_) (fun cdv A outer s H vs Q E hr h=>?_)
 ·obtain⟨a,ps,rows,kk,rfl,_⟩:=h
  rfl
 obtain⟨a,ps,rows,kk,rfl,hkk,ha,hp,hok,q⟩:=h;refine⟨_,zj (yW PassesOwn.never rfl (wS rfl T.en (ac (pv 0) zd)) (xf rfl (zL (zk (i:=2) zck.nd rfl (Or.inl rfl)) (zL (zk (i:=3) zck.nd rfl (Or.inl rfl)) yL)))
   (ze (zP (zo yx (y4 (pv 3) rfl) (pv 1) (zI _)) (ze (zC (pv 2))) zE))) (ze (zC uT)),?_⟩
 refine⟨_,rfl,a,rfl,⟨_,SqL.of ha⟩,vo (K:=K) (a:=a) (xs:=ps.map V.ref) (fun i σ H'=>∃(v2 v3:Option V),σ=[some (.ref a),some (.str (kw kk)),v2,v3]/\zm H H'/\zO kk i (rows.drop i)=zO kk 0 rows)
  ⟨_,_,rfl,zm.refl _,rfl⟩ (fun i σ H' _ ⟨_,_,_,sH,_⟩=>SqL.of (sH _ _ ha)) ?_ ?_⟩
 ·rintro i x p σ H' hx ⟨v2,v3,rfl,sH,hl⟩ hpn
  obtain⟨pa,hpa,rfl⟩:=yV hx;obtain⟨r,hr',dx,hdx⟩:=yb hp hpa;have rok:=hok r (mem_of_getElem? hr');have C:=PP r.k rok.1;rw[jy hr'] at hl;have hl':(if r.k=kk then some i else zO kk (i+1) (rows.drop (i+1)))=zO kk 0 rows:=hl
  have sp:=zc hpn (.tup [.int (i:Nat),.ref pa]);refine⟨p,_,rfl,SqT.of za,rfl,_,_,rfl,_,_,rfl,rfl,?_⟩;refine⟨_,rfl,pa,_,dx,_,_,rfl,sp _ _ (sH _ _ hdx),C.cl,C.nW,uy,_,rfl,rfl,_,rfl,?_⟩;by_cases e:r.k=kk
  ·refine dT (by rw[e]) ?_
   rw[if_pos e] at hl';refine⟨_,rfl,?_⟩
   have:=q _ (sH.trans sp)
   rw[<- hl'] at this;exact this
  ·refine dF (fun z=>?_) ?_
   ·have h1:=uc kk hkk r.k rok.1
    rw[decide_eq_true z] at h1;exact e (by simpa using h1.symm)
   ·rw[if_neg e] at hl'
    exact⟨_,_,rfl,sH.trans sp,hl'⟩
 ·rintro σ H' ⟨v2,v3,rfl,sH,hl⟩
  have e:zO kk 0 rows=none:=by
   rw[<- hl,length_map,hp.length,drop_length];rfl
  have:=q _ sH
  rw[e] at this;exact this
theorem zdC:zu ["bars","bar"] ["bars"] (zg zcq):=⟨rfl,rfl,rfl,by decide +kernel,rfl,by decide +kernel,by decide +kernel⟩
theorem zgd{g:Addr}{gd:FuncData}(F:Fun K "refuse_bars_without_name" "refuse_bars_without_name" zcq f fd) (cI:zK P w K mg base 1 "is_name" g gd ["thing"] (zhb K)):zJ P w K mg base CX0 2 f fd ["bars"] zky:=by
 refine F.ok zdC (fun vs H Q E h=>?_) (fun cdv A outer s H vs Q E hr h=>?_)
 ·obtain⟨b,bars,rfl,_⟩:=h
  rfl
 obtain⟨b,bars,rfl,hb,hn,q⟩:=h;refine⟨_,ze (yW PassesOwn.never rfl (zM (pv 0)) (zk (i:=1) zdC.nd rfl (Or.inl rfl)) (ze (zP (xc (yr (cF cI hr (ac (pv 1) zd)))) (ze vE) zE))),?_⟩;refine⟨_,rfl,b,rfl,⟨_,SqL.of hb⟩,xn (K:=K) (a:=b) (xs:=bars.map V.str) (fun i σ H'=>∃v1,σ=[some (.ref b),v1]/\zm H H') ⟨_,rfl,zm.refl _⟩ (fun i σ H' _ ⟨_,_,sH⟩=>SqL.of (sH _ _ hb)) ?_ ?_⟩
 ·rintro i x σ H' hx ⟨v1,rfl,sH⟩
  obtain⟨z,hz,rfl⟩:=strs_at hx;have nz:=hn z (mem_of_getElem? hz);refine⟨_,rfl,_,rfl,.inl ⟨z,rfl,j8 nz⟩,fun H2 s2=>⟨_,rfl,?_⟩⟩;rw[show nmV (.str z)=true from nz];refine yq ?_;exact⟨_,rfl,sH.trans s2⟩
 ·rintro σ H' ⟨v1,rfl,sH⟩
  exact q _ sH
theorem zeD:([Str.ofString "parameter"]:List Str).Nodup:=by decide +kernel
theorem jM:zu ["parameters","bars","seen","name"] ["parameters","bars"] (zg zaK):=⟨rfl,rfl,rfl,by decide +kernel,rfl,by decide +kernel,by decide +kernel⟩
theorem zf7{gd:FuncData}(F:Fun K "refuse_twice" "refuse_twice" zaK f fd) (T:zb9 w K mg G sg) (PP:Pcs K m c) (GB:zJ P w K mg base CX0 1 m.fB gd ["self"] (jG K m bnL)) (bB:z7 K gd ["self"] []):zJ P w K mg base CX0 2 f fd ["parameters","bars"] (zkx c):=by
 refine F.ok jM (fun vs H Q E h=>?_) (fun cdv A outer s H vs Q E hr h=>?_)
 ·obtain⟨a,b,ps,rows,bars,rfl,_⟩:=h
  rfl
 obtain⟨a,b,ps,rows,bars,rfl,ha,hp,hok,l1,hb,l2,nd,q⟩:=h;have hC:∀C,Cs5 c C->Cls K C/\xp K C "by_name" m.fB:=fun C ⟨k,hk,e⟩=>by rw[e];exact⟨(PP k hk).cl,(PP k hk).mB⟩
 refine⟨_,zj (zy (i:=2) jM.nd rfl (Or.inl rfl) (zcH zeU rfl T.set (by decide +kernel:bootBuiltins "set"=some (.type "set"))))
  (ze (yW PassesOwn.never rfl (zM (zz ym (yP [] ["parameter"] [none] rfl ⟨rfl,rfl,rfl,rfl⟩ (zM (pv 0)) (zG 0) rfl rfl rfl
    (fun pins fp s H C=>⟨zk (i:=0) zeD rfl (Or.inl rfl) (.inr rfl),yk (yr (wc (pv 0) hC GB hr bB yp)),jr (K:=K) rfl (pv 0) rfl⟩)) (cTy yZ T.lst PyProof.Rows.boot_list (ac (pv 1) zd)))) (zk (i:=3) jM.nd rfl (Or.inl rfl))
   (zj (zP (zo j6 (pv 3) (pv 2) (by with_unfolding_all rfl)) (ze vE) zE)
   (ze (z6 (zhE (pv 2) (pv 3) ⟨rfl,rfl,rfl,rfl⟩)))))),?_⟩
 refine⟨rfl,fun se hse=>?_⟩;have s1:zm H (upd H se (wv P w se (fun _=>false) 0)):=zc hse _;have g1:upd H se (wv P w se (fun _=>false) 0) se=some (wv P w se (fun _=>false) 0):=za;show uO _ _ _ _ (upd H se (wv P w se (fun _=>false) 0));generalize upd H se (wv P w se (fun _=>false) 0)=H1 at s1 g1 |-;have ha1:=s1 _ _ ha;have hp1:=yG s1 hp;refine⟨_,rfl,a,rfl,⟨_,SqL.of ha1⟩,fun D hD=>?_⟩;refine wV (K:=K) (xs:=ps.map V.ref) (fun i ys H'=>zm H1 H'/\H' D=some (.lst ys)/\ys=(nms (rows.take i)).map V.str) ⟨zc hD _,za,rfl⟩ (fun i ys H' h=>SqL.of (h.1 _ _ ha1)) ?_ ?_
 ·rintro i x ys H' hlt hx ⟨sH,hDy,ey⟩
  obtain⟨pa,hpa,rfl⟩:=yV hx;obtain⟨r,hr',dx,hdx⟩:=yb hp1 hpa;have rok:=hok r (mem_of_getElem? hr');have C:=PP r.k rok.1;have nl:ys.length<=i:=by
   rw[ey,length_map];unfold nms;rw[length_map];refine Nat.le_trans (length_filter_le _ _) ?_;rw[length_take];omega
  have hd2:=sH _ _ hdx;refine⟨_,rfl,pa,_,dx,_,rfl,⟨r.k,rok.1,rfl⟩,hd2,uz (by decide +kernel) (by decide +kernel) (by decide +kernel),pa,dx,_,_,_,_,rfl,C,hd2,_,rfl,?_⟩
  rw[zab r.k rok.1];have tk:=zh3 hr';refine⟨fun e=>?_,fun e=>?_⟩
  ·rw[e,if_pos rfl] at tk
   refine⟨_,rfl,pa,_,dx,_,_,rfl,hd2,C.cl,C.nN,vG,?_⟩;refine lcN.mk hlt (z3 (by rw[length_map,hp.length];omega)) hDy nl ⟨fun b u e=>?_,za,?_⟩
   ·rw[zh (zi e hD)]
    exact sH b u e
   ·rw[ey,tk,map_append]
    rfl
  ·rw[e,if_neg Bool.false_ne_true,append_nil] at tk
   exact lcS.mk hlt ⟨sH,hDy,by rw[ey,tk]⟩
 rintro ys H2 ⟨s2,hDy,ey⟩;have ey:ys=(nms rows).map V.str:=by
  rw[ey,length_map,hp.length,take_length]
 subst ey;have hb2:=s2 _ _ (s1 _ _ hb);refine⟨_,rfl,b,_,rfl,.inl (SqL.of hb2),fun l hl=>?_⟩;have s3:=zc hl (.lst (bars.map V.str));have g3:upd H2 l (.lst (bars.map V.str)) l=some (.lst (bars.map V.str)):=za;generalize upd H2 l (.lst (bars.map V.str))=H3 at s3 g3 |-;have ln:(nms rows).length<=500:=by
  unfold nms;rw[length_map];exact Nat.le_trans (length_filter_le _ _) l1
 refine⟨D,l,_,_,rfl,rfl,s3 _ _ hDy,g3,z3 (by rw[length_map,length_map];omega),fun l4 hl4=>?_⟩
 rw[<- map_append];have s4:=zc hl4 (.lst ((nms rows++bars).map V.str));have g4:upd H3 l4 (.lst ((nms rows++bars).map V.str)) l4=some (.lst ((nms rows++bars).map V.str)):=za;have nse:l4≠se:=fun z=>by
  rw[z] at hl4;rw[s3 _ _ (s2 _ _ g1)] at hl4;cases hl4
 generalize upd H3 l4 (.lst ((nms rows++bars).map V.str))=H4 at s4 g4 |-;have sA:zm H1 H4:=s2.trans (s3.trans s4);have gse:=sA _ _ g1;refine⟨l4,rfl,⟨_,SqL.of g4⟩,xn (K:=K) (a:=l4) (xs:=(nms rows++bars).map V.str) (fun i σ H'=>∃(S:Str->Bool) (n:Nat) (v3:Option V),σ=[some (.ref a),some (.ref b),some (.ref se),v3]/\H' se=some (wv P w se S n)/\(∀z,S z=decide (z∈(nms rows++bars).take i))/\n<=i/\(∀b' u,H4 b'=some u->b'≠se->H' b'=some u))
  ⟨_,0,_,rfl,gse,fun z=>by simp,Nat.le_refl _,fun b' u e _=>e⟩ (fun i σ H' _ ⟨_,_,_,_,_,_,_,k⟩=>SqL.of (k _ _ g4 nse)) ?_ ?_⟩
 ·rintro i x σ H' hx ⟨S,n,v3,rfl,hS,hSz,hn,k⟩
  obtain⟨z,hz,rfl⟩:=strs_at hx;have hi:i<(nms rows++bars).length:=(List.getElem?_eq_some_iff.mp hz).1;have ez:(nms rows++bars)[i]=z:=by rw[getElem?_eq_getElem hi] at hz;exact Option.some.inj hz
  have nz:S z=false:=by
   rw[hSz,decide_eq_false_iff_not];intro hm;obtain⟨j,hj,ej⟩:=List.mem_take_iff_getElem.mp hm
   have:=List.pairwise_iff_getElem.mp nd j i (by omega) hi (by omega)
   exact this (ej.trans ez.symm)
  refine⟨_,rfl,_,rfl,se,S,n,z,rfl,rfl,hS,_,rfl,?_⟩;rw[nz];refine yq ?_;refine⟨_,rfl,se,S,n,rfl,hS,_,rfl,S,n,z,rfl,hS,?_,?_⟩
  ·rw[length_append] at hi
   show n+1<4096;omega
  ·refine⟨_,_,_,rfl,za,fun y=>?_,?_,fun b' u e ne=>?_⟩
   ·rw[hSz y,take_succ_eq_append_getElem hi,ez]
    simp [mem_append]
   ·rw[nz]
    show n+1<=i+1;omega
   ·rw[zh ne]
    exact k b' u e ne
 ·rintro σ H' ⟨S,n,v3,rfl,hS,hSz,hn,k⟩
  refine q _ fun b' u e=>k b' u (sA _ _ (s1 _ _ e)) fun z=>?_;rw[z,hse] at e;cases e
end
def SX(f:Addr) (H H':Hp):Prop:=∀b u,H b=some u->b≠f->H' b=some u
theorem SX.same{f:Addr}{H H1 H2:Hp}(x:SX f H H1) (s:zm H1 H2):SX f H H2:=fun b u e n=>s b u (x b u e n)
theorem SX.upd{f:Addr}{H H1:Hp}{o:HO}(x:SX f H H1):SX f H (upd H1 f o):=fun b u e n=>by rw[zh n];exact x b u e n
theorem SX.refl{f:Addr}{H:Hp}:SX f H H:=fun _ _ e _=>e
theorem wO(f:Str) (v:V):∀fs:List (Str×V),(z8 f v fs).length<=fs.length+1
 | []=>Nat.le_refl _
 | (g,x)::r=>by
  show(if g=f then (g,v)::r else (g,x)::z8 f v r).length<=_
  split
  ·simp
  ·have:=wO f v r
   simp only[length_cons];omega
def Pre(fs:List (Str×V)):Prop:=fs.length<=50/\∀m,m∉zg1->fs.lookup m=none
structure FC(K:Frag) (CF:Addr):Prop where
 cl:Cls K CF
 n1:xt K CF "row"
 n2:xt K CF "bar_names"
 n3:xt K CF "place_count"
 n4:xt K CF "tail_number"
 n5:xt K CF "bag_number"
 n6:xt K CF "doors"
def zfg(c:C5) (CF:Addr):Sp:=fun vs H Q _=>∃(f a b dx:Addr) (fs:List (Str×V)) (ps:List Addr) (rows:List Rw) (bars:List Str),vs=[.ref f,.ref a,.ref b]/\H f=some (.ins CF dx fs)/\Pre fs/\H a=some (.lst (ps.map V.ref))/\Paired (PAt c H) ps rows/\(∀r∈rows,r.ok)/\rows.length<=500/\H b=some (.lst (bars.map V.str))/\
 ∀H',SX f H H'->zcc c CF H H' f rows bars->(∃dx' fs',H' f=some (.ins CF dx' fs')/\fs'.length<=fs.length+6)->Q .non H'
theorem zhC{rows:List Rw}{i:Nat}{r:Rw}(h:rows[i]?=some r):plN (rows.take (i+1))=plN (rows.take i)+(if wm r.k=true then 1 else 0):=by
 have hi:i<rows.length:=(List.getElem?_eq_some_iff.mp h).1;have e:rows[i]=r:=by rw[getElem?_eq_getElem hi] at h;exact Option.some.inj h
 unfold plN;rw[take_succ_eq_append_getElem hi,filter_append,length_append,e];cases hb:wm r.k <;> simp [hb]
theorem zah:∀(rows:List Rw) (i:Nat) (acc:List (Key×V)),(yY i acc rows).length<=acc.length+rows.length
 | [],_,_=>Nat.le_refl _
 | r::rs,i,acc=>by
  have h:=zah rs (i+1) (if yd r.k=true then xb acc (.inr r.z) (.int i) else acc)
  have h2:(if yd r.k=true then xb acc (.inr r.z) (.int i) else acc).length<=acc.length+1:=by
   split
   ·exact xM acc _ _
   ·omega
  show(yY (i+1) _ rs).length<=acc.length+(rs.length+1);omega
theorem jh{r:Rw}:∀(rows:List Rw) (j i:Nat) (acc:List (Key×V)),rows[i]?=some r->yY j acc (rows.take (i+1))=(if yd r.k=true then xb (yY j acc (rows.take i)) (.inr r.z) (.int (j+i:Nat)) else yY j acc (rows.take i))
 | [],_,_,_,h=>by simp at h
 | r0::rs,j,0,acc,h=>by
  have e:r0=r:=by simpa using h
  subst e;show(if yd r0.k=true then xb acc (.inr r0.z) (.int j) else acc)=_
  rfl
 | r0::rs,j,i+1,acc,h=>by
  have:=jh rs (j+1) i (if yd r0.k=true then xb acc (.inr r0.z) (.int j) else acc) (by simpa using h)
  show yY (j+1) _ (rs.take (i+1))=_;rw[this,show j+1+i=j+(i+1) by omega]
  rfl
section
variable {P:Program}{w:World}{K:Frag}{mg:Str->Option Value}{base:Heap}{f G sg CF:Addr}{fd:FuncData}{c:C5}{m:MA}
theorem PAt.ne{H:Hp}{p f CF dx:Addr}{r:Rw}{fs:List (Str×V)}(h:PAt c H p r) (e:H f=some (.ins CF dx fs)) (n:fs.lookup ("word" : Str)=none):p≠f:=fun z=>by
 obtain⟨d,h⟩:=h;rw[z,e] at h;injection h with h
 injection h with h1 h2 h3
 rw[h3,uy] at n;cases n
theorem uA{H H':Hp}{f CF dx:Addr}{fs:List (Str×V)}(e:H f=some (.ins CF dx fs)) (n:fs.lookup ("word" : Str)=none) (x:SX f H H') {ps:List Addr}{rows:List Rw}(h:Paired (PAt c H) ps rows):Paired (PAt c H') ps rows:=
 Paired.imp' (fun _ _ z=>by
  have ne:=z.ne e n;obtain⟨d,q⟩:=z;exact⟨d,x _ _ q ne⟩) h
theorem zkW:([Str.ofString "at",Str.ofString "parameter"]:List Str).Nodup:=by decide +kernel
theorem zji:zu ["self","parameters","bars"] ["self","parameters","bars"] (zg zfE):=⟨rfl,rfl,rfl,by decide +kernel,rfl,by decide +kernel,by decide +kernel⟩
theorem zhV{g:Addr}{gd gp gb:FuncData}(F:Fun K "keep" "Form.keep" zfE f fd) (T:zb9 w K mg G sg) (PP:Pcs K m c) (FK:FC K CF) (cW:zK P w K mg base 1 "number_of_word" g gd ["parameters","word"] (zkA c))
  (GP:zJ P w K mg base CX0 1 m.fP gp ["self"] (jG K m bpL)) (bP:z7 K gp ["self"] []) (GB:zJ P w K mg base CX0 1 m.fB gb ["self"] (jG K m bnL)) (bB:z7 K gb ["self"] []):zJ P w K mg base CX0 2 f fd ["self","parameters","bars"] (zfg c CF):=by
 refine F.ok zji (fun vs H Q E h=>?_) (fun cdv A outer s H vs Q E hr h=>?_)
 ·obtain⟨f,a,b,dx,fs,ps,rows,bars,rfl,_⟩:=h
  rfl
 obtain⟨f,a,b,dx,fs,ps,rows,bars,rfl,hf,⟨pl,pn⟩,ha,hp,hok,l5,hb,q⟩:=h;have hP:∀C,Cs5 c C->Cls K C/\xp K C "by_place" m.fP:=fun C ⟨k,hk,e⟩=>by rw[e];exact⟨(PP k hk).cl,(PP k hk).mP⟩
 have hB:∀C,Cs5 c C->Cls K C/\xp K C "by_name" m.fB:=fun C ⟨k,hk,e⟩=>by rw[e];exact⟨(PP k hk).cl,(PP k hk).mB⟩
 have nw:fs.lookup ("word" : Str)=none:=pn _ (by decide +kernel)
 refine⟨_,zj (wP (pv 0) (cTy yZ T.lst PyProof.Rows.boot_list (ac (pv 1) zd)) rfl)
  (zj (wP (pv 0) (cTy yZ T.lst PyProof.Rows.boot_list (ac (pv 2) zd)) rfl)
  (zj (wP (pv 0) (cB zF T.len PySem.boot_len (ac (yP [] ["parameter"] [none] rfl ⟨rfl,rfl,rfl,rfl⟩ (zM (y4 (pv 0) rfl)) (zG 0) rfl rfl rfl
    (fun pins fp s H C=>⟨zk (i:=0) zeD rfl (Or.inl rfl) (.inr rfl),yk (yr (wc (pv 0) hP GP hr bP yp)),pv 0⟩)) zd)) rfl)
  (zj (wP (pv 0) (cF cW hr (ac (y4 (pv 0) rfl) (ac zD zd))) rfl)
  (zj (wP (pv 0) (cF cW hr (ac (y4 (pv 0) rfl) (ac zD zd))) rfl)
  (ze (wP (pv 0) (zkK [] ["at","parameter"] [none,none] rfl ⟨rfl,rfl,rfl,rfl⟩ (wS rfl T.en (ac (y4 (pv 0) rfl) zd)) (u5 (K:=K) (n:=2) 0 1) rfl rfl rfl
    (fun pins fp s H C=>⟨xf rfl (zL (zk (i:=0) zkW rfl (Or.inl rfl) (.inr rfl)) (zL (zk (i:=1) zkW rfl (Or.inl rfl) (.inr rfl)) yL)),yk (yr (wc (pv 1) hB GB hr bB yp)),jr (K:=K) rfl (pv 1) rfl,pv 0⟩)) rfl)))))),?_⟩
 refine⟨_,rfl,a,_,rfl,.inl (SqL.of ha),fun l1 hl1=>?_⟩;have s1:=zc hl1 (.lst (ps.map V.ref));refine⟨_,rfl,f,CF,dx,fs,rfl,s1 _ _ hf,FK.cl,FK.n1,(by omega),?_⟩
 have x1:SX f H (upd (upd H l1 (.lst (ps.map V.ref))) f (.ins CF dx (z8 "row" (.ref l1) fs))):=(SX.refl.same s1).upd;have f1:upd (upd H l1 (.lst (ps.map V.ref))) f (.ins CF dx (z8 "row" (.ref l1) fs)) f=some (.ins CF dx (z8 "row" (.ref l1) fs)):=za;have e1:upd (upd H l1 (.lst (ps.map V.ref))) f (.ins CF dx (z8 "row" (.ref l1) fs)) l1=some (.lst (ps.map V.ref)):=by
  rw[zh (fun z=>by rw[z,hf] at hl1;cases hl1),za]
 have p1:=wO "row" (.ref l1) fs;have r1:(z8 "row" (.ref l1) fs).lookup ("row" : Str)=some (.ref l1):=by rw[zq,if_pos rfl]
 show uO _ _ _ _ (upd (upd H l1 (.lst (ps.map V.ref))) f (.ins CF dx (z8 "row" (.ref l1) fs)));generalize upd (upd H l1 (.lst (ps.map V.ref))) f (.ins CF dx (z8 "row" (.ref l1) fs))=H1 at x1 f1 e1 |-;have nbf:b≠f:=xY hb hf (by intro z;cases z)
 refine⟨_,rfl,b,_,rfl,.inl (SqL.of (x1 _ _ hb nbf)),fun l2 hl2=>?_⟩;have s2:=zc hl2 (.lst (bars.map V.str));have hlb:H l2=none:=by
  cases e:H l2 with
  | none=>rfl
  | some u=>exact absurd (x1 _ _ e (fun z=>by rw[z,f1] at hl2;cases hl2)) (by rw[hl2];intro z;cases z)
 refine⟨_,rfl,f,CF,dx,_,rfl,s2 _ _ f1,FK.cl,FK.n2,(by omega),?_⟩
 have x2:SX f H (upd (upd H1 l2 (.lst (bars.map V.str))) f (.ins CF dx (z8 "bar_names" (.ref l2) (z8 "row" (.ref l1) fs)))):=(x1.same s2).upd;have f2:upd (upd H1 l2 (.lst (bars.map V.str))) f (.ins CF dx (z8 "bar_names" (.ref l2) (z8 "row" (.ref l1) fs))) f=some (.ins CF dx (z8 "bar_names" (.ref l2) (z8 "row" (.ref l1) fs))):=za;have g2:upd (upd H1 l2 (.lst (bars.map V.str))) f (.ins CF dx (z8 "bar_names" (.ref l2) (z8 "row" (.ref l1) fs))) l2=some (.lst (bars.map V.str)):=by
  rw[zh (fun z=>by rw[z,f1] at hl2;cases hl2),za]
 have e2:upd (upd H1 l2 (.lst (bars.map V.str))) f (.ins CF dx (z8 "bar_names" (.ref l2) (z8 "row" (.ref l1) fs))) l1=some (.lst (ps.map V.ref)):=by
  rw[zh (xY e1 f1 (by intro z;cases z)),s2 _ _ e1]
 have p2:=wO "bar_names" (.ref l2) (z8 "row" (.ref l1) fs);have r2:(z8 "bar_names" (.ref l2) (z8 "row" (.ref l1) fs)).lookup ("row" : Str)=some (.ref l1):=by rw[zq,if_neg (by decide +kernel)];exact r1
 show uO _ _ _ _ (upd (upd H1 l2 (.lst (bars.map V.str))) f (.ins CF dx (z8 "bar_names" (.ref l2) (z8 "row" (.ref l1) fs))));generalize hfs2:z8 "bar_names" (.ref l2) (z8 "row" (.ref l1) fs)=fs2 at f2 e2 g2 p2 r2 x2 |-;generalize upd (upd H1 l2 (.lst (bars.map V.str))) f (.ins CF dx fs2)=H2 at x2 f2 e2 g2 |-;have hp2:=uA hf nw x2 hp;refine⟨_,rfl,f,CF,dx,_,_,rfl,f2,FK.cl,FK.n1,r2,l1,rfl,⟨_,SqL.of e2⟩,fun D hD=>?_⟩;refine wV (K:=K) (xs:=ps.map V.ref) (fun i ys H'=>zm H2 H'/\H' D=some (.lst ys)/\ys.length=plN (rows.take i)) ⟨zc hD _,za,rfl⟩ (fun i ys H' h=>SqL.of (h.1 _ _ e2)) ?_ ?_
 ·rintro i x ys H' hlt hx ⟨sH,hDy,ey⟩
  obtain⟨pa,hpa,rfl⟩:=yV hx;obtain⟨r,hr',dx',hdx⟩:=yb hp2 hpa;have rok:=hok r (mem_of_getElem? hr');have C:=PP r.k rok.1;have nl:ys.length<=i:=by
   rw[ey];unfold plN;refine Nat.le_trans (length_filter_le _ _) ?_;rw[length_take];omega
  have hd2:=sH _ _ hdx;refine⟨_,rfl,pa,_,dx',_,rfl,⟨r.k,rok.1,rfl⟩,hd2,uz (by decide +kernel) (by decide +kernel) (by decide +kernel),pa,dx',_,_,_,_,rfl,C,hd2,_,rfl,?_⟩
  rw[zgE r.k rok.1];have tk:=zhC hr';refine⟨fun e=>?_,fun e=>?_⟩
  ·rw[e,if_pos rfl] at tk
   refine⟨_,rfl,lcN.mk hlt (z3 (by rw[length_map,hp.length];omega)) hDy nl ⟨fun b u e=>?_,za,?_⟩⟩
   ·rw[zh (zi e hD)]
    exact sH b u e
   ·rw[length_append,ey,tk]
    rfl
  ·rw[e,if_neg Bool.false_ne_true] at tk
   exact lcS.mk hlt ⟨sH,hDy,by rw[ey,tk];rfl⟩
 rintro ys H3 ⟨s3,hDy,ey⟩;rw[length_map,hp.length,take_length] at ey;refine⟨D,_,rfl,.inl (SqL.of hDy),?_⟩;rw[ey];have x3:=x2.same s3;refine⟨_,rfl,f,CF,dx,_,rfl,s3 _ _ f2,FK.cl,FK.n3,(by omega),?_⟩
 have f3:upd H3 f (.ins CF dx (z8 "place_count" (.int (plN rows:Nat)) fs2)) f=some (.ins CF dx (z8 "place_count" (.int (plN rows:Nat)) fs2)):=za;have x4:SX f H (upd H3 f (.ins CF dx (z8 "place_count" (.int (plN rows:Nat)) fs2))):=x3.upd;have e4:upd H3 f (.ins CF dx (z8 "place_count" (.int (plN rows:Nat)) fs2)) l1=some (.lst (ps.map V.ref)):=by rw[zh (xY e2 f2 (by intro z;cases z))];exact s3 _ _ e2
 have g4:upd H3 f (.ins CF dx (z8 "place_count" (.int (plN rows:Nat)) fs2)) l2=some (.lst (bars.map V.str)):=by rw[zh (xY g2 f2 (by intro z;cases z))];exact s3 _ _ g2
 have p3:=wO "place_count" (.int (plN rows:Nat)) fs2;have r3:(z8 "place_count" (.int (plN rows:Nat)) fs2).lookup ("row" : Str)=some (.ref l1):=by rw[zq,if_neg (by decide +kernel)];exact r2
 show uO _ _ _ _ (upd H3 f (.ins CF dx (z8 "place_count" (.int (plN rows:Nat)) fs2)));generalize hfs3:z8 "place_count" (.int (plN rows:Nat)) fs2=fs3 at f3 x4 e4 g4 p3 r3 |-;generalize upd H3 f (.ins CF dx fs3)=H4 at x4 f3 e4 g4 |-;refine⟨_,rfl,f,CF,dx,_,_,rfl,f3,FK.cl,FK.n1,r3,l1,ps,rows,2,rfl,by decide,e4,uA hf nw x4 hp,hok,fun H5 s5=>?_⟩
 refine⟨_,rfl,f,CF,dx,_,rfl,s5 _ _ f3,FK.cl,FK.n4,(by omega),?_⟩
 have f5:upd H5 f (.ins CF dx (z8 "tail_number" (wj (zO 2 0 rows)) fs3)) f=some (.ins CF dx (z8 "tail_number" (wj (zO 2 0 rows)) fs3)):=za;have x5:SX f H (upd H5 f (.ins CF dx (z8 "tail_number" (wj (zO 2 0 rows)) fs3))):=(x4.same s5).upd;have e5:upd H5 f (.ins CF dx (z8 "tail_number" (wj (zO 2 0 rows)) fs3)) l1=some (.lst (ps.map V.ref)):=by rw[zh (xY e4 f3 (by intro z;cases z))];exact s5 _ _ e4
 have g5:upd H5 f (.ins CF dx (z8 "tail_number" (wj (zO 2 0 rows)) fs3)) l2=some (.lst (bars.map V.str)):=by rw[zh (xY g4 f3 (by intro z;cases z))];exact s5 _ _ g4
 have p4:=wO "tail_number" (wj (zO 2 0 rows)) fs3;have r4:(z8 "tail_number" (wj (zO 2 0 rows)) fs3).lookup ("row" : Str)=some (.ref l1):=by rw[zq,if_neg (by decide +kernel)];exact r3
 show uO _ _ _ _ (upd H5 f (.ins CF dx (z8 "tail_number" (wj (zO 2 0 rows)) fs3)));generalize hfs4:z8 "tail_number" (wj (zO 2 0 rows)) fs3=fs4 at f5 x5 e5 g5 p4 r4 |-;generalize upd H5 f (.ins CF dx fs4)=H6 at x5 f5 e5 g5 |-;refine⟨_,rfl,f,CF,dx,_,_,rfl,f5,FK.cl,FK.n1,r4,l1,ps,rows,4,rfl,by decide,e5,uA hf nw x5 hp,hok,fun H7 s7=>?_⟩
 refine⟨_,rfl,f,CF,dx,_,rfl,s7 _ _ f5,FK.cl,FK.n5,(by omega),?_⟩
 have f7:upd H7 f (.ins CF dx (z8 "bag_number" (wj (zO 4 0 rows)) fs4)) f=some (.ins CF dx (z8 "bag_number" (wj (zO 4 0 rows)) fs4)):=za;have x7:SX f H (upd H7 f (.ins CF dx (z8 "bag_number" (wj (zO 4 0 rows)) fs4))):=(x5.same s7).upd;have e7:upd H7 f (.ins CF dx (z8 "bag_number" (wj (zO 4 0 rows)) fs4)) l1=some (.lst (ps.map V.ref)):=by rw[zh (xY e5 f5 (by intro z;cases z))];exact s7 _ _ e5
 have g7:upd H7 f (.ins CF dx (z8 "bag_number" (wj (zO 4 0 rows)) fs4)) l2=some (.lst (bars.map V.str)):=by rw[zh (xY g5 f5 (by intro z;cases z))];exact s7 _ _ g5
 have p5:=wO "bag_number" (wj (zO 4 0 rows)) fs4;have r5:(z8 "bag_number" (wj (zO 4 0 rows)) fs4).lookup ("row" : Str)=some (.ref l1):=by rw[zq,if_neg (by decide +kernel)];exact r4
 generalize hfs5:z8 "bag_number" (wj (zO 4 0 rows)) fs4=fs5 at f7 x7 e7 g7 p5 r5 |-;generalize upd H7 f (.ins CF dx fs5)=H8 at x7 f7 e7 g7 |-;have hp8:=uA hf nw x7 hp;refine⟨_,rfl,f,CF,dx,_,_,rfl,f7,FK.cl,FK.n1,r5,l1,rfl,⟨_,SqL.of e7⟩,fun D2 hD2=>?_⟩;refine zik (K:=K) (xs:=ps.map V.ref) (fun i ys H'=>zm H8 H'/\H' D2=some (.dK ys)/\ys=yY 0 [] (rows.take i)) ⟨zc hD2 _,za,rfl⟩ (fun i ys H' h=>SqL.of (h.1 _ _ e7)) ?_ ?_
 ·rintro i x p ys H' hlt hx ⟨sH,hDy,ey⟩ hpn
  obtain⟨pa,hpa,rfl⟩:=yV hx;obtain⟨r,hr',dx',hdx⟩:=yb hp8 hpa;have rok:=hok r (mem_of_getElem? hr');have C:=PP r.k rok.1;have sp:=zc hpn (.tup [.int (i:Nat),.ref pa]);have hd2:=sp _ _ (sH _ _ hdx);have hDp:upd H' p (.tup [.int (i:Nat),.ref pa]) D2=some (.dK ys):=by rw[zh (zi hDy hpn)];exact hDy
  have nl:ys.length<=i:=by
   rw[ey];refine Nat.le_trans (zah _ _ _) ?_;rw[length_take];show 0+_<=i;omega
  refine⟨p,_,rfl,SqT.of za,rfl,_,_,rfl,_,_,rfl,rfl,?_⟩;refine⟨_,rfl,pa,_,dx',_,rfl,⟨r.k,rok.1,rfl⟩,hd2,uz (by decide +kernel) (by decide +kernel) (by decide +kernel),pa,dx',_,_,_,_,rfl,C,hd2,_,rfl,?_⟩
  rw[zab r.k rok.1];have tk:=jh rows 0 i [] hr';refine⟨fun e=>?_,fun e=>?_⟩
  ·rw[e,if_pos rfl] at tk
   refine⟨_,rfl,pa,_,dx',_,_,rfl,hd2,C.cl,C.nN,vG,_,rfl,dcN.mk (.inr r.z) hlt rfl (z3 (by rw[length_map,hp.length];omega)) hDp nl ⟨fun b u e=>?_,za,?_⟩⟩
   ·rw[zh (zi e hD2)]
    exact sp _ _ (sH b u e)
   ·rw[tk,<- ey,Nat.zero_add]
  ·rw[e,if_neg Bool.false_ne_true] at tk
   exact dcS.mk hlt ⟨sH.trans sp,hDp,by rw[ey,tk]⟩
 rintro ys H9 ⟨s9,hDy,ey⟩;rw[length_map,hp.length,take_length] at ey;refine⟨_,rfl,f,CF,dx,_,rfl,s9 _ _ f7,FK.cl,FK.n6,(by omega),?_⟩
 have nf:∀{x:Addr}{o:HO},H9 x=some o->(∀C d g,o≠.ins C d g)->upd H9 f (.ins CF dx (z8 "doors" (.ref D2) fs5)) x=some o:=fun {x o} e n=>by
  rw[zh (xY e (s9 _ _ f7) (by intro z;exact n _ _ _ z))]
  exact e
 refine q _ (x7.same s9).upd ⟨dx,_,l1,l2,D2,ps,za,?_,nf (s9 _ _ e7) (by intro _ _ _ z;cases z),uA hf nw (x7.same s9).upd hp,nf (s9 _ _ g7) (by intro _ _ _ z;cases z),nf (by rw[hDy,ey]) (by intro _ _ _ z;cases z),hl1,hlb⟩ ⟨dx,_,za,Nat.le_trans (wO _ _ _) (by omega)⟩
 rw[<- hfs5,<- hfs4,<- hfs3,<- hfs2];refine⟨?_,?_,?_,?_,?_,?_,fun mm hm=>?_⟩
 ·rw[zq,if_neg (by decide +kernel),zq,if_neg (by decide +kernel),zq,if_neg (by decide +kernel),zq,if_neg (by decide +kernel),zq,if_neg (by decide +kernel),zq,if_pos rfl]
 ·rw[zq,if_neg (by decide +kernel),zq,if_neg (by decide +kernel),zq,if_neg (by decide +kernel),zq,if_neg (by decide +kernel),zq,if_pos rfl]
 ·rw[zq,if_neg (by decide +kernel),zq,if_neg (by decide +kernel),zq,if_neg (by decide +kernel),zq,if_pos rfl]
 ·rw[zq,if_neg (by decide +kernel),zq,if_neg (by decide +kernel),zq,if_pos rfl]
 ·rw[zq,if_neg (by decide +kernel),zq,if_pos rfl]
 ·rw[zq,if_pos rfl]
 ·have h':∀a∈zg1,¬mm=a:=fun a ha e=>hm (e ▸ ha)
  rw[zq,if_neg (h' _ (by decide +kernel)),zq,if_neg (h' _ (by decide +kernel)),zq,if_neg (h' _ (by decide +kernel)),zq,if_neg (h' _ (by decide +kernel)),zq,if_neg (h' _ (by decide +kernel)),zq,if_neg (h' _ (by decide +kernel))]
  exact pn mm hm
end
def zkB(c:C5) (CF:Addr):Sp:=fun vs H Q _=>∃(f a dx:Addr) (bv:V) (ps:List Addr) (rows:List Rw) (bars:List Str),vs=[.ref f,.ref a,bv]/\H f=some (.ins CF dx [])/\H a=some (.lst (ps.map V.ref))/\Paired (PAt c H) ps rows/\((bv=.non/\bars=[])\/∃b,bv=.ref b/\H b=some (.lst (bars.map V.str)))/\jk rows bars/\
 ∀H',SX f H H'->zcc c CF H H' f rows bars->(∃dx' fs',H' f=some (.ins CF dx' fs')/\fs'.length<=6)->Q .non H'
def zau(c:C5) (CF:Addr):Sp:=fun vs H Q _=>∃(f:Addr) (rows:List Rw) (bars:List Str),vs=[.ref f]/\xH c CF H f rows bars/\∀(l:Addr) (ps:List Addr) (H':Hp),zm H H'->H l=none->H' l=some (.lst (ps.map V.ref))->Paired (PAt c H') ps rows->Q (.ref l) H'
def zay(c:C5) (CF:Addr):Sp:=fun vs H Q _=>∃(f:Addr) (rows:List Rw) (bars:List Str),vs=[.ref f]/\xH c CF H f rows bars/\∀(l:Addr) (H':Hp),zm H H'->H l=none->H' l=some (.lst (bars.map V.str))->Q (.ref l) H'
def wE(c:C5) (CF:Addr):Sp:=fun vs H Q _=>∃(f:Addr) (rows:List Rw) (bars:List Str),vs=[.ref f]/\xH c CF H f rows bars/\Q (.int (plN rows:Nat)) H
def vc(c:C5) (CF:Addr) (kk:Nat):Sp:=fun vs H Q _=>∃(f:Addr) (rows:List Rw) (bars:List Str),vs=[.ref f]/\xH c CF H f rows bars/\Q (wj (zO kk 0 rows)) H
def zfb(c:C5) (CF:Addr):Sp:=fun vs H Q _=>∃(f:Addr) (z:Str) (rows:List Rw) (bars:List Str),vs=[.ref f,.str z]/\xH c CF H f rows bars/\Q ((z5 (yY 0 [] rows) (.inr z)).getD .non) H
def TAt(H:Hp) (u:Addr) (r:Rw):Prop:=H u=some (.tup (rv r))
theorem zr{H H':Hp}{us:List Addr}{rows:List Rw}(s:zm H H') (h:Paired (TAt H) us rows):Paired (TAt H') us rows:=Paired.imp' (fun _ _ z=>s _ _ z) h
section
variable {P:Program}{w:World}{K:Frag}{mg:Str->Option Value}{base:Heap}{f G sg CF:Addr}{fd:FuncData}{c:C5}{m:MA}
theorem zdE:zu ["self","parameters","bars","names"] ["self","parameters","bars"] (zg zcw):=⟨rfl,rfl,rfl,by decide +kernel,rfl,by decide +kernel,by decide +kernel⟩
theorem zgn{ds:List Value}{g1 g2 g3 g4 g5:Addr}{e1 e2 e3 e4 e5:FuncData}(F:qE K "__init__" "Form.__init__" zcw f fd ds) (FK:FC K CF) (mK:xp K CF "keep" g5)
  (cM:zK P w K mg base 1 "refuse_too_many" g1 e1 ["parameters","bars"] (zfe K)) (cO:zK P w K mg base 1 "refuse_bad_order" g2 e2 ["parameters"] (ziF c)) (cB':zK P w K mg base 2 "refuse_bars_without_name" g3 e3 ["bars"] zky) (cT:zK P w K mg base 2 "refuse_twice" g4 e4 ["parameters","bars"] (zkx c))
  (GK:zJ P w K mg base CX0 2 g5 e5 ["self","parameters","bars"] (zfg c CF)) (bK:z7 K e5 ["self","parameters","bars"] []):zJ P w K mg base CX0 3 f fd ["self","parameters","bars"] (zkB c CF):=by
 refine F.ok zdE (fun vs H Q E h=>?_) (fun cdv A outer s H vs Q E hr h=>?_)
 ·obtain⟨f,a,dx,bv,ps,rows,bars,rfl,_⟩:=h
  rfl
 obtain⟨f,a,dx,bv,ps,rows,bars,rfl,hf,ha,hp,hb,V',q⟩:=h;have hr1:yw 1 _:=hr.mono (by decide)
 refine⟨_,zj (zy (i:=3) zdE.nd rfl (Or.inl rfl) (j0 (xE (xQ (pv 2))) (zW zd) (pv 2)))
  (zj (z6 (cF cM hr1 (ac (pv 1) (ac (pv 3) zd))))
  (zj (z6 (cF cO hr1 (ac (pv 1) zd)))
  (zj (z6 (cF cB' hr (ac (pv 3) zd)))
  (zj (z6 (cF cT hr (ac (pv 1) (ac (pv 3) zd))))
  (ze (z6 (zdK (pv 0) FK.cl mK GK hr bK .nil yp (ac (pv 1) (ac (pv 3) zd))))))))),?_⟩
 try dsimp only
 refine yB (fun σ' H'=>∃b,σ'=[some (.ref f),some (.ref a),some bv,some (.ref b)]/\zm H H'/\H' b=some (.lst (bars.map V.str))) ?_ (fun key=>?_);rotate_left
 ·rcases hb with ⟨rfl,rfl⟩|⟨b,rfl,hb⟩
  ·refine⟨_,rfl,_,rfl,?_⟩
   refine dT rfl ?_;refine⟨zz0,fun l hl=>?_⟩;exact key _ _ ⟨l,rfl,zc hl _,za⟩
  ·refine⟨_,rfl,_,rfl,?_⟩
   refine dF (by intro z;cases z) ?_
   exact⟨_,rfl,key _ _ ⟨b,rfl,zm.refl _,hb⟩⟩
 rintro σ1 H1 ⟨b,rfl,s1,hb1⟩;have ha1:=s1 _ _ ha;refine⟨_,rfl,_,rfl,a,b,_,_,rfl,SqL.of ha1,SqL.of hb1,(by rw[length_map,hp.length];exact V'.l24),(by rw[length_map];exact V'.l60),?_⟩
 refine⟨_,rfl,a,ps,rows,rfl,ha1,yG s1 hp,V'.ok,V'.ord,fun H2 s2=>?_⟩;refine⟨_,rfl,b,bars,rfl,s2 _ _ hb1,V'.bn,fun H3 s3=>?_⟩;have s13:=s1.trans (s2.trans s3);refine⟨_,rfl,_,rfl,a,b,ps,rows,bars,rfl,s13 _ _ ha,yG s13 hp,V'.ok,Nat.le_trans V'.l24 (by decide),s3 _ _ (s2 _ _ hb1),Nat.le_trans V'.l60 (by decide),V'.nd,fun H4 s4=>?_⟩
 have s14:=s13.trans s4;refine⟨_,rfl,f,dx,_,rfl,s14 _ _ hf,rfl,_,rfl,_,rfl,f,a,b,dx,[],ps,rows,bars,rfl,s14 _ _ hf,⟨by decide,fun _ _=>rfl⟩,s14 _ _ ha,yG s14 hp,V'.ok,Nat.le_trans V'.l24 (by decide),s4 _ _ (s3 _ _ (s2 _ _ hb1)),fun H5 x5 F5 L5=>?_⟩
 exact q _ (fun b' u e n=>x5 b' u (s14 _ _ e) n) (F5.of s14) L5
theorem zhq:zu ["self"] ["self"] (zg zcv):=⟨rfl,rfl,rfl,by decide +kernel,rfl,by decide +kernel,by decide +kernel⟩
theorem zgm(F:Fun K "parameters" "Form.parameters" zcv f fd) (T:zb9 w K mg G sg) (FK:FC K CF):zJ P w K mg base CX0 1 f fd ["self"] (zau c CF):=by
 refine F.ok zhq (fun vs H Q E h=>?_) (fun cdv A outer s H vs Q E hr h=>?_)
 ·obtain⟨f,rows,bars,rfl,_⟩:=h
  rfl
 obtain⟨f,rows,bars,rfl,⟨dx,fs,lr,lb,ld,ps,h1,h2,h3,h4,h5,h6⟩,q⟩:=h;refine⟨_,ze (zC (cTy yZ T.lst PyProof.Rows.boot_list (ac (y4 (pv 0) rfl) zd))),?_⟩;refine⟨_,rfl,f,CF,dx,_,_,rfl,h1,FK.cl,FK.n1,h2.row,lr,_,rfl,.inl (SqL.of h3),fun l hl=>?_⟩;have s1:=zc hl (.lst (ps.map V.ref));exact q l ps _ s1 hl za (yG s1 h4)
theorem zhr:zu ["self"] ["self"] (zg zcx):=⟨rfl,rfl,rfl,by decide +kernel,rfl,by decide +kernel,by decide +kernel⟩
theorem zgo(F:Fun K "bars" "Form.bars" zcx f fd) (T:zb9 w K mg G sg) (FK:FC K CF):zJ P w K mg base CX0 1 f fd ["self"] (zay c CF):=by
 refine F.ok zhr (fun vs H Q E h=>?_) (fun cdv A outer s H vs Q E hr h=>?_)
 ·obtain⟨f,rows,bars,rfl,_⟩:=h
  rfl
 obtain⟨f,rows,bars,rfl,⟨dx,fs,lr,lb,ld,ps,h1,h2,h3,h4,h5,h6⟩,q⟩:=h;refine⟨_,ze (zC (cTy yZ T.lst PyProof.Rows.boot_list (ac (y4 (pv 0) rfl) zd))),?_⟩;refine⟨_,rfl,f,CF,dx,_,_,rfl,h1,FK.cl,FK.n2,h2.bn,lb,_,rfl,.inl (SqL.of h5),fun l hl=>?_⟩;exact q l _ (zc hl _) hl za
theorem zeg:zu ["self"] ["self"] (zg jS):=⟨rfl,rfl,rfl,by decide +kernel,rfl,by decide +kernel,by decide +kernel⟩
theorem zcM(F:Fun K "places" "Form.places" jS f fd) (FK:FC K CF):zJ P w K mg base CX0 1 f fd ["self"] (wE c CF):=by
 refine F.ok zeg (fun vs H Q E h=>?_) (fun cdv A outer s H vs Q E hr h=>?_)
 ·obtain⟨f,rows,bars,rfl,_⟩:=h
  rfl
 obtain⟨f,rows,bars,rfl,⟨dx,fs,lr,lb,ld,ps,h1,h2,h3,h4,h5,h6⟩,q⟩:=h;exact⟨_,ze (zC (y4 (pv 0) rfl)),_,rfl,f,CF,dx,_,_,rfl,h1,FK.cl,FK.n3,h2.pc,q⟩
theorem zhp:zu ["self"] ["self"] (zg zcu):=⟨rfl,rfl,rfl,by decide +kernel,rfl,by decide +kernel,by decide +kernel⟩
theorem zgl(F:Fun K "tail" "Form.tail" zcu f fd) (FK:FC K CF):zJ P w K mg base CX0 1 f fd ["self"] (vc c CF 2):=by
 refine F.ok zhp (fun vs H Q E h=>?_) (fun cdv A outer s H vs Q E hr h=>?_)
 ·obtain⟨f,rows,bars,rfl,_⟩:=h
  rfl
 obtain⟨f,rows,bars,rfl,⟨dx,fs,lr,lb,ld,ps,h1,h2,h3,h4,h5,h6⟩,q⟩:=h;exact⟨_,ze (zC (y4 (pv 0) rfl)),_,rfl,f,CF,dx,_,_,rfl,h1,FK.cl,FK.n4,h2.tn,q⟩
theorem zjm:zu ["self"] ["self"] (zg zfJ):=⟨rfl,rfl,rfl,by decide +kernel,rfl,by decide +kernel,by decide +kernel⟩
theorem zhZ(F:Fun K "bag" "Form.bag" zfJ f fd) (FK:FC K CF):zJ P w K mg base CX0 1 f fd ["self"] (vc c CF 4):=by
 refine F.ok zjm (fun vs H Q E h=>?_) (fun cdv A outer s H vs Q E hr h=>?_)
 ·obtain⟨f,rows,bars,rfl,_⟩:=h
  rfl
 obtain⟨f,rows,bars,rfl,⟨dx,fs,lr,lb,ld,ps,h1,h2,h3,h4,h5,h6⟩,q⟩:=h;exact⟨_,ze (zC (y4 (pv 0) rfl)),_,rfl,f,CF,dx,_,_,rfl,h1,FK.cl,FK.n5,h2.bg,q⟩
theorem zjl:zu ["self","name"] ["self","name"] (zg zfI):=⟨rfl,rfl,rfl,by decide +kernel,rfl,by decide +kernel,by decide +kernel⟩
theorem zhX(F:Fun K "number_of" "Form.number_of" zfI f fd) (FK:FC K CF):zJ P w K mg base CX0 1 f fd ["self","name"] (zfb c CF):=by
 refine F.ok zjl (fun vs H Q E h=>?_) (fun cdv A outer s H vs Q E hr h=>?_)
 ·obtain⟨f,z,rows,bars,rfl,_⟩:=h
  rfl
 obtain⟨f,z,rows,bars,rfl,⟨dx,fs,lr,lb,ld,ps,h1,h2,h3,h4,h5,h6⟩,q⟩:=h;refine⟨_,ze (zC (zfX (zdT hr) (y4 (pv 0) rfl) (pv 1) ⟨rfl,rfl,rfl,rfl⟩)),?_⟩;refine⟨_,rfl,f,CF,dx,_,_,rfl,h1,FK.cl,FK.n6,h2.dr,ld,rfl,?_,_,rfl,_,.inl ⟨_,.inr z,.inl h6,rfl,rfl⟩,q⟩;exact .inl ⟨_,.inl h6⟩
end
end K83
namespace L2
open PySem PySem.Spec PyProof.Rows
section
variable {X:Cx}{pins:List (Addr×Obj)}{σ : St}{H:Hp}{s:Shared}
theorem Inv.freeze(I:Inv X pins σ H s) {l:Addr}{kvs:List (Key×V)}(hl:H l=some (.dK kvs)):∃o,s.heap.get? l=some o/\Inv X pins σ (upd H l (.frz o (.dK kvs))) s:=by
 obtain⟨hz,hy,vs,r,o,es,ep,ho,c⟩:=id (I.hok l _ hl);refine⟨o,ho,⟨I.ok,I.os,I.bare,⟨I.base.keep,I.base.slot,fun b u e n x=>?_,I.base.there,fun b xs e=>?_,fun b u v e=>?_,fun b ps e=>?_⟩,I.loc,I.cell,?_,fun x c e=>?_,fun p hp'=>?_,fun b u e=>?_,I.len⟩⟩
 ·have e1:=I.base.free b u e n x
  rw[zh (zi hl e1).symm];exact e1
 ·have e1:=I.base.tups b xs e
  rw[zh (xY e1 hl (by intro z;cases z))];exact e1
 ·have e1:=I.base.frzs b u v e
  rw[zh (xY e1 hl (by intro z;cases z))];exact e1
 ·obtain⟨more,e1⟩:=I.base.tbls b ps e
  exact⟨more,by rw[zh (xY e1 hl (by intro z;cases z))];exact e1⟩
 ·rw[zh (zi hl I.free).symm];exact I.free
 ·rw[zh (zi hl (I.freeC x c e)).symm];exact I.freeC x c e
 ·obtain⟨q1,q2,q3⟩:=I.pin p hp'
  exact⟨q1,by rw[zh (zi hl q2).symm];exact q2,q3⟩
 ·have ho':∀c,∀b,H b=some (.own c)->upd H l (.frz o (.dK kvs)) b=some (.own c):=fun c b q=>by rw[zh (xY q hl (by intro z;cases z))];exact q
  have ht':∀b xs,H b=some (.tup xs)->upd H l (.frz o (.dK kvs)) b=some (.tup xs):=fun b xs q=>by rw[zh (xY q hl (by intro z;cases z))];exact q
  by_cases hb:b=l
  ·subst hb;rw[za] at e;cases e
   exact⟨ho,(I.hok b _ hl).stay (fun _ _ _ q=>q) (ho' b) ht'⟩
  ·rw[zh hb] at e
   exact(I.hok b u e).stay (fun _ _ _ q=>q) (ho' b) ht'
def zlt(te:TE):TE:=fun σ H Q=>te σ H fun x H1=>∃l kvs,x=.ref l/\H1 l=some (.dK kvs)/\∀o,Q x (upd H1 l (.frz o (.dK kvs)))
theorem zjI{e:Expr}{te:TE}(h:PE X e te):PE X e (zlt te):=by
 refine⟨?_⟩;intro pins s σ H Q I hw;refine thn (h pins s σ H _ I hw) fun v s1 ⟨x,H1,I1,r1,l,kvs,ex,hl,q⟩=>?_;obtain⟨o,_,I2⟩:=I1.freeze hl;exact⟨x,_,I2,r1,q o⟩
end
theorem zhy{k:Key}{u:Value}(h:qd k u=true):zV (kV k) u:=by
 rcases yE h with ⟨i,t,rfl,rfl⟩|⟨x,t,rfl,rfl⟩
 ·exact⟨t,rfl⟩
 ·exact⟨t,rfl⟩
def Itd(d:Addr) (o:Obj) (kvs:List (Key×V)):It:=
 ⟨fun i H=>H d=some (.frz o (.dK kvs))/\i<kvs.length,fun i H x H'=>∃(p:Addr) (k:Key) (v:V),x=.ref p/\H p=none/\kvs[i]?=some (k,v)/\H'=upd H p (.tup [kV k,v]),fun i H=>H d=some (.frz o (.dK kvs))/\kvs.length<=i⟩
theorem zgL{X:Cx}{pins:List (Addr×Obj)}{σ : St}{H:Hp}{s:Shared}{d:Addr}{o:Obj}{kvs:List (Key×V)}{es:Array DictEntry}{ep:Nat}(I:Inv X pins σ H s) (hd:H d=some (.frz o (.dK kvs))) (ho:o.data=.dict es ep) :
  (d==sysModules)=false/\∃vs,KV kvs vs/\s.heap.DictAt (yo X.prog X.w) d vs ep:=by
 obtain⟨e,hz,hy,vs,r,o',es',ep',ho',c1,c2,c3⟩:=id (I.hok d _ hd);rw[e] at ho';cases ho';rw[ho] at c2;cases c2;exact⟨hy,vs,r,o,es,e,c1,ho,c3⟩
theorem vQ:entryFor table "dict_itemiterator.__iter__"=some Builtin.«dict_keyiterator.__iter__»:=entryFor_alias (id':="dict_keyiterator.__iter__") (by kernel_rfl) (by first|rfl|decide +kernel|(unfold String.splitOn;simp +decide [String.splitOnAux])) (by decide +kernel) (by kernel_rfl)
theorem w6{P:Program}{w:World}{A:Around}{E:Value->Shared->Prop}{s:Shared}{it d:Addr}{i n ep:Nat}{ok ov:Value}{Q:Value->Shared->Prop}(he:IsItemIter s.heap it d i n ep ok ov) (h:Q (.ref it) s):wpAny (model P w) A (pyIter (.ref it)) Q E s:=by
 have hT:s.TypeIs (.ref it) "dict_itemiterator":=⟨_,he,rfl⟩;refine wpAny_pyIter_slot hT F.slot_dict_itemiterator_iter (wpAny_call_entry F.slot_dict_itemiterator_iter hT vQ ?_ (F.args_dict_itemiterator_iter_1 _));show wpAny _ _ (ret (.ref it)) _ _ s;exact wpAny_pure ⟨_,rfl,"dict_itemiterator",_,hT,F.slot_dict_itemiterator_next.lookup,h⟩
theorem zce{P:Program}{w:World}{K:Frag}{elts:List Expr}{x1:Nat}{tpos:Pos}(d it:Addr) (o:Obj) (kvs:List (Key×V)) (es:Array DictEntry) (ep:Nat) (ho:o.data=.dict es ep) :
  zca P w K (.Tuple elts x1 tpos) (Itd d o kvs) [it] it (fun i h=>∃ok ov,IsItemIter h it d i kvs.length ep ok ov) where
 mem:=by simp
 obj:=fun i h st b hb=>by
  have e':b=it:=by simpa using hb
  subst e';obtain⟨ok,ov,hi⟩:=st;exact⟨_,hi,fun v q=>by cases q⟩
 keep:=fun i h h' st k=>by
  obtain⟨ok,ov,hi⟩:=st;exact⟨ok,ov,k it (by simp) _ hi⟩
 item:=by
  intro X hP hw hK hc i pins s σ H E I hf st hg;subst hP hw hK;obtain⟨f0,f1,f2,f3,f4,f5⟩:=hf it (by simp)
  obtain⟨ok,ov,hit⟩:=st;obtain⟨hd,hlt⟩:=hg;obtain⟨hy,vs,r,hm⟩:=zgL I hd ho;have hl:kvs.length=vs.length:=r.length;obtain⟨⟨k2,u⟩,hu,ek,ru⟩:=Paired.get r (getElem?_eq_getElem hlt);rw[hl] at hit;obtain⟨k,v,hkv⟩:∃k v,kvs[i]=(k,v):=⟨_,_,rfl⟩;have ek:k=k2:=by rw[hkv] at ek;exact ek
  have ru2:zV v u:=by rw[hkv] at ru;exact ru
  subst ek;refine wpAny_pyNext_items_item hit hm hu fun key h' hk2 he' htup hsz hkp=>?_;have rk:zV (kV k) key:=zhy hk2;have I0:Inv X pins σ H { s with heap:=h' }:=I.turned (t':=s.toks) (it:=it) hkp f0 f1 f3 f4 f5
  have hfr:H s.heap.objs.size=none:=I.hok.fresh (Nat.le_refl _);have I1:Inv X pins σ (upd H s.heap.objs.size (.tup [kV k,v])) { s with heap:=h' }:=by
   have hok:HOk X.prog X.w (upd H s.heap.objs.size (.tup [kV k,v])) h':=fun b o q=>by
    by_cases hb:b=s.heap.objs.size
    ·subst hb
     rw[za] at q;cases q;exact⟨by show 2<=sizeLine;decide,[key,u],.cons rk (.cons ru2 .nil),⟨_,htup,rfl,_,rfl⟩⟩
    ·rw[zh hb] at q
     exact(I0.hok b o q).stay (fun _ _ _ z=>z) (fun c z=>by rw[zh (zi z hfr)];exact z) fun c xs' z=>by rw[zh (zi z hfr)];exact z
   refine I0.step (s:={ s with heap:=h' }) (g':=s.gens) (d':=s.drawn) (h':=h') (t':=s.toks) (ch:=[s.heap.objs.size]) (fun b hb=>?_) (fun b o _ _ _ e1 _=>e1) (fun b o _ _ _ e1 _=>⟨o.slots,e1⟩) (fun b o hb e1 n=>by rw[zh (fun z=>hb (by simp [z]))];exact n)
    (fun b o _ e1=>⟨o,e1⟩) (fun b xs' e1=>by rw[zh (zi e1 hfr)];exact e1) (fun b o' u' e1=>by rw[zh (zi e1 hfr)];exact e1) (fun b ps e1=>⟨#[],by rw[zh (zi e1 hfr),e1];simp⟩) (fun m hm=>hm) hok I0.bare
   have e':b=s.heap.objs.size:=by simpa using hb
   subst e';refine⟨.inr I.sz,fun z=>?_,fun y c h z=>?_,fun p hp' z=>?_⟩
   ·have:=I.lt;rw[<- z] at this;exact absurd this (lt_irrefl _)
   ·obtain⟨v',hv⟩:=I.cell y c h
    have:=hv.lt;rw[z] at this;exact absurd this (lt_irrefl _)
   ·have:=I.pin_lt hp';rw[z] at this;exact absurd this (lt_irrefl _)
  refine⟨_,rfl,wpAny_letOwnedTupleGo_items he' fun h2 he2 hs2=>?_⟩;have nis:s.heap.objs.size≠it:=fun z=>by
   have:=Heap.lt_size (show s.heap.get? it=some _ from hit)
   rw[<- z] at this;exact absurd this (lt_irrefl _)
  have I2:Inv X pins σ (upd H s.heap.objs.size (.tup [kV k,v])) { s with heap:=h2 }:=
   I1.turned (s:={ s with heap:=h' }) (t':=s.toks) (it:=it) (fun b o hb q=>(hs2.2 b hb).trans q) (by rw[zh nis.symm];exact f0) f1 f3 f4 f5
  refine⟨.ref s.heap.objs.size,_,I2,rfl,⟨_,k,v,rfl,hfr,by rw[getElem?_eq_getElem hlt,hkv],rfl⟩,⟨_,_,by rw[hl];exact he2⟩,fun b hb=>?_⟩
  have e':b=it:=by simpa using hb
  subst e';rw[zh nis.symm];exact f0
 done:=by
  intro X hP hw hK hc i pins s σ H E I hf st hg;subst hP hw hK;obtain⟨ok,ov,hit⟩:=st;obtain⟨f0,f1,f2,f3,f4,f5⟩:=hf it (by simp)
  obtain⟨hd,hle⟩:=hg;obtain⟨hy,vs,r,hm⟩:=zgL I hd ho;have hl:kvs.length=vs.length:=r.length;rw[hl] at hit;exact wpAny_pyNext_items_end (I.ok.hd hc) hit hm (getElem?_eq_none (by omega)) fun h' eb=>⟨rfl,I.turned (t':=s.toks) (fun b o hb e1=>eb b o hb e1) f0 f1 f3 f4 f5⟩
 self:=fun A i s Q E st h=>by
  obtain⟨ok,ov,hit⟩:=st;exact w6 hit h
section
variable {X:Cx}{elts:List Expr}{x1:Nat}{tpos:Pos}
def zj7(te:TE):TI:=fun σ H R=>te σ H fun x H1=>∃d o kvs,x=.ref d/\H1 d=some (.frz o (.dK kvs))/\R (Itd d o kvs) H1
theorem zfU{l:Expr}{te:TE}{apos cpos:Pos}(hl:PE X l te) (hbase:attributeBase l "items" X.env (eval l X.env)=eval l X.env:=by rfl) (hline:(apos.endLine==cpos.line)=true:=by rfl) :
  PI X (.Tuple elts x1 tpos) (.Call (.Attribute l "items" apos) [] [] cpos) (zj7 te):=by
 refine⟨?_⟩;intro pins s σ H R I h;refine wpAny_Call_method0_late hbase hline (thn (hl pins s σ H _ I h) fun v s1 ⟨x,H1,I1,r1,d,o,kvs,ex,hd,q⟩=>?_);subst ex;cases r1;obtain⟨e,hz,hy,vs,r,o',es,ep,ho',c1,c2,c3⟩:=id (I1.hok d _ hd);rw[e] at ho';cases ho';have hm:s1.heap.DictAt (yo X.prog X.w) d vs ep:=⟨o,es,e,c1,c2,c3⟩;refine⟨"dict","dict.items",F.plainAttrs_dict,F.slot_dict_items,F.type_dict_items,⟨o,e,c1.1⟩,fun a ea=>by cases ea;exact⟨o,e,c1.2.1⟩,Calls.callWith_builtin rfl (PySem.evalArgs_none ?_)⟩
 refine call_meetsIn F.slot_dict_items ⟨o,e,c1.1⟩ F.entry_dict_items (F.args_dict_items_1 _) (meets_dict_items (yo X.prog X.w) d hy) ⟨⟨vs,hm.dictOf⟩,?_⟩;show wpAny _ _ (pyIter (.ref s1.heap.objs.size)) _ _ _;have hl:kvs.length=vs.length:=r.length;refine wpAny_pyIter_items (knd:=yo X.prog X.w) (d:=d) (kvs:=vs) (ep:=ep) ⟨_,Heap.get?_push_size _ rfl,rfl,rfl⟩ (hm.push _) ?_;have hk:∀b ob,s1.heap.get? b=some ob->((s1.heap.push { cls:=.type "dict_items",data:=.fields #[.ref d] }).push { cls:=.type "dict_itemiterator",data:=.fields #[.none,.bool false,.ref d,.int 0 0,.int vs.length 0,.int ep 0,.none,.none] }).get? b=some ob:=fun b ob q=>Heap.get?_push_of_some _ (Heap.get?_push_of_some _ q);have I2:=I1.kept (t':=s1.toks) hk;have hsz:(s1.heap.push { cls:=.type "dict_items",data:=.fields #[.ref d] }).objs.size=s1.heap.objs.size+1:=Heap.size_push ..;refine⟨(s1.heap.push { cls:=.type "dict_items",data:=.fields #[.ref d] }).objs.size,[(s1.heap.push { cls:=.type "dict_items",data:=.fields #[.ref d] }).objs.size],_,Itd d o kvs,H1,rfl,I2,zce d _ o kvs es ep c2,⟨.none,.none,?_⟩,fun b hb=>?_,q⟩
 ·rw[hl]
  exact Heap.get?_push_size (s1.heap.push { cls:=.type "dict_items",data:=.fields #[.ref d] }) (o:={ cls:=.type "dict_itemiterator",data:=.fields #[.none,.bool false,.ref d,.int 0 0,.int vs.length 0,.int ep 0,.none,.none] }) rfl
 ·have e':b=(s1.heap.push { cls:=.type "dict_items",data:=.fields #[.ref d] }).objs.size:=by simpa using hb
  subst e';rw[hsz];exact I1.fpOk (le_succ _) (I1.hok.fresh (le_succ _))
theorem zeP{d:Addr}{o:Obj}{kvs:List (Key×V)}{g:TG}{tb:TS}{D:jp}{σ : St}{H:Hp}(Pv:Nat->St->Hp->Prop) (h0:Pv 0 σ H) (hl:∀i σ H,i<=kvs.length->Pv i σ H->H d=some (.frz o (.dK kvs)))
  (hs:∀i k v p σ H,kvs[i]?=some (k,v)->Pv i σ H->H p=none->g (.ref p) σ (upd H p (.tup [kV k,v])) fun σ2 H2=>tb { D with nx:=Pv (i+1),ct:=Pv (i+1),bk:=D.nx } σ2 H2) (hd:∀σ H,Pv kvs.length σ H->D.nx σ H) :
  ∃W:Nat->Nat->St->Hp->Prop,(∃m,W 0 m σ H)/\∀i m σ H,W i m σ H->
   ((Itd d o kvs).stop i H/\D.nx σ H)\/((Itd d o kvs).go i H/\∃N:St->Hp->Prop,(∀σ' H',N σ' H'->∃m',m'<m/\W (i+1) m' σ' H')/\∀x H',(Itd d o kvs).yld i H x H'->g x σ H' fun σ2 H2=>tb { D with nx:=N,ct:=N,bk:=D.nx } σ2 H2):=by
 refine⟨fun i m σ H=>m=kvs.length - i/\i<=kvs.length/\Pv i σ H,⟨kvs.length,by simp,zero_le _,h0⟩,?_⟩
 rintro i m σ H ⟨rfl,hi,p⟩;have q:=hl i σ H hi p;by_cases hlt:i<kvs.length
 ·refine .inr ⟨⟨q,hlt⟩,Pv (i+1),fun σ' H' p'=>⟨kvs.length - (i+1),by omega,rfl,hlt,p'⟩,fun x H' y=>?_⟩
  obtain⟨pp,k,v,rfl,hp,y2,rfl⟩:=y;exact hs i k v pp σ H y2 p hp
 ·have e:i=kvs.length:=by omega
  subst e;exact .inl ⟨⟨q,Nat.le_refl _⟩,hd σ H p⟩
end
theorem zlA{X:Cx}{pins:List (Addr×Obj)}{σ : St}{H:Hp}{s:Shared}{A:Around}{a b:Addr}{xs ys:List V}(I:Inv X pins σ H s) (ha:SqT X.K H a xs) (hb:SqT X.K H b ys) (fx:xs.all xN=true) (fy:ys.all xN=true) (hu:A.units+8<cLine) :
  SeqAt.RcAt A s (.ref a) (.ref b) (eqT xs ys):=by
 obtain⟨ia,va,pa,_⟩:=I.tuple ha;obtain⟨ib,vb,pb,_⟩:=I.tuple hb;have la:ia.toArray.size=xs.length:=by rw[size_toArray];exact va.length.symm
 have lb:ib.toArray.size=ys.length:=by rw[size_toArray];exact vb.length.symm
 have:=SeqAt.RcAt.tuples (A:=A) (s:=s) (e:=fun j=>eqV (xs[j]?.getD .non) (ys[j]?.getD .non)) (show s.heap.IsTuple a ia.toArray from pa) (show s.heap.IsTuple b ib.toArray from pb) (by omega) (fun j h1 h2=>by
  have j1:j<ia.length:=by simpa using h1
  have j2:j<ib.length:=by simpa using h2
  have hxl:j<xs.length:=by rw[va.length];exact j1
  have hyl:j<ys.length:=by rw[vb.length];exact j2
  obtain⟨u',e1,e2⟩:=va.get (i:=j) (getElem?_eq_getElem hxl);obtain⟨v',e3,e4⟩:=vb.get (i:=j) (getElem?_eq_getElem hyl);rw[getElem?_eq_getElem j1] at e1;rw[getElem?_eq_getElem j2] at e3;cases e1;cases e3;have q:=zgR (A:=A.in1) (s:=s) e2 e4 (List.all_eq_true.mp fx _ (getElem_mem hxl)) (List.all_eq_true.mp fy _ (getElem_mem hyl));simpa [hxl,hyl] using q)
 rw[la,lb] at this;exact this
def zjE(K:Frag):R2:=fun x y H Q=>∃(a c:Addr) (xs ys:List V),x=.ref a/\y=.ref c/\SqT K H a xs/\SqT K H c ys/\xs.all xN=true/\ys.all xN=true/\Q (.bl (eqT xs ys)) H
theorem zf4{X:Cx}(hu:X.A.units+64<cLine):OpR X (compareOp .Eq) (zjE X.K):=by
 intro pins s σ H x y v u Q I rx ry h;obtain⟨a,c,xs,ys,rfl,rfl,ha,hc,fx,fy,q⟩:=h;cases rx;cases ry;exact zlA (A:=X.A) I ha hc fx fy (by omega) X.prog X.w X.xe _ ⟨.bl _,H,I,rfl,q⟩
end L2
namespace K83
open PySem L2 PyProof.Rows
inductive w4 where
 | one (t:Int)|row (ts:List Int)|named (n:Str) (t:Int)|book (ps:List (Str×Int))
def wq(p:Str×Int):Dt:=.tup [.str p.1,.int p.2]
def jg:w4->Dt
 | .one t=>.tup [.str "one",.int t]
 | .row ts=>.tup [.str "row",.lst (ts.map .int)]
 | .named n t=>.tup [.str "named",.str n,.int t]
 | .book ps=>.tup [.str "book",.lst (ps.map wq)]
def itT:w4->List Int
 | .one t=>[t]
 | .row ts=>ts
 | _=>[]
def itP:w4->List (Str×Int)
 | .named n t=>[(n,t)]
 | .book ps=>ps
 | _=>[]
def xl(c:List w4):List Int:=(c.map itT).flatten
def xv(c:List w4):List (Str×Int):=(c.map itP).flatten
abbrev T':Addr->Prop:=fun _=>True
def Two(K:Frag) (H H':Hp) (p:Addr) (ts:List Int) (ps:List (Str×Int)):Prop:=
 ∃l1 l2 xs,H l1=none/\H l2=none/\l1≠l2/\H p=none/\H' p=some (.tup [.ref l1,.ref l2])/\H' l1=some (.lst (ts.map V.int))/\H' l2=some (.lst xs)/\Paired (zS K T' H' 1) xs (ps.map wq)
def zff(K:Frag):Sp:=fun vs H Q _=>∃(a:Addr) (c:List w4) (xs:List V),vs=[.ref a]/\SqL K H a xs/\Paired (zS K T' H 3) xs (c.map jg)/\(xl c).length<=900/\(xv c).length<=900/\
 ∀(p:Addr) (H':Hp),zm H H'->Two K H H' p (xl c) (xv c)->Q (.ref p) H'
section
variable {P:Program}{w:World}{K:Frag}{mg:Str->Option Value}{base:Heap}{f:Addr}{fd:FuncData}
end
section
variable {K:Frag}{ok:Addr->Prop}{H H':Hp}{n:Nat}{x:V}
theorem uq{i:Int}(h:zS K ok H n x (.int i)):x=.int i:=by
 have fl:vw x (.int i)->x=.int i:=fun h=>by
  cases x <;> first|exact h.elim|(have e:=(show _=_ from h);rw[e])
 cases n with
 | zero=>exact fl h
 | succ n=>
  rcases h with h|⟨_,_,_,_,e,_⟩|⟨_,_,_,_,e,_⟩
  ·exact fl h
  ·cases e
  ·cases e
theorem wH{z:Str}(h:zS K ok H n x (.str z)):x=.str z:=by
 have fl:vw x (.str z)->x=.str z:=fun h=>by
  cases x <;> first|exact h.elim|(have e:=(show _=_ from h);rw[e])
 cases n with
 | zero=>exact fl h
 | succ n=>
  rcases h with h|⟨_,_,_,_,e,_⟩|⟨_,_,_,_,e,_⟩
  ·exact fl h
  ·cases e
  ·cases e
theorem wG{ds:List Dt}(h:zS K ok H (n+1) x (.tup ds)):∃a xs,x=.ref a/\SqT K H a xs/\Paired (zS K ok H n) xs ds:=by
 rcases h with h|⟨a,xs,ds',e1,e2,e3,r⟩|⟨_,_,_,_,e,_⟩
 ·cases x <;> exact h.elim
 ·cases e2;exact⟨a,xs,e1,e3,r⟩
 ·cases e
theorem zbx{ds:List Dt}(h:zS K ok H (n+1) x (.lst ds)):∃a xs,x=.ref a/\ok a/\H a=some (.lst xs)/\Paired (zS K ok H n) xs ds:=by
 rcases h with h|⟨_,_,_,_,e,_⟩|⟨a,xs,ds',e1,e2,o,e3,r⟩
 ·cases x <;> exact h.elim
 ·cases e
 ·cases e2;exact⟨a,xs,e1,o,e3,r⟩
theorem qP:∀{ts:List Int}{xs:List V},Paired (zS K ok H n) xs (ts.map .int)->xs=ts.map V.int
 | [],_,r=>by cases r;rfl
 | t::ts,_,r=>by
  cases r with
  | cons h r=>rw[uq h,qP r];rfl
theorem yl{α β : Type}{F : α->β->Prop}:∀{a c:List α}{b d:List β},Paired F a b->Paired F c d->Paired F (a++c) (b++d)
 | _,_,_,_,.nil,s=>s
 | _,_,_,_,.cons r t,s=>.cons r (yl t s)
theorem zgC{t:Int}(h:zS K ok H 3 x (jg (.one t))):∃a,x=.ref a/\SqT K H a [.str "one",.int t]:=by
 obtain⟨a,xs,rfl,hS,r⟩:=wG h;cases r with
 | cons h1 r=>cases r with
  | cons h2 r=>cases r;rw[wH h1,uq h2] at hS;exact⟨a,rfl,hS⟩
theorem zgB{ts:List Int}(h:zS K ok H 3 x (jg (.row ts))):∃a b,x=.ref a/\SqT K H a [.str "row",.ref b]/\ok b/\H b=some (.lst (ts.map V.int)):=by
 obtain⟨a,xs,rfl,hS,r⟩:=wG h;cases r with
 | cons h1 r=>cases r with
  | cons h2 r=>
   cases r;obtain⟨b,ys,rfl,o,hb,q⟩:=zbx h2;rw[wH h1] at hS;rw[qP q] at hb;exact⟨a,b,rfl,hS,o,hb⟩
theorem zc2{z:Str}{t:Int}(h:zS K ok H 3 x (jg (.named z t))):∃a,x=.ref a/\SqT K H a [.str "named",.str z,.int t]:=by
 obtain⟨a,xs,rfl,hS,r⟩:=wG h;cases r with
 | cons h1 r=>cases r with
  | cons h2 r=>cases r with
   | cons h3 r=>cases r;rw[wH h1,wH h2,uq h3] at hS;exact⟨a,rfl,hS⟩
theorem zeK{ps:List (Str×Int)}(h:zS K ok H 3 x (jg (.book ps))):∃a b ys,x=.ref a/\SqT K H a [.str "book",.ref b]/\ok b/\H b=some (.lst ys)/\Paired (zS K ok H 1) ys (ps.map wq):=by
 obtain⟨a,xs,rfl,hS,r⟩:=wG h;cases r with
 | cons h1 r=>cases r with
  | cons h2 r=>
   cases r;obtain⟨b,ys,rfl,o,hb,q⟩:=zbx h2;rw[wH h1] at hS;exact⟨a,b,ys,rfl,hS,o,hb,q⟩
end
theorem zcW(c:List w4) (i:Nat) (it:w4) (h:c[i]?=some it):xl (c.take (i+1))=xl (c.take i)++itT it:=by
 unfold xl;rw[take_add_one,h,map_append,flatten_append];simp
theorem zcX(c:List w4) (i:Nat) (it:w4) (h:c[i]?=some it):xv (c.take (i+1))=xv (c.take i)++itP it:=by
 unfold xv;rw[take_add_one,h,map_append,flatten_append];simp
theorem zbR(c:List w4) (i:Nat):(xl (c.take i)).length<=(xl c).length:=by
 unfold xl
 conv=>rhs;rw[<- take_append_drop i c]
 rw[map_append,flatten_append,length_append];omega
theorem zbS(c:List w4) (i:Nat):(xv (c.take i)).length<=(xv c).length:=by
 unfold xv
 conv=>rhs;rw[<- take_append_drop i c]
 rw[map_append,flatten_append,length_append];omega
theorem ne1:¬(V.str "row"=V.str "one"):=by decide +kernel
theorem ne2:¬(V.str "named"=V.str "one"):=by decide +kernel
theorem ne3:¬(V.str "book"=V.str "one"):=by decide +kernel
theorem ne4:¬(V.str "named"=V.str "row"):=by decide +kernel
theorem ne5:¬(V.str "book"=V.str "row"):=by decide +kernel
theorem ne6:¬(V.str "book"=V.str "named"):=by decide +kernel
section
variable {P:Program}{w:World}{K:Frag}{mg:Str->Option Value}{base:Heap}{f:Addr}{fd:FuncData}
theorem jO:zu ["call","things","pairs","item","word"] ["call"] (zg zfC):=⟨rfl,rfl,rfl,by decide +kernel,rfl,by decide +kernel,by decide +kernel⟩
theorem ve{H H2:Hp}{l:Addr}(s:zm H H2) (h:H l=none) (o:HO):zm H (upd H2 l o):=fun b u q=>by rw[zh (zi q h)];exact s b u q
theorem zhU(F:Fun K "laid" "laid" zfC f fd):zJ P w K mg base CX0 1 f fd ["call"] (zff K):=by
 refine F.ok jO (fun vs H Q E h=>?_) (fun cdv A outer s H vs Q E hr h=>?_)
 ·obtain⟨a,c,xs,rfl,_⟩:=h
  rfl
 obtain⟨a,c,xs,rfl,hS,hc,hT,hP,q⟩:=h;refine⟨_,zj (zy (i:=1) jO.nd rfl (Or.inl rfl) (zW zd)) (zj (zy (i:=2) jO.nd rfl (Or.inl rfl) (zW zd))
  (zj (yW PassesOwn.never rfl (zM (pv 0)) (zk (i:=3) jO.nd rfl (Or.inl rfl))
   (zj (zy (i:=4) jO.nd rfl (Or.inl rfl) (zB zw (pv 3) zf (fun _ _=>rfl)))
   (ze (zP (zo yx (pv 4) zD (zI _)) (ze (z6 (xL PySem.F.plainAttrs_list PySem.F.slot_list_append PySem.F.type_list_append yu (pv 1) (ac (zB zw (pv 3) zf (fun _ _=>rfl)) zd))))
    (ze (zP (zo yx (pv 4) zD (zI _)) (ze (z6 (xL PySem.F.plainAttrs_list PySem.F.slot_list_extend PySem.F.type_list_extend qW (pv 1) (ac (zB zw (pv 3) zf (fun _ _=>rfl)) zd))))
     (ze (zP (zo yx (pv 4) zD (zI _)) (ze (z6 (xL PySem.F.plainAttrs_list PySem.F.slot_list_append PySem.F.type_list_append yu (pv 2) (ac (zZ (ac (zB zw (pv 3) zf (fun _ _=>rfl)) (ac (zB zw (pv 3) zf (fun _ _=>rfl)) zd))) zd))))
      (ze (z6 (xL PySem.F.plainAttrs_list PySem.F.slot_list_extend PySem.F.type_list_extend qW (pv 2) (ac (zB zw (pv 3) zf (fun _ _=>rfl)) zd))))))))))))
  (ze (zC (zZ (ac (pv 1) (ac (pv 2) zd))))))),?_⟩
 refine⟨zz0,fun l1 h1=>?_⟩;refine⟨zz0,fun l2 h2=>?_⟩;have n12:l1≠l2:=zi za h2;have f2:H l2=none:=(zc h1 _).free h2;have s0:zm H (upd (upd H l1 (.lst [])) l2 (.lst [])):=(zc h1 _).trans (zc h2 _);refine⟨_,rfl,a,rfl,⟨_,s0.seq hS⟩,xn (K:=K) (a:=a) (xs:=xs) (fun i σ H2=>∃v3 v4 ys,σ=[some (.ref a),some (.ref l1),some (.ref l2),v3,v4]/\zm H H2/\H2 l1=some (.lst ((xl (c.take i)).map V.int))/\H2 l2=some (.lst ys)/\Paired (zS K T' H2 1) ys ((xv (c.take i)).map wq))
  ⟨_,_,[],rfl,s0,by rw[zh n12,za];rfl,za,.nil⟩ (fun i σ H2 _ ⟨_,_,_,_,s2,_⟩=>s2.seq hS) ?_ ?_⟩
 ·rintro i y σ H2 hi ⟨v3,v4,ys,rfl,s2,g1,g2,gp⟩
  obtain⟨d,hd,hy⟩:=Paired.get hc hi;obtain⟨it,hit,rfl⟩:∃it,c[i]?=some it/\jg it=d:=by
   rw[getElem?_map] at hd;cases e:c[i]? with
   | none=>rw[e] at hd;cases hd
   | some it=>rw[e] at hd;exact⟨it,rfl,Option.some.inj hd⟩
  have hy2:=hy.same s2;have eT:=zcW c i it hit;have eP:=zcX c i it hit;have lT:=zbR c i;have lP:=zbS c i;have lT1:=zbR c (i+1);have lP1:=zbS c (i+1);have lys:ys.length=(xv (c.take i)).length:=by rw[gp.length,length_map]
  have sT:∀{H3:Hp}{o:HO}{l:Addr},H3 l=none\/(∃zs,H3 l=some (.lst zs))->∀{b zs},SqT K H3 b zs->SqT K (upd H3 l o) b zs:=fun {H3 o l} hl {b zs} hz=>by
   rcases hz with (z|⟨u,z⟩)|z
   ·refine .inl (.inl ?_)
    have:b≠l:=fun e=>by
     subst e;rcases hl with e|⟨_,e⟩
     ·rw[e] at z;cases z
     ·rw[e] at z;cases z
    rw[zh this];exact z
   ·refine .inl (.inr ⟨u,?_⟩)
    have:b≠l:=fun e=>by
     subst e;rcases hl with e|⟨_,e⟩
     ·rw[e] at z;cases z
     ·rw[e] at z;cases z
    rw[zh this];exact z
   ·exact .inr z
  have keepP:∀{H3:Hp}{o:HO}{l:Addr}{zs:List V}{ps:List (Str×Int)},H3 l=none\/(∃zs,H3 l=some (.lst zs))->Paired (zS K T' H3 1) zs (ps.map wq)->Paired (zS K T' (upd H3 l o) 1) zs (ps.map wq):=by
   intro H3 o l zs ps hl r;induction ps generalizing zs with
   | nil=>cases r;exact .nil
   | cons p ps ih=>
    cases r with
    | cons h r=>
     refine .cons ?_ (ih r);obtain⟨b,ws,rfl,hS',r'⟩:=wG h;exact .tup (sT hl hS') (Paired.imp' (fun _ _ z=>z) r')
  cases it with
  | one t=>
   obtain⟨b,rfl,hb⟩:=zgC hy2;refine⟨_,rfl,b,_,_,.str "one",rfl,rfl,hb,rfl,?_⟩;refine⟨_,rfl,rfl,_,rfl,?_⟩;refine dT rfl ?_;refine⟨_,rfl,.inl ⟨rfl,_,SqL.of g1⟩,_,rfl,b,_,_,.int t,rfl,rfl,hb,rfl,l1,_,_,rfl,rfl,g1,?_,?_⟩
   ·rw[length_map];exact zT (by omega)
   ·refine⟨_,_,ys,rfl,ve s2 h1 _,?_,?_,?_⟩
    ·rw[za,eT,map_append];rfl
    ·rw[zh n12.symm];exact g2
    ·rw[eP];show Paired _ _ ((xv (c.take i)++[]).map wq);rw[append_nil];exact keepP (.inr ⟨_,g1⟩) gp
  | row ts=>
   obtain⟨b,bl,rfl,hb,_,hbl⟩:=zgB hy2;refine⟨_,rfl,b,_,_,.str "row",rfl,rfl,hb,rfl,?_⟩;refine⟨_,rfl,rfl,_,rfl,?_⟩;refine dF ne1 ?_;refine⟨_,rfl,rfl,_,rfl,?_⟩;refine dT rfl ?_;refine⟨_,rfl,.inl ⟨rfl,_,SqL.of g1⟩,_,rfl,b,_,_,.ref bl,rfl,rfl,hb,rfl,l1,bl,_,_,rfl,rfl,g1,hbl,?_,?_⟩
   ·have e1:(xl (c.take (i+1))).length=(xl (c.take i)).length+ts.length:=by rw[eT,length_append];rfl
    rw[length_map,length_map];exact z3 (by omega)
   ·refine⟨_,_,ys,rfl,ve s2 h1 _,?_,?_,?_⟩
    ·rw[za,eT,map_append];rfl
    ·rw[zh n12.symm];exact g2
    ·rw[eP];show Paired _ _ ((xv (c.take i)++[]).map wq);rw[append_nil];exact keepP (.inr ⟨_,g1⟩) gp
  | named z t=>
   obtain⟨b,rfl,hb⟩:=zc2 hy2;refine⟨_,rfl,b,_,_,.str "named",rfl,rfl,hb,rfl,?_⟩;refine⟨_,rfl,rfl,_,rfl,?_⟩;refine dF ne2 ?_;refine⟨_,rfl,rfl,_,rfl,?_⟩;refine dF ne4 ?_;refine⟨_,rfl,rfl,_,rfl,?_⟩;refine dT rfl ?_;refine⟨_,rfl,.inl ⟨rfl,_,SqL.of g2⟩,_,rfl,b,_,_,.str z,rfl,rfl,hb,rfl,_,rfl,b,_,_,.int t,rfl,rfl,hb,rfl,zz2,fun p hp=>?_⟩;have np2:l2≠p:=zi g2 hp;have np1:l1≠p:=zi g1 hp;have fp:H p=none:=s2.free hp;refine⟨l2,_,_,rfl,rfl,(by rw[zh np2];exact g2),?_,?_⟩
   ·rw[lys];exact zT (by omega)
   ·refine⟨_,_,ys++[.ref p],rfl,ve (ve s2 fp _) f2 _,?_,za,?_⟩
    ·rw[zh n12,zh np1,g1,eT];show _=some (HO.lst ((xl (c.take i)++[]).map V.int));rw[append_nil]
    ·rw[eP,map_append]
     refine yl (keepP (.inr ⟨_,by rw[zh np2];exact g2⟩) (keepP (.inl hp) gp)) (.cons (.tup (xs:=[.str z,.int t]) (SqT.of ?_) (.cons .str (.cons .int .nil))) .nil)
     rw[zh np2.symm,za]
  | book ps=>
   obtain⟨b,bl,zs,rfl,hb,_,hbl,hz⟩:=zeK hy2;refine⟨_,rfl,b,_,_,.str "book",rfl,rfl,hb,rfl,?_⟩;refine⟨_,rfl,rfl,_,rfl,?_⟩;refine dF ne3 ?_;refine⟨_,rfl,rfl,_,rfl,?_⟩;refine dF ne5 ?_;refine⟨_,rfl,rfl,_,rfl,?_⟩;refine dF ne6 ?_;have lz:zs.length=ps.length:=by rw[hz.length,length_map]
   refine⟨_,rfl,.inl ⟨rfl,_,SqL.of g2⟩,_,rfl,b,_,_,.ref bl,rfl,rfl,hb,rfl,l2,bl,_,_,rfl,rfl,g2,hbl,?_,?_⟩
   ·have e1:(xv (c.take (i+1))).length=(xv (c.take i)).length+ps.length:=by rw[eP,length_append];rfl
    rw[lys,lz];exact z3 (by omega)
   ·refine⟨_,_,ys++zs,rfl,ve s2 f2 _,?_,za,?_⟩
    ·rw[zh n12,g1,eT];show _=some (HO.lst ((xl (c.take i)++[]).map V.int));rw[append_nil]
    ·rw[eP,map_append]
     exact yl (keepP (.inr ⟨_,g2⟩) gp) (keepP (.inr ⟨_,g2⟩) hz)
 ·rintro σ H2 ⟨v3,v4,ys,rfl,s2,g1,g2,gp⟩
  refine⟨_,rfl,_,rfl,zz2,fun p hp=>?_⟩;have hl:xs.length=c.length:=by rw[hc.length,length_map]
  rw[hl,take_length] at g1 gp;refine q p _ (s2.trans (zc hp _)) ⟨l1,l2,ys,h1,f2,n12,s2.free hp,za,?_,?_,Paired.imp' (fun _ _ z=>z.same (zc hp _)) gp⟩
  ·rw[zh (zi g1 hp)];exact g1
  ·rw[zh (zi g2 hp)];exact g2
end
theorem zf0{ps:List (Str×Int)}{i:Nat}{d:Dt}(h:(ps.map wq)[i]?=some d):∃p,ps[i]?=some p/\wq p=d:=by
 rw[getElem?_map] at h;cases e:ps[i]? with
 | none=>rw[e] at h;cases h
 | some it=>rw[e] at h;exact⟨it,rfl,Option.some.inj h⟩
theorem zes{K:Frag}{ok:Addr->Prop}{H:Hp}{n:Nat}{x:V}{p:Str×Int}(h:zS K ok H (n+1) x (wq p)):∃b,x=.ref b/\SqT K H b [.str p.1,.int p.2]:=by
 obtain⟨a,xs,rfl,hS,r⟩:=wG h;cases r with
 | cons h1 r=>cases r with
  | cons h2 r=>cases r;rw[wH h1,uq h2] at hS;exact⟨a,rfl,hS⟩
section
variable {P:Program}{w:World}{K:Frag}{mg:Str->Option Value}{base:Heap}{f:Addr}{fd:FuncData}
end
theorem xB{A B:Prop}{b:Bool}(h:b=true) (a:A):if b=true then A else B:=by rw[h];exact xm a
theorem yS{A B:Prop}{b:Bool}(h:b=false) (a:B):if b=true then A else B:=by rw[h];exact yq a
section
variable {P:Program}{w:World}{K:Frag}{mg:Str->Option Value}{base:Heap}{f:Addr}{fd:FuncData}
section
variable {H H':Hp}{p l1 l2 l:Addr}{ys:List V}{ts:List Int}{ps:List (Str×Int)}{o:HO}
end
end
def yX(c:List w4):List Str:=(xv c).map (·.1)
def zdp(K:Frag):Sp:=fun vs H Q _=>∃(a:Addr) (c:List w4) (xs:List V),vs=[.ref a]/\SqL K H a xs/\Paired (zS K T' H 3) xs (c.map jg)/\(xl c).length<=900/\(xv c).length<=900/\
 ∀(p l:Addr) (H':Hp),zm H H'->H l=none->H' p=some (.tup [.int ((xl c).length:Nat),.ref l])->H' l=some (.lst ((yX c).map V.str))->Q (.ref p) H'
def vP:Nat->List (Key×V)->List Str->List (Key×V)
 | _,acc,[]=>acc
 | i,acc,z::zs=>vP (i+1) (if (z5 acc (.inr z)).isSome=true then acc else xb acc (.inr z) (.int i)) zs
theorem zac{z:Str}:∀(zs:List Str) (j i:Nat) (acc:List (Key×V)),zs[i]?=some z->vP j acc (zs.take (i+1))=(if (z5 (vP j acc (zs.take i)) (.inr z)).isSome=true then vP j acc (zs.take i) else xb (vP j acc (zs.take i)) (.inr z) (.int (j+i:Nat)))
 | [],_,_,_,h=>by simp at h
 | y::ys,j,0,acc,h=>by
  have e:y=z:=by simpa using h
  subst e;rfl
 | y::ys,j,i+1,acc,h=>by
  have:=zac ys (j+1) i (if (z5 acc (.inr y)).isSome=true then acc else xb acc (.inr y) (.int j)) (by simpa using h)
  show vP (j+1) _ (ys.take (i+1))=_;rw[this,show j+1+i=j+(i+1) by omega]
  rfl
theorem zbX:∀(zs:List Str) (i:Nat) (acc:List (Key×V)),(vP i acc zs).length<=acc.length+zs.length
 | [],_,_=>Nat.le_refl _
 | z::zs,i,acc=>by
  have h:=zbX zs (i+1) (if (z5 acc (.inr z)).isSome=true then acc else xb acc (.inr z) (.int i))
  have h2:(if (z5 acc (.inr z)).isSome=true then acc else xb acc (.inr z) (.int i)).length<=acc.length+1:=by
   split
   ·omega
   ·exact xM acc _ _
  show(vP (i+1) _ zs).length<=acc.length+(zs.length+1);omega
def zbp:Sp:=fun vs H Q _=>∃(a:Addr) (zs:List Str),vs=[.ref a]/\H a=some (.lst (zs.map V.str))/\zs.length<=900/\∀(l:Addr) (o:Obj) (H':Hp),zm H H'->H l=none->H' l=some (.frz o (.dK (vP 0 [] zs)))->Q (.ref l) H'
section
variable {P:Program}{w:World}{K:Frag}{mg:Str->Option Value}{base:Heap}{f CF:Addr}{fd:FuncData}{c:C5}{m:MA}
theorem zkQ:([Str.ofString "name",Str.ofString "thing"]:List Str).Nodup:=by decide +kernel
theorem zaD:zu ["call","things","pairs"] ["call"] (zg zcl):=⟨rfl,rfl,rfl,by decide +kernel,rfl,by decide +kernel,by decide +kernel⟩
theorem zf9{g:Addr}{gd:FuncData}(F:Fun K "shape" "shape" zcl f fd) (hlen:mg "len"=none) (cL:zK P w K mg base 1 "laid" g gd ["call"] (zff K)):zJ P w K mg base CX0 2 f fd ["call"] (zdp K):=by
 refine F.ok zaD (fun vs H Q E h=>?_) (fun cdv A outer s H vs Q E hr h=>?_)
 ·obtain⟨a,c,xs,rfl,_⟩:=h
  rfl
 obtain⟨a,c,xs,rfl,hS,hc,lT,lP,q⟩:=h;refine⟨_,zj (wQ (cF cL hr (ac (pv 0) zd)) (xf rfl (zL (zk (i:=1) zaD.nd rfl (Or.inl rfl)) (zL (zk (i:=2) zaD.nd rfl (Or.inl rfl)) yL))))
  (ze (zC (zZ (ac (cB zF hlen PySem.boot_len (ac (pv 1) zd)) (ac (yP [] ["name","thing"] [none,none] rfl ⟨rfl,rfl,rfl,rfl⟩ (zM (pv 2)) (u5 (K:=K) (n:=2) 0 1) rfl rfl rfl
   (fun pins fp s H C=>⟨xf rfl (zL (zk (i:=0) zkQ rfl (Or.inl rfl) (.inr rfl)) (zL (zk (i:=1) zkQ rfl (Or.inl rfl) (.inr rfl)) yL)),yK,pv 0⟩)) zd))))),?_⟩
 refine⟨_,rfl,a,c,xs,rfl,hS,hc,lT,lP,fun p H1 s1 two=>?_⟩;obtain⟨l1,l2,ys,n1,n2,n12,np,ep,e1,e2,gp⟩:=two;refine⟨p,_,rfl,SqT.of ep,rfl,_,_,rfl,_,_,rfl,rfl,?_⟩;refine⟨_,rfl,l1,_,rfl,.inl (SqL.of e1),_,rfl,l2,rfl,⟨_,SqL.of e2⟩,fun D hD=>?_⟩;have lys:ys.length=(xv c).length:=by rw[gp.length,length_map]
 refine wV (K:=K) (xs:=ys) (fun i zs H'=>zm H1 H'/\H' D=some (.lst zs)/\zs=((yX c).take i).map V.str) ⟨zc hD _,za,rfl⟩ (fun i zs H' h=>SqL.of (h.1 _ _ e2)) ?_ ?_
 ·rintro i x zs H' hlt hx ⟨sH,hDy,ez⟩
  obtain⟨d,hd,hy⟩:=Paired.get gp hx;obtain⟨pr',hpr,rfl⟩:=zf0 hd;obtain⟨b,rfl,hb⟩:=zes (hy.same sH);refine⟨b,_,rfl,hb,rfl,_,_,rfl,_,_,rfl,rfl,fun _=>⟨_,rfl,?_⟩,fun e=>Bool.noConfusion e⟩;have hi:i<(yX c).length:=by unfold yX;rw[length_map];omega
  have en:(yX c)[i]=pr'.1:=by
   have:(yX c)[i]?=some pr'.1:=by unfold yX;rw[getElem?_map,hpr];rfl
   rw[getElem?_eq_getElem hi] at this;exact Option.some.inj this
  refine lcN.mk hlt (z3 (by omega)) hDy (by rw[ez,length_map,length_take];omega) ⟨fun b' u e=>?_,za,?_⟩
  ·rw[zh (zi e hD)]
   exact sH b' u e
  ·rw[ez,take_succ_eq_append_getElem hi,en,map_append]
   rfl
 rintro zs H2 ⟨s2,hDy,ez⟩;have hz:zs=(yX c).map V.str:=by
  rw[ez,take_of_length_le (by unfold yX;rw[length_map];omega)]
 subst hz;refine⟨zz2,fun t ht=>?_⟩;have s3:=zc ht (.tup [.int ((xl c).map V.int).length,.ref D]);refine q t D _ (s1.trans (s2.trans s3)) (s1.free hD) (by rw[za,length_map]) (s3 _ _ hDy)
theorem up:zu ["names","firsts","number","name"] ["names"] (zg zaP):=⟨rfl,rfl,rfl,by decide +kernel,rfl,by decide +kernel,by decide +kernel⟩
theorem zez(F:Fun K "first_numbers" "first_numbers" zaP f fd) (hen:mg "enumerate"=none):zJ P w K mg base CX0 1 f fd ["names"] zbp:=by
 refine F.ok up (fun vs H Q E h=>?_) (fun cdv A outer s H vs Q E hr h=>?_)
 ·obtain⟨a,zs,rfl,_⟩:=h
  rfl
 obtain⟨a,zs,rfl,ha,lz,q⟩:=h;have hu1:=zdT hr;refine⟨_,zj (zy (i:=1) up.nd rfl (Or.inl rfl) zfW)
  (zj (yW PassesOwn.never rfl (wS rfl hen (ac (pv 0) zd)) (xf rfl (zL (zk (i:=2) up.nd rfl (Or.inl rfl)) (zL (zk (i:=3) up.nd rfl (Or.inl rfl)) yL)))
   (ze (zP (xE (zeo hu1 (pv 3) (pv 1))) (ze (zhB hu1 (pv 1) (pv 3) (pv 2) rfl)) zE)))
  (ze (zC (zjI (pv 1))))),?_⟩
 intro sd hsd;have s1:=zc hsd (.dK []);have e1:upd H sd (.dK []) sd=some (.dK []):=za;show uO _ _ _ _ (upd H sd (.dK []));generalize upd H sd (.dK [])=H1 at s1 e1 |-;refine⟨_,rfl,a,rfl,⟨_,SqL.of (s1 _ _ ha)⟩,vo (K:=K) (a:=a) (xs:=zs.map V.str) (fun i σ H'=>∃(v2 v3:Option V),σ=[some (.ref a),some (.ref sd),v2,v3]/\zm H H'/\H' sd=some (.dK (vP 0 [] (zs.take i))))
  ⟨_,_,rfl,s1,e1⟩ (fun i σ H' _ ⟨_,_,_,sH,_⟩=>SqL.of (sH _ _ ha)) ?_ ?_⟩
 ·rintro i x p σ H' hx ⟨v2,v3,rfl,sH,hd⟩ hpn
  obtain⟨z,hz,rfl⟩:=strs_at hx;have sp:=zc hpn (.tup [.int (i:Nat),.str z]);have hd2:=sp _ _ hd;have tk:=zac zs 0 i [] hz;rw[Nat.zero_add] at tk;have hi:i<zs.length:=(List.getElem?_eq_some_iff.mp hz).1;refine⟨p,_,rfl,SqT.of za,rfl,_,_,rfl,_,_,rfl,rfl,?_⟩;refine⟨_,rfl,_,rfl,sd,_,rfl,.inl ⟨_,.inr z,.inl hd2,rfl,rfl⟩,_,rfl,?_⟩;refine za4 (fun ne=>?_) (fun ne=>?_)
  ·have ns:¬(z5 (vP 0 [] (zs.take i)) (.inr z)).isSome=true:=by
    intro e;rw[e] at ne;cases ne
   rw[if_neg ns] at tk;have ln:=zbX (zs.take i) 0 [];refine⟨_,rfl,_,rfl,_,rfl,sd,_,rfl,.inl ⟨_,.inr z,hd2,rfl,zT (by rw[length_take] at ln;simp at ln;omega),rfl⟩,?_⟩
   refine⟨_,_,rfl,fun b' u e=>?_,by rw[za,tk]⟩
   rw[zh (zi e hsd)];exact sp _ _ (sH _ _ e)
  ·have ns:(z5 (vP 0 [] (zs.take i)) (.inr z)).isSome=true:=by
    cases e:(z5 (vP 0 [] (zs.take i)) (.inr z)).isSome with
    | true=>rfl
    | false=>exact absurd (by rw[e];rfl) ne
   rw[if_pos ns] at tk;exact⟨_,_,rfl,sH.trans sp,by rw[tk];exact hd2⟩
 ·rintro σ H' ⟨v2,v3,rfl,sH,hd⟩
  rw[length_map,take_length] at hd;refine⟨_,rfl,sd,_,rfl,hd,fun o=>?_⟩;refine q sd o _ (fun b' u e=>?_) hsd za;rw[zh (zi e hsd)];exact sH _ _ e
end
def MA1(H:Hp) (u:Addr) (m:Str×Nat):Prop:=H u=some (.tup [.str m.1,.int (m.2:Nat)])
def wL(H:Hp) (us:List Addr) (ms:List (Str×Nat)):Prop:=Paired (MA1 H) us ms
theorem wL.same{H H':Hp}{us:List Addr}{ms:List (Str×Nat)}(h:wL H us ms) (s:zm H H'):wL H' us ms:=Paired.imp' (fun _ _ z=>s _ _ z) h
theorem wL.upd{H:Hp}{us:List Addr}{ms:List (Str×Nat)}{D:Addr}{ys:List V}{o:HO}(h:wL H us ms) (hD:H D=some (.lst ys)):wL (upd H D o) us ms:=Paired.imp' (fun u m z=>by
 show L2.upd H D o u=_;rw[zh (fun e=>by rw[e] at z;rw[MA1,hD] at z;cases z)]
 exact z) h
theorem wL.snoc{H:Hp}{us:List Addr}{ms:List (Str×Nat)}{u:Addr}{m:Str×Nat}(h:wL H us ms) (hu:MA1 H u m):wL H (us++[u]) (ms++[m]):=Paired.snoc h hu
def zcb(H H':Hp) (l:Addr) (ms:List (Str×Nat)):Prop:=∃us:List Addr,H l=none/\H' l=some (.lst (us.map V.ref))/\wL H' us ms
def vT(rows:List Rw) (many:Nat):List (Str×Nat):=if (zO 2 0 rows).isSome=true then [] else (List.range (many - plN rows)).map fun i=>((("over" : Str),plN rows+i):Str×Nat)
def zdt(c:C5) (CF:Addr):Sp:=fun vs H Q _=>∃(f:Addr) (many:Nat) (rows:List Rw) (bars:List Str),vs=[.ref f,.int (many:Nat)]/\many<=900/\rows.length<=500/\xH c CF H f rows bars/\∀(l:Addr) (H':Hp),zm H H'->zcb H H' l (vT rows many)->Q (.ref l) H'
def zaW(r:Rw) (i many:Nat) (fk:List (Key×V)):List V:=
 if wm r.k=true/\i<many then [.str "place",.int (i:Nat)] else if yd r.k=true/\(z5 fk (.inr r.z)).isSome=true then [.str "name",(z5 fk (.inr r.z)).getD .non] else [.str "free"]
def zdk(fk:List (Key×V)):Prop:=∀k v,z5 fk k=some v->xN v=true
def ze8(c:C5):Sp:=fun vs H Q _=>∃(p d:Addr) (i many:Nat) (r:Rw) (fk:List (Key×V)),vs=[.ref p,.int (i:Nat),.int (many:Nat),.ref d]/\PAt c H p r/\r.ok/\Rd H d (.dK fk)/\∀(u:Addr) (H':Hp),zm H H'->H' u=some (.tup (zaW r i many fk))->Q (.ref u) H'
def xS(r:Rw) (i many:Nat) (fk:List (Key×V)):Bool:=!fr r.k r.b&&L2.eqT (zaW r i many fk) [.str "free"]
def w5(many:Nat) (fk:List (Key×V)):Nat->List Rw->List (Str×Nat)
 | _,[]=>[]
 | i,r::rs=>(if xS r i many fk=true then [(("lacking" : Str),i)] else [])++w5 many fk (i+1) rs
theorem qb{many:Nat}{fk:List (Key×V)}{r:Rw}:∀(rows:List Rw) (j i:Nat),rows[i]?=some r->w5 many fk j (rows.take (i+1))=w5 many fk j (rows.take i)++(if xS r (j+i) many fk=true then [(("lacking" : Str),j+i)] else [])
 | [],_,_,h=>by simp at h
 | y::ys,j,0,h=>by
  have e:y=r:=by simpa using h
  subst e;show(_++[])=[]++_;rw[append_nil,nil_append];rfl
 | y::ys,j,i+1,h=>by
  have:=qb (many:=many) (fk:=fk) ys (j+1) i (by simpa using h)
  show _++w5 many fk (j+1) (ys.take (i+1))=_;rw[this,show j+1+i=j+(i+1) by omega,<- append_assoc]
  rfl
theorem uX(many:Nat) (fk:List (Key×V)):∀(rows:List Rw) (i:Nat),(w5 many fk i rows).length<=rows.length
 | [],_=>Nat.le_refl _
 | r::rs,i=>by
  have:=uX many fk rs (i+1)
  show(_++w5 many fk (i+1) rs).length<=rs.length+1;rw[length_append];split
  ·rw[length_singleton];omega
  ·rw[length_nil];omega
theorem zeu{r:Rw}{i many:Nat}{fk:List (Key×V)}(h:zdk fk):(zaW r i many fk).all xN=true:=by
 unfold zaW;split
 ·rfl
 ·split
  next h2=>
   obtain⟨v,hv⟩:=Option.isSome_iff_exists.mp h2.2;rw[hv];show(true&&(xN v&&true))=true;rw[h _ _ hv];rfl
  ·rfl
def zdv(c:C5) (CF:Addr):Sp:=fun vs H Q _=>∃(f d:Addr) (many:Nat) (rows:List Rw) (bars:List Str) (fk:List (Key×V)),vs=[.ref f,.int (many:Nat),.ref d]/\rows.length<=500/\(∀r∈rows,r.ok)/\xH c CF H f rows bars/\Rd H d (.dK fk)/\zdk fk/\∀(l:Addr) (H':Hp),zm H H'->zcb H H' l (w5 many fk 0 rows)->Q (.ref l) H'
theorem zm.rd{H H':Hp}{a:Addr}{u:HO}(s:zm H H') (h:Rd H a u):Rd H' a u:=h.elim (fun e=>.inl (s _ _ e)) fun⟨o,e⟩=>.inr ⟨o,s _ _ e⟩
section
variable {P:Program}{w:World}{K:Frag}{mg:Str->Option Value}{base:Heap}{f CF:Addr}{fd:FuncData}{c:C5}{m:MA}
theorem zkP:([Str.ofString "number"]:List Str).Nodup:=by decide +kernel
theorem zhn:zu ["form","many"] ["form","many"] (zg zcs):=⟨rfl,rfl,rfl,by decide +kernel,rfl,by decide +kernel,by decide +kernel⟩
theorem zgf{gT gP:Addr}{eT eP:FuncData}(F:Fun K "overs" "overs" zcs f fd) (hran:mg "range"=none) (FK:FC K CF) (mT:xp K CF "tail" gT) (GT:zJ P w K mg base CX0 1 gT eT ["self"] (vc c CF 2)) (bT:z7 K eT ["self"] []) (mP:xp K CF "places" gP) (GP:zJ P w K mg base CX0 1 gP eP ["self"] (wE c CF)) (bP:z7 K eP ["self"] []) :
  zJ P w K mg base CX0 2 f fd ["form","many"] (zdt c CF):=by
 refine F.ok zhn (fun vs H Q E h=>?_) (fun cdv A outer s H vs Q E hr h=>?_)
 ·obtain⟨f,many,rows,bars,rfl,_⟩:=h
  rfl
 obtain⟨f,many,rows,bars,rfl,lm,l5,hF,q⟩:=h;refine⟨_,zj (zP (xE (zdN (yz (pv 0) FK.cl mT GT hr bT .nil yp))) (ze (zC (zW zd))) zE)
  (ze (zC (yP [] ["number"] [none] rfl ⟨rfl,rfl,rfl,rfl⟩ (zel rfl hran (ac (yz (pv 0) FK.cl mP GP hr bP .nil yp) (ac (pv 1) zd))) (zG 0) rfl rfl rfl
   (fun pins fp s H C=>⟨zk (i:=0) zkP rfl (Or.inl rfl) (.inr rfl),yK,zZ (ac zD (ac (pv 0) zd))⟩)))),?_⟩
 obtain⟨dx,fs,lr,lb,ld,ps,h1,h2,h3,h4,h5,h6⟩:=id hF;have nmT:fs.lookup ("tail" : Str)=none:=h2.no _ (by decide +kernel)
 have nmP:fs.lookup ("places" : Str)=none:=h2.no _ (by decide +kernel)
 refine⟨_,rfl,f,dx,fs,rfl,h1,nmT,f,rows,bars,rfl,hF,?_⟩;refine⟨_,rfl,?_⟩;cases e:zO 2 0 rows with
 | some i=>
  have ef:vT rows many=[]:=by unfold vT;rw[e];rfl
  have ne:(!decide (wj (some i)=V.non))=true:=rfl;rw[if_pos ne];refine⟨zz0,fun l hl=>?_⟩;exact q l _ (zc hl _) ⟨[],hl,za,by rw[ef];exact .nil⟩
 | none=>
  have ef:vT rows many=(List.range (many - plN rows)).map fun i=>((("over" : Str),plN rows+i):Str×Nat):=by unfold vT;rw[e];rfl
  refine yq ?_;have lp:plN rows<=500:=Nat.le_trans (length_filter_le _ _) l5;refine⟨_,rfl,f,dx,fs,rfl,h1,nmP,f,rows,bars,rfl,hF,_,rfl,(plN rows:Nat),(many:Nat),rfl,⟨by omega,by omega,by omega,by omega⟩,fun D hD=>?_⟩
  have en:((many:Int) - (plN rows:Int)).toNat=many - plN rows:=by omega
  refine zbQ (n:=((many:Int) - (plN rows:Int)).toNat) (fun i ys H'=>∃us,ys=us.map V.ref/\zm H H'/\H' D=some (.lst ys)/\wL H' us ((List.range i).map fun i=>((("over" : Str),plN rows+i):Str×Nat))) ⟨[],rfl,zc hD _,za,.nil⟩ ?_ ?_
  ·rintro i ys H' hi ⟨us,rfl,sH,hDy,hm⟩
   have lu:us.length=i:=by rw[hm.length,length_map,length_range]
   refine⟨fun _=>?_,fun e=>Bool.noConfusion e⟩;refine⟨_,rfl,zz2,fun t ht=>?_⟩;have s2:=zc ht (.tup [.str "over",.int ((plN rows:Int)+(i:Int))]);have hDy2:=s2 _ _ hDy;refine lcN.mk hi (z3 (by omega)) hDy2 (by rw[length_map,lu];exact Nat.le_refl _) ⟨us++[t],by rw[map_append];rfl,fun b' u' e'=>?_,za,?_⟩
   ·rw[zh (zi e' hD)]
    exact s2 _ _ (sH _ _ e')
   ·rw[range_succ,map_append]
    have hu:MA1 (upd H' t (.tup [.str "over",.int ((plN rows:Int)+(i:Int))])) t ("over",plN rows+i):=by
     show upd H' t _ t=_;rw[za];rfl
    exact((hm.same s2).snoc hu).upd hDy2
  ·rintro ys H' ⟨us,rfl,sH,hDy,hm⟩
   rw[en,<- ef] at hm;exact q D H' sH ⟨us,hD,hDy,hm⟩
theorem zjh:zu ["parameter","number","many","firsts"] ["parameter","number","many","firsts"] (zg zfy):=⟨rfl,rfl,rfl,by decide +kernel,rfl,by decide +kernel,by decide +kernel⟩
theorem zhN{gp gb:FuncData}(F:Fun K "one_entry" "one_entry" zfy f fd) (PP:Pcs K m c) (GP:zJ P w K mg base CX0 1 m.fP gp ["self"] (jG K m bpL)) (bP:z7 K gp ["self"] []) (GB:zJ P w K mg base CX0 1 m.fB gb ["self"] (jG K m bnL)) (bB:z7 K gb ["self"] []) :
  zJ P w K mg base CX0 2 f fd ["parameter","number","many","firsts"] (ze8 c):=by
 refine F.ok zjh (fun vs H Q E h=>?_) (fun cdv A outer s H vs Q E hr h=>?_)
 ·obtain⟨p,d,i,many,r,fk,rfl,_⟩:=h
  rfl
 obtain⟨p,d,i,many,r,fk,rfl,⟨dx,hp⟩,rok,hd,q⟩:=h;have hu1:=zdT hr;have C:=PP r.k rok.1;refine⟨_,zj (zP (PW.pt (xa (yr (yz (pv 0) C.cl C.mP GP hr bP .nil yp)) (yQ (zo vU (pv 1) (pv 2) (zI _))))) (ze (zC (zZ (ac zD (ac (pv 1) zd))))) zE)
  (zj (zP (PW.pt (xa (yr (yz (pv 0) C.cl C.mB GB hr bB .nil yp)) (yQ (xE (zjJ hu1 (y4 (pv 0) rfl) (pv 3)))))) (ze (zC (zZ (ac zD (ac (zdM hu1 (pv 3) (y4 (pv 0) rfl) (fun _ _=>rfl)) zd))))) zE)
  (ze (zC (zZ (ac zD zd))))),?_⟩
 have nP:(pr r).lookup ("by_place" : Str)=none:=uz (by decide +kernel) (by decide +kernel) (by decide +kernel)
 have nB:(pr r).lookup ("by_name" : Str)=none:=uz (by decide +kernel) (by decide +kernel) (by decide +kernel)
 try dsimp only
 refine yB (fun σ' H'=>σ'=[some (.ref p),some (.int (i:Nat)),some (.int (many:Nat)),some (.ref d)]/\H'=H/\¬(wm r.k=true/\i<many)) ?_ (fun key=>?_);rotate_left
 ·refine⟨_,rfl,p,dx,_,rfl,hp,nP,p,dx,_,_,_,_,rfl,C,hp,_,rfl,?_⟩
  rw[zgE r.k rok.1];cases eb:wm r.k with
  | false=>
   refine yq ?_;refine yq ?_;exact key _ _ ⟨rfl,rfl,by rw[eb];exact fun z=>Bool.noConfusion z.1⟩
  | true=>
   refine xm ?_;refine⟨_,rfl,_,rfl,_,_,rfl,rfl,_,rfl,?_⟩;refine za4 (fun c1=>?_) (fun c1=>?_)
   ·have hlt:i<many:=by
     have:=of_decide_eq_true c1
     omega
    refine⟨_,rfl,zz2,fun t ht=>?_⟩;exact q t _ (zc ht _) (by rw[za];unfold zaW;rw[if_pos ⟨eb,hlt⟩])
   ·have hlt:¬i<many:=fun h=>c1 (decide_eq_true (by show(i:Int)<(many:Int);omega))
    exact key _ _ ⟨rfl,rfl,fun z=>hlt z.2⟩
 rintro σ1 H1 ⟨rfl,rfl,nn⟩;have e1:zaW r i many fk=(if yd r.k=true/\(z5 fk (.inr r.z)).isSome=true then [.str "name",(z5 fk (.inr r.z)).getD .non] else [.str "free"]):=by unfold zaW;rw[if_neg nn]
 try dsimp only
 refine yB (fun σ' H'=>σ'=[some (.ref p),some (.int (i:Nat)),some (.int (many:Nat)),some (.ref d)]/\H'=H1/\¬(yd r.k=true/\(z5 fk (.inr r.z)).isSome=true)) ?_ (fun key=>?_);rotate_left
 ·refine⟨_,rfl,p,dx,_,rfl,hp,nB,p,dx,_,_,_,_,rfl,C,hp,_,rfl,?_⟩
  rw[zab r.k rok.1];cases eb:yd r.k with
  | false=>
   refine yq ?_;refine yq ?_;exact key _ _ ⟨rfl,rfl,by rw[eb];exact fun z=>Bool.noConfusion z.1⟩
  | true=>
   refine xm ?_;refine⟨_,rfl,p,_,dx,_,_,rfl,hp,C.cl,C.nN,vG,_,rfl,d,_,rfl,.inl ⟨fk,.inr r.z,hd,rfl,rfl⟩,_,rfl,?_⟩;refine za4 (fun c1=>?_) (fun c1=>?_)
   ·obtain⟨v,hv⟩:=Option.isSome_iff_exists.mp c1
    refine⟨_,rfl,_,rfl,p,_,dx,_,_,rfl,hp,C.cl,C.nN,vG,d,v,rfl,.inl ⟨fk,.inr r.z,hd,rfl,hv.symm⟩,zz2,fun t ht=>?_⟩;exact q t _ (zc ht _) (by rw[za,e1,if_pos ⟨eb,c1⟩,hv];rfl)
   ·exact key _ _ ⟨rfl,rfl,fun z=>c1 z.2⟩
 rintro σ2 H2 ⟨rfl,rfl,nn2⟩;refine⟨zz1,fun t ht=>?_⟩;exact q t _ (zc ht _) (by rw[za,e1,if_neg nn2])
theorem jq:zu ["form","many","firsts","found","number","parameter"] ["form","many","firsts"] (zg zfD):=⟨rfl,rfl,rfl,by decide +kernel,rfl,by decide +kernel,by decide +kernel⟩
theorem zgk{g gP:Addr}{gd gf eP:FuncData}(F:Fun K "lackings" "lackings" zfD f fd) (hen:mg "enumerate"=none) (PP:Pcs K m c) (FK:FC K CF) (mP:xp K CF "parameters" gP) (GP:zJ P w K mg base CX0 1 gP eP ["self"] (zau c CF)) (bP:z7 K eP ["self"] [])
  (GF:zJ P w K mg base CX0 1 m.fF gf ["self"] (zax K m)) (bF:z7 K gf ["self"] []) (cE1:zK P w K mg base 2 "one_entry" g gd ["parameter","number","many","firsts"] (ze8 c)):zJ P w K mg base CX0 3 f fd ["form","many","firsts"] (zdv c CF):=by
 refine F.ok jq (fun vs H Q E h=>?_) (fun cdv A outer s H vs Q E hr h=>?_)
 ·obtain⟨f,d,many,rows,bars,fk,rfl,_⟩:=h
  rfl
 obtain⟨f,d,many,rows,bars,fk,rfl,l5,hok,hF,hd,hfl,q⟩:=h;have hr1:yw 1 _:=hr.mono (by decide)
 have hU:=hr.units;have hO:∀C,Cs5 c C->Cls K C/\xp K C "free" m.fF:=fun C ⟨k,hk,e⟩=>by rw[e];exact⟨(PP k hk).cl,(PP k hk).mF⟩
 refine⟨_,zj (zy (i:=3) jq.nd rfl (Or.inl rfl) (zW zd))
  (zj (yW PassesOwn.never rfl (wS rfl hen (ac (yz (pv 0) FK.cl mP GP hr1 bP .nil yp) zd)) (xf rfl (zL (zk (i:=4) jq.nd rfl (Or.inl rfl)) (zL (zk (i:=5) jq.nd rfl (Or.inl rfl)) yL)))
   (ze (zP (PW.pt (xa (xc (yr (wc (pv 5) hO GF hr1 bF yp))) (yQ (zo (zf4 hU) (cF cE1 hr (ac (pv 5) (ac (pv 4) (ac (pv 1) (ac (pv 2) zd))))) (zZ (ac zD zd)) (zI _)))))
    (ze (z6 (xL PySem.F.plainAttrs_list PySem.F.slot_list_append PySem.F.type_list_append yu (pv 3) (ac (zZ (ac zD (ac (pv 4) zd))) zd)))) zE)))
  (ze (zC (pv 3)))),?_⟩
 refine⟨zz0,fun l hl=>?_⟩;have s1:=zc hl (.lst []);have e1:upd H l (.lst []) l=some (.lst []):=za;show uO _ _ _ _ (upd H l (.lst []));generalize upd H l (.lst [])=H1 at s1 e1 |-;obtain⟨dx,fs,lr,lb,ld,ps0,h1,h2,h3,h4,h5,h6⟩:=id hF;have nmP:fs.lookup ("parameters" : Str)=none:=h2.no _ (by decide +kernel)
 refine⟨_,rfl,f,dx,fs,rfl,s1 _ _ h1,nmP,f,rows,bars,rfl,hF.same s1,fun lp ps H2 s2 np ep hps=>?_⟩;have e2:=s2 _ _ e1;have nlp:lp≠l:=Ne.symm (zi e1 np);have nd:∀{b:Addr}{u:HO},H b=some u->b≠l:=fun e=>zi e hl;have s12:=s1.trans s2;have sHl:∀{H':Hp},(∀b u,H2 b=some u->b≠l->H' b=some u)->zm H H':=fun k b u e=>k b u (s12 _ _ e) (nd e);refine⟨lp,rfl,⟨_,SqL.of ep⟩,vo (K:=K) (a:=lp) (xs:=ps.map V.ref) (fun i σ H'=>∃(us:List Addr) (v4 v5:Option V),σ=[some (.ref f),some (.int (many:Nat)),some (.ref d),some (.ref l),v4,v5]/\(∀b u,H2 b=some u->b≠l->H' b=some u)/\H' l=some (.lst (us.map V.ref))/\wL H' us (w5 many fk 0 (rows.take i)))
  ⟨[],_,_,rfl,fun _ _ e _=>e,e2,.nil⟩ (fun i σ H' _ ⟨_,_,_,_,sH,_⟩=>SqL.of (sH _ _ ep nlp)) ?_ ?_⟩
 ·rintro i x p σ H' hx ⟨us,v4,v5,rfl,sH,hl',hm⟩ hpn
  obtain⟨pa,hpa,rfl⟩:=yV hx;obtain⟨r,hr',dx',hdx⟩:=yb hps hpa;have rok:=hok r (mem_of_getElem? hr');have C:=PP r.k rok.1;have hi:i<rows.length:=(List.getElem?_eq_some_iff.mp hr').1;have npa:pa≠l:=xY hdx e2 (by intro z;cases z)
  have tk:=qb (many:=many) (fk:=fk) rows 0 i hr';rw[Nat.zero_add] at tk;have sp:=zc hpn (.tup [.int (i:Nat),.ref pa]);have lu:us.length<=i:=by
   rw[hm.length];refine Nat.le_trans (uX _ _ _ _) ?_;rw[length_take];omega
  have sH1:∀b u,H2 b=some u->b≠l->upd H' p (.tup [.int (i:Nat),.ref pa]) b=some u:=fun b u e n=>sp _ _ (sH b u e n);have hl1:=sp _ _ hl';have hm1:=hm.same sp;refine⟨p,_,rfl,SqT.of za,rfl,_,_,rfl,_,_,rfl,rfl,?_⟩;generalize upd H' p (.tup [.int (i:Nat),.ref pa])=H3 at sH1 hl1 hm1 |-;have hd3:=sH1 _ _ hdx npa;refine⟨_,rfl,pa,_,dx',_,rfl,⟨r.k,rok.1,rfl⟩,hd3,uz (by decide +kernel) (by decide +kernel) (by decide +kernel),pa,dx',_,_,_,_,rfl,C,hd3,_,rfl,?_⟩
  cases ef:fr r.k r.b with
  | true=>
   have il:xS r i many fk=false:=by unfold xS;rw[ef];rfl
   rw[il,if_neg Bool.false_ne_true,append_nil] at tk;refine yq ?_;refine yq ?_;exact⟨us,_,_,rfl,sH1,hl1,by rw[tk];exact hm1⟩
  | false=>
   refine xm ?_;refine⟨_,rfl,_,rfl,_,rfl,_,rfl,pa,d,i,many,r,fk,rfl,⟨dx',hd3⟩,rok,zm.rd (sHl sH1) hd,fun u H4 s4 e4=>?_⟩;refine⟨zz1,fun t ht=>?_⟩;have s5:=zc ht (.tup [.str "free"]);refine⟨u,t,_,_,rfl,rfl,SqT.of (s5 _ _ e4),SqT.of za,zeu hfl,rfl,_,rfl,?_⟩;have s45:=s4.trans s5;have il:xS r i many fk=L2.eqT (zaW r i many fk) [.str "free"]:=by unfold xS;rw[ef];rfl
   rw[<- il];generalize upd H4 t (.tup [.str "free"])=H5 at s5 s45 |-;have hl5:=s45 _ _ hl1;have sH5:∀b u,H2 b=some u->b≠l->H5 b=some u:=fun b u e n=>s45 _ _ (sH1 b u e n);refine za4 (fun c1=>?_) (fun c1=>?_)
   ·rw[c1,if_pos rfl] at tk
    refine⟨_,rfl,.inl ⟨rfl,_,SqL.of hl5⟩,_,rfl,zz2,fun t2 ht2=>?_⟩;have s6:=zc ht2 (.tup [.str "lacking",.int (i:Nat)]);have hl6:=s6 _ _ hl5;have hu2:MA1 (upd H5 t2 (.tup [.str "lacking",.int (i:Nat)])) t2 ("lacking",i):=by
     show upd H5 t2 _ t2=_;rw[za]
    refine⟨l,_,.ref t2,rfl,rfl,hl6,zT (by rw[length_map];omega),?_⟩
    refine⟨us++[t2],_,_,rfl,fun b u e n=>?_,by rw[za,map_append];rfl,?_⟩
    ·rw[zh n]
     exact s6 _ _ (sH5 b u e n)
    ·rw[tk]
     exact(((hm1.same s45).same s6).snoc hu2).upd hl6
   ·have c2:xS r i many fk=false:=by
     cases e:xS r i many fk with
     | false=>rfl
     | true=>exact absurd e c1
    rw[c2,if_neg Bool.false_ne_true,append_nil] at tk;exact⟨us,_,_,rfl,sH5,hl5,by rw[tk];exact hm1.same s45⟩
 ·rintro σ H' ⟨us,v4,v5,rfl,sH,hl',hm⟩
  rw[length_map,hps.length,take_length] at hm;exact⟨_,rfl,q l H' (sHl sH) ⟨us,hl,hl',hm⟩⟩
end
def fpF:Nat->List (Str×Nat)->List Str->List (Str×Nat)
 | _,acc,[]=>acc
 | i,acc,z::zs=>fpF (i+1) (if (acc.any fun p=>decide (p.1=z))=true then acc else acc++[(z,i)]) zs
def kvP(fp:List (Str×Nat)):List (Key×V):=fp.map fun p=>(.inr p.1,.int (p.2:Nat))
theorem wu(fp:List (Str×Nat)) (z:Str):(z5 (kvP fp) (.inr z)).isSome=fp.any fun p=>decide (p.1=z):=by
 rw[<- wB];unfold kvP;rw[any_map]
 congr 1
 funext p
 show decide ((Sum.inr p.1:Key)=Sum.inr z)=decide (p.1=z);exact zgA _ _
theorem zc7:∀(zs:List Str) (i:Nat) (acc:List (Str×Nat)),vP i (kvP acc) zs=kvP (fpF i acc zs)
 | [],_,_=>rfl
 | z::zs,i,acc=>by
  show vP (i+1) (if (z5 (kvP acc) (.inr z)).isSome=true then kvP acc else xb (kvP acc) (.inr z) (.int i)) zs=kvP (fpF (i+1) (if (acc.any fun p=>decide (p.1=z))=true then acc else acc++[(z,i)]) zs)
  rw[wu];cases e:acc.any fun p=>decide (p.1=z) with
  | true=>exact zc7 zs (i+1) acc
  | false=>
   have e2:xb (kvP acc) (.inr z) (.int (i:Nat))=kvP (acc++[(z,i)]):=by
    unfold xb;rw[wB,wu,e,if_neg Bool.false_ne_true];unfold kvP;rw[map_append];rfl
   rw[if_neg Bool.false_ne_true,if_neg Bool.false_ne_true,e2];exact zc7 zs (i+1) _
theorem za0{fp:List (Str×Nat)}{k:Key}{v:V}(h:z5 (kvP fp) k=some v):∃(z:Str) (j:Nat),k=.inr z/\v=.int (j:Nat)/\(z,j)∈fp:=by
 unfold z5 at h;cases e:(kvP fp).find? fun kv=>decide (kv.1=k) with
 | none=>rw[e] at h;cases h
 | some kv=>
  rw[e] at h;have hm:=List.mem_of_find?_eq_some e;have hk:=find?_some e;unfold kvP at hm;obtain⟨p,hp,rfl⟩:=List.mem_map.mp hm;exact⟨p.1,p.2,(of_decide_eq_true hk).symm,(Option.some.inj h).symm,hp⟩
theorem zie(fp:List (Str×Nat)):zdk (kvP fp):=fun k v h=>by
 obtain⟨z,j,_,rfl,_⟩:=za0 h;rfl
theorem zdW{z:Str}:∀(zs:List Str) (i:Nat) (acc:List (Str×Nat)),(acc.any fun p=>decide (p.1=z))=true->((fpF i acc zs).any fun p=>decide (p.1=z))=true
 | [],_,_,h=>h
 | y::ys,i,acc,h=>by
  show((fpF (i+1) _ ys).any _)=true;refine zdW ys (i+1) _ ?_;split
  ·exact h
  ·rw[any_append,h];rfl
theorem zc8{z:Str}:∀(zs:List Str) (i:Nat) (acc:List (Str×Nat)),z∈zs->((fpF i acc zs).any fun p=>decide (p.1=z))=true
 | [],_,_,h=>by cases h
 | y::ys,i,acc,h=>by
  show((fpF (i+1) _ ys).any _)=true;rcases List.mem_cons.mp h with rfl|h
  ·refine zdW ys (i+1) _ ?_
   split
   next e=>exact e
   ·rw[any_append]
    simp
  ·exact zc8 ys (i+1) _ h
def fpZ(zs:List Str):List (Str×Nat):=fpF 0 [] zs
theorem zk6(zs:List Str):vP 0 [] zs=kvP (fpZ zs):=zc7 zs 0 []
def jn(fk:List (Key×V)):Nat->List Str->List (Str×Nat)
 | _,[]=>[]
 | i,z::zs=>(if z5 fk (.inr z)=some (.int (i:Nat)) then [] else [(("doubled" : Str),i)])++jn fk (i+1) zs
theorem zai{fk:List (Key×V)}{z:Str}:∀(zs:List Str) (j i:Nat),zs[i]?=some z->jn fk j (zs.take (i+1))=jn fk j (zs.take i)++(if z5 fk (.inr z)=some (.int (j+i:Nat)) then [] else [(("doubled" : Str),j+i)])
 | [],_,_,h=>by simp at h
 | y::ys,j,0,h=>by
  have e:y=z:=by simpa using h
  subst e;show(_++[])=[]++_;rw[append_nil,nil_append];rfl
 | y::ys,j,i+1,h=>by
  have:=zai (fk:=fk) ys (j+1) i (by simpa using h)
  show _++jn fk (j+1) (ys.take (i+1))=_;rw[this,show j+1+i=j+(i+1) by omega,<- append_assoc]
  rfl
theorem qr(fk:List (Key×V)):∀(zs:List Str) (i:Nat),(jn fk i zs).length<=zs.length
 | [],_=>Nat.le_refl _
 | r::rs,i=>by
  have:=qr fk rs (i+1)
  show(_++jn fk (i+1) rs).length<=rs.length+1;rw[length_append];split
  ·rw[length_nil];omega
  ·rw[length_singleton];omega
def yT(rows:List Rw) (bars:List Str) (many:Nat) (z:Str):Option Str:=
 if z∈bars then some "barred" else match lastD' z rows with
  | none=>if (zO 4 0 rows).isSome=true then none else some "strange"
  | some l=>if l<plN rows/\l<many then some "again" else none
where lastD' (z:Str) (rows:List Rw):Option Nat:=match z5 (yY 0 [] rows) (.inr z) with
 | some (.int i)=>some i.toNat
 | _=>none
def jD(rows:List Rw) (bars:List Str) (many:Nat) (fp:List (Str×Nat)):List (Str×Nat):=fp.filterMap fun p=>(yT rows bars many p.1).map fun wd=>(wd,p.2)
def uD(rows:List Rw) (bars:List Str) (many:Nat) (zs:List Str):List (Str×Nat):=jn (kvP (fpZ zs)) 0 zs++vT rows many++jD rows bars many (fpZ zs)++w5 many (kvP (fpZ zs)) 0 rows
def ziA(c:C5) (CF:Addr):Sp:=fun vs H Q _=>∃(f d:Addr) (o:Obj) (many:Nat) (rows:List Rw) (bars:List Str) (fp:List (Str×Nat)),vs=[.ref f,.int (many:Nat),.ref d]/\rows.length<=500/\bars.length<=500/\fp.length<=900/\xH c CF H f rows bars/\H d=some (.frz o (.dK (kvP fp)))/\∀(l:Addr) (H':Hp),zm H H'->zcb H H' l (jD rows bars many fp)->Q (.ref l) H'
def ziH(c:C5) (CF:Addr):Sp:=fun vs H Q _=>∃(f a:Addr) (many:Nat) (rows:List Rw) (bars zs:List Str),vs=[.ref f,.int (many:Nat),.ref a]/\rows.length<=500/\bars.length<=500/\many<=900/\zs.length<=900/\(∀r∈rows,r.ok)/\xH c CF H f rows bars/\H a=some (.lst (zs.map V.str))/\∀(l:Addr) (H':Hp),zm H H'->zcb H H' l (uD rows bars many zs)->Q (.ref l) H'
theorem zdX:∀(zs:List Str) (i:Nat) (acc:List (Str×Nat)),(fpF i acc zs).length<=acc.length+zs.length
 | [],_,_=>Nat.le_refl _
 | z::zs,i,acc=>by
  have h:=zdX zs (i+1) (if (acc.any fun p=>decide (p.1=z))=true then acc else acc++[(z,i)])
  have h2:(if (acc.any fun p=>decide (p.1=z))=true then acc else acc++[(z,i)]).length<=acc.length+1:=by
   split
   ·omega
   ·rw[length_append];exact Nat.le_refl _
  show(fpF (i+1) _ zs).length<=acc.length+(zs.length+1);omega
theorem wL.app{H:Hp}{us vs:List Addr}{ms ns:List (Str×Nat)}(h:wL H us ms) (h':wL H vs ns):wL H (us++vs) (ms++ns):=yl h h'
section
variable {P:Program}{w:World}{K:Frag}{mg:Str->Option Value}{base:Heap}{f CF:Addr}{fd:FuncData}{c:C5}{m:MA}
theorem zkV:([Str.ofString "number",Str.ofString "name",Str.ofString "firsts"]:List Str).Nodup:=by decide +kernel
theorem zfr:zu ["form","many","names","firsts","doubled"] ["form","many","names"] (zg zjw):=⟨rfl,rfl,rfl,by decide +kernel,rfl,by decide +kernel,by decide +kernel⟩
theorem zjU{g1 g2 g3 g4:Addr}{d1 d2 d3 d4:FuncData}(F:Fun K "misfits_of" "misfits_of" zjw f fd) (hen:mg "enumerate"=none) (c1:zK P w K mg base 1 "first_numbers" g1 d1 ["names"] zbp) (c2:zK P w K mg base 2 "overs" g2 d2 ["form","many"] (zdt c CF)) (c3:zK P w K mg base 2 "unwelcomes" g3 d3 ["form","many","firsts"] (ziA c CF)) (c4:zK P w K mg base 3 "lackings" g4 d4 ["form","many","firsts"] (zdv c CF)) :
  zJ P w K mg base CX0 4 f fd ["form","many","names"] (ziH c CF):=by
 refine F.ok zfr (fun vs H Q E h=>?_) (fun cdv A outer s H vs Q E hr h=>?_)
 ·obtain⟨f,a,many,rows,bars,zs,rfl,_⟩:=h
  rfl
 obtain⟨f,a,many,rows,bars,zs,rfl,l5,lb5,lm,lz,hok,hF,ha,q⟩:=h;have hr1:yw 1 _:=hr.mono (by decide)
 have hr2:yw 2 _:=hr.mono (by decide)
 have hu1:=zdT hr;refine⟨_,zj (zy (i:=3) zfr.nd rfl (Or.inr rfl) (cF c1 hr1 (ac (pv 2) zd)))
  (zj (vi (i:=4) ["firsts"] ["number","name","firsts"] [none,none,some 3] zfr.nd rfl (Or.inl rfl) rfl ⟨rfl,rfl,rfl,rfl⟩ (wS rfl hen (ac (pv 2) zd)) (u5 (K:=K) (n:=2) 0 1) rfl rfl rfl
   (fun pins fp s H C=>⟨xf rfl (zL (zk (i:=0) zkV rfl (Or.inl rfl) (.inr rfl)) (zL (zk (i:=1) zkV rfl (Or.inl rfl) (.inr rfl)) yL)),yk (zo j5 (zdM hu1 (pv 2) (pv 1) (fun _ _=>rfl)) (pv 0) (zI _)),zZ (ac zD (ac (pv 0) zd))⟩))
  (ze (zC (zz ym (zz ym (zz ym (pv 4) (cF c2 hr2 (ac (pv 0) (ac (pv 1) zd)))) (cF c3 hr2 (ac (pv 0) (ac (pv 1) (ac (pv 3) zd))))) (cF c4 hr (ac (pv 0) (ac (pv 1) (ac (pv 3) zd)))))))),?_⟩
 refine⟨_,rfl,a,zs,rfl,ha,lz,fun d o H1 s1 hd0 hd1=>?_⟩;rw[zk6] at hd1;have lfp:(fpZ zs).length<=900:=by
  have:=zdX zs 0 []
  show(fpF 0 [] zs).length<=900;simp at this;omega
 generalize hfp:fpZ zs=fp at hd1 lfp;refine⟨_,rfl,a,rfl,⟨_,SqL.of (s1 _ _ ha)⟩,fun D hD=>?_⟩;refine zh8 (K:=K) (xs:=zs.map V.str) (fun i ys H'=>∃us,ys=us.map V.ref/\zm H1 H'/\H' D=some (.lst ys)/\wL H' us (jn (kvP fp) 0 (zs.take i))) ⟨[],rfl,zc hD _,za,.nil⟩ (fun i ys H' ⟨_,_,h,_⟩=>SqL.of (h _ _ (s1 _ _ ha))) ?_ ?_
 ·rintro i x p ys H' hlt hx ⟨us,rfl,sH,hDy,hm⟩ hpn
  obtain⟨z,hz,rfl⟩:=strs_at hx;have hi:i<zs.length:=(List.getElem?_eq_some_iff.mp hz).1;have tk:=zai (fk:=kvP fp) zs 0 i hz;rw[Nat.zero_add] at tk;have sp:=zc hpn (.tup [.int (i:Nat),.str z]);have lu:us.length<=i:=by
   rw[hm.length];refine Nat.le_trans (qr _ _ _) ?_;rw[length_take];omega
  have hsome:(z5 (kvP fp) (.inr z)).isSome=true:=by
   rw[wu,<- hfp];exact zc8 zs 0 [] (mem_of_getElem? hz)
  obtain⟨v,hv⟩:=Option.isSome_iff_exists.mp hsome;obtain⟨_,j,_,rfl,_⟩:=za0 hv;have hd2:=sp _ _ (sH _ _ hd1);have hDy2:=sp _ _ hDy;have hm2:=hm.same sp;refine⟨p,_,rfl,SqT.of za,rfl,_,_,rfl,_,_,rfl,rfl,?_⟩;have sA:=sH.trans sp;generalize upd H' p (.tup [.int (i:Nat),.str z])=H3 at sp hd2 hDy2 hm2 sA |-;refine⟨_,rfl,_,rfl,d,_,rfl,.inl ⟨_,.inr z,.inr ⟨o,hd2⟩,rfl,hv.symm⟩,_,rfl,rfl,_,rfl,?_⟩;by_cases ej:j=i
  ·subst ej
   rw[if_pos hv,append_nil] at tk;have ed:(!decide (V.int (j:Nat)=V.int (j:Nat)))=false:=by rw[decide_eq_true rfl];rfl
   rw[ed];exact⟨fun e=>Bool.noConfusion e,fun _=>lcS.mk hlt ⟨us,rfl,sA,hDy2,by rw[tk];exact hm2⟩⟩
  ·have nv:¬z5 (kvP fp) (.inr z)=some (.int (i:Nat)):=fun e=>by
    rw[hv] at e
    have:=V.int.inj (Option.some.inj e)
    omega
   rw[if_neg nv] at tk;have ed:(!decide (V.int (j:Nat)=V.int (i:Nat)))=true:=by
    rw[decide_eq_false (fun e=>by have:=V.int.inj e;omega)]
    rfl
   rw[ed];refine⟨fun _=>?_,fun e=>Bool.noConfusion e⟩;refine⟨_,rfl,zz2,fun t ht=>?_⟩;have s4:=zc ht (.tup [.str "doubled",.int (i:Nat)]);have hDy4:=s4 _ _ hDy2;have hu:MA1 (upd H3 t (.tup [.str "doubled",.int (i:Nat)])) t ("doubled",i):=by
    show upd H3 t _ t=_;rw[za]
   refine lcN.mk hlt (z3 (by rw[length_map];omega)) hDy4 (by rw[length_map];exact lu) ⟨us++[t],by rw[map_append];rfl,fun b' u' e'=>?_,za,?_⟩
   ·rw[zh (zi e' hD)]
    exact s4 _ _ (sA _ _ e')
   ·rw[tk]
    exact((hm2.same s4).snoc hu).upd hDy4
 rintro ys H2 ⟨us,rfl,s2,hDy,hm⟩;rw[length_map,take_length] at hm;have s12:=s1.trans s2;have lov:(vT rows many).length<=900:=by
  unfold vT;split
  ·exact zero_le _
  ·rw[length_map,length_range];omega
 have lun:(jD rows bars many fp).length<=900:=by
  unfold jD;exact Nat.le_trans (List.length_filterMap_le _ _) lfp
 have lla:=uX many (kvP fp) rows 0;have ldb:=qr (kvP fp) zs 0;have big : 4000<=sizeLine:=by decide
 refine⟨_,rfl,_,rfl,_,rfl,f,many,rows,bars,rfl,lm,l5,hF.same s12,fun l3 H3 s3 ⟨us3,n3,e3,m3⟩=>?_⟩;have lu0:=hm.length;have lu3:=m3.length;refine⟨D,l3,_,_,rfl,rfl,s3 _ _ hDy,e3,(by simp only[length_map];omega),fun p4 hp4=>?_⟩
 rw[<- map_append];have u4:=zc hp4 (.lst ((us++us3).map V.ref));have e4:upd H3 p4 (.lst ((us++us3).map V.ref)) p4=some (.lst ((us++us3).map V.ref)):=za;have m4:wL (upd H3 p4 (.lst ((us++us3).map V.ref))) (us++us3) _:=((hm.same s3).app m3).same u4;generalize upd H3 p4 (.lst ((us++us3).map V.ref))=H4 at u4 e4 m4 |-;have s24:=s2.trans (s3.trans u4);have s14:=s1.trans s24;refine⟨_,rfl,_,rfl,_,rfl,f,d,o,many,rows,bars,fp,rfl,l5,lb5,lfp,hF.same s14,s24 _ _ hd1,fun l5' H5 s5 ⟨us5,n5,e5,m5⟩=>?_⟩;have lu5:=m5.length;refine⟨p4,l5',_,_,rfl,rfl,s5 _ _ e4,e5,(by simp only[length_map,length_append];omega),fun p6 hp6=>?_⟩
 rw[<- map_append];have u6:=zc hp6 (.lst ((us++us3++us5).map V.ref));have e6:upd H5 p6 (.lst ((us++us3++us5).map V.ref)) p6=some (.lst ((us++us3++us5).map V.ref)):=za;have m6:wL (upd H5 p6 (.lst ((us++us3++us5).map V.ref))) (us++us3++us5) _:=((m4.same s5).app m5).same u6;generalize upd H5 p6 (.lst ((us++us3++us5).map V.ref))=H6 at u6 e6 m6 |-;have s26:=s24.trans (s5.trans u6);have s16:=s1.trans s26;refine⟨_,rfl,_,rfl,_,rfl,f,d,many,rows,bars,kvP fp,rfl,l5,hok,hF.same s16,.inr ⟨o,s26 _ _ hd1⟩,zie fp,fun l7 H7 s7 ⟨us7,n7,e7,m7⟩=>?_⟩;have lu7:=m7.length;refine⟨p6,l7,_,_,rfl,rfl,s7 _ _ e6,e7,(by simp only[length_map,length_append];omega),fun p8 hp8=>?_⟩
 rw[<- map_append];have u8:=zc hp8 (.lst ((us++us3++us5++us7).map V.ref));refine q p8 _ (s16.trans (s7.trans u8)) ⟨us++us3++us5++us7,(s16.trans s7).free hp8,za,?_⟩;unfold uD;rw[hfp];exact((m6.same s7).app m7).same u8
end
end K83
namespace L2
open PySem PySem.Spec PyProof.Rows
def seen(val:Nat->Str) (T:Str->Bool):Nat->Nat->Str->Bool
 | _,0,z=>T z
 | i,k+1,z=>seen val (fun y=>T y||decide (y=val i)) (i+1) k z
section
variable {P:Program}{w:World}{A:Around}{R:Result->Shared->Prop}{I:Addr}{fp wr:List Addr}{G:Array GenState->Array GenState->Prop}{n:Nat}{Pr:Nat->Value->Prop}{Sg:Nat->Shared->Prop}
theorem jE(W:WalksS P w A.in1 I fp wr G n Pr Sg) (a:Addr) (ha:a∉fp) (val:Nat->Str) (hv:∀i v,Pr i v->∃t,v=.str (val i) t) (hb:n+1<scanBound) :
  ∀(k i:Nat) (s:Shared) (T:Str->Bool) (c:Nat),n - i=k->i<=n->Sg i s->c<=i->s.heap.SetOf (strKind P w) a T c->
   (∀s' c',Moved (a::wr) G s s'->c'<=n->s'.heap.SetOf (strKind P w) a (seen val T i k) c'->R (.ok (.ret .none)) s')->
   codeAny (model P w) A (.builtin "set.update.loop" ⟨[.ref a,.ref I],[]⟩) R s
 | 0,i,s,T,c,hk,hi,hg,hc,hT,hR=>by
  have hw:a∉wr:=fun z=>ha (W.sub _ z);have ei:i=n:=by omega
  subst ei;refine codeAny_builtin PyProof.Rows.F.entry_set_update_loop ?_;rw[Around.under_plainId PyProof.Rows.F.plain_set_update_loop _];show wpAny _ A.in1 (pyNext (.ref I) >>= _) _ _ _;refine wpAny_bind (W.done s _ _ hg fun s' hm=>?_);show wpAny _ A.in1 (ret Value.none) _ _ _;refine wpAny_pure (hR s' c (hm.mono fun b z=>mem_cons_of_mem _ z) hc ?_);obtain⟨ob,es,ep,t,h1,h2⟩:=hT;exact⟨ob,es,ep,t,hm.heap a _ hw h1,h2⟩
 | k+1,i,s,T,c,hk,hi,hg,hc,hT,hR=>by
  have hw:a∉wr:=fun z=>ha (W.sub _ z);have hlt:i<n:=by omega
  refine codeAny_builtin PyProof.Rows.F.entry_set_update_loop ?_;rw[Around.under_plainId PyProof.Rows.F.plain_set_update_loop _];show wpAny _ A.in1 (pyNext (.ref I) >>= _) _ _ _;refine wpAny_bind (W.item i s _ _ hlt hg fun v s' hP hg' hm=>?_);obtain⟨t,rfl⟩:=hv i v hP;have hT':s'.heap.SetOf (strKind P w) a T c:=by
   obtain⟨ob,es,ep,tb,h1,h2⟩:=hT;exact⟨ob,es,ep,tb,hm.heap a _ hw h1,h2⟩
  show wpAny _ A.in1 (holding [Value.str (val i) t] (setAdd a (.str (val i) t)) >>= _) _ _ s';refine wpAny_bind (wpAny_holding ?_);unfold setAdd;refine wpAny_holding ?_;refine wpAny_bind ((strKind P w).pyHash (k:=val i) (strKind_is _ _ _ _) ?_);refine wpAny_setAddHashed_of (knd:=strKind P w) (s:={ s' with toks:=s'.toks+1 }) (strKind_is _ _ _ _) rfl hT' (by omega) fun h' hsb h3=>?_
  refine wpAny_pure ⟨plainId_quiet PyProof.Rows.F.plain_set_update_loop _,jE W a ha val hv hb k (i+1) _ _ _ (by omega) hlt (W.frame _ s' _ _ hg' (le_succ _) fun b hb' o e=>?_) (by split <;> omega) h3 fun s2 c2 hm2 hc2 h4=>?_⟩
  ·have:b≠a:=fun z=>ha (z ▸ hb')
   rw[hsb.2 b this];exact e
  ·refine hR s2 c2 (Moved.trans W.gtrans ((hm.mono fun b z=>mem_cons_of_mem _ z).then_heap (le_succ _) fun b o hb' e=>?_) hm2) hc2 h4
   have:b≠a:=fun z=>hb' (z ▸ mem_cons_self)
   rw[hsb.2 b this];exact e
end
abbrev x9(led:Bool):Obj:={ cls:=.type "set",dict:=none,data:=.set #[] 0 (.fresh 0 0 led) }
set_option maxHeartbeats 8000000 in
theorem zdf{P:Program}{w:World}{A:Around}{E:Value->Shared->Prop}{s:Shared}{l:Addr}{items:Array Value}{zs:List Str}{Q:Value->Shared->Prop}
  (hh:A.handled=none) (hl:s.heap.IsList l items) (hv:∀(i:Nat) (v:Value),items[i]?=some v->∃t,v=.str (zs.getD i "") t) (hb:items.size+1<scanBound)
  (h:∀(h':Heap) (tk c:Nat),h'.SetOf (strKind P w) s.heap.objs.size (seen (fun i=>zs.getD i "") (fun _=>false) 0 items.size) c->(∀b o,b<s.heap.objs.size->s.heap.get? b=some o->h'.get? b=some o)->Q (.ref s.heap.objs.size) { s with heap:=h',toks:=tk }) :
  wpAny (model P w) A (call (.type "set") [.ref l]) Q E s:=by
 obtain⟨mc,mt,mro⟩:=PySem.F.called_set.mro;have q1:=PySem.F.called_set.made;have q2:=PySem.F.called_set.sub;have q3:=PySem.F.called_set.notType;have q4:=PySem.F.called_set.canCreate;have q5:=PySem.F.typeCall_set_1 (.ref l);refine wpAny_call (codeAny_of_tree ?_);show wpAny _ _ (callAny (.type "set") _) _ _ _;refine wpAny_pure ⟨Code.quiet_builtin _ (by decide +kernel),codeAny_builtin PySem.F.entry_type_call ?_⟩;rw[Around.under_plain (weight_type_call_type "set" [.ref l] []) rfl]
 repeat (any_goals first|assumption|wp_step)
 refine codeAny_mono (code_set_new_1 (.ref l) (E:=E) (Q₁:=fun obj s₁=>∃led:Bool,obj=.ref s.heap.objs.size/\s₁={ s with heap:=s.heap.push (x9 led) }) fun led=>⟨led,rfl,rfl⟩) fun r s₁ hr=>?_
 rcases r with e|(_|_|_|obj)
 ·exact hr
 ·exact hr.elim
 ·exact hr.elim
 ·exact hr.elim
 ·obtain⟨led,rfl,rfl⟩:=hr
  have hS:(s.heap.push (x9 led)).get? s.heap.objs.size=some (x9 led):=Heap.get?_push_size _ rfl;have hT:Shared.TypeIs { s with heap:=s.heap.push (x9 led) } (.ref s.heap.objs.size) "set":=⟨_,hS,rfl⟩
  have q6:=PySem.F.called_set.init.lookup;have q7:=PySem.F.called_set.init.bind (.ref s.heap.objs.size)
  repeat (any_goals first|assumption|wp_step)
  refine codeAny_mono (codeAny_call_builtin (R:=wants (fun r s₂=>r=.none/\∃h' tk c,s₂={ s with heap:=h',toks:=tk }/\h'.SetOf (strKind P w) s.heap.objs.size (seen (fun i=>zs.getD i "") (fun _=>false) 0 items.size) c/\∀b o,b<s.heap.objs.size->s.heap.get? b=some o->h'.get? b=some o) E) PySem.F.called_set.init.plain PySem.F.entry_set_init (check_set_init_1 hT ?_)) fun r₂ s₂ hr₂=>?_
  ·obtain⟨ol,hol,hcl,nl,hdl⟩:=id hl
   obtain⟨ocls,odict,odata,oslots⟩:=ol;simp only at hcl hdl;subst hcl hdl;have hol':(s.heap.push (x9 led)).get? l=_:=Heap.get?_push_of_some (x9 led) hol;have t1:=PySem.F.sub_list_set;have t2:=PySem.F.sub_list_frozenset;have t3:(Value.type "list"==Value.type "dict")=false:=by decide
   have hl1:(s.heap.push (x9 led)).IsList l items:=⟨_,hol',rfl,nl,rfl⟩;have hlS:l<s.heap.objs.size:=Heap.lt_size hol;unfold Builtin.«set.__init__» noKeywords Builtin.Frozenset.updateFrom;generalize hq:pyIter=pit
   wp_walk
   subst hq;refine wpAny_pyIter_list hl1 (wpAny_bind (wpAny_runValue ?_));have hz:(s.heap.push (x9 led)).objs.size=s.heap.objs.size+1:=Heap.size_push ..;have n1:l≠(s.heap.push (x9 led)).objs.size:=by rw[hz];exact ne_of_lt (lt_succ_of_lt hlS)
   have n2:∀b:Addr,b<s.heap.objs.size->b∉[s.heap.objs.size,(s.heap.push (x9 led)).objs.size]:=fun b hb' z=>by
    rw[hz] at z;rcases List.mem_cons.mp z with e|e
    ·exact ne_of_lt hb' e
    ·exact ne_of_lt (lt_succ_of_lt hb') (List.mem_singleton.mp e)
   have n3:s.heap.objs.size∉[(s.heap.push (x9 led)).objs.size,l]:=fun z=>by
    rw[hz] at z;rcases List.mem_cons.mp z with e|e
    ·exact ne_of_lt (lt_succ_self _) e
    ·exact ne_of_gt hlS (List.mem_singleton.mp e)
   refine jE ((Walks.list (by simp [hh]) _ l n1 items).toS) s.heap.objs.size n3 (fun i=>zs.getD i "") hv hb items.size 0 _ (fun _=>false) 0 (by omega) (zero_le _) ⟨⟨_,Heap.get?_push_size _ rfl,rfl,rfl⟩,hl1.push _⟩ (Nat.le_refl _) ?_ ?_
   ·exact(PyProof.Rows.setObjOf_fresh (knd:=strKind P w) led).setOf (Heap.get?_push_of_some _ hS) (by unfold scanBound;omega)
   ·rintro⟨h',g',d',tk',os'⟩ c' hm hc' hS'
    have e1:g'=s.gens:=hm.gens;have e2:d'=s.drawn:=hm.drawn;have e3:os'=s.os:=hm.os;subst e1 e2 e3;show wpAny _ _ _ _ _ _;refine wpAny_pure ?_;show wpAny _ _ (ret Value.none) _ _ _;refine wpAny_pure ⟨rfl,h',tk',c',rfl,hS',fun b o hb' e=>hm.heap b o (n2 b hb') (Heap.get?_push_of_some _ (Heap.get?_push_of_some _ e))⟩
  ·rcases r₂ with e|(_|_|_|ob2)
   ·exact hr₂
   ·exact hr₂.elim
   ·exact hr₂.elim
   ·exact hr₂.elim
   ·obtain⟨rfl,h',tk,c',rfl,hS',hk'⟩:=hr₂
    repeat (any_goals first|assumption|wp_step)
    exact h _ _ _ hS' hk'
theorem zbu(val:Nat->Str) (z:Str):∀(k i:Nat) (T:Str->Bool),seen val T i k z=true ↔ (T z=true\/∃j,j<k/\z=val (i+j))
 | 0,i,T=>⟨fun h=>.inl h,fun h=>h.elim id fun⟨j,hj,_⟩=>absurd hj (not_lt_zero _)⟩
 | k+1,i,T=>by
  show seen val (fun y=>T y||decide (y=val i)) (i+1) k z=true ↔ _
  rw[zbu val z k (i+1)];simp only[Bool.or_eq_true,decide_eq_true_eq];constructor
  ·rintro ((h|h)|⟨j,hj,e⟩)
   ·exact .inl h
   ·exact .inr ⟨0,by omega,h⟩
   ·exact .inr ⟨j+1,by omega,by rw[show i+(j+1)=i+1+j by omega];exact e⟩
  ·rintro (h|⟨j,hj,e⟩)
   ·exact .inl (.inl h)
   ·cases j with
    | zero=>exact .inl (.inr e)
    | succ j=>exact .inr ⟨j,by omega,by rw[show i+1+j=i+(j+1) by omega];exact e⟩
theorem zbt(zs:List Str) (z:Str):seen (fun i=>zs.getD i "") (fun _=>false) 0 zs.length z=decide (z∈zs):=by
 rw[Bool.eq_iff_iff,zbu,decide_eq_true_eq];constructor
 ·rintro (h|⟨j,hj,e⟩)
  ·cases h
  ·rw[e,Nat.zero_add]
   show zs.getD j ""∈zs;rw[getD_eq_getElem?_getD,getElem?_eq_getElem hj];exact getElem_mem hj
 ·intro h
  obtain⟨j,hj,e⟩:=List.mem_iff_getElem.mp h;refine .inr ⟨j,hj,?_⟩;rw[Nat.zero_add];show z=zs.getD j "";rw[getD_eq_getElem?_getD,getElem?_eq_getElem hj];exact e.symm
theorem zQ.strs_at:∀{zs:List Str}{us:List Value},zQ (zs.map V.str) us->∀(i:Nat) (v:Value),us[i]?=some v->∃t,v=.str (zs.getD i "") t
 | [],_,.nil,i,v,h=>by simp at h
 | z::zs,_,.cons r t,0,v,h=>by
  obtain⟨tk,e⟩:=r
  have:v=.str z tk:=by rw[<- e];simpa using h.symm
  exact⟨tk,this⟩
 | z::zs,_,.cons r t,i+1,v,h=>zQ.strs_at t i v (by simpa using h)
theorem zak{X:Cx}(hc:X.calm=true):xh X (.type "set") (fun xs H Q=>∃(p:Addr) (zs:List Str),xs=[.ref p]/\SqL X.K H p (zs.map V.str)/\zs.length<=900/\∀(l:Addr) (n:Nat),H l=none->Q (.ref l) (upd H l (wv X.prog X.w l (fun z=>decide (z∈zs)) n))):=by
 intro pins s σ H xs us Q I r h;obtain⟨p,zs,rfl,hS,lz,q⟩:=h;obtain⟨u,rfl,ru⟩:=wA r;cases ru;obtain⟨its,rv,hp,hz⟩:=I.list hS;have hl:its.length=zs.length:=by rw[<- rv.length,length_map]
 have hb:its.toArray.size+1<scanBound:=by
  rw[size_toArray,hl];have : 1000<scanBound:=by unfold scanBound;decide
  omega
 refine zdf (I.ok.hd hc) hp.isList (fun i v e=>rv.strs_at i v (by simpa using e)) hb fun h' tk c hS' hk=>?_
 have hsz:its.toArray.size=zs.length:=by rw[size_toArray,hl]
 rw[hsz] at hS';have eS:seen (fun i=>zs.getD i "") (fun _=>false) 0 zs.length=fun z=>decide (z∈zs):=funext (zbt zs);rw[eS] at hS';refine⟨.ref s.heap.objs.size,_,I.laid (t':=tk) (fun b ob e=>hk b ob (Heap.lt_size e) e) (Nat.le_refl _) (zaC hS'),rfl,q _ c (I.hok.fresh (Nat.le_refl _))⟩
end L2
namespace K83
open PySem L2 PyProof.Rows
theorem zgT:∀(rows:List Rw) (i:Nat) (acc:List (Key×V)) (k:Key) (v:V),(∀k v,z5 acc k=some v->∃j:Nat,v=.int (j:Nat))->z5 (yY i acc rows) k=some v->∃j:Nat,v=.int (j:Nat)
 | [],_,acc,k,v,h,e=>h k v e
 | r::rs,i,acc,k,v,h,e=>by
  refine zgT rs (i+1) _ k v (fun k v e=>?_) e;split at e
  ·rw[zbg] at e
   split at e
   ·exact⟨i,(Option.some.inj e).symm⟩
   ·exact h k v e
  ·exact h k v e
theorem zd8{rows:List Rw}{bars:List Str}{many:Nat}{fp:List (Str×Nat)}{i:Nat}{p:Str×Nat}(h:fp[i]?=some p):jD rows bars many (fp.take (i+1))=jD rows bars many (fp.take i)++(match yT rows bars many p.1 with|some wd=>[(wd,p.2)]|none=>[]):=by
 unfold jD;rw[take_add_one,h,List.filterMap_append]
 congr 1
 show List.filterMap _ [p]=_;rw[filterMap_cons,List.filterMap_nil];cases yT rows bars many p.1 <;> rfl
theorem ze3(rows:List Rw) (bars:List Str) (many:Nat) (fp:List (Str×Nat)):(jD rows bars many fp).length<=fp.length:=List.length_filterMap_le _ _
section
variable {P:Program}{w:World}{K:Frag}{mg:Str->Option Value}{base:Heap}{f CF:Addr}{fd:FuncData}{c:C5}{m:MA}
theorem qM:zu ["form","many","firsts","barred","found","name","number","leads_to"] ["form","many","firsts"] (zg zjo):=⟨rfl,rfl,rfl,by decide +kernel,rfl,by decide +kernel,by decide +kernel⟩
theorem zjO{gB gN gG gP:Addr}{eB eN eG eP:FuncData}(F:Fun K "unwelcomes" "unwelcomes" zjo f fd) (hset:mg "set"=none) (FK:FC K CF) (mB:xp K CF "bars" gB) (GB:zJ P w K mg base CX0 1 gB eB ["self"] (zay c CF)) (bB:z7 K eB ["self"] []) (mN:xp K CF "number_of" gN) (GN:zJ P w K mg base CX0 1 gN eN ["self","name"] (zfb c CF)) (bN:z7 K eN ["self","name"] [])
  (mG:xp K CF "bag" gG) (GG:zJ P w K mg base CX0 1 gG eG ["self"] (vc c CF 4)) (bG:z7 K eG ["self"] []) (mP:xp K CF "places" gP) (GP:zJ P w K mg base CX0 1 gP eP ["self"] (wE c CF)) (bP:z7 K eP ["self"] []) :
  zJ P w K mg base CX0 2 f fd ["form","many","firsts"] (ziA c CF):=by
 refine F.ok qM (fun vs H Q E h=>?_) (fun cdv A outer s H vs Q E hr h=>?_)
 ·obtain⟨f,d,o,many,rows,bars,fp,rfl,_⟩:=h
  rfl
 obtain⟨f,d,o,many,rows,bars,fp,rfl,l5,lb5,lfp,hF,hd,q⟩:=h;refine⟨_,zj (zy (i:=3) qM.nd rfl (Or.inl rfl) (cTy (zak rfl) hset PyProof.Rows.boot_set (ac (yz (pv 0) FK.cl mB GB hr bB .nil yp) zd)))
  (zj (zy (i:=4) qM.nd rfl (Or.inl rfl) (zW zd))
  (zj (yW PassesOwn.never rfl (zfU (pv 2)) (xf rfl (zL (zk (i:=5) qM.nd rfl (Or.inl rfl)) (zL (zk (i:=6) qM.nd rfl (Or.inl rfl)) yL)))
   (zj (zy (i:=7) qM.nd rfl (Or.inl rfl) (zdK (pv 0) FK.cl mN GN hr bN .nil yp (ac (pv 5) zd)))
   (ze (zP (zo j6 (pv 5) (pv 3) (by with_unfolding_all rfl)) (ze (z6 (xL PySem.F.plainAttrs_list PySem.F.slot_list_append PySem.F.type_list_append yu (pv 4) (ac (zZ (ac zD (ac (pv 6) zd))) zd))))
    (ze (zP (xE (xQ (pv 7))) (ze (zP (xE (xQ (yz (pv 0) FK.cl mG GG hr bG .nil yp))) (ze (z6 (xL PySem.F.plainAttrs_list PySem.F.slot_list_append PySem.F.type_list_append yu (pv 4) (ac (zZ (ac zD (ac (pv 6) zd))) zd)))) zE))
     (ze (zP (PW.pt (xa (zo vU (pv 7) (yz (pv 0) FK.cl mP GP hr bP .nil yp) (zI _)) (yQ (zo vU (pv 7) (pv 1) (zI _))))) (ze (z6 (xL PySem.F.plainAttrs_list PySem.F.slot_list_append PySem.F.type_list_append yu (pv 4) (ac (zZ (ac zD (ac (pv 6) zd))) zd)))) zE))))))))
  (ze (zC (pv 4))))),?_⟩
 obtain⟨dx,fs,lr,lb,ld,ps0,h1,h2,h3,h4,h5,h6⟩:=id hF;have nmB:fs.lookup ("bars" : Str)=none:=h2.no _ (by decide +kernel)
 have nmN:fs.lookup ("number_of" : Str)=none:=h2.no _ (by decide +kernel)
 have nmG:fs.lookup ("bag" : Str)=none:=h2.no _ (by decide +kernel)
 have nmP:fs.lookup ("places" : Str)=none:=h2.no _ (by decide +kernel)
 refine⟨_,rfl,f,dx,fs,rfl,h1,nmB,f,rows,bars,rfl,hF,fun lb1 H1 s1 nb eb=>?_⟩;refine⟨lb1,bars,rfl,SqL.of eb,by omega,fun sS nS hS=>?_⟩
 have u2:=zc hS (wv P w sS (fun z=>decide (z∈bars)) nS);have e2:upd H1 sS (wv P w sS (fun z=>decide (z∈bars)) nS) sS=some (wv P w sS (fun z=>decide (z∈bars)) nS):=za;show uO _ _ _ _ (upd H1 sS (wv P w sS (fun z=>decide (z∈bars)) nS));generalize upd H1 sS (wv P w sS (fun z=>decide (z∈bars)) nS)=H2 at u2 e2 |-;refine⟨zz0,fun l hl=>?_⟩;have u3:=zc hl (.lst []);have e3:upd H2 l (.lst []) l=some (.lst []):=za;show uO _ _ _ _ (upd H2 l (.lst []));generalize upd H2 l (.lst [])=H3 at u3 e3 |-;have s2:=s1.trans u2;have s3:=s2.trans u3;have hlH:H l=none:=s2.free hl;have nl:∀{b:Addr}{u:HO},H2 b=some u->b≠l:=fun e=>zi e hl;have sHl:∀{H':Hp},(∀b u,H2 b=some u->H' b=some u)->zm H H':=fun k b u e=>k b u (s2 _ _ e);refine⟨_,rfl,d,o,kvP fp,rfl,s3 _ _ hd,zeP (d:=d) (o:=o) (kvs:=kvP fp) (fun i σ H'=>∃(us:List Addr) (v5 v6 v7:Option V),σ=[some (.ref f),some (.int (many:Nat)),some (.ref d),some (.ref sS),some (.ref l),v5,v6,v7]/\(∀b u,H2 b=some u->H' b=some u)/\H' l=some (.lst (us.map V.ref))/\wL H' us (jD rows bars many (fp.take i)))
  ⟨[],_,_,_,rfl,fun _ _ e=>u3 _ _ e,e3,.nil⟩ (fun i σ H' _ ⟨_,_,_,_,_,sH,_⟩=>sH _ _ (s2 _ _ hd)) ?_ ?_⟩
 ·rintro i k v p σ H' hk ⟨us,v5,v6,v7,rfl,sH,hl',hm⟩ hpn
  obtain⟨z,n,hz,rfl,rfl⟩:∃(z:Str) (n:Nat),fp[i]?=some (z,n)/\k=.inr z/\v=.int (n:Nat):=by
   unfold kvP at hk;rw[getElem?_map] at hk;cases e:fp[i]? with
   | none=>rw[e] at hk;cases hk
   | some q=>rw[e] at hk;cases hk;exact⟨q.1,q.2,rfl,rfl,rfl⟩
  have tk:=zd8 (rows:=rows) (bars:=bars) (many:=many) hz;dsimp only at tk;have sp:=zc hpn (.tup [kV (.inr z),.int (n:Nat)]);have lu:us.length<=i:=by
   rw[hm.length];refine Nat.le_trans (ze3 _ _ _ _) ?_;rw[length_take];omega
  have hi:i<fp.length:=(List.getElem?_eq_some_iff.mp hz).1;have sH1:∀b u,H2 b=some u->upd H' p (.tup [kV (.inr z),.int (n:Nat)]) b=some u:=fun b u e=>sp _ _ (sH b u e);have hl1:=sp _ _ hl';have hm1:=hm.same sp;refine⟨p,_,rfl,SqT.of za,rfl,_,_,rfl,_,_,rfl,rfl,?_⟩;generalize upd H' p (.tup [kV (.inr z),.int (n:Nat)])=H4 at sH1 hl1 hm1 |-;have s4:=sHl sH1;refine⟨_,rfl,f,dx,fs,rfl,s4 _ _ h1,nmN,_,rfl,f,z,rows,bars,rfl,hF.same s4,?_⟩;refine⟨_,rfl,_,rfl,sS,_,_,z,rfl,rfl,sH1 _ _ e2,_,rfl,?_⟩;by_cases hz1:z∈bars
  ·refine dT hz1 ?_
   rw[show yT rows bars many z=some "barred" from if_pos hz1] at tk;refine⟨_,rfl,.inl ⟨rfl,_,SqL.of hl1⟩,_,rfl,zz2,fun t ht=>?_⟩;have s6:=zc ht (.tup [.str "barred",.int (n:Nat)]);have hl6:=s6 _ _ hl1;have hu2:MA1 (upd H4 t (.tup [.str "barred",.int (n:Nat)])) t ("barred",n):=by
    show upd H4 t _ t=_;rw[za]
   refine⟨l,_,.ref t,rfl,rfl,hl6,zT (by rw[length_map];omega),?_⟩
   refine⟨us++[t],_,_,_,rfl,fun b u e=>?_,by rw[za,map_append];rfl,?_⟩
   ·rw[zh (nl e)]
    exact s6 _ _ (sH1 b u e)
   ·rw[tk]
    exact((hm1.same s6).snoc hu2).upd hl6
  ·refine dF hz1 ?_
   have e0:yT rows bars many z=(match yT.lastD' z rows with|none=>if (zO 4 0 rows).isSome=true then none else some "strange"|some l=>if l<plN rows/\l<many then some "again" else none):=if_neg hz1
   cases ev:z5 (yY 0 [] rows) (.inr z) with
   | none=>
    have e1:yT.lastD' z rows=none:=by unfold yT.lastD';rw[ev]
    rw[e1] at e0;refine⟨_,rfl,_,rfl,?_⟩;refine dT rfl ?_;refine⟨_,rfl,f,dx,fs,rfl,s4 _ _ h1,nmG,f,rows,bars,rfl,hF.same s4,_,rfl,?_⟩;cases eg:zO 4 0 rows with
    | none=>
     have e2':yT rows bars many z=some "strange":=by rw[e0,eg];rfl
     refine dT rfl ?_;rw[show yT rows bars many z=some "strange" from e2'] at tk;refine⟨_,rfl,.inl ⟨rfl,_,SqL.of hl1⟩,_,rfl,zz2,fun t ht=>?_⟩;have s6:=zc ht (.tup [.str "strange",.int (n:Nat)]);have hl6:=s6 _ _ hl1;have hu2:MA1 (upd H4 t (.tup [.str "strange",.int (n:Nat)])) t ("strange",n):=by
      show upd H4 t _ t=_;rw[za]
     refine⟨l,_,.ref t,rfl,rfl,hl6,zT (by rw[length_map];omega),?_⟩
     refine⟨us++[t],_,_,_,rfl,fun b u e=>?_,by rw[za,map_append];rfl,?_⟩
     ·rw[zh (nl e)]
      exact s6 _ _ (sH1 b u e)
     ·rw[tk]
      exact((hm1.same s6).snoc hu2).upd hl6
    | some j=>
     have e2':yT rows bars many z=none:=by rw[e0,eg];rfl
     refine dF (by intro z;cases z) ?_
     rw[show yT rows bars many z=none from e2',append_nil] at tk;exact⟨us,_,_,_,rfl,sH1,hl1,by rw[tk];exact hm1⟩
   | some v=>
    obtain⟨j,rfl⟩:=zgT rows 0 [] (.inr z) v (fun k v e=>by cases e) ev
    have e1:yT.lastD' z rows=some j:=by unfold yT.lastD';rw[ev];rfl
    rw[e1] at e0;refine⟨_,rfl,_,rfl,?_⟩;refine dF (by intro z;cases z) ?_
    refine⟨_,rfl,_,rfl,f,dx,fs,rfl,s4 _ _ h1,nmP,f,rows,bars,rfl,hF.same s4,_,_,rfl,rfl,_,rfl,?_⟩;by_cases hj1:j<plN rows
    ·refine xB (decide_eq_true (by show(j:Int)<(plN rows:Int);omega)) ?_
     refine⟨_,rfl,_,rfl,_,_,rfl,rfl,_,rfl,?_⟩;by_cases hj2:j<many
     ·have e2':yT rows bars many z=some "again":=by rw[e0];exact if_pos ⟨hj1,hj2⟩
      refine xB (decide_eq_true (by show(j:Int)<(many:Int);omega)) ?_
      rw[show yT rows bars many z=some "again" from e2'] at tk;refine⟨_,rfl,.inl ⟨rfl,_,SqL.of hl1⟩,_,rfl,zz2,fun t ht=>?_⟩;have s6:=zc ht (.tup [.str "again",.int (n:Nat)]);have hl6:=s6 _ _ hl1;have hu2:MA1 (upd H4 t (.tup [.str "again",.int (n:Nat)])) t ("again",n):=by
       show upd H4 t _ t=_;rw[za]
      refine⟨l,_,.ref t,rfl,rfl,hl6,zT (by rw[length_map];omega),?_⟩
      refine⟨us++[t],_,_,_,rfl,fun b u e=>?_,by rw[za,map_append];rfl,?_⟩
      ·rw[zh (nl e)]
       exact s6 _ _ (sH1 b u e)
      ·rw[tk]
       exact((hm1.same s6).snoc hu2).upd hl6
     ·have e2':yT rows bars many z=none:=by rw[e0];exact if_neg fun h=>hj2 h.2
      refine yS (decide_eq_false (by show ¬(j:Int)<(many:Int);omega)) ?_
      rw[show yT rows bars many z=none from e2',append_nil] at tk;exact⟨us,_,_,_,rfl,sH1,hl1,by rw[tk];exact hm1⟩
    ·have e2':yT rows bars many z=none:=by rw[e0];exact if_neg fun h=>hj1 h.1
     refine yS (decide_eq_false (by show ¬(j:Int)<(plN rows:Int);omega)) ?_
     refine yq ?_;rw[show yT rows bars many z=none from e2',append_nil] at tk;exact⟨us,_,_,_,rfl,sH1,hl1,by rw[tk];exact hm1⟩
 ·rintro σ H' ⟨us,v5,v6,v7,rfl,sH,hl',hm⟩
  have lk:(kvP fp).length=fp.length:=by unfold kvP;rw[length_map]
  rw[lk,take_length] at hm;exact⟨_,rfl,q l H' (sHl sH) ⟨us,hlH,hl',hm⟩⟩
end
def qa(rows:List Rw) (bars:List Str) (c:List w4):List (Str×Nat):=uD rows bars (xl c).length (yX c)
structure zdl(K:Frag) (H:Hp) (a:Addr) (ct:List w4):Prop where
 at_:∃xs,SqL K H a xs/\Paired (zS K T' H 3) xs (ct.map jg)
 lt:(xl ct).length<=900
 lp:(xv ct).length<=900
structure xU(c:C5) (CF:Addr) (H:Hp) (f:Addr) (rows:List Rw) (bars:List Str):Prop where
 at_:xH c CF H f rows bars
 lr:rows.length<=500
 lb:bars.length<=500
 ok:∀r∈rows,r.ok
theorem xU.same{c:C5}{CF:Addr}{H H':Hp}{f:Addr}{rows:List Rw}{bars:List Str}(h:xU c CF H f rows bars) (s:zm H H'):xU c CF H' f rows bars:=⟨h.at_.same s,h.lr,h.lb,h.ok⟩
def ziG(K:Frag) (c:C5) (CF:Addr):Sp:=fun vs H Q _=>∃(f a:Addr) (rows:List Rw) (bars:List Str) (ct:List w4),vs=[.ref f,.ref a]/\xU c CF H f rows bars/\zdl K H a ct/\∀(l:Addr) (H':Hp),zm H H'->zcb H H' l (qa rows bars ct)->Q (.ref l) H'
section
variable {P:Program}{w:World}{K:Frag}{mg:Str->Option Value}{base:Heap}{f CF:Addr}{fd:FuncData}{c:C5}{m:MA}
theorem zfq:zu ["form","call","many","names"] ["form","call"] (zg jR):=⟨rfl,rfl,rfl,by decide +kernel,rfl,by decide +kernel,by decide +kernel⟩
theorem zjV{g1 g2:Addr}{d1 d2:FuncData}(F:Fun K "misfits" "misfits" jR f fd) (c1:zK P w K mg base 2 "shape" g1 d1 ["call"] (zdp K)) (c2:zK P w K mg base 4 "misfits_of" g2 d2 ["form","many","names"] (ziH c CF)):zJ P w K mg base CX0 5 f fd ["form","call"] (ziG K c CF):=by
 refine F.ok zfq (fun vs H Q E h=>?_) (fun cdv A outer s H vs Q E hr h=>?_)
 ·obtain⟨f,a,rows,bars,ct,rfl,_⟩:=h
  rfl
 obtain⟨f,a,rows,bars,ct,rfl,hF,⟨⟨xs,hx,hc⟩,lt,lp⟩,q⟩:=h;have hr2:yw 2 _:=hr.mono (by decide)
 refine⟨_,zj (wQ (cF c1 hr2 (ac (pv 1) zd)) (xf rfl (zL (zk (i:=2) zfq.nd rfl (Or.inl rfl)) (zL (zk (i:=3) zfq.nd rfl (Or.inl rfl)) yL))))
  (ze (zC (cF c2 hr (ac (pv 0) (ac (pv 2) (ac (pv 3) zd)))))),?_⟩
 refine⟨_,rfl,a,ct,xs,rfl,hx,hc,lt,lp,fun p l H1 s1 nl ep el=>?_⟩;refine⟨p,_,rfl,SqT.of ep,rfl,_,_,rfl,_,_,rfl,rfl,?_⟩;have hF1:=hF.same s1;have ln:(yX ct).length<=900:=by unfold yX;rw[length_map];exact lp
 exact⟨_,rfl,_,rfl,_,rfl,f,l,(xl ct).length,rows,bars,yX ct,rfl,hF.lr,hF.lb,lt,ln,hF.ok,hF1.at_,el,fun l2 H2 s2 ⟨us,n2,e2,m2⟩=>q l2 H2 (s1.trans s2) ⟨us,s1.free n2,e2,m2⟩⟩
end
end K83
namespace L2
open PySem PySem.Spec PyProof.Rows
section
variable {X:Cx}
theorem zeW(hc:X.calm=true):xh X (.builtin "any") (fun xs H Q=>∃(p:Addr) (bs:List Bool),xs=[.ref p]/\SqL X.K H p (bs.map V.bl)/\Q (.bl (bs.any id)) H):=by
 intro pins s σ H xs us Q I r h;obtain⟨p,bs,rfl,hS,q⟩:=h;obtain⟨u,rfl,ru⟩:=wA r;cases ru;obtain⟨its,rv,hp,hz⟩:=I.list hS;have hlen:its.length=bs.length:=by rw[<- rv.length,length_map]
 have hne:p≠s.heap.objs.size:=ne_of_lt (by obtain⟨_,e,_⟩:=hp.isList;exact Heap.lt_size e)
 refine call_any_walk (wpAny_pyIter_list hp.isList ?_);refine⟨s.heap.objs.size,_,_,_,_,_,fun i=>bs.getD i false,rfl,Walks.list (A:=X.A.in1) (I.ok.hd hc) s.heap.objs.size p hne its.toArray,⟨⟨_,Heap.get?_push_size _ rfl,rfl,rfl⟩,hp.isList.push _⟩,?_,fun h' tk k=>?_⟩
 ·intro i v s' Q' E' hP hQ
  have hv:its[i]?=some v:=by simpa using hP
  have hi:i<bs.length:=by rw[<- hlen];exact(List.getElem?_eq_some_iff.mp hv).1
  obtain⟨u',e1,e2⟩:=rv.get (i:=i) (x:=V.bl bs[i]) (by rw[getElem?_map,getElem?_eq_getElem hi];rfl)
  rw[hv] at e1;cases e1;cases e2;refine wpAny_truthy_bool ?_
  have:bs.getD i false=bs[i]:=by rw[getD_eq_getElem?_getD,getElem?_eq_getElem hi];rfl
  rw[<- this];exact hQ
 ·have e:((List.range its.toArray.size).any fun i=>bs.getD i false)=bs.any id:=by
   rw[size_toArray,hlen,Bool.eq_iff_iff,any_eq_true,any_eq_true];constructor
   ·rintro⟨i,hi,hb⟩
    have hi':=List.mem_range.mp hi;rw[getD_eq_getElem?_getD,getElem?_eq_getElem hi'] at hb;exact⟨_,getElem_mem hi',hb⟩
   ·rintro⟨b,hb,h1⟩
    obtain⟨i,hi,rfl⟩:=List.getElem_of_mem hb;refine⟨i,List.mem_range.mpr hi,?_⟩;rw[getD_eq_getElem?_getD,getElem?_eq_getElem hi];exact h1
  rw[e];exact⟨.bl (bs.any id),H,I.kept (h':=h') (t':=tk) (fun b o q=>k b o (fun hm=>by
   have e:b=s.heap.objs.size:=by simpa using hm
   exact absurd (Heap.lt_size q) (by rw[e];exact lt_irrefl _)) (Heap.get?_push_of_some _ q)),rfl,q⟩
end
def yD(n:Nat):List Int:=(List.range n).map fun (i:Nat)=>(i:Int)
theorem zQ.of_at{ts:List Int}:∀{us:List Value},us.length=ts.length->(∀(i:Nat) (v:Value),us[i]?=some v->∃t,v=Value.int (ts.getD i 0) t)->zQ (ts.map V.int) us:=by
 induction ts with
 | nil=>
  intro us hl _
  have:us=[]:=List.length_eq_zero_iff.mp hl
  subst this;exact .nil
 | cons t ts ih=>
  intro us hl h;cases us with
  | nil=>cases hl
  | cons u us=>
   obtain⟨k,e⟩:=h 0 u rfl;exact .cons ⟨k,e⟩ (ih (by simpa using hl) fun i v e=>h (i+1) v e)
section
variable {X:Cx}
theorem zgZ:xh X (.type "range") (fun xs H Q=>∃n:Nat,xs=[.int (n:Nat)]/\∀p,H p=none->Q (.ref p) (upd H p (.rng 0 (n:Nat)))):=by
 intro pins s σ H xs us Q I r h;obtain⟨n,rfl,q⟩:=h;obtain⟨u,rfl,ru⟩:=wA r;obtain⟨t,rfl⟩:=ru;refine call_range_1 ?_;refine⟨.ref s.heap.objs.size,_,I.laid (o:=.rng 0 (n:Nat)) (fun b u e=>Heap.get?_push_of_some _ e) (Nat.le_refl _) ?_,rfl,q _ (I.hok.fresh (Nat.le_refl _))⟩;exact⟨_,_,_,Heap.get?_push_size _ rfl⟩
theorem zdg(hc:X.calm=true):xh X (.type "list") (fun xs H Q=>∃(p:Addr) (n:Nat),xs=[.ref p]/\H p=some (.rng 0 (n:Nat))/\n<=900/\∀l,H l=none->Q (.ref l) (upd H l (.lst ((yD n).map V.int)))):=by
 intro pins s σ H xs us Q I r h;obtain⟨p,n,rfl,hp,hn,q⟩:=h;obtain⟨u,rfl,ru⟩:=wA r;cases ru;obtain⟨t,u',v',e⟩:=I.hok p _ hp;refine call_list_range (n:=n) (I.ok.hd hc) e ?_ ?_ (by omega) fun h' tk acc c' hk he hacc=>?_
 ·exact small_one (by omega) (by omega) (by omega) (by omega)
 ·unfold Builtin.Range.rangeSize
  rw[if_pos (by decide)]
  split <;> omega
 ·have hl:acc.toList.length=(yD n).length:=by
   unfold yD;rw[length_map,length_range];simpa using hacc.1
  have hv:zQ ((yD n).map V.int) acc.toList:=zQ.of_at hl fun i v e=>by
   obtain⟨t,rfl⟩:=hacc.2 i v (by simpa using e)
   refine⟨t,?_⟩;have hi:i<n:=by
    have:=(List.getElem?_eq_some_iff.mp e).1
    rw[hl] at this;unfold yD at this;simpa using this
   have eg:(yD n).getD i 0=(i:Int):=by
    unfold yD;rw[getD_eq_getElem?_getD,getElem?_map,List.getElem?_range hi];rfl
   rw[eg];simp
  refine⟨.ref s.heap.objs.size,_,I.laid (t':=tk) (o:=.lst ((yD n).map V.int)) hk (Nat.le_refl _) ⟨?_,acc.toList,c',hv,by simpa using he⟩,rfl,q _ (I.hok.fresh (Nat.le_refl _))⟩
  unfold yD;rw[length_map,length_map,length_range];have : 1000<=sizeLine:=by decide
  omega
end
end L2
namespace L2
open PySem PySem.W PySem.Builtin PySem.Builtin.ObjectAttr PySem.Spec PyProof.Rows
section
variable {prog:Program}{w:World}{A:Around}{E:Value->Shared->Prop}{s:Shared}{K:Frag}{C f:Addr}{us:List Value}
end
section
variable {prog:Program}{w:World}{A:Around}{E:Value->Shared->Prop}{s:Shared}{K:Frag}{C x:Addr}{us:List Value}
end
end L2
namespace L2
open PySem PySem.W PySem.Builtin PySem.Builtin.ObjectAttr PySem.Builtin.Getset_descriptor PySem.Spec PyProof.Rows
section
variable {prog:Program}{w:World}{A:Around}{E:Value->Shared->Prop}{s:Shared}{K:Frag}{C D x dx:Addr}{us:List Value}
end
end L2
namespace L2
open PySem PySem.Spec PyProof.Rows
section
variable {X:Cx}{pins:List (Addr×Obj)}{σ : St}{H:Hp}{s:Shared}{x C t:Addr}{f:Str}{y:V}{u:Value}{A:Around}{E:Value->Shared->Prop}
end
section
variable {X:Cx}{o e value:Expr}{f:Str}{pos pos' tpos:Pos}{ta tv:TE}
end
section
variable {X:Cx}{CX:CXT}{k:Nat}{f C:Addr}{fd:FuncData}{ps:List Str}{sp:Sp}{E:XK}{x:Str}{p pos:Pos}{e:Expr}{es:List Expr}{t:TA}
end
def drop(H:Hp) (a:Addr):Hp:=fun b=>if b=a then none else H b
section
variable {X:Cx}{pins:List (Addr×Obj)}{σ : St}{H:Hp}{s:Shared}{ea C t:Addr}{od:Option Addr}{M:Model}{E:Value->Shared->Prop}
end
section
variable {X:Cx}{E:XK}{pos:Pos}{e:Expr}{te:TE}
end
section
variable {P:Program}{w:World}{K:Frag}{mg:Str->Option Value}{base:Heap}{N:List Str}{qual:Str}{scope:Scope}{f:Addr}{cd:Value}{A:Around}{outer:List Env}{s:Shared}{H:Hp}{E E':XK}
end
section
variable {X:Cx}{x:Str}{C:Addr}{B Bn newId nid initId inN:String}{bm bmN:List Value}{np pos:Pos}{e:Expr}{es:List Expr}{t:TA}
end
section
variable {X:Cx}{pins:List (Addr×Obj)}{σ : St}{H:Hp}{s:Shared}{M:Model}{A:Around}{E:Value->Shared->Prop}{i:Nat}{n:Str}{pos:Pos}
end
section
variable {X:Cx}{pins:List (Addr×Obj)}{σ : St}{H:Hp}{s:Shared}{ea:Addr}
variable {st b₀:Stmt}{suite:List Stmt}{c n:Str}{np hpos pos:Pos}{C:Addr}{i:Nat}{tb:XK->TS}{ts:TS}{ok:Value->Prop}
end
section
variable {X:Cx}{pins:List (Addr×Obj)}{σ : St}{e:Expr}{es:List Expr}{t:TA}{E:XK}{x:Str}{p pos:Pos}{k:Nat}{f C:Addr}{fd:FuncData}{ps:List Str}{sp:Sp}{dvs:List V}{ds:List Value}
end
section
variable {M:Model}{A:Around}{E:Value->Shared->Prop}{s:Shared}{base:Heap}{env:Env}{outer:List Env}{L e C t:Addr}{od:Option Addr}{tb0 head:Value}{hn:Bool}{Q:Unit->Shared->Prop}
end
section
variable {X:Cx}{pins:List (Addr×Obj)}{σ : St}{H H':Hp}{s s':Shared}{ea C t:Addr}{od:Option Addr}{M:Model}{E:Value->Shared->Prop}
end
section
variable {X:Cx}{pins:List (Addr×Obj)}{σ : St}{H H':Hp}{s s':Shared}{ea C t:Addr}{od:Option Addr}{M:Model}{A:Around}{E:Value->Shared->Prop}{h5:Heap}
end
section
variable {X:Cx}{E:XK}{pos:Pos}{e:Expr}{te:TE}
end
section
variable {P:Program}{w:World}{K:Frag}{mg:Str->Option Value}{base:Heap}{N:List Str}{qual:Str}{scope:Scope}{f:Addr}{cd:Value}{A:Around}{outer:List Env}{s:Shared}{H:Hp}{E E':XK}
end
section
variable {X:Cx}{k:Nat}{f:Addr}{fd:FuncData}{ps:List Str}{sp:Sp}{E:XK}{x:Str}{p pos:Pos}{e:Expr}{es:List Expr}{t:TA}
end
section
variable {X:Cx}{hs:List ExceptHandler}{th:HK}{c n:Str}{C':Addr}{i:Nat}{ts:TS}{b₀:Stmt}{suite:List Stmt}{np hpos:Pos}
end
section
variable {X:Cx}{st:Stmt}{h₀:ExceptHandler}{hs:List ExceptHandler}{pos:Pos}{tb:XK->TS}{th:HK}
end
section
variable {X:Cx}{pins:List (Addr×Obj)}{σ : St}{e:Expr}{es:List Expr}{te:TE}{t:TA}{E:XK}{x m:Str}{p pos apos:Pos}{k:Nat}{f C:Addr}{fd:FuncData}{ps:List Str}{sp:Sp}{dvs:List V}{ds:List Value}
end
section
variable {X:Cx}{pins:List (Addr×Obj)}{σ : St}{H:Hp}{s:Shared}{x C t:Addr}{f:Str}{A:Around}{E:Value->Shared->Prop}
end
section
variable {X:Cx}{e:Expr}{f:Str}{pos:Pos}{ta:TE}
end
end L2
namespace L2
open PySem PySem.Spec PyProof.Rows PySem.Builtin
section
variable {prog:Program}{w:World}{A:Around}{E:Value->Shared->Prop}{s:Shared}{it ea C t:Addr}{od:Option Addr}{tb:Value}{x left step:Int}{Q:Option Value->Shared->Prop}
end
end L2
namespace L2
open PySem PySem.Spec PyProof.Rows
structure zle(ea:Addr) (P:Program) (w:World) (K:Frag) (tg:Expr) (J:It) (fp:List Addr) (it:Addr) (tn:Nat->Heap->Prop):Prop where
 mem:it∈fp
 obj:∀i h,tn i h->∀b∈fp,∃o,h.get? b=some o/\∀v,o.data≠.cell v
 keep:∀i h h',tn i h->(∀b∈fp,∀o,h.get? b=some o->h'.get? b=some o)->tn i h'
 item:∀(X:Cx),X.prog=P->X.w=w->X.K=K->X.A.handled=some (.ref ea)->∀(i:Nat) (pins:List (Addr×Obj)) (s:Shared) (σ : St) (H:Hp) (E:Value->Shared->Prop),Inv X pins σ H s->(∀b∈fp,x8 X pins H b)->tn i s.heap->J.go i H->
  wpAny (model P w) X.A (pyNext (.ref it)) (fun r s1=>∃u,r=some u/\
   wpAny (model P w) X.A (letOwnedTupleGo tg (.ref it) u) (fun _ s2=>∃x H',Inv X pins σ H' s2/\zV x u/\J.yld i H x H'/\tn (i+1) s2.heap/\∀b∈fp,H' b=none) E s1) E s
 done:∀(X:Cx),X.prog=P->X.w=w->X.K=K->X.A.handled=some (.ref ea)->∀(i:Nat) (pins:List (Addr×Obj)) (s:Shared) (σ : St) (H:Hp) (E:Value->Shared->Prop),Inv X pins σ H s->(∀b∈fp,x8 X pins H b)->tn i s.heap->J.stop i H->
  wpAny (model P w) X.A (pyNext (.ref it)) (fun r s1=>r=none/\Inv X pins σ H s1) E s
 self:∀(A:Around) (i:Nat) (s:Shared) (Q:Value->Shared->Prop) (E:Value->Shared->Prop),tn i s.heap->Q (.ref it) s->wpAny (model P w) A (pyIter (.ref it)) Q E s
def zmn(X:Cx) (ea:Addr) (pins:List (Addr×Obj)) (σ : St) (tg:Expr) (R:It->Hp->Prop) (itv:Value) (s2:Shared):Prop:=
 ∃(it:Addr) (fp:List Addr) (tn:Nat->Heap->Prop) (J:It) (H':Hp),itv=.ref it/\Inv X pins σ H' s2/\zle ea X.prog X.w X.K tg J fp it tn/\tn 0 s2.heap/\(∀b∈fp,x8 X pins H' b)/\R J H'
section
variable {X:Cx}{tg:Expr}
end
section
variable {X:Cx}{pins:List (Addr×Obj)}{σ : St}{s:Shared}{sc:Scope}{fr Nc:List Str}{caps:List (Option Nat)}{elt tg iter:Expr}{ifs:List Expr}{g:TG}{tt:TT}{te:TE}{ow:List Nat}{pos pos2:Pos}{E:Value->Shared->Prop}
end
section
variable {X:Cx}{hs:List ExceptHandler}{th:HK}{c n:Str}{C':Addr}{i:Nat}{ts:TS}{b₀:Stmt}{suite:List Stmt}{np hpos:Pos}
end
section
variable {X:Cx}
end
end L2
namespace L2
open PySem PySem.Spec PyProof.Rows PySem.Builtin
section
variable {prog:Program}{w:World}{A:Around}{E:Value->Shared->Prop}{s:Shared}{it l ea C t:Addr}{od:Option Addr}{tb:Value}{i:Nat}{items:Array Value}{Q:Option Value->Shared->Prop}
end
section
variable {X:Cx}{tg:Expr}
end
section
variable {X:Cx}{sc:Scope}{elt tg iter:Expr}{ifs:List Expr}{g:TG}{tt:TT}{te:TE}{ow:List Nat}{pos:Pos}
end
section
variable {X:Cx}
end
end L2
namespace L2
open PySem PySem.Spec PyProof.Rows
section
variable {X:Cx}
end
section
variable {X:Cx}{hs:List ExceptHandler}{th:HK}{c n:Str}{C':Addr}{i:Nat}{ts:TS}{b₀:Stmt}{suite:List Stmt}{np hpos:Pos}
end
section
variable {P:Program}{w:World}{K:Frag}{mg:Str->Option Value}{base:Heap}
end
section
variable {X:Cx}{k:Nat}{f ea:Addr}{fd:FuncData}{ps:List Str}{sp:Addr->Sp}{x:Str}{p pos:Pos}{e:Expr}{es:List Expr}{t:TA}
end
theorem zec{K:Frag}{H3:Hp}{o:HO}{l b:Addr}{zs:List V}(hl:∃zs,H3 l=some (.lst zs)) (hz:SqT K H3 b zs):SqT K (upd H3 l o) b zs:=by
 obtain⟨ws,hl⟩:=hl;rcases hz with (z|⟨u,z⟩)|z
 ·refine .inl (.inl ?_)
  rw[zh (fun e=>by subst e;rw[hl] at z;cases z)]
  exact z
 ·refine .inl (.inr ⟨u,?_⟩)
  rw[zh (fun e=>by subst e;rw[hl] at z;cases z)]
  exact z
 ·exact .inr z
theorem qQ{K:Frag}{ok ok':Addr->Prop}{H:Hp}{o:HO}{l:Addr}{zs:List V}(hl:H l=some (.lst zs)) (hk:∀b,ok b->ok' b/\b≠l) {n:Nat}{x:V}{d:Dt}(h:zS K ok H n x d):zS K ok' (upd H l o) n x d:=
 h.frame (fun a xs z=>zec ⟨_,hl⟩ z) fun a xs oa z=>⟨(hk a oa).1,by rw[zh (hk a oa).2];exact z⟩
theorem zgx{K:Frag}{a:Addr}{xs:List V}{m:Nat}{caps:List (Option Nat)}{g:TG}{tt:TT}{te:TE}{σ : St}{H1:Hp}{Q:VK}{D:Addr}(dt:Nat->Dt) (hD:H1 D=none) (ha:SqL K H1 a xs) (hn:xs.length<=1000)
  (hs:∀(i:Nat) (x:V) (H:Hp) (Qf:VK) (Qs:Hp->Prop),xs[i]?=some x->zm H1 H->(∀v H',zm H H'->zS K (fun a=>H a=none) H' m v (dt i)->Qf v H')->
   g x (xi caps σ) H fun σ2 H2=>tt σ2 H2 fun ok H3=>(ok=true->te σ2 H3 Qf)/\(ok=false->Qs H3))
  (hd:∀vs H,zm H1 H->H D=some (.lst vs)->Paired (zS K (fun a=>a≠D/\H1 a=none) H m) vs ((List.range xs.length).map dt)->Q (.ref D) H):LCr (Itl K a) caps g tt te σ H1 Q D:=by
 have sz : 1000<=sizeLine:=by decide
 refine wV (K:=K) (xs:=xs) (fun i ys H'=>zm H1 H'/\H' D=some (.lst ys)/\Paired (zS K (fun a=>a≠D/\H1 a=none) H' m) ys ((List.range i).map dt)) ⟨fun b u e=>by rw[zh (zi e hD)];exact e,za,.nil⟩ (fun i ys H h=>h.1.seq ha) ?_ ?_
 ·rintro i x ys H hi hx ⟨sH,hDy,hp⟩
  refine hs i x H _ _ hx sH fun v H' s' hv=>?_;have ly:ys.length=i:=by rw[hp.length,length_map,length_range]
  refine lcN.mk hi (by omega) (s' _ _ hDy) (by omega) ⟨fun b u e=>?_,za,?_⟩
  ·rw[zh (zi e hD)]
   exact s' _ _ (sH _ _ e)
  ·rw[range_succ,map_append]
   refine Paired.snoc (Paired.imp' (fun _ _ z=>qQ (s' _ _ hDy) (fun b o=>⟨o,o.1⟩) (z.same s')) hp) (qQ (s' _ _ hDy) (fun b o=>?_) hv);have nb:b≠D:=fun e=>by subst e;rw[o] at hDy;cases hDy
   exact⟨⟨nb,sH.free o⟩,nb⟩
 ·rintro ys H ⟨sH,hDy,hp⟩
  exact hd ys H sH hDy hp
theorem zh6{n:Nat}(h:n<=1000):n<=sizeLine:=le_of_lt (zT h)
theorem zaf{α : Type}{ys:List α}{i:Nat}{y : α}(keep : α->Bool) (hy:ys[i]?=some y):(ys.take (i+1)).filter keep=(ys.take i).filter keep++(if keep y=true then [y] else []):=by
 have hi:i<ys.length:=(List.getElem?_eq_some_iff.mp hy).1;have e:ys[i]=y:=(List.getElem?_eq_some_iff.mp hy).2;rw[take_succ_eq_append_getElem hi,filter_append,e,filter_cons];rfl
theorem zig{α : Type}{ys:List α}{i:Nat}(keep : α->Bool):((ys.take i).filter keep).length<=i:=by
 have:=length_filter_le keep (ys.take i)
 rw[length_take] at this;omega
theorem wl{α : Type}{K:Frag}{a:Addr}{xs:List V}{caps:List (Option Nat)}{g:TG}{tt:TT}{te:TE}{σ : L2.St}{H1:Hp}{Q:VK}{D:Addr}(ys:List α) (keep : α->Bool) (out : α->V) (hD:H1 D=none) (ha:SqL K H1 a xs) (hl:xs.length=ys.length) (hn:xs.length<=1000)
  (hs:∀(i:Nat) (x:V) (y : α) (H:Hp) (N:VK) (S:Hp->Prop),xs[i]?=some x->ys[i]?=some y->zm H1 H->(∀H',zm H H'->keep y=true->N (out y) H')->(∀H',zm H H'->keep y=false->S H')->g x (xi caps σ) H fun σ2 H2=>tt σ2 H2 fun ok H3=>(ok=true->te σ2 H3 N)/\(ok=false->S H3))
  (hd:∀H,zm H1 H->H D=some (.lst ((ys.filter keep).map out))->Q (.ref D) H):LCr (Itl K a) caps g tt te σ H1 Q D:=by
 refine wV (K:=K) (xs:=xs) (fun i zs H'=>zm H1 H'/\H' D=some (.lst zs)/\zs=((ys.take i).filter keep).map out) ⟨zc hD _,za,rfl⟩ (fun i zs H' h=>h.1.seq ha) ?_ ?_
 ·rintro i x zs H' hlt hx ⟨sH,hDy,ez⟩
  obtain⟨y,hy⟩:∃y,ys[i]?=some y:=⟨_,getElem?_eq_getElem (by omega)⟩
  refine hs i x y H' _ _ hx hy sH (fun H2 s2 hk=>?_) (fun H2 s2 hk=>?_)
  ·refine lcN.mk hlt (zh6 hn) (s2 _ _ hDy) (by rw[ez,length_map];exact zig _) ⟨fun b' u e=>?_,za,?_⟩
   ·rw[zh (zi e hD)]
    exact s2 _ _ (sH b' u e)
   ·rw[ez,zaf keep hy,if_pos hk,map_append]
    rfl
  ·refine lcS.mk hlt ⟨sH.trans s2,s2 _ _ hDy,?_⟩
   rw[ez,zaf keep hy,if_neg (by rw[hk];exact Bool.false_ne_true),append_nil]
 ·rintro zs H2 ⟨s2,hDy,ez⟩
  rw[take_of_length_le (by omega)] at ez
  rw[ez] at hDy;exact hd H2 s2 hDy
end L2
namespace L2
open PySem PySem.Spec PyProof.Rows PySem.Builtin
section
variable {prog:Program}{w:World}{A:Around}{E:Value->Shared->Prop}{s:Shared}{it l ea C t:Addr}{od:Option Addr}{tb:Value}{i:Nat}{items:Array Value}{Q:Option Value->Shared->Prop}
end
section
variable {prog:Program}{w:World}{A:Around}{E:Value->Shared->Prop}{s:Shared}{ea C tt:Addr}{od:Option Addr}{tb:Value}
end
end L2
namespace L2
open PySem PySem.Spec PyProof.Rows
section
variable {X:Cx}{tg:Expr}
end
theorem qB{X:Cx}:xh X (.builtin "len") (fun xs H Q=>∃(a:Addr) (S:Str->Bool) (n:Nat),xs=[.ref a]/\H a=some (wv X.prog X.w a S n)/\Q (.int n) H):=by
 intro pins s σ H xs us Q I r h;obtain⟨a,S,n,rfl,e,q⟩:=h;obtain⟨u,rfl,ru⟩:=wA r;cases ru;obtain⟨o,es,ep,t,ho,hx,hd,_,_,hb,hf,hn⟩:=(I.hok a _ e).1;have h63:(es.size:Int)<2 ^ 63:=by
  have:scanBound<2 ^ 63:=by unfold scanBound;decide
  omega
 refine call_len_set ho hx hd hf h63 ?_;exact⟨.int es.size,H,I.tok _,⟨_,rfl⟩,by rw[hn];exact q⟩
theorem ui{α : Type}{R:Addr->α->Prop}{us:List Addr}{rows:List α}(h:Paired R us rows) (keep : α->Bool):∃vs:List Addr,((us.zip rows).filter fun p=>keep p.2).map (fun p=>V.ref p.1)=vs.map V.ref/\Paired R vs (rows.filter keep):=by
 induction h with
 | nil=>exact⟨[],rfl,.nil⟩
 | cons r t ih=>
  rename_i u y us ys;obtain⟨vs,e,p⟩:=ih;rw[zip_cons_cons,filter_cons,filter_cons];cases hk:keep y with
  | true=>
   refine⟨u::vs,?_,?_⟩
   ·rw[if_pos rfl,map_cons,e]
    rfl
   ·rw[if_pos rfl]
    exact .cons r p
  | false=>exact⟨vs,by rw[if_neg Bool.false_ne_true,e],by rw[if_neg Bool.false_ne_true];exact p⟩
theorem zar{α : Type}{R:Addr->α->Prop}{us:List Addr}{rows:List α}(h:Paired R us rows) (keep : α->Bool) (out : α->V):((us.zip rows).filter fun p=>keep p.2).map (fun p=>out p.2)=(rows.filter keep).map out:=by
 induction h with
 | nil=>rfl
 | cons r t ih=>
  rename_i u y us ys;rw[zip_cons_cons,filter_cons,filter_cons];cases hk:keep y with
  | true=>rw[if_pos rfl,if_pos rfl,map_cons,map_cons,ih]
  | false=>rw[if_neg Bool.false_ne_true,if_neg Bool.false_ne_true,ih]
theorem wx{α : Type}{K:Frag}{a:Addr}{us:List Addr}{rows:List α}{caps:List (Option Nat)}{g:TG}{tt:TT}{te:TE}{σ : L2.St}{H1:Hp}{Q:VK}{D:Addr}(R:Hp->Addr->α->Prop) (keep : α->Bool) (out:Addr->α->V) (hD:H1 D=none) (ha:H1 a=some (.lst (us.map V.ref))) (hu:Paired (R H1) us rows) (hn:rows.length<=1000)
  (hs:∀(i:Nat) (u:Addr) (y : α) (H:Hp) (N:VK) (S:Hp->Prop),us[i]?=some u->rows[i]?=some y->R H1 u y->zm H1 H->(∀H',zm H H'->keep y=true->N (out u y) H')->(∀H',zm H H'->keep y=false->S H')->g (.ref u) (xi caps σ) H fun σ2 H2=>tt σ2 H2 fun ok H3=>(ok=true->te σ2 H3 N)/\(ok=false->S H3))
  (hd:∀H,zm H1 H->H D=some (.lst (((us.zip rows).filter fun p=>keep p.2).map fun p=>out p.1 p.2))->Q (.ref D) H):LCr (Itl K a) caps g tt te σ H1 Q D:=by
 have hl:us.length=rows.length:=hu.length;have lz:(us.zip rows).length=rows.length:=by rw[List.length_zip,hl,Nat.min_self]
 refine wl (K:=K) (xs:=us.map V.ref) (us.zip rows) (fun p=>keep p.2) (fun p=>out p.1 p.2) hD (SqL.of ha) (by rw[length_map,lz,hl]) (by rw[length_map,hl];exact hn) (fun i x y H N S hx hy sH n1 s1=>?_) hd
 have hi:i<rows.length:=by rw[<- lz];exact(List.getElem?_eq_some_iff.mp hy).1
 have e1:(us.zip rows)[i]?=some (us[i],rows[i]):=by
  rw[getElem?_eq_getElem (by omega),List.getElem_zip]
 rw[e1] at hy;cases hy;have hu1:us[i]?=some us[i]:=getElem?_eq_getElem (by omega)
 rw[getElem?_map,hu1] at hx;cases hx;obtain⟨d,hd',hr⟩:=Paired.get hu hu1;have e2:rows[i]?=some rows[i]:=getElem?_eq_getElem hi;rw[e2] at hd';cases hd';exact hs i us[i] rows[i] H N S hu1 e2 hr sH n1 s1
section
variable {X:Cx}{pins:List (Addr×Obj)}{σ : St}{e o:Expr}{es:List Expr}{ta:TE}{t:TA}{E:XK}{m:Str}{pos apos:Pos}{k:Nat}{f C:Addr}{fd:FuncData}{ps:List Str}{sp:Sp}
end
theorem Inv.turnedL{X:Cx}{pins:List (Addr×Obj)}{σ : St}{H:Hp}{s:Shared}{h':Heap}{t':Nat}{ch:List Addr}(I:Inv X pins σ H s) (hf:∀b∈ch,x8 X pins H b) (k:∀b o,b∉ch->s.heap.get? b=some o->h'.get? b=some o):Inv X pins σ H { s with heap:=h',toks:=t' }:=by
 have nit:∀b u,H b=some u->b∉ch:=fun b u e z=>by rw[(hf b z).1] at e;cases e
 refine I.step (g':=s.gens) (d':=s.drawn) (ch:=ch) (fun b hb=>?_) (fun b o _ _ hc e _=>k b o hc e) (fun b o _ _ hc e _=>⟨o.slots,k b o hc e⟩) (fun _ _ _ _ n=>n)
  (fun b o hc e=>⟨o,k b o hc e⟩) (fun _ _ e=>e) (fun _ _ _ e=>e) (fun b ps e=>⟨#[],by rw[e];simp⟩) (fun m hm=>?_) (fun b u e=>?_) I.bare
 ·obtain⟨f0,f1,f2,f3,f4,f5⟩:=hf b hb
  exact⟨f3,f1,f4,f5⟩
 ·obtain⟨o,es,ep,ho,r⟩:=hm
  exact⟨o,es,ep,k _ o (fun z=>(hf _ z).2.1 rfl) ho,r⟩
 ·refine(I.hok b u e).stay (fun c v hc q=>k c v ?_ q) (fun _ q=>q) fun _ _ q=>q
  rcases hc with z|z
  ·rw[z];exact nit b u e
  ·exact nit c _ z
section
variable {X:Cx}{elts:List Expr}{x1:Nat}{tpos:Pos}
end
section
variable {P:Program}{w:World}{A:Around}{R:Result->Shared->Prop}{I:Addr}{fp wr:List Addr}{G:Array GenState->Array GenState->Prop}{n:Nat}{Pr:Nat->Value->Prop}{Sg:Nat->Shared->Prop}
end
theorem zdR{β : Type}{K:Frag}{a:Addr}{xs:List V}{bs:List β}{caps:List (Option Nat)}{g:TG}{tt:TT}{te:TE}{σ : L2.St}{H1:Hp}{Q:VK}{D:Addr}(R':Hp->Addr->β->Prop)
  (sR':∀{H H' v r},R' H v r->zm H H'->R' H' v r) (uR':∀{H v r D ys o},R' H v r->H D=some (.lst ys)->R' (upd H D o) v r)
  (ha:SqL K H1 a xs) (hl:xs.length=bs.length) (hn:bs.length<=500) (hD:H1 D=none)
  (hs:∀(i:Nat) x b H (Qf:VK) (Qs:Hp->Prop),xs[i]?=some x->bs[i]?=some b->zm H1 H->(∀v H',zm H H'->R' H' v b->Qf (.ref v) H')->
   g x (xi caps σ) H fun σ2 H2=>tt σ2 H2 fun ok H3=>(ok=true->te σ2 H3 Qf)/\(ok=false->Qs H3))
  (hd:∀vs H,zm H1 H->H D=some (.lst (vs.map V.ref))->Paired (R' H) vs bs->Q (.ref D) H):LCr (Itl K a) caps g tt te σ H1 Q D:=by
 refine wV (K:=K) (xs:=xs) (fun i ys H'=>∃vs,ys=vs.map V.ref/\zm H1 H'/\H' D=some (.lst ys)/\Paired (R' H') vs (bs.take i)) ⟨[],rfl,zc hD _,za,.nil⟩ (fun i ys H' ⟨_,_,h,_⟩=>h.seq ha) ?_ ?_
 ·rintro i x ys H' hlt hx ⟨vs,rfl,sH,hDy,fv⟩
  have hi:i<bs.length:=by omega
  have hb:bs[i]?=some bs[i]:=getElem?_eq_getElem hi;have nl:(vs.map V.ref).length<=i:=by
   rw[length_map,fv.length,length_take];omega
  refine hs i x _ H' _ _ hx hb sH (fun v H2 s2 r2=>?_);have s3:zm H1 (upd H2 D (.lst (vs.map V.ref++[.ref v]))):=fun b o z=>by
   rw[zh (zi z hD)];exact s2 _ _ (sH b o z)
  refine lcN.mk hlt (le_of_lt (zT (by omega))) (s2 _ _ hDy) nl ⟨vs++[v],by rw[map_append];rfl,s3,za,?_⟩
  rw[take_succ_eq_append_getElem hi];exact Paired.snoc (Paired.imp' (fun w r' z=>uR' (sR' z s2) (s2 _ _ hDy)) fv) (uR' r2 (s2 _ _ hDy))
 ·rintro ys H ⟨vs,rfl,sH,hDy,fv⟩
  rw[hl,take_length] at fv;exact hd vs H sH hDy fv
section
variable {X:Cx}
end
end L2
namespace L2
open PySem PyProof.Rows
def ze4(X:Cx) (ss:List Stmt):TS:=fun D σ H=>∃t,PSs X ss t/\t D σ H
theorem wp{X:Cx}{ss:List Stmt}:PSs X ss (ze4 X ss):=⟨fun pins s σ H D I ⟨_,p,h⟩=>p pins s σ H D I h⟩
theorem zA{X:Cx}{st:Stmt}{rest:List Stmt}{t:TS}{D:L2.jp}{σ : L2.St}{H:Hp}(p:PS X st t) (h:uO t (ze4 X rest) D σ H):ze4 X (st::rest) D σ H:=⟨_,zj p wp,h⟩
end L2
namespace L2
open PySem PySem.Spec PyProof.Rows
section
variable {X:Cx}{pins:List (Addr×Obj)}{σ : St}{H:Hp}{s:Shared}{ok:Addr->Prop}
end
def leS(a b:Str):Bool:=!ltCps b.cps.toList a.cps.toList
def z9(zs:List Str):List Str:=zs.mergeSort leS
theorem uF(a b:List Nat):ltCps a b=decide (a<b):=ltCps_eq a b
theorem zeH(a b:Str):(leS a b||leS b a)=true:=by
 unfold leS;rw[uF,uF];by_cases h:b.cps.toList<a.cps.toList
 ·have:¬a.cps.toList<b.cps.toList:=fun h2=>List.lt_asymm h h2
  simp [h,this]
 ·simp [h]
theorem qY(a b c:Str) (h1:leS a b=true) (h2:leS b c=true):leS a c=true:=by
 unfold leS at *;rw[uF] at *;simp only[Bool.not_eq_true',decide_eq_false_iff_not,not_lt] at *;exact List.le_trans h1 h2
theorem zgw{a b:Str}(h1:leS a b=true) (h2:leS b a=true):a=b:=by
 unfold leS at *;rw[uF] at *;simp only[Bool.not_eq_true',decide_eq_false_iff_not,not_lt] at *
 have:=List.le_antisymm h1 h2
 cases a;cases b;simp only[Str.mk.injEq] at *;exact Array.ext' this
theorem zH(zs:List Str):(z9 zs).Perm zs:=List.mergeSort_perm _ _
theorem jH(zs:List Str):(z9 zs).Pairwise (fun a b=>leS a b=true):=List.pairwise_mergeSort qY zeH zs
theorem qR:∀(p:Str) (l:List Str),risingS p l=true->(p::l).Pairwise (fun a b=>leS a b=true)
 | _,[],_=>List.pairwise_singleton _ _
 | p,x::r,h=>by
  have h:(!ltCps x.cps.toList p.cps.toList&&risingS x r)=true:=h;rw[Bool.and_eq_true] at h;have ih:=qR x r h.2;refine List.pairwise_cons.mpr ⟨fun y hy=>?_,ih⟩;rcases List.mem_cons.mp hy with rfl|hy
  ·exact h.1
  ·exact qY p x y h.1 (List.rel_of_pairwise_cons ih hy)
theorem zcA:∀(l:List Str),sortedS l=true->l.Pairwise (fun a b=>leS a b=true)
 | [],_=>List.Pairwise.nil
 | x::r,h=>qR x r h
theorem qL{a b:List Str}(p:a.Perm b) (ha:a.Pairwise (fun a b=>leS a b=true)) (hb:b.Pairwise (fun a b=>leS a b=true)):a=b:=p.eq_of_pairwise (fun x y _ _ h1 h2=>zgw h1 h2) ha hb
theorem zbr{a b:List Str}(p:a.Perm b) (h:sortedS a=true):a=z9 b:=qL (p.trans (zH b).symm) (zcA a h) (jH b)
theorem jI{a b:List Str}:z9 a=z9 b ↔ a.Perm b:=⟨fun h=>(zH a).symm.trans (h ▸ zH b),fun h=>qL ((zH a).trans (h.trans (zH b).symm)) (jH a) (jH b)⟩
theorem zQ.strsAre:∀{zs:List Str}{us:List Value},zQ (zs.map V.str) us->StrsAre us zs
 | [],_,h=>by cases h;exact .nil
 | n::ns,_,h=>by
  cases h with
  | cons r t=>
   obtain⟨k,rfl⟩:=r;exact .cons n k (zQ.strsAre t)
theorem StrsAre.vals:∀{us:List Value}{zs:List Str},StrsAre us zs->zQ (zs.map V.str) us
 | _,_,.nil=>.nil
 | _,_,.cons n t h=>.cons ⟨t,rfl⟩ (StrsAre.vals h)
section
variable {X:Cx}
theorem x6:xh X (.builtin "sorted") (fun xs H Q=>∃(p:Addr) (zs:List Str),xs=[.ref p]/\SqL X.K H p (zs.map V.str)/\zs.length<64/\∀(l:Addr),H l=none->Q (.ref l) (upd H l (.lst ((z9 zs).map V.str)))):=by
 intro pins s σ H xs us Q I r h;obtain⟨p,ns,rfl,hS,h64,q⟩:=h;obtain⟨u,rfl,ru⟩:=wA r;cases ru;obtain⟨its,rv,hp,hz⟩:=I.list hS;have hlen:its.length=ns.length:=by rw[<- rv.length,length_map]
 refine sorted_strs hp.isList (zQ.strsAre rv) (by omega) fun out ns' hI hperm hsort=>?_
 obtain⟨e,he⟩:=sortedAll_at s.heap its out;have en:=zbr hperm hsort;subst en;refine⟨.ref (s.heap.objs.size+1),_,I.laid (t':=s.toks) (o:=.lst ((z9 ns).map V.str)) (fun b o hb=>sortedAll_old hb) (le_succ _) ⟨?_,out.toList,e,StrsAre.vals hI,by simpa using he⟩,rfl,q _ (I.hok.fresh (le_succ _))⟩
 rw[length_map,hperm.length_eq];have : 1000<=sizeLine:=by decide
 omega
end
end L2
namespace K83
open PySem L2 PyProof.Rows
abbrev TR:=Option (List Str×Bool×List Str)
def frR(r:Rw):Bool:=fr r.k r.b
def vV(rows:List Rw) (many:Nat):List Rw:=(rows.drop many).filter fun r=>!frR r
def jV(rows:List Rw) (bars:List Str) (many:Nat):TR:=
 if (vV rows many).any (fun r=>!yd r.k)=true then none
 else some (z9 ((vV rows many).map (·.z)),(zO 4 0 rows).isSome,if (zO 4 0 rows).isSome=true then z9 (bars++nms (rows.take many)) else z9 (nms (rows.drop many)))
def zej:TR->Dt
 | none=>.non
 | some (a,b,c)=>.tup [.lst (a.map Dt.str),.bl b,.lst (c.map Dt.str)]
def zdx(c:C5):Sp:=fun vs H Q _=>∃(a:Addr) (ps:List Addr) (rows:List Rw),vs=[.ref a]/\H a=some (.lst (ps.map V.ref))/\Paired (PAt c H) ps rows/\(∀r∈rows,r.ok)/\rows.length<=500/\∀(l:Addr) (H':Hp),zm H H'->H' l=some (.lst ((nms rows).map V.str))->Q (.ref l) H'
def zdq(K:Frag) (c:C5) (CF:Addr):Sp:=fun vs H Q _=>∃(f:Addr) (many:Nat) (rows:List Rw) (bars:List Str),vs=[.ref f,.int (many:Nat)]/\xU c CF H f rows bars/\rows.length<=24/\bars.length<=60/\bars.length+(nms rows).length<64/\∀(v:V) (H':Hp),zm H H'->zS K (fun a=>H a=none) H' 2 v (zej (jV rows bars many))->Q v H'
section
variable {P:Program}{w:World}{K:Frag}{mg:Str->Option Value}{base:Heap}{f CF G sg:Addr}{fd:FuncData}{c:C5}{m:MA}
theorem zhs:zu ["parameters"] ["parameters"] (zg zcy):=⟨rfl,rfl,rfl,by decide +kernel,rfl,by decide +kernel,by decide +kernel⟩
theorem zgp{gd:FuncData}(F:Fun K "door_names" "door_names" zcy f fd) (PP:Pcs K m c) (GB:zJ P w K mg base CX0 1 m.fB gd ["self"] (jG K m bnL)) (bB:z7 K gd ["self"] []):zJ P w K mg base CX0 2 f fd ["parameters"] (zdx c):=by
 refine F.ok zhs (fun vs H Q E h=>?_) (fun cdv A outer s H vs Q E hr h=>?_)
 ·obtain⟨a,ps,rows,rfl,_⟩:=h
  rfl
 obtain⟨a,ps,rows,rfl,ha,hp,hok,l5,q⟩:=h;have hC:∀C,Cs5 c C->Cls K C/\xp K C "by_name" m.fB:=fun C ⟨k,hk,e⟩=>by rw[e];exact⟨(PP k hk).cl,(PP k hk).mB⟩
 refine⟨_,ze (zC (yP [] ["parameter"] [none] rfl ⟨rfl,rfl,rfl,rfl⟩ (zM (pv 0)) (zG 0) rfl rfl rfl
    (fun pins fp s H C=>⟨zk (i:=0) zeD rfl (Or.inl rfl) (.inr rfl),yk (yr (wc (pv 0) hC GB hr bB yp)),jr (K:=K) rfl (pv 0) rfl⟩))),?_⟩
 refine⟨_,rfl,a,rfl,⟨_,SqL.of ha⟩,fun D hD=>?_⟩;refine wl (K:=K) (xs:=ps.map V.ref) rows (fun r=>yd r.k) (fun r=>V.str r.z) hD (SqL.of ha) (by rw[length_map,hp.length]) (by rw[length_map,hp.length];omega) (fun i x r H' Nn S hx hr' sH nn ss=>?_) (fun H1 s1 h1=>?_)
 ·obtain⟨pa,hpa,rfl⟩:=yV hx
  obtain⟨r',hr2,dx,hdx⟩:=yb hp hpa;rw[hr'] at hr2;cases hr2;have rok:=hok r (mem_of_getElem? hr');have C:=PP r.k rok.1;have hd2:=sH _ _ hdx;refine⟨_,rfl,pa,_,dx,_,rfl,⟨r.k,rok.1,rfl⟩,hd2,uz (by decide +kernel) (by decide +kernel) (by decide +kernel),pa,dx,_,_,_,_,rfl,C,hd2,_,rfl,?_⟩
  rw[zab r.k rok.1];exact⟨fun e=>⟨_,rfl,pa,_,dx,_,_,rfl,hd2,C.cl,C.nN,vG,nn _ (zm.refl _) e⟩,fun e=>ss _ (zm.refl _) e⟩
 ·refine q D _ s1 ?_
  rw[h1];unfold nms;rw[map_map];rfl
end
theorem xG{xs:List V}{n:Nat}:xo xs none (some (n:Int))=xs.take n:=by
 unfold xo;rw[HT.zll,HT.zkG,List.drop_zero,Nat.sub_zero];by_cases h:n<=xs.length
 ·rw[Nat.min_eq_left h]
 ·rw[Nat.min_eq_right (by omega),take_of_length_le (Nat.le_refl _),take_of_length_le (by omega)]
theorem wJ{xs:List V}{n:Nat}:xo xs (some (n:Int)) none=xs.drop n:=by
 unfold xo;rw[HT.zll,HT.zkG];by_cases h:n<=xs.length
 ·rw[Nat.min_eq_left h]
  exact take_of_length_le (by rw[length_drop];exact Nat.le_refl _)
 ·rw[Nat.min_eq_right (by omega),drop_of_length_le (Nat.le_refl _),drop_of_length_le (by omega)]
  simp
theorem ua{α β : Type}{R : α->β->Prop}{a:List α}{c:List β}(h:Paired R a c):∀n,Paired R (a.take n) (c.take n):=by
 induction h with
 | nil=>intro n;rw[take_nil,take_nil];exact .nil
 | cons r _ ih=>
  intro n;cases n with
  | zero=>exact .nil
  | succ n=>exact .cons r (ih n)
theorem wT{α β : Type}{R : α->β->Prop}{a:List α}{c:List β}(h:Paired R a c):∀n,Paired R (a.drop n) (c.drop n):=by
 induction h with
 | nil=>intro n;rw[drop_nil,drop_nil];exact .nil
 | cons r t ih=>
  intro n;cases n with
  | zero=>exact .cons r t
  | succ n=>exact ih n
theorem zaV{α β : Type}{R : α->β->Prop}{a:List α}{c:List β}(k : β->Bool) (h:Paired R a c):Paired R (((a.zip c).filter fun p=>k p.2).map (·.1)) (c.filter k):=by
 induction h with
 | nil=>exact .nil
 | @cons x y xs ys r _ ih=>
  rw[zip_cons_cons,filter_cons,filter_cons];cases e:k y with
  | true=>rw[if_pos rfl,if_pos rfl,map_cons];exact .cons r ih
  | false=>rw[if_neg Bool.false_ne_true,if_neg Bool.false_ne_true];exact ih
theorem xI{kk:Nat}{rows:List Rw}:wj (zO kk 0 rows)=.non ↔ (zO kk 0 rows).isSome=false:=by
 cases zO kk 0 rows with
 | none=>exact⟨fun _=>rfl,fun _=>rfl⟩
 | some i=>exact⟨(fun h=>by cases h),(fun h=>by cases h)⟩
theorem wC{K:Frag}{ok:Addr->Prop}{H:Hp}{n:Nat}:∀(zs:List Str),Paired (zS K ok H n) (zs.map V.str) (zs.map Dt.str)
 | []=>.nil
 | z::zs=>.cons .str (wC zs)
theorem ju(rows:List Rw):(nms rows).length<=rows.length:=by unfold nms;rw[length_map];exact length_filter_le _ _
structure zld(mg:Str->Option Value):Prop where
 any:mg "any"=none
 sorted:mg "sorted"=none
 range:mg "range"=none
 len:mg "len"=none
section
variable {P:Program}{w:World}{K:Frag}{mg:Str->Option Value}{base:Heap}{f CF G sg:Addr}{fd:FuncData}{c:C5}{m:MA}
theorem um:zu ["form","many","parameters","left","lacking","needed"] ["form","many"] (zg zcm):=⟨rfl,rfl,rfl,by decide +kernel,rfl,by decide +kernel,by decide +kernel⟩
theorem zga{g1 gP gB gG:Addr}{e1 eP eB eG gf gn:FuncData}(F:Fun K "row_of" "row_of" zcm f fd) (U:zld mg) (PP:Pcs K m c) (FK:FC K CF) (cD:zK P w K mg base 2 "door_names" g1 e1 ["parameters"] (zdx c))
  (mP:xp K CF "parameters" gP) (GP:zJ P w K mg base CX0 1 gP eP ["self"] (zau c CF)) (bP:z7 K eP ["self"] []) (mB:xp K CF "bars" gB) (GB:zJ P w K mg base CX0 1 gB eB ["self"] (zay c CF)) (bB:z7 K eB ["self"] []) (mG:xp K CF "bag" gG) (GG:zJ P w K mg base CX0 1 gG eG ["self"] (vc c CF 4)) (bG:z7 K eG ["self"] [])
  (GF:zJ P w K mg base CX0 1 m.fF gf ["self"] (zax K m)) (bF:z7 K gf ["self"] []) (GN:zJ P w K mg base CX0 1 m.fB gn ["self"] (jG K m bnL)) (bN:z7 K gn ["self"] []):zJ P w K mg base CX0 3 f fd ["form","many"] (zdq K c CF):=by
 refine F.ok um (fun vs H Q E h=>?_) (fun cdv A outer s H vs Q E hr h=>?_)
 ·obtain⟨f,many,rows,bars,rfl,_⟩:=h
  rfl
 obtain⟨f,many,rows,bars,rfl,hF,l24,l30,l64,q⟩:=h;have hr1:yw 1 _:=hr.mono (by decide)
 have hok:=hF.ok;have hFr:∀C,Cs5 c C->Cls K C/\xp K C "free" m.fF:=fun C ⟨k,hk,e⟩=>by rw[e];exact⟨(PP k hk).cl,(PP k hk).mF⟩
 have hNm:∀C,Cs5 c C->Cls K C/\xp K C "by_name" m.fB:=fun C ⟨k,hk,e⟩=>by rw[e];exact⟨(PP k hk).cl,(PP k hk).mB⟩
 obtain⟨dx,fs,lr,lb',ld,pps,h1,h2,h3,h4,h5,h6⟩:=id hF.at_;refine zA (zy (i:=2) um.nd rfl (Or.inl rfl) (yz (pv 0) FK.cl mP GP hr1 bP .nil yp)) ?_;refine⟨_,rfl,f,dx,fs,rfl,h1,h2.no _ (by decide +kernel),f,rows,bars,rfl,hF.at_,fun l ps H1 s1 nl hl hp=>?_⟩
 dsimp only[zN];refine zA (zy (i:=3) um.nd rfl (Or.inl rfl) (yf yU (pv 2) (yj (pv 1)) yJ)) ?_;refine⟨_,rfl,_,rfl,_,rfl,l,_,rfl,SqL.of hl,fun l2 hl2=>?_⟩;rw[show xo (ps.map V.ref) (some (many:Int)) none=(ps.drop many).map V.ref from wJ.trans (map_drop ..).symm];have s2:=zc hl2 (.lst ((ps.drop many).map V.ref));have g2:upd H1 l2 (.lst ((ps.drop many).map V.ref)) l2=some (.lst ((ps.drop many).map V.ref)):=za;generalize upd H1 l2 (.lst ((ps.drop many).map V.ref))=H2 at s2 g2 |-;have s02:=s1.trans s2;have hp2:=yG s2 hp;have hpd:=wT hp2 many;have okd:∀r∈rows.drop many,r.ok:=fun r hr=>hok r (mem_of_mem_drop hr);have ld':(rows.drop many).length<=24:=by rw[length_drop];omega
 dsimp only[zN];refine zA (vi (i:=4) [] ["parameter"] [none] um.nd rfl (Or.inl rfl) rfl ⟨rfl,rfl,rfl,rfl⟩ (zM (pv 3)) (zG 0) rfl rfl rfl
   (fun pins fp s H C=>⟨zk (i:=0) zeD rfl (Or.inl rfl) (.inr rfl),yk (xc (yr (wc (pv 0) hFr GF hr1 bF yp))),pv 0⟩)) ?_
 refine⟨_,rfl,l2,rfl,⟨_,SqL.of g2⟩,fun D hD=>?_⟩;refine wl (K:=K) (xs:=(ps.drop many).map V.ref) ((ps.drop many).zip (rows.drop many)) (fun p=>!frR p.2) (fun p=>V.ref p.1) hD (SqL.of g2) (by rw[length_map,List.length_zip,hpd.length,Nat.min_self]) (by rw[length_map,hpd.length];omega) (fun i x y H' Nn S hx hy sH nn ss=>?_) (fun H3 s3 h3'=>?_)
 ·obtain⟨pa,hpa,rfl⟩:=yV hx
  obtain⟨r,hr',dx',hdx⟩:=yb hpd hpa;have ey:y=(pa,r):=by
   rw[List.getElem?_zip_eq_some] at hy;rw[hpa,hr'] at hy;obtain⟨a,b⟩:=hy;cases y;simp only[Option.some.injEq] at a b;rw[a,b]
  subst ey;have rok:=okd r (mem_of_getElem? hr');have C:=PP r.k rok.1;have hd2:=sH _ _ hdx;refine⟨_,rfl,pa,_,dx',_,rfl,⟨r.k,rok.1,rfl⟩,hd2,uz (by decide +kernel) (by decide +kernel) (by decide +kernel),pa,dx',_,_,_,_,rfl,C,hd2,_,rfl,?_⟩
  exact⟨fun e=>⟨_,rfl,nn _ (zm.refl _) e⟩,fun e=>ss _ (zm.refl _) e⟩
 have hq:=zaV (fun r=>!frR r) (yG s3 hpd);have h3':H3 D=some (.lst (((((ps.drop many).zip (rows.drop many)).filter fun p=>!frR p.2).map (·.1)).map V.ref)):=by rw[h3',map_map];rfl
 have hq:Paired (PAt c H3) ((((ps.drop many).zip (rows.drop many)).filter fun p=>!frR p.2).map (·.1)) (vV rows many):=hq;generalize (((ps.drop many).zip (rows.drop many)).filter fun p=>!frR p.2).map (·.1)=qs at h3' hq;have okl:∀r∈vV rows many,r.ok:=fun r hr=>okd r (List.mem_filter.mp hr).1;have ll:(vV rows many).length<=24:=Nat.le_trans (length_filter_le _ _) ld';have s03:=s02.trans s3;dsimp only[zN];have erow:jV rows bars many=if (vV rows many).any (fun r=>!yd r.k)=true then none else some (z9 ((vV rows many).map (·.z)),(zO 4 0 rows).isSome,if (zO 4 0 rows).isSome=true then z9 (bars++nms (rows.take many)) else z9 (nms (rows.drop many))):=rfl
 generalize jV rows bars many=R at q erow;generalize vV rows many=lk at hq okl ll erow;refine zA (zP (yr (cB (zeW rfl) U.any boot_any (ac (yP [] ["parameter"] [none] rfl ⟨rfl,rfl,rfl,rfl⟩ (zM (pv 4)) (zG 0) rfl rfl rfl
   (fun pins fp s H C=>⟨zk (i:=0) zeD rfl (Or.inl rfl) (.inr rfl),yK,zcF (wc (pv 0) hNm GN hr1 bN yp)⟩)) zd))) (ze (zC uT)) zE) ?_
 refine⟨_,rfl,D,rfl,⟨_,SqL.of h3'⟩,fun D2 hD2=>?_⟩;refine wl (K:=K) (xs:=qs.map V.ref) lk (fun _=>true) (fun r=>V.bl (!yd r.k)) hD2 (SqL.of h3') (by rw[length_map,hq.length]) (by rw[length_map,hq.length];omega) (fun i x r H' Nn S hx hr' sH nn ss=>?_) (fun H4 s4 h4'=>?_)
 ·obtain⟨pa,hpa,rfl⟩:=yV hx
  obtain⟨r',hr2,dx',hdx⟩:=yb hq hpa;rw[hr'] at hr2;cases hr2;have rok:=okl r (mem_of_getElem? hr');have C:=PP r.k rok.1;have hd2:=sH _ _ hdx;refine⟨fun _=>?_,fun e=>Bool.noConfusion e⟩;refine⟨_,rfl,pa,_,dx',_,rfl,⟨r.k,rok.1,rfl⟩,hd2,uz (by decide +kernel) (by decide +kernel) (by decide +kernel),pa,dx',_,_,_,_,rfl,C,hd2,_,rfl,?_⟩
  rw[zab r.k rok.1];exact nn _ (zm.refl _) rfl
 rw[List.filter_eq_self.mpr (fun _ _=>rfl),show lk.map (fun r=>V.bl (!yd r.k))=(lk.map fun r=>!yd r.k).map V.bl by rw[map_map];rfl] at h4'
 refine⟨D2,_,rfl,SqL.of h4',_,rfl,?_⟩;have ean:(lk.map fun r=>!yd r.k).any id=lk.any fun r=>!yd r.k:=by rw[any_map];rfl
 rw[ean];have s04:=s03.trans s4;cases ea:lk.any (fun r=>!yd r.k) with
 | true=>
  rw[ea,if_pos rfl] at erow;refine xm ?_;refine q _ _ s04 ?_;rw[erow];exact .inl True.intro
 | false=>
  rw[ea,if_neg Bool.false_ne_true] at erow;refine yq ?_;have h3'':=s4 _ _ h3';have hq4:=yG s4 hq;refine zA (zy (i:=5) um.nd rfl (Or.inl rfl) (cB x6 U.sorted boot_sorted (ac (yP [] ["parameter"] [none] rfl ⟨rfl,rfl,rfl,rfl⟩ (zM (pv 4)) (zG 0) rfl rfl rfl
   (fun pins fp s H C=>⟨zk (i:=0) zeD rfl (Or.inl rfl) (.inr rfl),yK,jr (K:=K) rfl (pv 0) rfl⟩)) zd))) ?_
  refine⟨_,rfl,D,rfl,⟨_,SqL.of h3''⟩,fun D3 hD3=>?_⟩;refine wl (K:=K) (xs:=qs.map V.ref) lk (fun _=>true) (fun r=>V.str r.z) hD3 (SqL.of h3'') (by rw[length_map,hq.length]) (by rw[length_map,hq.length];omega) (fun i x r H' Nn S hx hr' sH nn ss=>?_) (fun H5 s5 h5'=>?_)
  ·obtain⟨pa,hpa,rfl⟩:=yV hx
   obtain⟨r',hr2,dx',hdx⟩:=yb hq4 hpa;rw[hr'] at hr2;cases hr2;have C:=PP r.k (okl r (mem_of_getElem? hr')).1;exact⟨fun _=>⟨_,rfl,pa,_,dx',_,_,rfl,sH _ _ hdx,C.cl,C.nN,vG,nn _ (zm.refl _) rfl⟩,fun e=>Bool.noConfusion e⟩
  rw[List.filter_eq_self.mpr (fun _ _=>rfl),show lk.map (fun r=>V.str r.z)=(lk.map (·.z)).map V.str by rw[map_map];rfl] at h5'
  refine⟨D3,_,rfl,SqL.of h5',by rw[length_map];omega,fun ln hln=>?_⟩
  have s6:=zc hln (.lst ((z9 (lk.map (·.z))).map V.str));have g6:upd H5 ln (.lst ((z9 (lk.map (·.z))).map V.str)) ln=some (.lst ((z9 (lk.map (·.z))).map V.str)):=za;have s06:=s04.trans (s5.trans s6);have s26:=s3.trans (s4.trans (s5.trans s6));have nln:H ln=none:=(s04.trans s5).free hln;generalize upd H5 ln (.lst ((z9 (lk.map (·.z))).map V.str))=H6 at s6 g6 s06 s26 |-;dsimp only[zN];refine zA (zP (xE (xQ (yz (pv 0) FK.cl mG GG hr1 bG .nil yp))) wp zE) ?_;have F6:=hF.same s06;refine⟨_,rfl,f,dx,fs,rfl,s06 _ _ h1,h2.no _ (by decide +kernel),f,rows,bars,rfl,F6.at_,_,rfl,?_⟩
  have fin:∀{l7:Addr}{zs:List Str}{b:Bool}{H7:Hp},zm H6 H7->H7 l7=some (.lst (zs.map V.str))->H l7=none->R=some (z9 (lk.map (·.z)),b,zs)->∀t,H7 t=none->Q (.ref t) (upd H7 t (.tup [.ref ln,.bl b,.ref l7])):=fun {l7 zs b H7} s7 h7 n7 eR t ht=>by
   have s8:=zc ht (.tup [.ref ln,.bl b,.ref l7]);refine q _ _ (s06.trans (s7.trans s8)) ?_;rw[eR];exact zS.tup (SqT.of za) (.cons (zS.lst nln ((s7.trans s8) _ _ g6) (wC _)) (.cons zS.bl (.cons (zS.lst n7 (s8 _ _ h7) (wC _)) .nil)))
  cases eb:(zO 4 0 rows).isSome with
  | false=>
   rw[eb,if_neg Bool.false_ne_true] at erow;refine xB (decide_eq_true (xI.mpr eb)) ?_;refine⟨_,ze (zC (zZ (ac (pv 5) (ac xX (ac (cB x6 U.sorted boot_sorted (ac (cF cD hr (ac (pv 3) zd)) zd)) zd))))),?_⟩;refine⟨_,rfl,_,rfl,l2,ps.drop many,rows.drop many,rfl,s26 _ _ g2,yG s26 hpd,okd,by omega,fun l7 H7 s7 h7=>?_⟩
   refine⟨l7,_,rfl,SqL.of h7,by have:=ju (rows.drop many);omega,fun l8 hl8=>?_⟩
   have s8:=zc hl8 (.lst ((z9 (nms (rows.drop many))).map V.str));exact⟨zz3,fin (s7.trans s8) za ((s06.trans s7).free hl8) erow⟩
  | true=>
   rw[eb,if_pos rfl] at erow;refine yS (decide_eq_false (fun h=>by rw[xI.mp h] at eb;cases eb)) ?_
   refine⟨_,ze (zC (zZ (ac (pv 5) (ac xX (ac (cB x6 U.sorted boot_sorted (ac (zz ym (yz (pv 0) FK.cl mB GB hr1 bB .nil yp) (cF cD hr (ac (yf yU (pv 2) yJ (yj (pv 1))) zd))) zd)) zd))))),?_⟩;refine⟨_,rfl,_,rfl,f,dx,fs,rfl,s06 _ _ h1,h2.no _ (by decide +kernel),f,rows,bars,rfl,F6.at_,fun lbb H7 s7 nbb hbb=>?_⟩
   have s27:=s26.trans s7;refine⟨_,rfl,_,rfl,_,rfl,l,_,rfl,SqL.of (s2.trans s27 _ _ hl),fun l8 hl8=>?_⟩;rw[show xo (ps.map V.ref) none (some (many:Int))=(ps.take many).map V.ref from xG.trans (map_take ..).symm];have s8:=zc hl8 (.lst ((ps.take many).map V.ref));refine⟨l8,ps.take many,rows.take many,rfl,za,yG (s27.trans s8) (ua hp2 many),fun r hr=>hok r (mem_of_mem_take hr),by rw[length_take];omega,fun l9 H9 s9 h9=>?_⟩
   refine⟨lbb,l9,_,_,rfl,rfl,(s8.trans s9) _ _ hbb,h9,z3 (by have:=ju (rows.take many);rw[length_map,length_map];rw[length_take] at this;omega),fun l10 hl10=>?_⟩
   rw[<- map_append];have s10:=zc hl10 (.lst ((bars++nms (rows.take many)).map V.str));have l64':(bars++nms (rows.take many)).length<64:=by
    have:(nms (rows.take many)).length<=(nms rows).length:=by unfold nms;exact(((take_sublist many rows).filter _).map _).length_le
    rw[length_append];omega
   refine⟨l10,_,rfl,SqL.of za,l64',fun l11 hl11=>?_⟩;have s11:=zc hl11 (.lst ((z9 (bars++nms (rows.take many))).map V.str));have s711:=s7.trans (s8.trans (s9.trans (s10.trans s11)));exact⟨zz3,fin s711 za ((s06.trans (s7.trans (s8.trans (s9.trans s10)))).free hl11) erow⟩
end
theorem zht{K:Frag}{ok ok':Addr->Prop}{H:Hp}(hk:∀b,ok b->H b≠none->ok' b) {n:Nat}{x:V}{d:Dt}(h:zS K ok H n x d):zS K ok' H n x d:=
 h.frame (fun a xs z=>z) fun a xs oa z=>⟨hk a oa (by rw[z];intro q;cases q),z⟩
section
variable {P:Program}{w:World}{K:Frag}{mg:Str->Option Value}{base:Heap}{f CF G sg:Addr}{fd:FuncData}{c:C5}{m:MA}
end
section
variable {P:Program}{w:World}{K:Frag}{mg:Str->Option Value}{base:Heap}{f:Addr}{fd:FuncData}
end
theorem zbI{l g:Nat}{r:Rw}{rs:List Rw}(hg:grp r.k=g) (hb:qt l g=false) (h:xu g rs=true):xu l (r::rs)=true:=by
 show(!qt l (grp r.k)&&xu (grp r.k) rs)=true;rw[hg,hb,h];rfl
theorem j4{g:Nat}(he:qt g g=false):∀(xs ys:List Rw) (l:Nat),qt l g=false->(∀r∈xs,grp r.k=g)->xu l ys=true->xu g ys=true->xu l (xs++ys)=true
 | [],_,_,_,_,h1,_=>h1
 | r::rs,ys,l,hb,hg,_,h2=>zbI (hg r mem_cons_self) hb (j4 he rs ys g he (fun x hx=>hg x (mem_cons_of_mem _ hx)) h2 h2)
theorem zdO{g l:Nat}{xs ys:List Rw}(hl:xs.length<=1) (hb:qt l g=false) (hg:∀r∈xs,grp r.k=g) (h1:xu l ys=true) (h2:xu g ys=true):xu l (xs++ys)=true:=by
 match xs,hl with
 | [],_=>exact h1
 | [r],_=>exact zbI (hg r mem_cons_self) hb h2
theorem zdP{xs0 xs1 xs2 xs3:List Rw}(g0:∀r∈xs0,grp r.k=0) (g1:∀r∈xs1,grp r.k=1) (l1:xs1.length<=1) (g2:∀r∈xs2,grp r.k=2) (g3:∀r∈xs3,grp r.k=3) (l3:xs3.length<=1):xu 0 (xs0++(xs1++(xs2++xs3)))=true:=by
 have h3:∀l,l<=2->xu l xs3=true:=fun l hl=>by
  have:=zdO (g:=3) (l:=l) (ys:=[]) l3 (by match l,hl with|0,_=>rfl|1,_=>rfl|2,_=>rfl) g3 rfl rfl
  rwa [append_nil] at this
 have h2:∀l,l<=1->xu l (xs2++xs3)=true:=fun l hl=>j4 (g:=2) rfl xs2 xs3 l (by match l,hl with|0,_=>rfl|1,_=>rfl) g2 (h3 l (by omega)) (h3 2 (by omega))
 have h1:xu 0 (xs1++(xs2++xs3))=true:=zdO (g:=1) l1 rfl g1 (h2 0 (by omega)) (h2 1 (by omega))
 exact j4 (g:=0) rfl xs0 _ 0 rfl g0 h1 h1
theorem yg(a b:List Rw):nms (a++b)=nms a++nms b:=by unfold nms;rw[filter_append,map_append]
theorem jt(r:Rw):nms [r]=if yd r.k=true then [r.z] else []:=by
 unfold nms;cases h:yd r.k <;> simp [h]
section
variable {H H' H'':Hp}{lp lt ll u:Addr}{S:FS}{r:Rw}{z:Str}{b:Bool}
end
section
variable {P:Program}{w:World}{K:Frag}{mg:Str->Option Value}{base:Heap}{f:Addr}{fd:FuncData}
end
structure FD where
 (P T G B:List Rw)
def FD.rows(D:FD):List Rw:=D.P++(D.T++(D.G++D.B))
def yc:List Str:=(List.range 26).map (fun k=>(⟨#[97+k]⟩:Str))++(List.range 26).map (fun k=>(⟨#[97,97+k]⟩:Str))
structure zY(zs:List Str) (D:FD) (bars:List Str):Prop where
 p:∀r∈D.P,(r.k=0\/r.k=1)/\zR r.z=true
 t:∀r∈D.T,r.k=2/\zR r.z=true
 lt:D.T.length<=1
 g:∀r∈D.G,r.k=3/\zR r.z=true
 b:∀r∈D.B,r.k=4/\zR r.z=true
 lb:D.B.length<=1
 nd:(nms D.P++nms D.G++bars).Nodup
 zn:∀z∈nms D.P++nms D.G++bars,z∈zs++yc
 dz:∀z∈nms D.P++nms D.G,z∈zs
 ln:D.P.length+D.G.length<=22
def acc(x:TR) (names:List Str):Bool:=match x with
 | none=>false
 | some (n,b,X)=>n.all (fun z=>decide (z∈names))&&names.all (fun z=>if b=true then decide (z∉X) else decide (z∈X))
structure jb(zs:List Str) (n:List Str) (b:Bool) (X:List Str):Prop where
 sn:z9 n=n
 sX:z9 X=X
 dn:n.Nodup
 dX:X.Nodup
 zn:∀z∈n,z∈zs
 zX:∀z∈X,z∈zs
 in_:∀z∈n,(z∈X)=(b=false)
section
variable {zs:List Str}{D D':FD}{bars bars':List Str}
def FD.tl(D:FD):Bool:=!D.T.isEmpty
def FD.bg(D:FD):Bool:=!D.B.isEmpty
def sF(D:FD) (bars:List Str) (i:Nat):TR:=if i<=D.P.length then jV D.rows bars i else if D.tl=true then jV D.rows bars D.P.length else none
theorem y3{xs:List Rw}{p:Rw->Bool}(h:∀r∈xs,p r=false):xs.filter p=[]:=List.filter_eq_nil_iff.mpr fun r hr e=>by rw[h r hr] at e;cases e
theorem vL{xs:List Rw}{p:Rw->Bool}(h:∀r∈xs,p r=true):xs.filter p=xs:=List.filter_eq_self.mpr h
theorem k_p(h:zY zs D bars):∀r∈D.P,wm r.k=true:=fun r hr=>by rcases (h.p r hr).1 with e|e <;> rw[e] <;> rfl
theorem wR(h:zY zs D bars):plN D.rows=D.P.length:=by
 unfold plN FD.rows;rw[filter_append,filter_append,filter_append,vL (k_p h),y3 (fun r hr=>by rw[(h.t r hr).1];rfl),y3 (fun r hr=>by rw[(h.g r hr).1];rfl),y3 (fun r hr=>by rw[(h.b r hr).1];rfl)]
 simp
theorem xO{kk:Nat}:∀(rows:List Rw) (i:Nat),(zO kk i rows).isSome=rows.any fun r=>r.k==kk
 | [],_=>rfl
 | r::rs,i=>by
  unfold zO;rw[any_cons];by_cases e:r.k=kk
  ·rw[if_pos e,e];simp
  ·rw[if_neg e,xO rs (i+1)]
   simp [e]
theorem wZ{xs:List Rw}{p:Rw->Bool}(h:∀r∈xs,p r=false):xs.any p=false:=by
 rw[List.any_eq_false];exact fun r hr=>by rw[h r hr];exact Bool.false_ne_true
theorem zd6{xs:List Rw}{p:Rw->Bool}(h:∀r∈xs,p r=true):xs.any p=!xs.isEmpty:=by
 cases xs with
 | nil=>rfl
 | cons x xs=>rw[any_cons,h x mem_cons_self];rfl
theorem vB(h:zY zs D bars):(zO 2 0 D.rows).isSome=D.tl:=by
 rw[xO];unfold FD.rows FD.tl;rw[any_append,any_append,any_append,wZ (fun r hr=>by rcases (h.p r hr).1 with e|e <;> rw[e] <;> rfl),zd6 (fun r hr=>by rw[(h.t r hr).1];rfl),wZ (fun r hr=>by rw[(h.g r hr).1];rfl),wZ (fun r hr=>by rw[(h.b r hr).1];rfl)]
 simp
theorem wK(h:zY zs D bars):(zO 4 0 D.rows).isSome=D.bg:=by
 rw[xO];unfold FD.rows FD.bg;rw[any_append,any_append,any_append,wZ (fun r hr=>by rcases (h.p r hr).1 with e|e <;> rw[e] <;> rfl),wZ (fun r hr=>by rw[(h.t r hr).1];rfl),wZ (fun r hr=>by rw[(h.g r hr).1];rfl),zd6 (fun r hr=>by rw[(h.b r hr).1];rfl)]
 simp
end
def wb(rows:List Rw):List Rw:=rows.filter fun r=>wm r.k
def tgs(rows:List Rw):List Rw:=rows.filter fun r=>r.k==3
def uI(rows:List Rw) (k:Nat):Bool:=rows.any fun r=>r.k==k
def wt(rows:List Rw) (many:Nat):List Str:=(((wb rows).drop many).filter fun r=>r.k==1).map (·.z)++(tgs rows).map (·.z)
def uJ(rows:List Rw) (many:Nat):List Str:=(((wb rows).take many).filter fun r=>r.k==1).map (·.z)
def jo(rows:List Rw) (bars:List Str) (many:Nat) (z:Str):Bool:=decide (z∈bars)||decide (z∈uJ rows many)||(decide (z∉wt rows many)&&!uI rows 4)
def ug(names:List Str) (r:Rw):Bool:=!r.b&&(r.k==0||decide (r.z∉names))
def yN(rows:List Rw) (bars:List Str) (many:Nat) (names:List Str):Bool:=
 !(decide (plN rows<many)&&!uI rows 2)&&names.all (fun z=>!jo rows bars many z)&&((wb rows).drop many++tgs rows).all fun r=>!ug names r
section
variable {zs:List Str}{D:FD}{bars:List Str}
theorem xP(h:zY zs D bars):wb D.rows=D.P:=by
 unfold wb FD.rows;rw[filter_append,filter_append,filter_append,vL (k_p h),y3 (fun r hr=>by rw[(h.t r hr).1];rfl),y3 (fun r hr=>by rw[(h.g r hr).1];rfl),y3 (fun r hr=>by rw[(h.b r hr).1];rfl)]
 simp
theorem qJ(h:zY zs D bars):tgs D.rows=D.G:=by
 unfold tgs FD.rows;rw[filter_append,filter_append,filter_append,y3 (fun r hr=>by rcases (h.p r hr).1 with e|e <;> rw[e] <;> rfl),y3 (fun r hr=>by rw[(h.t r hr).1];rfl),vL (fun r hr=>by rw[(h.g r hr).1];rfl),y3 (fun r hr=>by rw[(h.b r hr).1];rfl)]
 simp
theorem qi(h:zY zs D bars):uI D.rows 2=D.tl:=by rw[<- vB h,xO];rfl
theorem zc5(h:zY zs D bars):uI D.rows 4=D.bg:=by rw[<- wK h,xO];rfl
theorem ziQ{xs:List Rw}(h:∀r∈xs,r.k=0\/r.k=1):nms xs=(xs.filter fun r=>r.k==1).map (·.z):=by
 unfold nms
 congr 1
 refine filter_congr fun r hr=>?_;rcases h r hr with e|e <;> rw[e] <;> rfl
theorem zaY{xs:List Rw}(h:∀r∈xs,yd r.k=true):nms xs=xs.map (·.z):=by
 unfold nms;rw[vL h]
theorem zgq{xs:List Rw}(h:∀r∈xs,yd r.k=false):nms xs=[]:=by
 unfold nms;rw[y3 h];rfl
theorem zlK(h:zY zs D bars):nms D.G=D.G.map (·.z):=zaY fun r hr=>by rw[(h.g r hr).1];rfl
theorem xF(h:zY zs D bars) {m:Nat}(hm:m<=D.P.length):nms (D.rows.drop m)=nms (D.P.drop m)++nms D.G:=by
 unfold FD.rows;rw[List.drop_append_of_le_length hm,yg,yg,yg,zgq (xs:=D.T) (fun r hr=>by rw[(h.t r hr).1];rfl),zgq (xs:=D.B) (fun r hr=>by rw[(h.b r hr).1];rfl)]
 simp
theorem uV(h:zY zs D bars) {m:Nat}(hm:m<=D.P.length):nms (D.rows.take m)=nms (D.P.take m):=by
 unfold FD.rows;rw[List.take_append_of_le_length hm]
theorem zcY(h:zY zs D bars) {m:Nat}(hm:m<=D.P.length):vV D.rows m=(D.P.drop m++D.G).filter fun r=>!r.b:=by
 unfold vV FD.rows;rw[List.drop_append_of_le_length hm,filter_append,filter_append,filter_append,filter_append,y3 (xs:=D.T) (fun r hr=>by unfold frR;rw[(h.t r hr).1];rfl),y3 (xs:=D.B) (fun r hr=>by unfold frR;rw[(h.b r hr).1];rfl)]
 rw[nil_append,append_nil]
 congr 1
 ·refine filter_congr fun r hr=>?_
  unfold frR;rcases (h.p r (mem_of_mem_drop hr)).1 with e|e <;> rw[e] <;> rfl
 ·refine filter_congr fun r hr=>?_
  unfold frR;rw[(h.g r hr).1];rfl
theorem zkN(h:zY zs D bars) (m:Nat):(nms (D.P.take m)++(nms (D.P.drop m)++nms D.G)++bars).Nodup:=by
 rw[<- append_assoc,<- yg,take_append_drop];exact h.nd
theorem zbi(h:zY zs D bars) {m:Nat}(hm:m<=D.P.length) (names:List Str):yN D.rows bars m names=acc (jV D.rows bars m) names:=by
 have ndp:=zkN h m;have kA:∀r∈D.P.drop m,r.k=0\/r.k=1:=fun r hr=>(h.p r (mem_of_mem_drop hr)).1;have kL:∀r∈D.P.take m,r.k=0\/r.k=1:=fun r hr=>(h.p r (mem_of_mem_take hr)).1;have eL:wt D.rows m=nms (D.P.drop m)++nms D.G:=by unfold wt;rw[xP h,qJ h,<- ziQ kA,zlK h]
 have eG:uJ D.rows m=nms (D.P.take m):=by unfold uJ;rw[xP h,<- ziQ kL]
 unfold yN jo;rw[xP h,qJ h,qi h,zc5 h,wR h,eL,eG,decide_eq_false (by omega)]
 unfold jV;rw[zcY h hm,wK h,xF h hm,uV h hm];generalize nms (D.P.drop m)++nms D.G=late at ndp |-;have kk:∀r∈D.P.drop m++D.G,yd r.k=!(r.k==0):=fun r hr=>by
  rcases List.mem_append.mp hr with hr|hr
  ·rcases kA r hr with e|e <;> rw[e] <;> rfl
  ·rw[(h.g r hr).1];rfl
 rw[Bool.eq_iff_iff,Bool.and_eq_true,Bool.and_eq_true,all_eq_true,all_eq_true];have second:(∀r∈D.P.drop m++D.G,(!ug names r)=true) ↔ (((D.P.drop m++D.G).filter fun r=>!r.b).any (fun r=>!yd r.k)=false/\∀z∈((D.P.drop m++D.G).filter fun r=>!r.b).map (·.z),z∈names):=by
  constructor
  ·intro hh
   refine⟨wZ fun r hr=>?_,fun z hz=>?_⟩
   ·obtain⟨hr,hb⟩:=List.mem_filter.mp hr
    have:=hh r hr
    unfold ug at this;rw[hb,Bool.true_and] at this;rw[kk r hr];cases e:(r.k==0) with
    | true=>rw[e] at this;cases this
    | false=>rfl
   ·obtain⟨r,hr,rfl⟩:=List.mem_map.mp hz
    obtain⟨hr,hb⟩:=List.mem_filter.mp hr
    have:=hh r hr
    unfold ug at this;rw[hb,Bool.true_and] at this;by_cases e:r.z∈names
    ·exact e
    ·rw[decide_eq_true e,Bool.or_true] at this;cases this
  ·rintro⟨h1,h2⟩ r hr
   unfold ug;cases hb:r.b with
   | true=>rfl
   | false=>
    have hf:r∈(D.P.drop m++D.G).filter fun r=>!r.b:=List.mem_filter.mpr ⟨hr,by rw[hb];rfl⟩
    have a:=List.any_eq_false.mp h1 r hf;rw[kk r hr] at a;have b:=h2 r.z (List.mem_map.mpr ⟨r,hf,rfl⟩);rw[decide_eq_false (not_not_intro b)];cases e:(r.k==0) with
    | true=>rw[e] at a;exact absurd rfl a
    | false=>rfl
 rw[second];generalize (D.P.drop m++D.G).filter (fun r=>!r.b)=lk;cases ha:lk.any (fun r=>!yd r.k) with
 | true=>
  rw[if_pos rfl];exact⟨(fun h=>by cases h.2.1),(fun h=>by cases h)⟩
 | false=>
  rw[if_neg Bool.false_ne_true];show _ ↔ ((z9 (lk.map (·.z))).all (fun z=>decide (z∈names))&&names.all (fun z=>if D.bg=true then decide (z∉_) else decide (z∈_)))=true
  rw[Bool.and_eq_true,all_eq_true,all_eq_true];have nn:(∀z∈lk.map (·.z),z∈names) ↔ ∀z∈z9 (lk.map (·.z)),decide (z∈names)=true:=⟨fun h z hz=>decide_eq_true (h z ((zH _).mem_iff.mp hz)),fun h z hz=>of_decide_eq_true (h z ((zH _).mem_iff.mpr hz))⟩;rw[<- nn];have first:(∀z∈names,(!(decide (z∈bars)||decide (z∈nms (D.P.take m))||(decide (z∉late)&&!D.bg)))=true) ↔ ∀z∈names,(if D.bg=true then decide (z∉(if D.bg=true then z9 (bars++nms (D.P.take m)) else z9 late)) else decide (z∈(if D.bg=true then z9 (bars++nms (D.P.take m)) else z9 late)))=true:=by
   refine forall_congr' fun z=>forall_congr' fun hz=>?_;cases D.bg with
   | true=>
    rw[if_pos rfl,if_pos rfl,decide_eq_true_iff,(zH _).mem_iff,mem_append];by_cases a:z∈bars <;> by_cases b:z∈nms (D.P.take m) <;> simp [a,b]
   | false=>
    rw[if_neg Bool.false_ne_true,if_neg Bool.false_ne_true,decide_eq_true_iff,(zH _).mem_iff];by_cases c:z∈late
    ·have a:z∉bars:=fun hb=>by
      have:=List.nodup_append.mp ndp
      exact this.2.2 z (List.mem_append.mpr (.inr c)) z hb rfl
     have b:z∉nms (D.P.take m):=fun hb=>by
      have:=List.nodup_append.mp (List.nodup_append.mp ndp).1
      exact this.2.2 z hb z c rfl
     simp [a,b,c]
    ·simp [c]
  rw[first]
  exact⟨fun h=>⟨h.2.2,h.1.2⟩,fun h=>⟨⟨by simp,h.2⟩,rfl,h.1⟩⟩
end
section
variable {zs:List Str}{D D':FD}{bars bars':List Str}
theorem vA(h:zY zs D bars) (many:Nat) (names:List Str):yN D.rows bars many names=acc (sF D bars many) names:=by
 unfold sF;by_cases hm:many<=D.P.length
 ·rw[if_pos hm,zbi h hm]
 ·rw[if_neg hm]
  cases ht:D.tl with
  | true=>
   rw[if_pos rfl,<- zbi h (Nat.le_refl _)];have e1:(wb D.rows).drop many=(wb D.rows).drop D.P.length:=by rw[xP h,drop_of_length_le (by omega),drop_of_length_le (Nat.le_refl _)]
   have e2:(wb D.rows).take many=(wb D.rows).take D.P.length:=by rw[xP h,take_of_length_le (by omega),take_of_length_le (Nat.le_refl _)]
   unfold yN jo wt uJ;rw[e1,e2,qi h,ht];simp
  | false=>
   rw[if_neg Bool.false_ne_true];unfold yN;rw[qi h,ht,wR h,decide_eq_true (by omega)]
   rfl
theorem jX(h:zY zs D bars) {m:Nat}(hm:m<=D.P.length) {n:List Str}{b:Bool}{X:List Str}(e:jV D.rows bars m=some (n,b,X)):jb (zs++yc) n b X:=by
 have ndp:=zkN h m;unfold jV at e;rw[zcY h hm,wK h,xF h hm,uV h hm] at e;split at e
 ·cases e
 next ha=>
 have ha:((D.P.drop m++D.G).filter fun r=>!r.b).any (fun r=>!yd r.k)=false:=by simpa using ha
 have hall:∀r∈(D.P.drop m++D.G).filter fun r=>!r.b,yd r.k=true:=fun r hr=>by
  have:=List.any_eq_false.mp ha r hr
  simpa using this
 have sub:(((D.P.drop m++D.G).filter fun r=>!r.b).map (·.z)).Sublist (nms (D.P.drop m)++nms D.G):=by
  rw[<- zaY hall,<- yg];unfold nms;exact((List.filter_sublist).filter _).map _
 have zin:∀z∈nms (D.P.take m)++(nms (D.P.drop m)++nms D.G)++bars,z∈zs++yc:=fun z hz=>by
  refine h.zn z ?_
  rwa [<- append_assoc,<- yg,take_append_drop] at hz
 obtain⟨nd1,_,nd3⟩:=List.nodup_append.mp ndp;obtain⟨ndL,ndl,nd4⟩:=List.nodup_append.mp nd1;have ndb:=(List.nodup_append.mp ndp).2.1;have ss:∀a:List Str,z9 (z9 a)=z9 a:=fun a=>jI.mpr (zH a);have nn:(z9 (((D.P.drop m++D.G).filter fun r=>!r.b).map (·.z))).Nodup:=(zH _).nodup_iff.mpr (sub.nodup ndl);have inl:∀z∈z9 (((D.P.drop m++D.G).filter fun r=>!r.b).map (·.z)),z∈nms (D.P.drop m)++nms D.G:=fun z hz=>sub.subset ((zH _).mem_iff.mp hz);cases hb:D.bg with
 | true=>
  rw[hb,if_pos rfl] at e;cases e;refine⟨ss _,ss _,nn,(zH _).nodup_iff.mpr (List.nodup_append.mpr ⟨ndb,ndL,fun a ha c hc e=>nd3 c (List.mem_append.mpr (.inl hc)) a ha e.symm⟩),fun z hz=>zin z (List.mem_append.mpr (.inl (List.mem_append.mpr (.inr (inl z hz))))),fun z hz=>?_,fun z hz=>?_⟩
  ·rcases List.mem_append.mp ((zH _).mem_iff.mp hz) with h|h
   ·exact zin z (List.mem_append.mpr (.inr h))
   ·exact zin z (List.mem_append.mpr (.inl (List.mem_append.mpr (.inl h))))
  ·refine propext ⟨fun hx=>?_,fun h=>by cases h⟩
   exfalso;rcases List.mem_append.mp ((zH _).mem_iff.mp hx) with h|h
   ·exact nd3 z (List.mem_append.mpr (.inr (inl z hz))) z h rfl
   ·exact nd4 z h z (inl z hz) rfl
 | false=>
  rw[hb,if_neg Bool.false_ne_true] at e;cases e;exact⟨ss _,ss _,nn,(zH _).nodup_iff.mpr ndl,fun z hz=>zin z (List.mem_append.mpr (.inl (List.mem_append.mpr (.inr (inl z hz))))),fun z hz=>zin z (List.mem_append.mpr (.inl (List.mem_append.mpr (.inr ((zH _).mem_iff.mp hz))))),fun z hz=>propext ⟨fun _=>rfl,fun _=>(zH _).mem_iff.mpr (inl z hz)⟩⟩
theorem xK(h:zY zs D bars) {i:Nat}{n:List Str}{b:Bool}{X:List Str}(e:sF D bars i=some (n,b,X)):jb (zs++yc) n b X:=by
 unfold sF at e;split at e
 next hi=>exact jX h hi e
 ·split at e
  ·exact jX h (Nat.le_refl _) e
  ·cases e
def xV:List Str->List (List Str)->List (List Str)
 | [],S=>S
 | x::xs,S=>xV xs (S++S.map (·++[x]))
theorem zaB(p:Str->Bool):∀(xs:List Str) (S:List (List Str)) (ys:List Str),ys∈S->ys++xs.filter p∈xV xs S
 | [],S,ys,h=>by simpa [xV] using h
 | x::xs,S,ys,h=>by
  unfold xV;rw[filter_cons];cases p x with
  | true=>
   rw[if_pos rfl,show ys++x::xs.filter p=(ys++[x])++xs.filter p by simp]
   exact zaB p xs _ _ (List.mem_append.mpr (.inr (List.mem_map.mpr ⟨ys,h,rfl⟩)))
  | false=>
   rw[if_neg Bool.false_ne_true];exact zaB p xs _ _ (List.mem_append.mpr (.inl h))
theorem jK:∀(xs:List Str) (S:List (List Str)) (a:List Str),a∈xV xs S->∃ys∈S,∃s,s.Sublist xs/\a=ys++s
 | [],S,a,h=>⟨a,h,[],nil_sublist _,by simp⟩
 | x::xs,S,a,h=>by
  obtain⟨ys,hy,s,hs,e⟩:=jK xs _ a h;rcases List.mem_append.mp hy with hy|hy
  ·exact⟨ys,hy,s,hs.cons x,e⟩
  ·obtain⟨y,hy',rfl⟩:=List.mem_map.mp hy
   exact⟨y,hy',x::s,hs.cons_cons x,by rw[e];simp⟩
theorem zdA{xs a:List Str}(hx:xs.Nodup) (h:a∈xV xs [[]]):a.Nodup/\∀z∈a,z∈xs:=by
 obtain⟨ys,hy,s,hs,rfl⟩:=jK xs _ a h;rw[List.mem_singleton.mp hy,nil_append];exact⟨hs.nodup hx,fun z hz=>hs.subset hz⟩
end
section
variable {zs:List Str}{D:FD}{bars:List Str}
theorem zY.valid(h:zY zs D bars) (hz:∀z∈zs++yc,zR z=true) (lb:bars.length<=60):jk D.rows bars:=by
 have ok4:∀r∈D.rows,r.ok:=fun r hr=>by
  unfold FD.rows at hr;rcases List.mem_append.mp hr with hr|hr
  ·obtain⟨e,n⟩:=h.p r hr;exact⟨by rcases e with e|e <;> omega,n⟩
  ·rcases List.mem_append.mp hr with hr|hr
   ·obtain⟨e,n⟩:=h.t r hr;exact⟨by omega,n⟩
   ·rcases List.mem_append.mp hr with hr|hr
    ·obtain⟨e,n⟩:=h.g r hr;exact⟨by omega,n⟩
    ·obtain⟨e,n⟩:=h.b r hr;exact⟨by omega,n⟩
 have enm:nms D.rows=nms D.P++nms D.G:=by have:=xF h (m:=0) (zero_le _);simpa using this
 refine⟨ok4,?_,lb,zdP (fun r hr=>by rcases (h.p r hr).1 with e|e <;> rw[e] <;> rfl) (fun r hr=>by rw[(h.t r hr).1];rfl) h.lt (fun r hr=>by rw[(h.g r hr).1];rfl) (fun r hr=>by rw[(h.b r hr).1];rfl) h.lb,fun z hz'=>hz z (h.zn z (List.mem_append.mpr (.inr hz'))),by rw[enm];exact h.nd⟩
 unfold FD.rows;rw[length_append,length_append,length_append]
 have:=h.ln
 have:=h.lt
 have:=h.lb
 omega
end
def xT(H:Hp) (la:Addr) (rows:List Rw):Prop:=∃us:List Addr,H la=some (.lst (us.map V.ref))/\Paired (TAt H) us rows
theorem xT.same{H H':Hp}{la:Addr}{rows:List Rw}(h:xT H la rows) (s:zm H H'):xT H' la rows:=let ⟨us,h1,h2⟩:=h;⟨us,s _ _ h1,zr s h2⟩
theorem TAt.upd{H:Hp}{v D:Addr}{r:Rw}{ys:List V}{o:HO}(h:TAt H v r) (hD:H D=some (.lst ys)):TAt (upd H D o) v r:=by
 show L2.upd H D o v=_;rw[zh (fun e=>by rw[e] at h;rw[TAt,hD] at h;cases h)]
 exact h
theorem PAt.upd{c:C5}{H:Hp}{v D:Addr}{r:Rw}{ys:List V}{o:HO}(h:PAt c H v r) (hD:H D=some (.lst ys)):PAt c (upd H D o) v r:=by
 obtain⟨dx,h⟩:=h;refine⟨dx,?_⟩;rw[zh (fun e=>by rw[e,hD] at h;cases h)]
 exact h
section
variable {P:Program}{w:World}{K:Frag}{mg:Str->Option Value}{base:Heap}{f CF:Addr}{fd:FuncData}{c:C5}
end
end K83
namespace L2
open PySem PySem.Spec PyProof.Rows
def jf:Value->Str
 | .str z _=>z
 | _=>""
theorem yI{α : Type}[DecidableEq α]:∀(zs ys:List α),zs.Nodup->(∀z∈zs,z∈ys)->zs.length<=ys.length
 | [],_,_,_=>zero_le _
 | z::zs,ys,h,hs=>by
  have hz:z∈ys:=hs z mem_cons_self;have e:(ys.erase z).length=ys.length - 1:=List.length_erase_of_mem hz;have l0 : 0<ys.length:=List.length_pos_of_mem hz;rw[List.nodup_cons] at h;have ih:=yI zs (ys.erase z) h.2 fun y hy=>(List.mem_erase_of_ne (fun e:y=z=>h.1 (by rw[<- e];exact hy))).mpr (hs y (mem_cons_of_mem _ hy))
  rw[length_cons];omega
theorem zfk{P:Program}{w:World}{h:Heap}{a:Addr}{zs:List Str}{n:Nat}(hS:h.SetOf (strKind P w) a (fun z=>decide (z∈zs)) n) (nd:zs.Nodup):zs.length<=n:=by
 obtain⟨o,es,ep,t,ho,hx,hd,he,hb,hf,hfi,hn⟩:=hS
 have:=yI zs (es.toList.map fun e=>jf e.2) nd fun z hz=>by
  obtain⟨e,hm,hk⟩:=(hb z).mp (decide_eq_true hz);refine List.mem_map.mpr ⟨e,hm,?_⟩;obtain⟨tk,e2⟩:=Value.isStrOf_shape hk;rw[e2];rfl
 rw[length_map] at this;have e3:es.toList.length=es.size:=rfl;omega
theorem qC{X:Cx}:xh X (.builtin "len") (fun xs H Q=>∃(a:Addr) (zs:List Str) (n:Nat),xs=[.ref a]/\H a=some (wv X.prog X.w a (fun z=>decide (z∈zs)) n)/\zs.Nodup/\(zs.length<=n->Q (.int n) H)):=by
 intro pins s σ H xs us Q I r h;obtain⟨a,zs,n,rfl,e,nd,q⟩:=h;refine qB pins s σ H _ us Q I r ⟨a,_,n,rfl,e,q ?_⟩;exact zfk (I.hok a _ e).1 nd
end L2
namespace K83
open PySem L2 PyProof.Rows
section
variable {P:Program}{w:World}{K:Frag}{mg:Str->Option Value}{base:Heap}{f:Addr}{fd:FuncData}
end
end K83
namespace L2
open PySem PySem.Spec PyProof.Rows
section
variable {prog:Program}{w:World}{κ : Type}[DecidableEq κ] {knd:HeapKind prog w κ}{A:Around}{E:Value->Shared->Prop}{s:Shared}
end
section
variable {X:Cx}{P:Program}{w:World}{pos:Pos}
variable {o e1 e2:Expr}{td:TE}{ta:TA}{apos cpos:Pos}
end
end L2
namespace K83
open PySem L2 PyProof.Rows
section
variable {P:Program}{w:World}{K:Frag}{mg:Str->Option Value}{base:Heap}{f CF:Addr}{fd:FuncData}{c:C5}
end
section
variable {P:Program}{w:World}{K:Frag}{mg:Str->Option Value}{base:Heap}{f:Addr}{fd:FuncData}
end
section
variable {K:Frag}{ok:Addr->Prop}{H:Hp}
theorem zei{n:Nat}{x:V}{z:Str}(h:zS K ok H n x (.str z)):x=.str z:=by
 have fl:vw x (.str z)->x=.str z:=fun h=>by cases x <;> first|exact h.elim|exact congrArg V.str h
 cases n with
 | zero=>exact fl h
 | succ n=>
  rcases h with h|⟨a,xs,ds,_,e,_⟩|⟨a,xs,ds,_,e,_⟩
  ·exact fl h
  ·cases e
  ·cases e
theorem zhu{n:Nat}{x:V}{z:Bool}(h:zS K ok H n x (.bl z)):x=.bl z:=by
 have fl:vw x (.bl z)->x=.bl z:=fun h=>by cases x <;> first|exact h.elim|exact congrArg V.bl h
 cases n with
 | zero=>exact fl h
 | succ n=>
  rcases h with h|⟨a,xs,ds,_,e,_⟩|⟨a,xs,ds,_,e,_⟩
  ·exact fl h
  ·cases e
  ·cases e
theorem zbw{n:Nat}{x:V}(h:zS K ok H n x .non):x=.non:=by
 have fl:vw x .non->x=.non:=fun h=>by cases x <;> first|exact h.elim|rfl
 cases n with
 | zero=>exact fl h
 | succ n=>
  rcases h with h|⟨a,xs,ds,_,e,_⟩|⟨a,xs,ds,_,e,_⟩
  ·exact fl h
  ·cases e
  ·cases e
theorem qN{n:Nat}:∀{zs:List Str}{vs:List V},Paired (zS K ok H n) vs (zs.map Dt.str)->vs=zs.map V.str
 | [],_,.nil=>rfl
 | _::_,_,.cons h t=>by rw[zei h,qN t];rfl
theorem qO{n:Nat}{x:V}{zs:List Str}(h:zS K ok H (n+1) x (.lst (zs.map Dt.str))):∃l,x=.ref l/\ok l/\H l=some (.lst (zs.map V.str)):=by
 rcases h with h|⟨a,xs,ds,_,e,_⟩|⟨a,xs,ds,ex,e,oa,ha,p⟩
 ·cases x <;> exact h.elim
 ·cases e
 ·cases e
  rw[qN p] at ha;exact⟨a,ex,oa,ha⟩
theorem zg7{m:Nat}{v:V}{n X:List Str}{b:Bool}(h:zS K ok H (m+2) v (zej (some (n,b,X)))):∃t l0 l2,v=.ref t/\SqT K H t [.ref l0,.bl b,.ref l2]/\ok l0/\ok l2/\H l0=some (.lst (n.map V.str))/\H l2=some (.lst (X.map V.str)):=by
 rcases h with h|⟨a,xs,ds,ex,e,hs,p⟩|⟨a,xs,ds,_,e,_⟩
 ·cases v <;> exact h.elim
 ·cases e
  cases p with
  | cons h1 p=>cases p with
   | cons h2 p=>cases p with
    | cons h3 p=>
     cases p;obtain⟨l0,e0,o0,g0⟩:=qO h1;have e1:=zhu h2;obtain⟨l2,e2,o2,g2⟩:=qO h3;subst e0 e1 e2;exact⟨a,l0,l2,ex,hs,o0,o2,g0,g2⟩
 ·cases e
end
section
variable {P:Program}{w:World}{K:Frag}{mg:Str->Option Value}{base:Heap}{f:Addr}{fd:FuncData}
end
def zfh(K:Frag) (c:C5) (CF:Addr):Sp:=fun vs H Q _=>∃(f a:Addr) (rows:List Rw) (bars:List Str) (ct:List w4),vs=[.ref f,.ref a]/\xU c CF H f rows bars/\zdl K H a ct/\∀(H':Hp),zm H H'->Q (.bl (qa rows bars ct).isEmpty) H'
section
variable {P:Program}{w:World}{K:Frag}{mg:Str->Option Value}{base:Heap}{f CF:Addr}{fd:FuncData}{c:C5}{m:MA}
theorem zjk:zu ["form","call"] ["form","call"] (zg zfH):=⟨rfl,rfl,rfl,by decide +kernel,rfl,by decide +kernel,by decide +kernel⟩
theorem zhY{g1:Addr}{d1:FuncData}(F:Fun K "fits" "fits" zfH f fd) (c1:zK P w K mg base 5 "misfits" g1 d1 ["form","call"] (ziG K c CF)):zJ P w K mg base CX0 6 f fd ["form","call"] (zfh K c CF):=by
 refine F.ok zjk (fun vs H Q E h=>?_) (fun cdv A outer s H vs Q E hr h=>?_)
 ·obtain⟨f,a,rows,bars,ct,rfl,_⟩:=h
  rfl
 obtain⟨f,a,rows,bars,ct,rfl,hF,hC,q⟩:=h;have hU:=hr.units;have hU0:=hr.units0;refine⟨_,ze (zC (xZ (OpR.or (zjM hU) (zf5 hU0)) (cF c1 hr (ac (pv 0) (ac (pv 1) zd))) (zW zd) (zI _))),?_⟩;refine⟨_,rfl,_,rfl,f,a,rows,bars,ct,rfl,hF,hC,fun l H1 s1 ⟨us,nl,el,ml⟩=>?_⟩;refine⟨zz0,fun l2 hl2=>?_⟩;have s2:=zc hl2 (.lst []);have lu:=ml.length;cases e:qa rows bars ct with
 | nil=>
  rw[e] at ml;cases ml;refine .inl ⟨l,l2,0,.lst [],fun _=>True,fun _=>True,rfl,rfl,by decide,zS.lst True.intro (s2 _ _ el) .nil,zS.lst True.intro za .nil,?_⟩
  have:=q _ (s1.trans s2)
  rw[e] at this;exact this
 | cons x xs=>
  refine .inr ⟨l,l2,_,_,rfl,rfl,s2 _ _ el,za,(by rw[length_map,lu,e];exact Nat.succ_ne_zero _),?_⟩
  have:=q _ (s1.trans s2)
  rw[e] at this;exact this
end
theorem zdm{κ : Type}[DecidableEq κ] {kvs:List (κ×V)}{k k' : κ}{v:V}:z5 (xb kvs k v) k'=if k'=k then some v else z5 kvs k':=zbg kvs k k' v
theorem j7(r:Rw) (rs:List Rw):nms (r::rs)=(if yd r.k=true then [r.z] else [])++nms rs:=by
 have:=yg [r] rs
 rw[jt] at this;exact this
theorem qm{z:Str}:∀(rows:List Rw) (i:Nat) (acc:List (Key×V)),z∉nms rows->z5 (yY i acc rows) (.inr z)=z5 acc (.inr z)
 | [],_,_,_=>rfl
 | r::rs,i,acc,h=>by
  rw[j7] at h;have h2:z∉nms rs:=fun e=>h (mem_append_right _ e);show z5 (yY (i+1) _ rs) (.inr z)=_;rw[qm rs (i+1) _ h2];split
  next e=>
   rw[zdm,if_neg];intro e2;rw[if_pos e] at h;exact h (by rw[Sum.inr.inj e2];exact mem_append_left _ (List.mem_singleton.mpr rfl))
  ·rfl
theorem qo{r:Rw}(hb:yd r.k=true):∀(rows:List Rw) (i j:Nat) (acc:List (Key×V)),rows[j]?=some r->(nms rows).Nodup->z5 (yY i acc rows) (.inr r.z)=some (.int ((i+j:Nat):Int))
 | [],_,_,_,h,_=>by simp at h
 | y::ys,i,0,acc,h,nd=>by
  have e:y=r:=by simpa using h
  subst e;rw[j7,if_pos hb] at nd;have hz:y.z∉nms ys:=(List.nodup_cons.mp nd).1;show z5 (yY (i+1) (if yd y.k=true then xb acc (.inr y.z) (.int i) else acc) ys) (.inr y.z)=_
  rw[qm ys (i+1) _ hz,if_pos hb,zdm,if_pos rfl];rfl
 | y::ys,i,j+1,acc,h,nd=>by
  rw[j7] at nd;have nd2:=(List.nodup_append.mp nd).2.1;show z5 (yY (i+1) _ ys) (.inr r.z)=_;rw[qo hb ys (i+1) j _ (by simpa using h) nd2,show i+1+j=i+(j+1) by omega]
theorem zg6{a b:List (Str×Nat)}{z:Str}{v:V}(h:z5 (kvP a) (.inr z)=some v):z5 (kvP (a++b)) (.inr z)=some v:=by
 unfold z5 at h |-;unfold kvP at h |-;rw[map_append,List.find?_append];cases e:(a.map fun p=>((Sum.inr p.1:Key),V.int (p.2:Nat))).find? fun kv=>decide (kv.1=.inr z) with
 | none=>rw[e] at h;cases h
 | some kv=>rw[e] at h;exact h
theorem zg5{a:List (Str×Nat)}{z:Str}{i:Nat}(h:(a.any fun p=>decide (p.1=z))=false):z5 (kvP (a++[(z,i)])) (.inr z)=some (.int (i:Nat)):=by
 have e0:z5 (kvP a) (.inr z)=none:=by
  rw[<- wu] at h;exact Option.not_isSome_iff_eq_none.mp (by rw[h];exact Bool.false_ne_true)
 unfold z5 at e0 |-;unfold kvP at e0 |-;rw[map_append,List.find?_append];cases e:(a.map fun p=>((Sum.inr p.1:Key),V.int (p.2:Nat))).find? fun kv=>decide (kv.1=.inr z) with
 | none=>
  rw[Option.none_or,map_cons,find?_cons,decide_eq_true rfl];rfl
 | some kv=>rw[e] at e0;cases e0
theorem zas{z:Str}{v:V}:∀(zs:List Str) (i:Nat) (acc:List (Str×Nat)),z5 (kvP acc) (.inr z)=some v->z5 (kvP (fpF i acc zs)) (.inr z)=some v
 | [],_,_,h=>h
 | y::ys,i,acc,h=>by
  show z5 (kvP (fpF (i+1) (if (acc.any fun p=>decide (p.1=y))=true then acc else acc++[(y,i)]) ys)) _=_
  split
  ·exact zas ys (i+1) acc h
  ·exact zas ys (i+1) _ (zg6 h)
theorem zis{acc:List (Str×Nat)}{z:Str}:(acc.any fun p=>decide (p.1=z))=decide (z∈acc.map (·.1)):=by
 rw[Bool.eq_iff_iff,any_eq_true,decide_eq_true_eq,List.mem_map];exact⟨fun⟨p,h1,h2⟩=>⟨p,h1,of_decide_eq_true h2⟩,fun⟨p,h1,h2⟩=>⟨p,h1,decide_eq_true h2⟩⟩
theorem zc9:∀(a b:List Str) (j:Nat) (acc:List (Str×Nat)),fpF j acc (a++b)=fpF (j+a.length) (fpF j acc a) b
 | [],_,_,_=>rfl
 | z::zs,b,j,acc=>by
  show fpF (j+1) _ (zs++b)=fpF (j+(zs.length+1)) (fpF (j+1) _ zs) b;rw[zc9 zs b (j+1),show j+1+zs.length=j+(zs.length+1) by omega]
theorem ziU:∀(zs:List Str) (j:Nat) (acc:List (Str×Nat)),(∀p∈acc,p.2<j)->∀p∈fpF j acc zs,p.2<j+zs.length
 | [],_,_,h,p,hp=>h p hp
 | z::zs,j,acc,h,p,hp=>by
  have h2:=ziU zs (j+1) _ (fun q hq=>?_) p hp
  ·rw[length_cons];omega
  ·split at hq
   ·have:=h q hq;omega
   ·rcases List.mem_append.mp hq with hq|hq
    ·have:=h q hq;omega
    ·rw[List.mem_singleton.mp hq];exact lt_succ_self _
theorem zcg{zs:List Str}{i:Nat}{z:Str}(h:zs[i]?=some z):zs.take (i+1)=zs.take i++[z]:=by
 have hi:i<zs.length:=(List.getElem?_eq_some_iff.mp h).1;have e:zs[i]=z:=(List.getElem?_eq_some_iff.mp h).2;rw[take_succ_eq_append_getElem hi,e]
theorem zdV{zs:List Str}{i:Nat}{z:Str}(h:zs[i]?=some z):fpF 0 [] (zs.take (i+1))=if ((fpF 0 [] (zs.take i)).any fun p=>decide (p.1=z))=true then fpF 0 [] (zs.take i) else fpF 0 [] (zs.take i)++[(z,i)]:=by
 have hi:i<zs.length:=(List.getElem?_eq_some_iff.mp h).1;rw[zcg h,zc9];have el : 0+(zs.take i).length=i:=by rw[length_take];omega
 rw[el];rfl
theorem zgX{zs:List Str}{i:Nat}{z:Str}(h:zs[i]?=some z):decide (z5 (kvP (fpZ zs)) (.inr z)=some (.int (i:Nat)))=!((fpF 0 [] (zs.take i)).any fun p=>decide (p.1=z)):=by
 have hi:i<zs.length:=(List.getElem?_eq_some_iff.mp h).1;have e:fpZ zs=fpF (i+1) (fpF 0 [] (zs.take (i+1))) (zs.drop (i+1)):=by
  unfold fpZ
  conv=>lhs;rw[<- take_append_drop (i+1) zs,zc9]
  rw[show 0+(zs.take (i+1)).length=i+1 by rw[length_take];omega]
 cases hb:(fpF 0 [] (zs.take i)).any fun p=>decide (p.1=z) with
 | true=>
  have hs:(z5 (kvP (fpF 0 [] (zs.take i))) (.inr z)).isSome=true:=by rw[wu];exact hb
  obtain⟨v,hv⟩:=Option.isSome_iff_exists.mp hs;obtain⟨z',j,ez,ev,hm⟩:=za0 hv;have hj:=ziU (zs.take i) 0 [] (fun p hp=>by cases hp) _ hm
  rw[length_take] at hj;have h2:=zdV h;rw[hb,if_pos rfl] at h2;have h3:=zas (z:=z) (v:=v) (zs.drop (i+1)) (i+1) (fpF 0 [] (zs.take (i+1))) (by rw[h2];exact hv)
  rw[e,h3,ev];refine decide_eq_false fun e2=>?_
  have:(j:Int)=(i:Int):=V.int.inj (Option.some.inj e2)
  have hj':j<0+min i zs.length:=hj;omega
 | false=>
  have h2:=zdV h;rw[hb,if_neg (by decide)] at h2
  have h3:=zas (z:=z) (v:=.int (i:Nat)) (zs.drop (i+1)) (i+1) (fpF 0 [] (zs.take (i+1))) (by rw[h2];exact zg5 hb)
  rw[e,h3];exact decide_eq_true rfl
def jA(rows:List Rw) (bars:List Str) (many:Nat) (z:Str):Str:=(yT rows bars many z).getD ""
theorem zeY{rows:List Rw}{bars:List Str}{many:Nat}{z:Str}(nd:(nms rows).Nodup) (h:z∉bars) {l:Nat}{r:Rw}(hl:rows[l]?=some r) (hb:yd r.k=true) (he:r.z=z):jA rows bars many z=if l<min many (plN rows) then "again" else "":=by
 have hv:=qo hb rows 0 l [] hl nd;rw[he] at hv;have e1:yT.lastD' z rows=some l:=by unfold yT.lastD';rw[hv,Nat.zero_add];rfl
 unfold jA yT;rw[if_neg h,e1];show(if l<plN rows/\l<many then some ("again" : Str) else none).getD ""=_
 by_cases hc:l<plN rows/\l<many
 ·rw[if_pos hc,if_pos (by omega)];rfl
 ·rw[if_neg hc,if_neg (by omega)];rfl
theorem zd7{rows:List Rw}{bars:List Str}{many:Nat}{z:Str}:yT rows bars many z=if jA rows bars many z="" then none else some (jA rows bars many z):=by
 unfold jA;cases h:yT rows bars many z with
 | none=>rfl
 | some x=>
  have hx:x≠"":=by
   unfold yT at h;split at h
   ·cases h;decide +kernel
   ·split at h
    ·split at h
     ·cases h
     ·cases h;decide +kernel
    ·split at h
     ·cases h;decide +kernel
     ·cases h
  rw[if_neg (show ¬(some x).getD ""="" from hx)];rfl
theorem zdS{r:Rw}{i many:Nat}{fk:List (Key×V)}:xS r i many fk=(!fr r.k r.b&&!(wm r.k&&decide (i<many))&&!(yd r.k&&(z5 fk (.inr r.z)).isSome)):=by
 unfold xS zaW;by_cases h1:wm r.k=true/\i<many
 ·rw[if_pos h1,h1.1,decide_eq_true h1.2]
  have e:L2.eqT [.str "place",.int (i:Nat)] [.str "free"]=false:=rfl;rw[e];simp
 ·rw[if_neg h1]
  have hn:(wm r.k&&decide (i<many))=false:=by
   cases hp:wm r.k with
   | false=>rfl
   | true=>exact decide_eq_false fun h=>h1 ⟨hp,h⟩
  rw[hn];by_cases h2:yd r.k=true/\(z5 fk (.inr r.z)).isSome=true
  ·rw[if_pos h2,h2.1,h2.2]
   have e:∀v,L2.eqT [.str "name",v] [.str "free"]=false:=fun v=>by unfold L2.eqT;simp
   rw[e];simp
  ·rw[if_neg h2]
   have hn2:(yd r.k&&(z5 fk (.inr r.z)).isSome)=false:=by
    cases hp:yd r.k with
    | false=>rfl
    | true=>
     cases hq:(z5 fk (.inr r.z)).isSome with
     | false=>rfl
     | true=>exact absurd ⟨hp,hq⟩ h2
   rw[hn2];have e:L2.eqT [.str "free"] [.str "free"]=true:=by unfold L2.eqT;simp [range_succ,eqV]
   rw[e];simp
theorem jw{zs:List Str}{z:Str}:(z5 (kvP (fpZ zs)) (.inr z)).isSome=decide (z∈zs):=by
 rw[wu,Bool.eq_iff_iff,decide_eq_true_eq];constructor
 ·intro h
  have key:∀(zs:List Str) (i:Nat) (acc:List (Str×Nat)),((fpF i acc zs).any fun p=>decide (p.1=z))=true->(acc.any fun p=>decide (p.1=z))=true\/z∈zs:=by
   intro zs;induction zs with
   | nil=>exact fun i acc h=>.inl h
   | cons y ys ih=>
    intro i acc h;rcases ih (i+1) _ h with h|h
    ·split at h
     ·exact .inl h
     ·rw[any_append,Bool.or_eq_true] at h
      rcases h with h|h
      ·exact .inl h
      ·right
       simp at h;rw[h];exact mem_cons_self
    ·exact .inr (mem_cons_of_mem _ h)
  rcases key zs 0 [] h with h|h
  ·simp at h
  ·exact h
 ·exact fun h=>zc8 zs 0 [] h
theorem zdY{zs:List Str}{z:Str}:z∈(fpZ zs).map (·.1) ↔ z∈zs:=by
 have h1:((fpZ zs).any fun p=>decide (p.1=z))=decide (z∈zs):=by rw[<- wu,jw]
 rw[zis,Bool.eq_iff_iff,decide_eq_true_eq,decide_eq_true_eq] at h1;exact h1
theorem zdn{rows:List Rw}{bars:List Str}{many:Nat}{zs:List Str}:jD rows bars many (fpZ zs)=[] ↔ ∀z∈zs,yT rows bars many z=none:=by
 unfold jD;rw[List.filterMap_eq_nil_iff];constructor
 ·intro h z hz
  obtain⟨p,hp,rfl⟩:=List.mem_map.mp (zdY.mpr hz)
  have:=h p hp
  rwa [map_eq_none_iff] at this
 ·intro h p hp
  rw[map_eq_none_iff];exact h _ (zdY.mp (List.mem_map.mpr ⟨p,hp,rfl⟩))
theorem zbZ{fk:List (Key×V)}:∀(zs:List Str) (i:Nat),jn fk i zs=[] ↔ ∀j z,zs[j]?=some z->z5 fk (.inr z)=some (.int ((i+j:Nat):Int))
 | [],i=>by simp [jn]
 | y::ys,i=>by
  show(if z5 fk (.inr y)=some (.int (i:Nat)) then [] else [(("doubled" : Str),i)])++jn fk (i+1) ys=[] ↔ _
  rw[append_eq_nil_iff,zbZ ys (i+1)];constructor
  ·rintro⟨h1,h2⟩ j z hj
   cases j with
   | zero=>
    have:y=z:=by simpa using hj
    subst this;split at h1
    next e=>exact e
    ·cases h1
   | succ j=>
    have:=h2 j z (by simpa using hj)
    rw[this]
    congr 3
    omega
  ·intro h
   refine⟨?_,fun j z hj=>?_⟩
   ·have h0:=h 0 y rfl
    rw[Nat.add_zero] at h0;rw[if_pos h0]
   ·have:=h (j+1) z (by simpa using hj)
    rw[this]
    congr 3
    omega
theorem fpT{zs:List Str}{z:Str}:((fpF 0 [] zs).any fun p=>decide (p.1=z))=decide (z∈zs):=by
 have:=jw (zs:=zs) (z:=z)
 rw[wu] at this;exact this
theorem zd3{zs:List Str}:jn (kvP (fpZ zs)) 0 zs=[] ↔ zs.Nodup:=by
 rw[zbZ,List.nodup_iff_pairwise_ne];constructor
 ·intro h
  rw[List.pairwise_iff_getElem];intro i j hi hj hij e;have h1:=zgX (zs:=zs) (i:=j) (z:=zs[j]) (getElem?_eq_getElem hj);have h2:=h j _ (getElem?_eq_getElem hj);rw[Nat.zero_add] at h2;rw[decide_eq_true h2,fpT] at h1;have hm:zs[j]∈zs.take j:=by
   rw[<- e];rw[List.mem_iff_getElem];exact⟨i,by rw[length_take];omega,by rw[List.getElem_take]⟩
  rw[decide_eq_true hm] at h1;cases h1
 ·intro h j z hj
  have h1:=zgX hj;rw[fpT] at h1;have hn:z∉zs.take j:=by
   intro hm;obtain⟨i,hi,e⟩:=List.mem_iff_getElem.mp hm;rw[length_take] at hi;rw[List.getElem_take] at e;have hjl:j<zs.length:=(List.getElem?_eq_some_iff.mp hj).1
   have:=(List.pairwise_iff_getElem.mp h) i j (by omega) hjl (by omega)
   rw[getElem?_eq_getElem hjl] at hj;exact this (e.trans (Option.some.inj hj).symm)
  rw[decide_eq_false hn] at h1;rw[Nat.zero_add];exact of_decide_eq_true h1
theorem zbH{rows:List Rw}{many:Nat}:vT rows many=[] ↔ ((zO 2 0 rows).isSome=true\/many<=plN rows):=by
 unfold vT;split
 next h=>simp [h]
 next h=>
  rw[List.map_eq_nil_iff,List.range_eq_nil];constructor
  ·intro e;right;omega
  ·rintro (e|e)
   ·exact absurd e h
   ·omega
theorem uW{many:Nat}{fk:List (Key×V)}:∀(rows:List Rw) (i:Nat),w5 many fk i rows=[] ↔ ∀j r,rows[j]?=some r->xS r (i+j) many fk=false
 | [],i=>by simp [w5]
 | y::ys,i=>by
  show(if xS y i many fk=true then [(("lacking" : Str),i)] else [])++w5 many fk (i+1) ys=[] ↔ _
  rw[append_eq_nil_iff,uW ys (i+1)];constructor
  ·rintro⟨h1,h2⟩ j z hj
   cases j with
   | zero=>
    have:y=z:=by simpa using hj
    subst this;split at h1
    ·cases h1
    next e=>exact Bool.eq_false_iff.mpr e
   | succ j=>
    have:=h2 j z (by simpa using hj)
    rw[show i+(j+1)=i+1+j by omega]
    exact this
  ·intro h
   refine⟨?_,fun j z hj=>?_⟩
   ·have:=h 0 y rfl
    rw[Nat.add_zero] at this;rw[if_neg (by rw[this];decide)]
   ·have:=h (j+1) z (by simpa using hj)
    rw[show i+1+j=i+(j+1) by omega]
    exact this
theorem ze2{rows:List Rw}{bars:List Str}{many:Nat}{z:Str}(V1:jk rows bars) {l:Nat}{r:Rw}(hl:rows[l]?=some r) (hb:yd r.k=true) (he:r.z=z) (hn:¬(l<plN rows/\l<many)):yT rows bars many z=none:=by
 have nd:(nms rows).Nodup:=(List.nodup_append.mp V1.nd).1;have hm:z∈nms rows:=by
  unfold nms;exact List.mem_map.mpr ⟨r,List.mem_filter.mpr ⟨mem_of_getElem? hl,hb⟩,he⟩
 have hz:z∉bars:=fun h=>(List.nodup_append.mp V1.nd).2.2 z hm z h rfl;rw[zd7,zeY nd hz hl hb he,if_neg (show ¬l<min many (plN rows) by omega),if_pos rfl]
theorem zgN{rows:List Rw}{bars names:List Str}{many:Nat}(h1:names.Nodup) (h2:(zO 2 0 rows).isSome=true\/many<=plN rows) (h3:∀z∈names,yT rows bars many z=none) (h4:∀(i:Nat) (r:Rw),rows[i]?=some r->fr r.k r.b=true\/(wm r.k=true/\i<many)\/(yd r.k=true/\r.z∈names)):uD rows bars many names=[]:=by
 unfold uD;rw[append_eq_nil_iff,append_eq_nil_iff,append_eq_nil_iff,zd3,zbH,zdn,uW];refine⟨⟨⟨h1,h2⟩,h3⟩,fun i r hr=>?_⟩;rw[zdS,jw,Nat.zero_add];rcases h4 i r hr with h|⟨h,h'⟩|⟨h,h'⟩
 ·rw[h];rfl
 ·rw[h,decide_eq_true h'];simp
 ·rw[h,decide_eq_true h'];simp
theorem zgr{rows:List Rw}{z:Str}(h:z∈nms rows):∃(l:Nat) (r:Rw),rows[l]?=some r/\yd r.k=true/\r.z=z:=by
 unfold nms at h;obtain⟨r,hr,rfl⟩:=List.mem_map.mp h;rw[List.mem_filter] at hr;obtain⟨l,hl⟩:=List.mem_iff_getElem?.mp hr.1;exact⟨l,r,hl,hr.2,rfl⟩
theorem ze1{rows:List Rw}{bars:List Str}{many:Nat}{z:Str}(h:z∉bars) (hk:z∉nms rows):yT rows bars many z=if (zO 4 0 rows).isSome=true then none else some ("strange" : Str):=by
 have hv:=qm (z:=z) rows 0 [] hk;have e1:yT.lastD' z rows=none:=by unfold yT.lastD';rw[hv];rfl
 unfold yT;rw[if_neg h,e1]
section
variable {zs:List Str}{D:FD}{bars:List Str}
theorem zcf(h:zY zs D bars) (V1:jk D.rows bars) {many:Nat}{names:List Str}(nd:names.Nodup) (ht:yN D.rows bars many names=true):uD D.rows bars many names=[]:=by
 unfold yN at ht;rw[Bool.and_eq_true,Bool.and_eq_true,all_eq_true,all_eq_true] at ht;obtain⟨⟨t1,t2⟩,t3⟩:=ht;rw[qi h] at t1;have lenP:plN D.rows=D.P.length:=wR h;have er:D.rows=D.P++(D.T++(D.G++D.B)):=rfl;rw[xP h,qJ h] at t3;have grp:∀{i:Nat}{r:Rw},D.rows[i]?=some r->(i<D.P.length/\D.P[i]?=some r)\/(D.P.length<=i/\(r∈D.T\/r∈D.G\/r∈D.B)):=fun {i r} hi=>by
  by_cases hp:i<D.P.length
  ·rw[er,getElem?_append_left hp] at hi
   exact .inl ⟨hp,hi⟩
  ·rw[er,getElem?_append_right (by omega)] at hi
   have:=mem_of_getElem? hi
   refine .inr ⟨by omega,?_⟩
   rcases List.mem_append.mp this with m|m
   ·exact .inl m
   ·exact .inr (List.mem_append.mp m)
 have good:∀r∈D.P.drop many++D.G,r.b=true\/(r.k≠0/\r.z∈names):=fun r hr=>by
  have:=t3 r hr
  unfold ug at this;cases hb:r.b with
  | true=>exact .inl rfl
  | false=>
   right;rw[hb] at this;constructor
   ·intro e;rw[e] at this;cases this
   ·refine Decidable.by_contra fun hn=>?_
    rw[decide_eq_true hn,Bool.or_true] at this;cases this
 have frG:∀{r:Rw},(r.k=0\/r.k=1\/r.k=3)->fr r.k r.b=r.b:=fun {r} e=>by rcases e with e|e|e <;> rw[e] <;> rfl
 refine zgN nd ?_ (fun z hz=>?_) (fun i r hr=>?_)
 ·by_cases hm:plN D.rows<many
  ·left
   rw[vB h];rw[decide_eq_true hm,Bool.true_and,Bool.not_not] at t1;exact t1
  ·exact .inr (by omega)
 ·have bz:=t2 z hz
  unfold jo at bz;rw[Bool.not_eq_true',Bool.or_eq_false_iff,Bool.or_eq_false_iff] at bz;obtain⟨⟨b1,b2⟩,b3⟩:=bz;have b1:=of_decide_eq_false b1;have b2:=of_decide_eq_false b2;by_cases hl:∃(l:Nat) (r:Rw),D.rows[l]?=some r/\yd r.k=true/\r.z=z/\¬(l<plN D.rows/\l<many)
  ·obtain⟨l,r,h1,h2,h3,h4⟩:=hl
   exact ze2 V1 h1 h2 h3 h4
  have hnn:z∉nms D.rows:=fun hm=>by
   obtain⟨l,r,h1,h2,h3⟩:=zgr hm;have hlt:l<plN D.rows/\l<many:=Decidable.by_contra fun hn=>hl ⟨l,r,h1,h2,h3,hn⟩;refine b2 ?_;rcases grp h1 with ⟨hp,hi⟩|⟨hp,_⟩
   ·have k1:r.k=1:=by
     rcases (h.p r (mem_of_getElem? hi)).1 with e|e
     ·rw[e] at h2;cases h2
     ·exact e
    unfold uJ;rw[xP h];refine List.mem_map.mpr ⟨r,List.mem_filter.mpr ⟨mem_of_getElem? (i:=l) ?_,by rw[k1];rfl⟩,h3⟩
    rw[List.getElem?_take,if_pos hlt.2];exact hi
   ·rw[lenP] at hlt
    omega
  rw[ze1 b1 hnn,wK h,<- zc5 h];have hnl:z∉wt D.rows many:=fun hm=>by
   unfold wt at hm;rw[xP h,qJ h] at hm;refine hnn ?_;unfold nms;rcases List.mem_append.mp hm with m|m
   ·obtain⟨r,hr,e⟩:=List.mem_map.mp m
    obtain⟨hr,k⟩:=List.mem_filter.mp hr;exact List.mem_map.mpr ⟨r,List.mem_filter.mpr ⟨by rw[er];exact mem_append_left _ (mem_of_mem_drop hr),by rw[show r.k=1 by simpa using k];rfl⟩,e⟩
   ·obtain⟨r,hr,e⟩:=List.mem_map.mp m
    exact List.mem_map.mpr ⟨r,List.mem_filter.mpr ⟨by rw[er];exact mem_append_right _ (mem_append_right _ (mem_append_left _ hr)),by rw[(h.g r hr).1];rfl⟩,e⟩
  rw[decide_eq_true hnl,Bool.true_and,Bool.not_eq_false'] at b3;rw[b3,if_pos rfl]
 ·rcases grp hr with ⟨hp,hi⟩|⟨hp,hT|hG|hB⟩
  ·have kr:=(h.p r (mem_of_getElem? hi)).1
   by_cases hm:i<many
   ·exact .inr (.inl ⟨by rcases kr with e|e <;> rw[e] <;> rfl,hm⟩)
   ·have hd:r∈D.P.drop many:=by
     refine mem_of_getElem? (i:=i - many) ?_;rw[getElem?_drop,show many+(i - many)=i by omega]
     exact hi
    rcases good r (mem_append_left _ hd) with e|⟨e1,e2⟩
    ·exact .inl (by rw[frG (by rcases kr with e|e;exact .inl e;exact .inr (.inl e))];exact e)
    ·refine .inr (.inr ⟨?_,e2⟩)
     rcases kr with e|e
     ·exact absurd e e1
     ·rw[e];rfl
  ·exact .inl (by rw[(h.t r hT).1];rfl)
  ·have kr:=(h.g r hG).1
   rcases good r (mem_append_right _ hG) with e|⟨e1,e2⟩
   ·exact .inl (by rw[frG (.inr (.inr kr))];exact e)
   ·exact .inr (.inr ⟨by rw[kr];rfl,e2⟩)
  ·exact .inl (by rw[(h.b r hB).1];rfl)
end
theorem zb8{zs n X:List Str}{b:Bool}(h:jb zs n b X):acc (some (n,b,X)) n=true:=by
 show(n.all (fun y=>decide (y∈n))&&n.all (fun y=>if b=true then decide (y∉X) else decide (y∈X)))=true
 rw[Bool.and_eq_true];refine⟨List.all_eq_true.mpr fun y hy=>decide_eq_true hy,List.all_eq_true.mpr fun y hy=>?_⟩
 have:=h.in_ y hy
 cases b with
 | true=>rw[if_pos rfl];exact decide_eq_true (by rw[this];exact fun e=>by cases e)
 | false=>rw[if_neg Bool.false_ne_true];exact decide_eq_true (by rw[this])
section
variable {zs:List Str}{D:FD}{bars:List Str}
end
theorem zaa{K:Frag}{ok:Addr->Prop}{H:Hp}{n:Nat}:∀(ts:List Int),Paired (zS K ok H n) (ts.map V.int) (ts.map Dt.int)
 | []=>.nil
 | _::ts=>.cons .int (zaa ts)
section
variable {P:Program}{w:World}{K:Frag}{mg:Str->Option Value}{base:Heap}{f CF:Addr}{fd:FuncData}{c:C5}
end
end K83
namespace L2
open PySem PySem.Spec PyProof.Rows
def uL(w:World):Bool:=w.params.followText "set-order"
def Gd(w:World) (es:Array (Int×Value)) (t:SetTable):Prop:=(es.toList.map fun e=>jf e.2).Nodup/\(uL w=true\/t.led=true)/\(t.plain=true->es.size=0)
def vt(P:Program) (w:World) (h:Heap) (a:Addr) (S:Str->Bool) (n:Nat):Prop:=
 ∃o es ep t,h.get? a=some o/\o.ExactSet/\o.data=.set es ep t/\ElemsOf (PySem.strKind P w) es.toList/\(∀k,S k=true ↔ ∃e∈es.toList,(PySem.strKind P w).is k e.2=true)
 /\es.size<scanBound/\t.fits es.size=true/\es.size=n/\Gd w es t
theorem zcV(t:SetTable) (es:Array (Int×Value)) (h:Int) (x:Value):(layNew t es h x).2.1.led=t.led:=by
 unfold layNew;split
 ·rename_i slot wd _
  show((t.put slot).1.orStandIn _).led=t.led;unfold SetTable.orStandIn;split <;> rfl
 ·rfl
theorem zaR(t:SetTable) (es:Array (Int×Value)) (k:Nat):(relayAll t es k).2.1.led=t.led:=by
 unfold relayAll;split
 ·rename_i t' order hr
  dsimp only;split
  ·unfold SetTable.relaid SetTable.laid at hr
   cases hq:SetTable.layClean (SetTable.sizeAbove k - 1) (es.map (·.1)) with
   | none=>rw[hq] at hr;cases hr
   | some ow=>rw[hq] at hr;injection hr with hr;injection hr with h1 h2;rw[<- h1]
  ·rfl
 ·rfl
theorem jW(t:SetTable) (es:Array (Int×Value)) (k:Nat) (h:t.plain=false):(relayAll t es k).2.1.plain=false:=by
 unfold relayAll;split
 ·rename_i t' order hr
  dsimp only;split
  ·unfold SetTable.relaid SetTable.laid at hr
   cases hq:SetTable.layClean (SetTable.sizeAbove k - 1) (es.map (·.1)) with
   | none=>rw[hq] at hr;cases hr
   | some ow=>rw[hq] at hr;injection hr with hr;injection hr with h1 h2;rw[<- h1];exact h
  ·rfl
 ·rfl
section
variable {P:Program}{w:World}{A:Around}{E:Value->Shared->Prop}{s:Shared}
theorem zb7{g:Bool->Sem Unit}(hg:∀(b:Bool) (s₁:Shared) (Q':Unit->Shared->Prop),Q' () s₁->wpAny (model P w) A (g b) Q' E s₁)
  {a:Addr}{o:Obj}{es:Array (Int×Value)}{ep:Nat}{t:SetTable}(ho:s.heap.get? a=some o) (hex:o.ExactSet) (hd:o.data=.set es ep t)
  {es1:Array (Int×Value)}{t2:SetTable}{S':Str->Bool}(hel1:ElemsOf (PySem.strKind P w) es1.toList) (hmem1:∀k',S' k'=true ↔ ∃e∈es1.toList,(PySem.strKind P w).is k' e.2=true)
  (hb1:es1.size<scanBound) (hf2:t2.fits es1.size=true) (hnd:(es1.toList.map fun e=>jf e.2).Nodup) (hld:uL w=true\/t2.led=true) (hpl:t2.plain=false) {wasDummy:Bool}{R:Option Bool->Shared->Prop}
  (h:∀h',Heap.SameBut a s.heap h'->vt P w h' a S' es1.size->R (some true) { s with heap:=h' }) :
  wpAny (model P w) A (do
    storeSet a es1 t2
    if (!wasDummy&&t2.tooFull)=true then do
      g (relayAll t2 es1 (SetTable.grown es1.size)).2.2
      storeSet a (relayAll t2 es1 (SetTable.grown es1.size)).1 (relayAll t2 es1 (SetTable.grown es1.size)).2.1
      pure (some true)
     else pure (some true)) R E s:=by
 refine wpAny_bind (wpAny_storeSet_of ho hd ?_ (fits_of_scanBound hb1));obtain⟨ho1,hS1⟩:=SetOf_store (knd:=PySem.strKind P w) ho hex hd hel1 hmem1 hb1 hf2;have hsb1:=Heap.SameBut.update s.heap a (Obj.putSet es1 t2);split
 ·have hp:=relayAll_perm t2 es1 (SetTable.grown es1.size)
  have hfr:=relayAll_fits t2 es1 (SetTable.grown es1.size);have hl:=zaR t2 es1 (SetTable.grown es1.size);have hpp:=jW t2 es1 (SetTable.grown es1.size) hpl;generalize hRl:relayAll t2 es1 (SetTable.grown es1.size)=Rl at hp hfr hl hpp |-;obtain⟨es2,t3,gave2⟩:=Rl;dsimp only at hp hfr hl hpp |-;have hel2:ElemsOf (PySem.strKind P w) es2.toList:=hel1.perm hp;have hmem2:∀k',S' k'=true ↔ ∃e∈es2.toList,(PySem.strKind P w).is k' e.2=true:=fun k'=>(hmem1 k').trans ⟨fun⟨e,he,q⟩=>⟨e,hp.mem_iff.mpr he,q⟩,fun⟨e,he,q⟩=>⟨e,hp.mem_iff.mp he,q⟩⟩;have hsz:es2.size=es1.size:=by rw[<- Array.length_toList,hp.length_eq,Array.length_toList]
  have hb2:es2.size<scanBound:=by rw[hsz];exact hb1
  refine wpAny_bind (hg _ _ _ ?_);refine wpAny_bind (wpAny_storeSet_of ho1 rfl ?_ (fits_of_scanBound hb2));obtain⟨hg2,_⟩:=SetOf_store (knd:=PySem.strKind P w) ho1 hex rfl hel2 hmem2 hb2 hfr;exact wpAny_pure (h _ (hsb1.trans (Heap.SameBut.update _ a _)) ⟨_,es2,_,t3,hg2,hex,rfl,hel2,hmem2,hb2,hfr,hsz,(hp.map _).nodup_iff.mpr hnd,by rw[hl];exact hld,fun e=>by rw[hpp] at e;cases e⟩)
 ·exact wpAny_pure (h _ hsb1 ⟨_,es1,_,t2,ho1,hex,rfl,hel1,hmem1,hb1,hf2,rfl,hnd,hld,fun e=>by rw[hpl] at e;cases e⟩)
theorem zhh{a:Addr}{S:Str->Bool}{n:Nat}{z:Str}{tk:Tok}{Q:Bool->Shared->Prop}(hS:vt P w s.heap a S n)
  (hroom:n+1<scanBound)
  (h:∀h',Heap.SameBut a s.heap h'->vt P w h' a (fun k'=>S k'||decide (k'=z)) (if S z then n else n+1)->Q (!S z) { s with heap:=h' }) :
  wpAny (model P w) A (setAddHashed a (.str z tk) ((PySem.strKind P w).hash z)) Q E s:=by
 have hkey:(PySem.strKind P w).is z (.str z tk)=true:=strKind_is _ _ _ _;have hsc:(Value.str z tk).scannable=true:=rfl;obtain⟨o,es,ep,t,ho,hex,hd,hel,hmem,hb,hf,hn,hnd,hld,hpl⟩:=hS;have hb1:es.size+1<scanBound:=by rw[hn];exact hroom
 unfold setAddHashed setAddHashedIn;refine wpAny_holding (wpAny_bind (wpAny_setState_of ho hd hf ?_));dsimp only;rw[byScan_of hsc hb hel];simp only[↓reduceIte];unfold setAddByScan;refine wpAny_bind ?_;refine wpAny_bind (wpAny_rule ?_);refine wpAny_bind (wpAny_setScan_of hkey ho hd hf hel ?_);cases hr:List.findIdx? (fun e=>(PySem.strKind P w).is z e.2) es.toList with
 | some j=>
  dsimp only;obtain⟨hj,hpj,_⟩:=List.findIdx?_eq_some_iff_getElem.mp hr;have hSk:S z=true:=(hmem z).mpr ⟨es.toList[j],getElem_mem hj,hpj⟩;refine wpAny_pure (wpAny_pure ?_);have e:s={ s with heap:=s.heap }:=by cases s;rfl
  have:=h s.heap (Heap.SameBut.refl a s.heap) ⟨o,es,ep,t,ho,hex,hd,hel,fun k'=>by
   rw[Bool.or_eq_true,decide_eq_true_eq,<- hmem k'];exact⟨fun hk=>hk.elim id (fun e=>e ▸ hSk),.inl⟩,hb,hf,by rw[hSk];exact hn,hnd,hld,hpl⟩
  rw[hSk] at this;rw[e];exact this
 | none=>
  dsimp only;have hSk:S z=false:=by
   cases hk:S z with
   | false=>rfl
   | true=>obtain⟨e,he,hp⟩:=(hmem z).mp hk;have:=List.findIdx?_eq_none_iff.mp hr e he;rw[hp] at this;exact Bool.noConfusion this
  have hgw:∀(b:Bool) {s₁:Shared}{Q':Unit->Shared->Prop},Q' () s₁->wpAny (model P w) A (match b with|true=>rule "set.scan.the-table-gave-way"|false=>pure ()) Q' E s₁:=
   fun b s₁ Q' hq=>by cases b <;> first|exact wpAny_pure hq|exact wpAny_rule hq
  have hperm:=layNew_perm t es ((PySem.strKind P w).hash z) (.str z tk);have hfits:=layNew_fits t es ((PySem.strKind P w).hash z) (.str z tk);have hled:=zcV t es ((PySem.strKind P w).hash z) (.str z tk);generalize hL:layNew t es ((PySem.strKind P w).hash z) (.str z tk)=L at hperm hfits hled |-;obtain⟨es1,t1,wasDummy,gave⟩:=L;dsimp only at hperm hfits hled |-;rw[Array.toList_push] at hperm;have hel1:ElemsOf (PySem.strKind P w) es1.toList:=(hel.push hkey hsc).perm hperm;have hmem1:∀k',(S k'||decide (k'=z))=true ↔ ∃e∈es1.toList,(PySem.strKind P w).is k' e.2=true:=mem_push_iff hkey hmem hperm
  have hb1':es1.size<scanBound:=by rw[<- Array.length_toList,hperm.length_eq,length_append,Array.length_toList];simpa using hb1
  have hnd1:(es1.toList.map fun e=>jf e.2).Nodup:=by
   refine(hperm.map _).nodup_iff.mpr ?_;rw[map_append,List.nodup_append];refine⟨hnd,List.nodup_cons.mpr ⟨not_mem_nil,nodup_nil⟩,fun x hx y hy e=>?_⟩;obtain⟨e1,he1,rfl⟩:=List.mem_map.mp hx;have hy:y=z:=by simpa [jf] using hy
   obtain⟨⟨k1,hk1,_⟩,_⟩:=hel e1 he1;obtain⟨tk1,e3⟩:=Value.isStrOf_shape hk1;have h2:(PySem.strKind P w).is z e1.2=true:=by
    rw[e3] at e |-
    have:k1=z:=e.trans hy
    rw[this];exact strKind_is _ _ _ _
   have h3:=List.findIdx?_eq_none_iff.mp hr e1 he1;rw[h2] at h3;cases h3
  refine wpAny_bind (hgw _ ?_);have hsz1:es1.size=n+1:=by rw[<- Array.length_toList,hperm.length_eq,length_append,Array.length_toList,hn];rfl
  have hend:∀h',Heap.SameBut a s.heap h'->vt P w h' a (fun k'=>S k'||decide (k'=z)) es1.size->Q true { s with heap:=h' }:=by
   intro h' hsb hS';have:=h h' hsb;rw[hSk] at this;rw[hsz1] at hS';exact this hS'
  split
  ·refine wpAny_bind ?_
   rw[hashByValue_scannable 8 hsc];refine wpAny_pure ?_;refine zb7 ?_ ho hex hd hel1 hmem1 hb1' ?_ hnd1 ?_ ?_ ?_
   ·intro b s₁ Q' hq;cases b <;> first|exact wpAny_pure hq|exact wpAny_rule hq
   ·split
    ·exact hfits
    ·exact SetTable.fits_plain_off hfits
   ·split <;> (rw[show(uL w=true\/_)=_ from rfl];exact hld.imp id fun e=>by simpa [hled] using e)
   ·rw[if_neg (show ¬(plainKind (Value.str z tk)=true) from Bool.false_ne_true)]
   ·intro h' hsb hS';dsimp only;exact wpAny_pure (hend h' hsb hS')
  ·rename_i hpf
   refine wpAny_bind (wpAny_pure ?_);simp only[↓reduceIte];refine zb7 ?_ ho hex hd hel1 hmem1 hb1' hfits hnd1 ?_ ?_ ?_
   ·intro b s₁ Q' hq;cases b <;> first|exact wpAny_pure hq|exact wpAny_rule hq
   ·rw[hled];exact hld
   ·simpa using hpf
   ·intro h' hsb hS';dsimp only;exact wpAny_pure (hend h' hsb hS')
end
section
variable {P:Program}{w:World}{A:Around}{R:Result->Shared->Prop}{I:Addr}{fp wr:List Addr}{G:Array GenState->Array GenState->Prop}{n:Nat}{Pr:Nat->Value->Prop}{Sg:Nat->Shared->Prop}
theorem jc(W:WalksS P w A.in1 I fp wr G n Pr Sg) (a:Addr) (ha:a∉fp) (val:Nat->Str) (hv:∀i v,Pr i v->∃t,v=.str (val i) t) (hb:n+1<scanBound) :
  ∀(k i:Nat) (s:Shared) (T:Str->Bool) (c:Nat),n - i=k->i<=n->Sg i s->c<=i->vt P w s.heap a T c->
   (∀s' c',Moved (a::wr) G s s'->c'<=n->vt P w s'.heap a (seen val T i k) c'->R (.ok (.ret .none)) s')->
   codeAny (model P w) A (.builtin "set.update.loop" ⟨[.ref a,.ref I],[]⟩) R s
 | 0,i,s,T,c,hk,hi,hg,hc,hT,hR=>by
  have hw:a∉wr:=fun z=>ha (W.sub _ z);have ei:i=n:=by omega
  subst ei;refine codeAny_builtin PyProof.Rows.F.entry_set_update_loop ?_;rw[Around.under_plainId PyProof.Rows.F.plain_set_update_loop _];show wpAny _ A.in1 (pyNext (.ref I) >>= _) _ _ _;refine wpAny_bind (W.done s _ _ hg fun s' hm=>?_);show wpAny _ A.in1 (ret Value.none) _ _ _;refine wpAny_pure (hR s' c (hm.mono fun b z=>mem_cons_of_mem _ z) hc ?_);obtain⟨ob,es,ep,t,h1,h2⟩:=hT;exact⟨ob,es,ep,t,hm.heap a _ hw h1,h2⟩
 | k+1,i,s,T,c,hk,hi,hg,hc,hT,hR=>by
  have hw:a∉wr:=fun z=>ha (W.sub _ z);have hlt:i<n:=by omega
  refine codeAny_builtin PyProof.Rows.F.entry_set_update_loop ?_;rw[Around.under_plainId PyProof.Rows.F.plain_set_update_loop _];show wpAny _ A.in1 (pyNext (.ref I) >>= _) _ _ _;refine wpAny_bind (W.item i s _ _ hlt hg fun v s' hP hg' hm=>?_);obtain⟨t,rfl⟩:=hv i v hP;have hT':vt P w s'.heap a T c:=by
   obtain⟨ob,es,ep,tb,h1,h2⟩:=hT;exact⟨ob,es,ep,tb,hm.heap a _ hw h1,h2⟩
  show wpAny _ A.in1 (holding [Value.str (val i) t] (setAdd a (.str (val i) t)) >>= _) _ _ s';refine wpAny_bind (wpAny_holding ?_);unfold setAdd;refine wpAny_holding ?_;refine wpAny_bind ((PySem.strKind P w).pyHash (k:=val i) (strKind_is _ _ _ _) ?_);refine zhh (s:={ s' with toks:=s'.toks+1 }) hT' (by omega) fun h' hsb h3=>?_
  refine wpAny_pure ⟨plainId_quiet PyProof.Rows.F.plain_set_update_loop _,jc W a ha val hv hb k (i+1) _ _ _ (by omega) hlt (W.frame _ s' _ _ hg' (le_succ _) fun b hb' o e=>?_) (by split <;> omega) h3 fun s2 c2 hm2 hc2 h4=>?_⟩
  ·have:b≠a:=fun z=>ha (z ▸ hb')
   rw[hsb.2 b this];exact e
  ·refine hR s2 c2 (Moved.trans W.gtrans ((hm.mono fun b z=>mem_cons_of_mem _ z).then_heap (le_succ _) fun b o hb' e=>?_) hm2) hc2 h4
   have:b≠a:=fun z=>hb' (z ▸ mem_cons_self)
   rw[hsb.2 b this];exact e
end
theorem qz{P:Program}{w:World}{A:Around}{E:Value->Shared->Prop}{s:Shared}(a:Value) {Q₁:Value->Shared->Prop}
  (h:Q₁ (.ref s.heap.objs.size) { s with heap:=s.heap.push (x9 (!uL w)) }) :
  codeAny (model P w) A (.call (.builtin "set.__new__") ⟨[.type "set",a],[]⟩) (wants Q₁ E) s:=by
 refine codeAny_of_tree ?_;show wpAny _ A.in1 (do checkBuiltinCall "set.__new__" ⟨[.type "set",a],[]⟩;again (.builtin "set.__new__" ⟨[.type "set",a],[]⟩)) _ _ s
 refine wpAny_bind (wpAny_of_eq (PySem.F.newCall_set_1 a) (wpAny_pure ⟨plainId_quiet PySem.F.plain_set_new _,codeAny_builtin PySem.F.entry_set_new ?_⟩));rw[Around.under_plainId PySem.F.plain_set_new _];unfold Builtin.«set.__new__» Builtin.Frozenset.newClass;have hsub:=PySem.sub_set_self;obtain⟨hp,g,d,tk,os⟩:=s;dsimp only
 wp_walk
 refine wpAny_askSetting (wpAny_pure ?_);dsimp only;simp only[newObj];refine wpAny_bind (wpAny_alloc (wpAny_pure ?_));exact wpAny_pure h
set_option maxHeartbeats 8000000 in
theorem zb6{P:Program}{w:World}{A:Around}{E:Value->Shared->Prop}{s:Shared}{l:Addr}{items:Array Value}{zs:List Str}{Q:Value->Shared->Prop}
  (hh:A.handled=none) (hl:s.heap.IsList l items) (hv:∀(i:Nat) (v:Value),items[i]?=some v->∃t,v=.str (zs.getD i "") t) (hb:items.size+1<scanBound)
  (h:∀(h':Heap) (tk c:Nat),vt P w h' s.heap.objs.size (seen (fun i=>zs.getD i "") (fun _=>false) 0 items.size) c->(∀b o,b<s.heap.objs.size->s.heap.get? b=some o->h'.get? b=some o)->Q (.ref s.heap.objs.size) { s with heap:=h',toks:=tk }) :
  wpAny (model P w) A (call (.type "set") [.ref l]) Q E s:=by
 obtain⟨mc,mt,mro⟩:=PySem.F.called_set.mro;have q1:=PySem.F.called_set.made;have q2:=PySem.F.called_set.sub;have q3:=PySem.F.called_set.notType;have q4:=PySem.F.called_set.canCreate;have q5:=PySem.F.typeCall_set_1 (.ref l);refine wpAny_call (codeAny_of_tree ?_);show wpAny _ _ (callAny (.type "set") _) _ _ _;refine wpAny_pure ⟨Code.quiet_builtin _ (by decide +kernel),codeAny_builtin PySem.F.entry_type_call ?_⟩;rw[Around.under_plain (weight_type_call_type "set" [.ref l] []) rfl]
 repeat (any_goals first|assumption|wp_step)
 refine codeAny_mono (qz (.ref l) (E:=E) (Q₁:=fun obj s₁=>∃led:Bool,(uL w=true\/led=true)/\obj=.ref s.heap.objs.size/\s₁={ s with heap:=s.heap.push (x9 led) }) ⟨!uL w,by cases uL w <;> simp,rfl,rfl⟩) fun r s₁ hr=>?_
 rcases r with e|(_|_|_|obj)
 ·exact hr
 ·exact hr.elim
 ·exact hr.elim
 ·exact hr.elim
 ·obtain⟨led,hled,rfl,rfl⟩:=hr
  have hS:(s.heap.push (x9 led)).get? s.heap.objs.size=some (x9 led):=Heap.get?_push_size _ rfl;have hT:Shared.TypeIs { s with heap:=s.heap.push (x9 led) } (.ref s.heap.objs.size) "set":=⟨_,hS,rfl⟩
  have q6:=PySem.F.called_set.init.lookup;have q7:=PySem.F.called_set.init.bind (.ref s.heap.objs.size)
  repeat (any_goals first|assumption|wp_step)
  refine codeAny_mono (codeAny_call_builtin (R:=wants (fun r s₂=>r=.none/\∃h' tk c,s₂={ s with heap:=h',toks:=tk }/\vt P w h' s.heap.objs.size (seen (fun i=>zs.getD i "") (fun _=>false) 0 items.size) c/\∀b o,b<s.heap.objs.size->s.heap.get? b=some o->h'.get? b=some o) E) PySem.F.called_set.init.plain PySem.F.entry_set_init (check_set_init_1 hT ?_)) fun r₂ s₂ hr₂=>?_
  ·obtain⟨ol,hol,hcl,nl,hdl⟩:=id hl
   obtain⟨ocls,odict,odata,oslots⟩:=ol;simp only at hcl hdl;subst hcl hdl;have hol':(s.heap.push (x9 led)).get? l=_:=Heap.get?_push_of_some (x9 led) hol;have t1:=PySem.F.sub_list_set;have t2:=PySem.F.sub_list_frozenset;have t3:(Value.type "list"==Value.type "dict")=false:=by decide
   have hl1:(s.heap.push (x9 led)).IsList l items:=⟨_,hol',rfl,nl,rfl⟩;have hlS:l<s.heap.objs.size:=Heap.lt_size hol;unfold Builtin.«set.__init__» noKeywords Builtin.Frozenset.updateFrom;generalize hq:pyIter=pit
   wp_walk
   subst hq;refine wpAny_pyIter_list hl1 (wpAny_bind (wpAny_runValue ?_));have hz:(s.heap.push (x9 led)).objs.size=s.heap.objs.size+1:=Heap.size_push ..;have n1:l≠(s.heap.push (x9 led)).objs.size:=by rw[hz];exact ne_of_lt (lt_succ_of_lt hlS)
   have n2:∀b:Addr,b<s.heap.objs.size->b∉[s.heap.objs.size,(s.heap.push (x9 led)).objs.size]:=fun b hb' z=>by
    rw[hz] at z;rcases List.mem_cons.mp z with e|e
    ·exact ne_of_lt hb' e
    ·exact ne_of_lt (lt_succ_of_lt hb') (List.mem_singleton.mp e)
   have n3:s.heap.objs.size∉[(s.heap.push (x9 led)).objs.size,l]:=fun z=>by
    rw[hz] at z;rcases List.mem_cons.mp z with e|e
    ·exact ne_of_lt (lt_succ_self _) e
    ·exact ne_of_gt hlS (List.mem_singleton.mp e)
   refine jc ((Walks.list (by simp [hh]) _ l n1 items).toS) s.heap.objs.size n3 (fun i=>zs.getD i "") hv hb items.size 0 _ (fun _=>false) 0 (by omega) (zero_le _) ⟨⟨_,Heap.get?_push_size _ rfl,rfl,rfl⟩,hl1.push _⟩ (Nat.le_refl _) ?_ ?_
   ·exact⟨_,#[],0,_,Heap.get?_push_of_some _ hS,⟨rfl,rfl,rfl⟩,rfl,fun e he=>by simp at he,fun k=>by simp,by unfold scanBound;decide,by rfl,rfl,by simp,hled,fun _=>rfl⟩
   ·rintro⟨h',g',d',tk',os'⟩ c' hm hc' hS'
    have e1:g'=s.gens:=hm.gens;have e2:d'=s.drawn:=hm.drawn;have e3:os'=s.os:=hm.os;subst e1 e2 e3;show wpAny _ _ _ _ _ _;refine wpAny_pure ?_;show wpAny _ _ (ret Value.none) _ _ _;refine wpAny_pure ⟨rfl,h',tk',c',rfl,hS',fun b o hb' e=>hm.heap b o (n2 b hb') (Heap.get?_push_of_some _ (Heap.get?_push_of_some _ e))⟩
  ·rcases r₂ with e|(_|_|_|ob2)
   ·exact hr₂
   ·exact hr₂.elim
   ·exact hr₂.elim
   ·exact hr₂.elim
   ·obtain⟨rfl,h',tk,c',rfl,hS',hk'⟩:=hr₂
    repeat (any_goals first|assumption|wp_step)
    exact h _ _ _ hS' hk'
theorem zde{M:Model}{A:Around}{E:Value->Shared->Prop}{s:Shared}{src:Source}{n:Nat}{Q:Nat->Shared->Prop}(hn:n≠0) (h:∀(i:Nat) (d:Drawn),i<n->Q i { s with drawn:=d }):wpAny M A (choose src n) Q E s:=
 fun Γ p hΓ=>⟨hn,h _ _ (mod_lt _ (Nat.pos_of_ne_zero hn))⟩
theorem wy{α : Type}:∀(xs:List α) (i:Nat) (hi:i<xs.length),(xs[i]::xs.eraseIdx i).Perm xs
 | [],i,hi=>absurd hi (not_lt_zero _)
 | x::xs,0,_=>List.Perm.refl _
 | x::xs,i+1,hi=>(List.Perm.swap _ _ _).trans (List.Perm.cons x (wy xs i (Nat.lt_of_succ_lt_succ hi)))
theorem vW{M:Model}{A:Around}{E:Value->Shared->Prop}{α : Type}:∀(n:Nat) (xs:List α) {s:Shared}{Q:List α->Shared->Prop},xs.length=n->(∀(ys:List α) (d:Drawn),ys.Perm xs->Q ys { s with drawn:=d })->wpAny M A (drawOrder n xs) Q E s
 | 0,xs,s,Q,hl,h=>by
  have:xs=[]:=List.eq_nil_of_length_eq_zero hl
  subst this;exact wpAny_pure (h [] s.drawn (List.Perm.refl _))
 | n+1,[],s,Q,hl,h=>by cases hl
 | n+1,x::xs,s,Q,hl,h=>by
  unfold drawOrder;refine wpAny_bind (zde (by simp) fun i d hi=>?_)
  rw[getElem?_eq_getElem hi];dsimp only;refine wpAny_bind (vW n _ (by rw[List.length_eraseIdx_of_lt hi,hl];rfl) fun ys d' hp=>?_)
  exact wpAny_pure (h _ d' ((List.Perm.cons _ hp).trans (wy _ _ hi)))
theorem jd{α : Type}(next:Nat->Nat):∀(f k:Nat) (left:List α) (out:Array α),left.length=f->(pickOrder.go next f k left out).toList.Perm (out.toList++left)
 | 0,k,left,out,hl=>by
  have:left=[]:=List.eq_nil_of_length_eq_zero hl
  subst this;rw[append_nil];exact List.Perm.refl _
 | f+1,k,left,out,hl=>by
  unfold pickOrder.go;have hi:next k % left.length<left.length:=mod_lt _ (by omega)
  rw[getElem?_eq_getElem hi];dsimp only;refine(jd next f (k+1) _ _ (by rw[List.length_eraseIdx_of_lt hi,hl];rfl)).trans ?_
  rw[Array.toList_push,append_assoc];exact List.Perm.append_left _ (wy _ _ hi)
theorem qS{α : Type}(next:Nat->Nat) (xs:Array α):(pickOrder next xs).toList.Perm xs.toList:=by
 have:=jd next xs.size 0 xs.toList #[] rfl
 simpa [pickOrder] using this
namespace FS
theorem zbG:Manifest.owners.lookup (String.ofList ['r','o','t','a','r','e','t','i','_','t','e','s'].reverse)=some Manifest.sig_set_iterator:=by kernel_rfl
theorem zhd:Slot "set_iterator" "__next__" "set_iterator.__next__":=
 .of (owner:="set_iterator") (n:="__next__") (by rw[typeLookup_type,builtinLookup_eq_fast];kernel_rfl) (by decide +kernel) (by decide +kernel) (by decide +kernel)
  (by first|exact .inl (by decide +kernel)|exact .inr (by decide +kernel)) (by rw[isSubtype_type];kernel_rfl)
theorem zg3:entryFor table "set_iterator.__next__"=some Builtin.«set_iterator.__next__»:=entryFor_of_tree (by kernel_rfl)
theorem ziq(a:Value):argsOk "set_iterator.__next__" ⟨[a],[]⟩:=by
 unfold argsOk;rw[signature?_of (id:="set_iterator.__next__") (n:=['_','_','t','x','e','n','_','_']) (o:=['r','o','t','a','r','e','t','i','_','t','e','s']) (by kernel_rfl) zbG];kernel_rfl
theorem zhe:Slot "set_iterator" "__iter__" "set_iterator.__iter__":=
 .of (owner:="set_iterator") (n:="__iter__") (by rw[typeLookup_type,builtinLookup_eq_fast];kernel_rfl) (by decide +kernel) (by decide +kernel) (by decide +kernel)
  (by first|exact .inl (by decide +kernel)|exact .inr (by decide +kernel)) (by rw[isSubtype_type];kernel_rfl)
theorem zir(a:Value):argsOk "set_iterator.__iter__" ⟨[a],[]⟩:=by
 unfold argsOk;rw[signature?_of (id:="set_iterator.__iter__") (n:=['_','_','r','e','t','i','_','_']) (o:=['r','o','t','a','r','e','t','i','_','t','e','s']) (by kernel_rfl) zbG];kernel_rfl
theorem zg4:entryFor table "set_iterator.__iter__"=some Builtin.«dict_keyiterator.__iter__»:=
 entryFor_alias (id':="dict_keyiterator.__iter__") (by kernel_rfl) (by first|rfl|decide +kernel|(unfold String.splitOn;simp +decide [String.splitOnAux])) (by decide +kernel) (by kernel_rfl)
theorem zgS:entryFor table "set.__iter__"=some Builtin.«frozenset.__iter__»:=
 entryFor_alias (id':="frozenset.__iter__") (by kernel_rfl) (by first|rfl|decide +kernel|(unfold String.splitOn;simp +decide [String.splitOnAux])) (by decide +kernel) (by kernel_rfl)
end FS
def uN(h:Heap) (I:Addr) (f:Value) (i:Nat) (a:Addr) (n ep:Nat):Prop:=∃o,h.get? I=some o/\o.cls=.type "set_iterator"/\o.data=.fields #[f,.int i 0,.ref a,.int n 0,.int ep 0]
theorem uN.typeIs{s:Shared}{I:Addr}{f:Value}{i:Nat}{a:Addr}{n ep:Nat}(x:uN s.heap I f i a n ep):s.TypeIs (.ref I) "set_iterator":=let ⟨o,ho,hc,_⟩:=x;⟨o,ho,hc⟩
theorem uN.at{h h':Heap}{I:Addr}{f:Value}{i:Nat}{a:Addr}{n ep:Nat}(x:uN h I f i a n ep) (e:∀o,h.get? I=some o->h'.get? I=some o):uN h' I f i a n ep:=let ⟨o,ho,r⟩:=x;⟨o,e _ ho,r⟩
section
variable {P:Program}{w:World}{A:Around}{E:Value->Shared->Prop}{s:Shared}
theorem xj{a:Addr}{o:Obj}{es:Array (Int×Value)}{ep:Nat}{t:SetTable}{Q:Array (Int×Value)->Shared->Prop}
  (ho:s.heap.get? a=some o) (hd:o.data=.set es ep t) (hf:t.fits es.size=true) (h:Q es s) :
  wpAny (model P w) A (setEntries a) Q E s:=by
 unfold setEntries;exact wpAny_bind (wpAny_setState_of ho hd hf (wpAny_pure h))
end
end L2
namespace L2
open PySem PySem.Spec PyProof.Rows
section
variable {P:Program}{w:World}{A:Around}{E:Value->Shared->Prop}{s:Shared}
theorem jx{h:Heap}{I:Addr}{o:Obj}{vs:Array Value}(k:Nat) (x:Value) (ho:h.get? I=some o) (hd:o.data=.fields vs) :
  (h.update I (Obj.mapFields (·.setIfInBounds k x))).get? I=some (Obj.mapFields (·.setIfInBounds k x) o)/\(Obj.mapFields (·.setIfInBounds k x) o).data=.fields (vs.setIfInBounds k x)/\(Obj.mapFields (·.setIfInBounds k x) o).cls=o.cls:=
 ⟨Heap.get?_update_self _ ho (Obj.isFreed_of_fields (Obj.data_mapFields hd _)),Obj.data_mapFields hd _,Obj.cls_mapFields ..⟩
theorem zdy{I:Addr}{Q:Option Value->Shared->Prop}{h0:Heap}(hh:A.handled=none) (hQ:∀h',Heap.ExtBut I h0 h'->Q none { s with heap:=h' }) (hx:Heap.ExtBut I h0 s.heap) :
  wpAny (model P w) A.in1 (do let e <- newExc (.type "StopIteration") [];raiseNew e:Sem Fin) (fun fin s'=>∃v,fin=Fin.done (Flow.ret v)/\wpAny (model P w) A (pure (some v)) Q E s')
   (fun e s'=>wpAny (model P w) A (do let r <- isInstance e (Value.type "StopIteration");if r=true then pure none else throw e) Q E s') s:=by
 refine wpAny_bind ?_;simp only[newExc,newTuple];refine wpAny_bind (wpAny_newObj_type ?_ (by size_fits))
 refine wpAny_bind (m:=firstArgMember _ _) (wpAny_of_eq (a:=Value.none) (by first|rfl|(simp only[firstArgMember];rfl)) ?_)
 refine wpAny_newObj_type ?_ (by size_fits)
 simp only[raiseNew];refine wpAny_bind (wpAny_handled ?_);rw[show A.in1.handled=none from hh];refine wpAny_bind (wpAny_pure (wpAny_throw ?_));refine wpAny_bind (wpAny_isInstance (T:="StopIteration") (b:=true) ⟨_,Heap.get?_push_size _ rfl,rfl⟩ isSubtype_stop ?_);exact wpAny_pure (hQ _ ((hx.push _).push _))
theorem zhf{I:Addr}{a:Addr}{n ep i:Nat}{o:Obj}{es:Array (Int×Value)}{t:SetTable}{x:Value}{sl:Nat->Nat}{Q:Option Value->Shared->Prop}(hn:es.size=n)
  (hit:uN s.heap I (.int (sl i) 0) i a n ep) (ho:s.heap.get? a=some o) (hd:o.data=.set es ep t) (hf:t.fits es.size=true)
  (hN:∀(Q':Option (Value×Nat)->Shared->Prop) (E':Value->Shared->Prop),Q' (some (x,sl (i+1))) s->wpAny (model P w) A.in1 (setNext a (sl i) i ep) Q' E' s)
  (hQ:∀h',uN h' I (.int (sl (i+1)) 0) (i+1) a n ep->Heap.SameBut I s.heap h'->Q (some x) { s with heap:=h' }) :
  wpAny (model P w) A (pyNext (.ref I)) Q E s:=by
 obtain⟨ob,hob,hc,hdb⟩:=id hit;unfold pyNext;refine wpAny_bind (wpAny_attempt (wpAny_callSpecial?_slot (name:=Str.ofString "__next__") hit.typeIs FS.zhd
  (wpAny_call_entry FS.zhd hit.typeIs FS.zg3 ?_ (FS.ziq _))))
 unfold Builtin.«set_iterator.__next__»;show wpAny _ _ (fieldsOf (.ref I) >>= _) _ _ s;refine wpAny_bind (wpAny_fieldsOf hob hdb ?_);dsimp only;refine wpAny_bind (xj ho hd hf ?_);rw[if_neg (by rw[hn];simp)]
 simp only[toNat_natCast];refine wpAny_bind (hN _ _ ?_);dsimp only;refine wpAny_bind (wpAny_setField hob hdb (by simp) ?_)
 obtain⟨e1,e2,e3⟩:=jx 0 (rawInt (sl (i+1))) hob hdb;refine wpAny_bind (wpAny_setField e1 e2 (by simp) ?_)
 obtain⟨e4,e5,e6⟩:=jx 1 (rawInt ((i:Int)+1)) e1 e2;exact wpAny_pure ⟨x,rfl,wpAny_pure (hQ _ ⟨_,e4,e6.trans (e3.trans hc),by rw[e5];simp [rawInt]⟩ ((Heap.SameBut.update ..).trans (Heap.SameBut.update ..)))⟩
theorem zjc{I:Addr}{a:Addr}{n ep i:Nat}{o:Obj}{es:Array (Int×Value)}{t:SetTable}{sl:Nat->Nat}{Q:Option Value->Shared->Prop}(hh:A.handled=none) (hn:es.size=n)
  (hit:uN s.heap I (.int (sl i) 0) i a n ep) (ho:s.heap.get? a=some o) (hd:o.data=.set es ep t) (hf:t.fits es.size=true)
  (hN:∀(Q':Option (Value×Nat)->Shared->Prop) (E':Value->Shared->Prop),Q' none s->wpAny (model P w) A.in1 (setNext a (sl i) i ep) Q' E' s)
  (hQ:∀h',Heap.ExtBut I s.heap h'->Q none { s with heap:=h' }) :
  wpAny (model P w) A (pyNext (.ref I)) Q E s:=by
 obtain⟨ob,hob,hc,hdb⟩:=id hit;unfold pyNext;refine wpAny_bind (wpAny_attempt (wpAny_callSpecial?_slot (name:=Str.ofString "__next__") hit.typeIs FS.zhd
  (wpAny_call_entry FS.zhd hit.typeIs FS.zg3 ?_ (FS.ziq _))))
 unfold Builtin.«set_iterator.__next__»;show wpAny _ _ (fieldsOf (.ref I) >>= _) _ _ s;refine wpAny_bind (wpAny_fieldsOf hob hdb ?_);dsimp only;refine wpAny_bind (xj ho hd hf ?_);rw[if_neg (by rw[hn];simp)]
 simp only[toNat_natCast];refine wpAny_bind (hN _ _ ?_);dsimp only;refine wpAny_bind (wpAny_setField hob hdb (by simp) ?_)
 exact zdy hh hQ (Heap.SameBut.update ..).extBut
theorem zhj{I:Addr}{a tu:Addr}{n ep i j:Nat}{o ot:Obj}{es:Array (Int×Value)}{t:SetTable}{x:Value}{ps:Array Value}{pn:Nat}{hx:Int}{Q:Option Value->Shared->Prop}(hn:es.size=n)
  (hit:uN s.heap I (.ref tu) i a n ep) (ho:s.heap.get? a=some o) (hd:o.data=.set es ep t) (hf:t.fits es.size=true) (hot:s.heap.get? tu=some ot) (hdt:ot.data=.seq ps pn) (hp:ps[i]?=some (.int j 0)) (hj:es[j]?=some (hx,x))
  (hQ:∀h',uN h' I (.ref tu) (i+1) a n ep->Heap.SameBut I s.heap h'->Q (some x) { s with heap:=h' }) :
  wpAny (model P w) A (pyNext (.ref I)) Q E s:=by
 obtain⟨ob,hob,hc,hdb⟩:=id hit;unfold pyNext;refine wpAny_bind (wpAny_attempt (wpAny_callSpecial?_slot (name:=Str.ofString "__next__") hit.typeIs FS.zhd
  (wpAny_call_entry FS.zhd hit.typeIs FS.zg3 ?_ (FS.ziq _))))
 unfold Builtin.«set_iterator.__next__»;show wpAny _ _ (fieldsOf (.ref I) >>= _) _ _ s;refine wpAny_bind (wpAny_fieldsOf hob hdb ?_);dsimp only;refine wpAny_bind (xj ho hd hf ?_);rw[if_neg (by rw[hn];simp)]
 refine wpAny_bind (wpAny_seqItems hot hdt ?_);simp only[toNat_natCast,hp];unfold setNextDrawn;refine wpAny_bind (wpAny_bind (wpAny_setState_of ho hd hf ?_));dsimp only;rw[if_neg (by simp),hj]
 dsimp only;refine wpAny_pure ?_;refine wpAny_bind (wpAny_setField hob hdb (by simp) ?_)
 obtain⟨e1,e2,e3⟩:=jx 1 (rawInt ((i:Int)+1)) hob hdb;exact wpAny_pure ⟨x,rfl,wpAny_pure (hQ _ ⟨_,e1,e3.trans hc,by rw[e2];simp [rawInt]⟩ (Heap.SameBut.update ..))⟩
theorem zjd{I:Addr}{a tu:Addr}{n ep i:Nat}{o ot:Obj}{es:Array (Int×Value)}{t:SetTable}{ps:Array Value}{pn:Nat}{Q:Option Value->Shared->Prop}(hh:A.handled=none) (hn:es.size=n)
  (hit:uN s.heap I (.ref tu) i a n ep) (ho:s.heap.get? a=some o) (hd:o.data=.set es ep t) (hf:t.fits es.size=true) (hot:s.heap.get? tu=some ot) (hdt:ot.data=.seq ps pn) (hp:ps[i]?=none)
  (hQ:∀h',Heap.ExtBut I s.heap h'->Q none { s with heap:=h' }) :
  wpAny (model P w) A (pyNext (.ref I)) Q E s:=by
 obtain⟨ob,hob,hc,hdb⟩:=id hit;unfold pyNext;refine wpAny_bind (wpAny_attempt (wpAny_callSpecial?_slot (name:=Str.ofString "__next__") hit.typeIs FS.zhd
  (wpAny_call_entry FS.zhd hit.typeIs FS.zg3 ?_ (FS.ziq _))))
 unfold Builtin.«set_iterator.__next__»;show wpAny _ _ (fieldsOf (.ref I) >>= _) _ _ s;refine wpAny_bind (wpAny_fieldsOf hob hdb ?_);dsimp only;refine wpAny_bind (xj ho hd hf ?_);rw[if_neg (by rw[hn];simp)]
 refine wpAny_bind (wpAny_seqItems hot hdt ?_);simp only[toNat_natCast,hp];refine wpAny_bind (wpAny_setField hob hdb (by simp) ?_)
 obtain⟨e1,e2,e3⟩:=jx 0 (rawInt 0) hob hdb;refine wpAny_bind (wpAny_setField e1 e2 (by simp) ?_)
 exact zdy hh hQ ((Heap.SameBut.update ..).trans (Heap.SameBut.update ..)).extBut
theorem vO{Q:Bool->Shared->Prop}(h:Q (uL w) s):wpAny (model P w) A setsByText Q E s:=by
 unfold setsByText;refine wpAny_bind (wpAny_askSetting (wpAny_pure ?_));exact h
theorem zed{a:Addr}{o:Obj}{es:Array (Int×Value)}{ep i:Nat}{t:SetTable}(ho:s.heap.get? a=some o) (hd:o.data=.set es ep t) (hf:t.fits es.size=true) (hb:uL w=true) (Q:Option (Value×Nat)->Shared->Prop)
  (h:Q (((pickOrder (w.params.setOrder a ep) es)[i]?).map fun e=>(e.2,0)) s):wpAny (model P w) A (setNext a 0 i ep) Q E s:=by
 unfold setNext;refine wpAny_bind (wpAny_setState_of ho hd hf ?_);dsimp only;refine wpAny_bind (vO ?_);rw[if_pos hb,if_neg (by simp)]
 unfold setWalk;refine wpAny_bind (wpAny_bind (wpAny_setState_of ho hd hf ?_));dsimp only;refine wpAny_bind (vO ?_);rw[if_pos hb];refine wpAny_bind (wpAny_askSetting (wpAny_pure ?_));exact wpAny_pure h
theorem zee{a:Addr}{o:Obj}{es:Array (Int×Value)}{ep i sl:Nat}{t:SetTable}(ho:s.heap.get? a=some o) (hd:o.data=.set es ep t) (hf:t.fits es.size=true) (hb:uL w=false) (hl:t.led=true) (h1:es.size<=1) (Q:Option (Value×Nat)->Shared->Prop)
  (h:Q (match es[SetTable.below t.place sl]?,t.place[SetTable.below t.place sl]? with|some (_,x),some j=>some (x,j+1)|_,_=>none) s):wpAny (model P w) A (setNext a sl i ep) Q E s:=by
 unfold setNext;refine wpAny_bind (wpAny_setState_of ho hd hf ?_);dsimp only;refine wpAny_bind (vO ?_);rw[if_neg (by rw[hb];decide)]
 show wpAny _ _ (if (!t.plain&&decide (es.size>1))=true then _ else _) _ _ _
 rw[if_neg (by simp;omega)]
 show wpAny _ _ ((if (!t.led&&!es.isEmpty)=true then unsupported "set:maker-not-led" else pure ()) >>= _) _ _ _
 rw[if_neg (by simp [hl])]
 exact wpAny_bind (wpAny_pure (wpAny_pure h))
theorem zdz{I:Addr}{f:Value}{i:Nat}{a:Addr}{n ep:Nat}{Q:Value->Shared->Prop}(hit:uN s.heap I f i a n ep) (h:Q (.ref I) s):wpAny (model P w) A (pyIter (.ref I)) Q E s:=by
 refine wpAny_pyIter_slot hit.typeIs FS.zhe (wpAny_call_entry FS.zhe hit.typeIs FS.zg4 ?_ (FS.zir _));show wpAny _ _ (ret (.ref I)) _ _ s;exact wpAny_pure ⟨_,rfl,"set_iterator",_,hit.typeIs,FS.zhd.lookup,h⟩
theorem zbf(hh:A.handled=none) {I a:Addr}(hne:a≠I) {o:Obj}{es:Array (Int×Value)}{ep:Nat}{t:SetTable}(hd:o.data=.set es ep t) (hf:t.fits es.size=true) (vs:List Value) (hvs:vs.length=es.size) (sl:Nat->Nat)
  (hN:∀(i:Nat) (s:Shared) (Q':Option (Value×Nat)->Shared->Prop) (E':Value->Shared->Prop),i<=vs.length->s.heap.get? a=some o->Q' ((vs[i]?).map fun v=>(v,sl (i+1))) s->wpAny (model P w) A.in1 (setNext a (sl i) i ep) Q' E' s) :
  Walks P w A I [I,a] [I] vs.length (fun i v=>vs[i]?=some v) (fun i h=>i<=vs.length/\uN h I (.int (sl i) 0) i a es.size ep/\h.get? a=some o) where
 sub:=fun b hb=>by simp at hb;simp [hb]
 frame:=fun _ _ _ st hk=>⟨st.1,st.2.1.at fun o e=>hk I (by simp) o e,hk a (by simp) o st.2.2⟩
 item:=fun i s Q E hi st hQ=>by
  refine zhf (x:=vs[i]) rfl st.2.1 st.2.2 hd hf (fun Q' E' q=>hN i s Q' E' (le_of_lt hi) st.2.2 (by rw[getElem?_eq_getElem hi];exact q)) fun h' hit' hs'=>?_
  exact hQ _ h' s.toks (getElem?_eq_getElem hi) ⟨hi,hit',hs'.extBut a o hne st.2.2⟩ fun b o hb e=>hs'.extBut b o (fun h=>hb (by simp [h])) e
 done:=fun s Q E st hQ=>zjc hh rfl st.2.1 st.2.2 hd hf (fun Q' E' q=>hN _ s Q' E' (Nat.le_refl _) st.2.2 (by rw[getElem?_eq_none (Nat.le_refl _)];exact q)) fun h' he'=>hQ h' s.toks fun b o hb e=>he' b o (fun h=>hb (by simp [h])) e
 self:=fun _ _ _ _ st hQ=>zdz st.2.1 hQ
theorem zeZ(hh:A.handled=none) {I a tu:Addr}(hne:a≠I) (hnt:tu≠I) {o ot:Obj}{es:Array (Int×Value)}{ep pn:Nat}{t:SetTable}(hd:o.data=.set es ep t) (hf:t.fits es.size=true) (ys:List Nat) (hdt:ot.data=.seq (ys.map fun (i:Nat)=>rawInt i).toArray pn) (hy:∀j∈ys,j<es.size) :
  Walks P w A I [I,a,tu] [I] (ys.map fun j=>(es.getD j (0,.none)).2).length (fun i v=>(ys.map fun j=>(es.getD j (0,.none)).2)[i]?=some v) (fun i h=>uN h I (.ref tu) i a es.size ep/\h.get? a=some o/\h.get? tu=some ot) where
 sub:=fun b hb=>by simp at hb;simp [hb]
 frame:=fun _ _ _ st hk=>⟨st.1.at fun o e=>hk I (by simp) o e,hk a (by simp) o st.2.1,hk tu (by simp) ot st.2.2⟩
 item:=fun i s Q E hi st hQ=>by
  have hi':i<ys.length:=by simpa using hi
  have hj:ys[i]<es.size:=hy _ (getElem_mem hi');have e1:es[ys[i]]?=some (es[ys[i]].1,es[ys[i]].2):=Array.getElem?_eq_getElem hj;refine zhj (x:=es[ys[i]].2) (j:=ys[i]) rfl st.1 st.2.1 hd hf st.2.2 hdt (by simp [hi',rawInt]) e1 fun h' hit' hs'=>?_
  refine hQ _ h' s.toks ?_ ⟨hit',hs'.extBut a o hne st.2.1,hs'.extBut tu ot hnt st.2.2⟩ fun b o hb e=>hs'.extBut b o (fun h=>hb (by simp [h])) e
  rw[getElem?_map,getElem?_eq_getElem hi'];simp [Array.getD,hj]
 done:=fun s Q E st hQ=>zjd hh rfl st.1 st.2.1 hd hf st.2.2 hdt (by simp) fun h' he'=>hQ h' s.toks fun b o hb e=>he' b o (fun h=>hb (by simp [h])) e
 self:=fun _ _ _ _ st hQ=>zdz st.1 hQ
theorem zbD{A':Around}{a:Addr}{S:Str->Bool}{n:Nat}{Q:Value->Shared->Prop}(hh:A'.handled=none) (hS:vt P w s.heap a S n)
  (hQ:∀(I:Addr) (fp:List Addr) (vs:List Value) (zs:List Str) (St:Nat->Heap->Prop) (h':Heap) (d:Drawn),(∀b o,s.heap.get? b=some o->h'.get? b=some o)->(∀b∈fp,b=a\/s.heap.objs.size<=b)->s.heap.objs.size<=I->
   Walks P w A' I fp [I] vs.length (fun i v=>vs[i]?=some v) St->St 0 h'->(∀i h,St i h->∃o,h.get? I=some o/\o.cls=.type "set_iterator")->StrsAre vs zs->zs.Nodup->(∀z,z∈zs ↔ S z=true)->vs.length=n->Q (.ref I) { s with heap:=h',drawn:=d }) :
  wpAny (model P w) A (pyIter (.ref a)) Q E s:=by
 obtain⟨o,es,ep,t,ho,hex,hd,hel,hmem,hb,hf,hn,hnd,hld,hpl⟩:=hS;have hT:s.TypeIs (.ref a) "set":=⟨o,ho,hex.1⟩;have key:∀(l:List (Int×Value)),l.Perm es.toList->∃zs:List Str,StrsAre (l.map (·.2)) zs/\zs.Nodup/\∀z,z∈zs ↔ S z=true:=by
  intro l hp;refine⟨l.map fun e=>jf e.2,?_,(hp.map _).nodup_iff.mpr hnd,fun z=>?_⟩
  ·have:∀(l:List (Int×Value)),(∀e∈l,e∈es.toList)->StrsAre (l.map (·.2)) (l.map fun e=>jf e.2):=by
    intro l;induction l with
    | nil=>intro _;exact .nil
    | cons e r ih=>
     intro h;obtain⟨⟨k,hk,_⟩,_⟩:=hel e (h e mem_cons_self);obtain⟨tk,e2⟩:=Value.isStrOf_shape hk;rw[map_cons,map_cons,e2];exact .cons _ _ (ih fun x hx=>h x (mem_cons_of_mem _ hx))
   exact this l fun e he=>hp.mem_iff.mp he
  ·rw[hmem z]
   constructor
   ·intro h
    obtain⟨e,he,e1⟩:=List.mem_map.mp h;obtain⟨⟨k,hk,_⟩,_⟩:=hel e (hp.mem_iff.mp he);obtain⟨tk,e2⟩:=Value.isStrOf_shape hk;rw[e2] at e1;have e1:k=z:=e1;exact⟨e,hp.mem_iff.mp he,by rw[<- e1];exact hk⟩
   ·rintro⟨e,he,hk⟩
    obtain⟨tk,e2⟩:=Value.isStrOf_shape hk;refine List.mem_map.mpr ⟨e,hp.mem_iff.mpr he,?_⟩;rw[e2];rfl
 have hlt:a<s.heap.objs.size:=Heap.lt_size ho;refine wpAny_pyIter_slot hT PySem.F.slot_set_iter (wpAny_call_entry PySem.F.slot_set_iter hT FS.zgS ?_ (PySem.F.args_set_iter_1 _));unfold Builtin.«frozenset.__iter__»;show wpAny _ _ (Builtin.Frozenset.sizeOf a >>= _) _ _ s;unfold Builtin.Frozenset.sizeOf;refine wpAny_bind (wpAny_bind (xj ho hd hf (wpAny_pure ?_)));unfold setDrawn;refine wpAny_bind (wpAny_bind (wpAny_setState_of ho hd hf ?_));dsimp only;refine wpAny_bind (vO (wpAny_pure ?_));show wpAny _ _ (if (!uL w&&(!t.plain&&decide (es.size>1)))=true then _ else _) _ _ _
 by_cases hD:(!uL w&&(!t.plain&&decide (es.size>1)))=true
 ·rw[if_pos hD]
  refine wpAny_bind (vW _ _ length_range fun ys d hp=>?_);have hy:∀j∈ys,j<es.size:=fun j hj=>List.mem_range.mp (hp.mem_iff.mp hj);have hyl:ys.length=es.size:=by rw[hp.length_eq,length_range]
  refine wpAny_bind (wpAny_newTuple ?_ (by rw[length_map,hyl];exact fits_of_scanBound hb))
  have ho1:=fun x:Obj=>Heap.get?_push_of_some x ho;refine wpAny_bind (wpAny_setEpoch_of (ho1 _) hd hf ?_);refine wpAny_bind (wpAny_newObj_type (wpAny_pure ⟨_,rfl,"set_iterator",_,⟨_,Heap.get?_push_size _ rfl,rfl⟩,FS.zhd.lookup,?_⟩));have hz:∀x:Obj,(s.heap.push x).objs.size=s.heap.objs.size+1:=fun x=>Heap.size_push ..;obtain⟨zs,k1,k2,k3⟩:=key (ys.map fun j=>es.getD j (0,.none)) (by
   have e1:(List.range es.size).map (fun j=>es.getD j (0,.none))=es.toList:=by
    refine List.ext_getElem (by simp) fun i h1 h2=>?_
    have:i<es.size:=by simpa using h2
    simp [Array.getD,this]
   exact e1 ▸ hp.map _)
  rw[map_map] at k1;refine hQ _ _ _ zs _ _ d (fun b o e=>Heap.get?_push_of_some _ (Heap.get?_push_of_some _ e)) ?_ (by dsimp only;rw[hz];exact le_succ _) (zeZ hh (a:=a) (tu:=s.heap.objs.size) (o:=o) (es:=es) (ep:=ep) (t:=t) ?_ ?_ hd hf ys (pn:=0) rfl hy) ⟨⟨_,Heap.get?_push_size _ rfl,rfl,rfl⟩,Heap.get?_push_of_some _ (ho1 _),Heap.get?_push_of_some _ (Heap.get?_push_size _ rfl)⟩ (fun i h st=>?_) k1 k2 k3 (by rw[length_map,hyl,hn])
  ·intro b hb'
   dsimp only at hb';rw[hz] at hb';rcases List.mem_cons.mp hb' with e|hb'
   ·exact .inr (by rw[e];exact le_succ _)
   ·rcases List.mem_cons.mp hb' with e|hb'
    ·exact .inl e
    ·exact .inr (by rw[List.mem_singleton.mp hb'];exact Nat.le_refl _)
  ·dsimp only
   rw[hz];exact ne_of_lt (lt_succ_of_lt hlt)
  ·dsimp only
   rw[hz];exact ne_of_lt (lt_succ_self _)
  ·obtain⟨o',e1,e2,_⟩:=st.1
   exact⟨o',e1,e2⟩
 ·rw[if_neg hD]
  refine wpAny_bind (wpAny_pure ?_);refine wpAny_bind (wpAny_setEpoch_of ho hd hf ?_);refine wpAny_bind (wpAny_newObj_type (wpAny_pure ⟨_,rfl,"set_iterator",_,⟨_,Heap.get?_push_size _ rfl,rfl⟩,FS.zhd.lookup,?_⟩));have hne:a≠s.heap.objs.size:=ne_of_lt hlt;have fpk:∀b∈[s.heap.objs.size,a],b=a\/s.heap.objs.size<=b:=by
   intro b hb';rcases List.mem_cons.mp hb' with e|hb'
   ·exact .inr (by rw[e];exact Nat.le_refl _)
   ·exact .inl (List.mem_singleton.mp hb')
  by_cases hbt:uL w=true
  ·obtain⟨zs,k1,k2,k3⟩:=key (pickOrder (w.params.setOrder a ep) es).toList (qS _ _)
   have hl:((pickOrder (w.params.setOrder a ep) es).toList.map (·.2)).length=es.size:=by rw[length_map,(qS _ _).length_eq];rfl
   refine hQ _ _ _ zs _ _ s.drawn (fun b o e=>Heap.get?_push_of_some _ e) fpk (Nat.le_refl _) (zbf hh hne hd hf _ hl (fun _=>0) fun i s' Q' E' hi ho' q=>zed ho' hd hf hbt Q' ?_) ⟨zero_le _,⟨_,Heap.get?_push_size _ rfl,rfl,rfl⟩,Heap.get?_push_of_some _ ho⟩ (fun i h st=>?_) k1 k2 k3 (by rw[hl,hn])
   ·rw[getElem?_map] at q
    rw[<- Array.getElem?_toList];cases hq:(pickOrder (w.params.setOrder a ep) es).toList[i]? with
    | none=>rw[hq] at q;exact q
    | some e=>rw[hq] at q;exact q
   ·obtain⟨o',e1,e2,_⟩:=st.2.1
    exact⟨o',e1,e2⟩
  ·have hbf:uL w=false:=by simpa using hbt
   have hled:t.led=true:=hld.resolve_left hbt;have h1:es.size<=1:=by
    rcases lt_or_ge 1 es.size with h|h
    ·exfalso
     refine hD ?_;have hp0:t.plain=false:=by
      cases hp0:t.plain with
      | false=>rfl
      | true=>have:=hpl hp0;omega
     simp [hbf,hp0,h]
    ·exact h
   obtain⟨zs,k1,k2,k3⟩:=key es.toList (List.Perm.refl _);have hps:t.place.size=es.size:=by
    simp only[SetTable.fits,Bool.and_eq_true,beq_iff_eq,decide_eq_true_eq] at hf;exact hf.1
   refine hQ _ _ _ zs _ _ s.drawn (fun b o e=>Heap.get?_push_of_some _ e) fpk (Nat.le_refl _) (zbf hh hne hd hf (es.toList.map (·.2)) (by simp) (fun i=>if i=0 then 0 else t.place.getD 0 0+1) fun i s' Q' E' hi ho' q=>zee ho' hd hf hbf hled h1 Q' ?_) ⟨zero_le _,⟨_,Heap.get?_push_size _ rfl,rfl,rfl⟩,Heap.get?_push_of_some _ ho⟩ (fun i h st=>?_) k1 k2 k3 (by simp [hn])
   ·clear hQ key hel hmem hnd k1 k2 k3
    obtain⟨mask,place,dm,fi,led,mv,pl⟩:=t;dsimp only at hps q |-;rcases lt_or_ge 0 es.size with h0|h0
    ·have hes:es.size=1:=by omega
     obtain⟨e0,rfl⟩:∃e0,es=#[e0]:=Array.size_eq_one_iff.mp hes;obtain⟨p0,rfl⟩:∃p0,place=#[p0]:=Array.size_eq_one_iff.mp (by rw[hps,hes])
     have hi:i<=1:=by simpa using hi
     rcases lt_or_ge i 1 with h2|h2
     ·have:i=0:=by omega
      subst this;have hbel:SetTable.below #[p0] 0=0:=by
       simp [SetTable.below,SetTable.below.go]
      simpa [hbel] using q
     ·have:i=1:=by omega
      subst this;have hbel:SetTable.below #[p0] (p0+1)=1:=by
       simp [SetTable.below,SetTable.below.go]
      simpa [hbel] using q
    ·have hes:es.size=0:=by omega
     have:es=#[]:=Array.size_eq_zero_iff.mp hes
     subst this;simpa using q
   ·obtain⟨o',e1,e2,_⟩:=st.2.1
    exact⟨o',e1,e2⟩
end
theorem zeC:typeLookup (.type "list_reverseiterator") "__len__"=pure none:=by rw[typeLookup_type,builtinLookup_eq_fast];kernel_rfl
theorem zgF:typeLookup (.type "list_reverseiterator") "__length_hint__"=pure (some (.builtin "list_reverseiterator.__length_hint__")):=by rw[typeLookup_type,builtinLookup_eq_fast];kernel_rfl
section
variable {prog:Program}{w:World}{A:Around}{E:Value->Shared->Prop}{s:Shared}
theorem zdb{R:Result->Shared->Prop}{I l S:Addr}{items:Array Value}(hh:A.handled=none) (hit:s.heap.IsRevIter I l ((items.size:Int) - 1)) (hl:s.heap.IsList l items) (hlI:l≠I) (hn:items.size<=sizeLine) (hSI:S≠I) (hSl:S≠l) (res:Value) (c₀:Nat) (hS:s.heap.get? S=some { cls:=.type "list",data:=.seq #[] c₀ })
  (hR:∀h' tk acc' c',(∀b o,b≠S->b≠I->s.heap.get? b=some o->h'.get? b=some o)->h'.get? S=some { cls:=.type "list",dict:=none,data:=.seq acc' c',slots:=#[] }->
   ItemsOf (fun i v=>items[items.size - 1 - i]?=some v) acc' items.size->R (.ok (.ret res)) { s with heap:=h',toks:=tk }) :
  wpAny (model prog w) A.in1 (Builtin.List.listExtendWith (.ref S) (.ref I) res)
   (fun fin s'=>match fin with|.done f=>R (.ok f) s'|.again c'=>c'.quiet=true/\codeAny (model prog w) A c' R s') (fun e s'=>R (.error e) s') s:=by
 have W:=(Walks.listRev (prog:=prog) (w:=w) (A:=A.in1) hh I l hlI items).toS;have hT:s.TypeIs (.ref I) "list_reverseiterator":=hit.typeIs;have hSf:S∉[I,l]:=fun hm=>by
  rcases List.mem_cons.mp hm with e|hm
  ·exact hSI e
  ·exact hSl (List.mem_singleton.mp hm)
 have h1:Builtin.List.listSameRef (.ref S) (.ref I)=false:=by simp [Builtin.List.listSameRef,hSI]
 have hst:(0:Nat)<=items.size/\s.heap.IsRevIter I l ((items.size:Int) - 1 - ((0:Nat):Int))/\s.heap.IsList l items:=⟨zero_le _,by simpa using hit,hl⟩
 unfold Builtin.List.listExtendWith;refine wpAny_bind (wpAny_typeOf hT ?_);rw[if_neg (by rw[h1];decide)]
 refine wpAny_bind (wpAny_pyIter_revIter hit ?_);refine wpAny_bind (wpAny_holding ?_);unfold Builtin.List.listLengthHint;refine wpAny_bind (wpAny_specialOf hT zeC ?_);show wpAny _ A.in1 (specialOf (Value.ref I) (Str.ofString "__length_hint__") >>= _) _ _ _;refine wpAny_bind (wpAny_specialOf hT zgF ?_);generalize hid:("list_reverseiterator.__length_hint__" : String)=id0
 wp_delta
 rw[show splitId id0=some ("list_reverseiterator","__length_hint__") from by subst hid;decide +kernel]
 subst hid;refine wpAny_bind (wpAny_isInstance (b:=true) hT (by rw[isSubtype_type];kernel_rfl) ?_)
 refine wpAny_pure ?_;rw[if_neg (by decide)]
 refine wpAny_pure ⟨plainId_quiet F.plain_extend_loop _,codeAny_extend_loopS W hn S hSf res items.size 0 _ #[] c₀ rfl (zero_le _) hst hS (ItemsOf.nil _) fun s' acc' c' hm hS' hacc=>?_⟩;rw[Moved.eq_with hm];refine hR s'.heap s'.toks acc' c' (fun b o hb hbI e=>hm.heap b o (fun hmem=>?_) e) hS' hacc;rcases List.mem_cons.mp hmem with e'|hmem
 ·exact hb e'
 ·exact hbI (List.mem_singleton.mp hmem)
theorem qA{Q:Value->Shared->Prop}{I l:Addr}{items:Array Value}(hh:A.handled=none) (hit:s.heap.IsRevIter I l ((items.size:Int) - 1)) (hl:s.heap.IsList l items) (hlI:l≠I) (hn:items.size<=sizeLine)
  (hQ:∀h' tk acc' c',(∀b o,b≠I->s.heap.get? b=some o->h'.get? b=some o)->
   h'.get? s.heap.objs.size=some { cls:=.type "list",dict:=none,data:=.seq acc' c',slots:=#[] }->ItemsOf (fun i v=>items[items.size - 1 - i]?=some v) acc' items.size->Q (.ref s.heap.objs.size) { s with heap:=h',toks:=tk }) :
  wpAny (model prog w) A (call (.type "list") [.ref I]) Q E s:=by
 have hI:I<s.heap.objs.size:=by obtain⟨o,e,_⟩:=hit;exact Heap.lt_size e
 have hL:l<s.heap.objs.size:=by obtain⟨_,e,_⟩:=hl;exact Heap.lt_size e
 refine callType_codes (Q₁:=fun obj s₁=>obj=.ref s.heap.objs.size/\s₁={ s with heap:=s.heap.push { cls:=.type "list",data:=.seq #[] } }) F.called_list (F.typeCall_list_1 _) F.entry_list_init
  (code_list_new _ ⟨rfl,rfl⟩) fun obj s₁ h₁=>?_
 obtain⟨rfl,rfl⟩:=h₁;have hS:(s.heap.push { cls:=.type "list",data:=.seq #[] }).get? s.heap.objs.size=some { cls:=.type "list",data:=.seq #[] }:=Heap.get?_push_size _ rfl;refine⟨⟨_,hS,rfl⟩,F.args_list_init_2 _ _,?_⟩;have hIS:I≠s.heap.objs.size:=ne_of_lt hI;have hLS:l≠s.heap.objs.size:=ne_of_lt hL;have hbS:∀b o,s.heap.get? b=some o->b≠s.heap.objs.size:=fun b o e=>ne_of_lt (Heap.lt_size e);generalize hS0:s.heap.objs.size=S at hS hIS hLS hbS hQ |-;have hit1:(s.heap.push { cls:=.type "list",data:=.seq #[] }).IsRevIter I l ((items.size:Int) - 1):=hit.at fun o e=>Heap.get?_push_of_some _ e;have hl1:=hl.push { cls:=.type "list",data:=.seq #[] };have old:∀b o,s.heap.get? b=some o->(s.heap.push { cls:=.type "list",data:=.seq #[] }).get? b=some o:=fun b o e=>Heap.get?_push_of_some _ e;generalize s.heap.push { cls:=.type "list",data:=.seq #[] }=hp1 at hS hit1 hl1 old |-;show wpAny _ _ (do let old <- Builtin.List.listItems (.ref S);Builtin.List.listUpdate (.ref S) (fun _=>#[]);letGo old.toList.reverse;Builtin.List.listExtendWith (.ref S) (.ref I) .none) _ _ _
 refine wpAny_bind ?_;unfold Builtin.List.listItems;refine wpAny_bind (wpAny_seqItems hS rfl (wpAny_pure ?_));show wpAny _ _ (updateSeq S (fun _=>#[]) >>= fun _=>letGo (#[]:Array Value).toList.reverse >>= fun _=>Builtin.List.listExtendWith (.ref S) (.ref I) .none) _ _ _;refine wpAny_bind (wpAny_updateSeq hS rfl ?_);have hS₂:=Heap.get?_update_self (Obj.mapSeq (fun _=>(#[]:Array Value))) hS rfl;have oth:∀b o,b≠S->hp1.get? b=some o->(hp1.update S (Obj.mapSeq (fun _=>(#[]:Array Value)))).get? b=some o:=
  fun b o hb e=>(Heap.get?_update_other _ _ (Ne.symm hb)).trans e
 refine wpAny_bind (wpAny_letGo ?_);refine zdb (A:=A.in1) hh (hit1.at fun o e=>oth I o hIS e) (hl1.at fun o e=>oth l o hLS e) hlI hn (Ne.symm hIS) (Ne.symm hLS) .none _ hS₂ fun h' tk acc' c' hk hS' hacc=>?_;exact⟨rfl,hQ h' tk acc' c' (fun b o hb e=>hk b o (hbS b o e) hb (oth b o (hbS b o e) (old b o e))) hS' hacc⟩
end
section
variable {X:Cx}
def tLR(K:Frag) (ta:TA):TE:=fun σ H Q=>ta σ H fun vs H1=>∃(q:Addr) (ys:List V),vs=[.ref q]/\SqL K H1 q ys/\ys.length<=1000/\∀l,H1 l=none->Q (.ref l) (upd H1 l (.lst ys.reverse))
theorem jZ{a:Expr}{ta:TA}{p p2 pos pos2:Pos}(hc:X.calm=true) (hg:Gl X "list") (hm:X.mg "list"=none) (hg2:Gl X "reversed") (hm2:X.mg "reversed"=none) (ha:PA X [a] ta) (h1:vn a=false:=by rfl) :
  PE X (.Call (.Name "list" p) [.Call (.Name "reversed" p2) [a] [] pos2] [] pos) (tLR X.K ta):=by
 refine⟨?_⟩;intro pins s σ H Q I h;refine Call_ (ww I hg hm PyProof.Rows.boot_list (PyProof.Rows.callWith_type1 ?_ (yF rfl) rfl));rw[yF (show vn (.Call (.Name "reversed" p2) [a] [] pos2)=false from rfl)];show wpAny _ _ (spliced ((false,eval (.Call (.Name "reversed" p2) [a] [] pos2) X.env)::backTo pos (starEach [] X.env))) _ _ s;refine Calls.spliced_cons ?_;refine Call_ (ww I hg2 hm2 zg0 (PyProof.Rows.callWith_type1 (thn (ha pos2 pins s σ H _ I h) fun us s1 ⟨vs,H1,I1,r1,q,ys,e,hS,hn,k⟩=>?_) (yF h1) rfl));subst e;cases r1 with
 | cons r rr=>
  cases rr;cases r;obtain⟨its,rv,hp,hz⟩:=I1.list hS;have hlen:its.length=ys.length:=rv.length.symm;have hq:q<s1.heap.objs.size:=by obtain⟨_,e,_⟩:=hp.isList;exact Heap.lt_size e
  refine call_reversed_list hp.isList (Calls.spliced_nil ?_);have hsz:its.toArray.size=its.length:=size_toArray;have hqn:q≠s1.heap.objs.size:=ne_of_lt hq;have hit:(s1.heap.push (revObj q ((its.toArray.size:Int) - 1))).IsRevIter s1.heap.objs.size q ((its.toArray.size:Int) - 1):=⟨_,Heap.get?_push_size _ rfl,rfl,rfl⟩;have hl1:=hp.isList.push (revObj q ((its.toArray.size:Int) - 1));have old:∀b o,s1.heap.get? b=some o->(s1.heap.push (revObj q ((its.toArray.size:Int) - 1))).get? b=some o:=fun b o e=>Heap.get?_push_of_some _ e;have hs:(s1.heap.push (revObj q ((its.toArray.size:Int) - 1))).objs.size=s1.heap.objs.size+1:=Heap.size_push _ _;generalize s1.heap.push (revObj q ((its.toArray.size:Int) - 1))=hp1 at hit hl1 old hs |-;refine qA (s:={ s1 with heap:=hp1 }) (I1.ok.hd hc) hit hl1 hqn (by rw[hsz,hlen];exact Nat.le_trans hn (by decide)) fun h' tk acc c' hk he hacc=>?_
  have hrv:acc.toList=its.reverse:=by
   refine List.ext_getElem? fun i=>?_;have hal:acc.toList.length=its.length:=by rw[Array.length_toList,hacc.1,hsz]
   by_cases hi:i<its.length
   ·have hia:i<acc.toList.length:=by omega
    rw[getElem?_eq_getElem hia,List.getElem?_reverse hi];have h2:=hacc.2 i acc.toList[i] (by rw[<- Array.getElem?_toList];exact getElem?_eq_getElem hia)
    have h3:its[its.length - 1 - i]?=some acc.toList[i]:=by
     rw[hsz] at h2;simpa using h2
    exact h3.symm
   ·rw[getElem?_eq_none (by omega),getElem?_eq_none (by rw[length_reverse];omega)]
  refine⟨.ref hp1.objs.size,_,I1.laid (t':=tk) (o:=.lst ys.reverse) (fun b o e=>hk b o (ne_of_lt (Heap.lt_size e)) (old b o e)) (by rw[hs];exact le_succ _) ⟨?_,acc.toList,c',by rw[hrv];exact rv.rev,by simpa using he⟩,rfl,k _ (I1.hok.fresh (by rw[hs];exact le_succ _))⟩
  rw[length_reverse];exact Nat.le_trans hn (by decide)
end
section
variable {P:Program}{w:World}{A:Around}{E:Value->Shared->Prop}{s:Shared}
theorem jB{M:Model}{α : Type}{c:Prop}[Decidable c] {x y:Sem α}{Q : α->Shared->Prop}(hc:c) (h:wpAny M A x Q E s):wpAny M A (if c then x else y) Q E s:=by
 rw[if_pos hc];exact h
theorem za9{a:Addr}{S:Str->Bool}{n:Nat}{Q:List Value->Shared->Prop}(hh:A.handled=none) (hS:vt P w s.heap a S n) (hn:n<=1000)
  (hQ:∀(vs:List Value) (zs:List Str) (h':Heap) (d:Drawn) (tk:Nat),s.heap.objs.size<=h'.objs.size->(∀b o,s.heap.get? b=some o->h'.get? b=some o)->StrsAre vs zs->zs.Nodup->(∀z,z∈zs ↔ S z=true)->vs.length=n->Q vs { s with heap:=h',drawn:=d,toks:=tk }) :
  wpAny (model P w) A (collect (.ref a)) Q E s:=by
 obtain⟨o,es,ep,t,ho,hex,hr⟩:=id hS;have hlt:a<s.heap.objs.size:=Heap.lt_size ho;have hSI:s.heap.objs.size≠a:=ne_of_gt hlt;unfold collect;refine wpAny_bind (wpAny_runValue (codeAny_builtin PySem.F.entry_proto_collect ?_));rw[Around.under_plainId PySem.F.plain_proto_collect _];show wpAny _ A.in1 (newList [] >>= fun l=>again (.builtin "list.__iadd__" ⟨[l,.ref a],[]⟩)) _ _ s;refine wpAny_bind (wpAny_newObj_type ?_);refine wpAny_pure ⟨plainId_quiet PySem.F.plain_list_iadd _,codeAny_builtin PySem.F.entry_list_iadd ?_⟩;rw[Around.under_plainId PySem.F.plain_list_iadd _];have hS1:vt P w (s.heap.push { cls:=.type "list",data:=.seq ([]:List Value).toArray }) a S n:=⟨o,es,ep,t,Heap.get?_push_of_some _ ho,hex,hr⟩;have hz1:(s.heap.push { cls:=.type "list",data:=.seq ([]:List Value).toArray }).objs.size=s.heap.objs.size+1:=Heap.size_push ..;have hS₁:(s.heap.push { cls:=.type "list",data:=.seq ([]:List Value).toArray }).get? s.heap.objs.size=some { cls:=.type "list",data:=.seq ([]:List Value).toArray }:=Heap.get?_push_size _ rfl;have old:∀b o,s.heap.get? b=some o->(s.heap.push { cls:=.type "list",data:=.seq ([]:List Value).toArray }).get? b=some o:=fun b o e=>Heap.get?_push_of_some _ e;have hbS:∀b o,s.heap.get? b=some o->b≠s.heap.objs.size:=fun b o e=>ne_of_lt (Heap.lt_size e);show wpAny _ A.in1 (Builtin.List.listExtendWith (.ref s.heap.objs.size) (.ref a) (.ref s.heap.objs.size)) _ _ _;generalize s.heap.push { cls:=.type "list",data:=.seq ([]:List Value).toArray }=hp1 at hS1 hz1 hS₁ old |-;have hT:Shared.TypeIs { s with heap:=hp1 } (.ref a) "set":=by
  obtain⟨o,_,_,_,ho,hex,_⟩:=hS1;exact⟨o,ho,hex.1⟩
 unfold Builtin.List.listExtendWith;refine wpAny_bind (wpAny_typeOf hT ?_);have h1:Builtin.List.listSameRef (.ref s.heap.objs.size) (.ref a)=false:=by simp [Builtin.List.listSameRef,hSI]
 have h2:(Value.type "set"==Value.type "list")=false:=by decide
 have h3:(Value.type "set"==Value.type "tuple")=false:=by decide
 simp only[h1,h2,h3,Bool.or_false,Bool.false_eq_true,if_false];refine wpAny_bind (zbD (s:={ s with heap:=hp1 }) (A':=A.in1) hh hS1 fun I fp vs zs St h2 d k2 kf kI W hst hTI hzs hnd hmem hlen=>?_)
 have hT2:Shared.TypeIs { s with heap:=h2,drawn:=d } (.ref a) "set":=by
  obtain⟨o,_,_,_,ho,hex,_⟩:=hS1;exact⟨o,k2 _ _ ho,hex.1⟩
 refine wpAny_bind (wpAny_holding ?_);unfold Builtin.List.listLengthHint;refine wpAny_bind (wpAny_specialOf hT2 PySem.F.slot_set_len.lookup ?_);dsimp only;rw[show splitId "set.__len__"=some ("set","__len__") from by decide +kernel]
 show wpAny _ _ (isInstance (.ref a) (.type "set") >>= _) _ _ _;refine wpAny_bind (wpAny_isInstance (b:=true) hT2 (by rw[isSubtype_type];kernel_rfl) ?_)
 rw[if_neg (show ¬((!true)=true) by decide)]
 refine jB (by decide +kernel) ?_
 refine wpAny_bind (wpAny_typeOf hT2 (wpAny_pure ?_));refine jB (by decide +kernel) ?_
 refine wpAny_bind (wpAny_rule ?_);have hS₁':=k2 _ _ hS₁;have hI:I≠s.heap.objs.size:=fun e=>by
  rw[e] at kI;dsimp only at kI;rw[hz1] at kI;exact Nat.not_succ_le_self _ kI
 have hSf:s.heap.objs.size∉fp:=fun hm=>by
  rcases kf _ hm with e|e
  ·exact hSI e
  ·dsimp only at e
   rw[hz1] at e;exact Nat.not_succ_le_self _ e
 refine wpAny_bind ?_;show wpAny _ A.in1 (updateSeq s.heap.objs.size (·.push .none) >>= fun _=>updateSeq s.heap.objs.size (·.pop)) _ _ _;refine wpAny_bind (wpAny_updateSeq hS₁' rfl ?_);have hS₂:=Heap.get?_update_self (Obj.mapSeq (·.push Value.none)) hS₁' rfl;refine wpAny_updateSeq hS₂ rfl ?_;have hS₃:=Heap.get?_update_self (Obj.mapSeq (·.pop)) hS₂ rfl;have oth:∀b o,b≠s.heap.objs.size->h2.get? b=some o->((h2.update s.heap.objs.size (Obj.mapSeq (·.push Value.none))).update s.heap.objs.size (Obj.mapSeq (·.pop))).get? b=some o:=
  fun b o hb e=>(Heap.get?_update_other _ _ (Ne.symm hb)).trans ((Heap.get?_update_other _ _ (Ne.symm hb)).trans e)
 have hW:=W.toS;refine wpAny_pure ⟨plainId_quiet PySem.F.plain_extend_loop _,codeAny_extend_loopS hW (by rw[hlen];exact Nat.le_trans hn (by decide)) _ hSf _ vs.length 0 _ _ _ rfl (zero_le _)
  (W.frame 0 _ _ hst fun b hb o e=>oth b o (fun h=>hSf (h ▸ hb)) e) hS₃ (ItemsOf.nil _) fun s' acc' c' hm hS' hacc=>?_⟩
 show wpAny _ A (load s.heap.objs.size >>= _) _ _ s';refine wpAny_bind (wpAny_load hS' ?_);have hrv:acc'.toList=vs:=by
  refine List.ext_getElem? fun i=>?_;have hal:acc'.toList.length=vs.length:=by rw[Array.length_toList,hacc.1]
  by_cases hi:i<vs.length
  ·have hia:i<acc'.toList.length:=by omega
   rw[getElem?_eq_getElem hia];exact(hacc.2 i acc'.toList[i] (by rw[<- Array.getElem?_toList];exact getElem?_eq_getElem hia)).symm
  ·rw[getElem?_eq_none (by omega),getElem?_eq_none (by omega)]
 rw[Moved.eq_with hm];refine wpAny_pure ?_;rw[hrv];refine hQ vs zs _ _ _ (le_of_lt (Heap.lt_size hS')) (fun b o e=>?_) hzs hnd hmem hlen;refine hm.heap b o (fun hmem=>?_) (oth b o (hbS b o e) (k2 b o (old b o e)));rcases List.mem_cons.mp hmem with e'|hmem
 ·exact hbS b o e e'
 ·rw[List.mem_singleton.mp hmem] at e
  have:=Heap.lt_size e
  dsimp only at kI;rw[hz1] at kI;exact lt_irrefl _ (lt_trans this kI)
theorem zbq{a:Addr}{S:Str->Bool}{n:Nat}{Q:Value->Shared->Prop}(hh:A.handled=none) (hS:vt P w s.heap a S n) (hn:n<64)
  (hQ:∀(l:Addr) (out:Array Value) (zs:List Str) (h':Heap) (d:Drawn) (tk e:Nat),(∀b o,s.heap.get? b=some o->h'.get? b=some o)->s.heap.objs.size<=l->h'.get? l=some (seqObj "list" out e)->StrsAre out.toList zs->zs.Nodup->(∀z,z∈zs ↔ S z=true)->sortedS zs=true->zs.length=n->
   Q (.ref l) { s with heap:=h',drawn:=d,toks:=tk }) :
  wpAny (model P w) A (call (.builtin "sorted") [.ref a]) Q E s:=by
 refine Calls.call_function_entry kind_sorted plain_sorted entry_sorted (args_sorted1 _) ?_;unfold Builtin.«sorted»;refine wpAny_bind (m:=checkCount "sorted" 1 1 _) (wpAny_pure ?_);refine wpAny_bind (za9 hh hS (by omega) fun vs zs h1 d tk hsz k1 hzs hnd hmem hlen=>?_)
 have hzl:zs.length=vs.length:=by
  have:=hzs.strs
  rw[<- this,length_map]
 refine wpAny_bind (wpAny_newList ?_ (by rw[hlen];exact Nat.le_trans (le_of_lt hn) (by decide)))
 have hoL:(h1.push (seqObj "list" vs.toArray 0)).get? h1.objs.size=some (seqObj "list" vs.toArray 0):=Heap.get?_push_size _ rfl;refine wpAny_bind (wpAny_holding (wpAny_call_entry slot_list_sort ⟨_,hoL,rfl⟩ entry_list_sort (list_sort_treeK strKind_oneLt hoL hzs.keysOf (fun v₁ v₂ rest e=>keyKind_strs (by rw[<- e];exact hzs)) (by omega) fun st' a1 a2=>⟨_,rfl,?_⟩) (args_list_sort _)))
 obtain⟨ss',b1,b2,b3⟩:=sorted_out_str hzs a1 a2;obtain⟨e,he⟩:=sortedHeap_at (out:=(arrOf st').map (·.2)) hoL;refine wpAny_pure ⟨_,rfl,hQ _ _ ss' _ d tk e (fun b o eb=>?_) hsz he b1 (b2.nodup_iff.mpr hnd) (fun z=>(b2.mem_iff).trans (hmem z)) b3 (by rw[b2.length_eq,hzl,hlen])⟩
 have eb1:=k1 b o eb;have hlt:=Heap.lt_size eb1;rw[sortedHeap_old (ne_of_lt hlt) (by rw[size_push'];exact lt_succ_of_lt hlt),Heap.get?_push_ne _ _ _ (ne_of_lt hlt)]
 exact eb1
end
def zlg(P:Program) (w:World) (a:Addr) (S:Str->Bool) (n:Nat) (h:Heap):Prop:=vt P w h a S n
abbrev zdB(P:Program) (w:World) (a:Addr) (S:Str->Bool) (n:Nat):HO:=.ext (zlg P w a S n)
theorem zfj{P:Program}{w:World}{H:Hp}{h:Heap}{a:Addr}{S:Str->Bool}{n:Nat}(e:vt P w h a S n):yH P w H h a (zdB P w a S n):=
 ⟨e,let ⟨o,_,_,_,h1,_⟩:=e;⟨o,h1⟩,fun g1 g2 q k=>let ⟨o,es,ep,t,h1,c⟩:=q;⟨o,es,ep,t,k o h1,c⟩⟩
theorem zfi{P:Program}{w:World}{h:Heap}{a:Addr}{zs:List Str}{n:Nat}(hS:vt P w h a (fun z=>decide (z∈zs)) n):n<=zs.length:=by
 obtain⟨o,es,ep,t,ho,hex,hd,hel,hmem,hb,hf,hn,hnd,_⟩:=hS
 have:=yI (es.toList.map fun e=>jf e.2) zs hnd fun z hz=>by
  obtain⟨e,he,e1⟩:=List.mem_map.mp hz;obtain⟨⟨k,hk,_⟩,_⟩:=hel e he
  have:=(hmem k).mpr ⟨e,he,hk⟩
  obtain⟨tk,e2⟩:=Value.isStrOf_shape hk;rw[e2] at e1;have e1:k=z:=e1;rw[<- e1];exact of_decide_eq_true this
 rw[length_map,Array.length_toList] at this;omega
theorem Inv.drew{X:Cx}{pins:List (Addr×Obj)}{σ : St}{H:Hp}{s:Shared}(I:Inv X pins σ H s) (d:Drawn):Inv X pins σ H { s with drawn:=d }:=
 ⟨I.ok,I.os,I.bare,I.base,I.loc,I.cell,I.free,I.freeC,I.pin,I.hok,I.len⟩
section
variable {X:Cx}
theorem zeT(hc:X.calm=true):xh X (.type "set") (fun xs H Q=>∃(p:Addr) (zs:List Str),xs=[.ref p]/\SqL X.K H p (zs.map V.str)/\zs.length<=900/\∀(l:Addr) (n:Nat),H l=none->Q (.ref l) (upd H l (zdB X.prog X.w l (fun z=>decide (z∈zs)) n))):=by
 intro pins s σ H xs us Q I r h;obtain⟨p,zs,rfl,hS,lz,q⟩:=h;obtain⟨u,rfl,ru⟩:=wA r;cases ru;obtain⟨its,rv,hp,hz⟩:=I.list hS;have hl:its.length=zs.length:=by rw[<- rv.length,length_map]
 have hb:its.toArray.size+1<scanBound:=by
  rw[size_toArray,hl];have : 1000<scanBound:=by unfold scanBound;decide
  omega
 refine zb6 (I.ok.hd hc) hp.isList (fun i v e=>rv.strs_at i v (by simpa using e)) hb fun h' tk c hS' hk=>?_
 have hsz:its.toArray.size=zs.length:=by rw[size_toArray,hl]
 rw[hsz] at hS';have eS:seen (fun i=>zs.getD i "") (fun _=>false) 0 zs.length=fun z=>decide (z∈zs):=funext (zbt zs);rw[eS] at hS';refine⟨.ref s.heap.objs.size,_,I.laid (t':=tk) (fun b ob e=>hk b ob (Heap.lt_size e) e) (Nat.le_refl _) (zfj hS'),rfl,q _ c (I.hok.fresh (Nat.le_refl _))⟩
theorem zbb(hc:X.calm=true):xh X (.builtin "sorted") (fun xs H Q=>∃(a:Addr) (zs:List Str) (n:Nat),xs=[.ref a]/\H a=some (zdB X.prog X.w a (fun z=>decide (z∈zs)) n)/\zs.length<64/\∀(l:Addr) (ys:List Str),H l=none->ys.Nodup->(∀z,z∈ys ↔ z∈zs)->Q (.ref l) (upd H l (.lst ((z9 ys).map V.str)))):=by
 intro pins s σ H xs us Q I r h;obtain⟨a,zs,n,rfl,e,h64,q⟩:=h;obtain⟨u,rfl,ru⟩:=wA r;cases ru;have hS:vt X.prog X.w s.heap a (fun z=>decide (z∈zs)) n:=(I.hok a _ e).1;have hn:=zfi hS;refine zbq (I.ok.hd hc) hS (by omega) fun l out ys h' d tk ep k1 hsz he hys hnd hmem hso hl=>?_
 have en:=zbr (List.Perm.refl ys) hso;refine⟨.ref l,_,(I.drew d).laid (t':=tk) (o:=.lst ((z9 ys).map V.str)) k1 hsz ⟨?_,out.toList,ep,?_,by simpa using he⟩,rfl,q l ys (I.hok.fresh hsz) hnd fun z=>?_⟩
 ·rw[length_map,<- en,hl]
  have : 1000<=sizeLine:=by decide
  omega
 ·rw[<- en]
  exact StrsAre.vals hys
 ·rw[hmem z]
  exact decide_eq_true_iff
end
end L2
namespace K83
open PySem L2 PyProof.Rows
theorem zhc{n ys:List Str}(hs:z9 n=n) (nd:n.Nodup) (ny:ys.Nodup) (h:∀z,z∈ys ↔ z∈n):z9 ys=n:=by
 rw[<- hs];exact jI.mpr ((List.perm_ext_iff_of_nodup ny nd).mpr h)
section
variable {P:Program}{w:World}{K:Frag}{mg:Str->Option Value}{base:Heap}{f CF:Addr}{fd:FuncData}{c:C5}
end
theorem zgY(ns:List Int) (lo hi:Option Int):∃ms:List Int,xo (ns.map V.int) lo hi=ms.map V.int/\ms.length<=ns.length/\∀m∈ms,m∈ns:=by
 refine⟨(ns.drop (HT.sIx ns.length 0 lo)).take (HT.sIx ns.length ns.length hi - HT.sIx ns.length 0 lo),?_,?_,fun m hm=>mem_of_mem_drop (mem_of_mem_take hm)⟩
 ·unfold xo
  rw[length_map,map_take,map_drop]
 ·rw[length_take,length_drop]
  omega
structure zkd(mg:Str->Option Value):Prop where
 len:mg "len"=none
 range:mg "range"=none
 set:mg "set"=none
 en:mg "enumerate"=none
 list:mg "list"=none
 isi:mg "isinstance"=none
 bool:mg "bool"=none
 tuple:mg "tuple"=none
def zfc(K:Frag):Sp:=fun vs H Q _=>∃(a:Addr) (ns:List Int) (k:Nat),vs=[.ref a,.int k]/\SqL K H a (ns.map V.int)/\ns.length<=63/\∀(n:Int) (H':Hp),zm H H'->Q (.int n) H'
def ziz(c k:Int):Int:=(c % 2147483647+97 * k+5) * 48271 % 2147483647 * ((c % 2147483647+97 * k+5) * 48271 % 2147483647) % 2147483629
def zch:Sp:=fun vs H Q _=>∃c k:Int,vs=[.int c,.int k]/\Q (.int (ziz c k)) H
def pnL(a b c q k:Nat):List Nat:=([97+a,97+b,97+c]).take (k % 4)++[97+(q+k) % 26]
def pn(a b c q k:Nat):Str:=⟨(pnL a b c q k).toArray⟩
def jY(a b c q:Nat):List Str:=(List.range 8).map (pn a b c q)++[⟨(pnL a b c q 0++[97,97,97,97,97]).toArray⟩,⟨(pnL a b c q 1++[97,97,97,97,97]).toArray⟩]
def zdI:List Str:=(List.range 26).map fun k=>(⟨#[97+k]⟩:Str)
theorem wk{l:List Nat}(h1 : 1<=l.length) (h2:l.length<=8) (h3:∀c∈l,97<=c/\c<=122):zR ⟨l.toArray⟩=true:=by
 unfold zR;have e:(⟨l.toArray⟩:Str).length=l.length:=by show l.toArray.size=_;simp
 rw[e,decide_eq_true h1,decide_eq_true h2,Bool.true_and,Bool.true_and];show l.toArray.toList.all low=true;rw[all_eq_true];intro c hc;have hc':c∈l:=by simpa using hc
 obtain⟨g1,g2⟩:=h3 c hc';unfold low;rw[decide_eq_true g1,decide_eq_true g2];rfl
theorem xy(a b c q k:Nat):(pnL a b c q k).length=k % 4+1:=by
 unfold pnL;rw[length_append,length_take]
 have:k % 4<4:=mod_lt _ (by decide)
 show min (k % 4) 3+1=_;omega
theorem zdJ{a b c q k:Nat}(ha:a<26) (hb:b<26) (hc:c<26):∀x∈pnL a b c q k,97<=x/\x<=122:=by
 intro x hx;unfold pnL at hx;rcases List.mem_append.mp hx with hx|hx
 ·have:=mem_of_mem_take hx
  simp only[mem_cons,not_mem_nil,or_false] at this;omega
 ·rw[List.mem_singleton.mp hx]
  have:(q+k) % 26<26:=mod_lt _ (by decide)
  omega
theorem wn{l m:List Nat}(h:(⟨l.toArray⟩:Str)=⟨m.toArray⟩):l=m:=by
 have:l.toArray=m.toArray:=congrArg Str.cps h
 simpa using this
theorem zcB{a b c q:Nat}(ha:a<26) (hb:b<26) (hc:c<26):∀z∈jY a b c q,zR z=true:=by
 intro z hz;unfold jY at hz;rcases List.mem_append.mp hz with hz|hz
 ·obtain⟨k,_,rfl⟩:=List.mem_map.mp hz
  refine wk (by rw[xy];omega) (by rw[xy];have:k % 4<4:=mod_lt _ (by decide);omega) (zdJ ha hb hc)
 ·have hx:∀k,∀x∈pnL a b c q k++[97,97,97,97,97],97<=x/\x<=122:=fun k x hx=>by
   rcases List.mem_append.mp hx with hx|hx
   ·exact zdJ ha hb hc x hx
   ·simp only[mem_cons,not_mem_nil,or_false] at hx
    omega
  simp only[mem_cons,not_mem_nil,or_false] at hz;rcases hz with rfl|rfl
  ·exact wk (by rw[length_append];simp) (by rw[length_append,xy];decide) (hx 0)
  ·exact wk (by rw[length_append];simp) (by rw[length_append,xy];decide) (hx 1)
theorem zjG{a b c q j k:Nat}(hj:j<8) (hk:k<8) (e:pn a b c q j=pn a b c q k):j=k:=by
 have h:=congrArg List.getLast? (wn e);unfold pnL at h;rw[List.getLast?_append,List.getLast?_append] at h;simp at h;omega
theorem zfR(a b c q:Nat):(jY a b c q).Nodup:=by
 unfold jY;refine List.nodup_append.mpr ⟨?_,?_,?_⟩
 ·refine List.pairwise_map.mpr (List.Pairwise.imp_of_mem ?_ nodup_range)
  intro x y hx hy ne e;exact ne (zjG (List.mem_range.mp hx) (List.mem_range.mp hy) e)
 ·refine List.nodup_cons.mpr ⟨fun h=>?_,by simp⟩
  have:=congrArg List.length (wn (List.mem_singleton.mp h))
  rw[length_append,length_append,xy,xy] at this;simp at this
 ·intro x hx y hy e
  obtain⟨k,_,rfl⟩:=List.mem_map.mp hx;have hk:k % 4<4:=mod_lt _ (by decide)
  simp only[mem_cons,not_mem_nil,or_false] at hy;rcases hy with rfl|rfl
  ·have:=congrArg List.length (wn e)
   rw[length_append,xy,xy] at this;simp at this;omega
  ·have:=congrArg List.length (wn e)
   rw[length_append,xy,xy] at this;simp at this;omega
theorem zcC{a b c q:Nat}:∀z∈(jY a b c q).take 4,z.length<=4:=by
 intro z hz
 have:(jY a b c q).take 4=[pn a b c q 0,pn a b c q 1,pn a b c q 2,pn a b c q 3]:=rfl
 rw[this] at hz;have l:∀k,(pn a b c q k).length=k % 4+1:=fun k=>by
  show(pnL a b c q k).toArray.size=_;rw[size_toArray,xy]
 have h4:∀k,(pn a b c q k).length<=4:=fun k=>by rw[l];omega
 rcases List.mem_cons.mp hz with rfl|hz
 ·exact h4 _
 ·rcases List.mem_cons.mp hz with rfl|hz
  ·exact h4 _
  ·rcases List.mem_cons.mp hz with rfl|hz
   ·exact h4 _
   ·rw[List.mem_singleton.mp hz];exact h4 _
theorem zcD:∀z∈zdI,zR z=true:=by decide +kernel
theorem zfS:zdI.Nodup:=by
 unfold zdI;refine List.pairwise_map.mpr (List.Pairwise.imp_of_mem ?_ nodup_range);intro x y hx hy ne e
 have:=congrArg Str.cps e
 simp at this;exact ne this
def ze7(K:Frag):Sp:=fun vs H Q _=>∃c:Int,vs=[.int c]/\∀(r:Addr) (zs:List Str) (H':Hp),zm H H'->H r=none->H' r=some (.lst (zs.map V.str))->zs.Nodup->(∀z∈zs,zR z=true)->0<zs.length->zs.length<=26->(∀z∈zs.take 4,z.length<=4)->Q (.ref r) H'
theorem qu:∀m,m<26->(Str.ofString "abcdefghijklmnopqrstuvwxyz").cps.toList[m]?=some (97+m):=by decide +kernel
theorem jz{i:Int}(h0 : 0<=i) (h1:i<26):atI (Str.ofString "abcdefghijklmnopqrstuvwxyz").cps.toList i=some (97+i.toNat):=by
 obtain⟨m,rfl⟩:=Int.eq_ofNat_of_zero_le h0;exact wY (qu m (by omega))
theorem zja(x y z:Nat):∀n,n<4->Txt.slice ⟨#[x,y,z]⟩ none (some ((n:Nat):Int))=⟨([x,y,z].take n).toArray⟩
 | 0,_=>rfl
 | 1,_=>rfl
 | 2,_=>rfl
 | 3,_=>rfl
 | n+4,h=>absurd h (by omega)
section
variable {P:Program}{w:World}{K:Frag}{mg:Str->Option Value}{base:Heap}{f:Addr}{fd:FuncData}
theorem ziL:zu ["_law_script","_law_k","_law_cells"] ["_law_script","_law_k"] (zg zju):=⟨rfl,rfl,rfl,by decide +kernel,rfl,by decide +kernel,by decide +kernel⟩
theorem zjT(F:Fun K "_law_nth" "_law_nth" zju f fd):zJ P w K mg base CX0 1 f fd ["_law_script","_law_k"] (zfc K):=by
 refine F.ok ziL (fun vs H Q E h=>?_) (fun cdv A outer s H vs Q E hr h=>?_)
 ·obtain⟨a,ns,k,rfl,_⟩:=h
  rfl
 obtain⟨a,ns,k,rfl,hS,l63,q⟩:=h;refine⟨_,zj (zy (i:=2) ziL.nd rfl (Or.inl rfl) (zz ym (yf yU (pv 0) (yj (pv 1)) (yj (zz xR (pv 1) zf))) (zW (ac zf zd))))
  (ze (zC (zB yR (pv 2) zf (fun _ _=>rfl)))),?_⟩
 obtain⟨ms,em,lm,_⟩:=zgY ns (some (k:Int)) (some ((k:Int)+1));refine⟨_,rfl,_,rfl,_,rfl,_,rfl,_,_,rfl,rfl,_,rfl,a,_,rfl,hS,fun p hp=>?_⟩;rw[em];have u1:=zc hp (.lst (ms.map V.int));have e1:upd H p (.lst (ms.map V.int)) p=some (.lst (ms.map V.int)):=za;generalize upd H p (.lst (ms.map V.int))=H1 at u1 e1 |-;refine⟨zz1,fun l hl=>?_⟩;have u2:=zc hl (.lst [.int 0]);have big : 1000<=sizeLine:=by decide
 refine⟨p,l,_,_,rfl,rfl,u2 _ _ e1,za,(by rw[length_map];show _+1<=_;omega),fun p3 hp3=>?_⟩
 have u3:=zc hp3 (.lst (ms.map V.int++[.int 0]));have s3:=u1.trans (u2.trans u3);cases ms with
 | nil=>exact⟨_,rfl,p3,_,0,.int 0,rfl,rfl,SqL.of za,rfl,q 0 _ s3⟩
 | cons x xs=>exact⟨_,rfl,p3,_,0,.int x,rfl,rfl,SqL.of za,wY (j:=0) rfl,q x _ s3⟩
theorem zfo:zu ["_law_cell","_law_k","_law_first"] ["_law_cell","_law_k"] (zg zfv):=⟨rfl,rfl,rfl,by decide +kernel,rfl,by decide +kernel,by decide +kernel⟩
theorem zhK(F:Fun K "_law_stirred" "_law_stirred" zfv f fd):zJ P w K mg base CX0 1 f fd ["_law_cell","_law_k"] zch:=by
 refine F.ok zfo (fun vs H Q E h=>?_) (fun cdv A outer s H vs Q E hr h=>?_)
 ·obtain⟨c,k,rfl,_⟩:=h
  rfl
 obtain⟨c,k,rfl,q⟩:=h;refine⟨_,zj (zy (i:=2) zfo.nd rfl (Or.inl rfl) (zz yt (zz zcJ (zz xR (zz xR (zz yt (pv 0) zf) (zz zcJ zf (pv 1))) zf) zf) zf))
  (ze (zC (zz yt (zz zcJ (pv 2) (pv 2)) zf))),?_⟩
 refine⟨_,rfl,_,_,rfl,rfl,(by show(0:Int)<2147483647;decide),_,rfl,_,_,rfl,rfl,.inl ⟨by decide,by decide⟩,_,_,rfl,rfl,_,_,rfl,rfl,_,_,rfl,rfl,.inr ⟨by decide,by decide⟩,_,_,rfl,rfl,(by show(0:Int)<2147483647;decide),?_⟩
 have h1 : 0<=(c % 2147483647+97 * k+5) * 48271 % 2147483647:=emod_nonneg _ (by decide)
 have h2:(c % 2147483647+97 * k+5) * 48271 % 2147483647<2147483647:=emod_lt_of_pos _ (by decide)
 exact⟨_,rfl,_,rfl,_,_,rfl,rfl,.inl ⟨by omega,by omega⟩,_,_,rfl,rfl,(by show(0:Int)<2147483629;decide),q⟩
theorem zgt:([Str.ofString "_law_sign"]:List Str).Nodup:=by decide +kernel
theorem zkO:([Str.ofString "_law_k",Str.ofString "_law_cell",Str.ofString "_law_letters",Str.ofString "_law_stem"]:List Str).Nodup:=by decide +kernel
theorem zaE:zu ["_law_cell","_law_letters","_law_stem","_law_pool_here"] ["_law_cell"] (zg zfx):=⟨rfl,rfl,rfl,by decide +kernel,rfl,by decide +kernel,by decide +kernel⟩
theorem zhM(F:Fun K "_law_pool" "_law_pool" zfx f fd) (U:zkd mg):zJ P w K mg base CX0 1 f fd ["_law_cell"] (ze7 K):=by
 refine F.ok zaE (fun vs H Q E h=>?_) (fun cdv A outer s H vs Q E hr h=>?_)
 ·obtain⟨c,rfl,_⟩:=h
  rfl
 obtain⟨cc,rfl,q⟩:=h;refine⟨_,zj (zy (i:=1) zaE.nd rfl (Or.inr rfl) zD)
  (zj (zP (zo yx (zz yt (zz yC (pv 0) zf) zf) zf (zI _)) (ze (zC (yP [] ["_law_sign"] [none] rfl ⟨rfl,rfl,rfl,rfl⟩ (zaS (pv 1)) (zG 0) rfl rfl rfl
   (fun pins fp s H C=>⟨zk (i:=0) zgt rfl (Or.inl rfl) (.inr rfl),yK,pv 0⟩)))) zE)
  (zj (zy (i:=2) zaE.nd rfl (Or.inr rfl) (zz xr (zz xr (zB u0 (pv 1) (zz yt (pv 0) zf) (fun _ _=>rfl)) (zB u0 (pv 1) (zz yt (zz yC (pv 0) zf) zf) (fun _ _=>rfl))) (zB u0 (pv 1) (zz yt (zz yC (pv 0) zf) zf) (fun _ _=>rfl))))
  (zj (vi (i:=3) ["_law_stem","_law_letters","_law_cell"] ["_law_k","_law_cell","_law_letters","_law_stem"] [none,some 0,some 1,some 2] zaE.nd rfl (Or.inl rfl) rfl ⟨rfl,rfl,rfl,rfl⟩ (vF rfl U.range (ac zf zd)) (zG 0) rfl rfl rfl
   (fun pins fp s H C=>⟨zk (i:=0) zkO rfl (Or.inl rfl) (.inr rfl),yK,zz xr (yf zjb (pv 3) yJ (yj (zz yt (pv 0) zf))) (zB u0 (pv 2) (zz yt (zz xR (zz yC (pv 1) zf) (pv 0)) zf) (fun _ _=>rfl))⟩))
  (ze (zC (zz ym (pv 3) (zW (ac (zz xr (zB yR (pv 3) zf (fun _ _=>rfl)) zD) (ac (zz xr (zB yR (pv 3) zf (fun _ _=>rfl)) zD) zd)))))))))
  ,?_⟩
 refine yB (fun σ' H'=>σ'=[some (.int cc),some (.str "abcdefghijklmnopqrstuvwxyz"),none,none]/\H'=H) ?_ (fun key=>?_);rotate_left
 ·exact key _ _ ⟨rfl,rfl⟩
 rintro σ0 H0 ⟨rfl,rfl⟩;refine⟨_,rfl,_,_,rfl,rfl,⟨by decide,by decide⟩,_,_,rfl,rfl,(by show(0:Int)<8;decide),rfl,_,rfl,?_⟩
 have l26:(Str.ofString "abcdefghijklmnopqrstuvwxyz").cps.toList.length=26:=by decide +kernel
 refine za4 (fun _=>?_) (fun _=>?_)
 ·refine⟨_,rfl,_,rfl,fun D hD=>?_⟩
  refine⟨fun i m ys H'=>i<=26/\m=26 - i/\ys=((List.range i).map fun k=>(⟨#[97+k]⟩:Str)).map V.str/\H'=upd H0 D (.lst ys),⟨_,zero_le _,rfl,rfl,rfl⟩,?_⟩;rintro i m ys H' ⟨hi,rfl,rfl,rfl⟩;have sz:(Str.ofString "abcdefghijklmnopqrstuvwxyz").cps.size=26:=by decide +kernel
  by_cases he:i=26
  ·subst he
   refine .inl ⟨by show(Str.ofString "abcdefghijklmnopqrstuvwxyz").cps.size<=26;rw[sz];exact Nat.le_refl _,?_⟩
   exact q D zdI _ (zc hD _) hD za zfS zcD (by decide) (by decide) (by decide +kernel)
  ·refine .inr ⟨by show i<(Str.ofString "abcdefghijklmnopqrstuvwxyz").cps.size;rw[sz];omega,?_⟩
   rintro x H' ⟨rfl,ch,hc,rfl⟩;refine⟨fun _=>?_,fun e=>Bool.noConfusion e⟩;have hc':(Str.ofString "abcdefghijklmnopqrstuvwxyz").cps.toList[i]?=some ch:=by simpa using hc
   rw[qu i (by omega)] at hc'
   cases hc';refine⟨_,rfl,za,?_,26 - (i+1),by omega,by omega,rfl,?_,?_⟩
   ·rw[length_map,length_map,length_range]
    exact zT (by omega)
   ·rw[range_succ,map_append,map_append]
    rfl
   ·rw[vz]
 have x0 : 0<=cc % 26:=emod_nonneg _ (by decide)
 have x1:cc % 26<26:=emod_lt_of_pos _ (by decide)
 have y0 : 0<=cc / 26 % 26:=emod_nonneg _ (by decide)
 have y1:cc / 26 % 26<26:=emod_lt_of_pos _ (by decide)
 have z0 : 0<=cc / 676 % 26:=emod_nonneg _ (by decide)
 have z1:cc / 676 % 26<26:=emod_lt_of_pos _ (by decide)
 have big : 1000<=sizeLine:=by decide
 have l26':(Str.ofString "abcdefghijklmnopqrstuvwxyz").length<=sizeLine:=by decide +kernel
 refine⟨_,rfl,_,rfl,_,_,rfl,rfl,zp26,_,_,_,rfl,rfl,l26',jz x0 x1,_,rfl,_,rfl,_,_,rfl,rfl,⟨by decide,by decide⟩,_,_,rfl,rfl,zp26,_,_,_,rfl,rfl,l26',jz y0 y1,_,_,rfl,rfl,(by show 1+1<=sizeLine;decide),_,rfl,_,rfl,_,_,rfl,rfl,⟨by decide,by decide⟩,_,_,rfl,rfl,zp26,_,_,_,rfl,rfl,l26',jz z0 z1,_,_,rfl,rfl,(by show 2+1<=sizeLine;decide),?_⟩
 obtain⟨a,ea,ha⟩:∃a,a=(cc % 26).toNat/\a<26:=⟨_,rfl,by omega⟩
 obtain⟨b,eb,hb⟩:∃b,b=(cc / 26 % 26).toNat/\b<26:=⟨_,rfl,by omega⟩
 obtain⟨c,ec,hc⟩:∃c,c=(cc / 676 % 26).toNat/\c<26:=⟨_,rfl,by omega⟩
 rw[<- ea,<- eb,<- ec];obtain⟨qq,eq⟩:∃qq,qq=(cc / 17576 % 26).toNat:=⟨_,rfl⟩;have q0 : 0<=cc / 17576 % 26:=emod_nonneg _ (by decide)
 have st:((⟨#[97+a]⟩:Str)++(⟨#[97+b]⟩:Str))++(⟨#[97+c]⟩:Str)=⟨#[97+a,97+b,97+c]⟩:=rfl;rw[st];refine⟨8,rfl,by decide,by decide,fun D hD=>?_⟩
 refine zbQ (n:=8) (fun i ys H'=>zm H0 H'/\H' D=some (.lst ys)/\ys=((List.range i).map (pn a b c qq)).map V.str) ⟨zc hD _,za,rfl⟩ ?_ ?_
 ·rintro i ys H' hi ⟨sH,hDy,ey⟩
  refine⟨fun _=>?_,fun e=>Bool.noConfusion e⟩;have w0 : 0<=(cc / 17576+((0:Int)+(i:Int))) % 26:=emod_nonneg _ (by decide)
  have w1:(cc / 17576+((0:Int)+(i:Int))) % 26<26:=emod_lt_of_pos _ (by decide)
  have ew:((cc / 17576+((0:Int)+(i:Int))) % 26).toNat=(qq+i) % 26:=by omega
  have e4:((0:Int)+(i:Int)) % 4=((i % 4:Nat):Int):=by omega
  refine⟨_,rfl,_,rfl,_,_,rfl,rfl,(by show(0:Int)<4;decide),_,rfl,_,rfl,zz3,_,rfl,_,rfl,_,_,rfl,rfl,⟨by decide,by decide⟩,_,rfl,_,_,rfl,rfl,_,_,rfl,rfl,zp26,_,_,_,rfl,rfl,l26',jz w0 w1,?_⟩
  rw[ew,e4,zja _ _ _ _ (mod_lt _ (by decide))]
  have hl:(⟨(([97+a,97+b,97+c]:List Nat).take (i % 4)).toArray⟩:Str).length<=3:=by
   show(List.toArray _).size<=3;rw[size_toArray,length_take];show min _ 3<=3;omega
  refine⟨_,_,rfl,rfl,Nat.le_trans (show _+1<=1000 by omega) big,?_⟩
  refine lcN.mk hi (by decide) hDy (by rw[ey,length_map,length_map,length_range];exact Nat.le_refl _) ⟨fun b' u e=>by rw[zh (zi e hD)];exact sH _ _ e,za,?_⟩
  rw[ey,range_succ,map_append,map_append];show _++[V.str _]=_++[V.str (pn a b c qq i)]
  congr 3
  unfold pn pnL;show(⟨List.toArray _++#[97+(qq+i) % 26]⟩:Str)=_
  congr 1
  apply Array.ext'
  simp
 ·rintro ys H1 ⟨s1,hDy,ey⟩
  subst ey;have e0:atI (((List.range 8).map (pn a b c qq)).map V.str) 0=some (.str (pn a b c qq 0)):=rfl;have e1:atI (((List.range 8).map (pn a b c qq)).map V.str) 1=some (.str (pn a b c qq 1)):=rfl;refine⟨_,rfl,_,rfl,D,_,0,_,rfl,rfl,SqL.of hDy,e0,_,_,rfl,rfl,(by show 1+5<=sizeLine;decide),_,rfl,D,_,1,_,rfl,rfl,SqL.of hDy,e1,_,_,rfl,rfl,(by show 2+5<=sizeLine;decide),zz2,fun l2 hl2=>?_⟩
  have s2:=zc hl2 (.lst [.str (pn a b c qq 0++"aaaaa"),.str (pn a b c qq 1++"aaaaa")]);refine⟨D,l2,_,_,rfl,rfl,s2 _ _ hDy,za,(by show 10<=sizeLine;decide),fun r hr'=>?_⟩
  have s3:=zc hr' (.lst (((List.range 8).map (pn a b c qq)).map V.str++[.str (pn a b c qq 0++"aaaaa"),.str (pn a b c qq 1++"aaaaa")]));refine q r (jY a b c qq) _ (s1.trans (s2.trans s3)) (s1.free (s2.free hr')) ?_ (zfR a b c qq) (zcB ha hb hc) (by show 0<10;decide) (by show 10<=26;decide) zcC
  rw[za];rfl
end
theorem zj8{k:Nat}(hk:k<5) (h:yd k=true):grp k=0\/grp k=2:=by
 rcases lt5 hk with rfl|rfl|rfl|rfl|rfl <;> first|(exact .inl rfl)|(exact .inr rfl)|(cases h)
theorem vI{xs:List Rw}{g:Nat}(hg:∀r∈xs,r.ok/\grp r.k=g) (h:g % 2=1):nms xs=[]:=by
 unfold nms;rw[List.filter_eq_nil_iff.mpr (fun r hr e=>?_)]
 ·rfl
 ·obtain⟨ho,q⟩:=hg r hr
  rcases zj8 ho.1 e with z|z <;> rw[z] at q <;> rw[<- q] at h <;> cases h
structure FS where
 (P T G B:List Rw) (L:List Str)
def FS.add(S:FS) (k:Nat) (z:Str) (b:Bool):FS:=match k with
 | 0=>{ S with P:=S.P++[⟨0,z,b⟩] }
 | 1=>{ S with P:=S.P++[⟨1,z,b⟩],L:=S.L++[z] }
 | 2=>{ S with T:=[⟨2,z,b⟩] }
 | 3=>{ S with G:=S.G++[⟨3,z,b⟩],L:=S.L++[z] }
 | _=>{ S with B:=[⟨4,z,b⟩] }
structure FM(i:Nat) (S:FS):Prop where
 okP:∀r∈S.P,r.ok/\grp r.k=0
 okT:∀r∈S.T,r.ok/\grp r.k=1
 okG:∀r∈S.G,r.ok/\grp r.k=2
 okB:∀r∈S.B,r.ok/\grp r.k=3
 lT:S.T.length<=1
 lB:S.B.length<=1
 nd:(nms S.P++nms S.G).Nodup
 sn:∀z∈nms S.P++nms S.G,z∈S.L
 ln:S.P.length+S.T.length+S.G.length+S.B.length<=i
 lL:S.L.length<=i
theorem uE{α : Type}{xs:List α}{y : α}{p : α->Prop}(h:∀x∈xs,p x) (hy:p y):∀x∈xs++[y],p x:=fun x hx=>by
 rcases List.mem_append.mp hx with hx|hx
 ·exact h x hx
 ·rw[List.mem_singleton.mp hx];exact hy
theorem FM.zero:FM 0 ⟨[],[],[],[],[]⟩:=by
 refine⟨?_,?_,?_,?_,?_,?_,?_,?_,?_,?_⟩ <;> first|exact(fun _ h=>nomatch h)|exact zero_le _|exact nodup_nil|exact Nat.le_refl _
theorem zgs{a b:List Str}{z:Str}(h:(a++b).Nodup) (hz:z∉a++b):(a++[z]++b).Nodup:=by
 have p:(a++[z]++b).Perm (z::(a++b)):=by
  rw[append_assoc];exact List.perm_middle
 exact p.nodup_iff.mpr (List.nodup_cons.mpr ⟨hz,h⟩)
theorem FM.add{i:Nat}{S:FS}{k:Nat}{z:Str}{b:Bool}(h:FM i S) (hk:k<5) (hz:zR z=true) (hn:yd k=true->z∉S.L):FM (i+1) (S.add k z b):=by
 have ln:=h.ln;have lL:=h.lL;have lT:=h.lT;have lB:=h.lB
 match k,hk with
 | 0,_=>
  have e:nms (S.P++[⟨0,z,b⟩])=nms S.P:=by rw[yg,jt];simp [yd]
  exact⟨uE h.okP ⟨⟨lt_of_sub_eq_succ rfl,hz⟩,rfl⟩,h.okT,h.okG,h.okB,h.lT,h.lB,by show(nms (S.P++_)++nms S.G).Nodup;rw[e];exact h.nd,by show ∀y∈nms (S.P++_)++nms S.G,y∈S.L;rw[e];exact h.sn,
   by show(S.P++[_]).length+S.T.length+S.G.length+S.B.length<=i+1;rw[length_append,length_singleton];omega,le_succ_of_le h.lL⟩
 | 1,_=>
  have e:nms (S.P++[⟨1,z,b⟩])=nms S.P++[z]:=by rw[yg,jt];simp [yd]
  have nz:z∉nms S.P++nms S.G:=fun m=>hn rfl (h.sn z m);refine⟨uE h.okP ⟨⟨lt_of_sub_eq_succ rfl,hz⟩,rfl⟩,h.okT,h.okG,h.okB,h.lT,h.lB,by show(nms (S.P++_)++nms S.G).Nodup;rw[e];exact zgs h.nd nz,?_,
   by show(S.P++[_]).length+S.T.length+S.G.length+S.B.length<=i+1;rw[length_append,length_singleton];omega,by show(S.L++[_]).length<=i+1;rw[length_append,length_singleton];omega⟩
  show ∀y∈nms (S.P++_)++nms S.G,y∈S.L++[z];rw[e];intro y hy;rw[mem_append,mem_append] at hy;rcases hy with (hy|hy)|hy
  ·exact mem_append_left _ (h.sn y (mem_append_left _ hy))
  ·exact mem_append_right _ hy
  ·exact mem_append_left _ (h.sn y (mem_append_right _ hy))
 | 2,_=>
  refine⟨h.okP,fun r hr=>?_,h.okG,h.okB,Nat.le_refl _,h.lB,h.nd,h.sn,?_,le_succ_of_le h.lL⟩
  ·rw[List.mem_singleton.mp hr];exact⟨⟨lt_of_sub_eq_succ rfl,hz⟩,rfl⟩
  ·show S.P.length+1+S.G.length+S.B.length<=i+1
   omega
 | 3,_=>
  have e:nms (S.G++[⟨3,z,b⟩])=nms S.G++[z]:=by rw[yg,jt];simp [yd]
  have nz:z∉nms S.P++nms S.G:=fun m=>hn rfl (h.sn z m);refine⟨h.okP,h.okT,uE h.okG ⟨⟨lt_of_sub_eq_succ rfl,hz⟩,rfl⟩,h.okB,h.lT,h.lB,?_,?_,
   by show S.P.length+S.T.length+(S.G++[_]).length+S.B.length<=i+1;rw[length_append,length_singleton];omega,by show(S.L++[_]).length<=i+1;rw[length_append,length_singleton];omega⟩
  ·show(nms S.P++nms (S.G++_)).Nodup
   rw[e,<- append_assoc]
   have:=zgs (a:=nms S.P++nms S.G) (b:=[]) (z:=z) (by rw[append_nil];exact h.nd) (by rw[append_nil];exact nz)
   rwa [append_nil] at this
  ·show ∀y∈nms S.P++nms (S.G++_),y∈S.L++[z]
   rw[e];intro y hy;rw[mem_append,mem_append] at hy;rcases hy with hy|hy|hy
   ·exact mem_append_left _ (h.sn y (mem_append_left _ hy))
   ·exact mem_append_left _ (h.sn y (mem_append_right _ hy))
   ·exact mem_append_right _ hy
 | 4,_=>
  refine⟨h.okP,h.okT,h.okG,fun r hr=>?_,h.lT,Nat.le_refl _,h.nd,h.sn,?_,le_succ_of_le h.lL⟩
  ·rw[List.mem_singleton.mp hr];exact⟨⟨lt_of_sub_eq_succ rfl,hz⟩,rfl⟩
  ·show S.P.length+S.T.length+S.G.length+1<=i+1
   omega
def FS.rows(S:FS):List Rw:=S.P++S.T++S.G++S.B
theorem FM.valid{i:Nat}{S:FS}{bars:List Str}(h:FM i S) (hi:i<=24) (lb:bars.length<=60) (bn:∀z∈bars,zR z=true) (bd:bars.Nodup) (bl:∀z∈bars,z∉S.L):jk S.rows bars:=by
 have en:nms S.rows=nms S.P++nms S.G:=by
  unfold FS.rows;rw[yg,yg,yg,vI h.okT rfl,vI h.okB rfl,append_nil,append_nil]
 refine⟨fun r hr=>?_,?_,lb,?_,bn,?_⟩
 ·unfold FS.rows at hr
  rw[mem_append,mem_append,mem_append] at hr;rcases hr with ((hr|hr)|hr)|hr
  ·exact(h.okP r hr).1
  ·exact(h.okT r hr).1
  ·exact(h.okG r hr).1
  ·exact(h.okB r hr).1
 ·unfold FS.rows
  have:=h.ln
  simp only[length_append];omega
 ·unfold FS.rows
  rw[append_assoc,append_assoc];exact zdP (fun r hr=>(h.okP r hr).2) (fun r hr=>(h.okT r hr).2) h.lT (fun r hr=>(h.okG r hr).2) (fun r hr=>(h.okB r hr).2) h.lB
 ·rw[en]
  exact List.nodup_append.mpr ⟨h.nd,bd,fun x hx y hy e=>bl y hy (e ▸ h.sn x hx)⟩
theorem TAt.keep{H:Hp}{v D:Addr}{r:Rw}{o:HO}(h:TAt H v r) (hD:∀vs,H D≠some (.tup vs)):TAt (L2.upd H D o) v r:=by
 show L2.upd H D o v=_;rw[L2.zh (fun e=>by subst e;exact hD _ h)]
 exact h
def qD(H:Hp) (l:Addr) (rows:List Rw):Prop:=∃us:List Addr,H l=some (.lst (us.map V.ref))/\Paired (TAt H) us rows
theorem qD.same{H H':Hp}{l:Addr}{rows:List Rw}(h:qD H l rows) (s:zm H H'):qD H' l rows:=let ⟨us,h1,h2⟩:=h;⟨us,s _ _ h1,zr s h2⟩
theorem qD.keep{H:Hp}{l D:Addr}{rows:List Rw}{o:HO}(h:qD H l rows) (ne:l≠D) (hD:∀vs,H D≠some (.tup vs)):qD (upd H D o) l rows:=
 let ⟨us,h1,h2⟩:=h
 ⟨us,by rw[zh ne];exact h1,Paired.imp' (fun _ _ z=>z.keep hD) h2⟩
theorem qD.snoc{H:Hp}{l u:Addr}{rows:List Rw}{r:Rw}{us:List Addr}(h1:H l=some (.lst (us.map V.ref))) (h2:Paired (TAt H) us rows) (hu:TAt H u r):qD (upd H l (.lst (us.map V.ref++[.ref u]))) l (rows++[r]):=by
 have hD:∀vs,H l≠some (.tup vs):=fun vs e=>by rw[h1] at e;cases e
 refine⟨us++[u],by rw[za,map_append];rfl,Paired.snoc (Paired.imp' (fun _ _ z=>z.keep hD) h2) (hu.keep hD)⟩
theorem y6{z:Str}:∀{zs:List Str},inV (.str z) (zs.map V.str)=decide (z∈zs)
 | []=>by simp [inV]
 | y::ys=>by
  have ih:=y6 (z:=z) (zs:=ys);show(eqV (.str y) (.str z)||inV (.str z) (ys.map V.str))=_
  rw[ih]
  have:eqV (.str y) (.str z)=decide (z=y):=by
   show(y==z)=_;rw[Bool.eq_iff_iff,beq_iff_eq,decide_eq_true_eq];exact⟨Eq.symm,Eq.symm⟩
  rw[this];simp
theorem yA:∀{zs:List Str},(zs.map V.str).all xN=true
 | []=>rfl
 | _::ys=>by
  show(true&&(ys.map V.str).all xN)=true;rw[yA];rfl
theorem TAt.same{H H':Hp}{u:Addr}{r:Rw}(h:TAt H u r) (s:zm H H'):TAt H' u r:=s _ _ h
structure FI(H H':Hp) (lp lt ll:Addr) (S:FS):Prop where
 sm:zm H H'
 hp:qD H' lp S.P
 ht:qD H' lt S.G
 hl:H' ll=some (.lst (S.L.map V.str))
 n1:lp≠lt
 n2:lp≠ll
 n3:lt≠ll
 m1:H lp=none
 m2:H lt=none
 m3:H ll=none
section
variable {H H' H'':Hp}{lp lt ll u:Addr}{S:FS}{r:Rw}{z:Str}{b:Bool}
theorem FI.same(h:FI H H' lp lt ll S) (s:zm H' H''):FI H H'' lp lt ll S:=
 ⟨h.sm.trans s,h.hp.same s,h.ht.same s,s _ _ h.hl,h.n1,h.n2,h.n3,h.m1,h.m2,h.m3⟩
theorem FI.smU(h:FI H H' lp lt ll S) {l:Addr}(hl:H l=none) {o:HO}:zm H (upd H' l o):=fun b u e=>by rw[zh (zi e hl)];exact h.sm _ _ e
theorem FI.addL(h:FI H H' lp lt ll S):FI H (upd H' ll (.lst (S.L.map V.str++[.str z]))) lp lt ll { S with L:=S.L++[z] }:=by
 have hD:∀vs,H' ll≠some (.tup vs):=fun vs e=>by rw[h.hl] at e;cases e
 exact⟨h.smU h.m3,h.hp.keep h.n2 hD,h.ht.keep h.n3 hD,by rw[za,map_append];rfl,h.n1,h.n2,h.n3,h.m1,h.m2,h.m3⟩
theorem FI.addP{us:List Addr}(h:FI H H' lp lt ll S) (h1:H' lp=some (.lst (us.map V.ref))) (h2:Paired (TAt H') us S.P) (hu:TAt H' u r):FI H (upd H' lp (.lst (us.map V.ref++[.ref u]))) lp lt ll { S with P:=S.P++[r] }:=by
 have hD:∀vs,H' lp≠some (.tup vs):=fun vs e=>by rw[h1] at e;cases e
 exact⟨h.smU h.m1,.snoc h1 h2 hu,h.ht.keep h.n1.symm hD,by rw[zh h.n2.symm];exact h.hl,h.n1,h.n2,h.n3,h.m1,h.m2,h.m3⟩
theorem FI.addG{us:List Addr}(h:FI H H' lp lt ll S) (h1:H' lt=some (.lst (us.map V.ref))) (h2:Paired (TAt H') us S.G) (hu:TAt H' u r):FI H (upd H' lt (.lst (us.map V.ref++[.ref u]))) lp lt ll { S with G:=S.G++[r] }:=by
 have hD:∀vs,H' lt≠some (.tup vs):=fun vs e=>by rw[h1] at e;cases e
 exact⟨h.smU h.m2,h.hp.keep h.n1 hD,.snoc h1 h2 hu,by rw[zh h.n3.symm];exact h.hl,h.n1,h.n2,h.n3,h.m1,h.m2,h.m3⟩
end
structure VR(rows:List Rw):Prop where
 ok:∀r∈rows,r.ok
 l24:rows.length<=24
 ord:xu 0 rows=true
 nd:(nms rows).Nodup
theorem FM.vr{i:Nat}{S:FS}(h:FM i S) (hi:i<=24):VR S.rows:=by
 have v:=h.valid (bars:=[]) hi (zero_le _) (fun _ h=>nomatch h) nodup_nil (fun _ h=>nomatch h);exact⟨v.ok,v.l24,v.ord,by have:=v.nd;rwa [append_nil] at this⟩
def ziD(K:Frag):Sp:=fun vs H Q _=>∃(a pa:Addr) (cs:List Int) (zs:List Str) (ends:Int),vs=[.ref a,.ref pa,.int ends]/\SqL K H a (cs.map V.int)/\cs.length<=20/\H pa=some (.lst (zs.map V.str))/\0<zs.length/\zs.length<=26/\(∀z∈zs,zR z=true)/\
 ∀(la:Addr) (us:List Addr) (rows:List Rw) (H':Hp),zm H H'->H la=none->H' la=some (.lst (us.map V.ref))->Paired (TAt H') us rows->VR rows->(∀z∈nms rows,z∈zs)->(∃S:FS,rows=S.rows/\FM 22 S)->Q (.ref la) H'
section
variable {P:Program}{w:World}{K:Frag}{mg:Str->Option Value}{base:Heap}{f:Addr}{fd:FuncData}
theorem vS:zu ["_law_cells","_law_pool_here","_law_ends","_law_places","_law_tags","_law_used","_law_k","_law_cell","_law_number","_law_name","_law_free","_law_tail"] ["_law_cells","_law_pool_here","_law_ends"] (zg zjs):=⟨rfl,rfl,rfl,by decide +kernel,rfl,by decide +kernel,by decide +kernel⟩
theorem zjR{g1:Addr}{d1:FuncData}(F:Fun K "_law_row" "_law_row" zjs f fd) (U:zkd mg) (cS:zK P w K mg base 1 "_law_stirred" g1 d1 ["_law_cell","_law_k"] zch):zJ P w K mg base CX0 2 f fd ["_law_cells","_law_pool_here","_law_ends"] (ziD K):=by
 refine F.ok vS (fun vs H Q E h=>?_) (fun cdv A outer s H vs Q E hr h=>?_)
 ·obtain⟨a,pa,cs,zs,ends,rfl,_⟩:=h
  rfl
 obtain⟨a,pa,cs,zs,ends,rfl,hS,l20,hpa,z0,z26,hzn,q⟩:=h;refine⟨_,zj (zy (i:=3) vS.nd rfl (Or.inl rfl) (zW zd))
   (zj (zy (i:=4) vS.nd rfl (Or.inl rfl) (zW zd))
   (zj (zy (i:=5) vS.nd rfl (Or.inl rfl) (zW zd))
   (zj (yW PassesOwn.never rfl (wS rfl U.en (ac (pv 0) zd)) (xf rfl (zL (zk (i:=6) vS.nd rfl (Or.inl rfl)) (zL (zk (i:=7) vS.nd rfl (Or.inl rfl)) yL)))
   (zj (zy (i:=8) vS.nd rfl (Or.inl rfl) (cF cS hr (ac (pv 7) (ac (pv 6) zd))))
   (zj (zy (i:=9) vS.nd rfl (Or.inl rfl) (zB yR (pv 1) (zz yt (zz yC (pv 8) zf) (cB zF U.len PySem.boot_len (ac (pv 1) zd))) (fun _ _=>rfl)))
   (zj (zy (i:=10) vS.nd rfl (Or.inl rfl) (xZ yx (zz yt (zz yC (pv 8) zf) zf) zf (zI _)))
   (ze (zP (zo vU (zz yt (pv 8) zf) zf (zI _)) (ze (z6 (xL PySem.F.plainAttrs_list PySem.F.slot_list_append PySem.F.type_list_append yu (pv 3) (ac (zZ (ac zD (ac (pv 9) (ac (pv 10) zd)))) zd)))) (ze (zP (PW.pt (xa (zo vU (zz yt (pv 8) zf) zf (zI _)) (yQ (zo yv (pv 9) (pv 5) (by with_unfolding_all rfl))))) (zj (z6 (xL PySem.F.plainAttrs_list PySem.F.slot_list_append PySem.F.type_list_append yu (pv 5) (ac (pv 9) zd))) (ze (zP (zo vU (zz yt (pv 8) zf) zf (zI _)) (ze (z6 (xL PySem.F.plainAttrs_list PySem.F.slot_list_append PySem.F.type_list_append yu (pv 3) (ac (zZ (ac zD (ac (pv 9) (ac (pv 10) zd)))) zd)))) (ze (z6 (xL PySem.F.plainAttrs_list PySem.F.slot_list_append PySem.F.type_list_append yu (pv 4) (ac (zZ (ac zD (ac (pv 9) (ac (pv 10) zd)))) zd))))))) zE))))))))
   (zj (zy (i:=11) vS.nd rfl (Or.inl rfl) (zz zf1 (zW (ac (zZ (ac zD (ac (zB yR (pv 1) (zz yt (zz yC (pv 2) zf) (cB zF U.len PySem.boot_len (ac (pv 1) zd))) (fun _ _=>rfl)) zd))) zd)) (zz yt (pv 2) zf)))
   (ze (zC (zz ym (zz ym (zz ym (pv 3) (pv 11)) (pv 4)) (zz zf1 (zW (ac (zZ (ac zD (ac (zB yR (pv 1) (zz yt (zz yC (pv 2) zf) (cB zF U.len PySem.boot_len (ac (pv 1) zd))) (fun _ _=>rfl)) zd))) zd)) (zz yt (zz yC (pv 2) zf) zf))))))))),?_⟩
 refine⟨zz0,fun lp hlp=>?_⟩;have s1:=zc hlp (.lst []);have g1:upd H lp (.lst []) lp=some (.lst []):=za;dsimp only[zN];generalize upd H lp (.lst [])=H1 at s1 g1 |-;refine⟨zz0,fun lt hlt=>?_⟩;have s2:=zc hlt (.lst []);have g2:upd H1 lt (.lst []) lt=some (.lst []):=za;dsimp only[zN];generalize upd H1 lt (.lst [])=H2 at s2 g2 |-;refine⟨zz0,fun ll hll=>?_⟩;have s3:=zc hll (.lst []);have g3:upd H2 ll (.lst []) ll=some (.lst []):=za;dsimp only[zN];generalize upd H2 ll (.lst [])=H3 at s3 g3 |-;have I0:FI H H3 lp lt ll ⟨[],[],[],[],[]⟩:=⟨s1.trans (s2.trans s3),⟨[],s3 _ _ (s2 _ _ g1),.nil⟩,⟨[],s3 _ _ g2,.nil⟩,g3,zi g1 hlt,zi (s2 _ _ g1) hll,zi g2 hll,hlp,s1.free hlt,(s1.trans s2).free hll⟩;have pick:∀(x:Int),∃j,x % (zs.length:Int)=((j:Nat):Int)/\∃h:j<zs.length,atI (zs.map V.str) (x % (zs.length:Int))=some (.str zs[j]):=fun x=>by
  have d0 : 0<=x % (zs.length:Int):=emod_nonneg _ (by omega)
  have d1:x % (zs.length:Int)<(zs.length:Int):=emod_lt_of_pos _ (by omega)
  obtain⟨j,hj⟩:=Int.eq_ofNat_of_zero_le d0;have hjl:j<zs.length:=by omega
  exact⟨j,hj,hjl,by rw[hj];exact wY (by rw[getElem?_map,getElem?_eq_getElem hjl];rfl)⟩
 have lz:((zs.map V.str).length:Int)=(zs.length:Int):=by rw[length_map]
 refine⟨_,rfl,a,rfl,⟨_,I0.sm.seq hS⟩,vo (K:=K) (a:=a) (xs:=cs.map V.int) (fun i σ H'=>∃(S:FS) (v6 v7 v8 v9 v10 v11:Option V),σ=[some (.ref a),some (.ref pa),some (.int ends),some (.ref lp),some (.ref lt),some (.ref ll),v6,v7,v8,v9,v10,v11]/\FI H H' lp lt ll S/\FM i S/\S.T=[]/\S.B=[]/\∀y∈S.L,y∈zs)
  ⟨⟨[],[],[],[],[]⟩,_,_,_,_,_,_,rfl,I0,FM.zero,rfl,rfl,(fun y h=>nomatch h)⟩ (fun i σ H' _ ⟨_,_,_,_,_,_,_,_,h,_⟩=>h.sm.seq hS) ?_ ?_⟩
 ·rintro i x p σ H4 hx ⟨S,v6,v7,v8,v9,v10,v11,rfl,I4,M4,eT,eB,pL⟩ hpn
  obtain⟨n,hn,rfl⟩:∃n,cs[i]?=some n/\x=.int n:=by
   rw[getElem?_map] at hx;cases e:cs[i]? with
   | none=>rw[e] at hx;cases hx
   | some n=>rw[e] at hx;cases hx;exact⟨n,rfl,rfl⟩
  have hi:i<cs.length:=(List.getElem?_eq_some_iff.mp hn).1;have sp:=zc hpn (.tup [.int (i:Nat),.int n]);have I5:=I4.same sp;refine⟨p,_,rfl,SqT.of za,rfl,_,_,rfl,_,_,rfl,rfl,?_⟩;generalize upd H4 p (.tup [.int (i:Nat),.int n])=H5 at sp I5 |-;refine⟨_,rfl,_,rfl,n,_,rfl,?_⟩;generalize ziz n (i:Nat)=mm;obtain⟨j,hj,hjl,hat⟩:=pick (mm / 16);have hpa5:=I5.sm _ _ hpa;refine⟨_,rfl,_,rfl,_,_,rfl,rfl,⟨by decide,by decide⟩,_,rfl,pa,_,rfl,.inl (SqL.of hpa5),_,_,rfl,rfl,(by rw[lz];omega),pa,_,_,.str zs[j],rfl,rfl,SqL.of hpa5,(by rw[lz];exact hat),?_⟩
  have hz:=hzn _ (getElem_mem hjl);have hzz:=getElem_mem hjl;generalize zs[j]=z at hz hzz |-;refine⟨_,rfl,_,_,rfl,rfl,⟨by decide,by decide⟩,_,_,rfl,rfl,zp2,rfl,?_⟩
  dsimp only[zN];generalize decide (V.int (mm / 160 % 2)=V.int 1)=fb;have lP:S.P.length<=24:=by have:=M4.ln;omega
  have lG:S.G.length<=24:=by have:=M4.ln;omega
  have lL:=M4.lL;refine⟨_,rfl,_,_,rfl,rfl,zp16,_,_,rfl,rfl,_,rfl,?_⟩;have fin:∀{k:Nat}{H':Hp},FI H H' lp lt ll (S.add k z fb)->k<5->k≠2->k≠4->(yd k=true->z∉S.L)->∃(S:FS) (v6 v7 v8 v9 v10 v11':Option V),([some (.ref a),some (.ref pa),some (.int ends),some (.ref lp),some (.ref lt),some (.ref ll),some (.int (i:Nat)),some (.int n),some (.int mm),some (.str z),some (.bl fb),v11]:L2.St)=[some (.ref a),some (.ref pa),some (.int ends),some (.ref lp),some (.ref lt),some (.ref ll),v6,v7,v8,v9,v10,v11']/\FI H H' lp lt ll S/\FM (i+1) S/\S.T=[]/\S.B=[]/\∀y∈S.L,y∈zs:=fun {k H'} I hk h2 h4 hn=>by
   refine⟨S.add k z fb,_,_,_,_,_,_,rfl,I,M4.add hk hz hn,?_,?_,?_⟩;rotate_left 2
   ·have two:∀y∈S.L++[z],y∈zs:=uE pL hzz
    rcases lt5 hk with rfl|rfl|rfl|rfl|rfl
    ·exact pL
    ·exact two
    ·exact pL
    ·exact two
    ·exact pL
   ·rcases lt5 hk with rfl|rfl|rfl|rfl|rfl
    ·exact eT
    ·exact eT
    ·exact absurd rfl h2
    ·exact eT
    ·exact absurd rfl h4
   ·rcases lt5 hk with rfl|rfl|rfl|rfl|rfl
    ·exact eB
    ·exact eB
    ·exact absurd rfl h2
    ·exact eB
    ·exact absurd rfl h4
  by_cases c1:mm % 16<4
  ·refine dT (by exact c1) ?_
   obtain⟨us,h1,h2⟩:=I5.hp;have hlu:us.length<=24:=by rw[h2.length];exact lP
   refine⟨_,rfl,.inl ⟨rfl,_,SqL.of h1⟩,_,rfl,_,rfl,zz3,fun u hu=>?_⟩;have s7:=zc hu (.tup [.str "seat",.str z,.bl fb]);have tu:TAt (upd H5 u (.tup [.str "seat",.str z,.bl fb])) u ⟨0,z,fb⟩:=za;refine⟨lp,_,_,rfl,rfl,s7 _ _ h1,zT (by rw[length_map];omega),?_⟩
   exact fin (k:=0) ((I5.same s7).addP (s7 _ _ h1) (zr s7 h2) tu) (by decide) (by decide) (by decide) (fun e=>by cases e)
  refine dF (by exact c1) ?_
  refine⟨_,rfl,_,_,rfl,rfl,zp16,_,_,rfl,rfl,_,rfl,?_⟩;have skip:∃(S:FS) (v6 v7 v8 v9 v10 v11':Option V),([some (.ref a),some (.ref pa),some (.int ends),some (.ref lp),some (.ref lt),some (.ref ll),some (.int (i:Nat)),some (.int n),some (.int mm),some (.str z),some (.bl fb),v11]:L2.St)=[some (.ref a),some (.ref pa),some (.int ends),some (.ref lp),some (.ref lt),some (.ref ll),v6,v7,v8,v9,v10,v11']/\FI H H5 lp lt ll S/\FM (i+1) S/\S.T=[]/\S.B=[]/\∀y∈S.L,y∈zs:=
   ⟨S,_,_,_,_,_,_,rfl,I5,⟨M4.okP,M4.okT,M4.okG,M4.okB,M4.lT,M4.lB,M4.nd,M4.sn,le_succ_of_le M4.ln,le_succ_of_le M4.lL⟩,eT,eB,pL⟩
  by_cases c2:mm % 16<14
  rotate_left
  ·refine dF (by exact c2) ?_
   refine yq ?_;exact skip
  refine dT (by exact c2) ?_
  refine⟨_,rfl,_,rfl,ll,_,rfl,.inl (SqL.of I5.hl),rfl,yA,_,rfl,?_⟩;by_cases hz1:z∈S.L
  ·refine yS (by rw[if_pos rfl,y6,decide_eq_true hz1];rfl) ?_
   exact skip
  refine xB (by rw[if_pos rfl,y6,decide_eq_false hz1];rfl) ?_
  refine⟨_,rfl,.inl ⟨rfl,_,SqL.of I5.hl⟩,_,rfl,ll,_,_,rfl,rfl,I5.hl,zT (by rw[length_map];omega),?_⟩
  have I6:=I5.addL (z:=z);dsimp only[ziv];generalize upd H5 ll (.lst (S.L.map V.str++[.str z]))=H6 at I6 |-;refine⟨_,rfl,_,_,rfl,rfl,zp16,_,_,rfl,rfl,_,rfl,?_⟩;by_cases c3:mm % 16<10
  ·refine dT (by exact c3) ?_
   obtain⟨us,h1,h2⟩:=I6.hp;have hlu:us.length<=24:=by rw[h2.length];exact lP
   refine⟨_,rfl,.inl ⟨rfl,_,SqL.of h1⟩,_,rfl,_,rfl,zz3,fun u hu=>?_⟩;have s7:=zc hu (.tup [.str "both",.str z,.bl fb]);have tu:TAt (upd H6 u (.tup [.str "both",.str z,.bl fb])) u ⟨1,z,fb⟩:=za;refine⟨lp,_,_,rfl,rfl,s7 _ _ h1,zT (by rw[length_map];omega),?_⟩
   exact fin (k:=1) ((I6.same s7).addP (s7 _ _ h1) (zr s7 h2) tu) (by decide) (by decide) (by decide) (fun _=>hz1)
  ·refine dF (by exact c3) ?_
   obtain⟨us,h1,h2⟩:=I6.ht;have hlu:us.length<=24:=by rw[h2.length];exact lG
   refine⟨_,rfl,.inl ⟨rfl,_,SqL.of h1⟩,_,rfl,_,rfl,zz3,fun u hu=>?_⟩;have s7:=zc hu (.tup [.str "tag",.str z,.bl fb]);have tu:TAt (upd H6 u (.tup [.str "tag",.str z,.bl fb])) u ⟨3,z,fb⟩:=za;refine⟨lt,_,_,rfl,rfl,s7 _ _ h1,zT (by rw[length_map];omega),?_⟩
   exact fin (k:=3) ((I6.same s7).addG (s7 _ _ h1) (zr s7 h2) tu) (by decide) (by decide) (by decide) (fun _=>hz1)
 ·rintro σ H4 ⟨S,v6,v7,v8,v9,v10,v11,rfl,I4,M4,eT,eB,pL⟩
  have hlen:cs.length<=20:=l20;rw[length_map] at M4;have one:∀{T:List Rw}{k:Nat}{z:Str},T=[⟨k,z,true⟩]\/T=[]->T.length<=1:=fun h=>by rcases h with rfl|rfl <;> simp
  have lP:=M4.ln;obtain⟨j,hj,hjl,hat⟩:=pick (ends / 4);have hpa4:=I4.sm _ _ hpa;refine⟨_,rfl,_,rfl,_,_,rfl,rfl,⟨by decide,by decide⟩,_,rfl,pa,_,rfl,.inl (SqL.of hpa4),_,_,rfl,rfl,(by rw[lz];omega),pa,_,_,.str zs[j],rfl,rfl,SqL.of hpa4,(by rw[lz];exact hat),zz2,fun u1 hu1=>?_⟩
  have hz1:=hzn _ (getElem_mem hjl);generalize zs[j]=z1 at hz1 |-;have s5:=zc hu1 (.tup [.str "tail",.str z1]);have tu1:TAt (upd H4 u1 (.tup [.str "tail",.str z1])) u1 ⟨2,z1,true⟩:=za;have I5:=I4.same s5;generalize upd H4 u1 (.tup [.str "tail",.str z1])=H5 at s5 tu1 I5 |-;refine⟨zz1,fun l1 hl1=>?_⟩;have s6:=zc hl1 (.lst [.ref u1]);have g6:upd H5 l1 (.lst [.ref u1]) l1=some (.lst [.ref u1]):=za;have I6:=I5.same s6;have tu1:=tu1.same s6;generalize upd H5 l1 (.lst [.ref u1])=H6 at s6 g6 I6 tu1 |-;have b0 : 0<=ends % 2:=emod_nonneg _ (by decide)
  have b1:ends % 2<2:=emod_lt_of_pos _ (by decide)
  refine⟨_,rfl,_,_,rfl,rfl,zp2,l1,ends % 2,_,rfl,rfl,g6,by omega,by omega,(by show 1 * _<=sizeLine;exact z3 (by omega)),fun p1 hp1=>?_⟩
  obtain⟨usT,T1,eT1,hT1,hTT⟩:∃(us:List Addr) (T:List Rw),(List.replicate (ends % 2).toNat [V.ref u1]).flatten=us.map V.ref/\Paired (TAt H6) us T/\(T=[⟨2,z1,true⟩]\/T=[]):=by
   by_cases hb:ends % 2=1
   ·rw[hb];exact⟨[u1],_,rfl,.cons tu1 .nil,.inl rfl⟩
   ·rw[show ends % 2=0 by omega];exact⟨[],_,rfl,.nil,.inr rfl⟩
  rw[eT1];have s7:=zc hp1 (.lst (usT.map V.ref));have g7:upd H6 p1 (.lst (usT.map V.ref)) p1=some (.lst (usT.map V.ref)):=za;have I7:=I6.same s7;have hT1:=zr s7 hT1;dsimp only[zN];generalize upd H6 p1 (.lst (usT.map V.ref))=H7 at s7 g7 I7 hT1 |-;have M7:FM (cs.length+1) { S with T:=T1 }:=by
   rcases hTT with rfl|rfl
   ·exact M4.add (k:=2) (b:=true) (by decide) hz1 (fun e=>by cases e)
   ·rw[show({ S with T:=[] }:FS)=S by cases S;cases eT;rfl]
    exact⟨M4.okP,M4.okT,M4.okG,M4.okB,M4.lT,M4.lB,M4.nd,M4.sn,le_succ_of_le M4.ln,le_succ_of_le M4.lL⟩
  obtain⟨us1,h11,h12⟩:=I7.hp;obtain⟨us3,h31,h32⟩:=I7.ht;have lT1:usT.length<=1:=by rw[hT1.length];exact one hTT
  have l1':us1.length=S.P.length:=h12.length;have l3':us3.length=S.G.length:=h32.length;refine⟨_,rfl,_,rfl,lp,p1,_,_,rfl,rfl,h11,g7,z3 (by rw[length_map,length_map];omega),fun x1 hx1=>?_⟩
  rw[<- map_append];have s8:=zc hx1 (.lst ((us1++usT).map V.ref));have g8:upd H7 x1 (.lst ((us1++usT).map V.ref)) x1=some (.lst ((us1++usT).map V.ref)):=za;generalize upd H7 x1 (.lst ((us1++usT).map V.ref))=H8 at s8 g8 |-;refine⟨_,rfl,x1,lt,_,_,rfl,rfl,g8,s8 _ _ h31,z3 (by rw[length_map,length_map,length_append];omega),fun x2 hx2=>?_⟩
  rw[<- map_append];have s9:=zc hx2 (.lst ((us1++usT++us3).map V.ref));have g9:upd H8 x2 (.lst ((us1++usT++us3).map V.ref)) x2=some (.lst ((us1++usT++us3).map V.ref)):=za;generalize upd H8 x2 (.lst ((us1++usT++us3).map V.ref))=H9 at s9 g9 |-;have I9:=I7.same (s8.trans s9);obtain⟨j2,hj2,hjl2,hat2⟩:=pick (ends / 40);have hpa9:=I9.sm _ _ hpa;refine⟨_,rfl,_,rfl,_,_,rfl,rfl,⟨by decide,by decide⟩,_,rfl,pa,_,rfl,.inl (SqL.of hpa9),_,_,rfl,rfl,(by rw[lz];omega),pa,_,_,.str zs[j2],rfl,rfl,SqL.of hpa9,(by rw[lz];exact hat2),zz2,fun u2 hu2=>?_⟩
  have hz2:=hzn _ (getElem_mem hjl2);generalize zs[j2]=z2 at hz2 |-;have s10:=zc hu2 (.tup [.str "bag",.str z2]);have tu2:TAt (upd H9 u2 (.tup [.str "bag",.str z2])) u2 ⟨4,z2,true⟩:=za;generalize upd H9 u2 (.tup [.str "bag",.str z2])=H10 at s10 tu2 |-;refine⟨zz1,fun l2 hl2=>?_⟩;have s11:=zc hl2 (.lst [.ref u2]);have g11:upd H10 l2 (.lst [.ref u2]) l2=some (.lst [.ref u2]):=za;have tu2:=tu2.same s11;generalize upd H10 l2 (.lst [.ref u2])=H11 at s11 g11 tu2 |-;have c0 : 0<=ends / 2 % 2:=emod_nonneg _ (by decide)
  have c1:ends / 2 % 2<2:=emod_lt_of_pos _ (by decide)
  refine⟨_,rfl,_,_,rfl,rfl,⟨by decide,by decide⟩,_,_,rfl,rfl,zp2,l2,ends / 2 % 2,_,rfl,rfl,g11,by omega,by omega,(by show 1 * _<=sizeLine;exact z3 (by omega)),fun p2 hp2=>?_⟩
  obtain⟨usB,B1,eB1,hB1,hBB⟩:∃(us:List Addr) (B:List Rw),(List.replicate (ends / 2 % 2).toNat [V.ref u2]).flatten=us.map V.ref/\Paired (TAt H11) us B/\(B=[⟨4,z2,true⟩]\/B=[]):=by
   by_cases hb:ends / 2 % 2=1
   ·rw[hb];exact⟨[u2],_,rfl,.cons tu2 .nil,.inl rfl⟩
   ·rw[show ends / 2 % 2=0 by omega];exact⟨[],_,rfl,.nil,.inr rfl⟩
  rw[eB1];have s12:=zc hp2 (.lst (usB.map V.ref));have g12:upd H11 p2 (.lst (usB.map V.ref)) p2=some (.lst (usB.map V.ref)):=za;have hB1:=zr s12 hB1;generalize upd H11 p2 (.lst (usB.map V.ref))=H12 at s12 g12 hB1 |-;have s912:zm H9 H12:=s10.trans (s11.trans s12);have lB1:usB.length<=1:=by rw[hB1.length];exact one hBB
  refine⟨x2,p2,_,_,rfl,rfl,s912 _ _ g9,g12,z3 (by rw[length_map,length_map,length_append,length_append];omega),fun x3 hx3=>?_⟩
  rw[<- map_append];have s13:=zc hx3 (.lst ((us1++usT++us3++usB).map V.ref));have M13:FM (cs.length+1+1) { S with T:=T1,B:=B1 }:=by
   rcases hBB with rfl|rfl
   ·exact M7.add (k:=4) (b:=true) (by decide) hz2 (fun e=>by cases e)
   ·rw[show({ S with T:=T1,B:=[] }:FS)={ S with T:=T1 } by cases S;cases eB;rfl]
    exact⟨M7.okP,M7.okT,M7.okG,M7.okB,M7.lT,M7.lB,M7.nd,M7.sn,le_succ_of_le M7.ln,le_succ_of_le M7.lL⟩
  have s713:=(s8.trans s9).trans (s912.trans s13);refine q x3 _ _ _ (I7.sm.trans s713) (I7.sm.free ((s8.trans s9).free (s912.free hx3))) za ?_ (M13.vr (by omega)) (fun z hz=>pL z (M13.sn z (by
   have n1:nms T1=[]:=vI M13.okT rfl;have n2:nms B1=[]:=vI M13.okB rfl;unfold FS.rows at hz;rw[yg,yg,yg] at hz;dsimp only at hz;rw[n1,n2,append_nil,append_nil] at hz;exact hz))) ⟨_,rfl,M13.okP,M13.okT,M13.okG,M13.okB,M13.lT,M13.lB,M13.nd,M13.sn,Nat.le_trans M13.ln (by omega),Nat.le_trans M13.lL (by omega)⟩
  exact yl (yl (yl (zr s713 h12) (zr s713 hT1)) (zr s713 h32)) (zr s13 hB1)
end
theorem xg{r:Rw}(h:r.ok):atI (rv r) 0=some (.str (kw r.k)):=by
 obtain⟨k,z,b⟩:=r;rcases lt5 h.1 with e|e|e|e|e <;> (cases e;rfl)
theorem uu{r:Rw}(h:r.ok):atI (rv r) 1=some (.str r.z):=by
 obtain⟨k,z,b⟩:=r;rcases lt5 h.1 with e|e|e|e|e <;> (cases e;rfl)
theorem zc4{k:Nat}(h:k<5):inV (.str (kw k)) [.str "both",.str "tag"]=yd k:=zab k h
theorem zgD{k:Nat}(h:k<5):inV (.str (kw k)) [.str "seat",.str "both"]=wm k:=zgE k h
theorem zaX{R:Addr->Rw->Prop}{us:List Addr}{rows:List Rw}(h:Paired R us rows):((us.zip rows).filter fun p=>yd p.2.k).map (fun p=>V.str p.2.z)=(nms rows).map V.str:=by
 have:=zar h (fun r=>yd r.k) (fun r=>V.str r.z)
 rw[this];unfold nms;rw[map_map];rfl
def zdw:Sp:=fun vs H Q _=>∃(la pa:Addr) (n:Int) (us:List Addr) (rows:List Rw) (zs:List Str),vs=[.ref la,.ref pa,.int n]/\H la=some (.lst (us.map V.ref))/\Paired (TAt H) us rows/\VR rows/\H pa=some (.lst (zs.map V.str))/\zs.Nodup/\zs.length<=26/\
 ∀(l:Addr) (bars:List Str) (H':Hp),zm H H'->H l=none->H' l=some (.lst (bars.map V.str))->bars.Nodup->(∀z∈bars,z∈zs)->(∀z∈bars,z∉nms rows)->bars.length<=26->Q (.ref l) H'
section
variable {P:Program}{w:World}{K:Frag}{mg:Str->Option Value}{base:Heap}{f:Addr}{fd:FuncData}
theorem ziR:([Str.ofString "_law_this"]:List Str).Nodup:=by decide +kernel
theorem uo:zu ["_law_row_here","_law_pool_here","_law_number","_law_known","_law_found","_law_name"] ["_law_row_here","_law_pool_here","_law_number"] (zg zfL):=⟨rfl,rfl,rfl,by decide +kernel,rfl,by decide +kernel,by decide +kernel⟩
theorem zgj(F:Fun K "_law_bars" "_law_bars" zfL f fd):zJ P w K mg base CX0 1 f fd ["_law_row_here","_law_pool_here","_law_number"] zdw:=by
 refine F.ok uo (fun vs H Q E h=>?_) (fun cdv A outer s H vs Q E hr h=>?_)
 ·obtain⟨la,pa,n,us,rows,zs,rfl,_⟩:=h
  rfl
 obtain⟨la,pa,n,us,rows,zs,rfl,hla,hu,V1,hpa,zn,l26,q⟩:=h;refine⟨_,zj (vi (i:=3) [] ["_law_this"] [none] uo.nd rfl (Or.inl rfl) rfl ⟨rfl,rfl,rfl,rfl⟩ (zM (pv 0)) (zG 0) rfl rfl rfl
   (fun pins fp s H C=>⟨zk (i:=0) ziR rfl (Or.inl rfl) (.inr rfl),yk (zo (r:=rIn K false) yn (zB (r:=xk K) zw (pv 0) zf (fun _ _=>rfl)) (zW (ac zD (ac zD zd))) (by with_unfolding_all rfl)),zB (r:=xk K) zw (pv 0) zf (fun _ _=>rfl)⟩))
  (zj (zy (i:=4) uo.nd rfl (Or.inl rfl) (zW zd))
  (zj (yW PassesOwn.never rfl (zM (pv 1)) (zk (i:=5) uo.nd rfl (Or.inl rfl))
   (zj (zP (PW.pt (xa (zo yv (pv 5) (pv 3) (by with_unfolding_all rfl)) (yQ (zo yx (zz yt (pv 2) zf) zf (zI _))))) (ze (z6 (xL PySem.F.plainAttrs_list PySem.F.slot_list_append PySem.F.type_list_append yu (pv 4) (ac (pv 5) zd)))) zE)
   (ze (zy (i:=2) uo.nd rfl (Or.inl rfl) (zz yC (pv 2) zf)))))
  (ze (zC (pv 4))))),?_⟩
 have l24:=V1.l24;refine⟨_,rfl,la,rfl,⟨_,SqL.of hla⟩,fun D hD=>?_⟩;refine wx (K:=K) TAt (fun r=>yd r.k) (fun _ r=>.str r.z) hD hla hu (by omega) (fun i u r H' N S hu' hr' tr sH n1 s1=>?_) (fun H1 s1 hD1=>?_)
 ·have rk:=V1.ok r (mem_of_getElem? hr')
  have tu:=sH _ _ tr;refine⟨_,rfl,u,_,0,_,rfl,rfl,SqT.of tu,xg rk,zz2,fun l hl=>?_⟩;have s2:=zc hl (.lst [.str "both",.str "tag"]);refine⟨l,_,rfl,.inl (SqL.of za),rfl,rfl,_,rfl,?_⟩;rw[if_neg Bool.false_ne_true,zc4 rk.1];exact⟨fun e=>⟨_,rfl,u,_,1,_,rfl,rfl,SqT.of (s2 _ _ tu),uu rk,n1 _ s2 e⟩,fun e=>s1 _ s2 e⟩
 rw[zaX hu] at hD1;refine⟨zz0,fun fo hfo=>?_⟩;have s2:=zc hfo (.lst []);have g2:upd H1 fo (.lst []) fo=some (.lst []):=za;dsimp only[zN];generalize upd H1 fo (.lst [])=H2 at s2 g2 |-;have s12:=s1.trans s2;have nD:=s2 _ _ hD1;have nfo:H fo=none:=s1.free hfo;have neD:D≠fo:=zi hD1 hfo;refine⟨_,rfl,pa,rfl,⟨_,SqL.of (s12 _ _ hpa)⟩,xn (K:=K) (a:=pa) (xs:=zs.map V.str) (fun i σ H'=>∃(m:Int) (bars:List Str) (v5:Option V),σ=[some (.ref la),some (.ref pa),some (.int m),some (.ref D),some (.ref fo),v5]/\zm H H'/\H' D=some (.lst ((nms rows).map V.str))/\H' fo=some (.lst (bars.map V.str))/\bars.Nodup/\(∀z∈bars,z∈zs.take i)/\(∀z∈bars,z∉nms rows)/\bars.length<=i)
  ⟨n,[],_,rfl,s12,nD,g2,nodup_nil,(fun _ h=>nomatch h),(fun _ h=>nomatch h),Nat.le_refl _⟩ (fun i σ H' _ ⟨_,_,_,_,sH,_⟩=>SqL.of (sH _ _ hpa)) ?_ ?_⟩
 ·rintro i x σ H' hx ⟨m,bars,v5,rfl,sH,hD',hfo',bn,bz,bk,bl⟩
  obtain⟨z,hz,rfl⟩:=strs_at hx;have hi:i<zs.length:=(List.getElem?_eq_some_iff.mp hz).1;have ez:zs[i]=z:=(List.getElem?_eq_some_iff.mp hz).2;have tk:zs.take (i+1)=zs.take i++[z]:=by rw[take_succ_eq_append_getElem hi,ez]
  have zt:z∉zs.take i:=by
   have:=zn.sublist (take_sublist (i+1) zs)
   rw[tk] at this;exact fun h=>(List.nodup_append.mp this).2.2 z h z (List.mem_singleton.mpr rfl) rfl
  have skip:∃(m':Int) (bars:List Str) (v5:Option V),([some (.ref la),some (.ref pa),some (.int (m / 3)),some (.ref D),some (.ref fo),some (.str z)]:L2.St)=[some (.ref la),some (.ref pa),some (.int m'),some (.ref D),some (.ref fo),v5]/\zm H H'/\H' D=some (.lst ((nms rows).map V.str))/\H' fo=some (.lst (bars.map V.str))/\bars.Nodup/\(∀z∈bars,z∈zs.take (i+1))/\(∀z∈bars,z∉nms rows)/\bars.length<=i+1:=
   ⟨_,bars,_,rfl,sH,hD',hfo',bn,fun y hy=>by rw[tk];exact mem_append_left _ (bz y hy),bk,le_succ_of_le bl⟩
  refine⟨_,rfl,_,rfl,D,_,rfl,.inl (SqL.of hD'),rfl,yA,_,rfl,?_⟩;by_cases hk:z∈nms rows
  ·refine yS (by rw[if_pos rfl,y6,decide_eq_true hk];rfl) ?_
   refine yq ?_;exact⟨_,rfl,_,_,rfl,rfl,⟨by decide,by decide⟩,skip⟩
  refine xB (by rw[if_pos rfl,y6,decide_eq_false hk];rfl) ?_
  refine⟨_,rfl,_,_,rfl,rfl,(by show(0:Int)<3;decide),rfl,_,rfl,?_⟩
  refine za4 (fun _=>?_) (fun _=>?_)
  ·refine⟨_,rfl,.inl ⟨rfl,_,SqL.of hfo'⟩,_,rfl,fo,_,_,rfl,rfl,hfo',zT (by rw[length_map];omega),?_⟩
   refine⟨_,rfl,_,_,rfl,rfl,⟨by decide,by decide⟩,?_⟩
   refine⟨_,bars++[z],_,rfl,fun b u e=>by rw[zh (zi e nfo)];exact sH _ _ e,by rw[zh neD];exact hD',by rw[za,map_append];rfl,?_,?_,?_,by rw[length_append];exact Nat.succ_le_succ bl⟩
   ·exact List.nodup_append.mpr ⟨bn,by simp,fun x hx y hy e=>zt (by rw[<- List.mem_singleton.mp hy,<- e];exact bz x hx)⟩
   ·rw[tk]
    intro y hy;rcases List.mem_append.mp hy with hy|hy
    ·exact mem_append_left _ (bz y hy)
    ·exact mem_append_right _ hy
   ·intro y hy
    rcases List.mem_append.mp hy with hy|hy
    ·exact bk y hy
    ·rw[List.mem_singleton.mp hy];exact hk
  ·exact⟨_,rfl,_,_,rfl,rfl,⟨by decide,by decide⟩,skip⟩
 ·rintro σ H' ⟨m,bars,v5,rfl,sH,hD',hfo',bn,bz,bk,bl⟩
  rw[length_map] at bl;exact⟨_,rfl,q fo bars H' sH nfo hfo' bn (fun z hz=>mem_of_mem_take (bz z hz)) bk (by omega)⟩
end
section
variable {zs:List Str}{D:FD}{bars:List Str}
theorem ziW{rows:List Rw}{S:FS}(e:rows=S.rows) (M:FM 22 S) (hz:∀z∈nms rows,z∈zs) (bd:bars.Nodup) (bz:∀z∈bars,z∈zs++yc) (bn:∀z∈bars,z∉nms rows):∃D:FD,rows=D.rows/\zY zs D bars:=by
 have er:S.rows=FD.rows ⟨S.P,S.T,S.G,S.B⟩:=by unfold FS.rows FD.rows;simp
 have g0:∀r∈S.P,r.k=0\/r.k=1:=fun r hr=>by
  obtain⟨⟨h1,_⟩,h2⟩:=M.okP r hr;rcases lt5 h1 with e|e|e|e|e <;> rw[e] at h2 |- <;> first|(exact .inl rfl)|(exact .inr rfl)|(exact absurd h2 (by decide))
 have gk:∀{r:Rw}{g k:Nat},r.ok->grp r.k=g->(∀j,j<5->grp j=g->j=k)->r.k=k:=fun h1 h2 h3=>h3 _ h1.1 h2;have enm:nms S.rows=nms S.P++nms S.G:=by
  unfold FS.rows;rw[yg,yg,yg,vI M.okT rfl,vI M.okB rfl];simp
 rw[e,enm] at hz bn;refine⟨⟨S.P,S.T,S.G,S.B⟩,e.trans er,fun r hr=>⟨g0 r hr,(M.okP r hr).1.2⟩,fun r hr=>⟨gk (M.okT r hr).1 (M.okT r hr).2 (by decide),(M.okT r hr).1.2⟩,M.lT,fun r hr=>⟨gk (M.okG r hr).1 (M.okG r hr).2 (by decide),(M.okG r hr).1.2⟩,fun r hr=>⟨gk (M.okB r hr).1 (M.okB r hr).2 (by decide),(M.okB r hr).1.2⟩,M.lB,List.nodup_append.mpr ⟨M.nd,bd,fun a ha c hc e=>bn c hc (e ▸ ha)⟩,fun z hz'=>?_,hz,by have:=M.ln;show S.P.length+S.G.length<=22;omega⟩
 rcases List.mem_append.mp hz' with h|h
 ·exact List.mem_append.mpr (.inl (hz z h))
 ·exact bz z h
end
def zaw(c:C5) (CF:Addr):Sp:=fun vs H Q _=>∃(la lb:Addr) (rows:List Rw) (bars:List Str),vs=[.ref la,.ref lb]/\xT H la rows/\H lb=some (.lst (bars.map V.str))/\jk rows bars/\∀(f:Addr) (H':Hp),zm H H'->xU c CF H' f rows bars->Q (.ref f) H'
section
variable {P:Program}{w:World}{K:Frag}{mg:Str->Option Value}{base:Heap}{f CF:Addr}{fd:FuncData}{c:C5}
theorem uB:([Str.ofString "_law_this"]:List Str).Nodup:=by decide +kernel
theorem zho:zu ["_law_row_here","_law_bars_here"] ["_law_row_here","_law_bars_here"] (zg zfG):=⟨rfl,rfl,rfl,by decide +kernel,rfl,by decide +kernel,by decide +kernel⟩
theorem zgh{gF g1:Addr}{eF e1:FuncData}(F:Fun K "_law_form" "_law_form" zfG f fd) (hlst:mg "list"=none) (mCF:mg "Form"=some (.ref CF)) (MF:Mk K CF gF) (GF:zJ P w K mg base CX0 3 gF eF ["self","parameters","bars"] (zkB c CF)) (bF:z7 K eF ["self","parameters","bars"] []) (cP:zK P w K mg base 5 "parameter_of" g1 e1 ["told"] (ziE K c)):zJ P w K mg base CX0 6 f fd ["_law_row_here","_law_bars_here"] (zaw c CF):=by
 refine F.ok zho (fun vs H Q E h=>?_) (fun cdv A outer s H vs Q E hr h=>?_)
 ·obtain⟨la,lb,rows,bars,rfl,_⟩:=h
  rfl
 obtain⟨la,lb,rows,bars,rfl,⟨us,hla,hu⟩,hlb,V1,q⟩:=h;have hr4:yw 4 _:=hr.mono (by decide)
 have lu:us.length=rows.length:=hu.length;have l24:=V1.l24;have l60:=V1.l60;refine⟨_,ze (zC (zdL MF GF hr4 rfl mCF bF .nil yp (ac (yP [] ["_law_this"] [none] rfl ⟨rfl,rfl,rfl,rfl⟩ (zM (pv 0)) (zG 0) rfl rfl rfl
   (fun pins fp s H C=>⟨zk (i:=0) uB rfl (Or.inl rfl) (.inr rfl),yK,cF cP hr (ac (pv 0) zd)⟩)) (ac (cTy yZ hlst PyProof.Rows.boot_list (ac (pv 1) zd)) zd)))),?_⟩
 refine⟨_,rfl,la,rfl,⟨_,SqL.of hla⟩,fun D hD=>?_⟩;refine zdR (K:=K) (bs:=rows) (PAt c) PAt.same PAt.upd (SqL.of hla) (by rw[length_map,lu]) (by omega) hD (fun i x r H' Qf Qs hx hr' sH qf=>?_) fun ps H1 s1 e1 p1=>?_
 ·obtain⟨u,hu',rfl⟩:=yV hx
  obtain⟨r2,hr2',tr⟩:=yb hu hu';rw[hr'] at hr2';cases hr2';have rk:=V1.ok r (mem_of_getElem? hr');exact⟨fun _=>⟨_,rfl,u,r.k,.str r.z,r.b,rfl,rk.1,sH _ _ tr,.inl ⟨r.z,rfl,j8 rk.2⟩,rk.2,fun o dx H5 s5 ho=>qf o H5 s5 ⟨dx,ho⟩⟩,fun e=>Bool.noConfusion e⟩
 refine⟨_,rfl,lb,_,rfl,.inl (SqL.of (s1 _ _ hlb)),fun l2 hl2=>?_⟩;have s2:=zc hl2 (.lst (bars.map V.str));have g2:upd H1 l2 (.lst (bars.map V.str)) l2=some (.lst (bars.map V.str)):=za;have e2:=s2 _ _ e1;have p2:=yG s2 p1;generalize upd H1 l2 (.lst (bars.map V.str))=H2 at s2 g2 e2 p2 |-;have s02:=s1.trans s2;intro x dx hx hdx hne;have smk:zm H2 (upd (upd H2 dx (.own x)) x (.ins CF dx [])):=xq hx hdx;have hx1:upd (upd H2 dx (.own x)) x (.ins CF dx []) x=some (.ins CF dx []):=za;generalize upd (upd H2 dx (.own x)) x (.ins CF dx [])=H5 at smk hx1 |-;refine⟨x,D,dx,.ref l2,ps,rows,bars,rfl,hx1,smk _ _ e2,yG smk p2,.inr ⟨l2,rfl,smk _ _ g2⟩,V1,fun H6 sx F6 L6=>?_⟩;exact⟨rfl,q x H6 (fun b' u e=>sx b' u (smk _ _ (s02 _ _ e)) (zi (s02 _ _ e) hx)) ⟨let ⟨dx,fs,lr,lb,ld,ps,h1,h2,h3,h4,h5,h6,_,_⟩:=F6;⟨dx,fs,lr,lb,ld,ps,h1,h2,h3,h4,h5,h6⟩,by omega,by omega,V1.ok⟩⟩
end
theorem zdF{r:Rw}(h:r.k=0\/r.k=1\/r.k=3):atI (rv r) 2=some (.bl r.b):=by
 obtain⟨k,z,b⟩:=r;rcases h with e|e|e <;> (cases e;rfl)
theorem qh{k:Nat}(hk:k<5):∀{rows:List Rw},(∀r∈rows,r.ok)->decide (kw k∈rows.map fun r=>kw r.k)=uI rows k
 | [],_=>rfl
 | r::rows,h=>by
  have ih:=qh hk (rows:=rows) fun r hr=>h r (mem_cons_of_mem _ hr);have e:=uc k hk r.k (h r mem_cons_self).1;have e':decide (kw k=kw r.k)=(r.k==k):=by
   rw[<- e];by_cases z:kw k=kw r.k
   ·rw[decide_eq_true z,z,decide_eq_true rfl]
   ·rw[decide_eq_false z,decide_eq_false (fun c=>z (V.str.inj c).symm)]
  unfold uI at ih |-;rw[any_cons,<- ih,<- e',map_cons];by_cases a:kw k=kw r.k
  ·rw[a,decide_eq_true mem_cons_self,decide_eq_true rfl];rfl
  ·by_cases b:kw k∈rows.map fun r=>kw r.k
   ·rw[decide_eq_true b,decide_eq_true (mem_cons_of_mem _ b),Bool.or_true]
   ·rw[decide_eq_false b,decide_eq_false a,decide_eq_false (fun c=>(List.mem_cons.mp c).elim a b)];rfl
structure zl7(mg:Str->Option Value):Prop where
 len:mg "len"=none
 set:mg "set"=none
def zat:Sp:=fun vs H Q _=>∃(la lb ln:Addr) (many:Nat) (rows:List Rw) (bars names:List Str),vs=[.ref la,.ref lb,.int many,.ref ln]/\xT H la rows/\(∀r∈rows,r.ok)/\rows.length<=24/\H lb=some (.lst (bars.map V.str))/\H ln=some (.lst (names.map V.str))/\names.Nodup/\names.length<=64/\∀H',zm H H'->Q (.bl (yN rows bars many names)) H'
section
variable {P:Program}{w:World}{K:Frag}{mg:Str->Option Value}{base:Heap}{f:Addr}{fd:FuncData}
theorem zcU{la D:Addr}{us:List Addr}{rows:List Rw}{σ : L2.St}{H:Hp}{Q:VK}{z:Str}(k:Nat) (hk:k<5) (ez:kw k=z) (hla:H la=some (.lst (us.map V.ref))) (hu:Paired (TAt H) us rows) (hok:∀r∈rows,r.ok) (hl:rows.length<=24) (hD:H D=none)
  (q:∀H',zm H H'->H' D=some (.lst (((rows.filter fun r=>r.k==k).map (·.z)).map V.str))->Q (.ref D) H'):LCr (Itl K la) [none] (zN 0) (zbk (tOp rEq (tOp (xk K) (zbj 0) (tC (.int 0))) (tC (.str z)))) (tOp (xk K) (zbj 0) (tC (.int 1))) σ H Q D:=by
 refine wx (K:=K) TAt (fun r=>r.k==k) (fun _ r=>.str r.z) hD hla hu (by omega) (fun i u r H' N S hu' hr' tr sH n1 s1=>?_) (fun H1 s1 hD1=>q H1 s1 ?_)
 ·have rk:=hok r (mem_of_getElem? hr')
  have tu:=sH _ _ tr;refine⟨_,rfl,u,_,0,_,rfl,rfl,SqT.of tu,xg rk,rfl,_,rfl,?_⟩;rw[<- ez,uc k hk r.k rk.1];exact⟨fun e=>⟨_,rfl,u,_,1,_,rfl,rfl,SqT.of tu,uu rk,n1 _ (zm.refl _) e⟩,fun e=>s1 _ (zm.refl _) e⟩
 ·rw[hD1,zar hu (fun r=>r.k==k) (fun r=>V.str r.z),map_map]
  rfl
theorem zcT{la D:Addr}{us:List Addr}{rows:List Rw}{σ : L2.St}{H:Hp}{Q:VK}{z:Str}(k:Nat) (hk:k<5) (ez:kw k=z) (hla:H la=some (.lst (us.map V.ref))) (hu:Paired (TAt H) us rows) (hok:∀r∈rows,r.ok) (hl:rows.length<=24) (hD:H D=none)
  (q:∀H' vs,zm H H'->H' D=some (.lst (vs.map V.ref))->Paired (TAt H') vs (rows.filter fun r=>r.k==k)->Q (.ref D) H'):LCr (Itl K la) [none] (zN 0) (zbk (tOp rEq (tOp (xk K) (zbj 0) (tC (.int 0))) (tC (.str z)))) (zbj 0) σ H Q D:=by
 refine wx (K:=K) TAt (fun r=>r.k==k) (fun u _=>.ref u) hD hla hu (by omega) (fun i u r H' N S hu' hr' tr sH n1 s1=>?_) (fun H1 s1 hD1=>?_)
 ·have rk:=hok r (mem_of_getElem? hr')
  have tu:=sH _ _ tr;refine⟨_,rfl,u,_,0,_,rfl,rfl,SqT.of tu,xg rk,rfl,_,rfl,?_⟩;rw[<- ez,uc k hk r.k rk.1];exact⟨fun e=>⟨_,rfl,n1 _ (zm.refl _) e⟩,fun e=>s1 _ (zm.refl _) e⟩
 ·obtain⟨vs,ev,p⟩:=ui (zr s1 hu) fun r=>r.k==k
  exact q H1 vs s1 (by rw[hD1,ev]) p
theorem wM:zu ["_law_row_here","_law_bars_here","_law_many","_law_names","_law_this","_law_places","_law_sorts","_law_late","_law_gone","_law_name"] ["_law_row_here","_law_bars_here","_law_many","_law_names"] (zg zaO):=⟨rfl,rfl,rfl,by decide +kernel,rfl,by decide +kernel,by decide +kernel⟩
theorem zf8(F:Fun K "_law_takes" "_law_takes" zaO f fd) (U:zl7 mg):zJ P w K mg base CX0 1 f fd ["_law_row_here","_law_bars_here","_law_many","_law_names"] zat:=by
 refine F.ok wM (fun vs H Q E h=>?_) (fun cdv A outer s H vs Q E hr h=>?_)
 ·obtain⟨la,lb,ln,many,rows,bars,names,rfl,_⟩:=h
  rfl
 obtain⟨la,lb,ln,many,rows,bars,names,rfl,⟨us,hla,hu⟩,hok,l24,hlb,hln,nd,l30,q⟩:=h;refine zA (vi (i:=5) [] ["_law_this"] [none] wM.nd rfl (Or.inl rfl) rfl ⟨rfl,rfl,rfl,rfl⟩ (zM (pv 0)) (zG 0) rfl rfl rfl
   (fun pins fp s H C=>⟨zk (i:=0) uB rfl (Or.inl rfl) (.inr rfl),yk (zo (r:=rIn K false) yn (zB (r:=xk K) zw (pv 0) zf (fun _ _=>rfl)) (zW (ac zD (ac zD zd))) (by with_unfolding_all rfl)),pv 0⟩)) ?_
 refine⟨_,rfl,la,rfl,⟨_,SqL.of hla⟩,fun D5 hD5=>?_⟩;refine wx (K:=K) TAt (fun r=>wm r.k) (fun u _=>.ref u) hD5 hla hu (by omega) (fun i u r H' N S hu' hr' tr sH n1 s1=>?_) (fun H1 s1 e1=>?_)
 ·have rk:=hok r (mem_of_getElem? hr')
  have tu:=sH _ _ tr;refine⟨_,rfl,u,_,0,_,rfl,rfl,SqT.of tu,xg rk,zz2,fun l hl=>?_⟩;have s2:=zc hl (.lst [.str "seat",.str "both"]);refine⟨l,_,rfl,.inl (SqL.of za),rfl,rfl,_,rfl,?_⟩;rw[if_neg Bool.false_ne_true,zgD rk.1];exact⟨fun e=>⟨_,rfl,n1 _ s2 e⟩,fun e=>s1 _ s2 e⟩
 obtain⟨vs,ev,p1⟩:=ui (zr s1 hu) fun r=>wm r.k;rw[ev] at e1;have p1:Paired (TAt H1) vs (wb rows):=p1;have okp:∀r∈wb rows,r.ok/\(r.k=0\/r.k=1):=fun r hr=>by
  obtain⟨a,b⟩:=List.mem_filter.mp hr;refine⟨hok r a,?_⟩;unfold wm at b;rcases Bool.or_eq_true_iff.mp b with h|h
  ·exact .inl (by simpa using h)
  ·exact .inr (by simpa using h)
 have lp:(wb rows).length<=24:=Nat.le_trans (length_filter_le _ _) l24;have lv:vs.length=(wb rows).length:=p1.length;clear ev;dsimp only[zN];refine zA (vi (i:=6) [] ["_law_this"] [none] wM.nd rfl (Or.inl rfl) rfl ⟨rfl,rfl,rfl,rfl⟩ (zM (pv 0)) (zG 0) rfl rfl rfl
   (fun pins fp s H C=>⟨zk (i:=0) uB rfl (Or.inl rfl) (.inr rfl),yK,zB (r:=xk K) zw (pv 0) zf (fun _ _=>rfl)⟩)) ?_
 refine⟨_,rfl,la,rfl,⟨_,SqL.of (s1 _ _ hla)⟩,fun D6 hD6=>?_⟩;refine wx (K:=K) TAt (fun _=>true) (fun _ r=>.str (kw r.k)) hD6 (s1 _ _ hla) (zr s1 hu) (by omega) (fun i u r H' N S hu' hr' tr sH n1 s1=>?_) (fun H2 s2 e2=>?_)
 ·exact⟨fun _=>⟨_,rfl,u,_,0,_,rfl,rfl,SqT.of (sH _ _ tr),xg (hok r (mem_of_getElem? hr')),n1 _ (zm.refl _) rfl⟩,fun e=>Bool.noConfusion e⟩
 rw[zar hu (fun _=>true) (fun r=>V.str (kw r.k)),List.filter_eq_self.mpr (fun _ _=>rfl),show rows.map (fun r=>V.str (kw r.k))=(rows.map fun r=>kw r.k).map V.str by rw[map_map];rfl] at e2
 have s12:=s1.trans s2;have e1:=s2 _ _ e1;have p1:=zr s2 p1;dsimp only[zN];refine zA (zP (PW.pt (xW (zo vU (cB qC U.len PySem.boot_len (ac (cTy (zak rfl) U.set PyProof.Rows.boot_set (ac (pv 3) zd)) zd)) (cB zF U.len PySem.boot_len (ac (pv 3) zd)) (zI _))
    (xD (PW.pt (xa (zo zf3 (pv 2) (cB zF U.len PySem.boot_len (ac (pv 5) zd)) (zI _)) (yQ (zo yv zD (pv 6) (by with_unfolding_all rfl)))))))) (ze (zC xX)) zE) ?_
 refine yB (fun σ' H'=>σ'=[some (.ref la),some (.ref lb),some (.int many),some (.ref ln),none,some (.ref D5),some (.ref D6),none,none,none]/\zm H2 H'/\(!(decide (plN rows<many)&&!uI rows 2))=true) ?_ (fun key=>?_);rotate_left
 ·refine⟨_,rfl,ln,_,rfl,SqL.of (s12 _ _ hln),by omega,fun l4 n4 hl4=>?_⟩
  have s4:=zc hl4 (wv P w l4 (fun z=>decide (z∈names)) n4);refine⟨l4,names,n4,rfl,za,nd,fun l5=>?_⟩;refine⟨_,rfl,ln,_,rfl,.inl (SqL.of ((s12.trans s4) _ _ hln)),_,_,rfl,rfl,_,rfl,?_⟩;refine yS (decide_eq_false (by rw[length_map];omega)) ?_
  refine⟨_,rfl,_,rfl,D5,_,rfl,.inl (SqL.of (s4 _ _ e1)),_,_,rfl,rfl,_,rfl,?_⟩;have el:(vs.map V.ref).length=plN rows:=by rw[length_map,lv];rfl
  by_cases hm:plN rows<many
  ·refine xB (decide_eq_true (by rw[el];omega)) ?_
   refine⟨_,rfl,D6,_,rfl,.inl (SqL.of (s4 _ _ e2)),rfl,yA,_,rfl,?_⟩;rw[if_pos rfl,y6,show decide (Str.ofString "tail"∈rows.map fun r=>kw r.k)=uI rows 2 from qh (k:=2) (by decide) hok]
   cases h2:uI rows 2 with
   | true=>
    refine yq ?_;exact key _ _ ⟨rfl,s4,by rw[h2];cases decide (plN rows<many) <;> rfl⟩
   | false=>
    refine xm ?_
    have:=q _ (s12.trans s4)
    rw[show yN rows bars many names=false by unfold yN;rw[decide_eq_true hm,h2];rfl] at this
    exact this
  ·refine yS (decide_eq_false (by rw[el];omega)) ?_
   refine yq ?_;exact key _ _ ⟨rfl,s4,by rw[decide_eq_false hm];rfl⟩
 rintro σ3 H3 ⟨rfl,s3,first⟩
 have s13:=s12.trans s3;have e1:=s3 _ _ e1;have e2:=s3 _ _ e2;have p1:=zr s3 p1;have hu3:=zr s13 hu;have okd:∀r∈(wb rows).drop many,r.ok:=fun r hr=>(okp r (mem_of_mem_drop hr)).1;have okt:∀r∈(wb rows).take many,r.ok:=fun r hr=>(okp r (mem_of_mem_take hr)).1;have ld:((wb rows).drop many).length<=24:=by rw[length_drop];omega
 have lt:((wb rows).take many).length<=24:=by rw[length_take];omega
 refine zA (zy (i:=7) wM.nd rfl (Or.inl rfl) (zz ym (yP [] ["_law_this"] [none] rfl ⟨rfl,rfl,rfl,rfl⟩ (zM (yf yU (pv 5) (yj (pv 2)) yJ)) (zG 0) rfl rfl rfl
   (fun pins fp s H C=>⟨zk (i:=0) uB rfl (Or.inl rfl) (.inr rfl),yk (zo yx (zB (r:=xk K) zw (pv 0) zf (fun _ _=>rfl)) zD (zI _)),zB (r:=xk K) zw (pv 0) zf (fun _ _=>rfl)⟩))
   (yP [] ["_law_this"] [none] rfl ⟨rfl,rfl,rfl,rfl⟩ (zM (pv 0)) (zG 0) rfl rfl rfl
   (fun pins fp s H C=>⟨zk (i:=0) uB rfl (Or.inl rfl) (.inr rfl),yk (zo yx (zB (r:=xk K) zw (pv 0) zf (fun _ _=>rfl)) zD (zI _)),zB (r:=xk K) zw (pv 0) zf (fun _ _=>rfl)⟩)))) ?_
 refine⟨_,rfl,_,rfl,_,rfl,D5,_,rfl,SqL.of e1,fun l4 hl4=>?_⟩;rw[show xo (vs.map V.ref) (some (many:Int)) none=(vs.drop many).map V.ref from wJ.trans (map_drop ..).symm];have s4:=zc hl4 (.lst ((vs.drop many).map V.ref));have g4:upd H3 l4 (.lst ((vs.drop many).map V.ref)) l4=some (.lst ((vs.drop many).map V.ref)):=za;generalize upd H3 l4 (.lst ((vs.drop many).map V.ref))=H4 at s4 g4 |-;refine⟨l4,rfl,⟨_,SqL.of g4⟩,fun Da hDa=>?_⟩;refine zcU 1 (by decide) rfl g4 (wT (zr s4 p1) many) okd ld hDa (fun H5 s5 ea=>?_)
 have s15:=s13.trans (s4.trans s5);refine⟨_,rfl,la,rfl,⟨_,SqL.of (s15 _ _ hla)⟩,fun Db hDb=>?_⟩;refine zcU 3 (by decide) rfl (s15 _ _ hla) (zr s15 hu) hok l24 hDb (fun H6 s6 eb=>?_)
 refine⟨Da,Db,_,_,rfl,rfl,s6 _ _ ea,eb,z3 (by have h1:=length_filter_le (fun r:Rw=>r.k==1) ((wb rows).drop many);have h2:=length_filter_le (fun r:Rw=>r.k==3) rows;simp only[length_map];omega),fun D7 hD7=>?_⟩
 rw[<- map_append];have s7:=zc hD7 (.lst ((wt rows many).map V.str));have g7:upd H6 D7 (.lst ((wt rows many).map V.str)) D7=some (.lst ((wt rows many).map V.str)):=za;change ze4 _ _ _ _ (upd H6 D7 (.lst ((wt rows many).map V.str)));generalize upd H6 D7 (.lst ((wt rows many).map V.str))=H7 at s7 g7 |-;have s37:=s4.trans (s5.trans (s6.trans s7));have s17:=s13.trans s37;have e1:=s37 _ _ e1;have e2:=s37 _ _ e2;have p1:=zr s37 p1;refine zA (vi (i:=8) [] ["_law_this"] [none] wM.nd rfl (Or.inl rfl) rfl ⟨rfl,rfl,rfl,rfl⟩ (zM (yf yU (pv 5) yJ (yj (pv 2)))) (zG 0) rfl rfl rfl
   (fun pins fp s H C=>⟨zk (i:=0) uB rfl (Or.inl rfl) (.inr rfl),yk (zo yx (zB (r:=xk K) zw (pv 0) zf (fun _ _=>rfl)) zD (zI _)),zB (r:=xk K) zw (pv 0) zf (fun _ _=>rfl)⟩)) ?_
 refine⟨_,rfl,_,rfl,_,rfl,D5,_,rfl,SqL.of e1,fun l8 hl8=>?_⟩;rw[show xo (vs.map V.ref) none (some (many:Int))=(vs.take many).map V.ref from xG.trans (map_take ..).symm];have s8:=zc hl8 (.lst ((vs.take many).map V.ref));have g8:upd H7 l8 (.lst ((vs.take many).map V.ref)) l8=some (.lst ((vs.take many).map V.ref)):=za;generalize upd H7 l8 (.lst ((vs.take many).map V.ref))=H8 at s8 g8 |-;refine⟨l8,rfl,⟨_,SqL.of g8⟩,fun D8 hD8=>?_⟩;refine zcU 1 (by decide) rfl g8 (ua (zr s8 p1) many) okt lt hD8 (fun H9 s9 e8=>?_)
 have e8:H9 D8=some (.lst ((uJ rows many).map V.str)):=e8;have s79:=s8.trans s9;have s19:=s17.trans s79;have e1:=s79 _ _ e1;have e2:=s79 _ _ e2;have g7:=s79 _ _ g7;have p1:=zr s79 p1;clear s37 s17 s79 s8 s9 g8 hl8 hD8 s13 s12 s15 eb ea s4 s5 s6 s7 g4;dsimp only[zN];have eT:yN rows bars many names=((!(decide (plN rows<many)&&!uI rows 2))&&names.all (fun z=>!jo rows bars many z)&&((wb rows).drop many++tgs rows).all fun r=>!ug names r):=rfl;rw[first,Bool.true_and] at eT
 have eB:∀z,jo rows bars many z=(decide (z∈bars)||decide (z∈uJ rows many)||(decide (z∉wt rows many)&&!uI rows 4)):=fun _=>rfl
 refine zA (yW PassesOwn.never rfl (zM (pv 3)) (zk (i:=9) wM.nd rfl (Or.inl rfl))
   (ze (zP (PW.pt (xW (zo yn (pv 9) (pv 1) (by with_unfolding_all rfl)) (xW (zo yn (pv 9) (pv 8) (by with_unfolding_all rfl)) (xD (PW.pt (xa (zo yv (pv 9) (pv 7) (by with_unfolding_all rfl)) (yQ (zo yv zD (pv 6) (by with_unfolding_all rfl))))))))) (ze (zC xX)) zE))) ?_
 have hln9:=s19 _ _ hln;have hlb9:=s19 _ _ hlb;refine⟨_,rfl,ln,rfl,⟨_,SqL.of hln9⟩,xn (K:=K) (a:=ln) (xs:=names.map V.str) (fun i σ H'=>∃v9,σ=[some (.ref la),some (.ref lb),some (.int many),some (.ref ln),none,some (.ref D5),some (.ref D6),some (.ref D7),some (.ref D8),v9]/\H'=H9/\(names.take i).all (fun z=>!jo rows bars many z)=true) ⟨_,rfl,rfl,rfl⟩ (fun i σ H' _ ⟨_,_,e,_⟩=>by rw[e];exact SqL.of hln9) ?_ ?_⟩
 ·rintro i x σ H' hx ⟨v9,rfl,rfl,ha⟩
  obtain⟨z,hz,rfl⟩:=strs_at hx;have hi:i<names.length:=(List.getElem?_eq_some_iff.mp hz).1;have ez:names[i]=z:=(List.getElem?_eq_some_iff.mp hz).2;have bad:jo rows bars many z=true->Q (.bl false) H':=fun hb=>by
   have:=q H' s19
   rw[eT,show names.all (fun z=>!jo rows bars many z)=false from List.all_eq_false.mpr ⟨z,mem_of_getElem? hz,by rw[hb];decide⟩] at this
   exact this
  have good:jo rows bars many z=false->(names.take (i+1)).all (fun z=>!jo rows bars many z)=true:=fun hb=>by
   rw[take_succ_eq_append_getElem hi,ez,List.all_append,ha,all_cons,hb];rfl
  rw[eB] at bad good;refine⟨_,rfl,_,rfl,lb,_,rfl,.inl (SqL.of hlb9),rfl,yA,_,rfl,?_⟩;rw[if_neg Bool.false_ne_true,y6];cases h1:decide (z∈bars) with
  | true=>
   rw[h1] at bad;refine xm ?_;refine xm ?_;exact bad rfl
  | false=>
  rw[h1,Bool.false_or] at bad good;refine yq ?_;refine⟨_,rfl,_,rfl,D8,_,rfl,.inl (SqL.of e8),rfl,yA,_,rfl,?_⟩;rw[if_neg Bool.false_ne_true,y6];cases h2:decide (z∈uJ rows many) with
  | true=>
   rw[h2] at bad;refine xm ?_;refine xm ?_;exact bad rfl
  | false=>
  rw[h2,Bool.false_or] at bad good;refine yq ?_;refine⟨_,rfl,_,rfl,D7,_,rfl,.inl (SqL.of g7),rfl,yA,_,rfl,?_⟩;rw[if_pos rfl,y6];by_cases h3:z∈wt rows many
  ·rw[decide_eq_true h3]
   rw[decide_eq_false (not_not_intro h3)] at good;refine yq ?_;refine yq ?_;exact⟨_,rfl,rfl,good rfl⟩
  ·rw[decide_eq_false h3]
   rw[decide_eq_true h3,Bool.true_and] at good bad;refine xm ?_;refine⟨_,rfl,D6,_,rfl,.inl (SqL.of e2),rfl,yA,_,rfl,?_⟩;rw[if_pos rfl,y6,show decide (Str.ofString "bag"∈rows.map fun r=>kw r.k)=uI rows 4 from qh (k:=4) (by decide) hok]
   cases h4:uI rows 4 with
   | true=>
    rw[h4] at good;refine yq ?_;exact⟨_,rfl,rfl,good rfl⟩
   | false=>
    rw[h4] at bad;refine xm ?_;exact bad rfl
 rintro σ H' ⟨v9,rfl,rfl,ha⟩;rw[length_map,take_length] at ha;rw[ha,Bool.true_and] at eT;refine zA (yW PassesOwn.never rfl (zM (zz ym (yf yU (pv 5) (yj (pv 2)) yJ) (yP [] ["_law_this"] [none] rfl ⟨rfl,rfl,rfl,rfl⟩ (zM (pv 0)) (zG 0) rfl rfl rfl
   (fun pins fp s H C=>⟨zk (i:=0) uB rfl (Or.inl rfl) (.inr rfl),yk (zo yx (zB (r:=xk K) zw (pv 0) zf (fun _ _=>rfl)) zD (zI _)),pv 0⟩)))) (zk (i:=4) wM.nd rfl (Or.inl rfl))
   (ze (zP (PW.pt (xa (xc (yr (zB (r:=xk K) zw (pv 4) zf (fun _ _=>rfl)))) (yQ (PW.pt (xW (zo yx (zB (r:=xk K) zw (pv 4) zf (fun _ _=>rfl)) zD (zI _)) (xD (zo yv (zB (r:=xk K) zw (pv 4) zf (fun _ _=>rfl)) (pv 3) (by with_unfolding_all rfl)))))))) (ze (zC xX)) zE))) ?_
 refine⟨_,rfl,_,rfl,_,rfl,D5,_,rfl,SqL.of e1,fun l4 hl4=>?_⟩;rw[show xo (vs.map V.ref) (some (many:Int)) none=(vs.drop many).map V.ref from wJ.trans (map_drop ..).symm];have s4:=zc hl4 (.lst ((vs.drop many).map V.ref));have g4:upd H' l4 (.lst ((vs.drop many).map V.ref)) l4=some (.lst ((vs.drop many).map V.ref)):=za;have p4:=wT (zr s4 p1) many;generalize upd H' l4 (.lst ((vs.drop many).map V.ref))=H4 at s4 g4 p4 |-;have s14:=s19.trans s4;refine⟨_,rfl,la,rfl,⟨_,SqL.of (s14 _ _ hla)⟩,fun Db hDb=>?_⟩;refine zcT 3 (by decide) rfl (s14 _ _ hla) (zr s14 hu) hok l24 hDb (fun H6 ts s6 eb pb=>?_)
 have lts:ts.length<=24:=by rw[pb.length];exact Nat.le_trans (length_filter_le _ _) l24
 refine⟨l4,Db,_,_,rfl,rfl,s6 _ _ g4,eb,z3 (by rw[length_map,length_map,length_drop];omega),fun D9 hD9=>?_⟩
 rw[<- map_append];have s7:=zc hD9 (.lst ((vs.drop many++ts).map V.ref));have g9:upd H6 D9 (.lst ((vs.drop many++ts).map V.ref)) D9=some (.lst ((vs.drop many++ts).map V.ref)):=za;have pA:=zr s7 (yl (zr s6 p4) pb);generalize upd H6 D9 (.lst ((vs.drop many++ts).map V.ref))=H7 at s7 g9 pA |-;have s17:=s14.trans (s6.trans s7);have pA:Paired (TAt H7) (vs.drop many++ts) ((wb rows).drop many++tgs rows):=pA;have kA:∀r∈(wb rows).drop many++tgs rows,r.ok/\(r.k=0\/r.k=1\/r.k=3):=fun r hr=>by
  rcases List.mem_append.mp hr with h|h
  ·obtain⟨a,b⟩:=okp r (mem_of_mem_drop h)
   exact⟨a,b.elim .inl fun e=>.inr (.inl e)⟩
  ·obtain⟨a,b⟩:=List.mem_filter.mp h
   exact⟨hok r a,.inr (.inr (by simpa using b))⟩
 have hln7:=s17 _ _ hln;generalize vs.drop many++ts=us2 at g9 pA;generalize (wb rows).drop many++tgs rows=rs at pA kA eT;refine⟨D9,rfl,⟨_,SqL.of g9⟩,xn (K:=K) (a:=D9) (xs:=us2.map V.ref) (fun i σ H'=>∃v4,σ=[some (.ref la),some (.ref lb),some (.int many),some (.ref ln),v4,some (.ref D5),some (.ref D6),some (.ref D7),some (.ref D8),v9]/\H'=H7/\(rs.take i).all (fun r=>!ug names r)=true) ⟨_,rfl,rfl,rfl⟩ (fun i σ H' _ ⟨_,_,e,_⟩=>by rw[e];exact SqL.of g9) ?_ ?_⟩
 ·rintro i x σ H' hx ⟨v4,rfl,rfl,ha⟩
  obtain⟨u,hu',rfl⟩:=yV hx;obtain⟨r,hr',tr⟩:=yb pA hu';obtain⟨rk,k3⟩:=kA r (mem_of_getElem? hr');have hi:i<rs.length:=(List.getElem?_eq_some_iff.mp hr').1;have ez:rs[i]=r:=(List.getElem?_eq_some_iff.mp hr').2;have eR:ug names r=(!r.b&&(r.k==0||decide (r.z∉names))):=rfl
  have bad:ug names r=true->Q (.bl false) H':=fun hb=>by
   have:=q H' s17
   rw[eT,show rs.all (fun r=>!ug names r)=false from List.all_eq_false.mpr ⟨r,mem_of_getElem? hr',by rw[hb];decide⟩] at this
   exact this
  have good:ug names r=false->(rs.take (i+1)).all (fun r=>!ug names r)=true:=fun hb=>by
   rw[take_succ_eq_append_getElem hi,ez,List.all_append,ha,all_cons,hb];rfl
  rw[eR] at bad good;refine⟨_,rfl,u,_,2,_,rfl,rfl,SqT.of tr,zdF k3,_,rfl,?_⟩;cases hb:r.b with
  | true=>
   rw[hb] at good;refine yq ?_;refine yq ?_;exact⟨_,rfl,rfl,good rfl⟩
  | false=>
  rw[hb] at good bad;refine xm ?_;refine⟨_,rfl,u,_,0,_,rfl,rfl,SqT.of tr,xg rk,rfl,_,rfl,?_⟩;rw[show decide (V.str (kw r.k)=V.str (Str.ofString "seat"))=(r.k==0) from uc 0 (by decide) r.k rk.1]
  cases h0:(r.k==0) with
  | true=>
   rw[h0] at bad;refine xm ?_;refine xm ?_;exact bad rfl
  | false=>
  rw[h0] at good bad;refine yq ?_;refine⟨_,rfl,u,_,1,_,rfl,rfl,SqT.of tr,uu rk,_,rfl,ln,_,rfl,.inl (SqL.of hln7),rfl,yA,_,rfl,?_⟩;rw[if_pos rfl,y6];by_cases hn:r.z∈names
  ·rw[decide_eq_true hn]
   refine yq ?_;exact⟨_,rfl,rfl,good (by rw[decide_eq_false (not_not_intro hn)];rfl)⟩
  ·rw[decide_eq_false hn]
   refine xm ?_;exact bad (by rw[decide_eq_true hn];rfl)
 rintro σ H' ⟨v4,rfl,rfl,ha2⟩;rw[length_map,pA.length,take_length] at ha2;rw[ha2] at eT;rw[eT] at q;exact⟨_,ze (zC xX),q _ s17⟩
end
def NAt(H:Hp) (v:Addr) (b:List Str):Prop:=H v=some (.lst (b.map V.str))
theorem qU{H H':Hp}{us:List Addr}{bs:List (List Str)}(s:zm H H') (h:Paired (NAt H) us bs):Paired (NAt H') us bs:=Paired.imp' (fun _ _ z=>s _ _ z) h
theorem zh7{K:Frag}{a:Addr}{xs:List V}{bs:List (List Str)}{caps:List (Option Nat)}{g:TG}{tt:TT}{te:TE}{σ : L2.St}{H1:Hp}{Q:VK}{D:Addr}
  (ha:SqL K H1 a xs) (hl:xs.length=bs.length) (hn:bs.length<=500) (hD:H1 D=none)
  (hs:∀(i:Nat) x b H (Qf:VK) (Qs:Hp->Prop),xs[i]?=some x->bs[i]?=some b->zm H1 H->(∀v H',zm H H'->H v=none->NAt H' v b->Qf (.ref v) H')->
   g x (xi caps σ) H fun σ2 H2=>tt σ2 H2 fun ok H3=>(ok=true->te σ2 H3 Qf)/\(ok=false->Qs H3))
  (hd:∀vs H,zm H1 H->H D=some (.lst (vs.map V.ref))->Paired (NAt H) vs bs->Q (.ref D) H):LCr (Itl K a) caps g tt te σ H1 Q D:=by
 have grow:∀{H:Hp}{v:Addr}{b:List Str}{o:HO},v≠D/\NAt H v b->v≠D/\NAt (upd H D o) v b:=fun {H v b o} h=>⟨h.1,by show upd H D o v=_;rw[zh h.1];exact h.2⟩
 refine wV (K:=K) (xs:=xs) (fun i ys H'=>∃vs,ys=vs.map V.ref/\zm H1 H'/\H' D=some (.lst ys)/\Paired (fun v b=>v≠D/\NAt H' v b) vs (bs.take i)) ⟨[],rfl,zc hD _,za,.nil⟩ (fun i ys H' ⟨_,_,h,_⟩=>h.seq ha) ?_ ?_
 ·rintro i x ys H' hlt hx ⟨vs,rfl,sH,hDy,fv⟩
  have hi:i<bs.length:=by omega
  have hb:bs[i]?=some bs[i]:=getElem?_eq_getElem hi;have nl:(vs.map V.ref).length<=i:=by
   rw[length_map,fv.length,length_take];omega
  refine hs i x _ H' _ _ hx hb sH (fun v H2 s2 nv r2=>?_);have s3:zm H1 (upd H2 D (.lst (vs.map V.ref++[.ref v]))):=fun b o z=>by
   rw[zh (zi z hD)];exact s2 _ _ (sH b o z)
  refine lcN.mk hlt (le_of_lt (zT (by omega))) (s2 _ _ hDy) nl ⟨vs++[v],by rw[map_append];rfl,s3,za,?_⟩
  rw[take_succ_eq_append_getElem hi];exact Paired.snoc (Paired.imp' (fun w r' z=>grow ⟨z.1,s2 _ _ z.2⟩) fv) (grow ⟨fun e=>(by rw[e,hDy] at nv;cases nv),r2⟩)
 ·rintro ys H ⟨vs,rfl,sH,hDy,fv⟩
  rw[hl,take_length] at fv;exact hd vs H sH hDy (Paired.imp' (fun _ _ z=>z.2) fv)
abbrev strange:Str:=Str.ofString "strange"
theorem zlW:([Str.ofString "_law_names",Str.ofString "_law_name"]:List Str).Nodup:=by decide +kernel
theorem zfZ{α β : Type}{R : α->β->Prop}{a:List α}{c:List β}(h:Paired R a c):∀i,Paired R (a.eraseIdx i) (c.eraseIdx i):=by
 induction h with
 | nil=>intro i;exact .nil
 | cons r t ih=>
  intro i;cases i with
  | zero=>exact t
  | succ i=>exact .cons r (ih i)
theorem qT{α β : Type}{R : α->β->Prop}{a:List α}{c:List β}{x : α}{y : β}(h:Paired R a c) (q:R x y):∀i,Paired R (a.set i x) (c.set i y):=by
 induction h with
 | nil=>intro i;exact .nil
 | cons r t ih=>
  intro i;cases i with
  | zero=>exact .cons q t
  | succ i=>exact .cons r (ih i)
theorem zer{α β : Type}{R : α->β->Prop}{a:List α}{c:List β}(h:Paired R a c):Paired R a.reverse c.reverse:=by
 induction h with
 | nil=>exact .nil
 | cons r _ ih=>rw[reverse_cons,reverse_cons];exact Paired.snoc ih r
def repl(l:List Rw) (i:Nat) (rs:List Rw):List Rw:=l.take i++(rs++l.drop (i+1))
theorem zhw{l:List Rw}{i:Nat}:l.eraseIdx i=repl l i []:=by unfold repl;rw[nil_append];exact List.eraseIdx_eq_take_drop_succ ..
theorem zbz{l:List Rw}{i:Nat}{r:Rw}(h:i<l.length):l.set i r=repl l i [r]:=by unfold repl;rw[List.set_eq_take_append_cons_drop,if_pos h];rfl
theorem uS{l m:List Rw}{i:Nat}{rs:List Rw}(h:i<l.length):repl (l++m) i rs=repl l i rs++m:=by
 unfold repl;rw[List.take_append_of_le_length (by omega),List.drop_append_of_le_length (by omega)]
 simp
theorem vY{l m:List Rw}{i:Nat}{rs:List Rw}(h:¬i<l.length):repl (l++m) i rs=l++repl m (i - l.length) rs:=by
 unfold repl;rw[List.take_append,List.drop_append,take_of_length_le (by omega),drop_of_length_le (by omega),show i+1 - l.length=i - l.length+1 by omega]
 simp
structure Rp(r:Rw) (rs:List Rw):Prop where
 len:rs.length<=1
 ok:∀r'∈rs,zR r'.z=true/\((r.k=0\/r.k=1)->r'.k=0\/r'.k=1)/\(r.k=2->r'.k=2)/\(r.k=3->r'.k=3)/\(r.k=4->r'.k=4)
 sub:(nms rs).Sublist (nms [r])
theorem uw{l:List Rw}{i:Nat}{rs:List Rw}{r:Rw}(h:r∈repl l i rs):r∈l\/r∈rs:=by
 unfold repl at h;rcases List.mem_append.mp h with h|h
 ·exact .inl (mem_of_mem_take h)
 ·rcases List.mem_append.mp h with h|h
  ·exact .inr h
  ·exact .inl (mem_of_mem_drop h)
theorem zhx{l:List Rw}{i:Nat}{r:Rw}(h:l[i]?=some r):repl l i [r]=l:=by
 unfold repl;show l.take i++(r::l.drop (i+1))=l;rw[<- jy h,take_append_drop]
theorem ux{l:List Rw}{i:Nat}{rs:List Rw}(h:i<l.length) (hr:rs.length<=1):(repl l i rs).length<=l.length:=by
 unfold repl;rw[length_append,length_append,length_take,length_drop];omega
theorem zbA{l:List Rw}{i:Nat}{r:Rw}{rs:List Rw}(h:l[i]?=some r) (hr:Rp r rs):(nms (repl l i rs)).Sublist (nms l):=by
 have e:nms l=nms (l.take i)++(nms [r]++nms (l.drop (i+1))):=by
  rw[<- yg,<- yg];exact congrArg nms (zhx h).symm
 rw[e];unfold repl;rw[yg,yg];exact(List.Sublist.refl _).append (hr.sub.append (List.Sublist.refl _))
section
variable {zs:List Str}{D:FD}{bars:List Str}
theorem zY.sub{D':FD}{bars':List Str}(h:zY zs D bars) (p:∀r∈D'.P,(r.k=0\/r.k=1)/\zR r.z=true) (t:∀r∈D'.T,r.k=2/\zR r.z=true) (lt:D'.T.length<=1) (g:∀r∈D'.G,r.k=3/\zR r.z=true) (b:∀r∈D'.B,r.k=4/\zR r.z=true) (lb:D'.B.length<=1)
  (sP:(nms D'.P).Sublist (nms D.P)) (sG:(nms D'.G).Sublist (nms D.G)) (sB:bars'.Sublist bars) (lP:D'.P.length<=D.P.length) (lG:D'.G.length<=D.G.length):zY zs D' bars':=by
 have s:(nms D'.P++nms D'.G++bars').Sublist (nms D.P++nms D.G++bars):=(sP.append sG).append sB;exact⟨p,t,lt,g,b,lb,s.nodup h.nd,fun z hz=>h.zn z (s.subset hz),fun z hz=>h.dz z ((sP.append sG).subset hz),by have:=h.ln;omega⟩
theorem za6(h:zY zs D bars) {i:Nat}{r:Rw}{rs:List Rw}(hi:D.rows[i]?=some r) (hr:Rp r rs):∃D',repl D.rows i rs=FD.rows D'/\zY zs D' bars:=by
 have rf:∀{l:List Str},l.Sublist l:=List.Sublist.refl _;have il:i<D.rows.length:=(List.getElem?_eq_some_iff.mp hi).1;unfold FD.rows at hi il |-;by_cases c1:i<D.P.length
 ·rw[getElem?_append_left c1] at hi
  have kr:=(h.p r (mem_of_getElem? hi)).1;refine⟨⟨repl D.P i rs,D.T,D.G,D.B⟩,uS c1,h.sub (fun x hx=>?_) h.t h.lt h.g h.b h.lb (zbA hi hr) rf rf (ux c1 hr.len) (Nat.le_refl _)⟩;rcases uw hx with hx|hx
  ·exact h.p x hx
  ·obtain⟨a,b,_⟩:=hr.ok x hx;exact⟨b kr,a⟩
 rw[getElem?_append_right (by omega)] at hi
 rw[vY c1];rw[length_append] at il;by_cases c2:i - D.P.length<D.T.length
 ·rw[getElem?_append_left c2] at hi
  have kr:=(h.t r (mem_of_getElem? hi)).1;refine⟨⟨D.P,repl D.T (i - D.P.length) rs,D.G,D.B⟩,by rw[uS c2],h.sub h.p (fun x hx=>?_) (Nat.le_trans (ux c2 hr.len) h.lt) h.g h.b h.lb rf rf rf (Nat.le_refl _) (Nat.le_refl _)⟩
  rcases uw hx with hx|hx
  ·exact h.t x hx
  ·obtain⟨a,_,b,_⟩:=hr.ok x hx;exact⟨b kr,a⟩
 rw[getElem?_append_right (by omega)] at hi
 rw[vY c2];rw[length_append] at il;by_cases c3:i - D.P.length - D.T.length<D.G.length
 ·rw[getElem?_append_left c3] at hi
  have kr:=(h.g r (mem_of_getElem? hi)).1;refine⟨⟨D.P,D.T,repl D.G (i - D.P.length - D.T.length) rs,D.B⟩,by rw[uS c3],h.sub h.p h.t h.lt (fun x hx=>?_) h.b h.lb rf (zbA hi hr) rf (Nat.le_refl _) (ux c3 hr.len)⟩
  rcases uw hx with hx|hx
  ·exact h.g x hx
  ·obtain⟨a,_,_,b,_⟩:=hr.ok x hx;exact⟨b kr,a⟩
 rw[getElem?_append_right (by omega)] at hi
 rw[vY c3];have kr:=(h.b r (mem_of_getElem? hi)).1;have c4:=(List.getElem?_eq_some_iff.mp hi).1;refine⟨⟨D.P,D.T,D.G,repl D.B (i - D.P.length - D.T.length - D.G.length) rs⟩,rfl,h.sub h.p h.t h.lt h.g (fun x hx=>?_) (Nat.le_trans (ux c4 hr.len) h.lb) rf rf rf (Nat.le_refl _) (Nat.le_refl _)⟩;rcases uw hx with hx|hx
 ·exact h.b x hx
 ·obtain⟨a,_,_,_,b⟩:=hr.ok x hx;exact⟨b kr,a⟩
def rl(z:Str) (r:Rw):Rw:=if r.k=1\/r.k=3 then r else ⟨r.k,z,r.b⟩
theorem zfN{z:Str}{r:Rw}:(rl z r).k=r.k:=by unfold rl;split <;> rfl
theorem zhv{z:Str}{r:Rw}(h:zR r.z=true) (hz:zR z=true):zR (rl z r).z=true:=by unfold rl;split <;> assumption
theorem zcz{z:Str}:∀(l:List Rw),nms (l.map (rl z))=nms l
 | []=>rfl
 | r::l=>by
  have ih:=zcz (z:=z) l;unfold nms at ih |-;rw[map_cons,filter_cons,filter_cons,zfN];cases e:yd r.k with
  | false=>rw[if_neg Bool.false_ne_true,if_neg Bool.false_ne_true,ih]
  | true=>
   rw[if_pos rfl,if_pos rfl,map_cons,map_cons,ih]
   have:rl z r=r:=by
    unfold rl;rw[if_pos];unfold yd at e;rcases Bool.or_eq_true_iff.mp e with h|h
    ·exact .inl (by simpa using h)
    ·exact .inr (by simpa using h)
   rw[this]
theorem zk7(h:zY zs D bars) {z:Str}(hz:zR z=true):D.rows.map (rl z)=FD.rows ⟨D.P.map (rl z),D.T.map (rl z),D.G.map (rl z),D.B.map (rl z)⟩/\zY zs ⟨D.P.map (rl z),D.T.map (rl z),D.G.map (rl z),D.B.map (rl z)⟩ bars:=by
 constructor
 ·unfold FD.rows;rw[map_append,map_append,map_append]
 ·refine h.sub (fun r hr=>?_) (fun r hr=>?_) (by show(D.T.map _).length<=1;rw[length_map];exact h.lt) (fun r hr=>?_) (fun r hr=>?_) (by show(D.B.map _).length<=1;rw[length_map];exact h.lb) (by show(nms (D.P.map _)).Sublist _;rw[zcz];exact List.Sublist.refl _) (by show(nms (D.G.map _)).Sublist _;rw[zcz];exact List.Sublist.refl _) (List.Sublist.refl _) (by show(D.P.map _).length<=_;rw[length_map];exact Nat.le_refl _) (by show(D.G.map _).length<=_;rw[length_map];exact Nat.le_refl _)
  ·obtain⟨x,hx,rfl⟩:=List.mem_map.mp hr;obtain⟨a,b⟩:=h.p x hx;rw[zfN];exact⟨a,zhv b hz⟩
  ·obtain⟨x,hx,rfl⟩:=List.mem_map.mp hr;obtain⟨a,b⟩:=h.t x hx;rw[zfN];exact⟨a,zhv b hz⟩
  ·obtain⟨x,hx,rfl⟩:=List.mem_map.mp hr;obtain⟨a,b⟩:=h.g x hx;rw[zfN];exact⟨a,zhv b hz⟩
  ·obtain⟨x,hx,rfl⟩:=List.mem_map.mp hr;obtain⟨a,b⟩:=h.b x hx;rw[zfN];exact⟨a,zhv b hz⟩
theorem zdQ(l:List Rw):nms l.reverse=(nms l).reverse:=by unfold nms;rw[List.filter_reverse,map_reverse]
theorem zka(h:zY zs D bars):zY zs ⟨D.P,D.T,D.G.reverse,D.B⟩ bars.reverse:=by
 have pm:(nms D.P++nms D.G.reverse++bars.reverse).Perm (nms D.P++nms D.G++bars):=by
  rw[zdQ];exact((List.Perm.refl _).append (reverse_perm _)).append (reverse_perm _)
 exact⟨h.p,h.t,h.lt,fun r hr=>h.g r (List.mem_reverse.mp hr),h.b,h.lb,pm.nodup_iff.mpr h.nd,fun z hz=>h.zn z (pm.mem_iff.mp hz),fun z hz=>h.dz z (by rw[zdQ] at hz;exact((List.Perm.refl (nms D.P)).append (reverse_perm (nms D.G))).mem_iff.mp hz),by show D.P.length+D.G.reverse.length<=22;rw[length_reverse];exact h.ln⟩
theorem zih(h:zY zs D bars) {bs:List Str}(l1:bs.length<=1) (hb:∀z∈bs,z∈zs++yc/\z∉nms D.P++nms D.G++bars):zY zs D (bars++bs):=by
 refine⟨h.p,h.t,h.lt,h.g,h.b,h.lb,?_,fun z hz=>?_,h.dz,h.ln⟩
 ·rw[<- append_assoc]
  refine List.nodup_append.mpr ⟨h.nd,?_,fun x hx y hy e=>(hb y hy).2 (by rw[<- e];exact hx)⟩
  cases bs with
  | nil=>simp
  | cons z bs=>cases bs with
   | nil=>simp
   | cons _ _=>rw[length_cons,length_cons] at l1;omega
 ·rw[<- append_assoc] at hz
  rcases List.mem_append.mp hz with hz|hz
  ·exact h.zn z hz
  ·exact(hb z hz).1
theorem zdZ(h:zY zs D bars) {T B:List Rw}(hT:∀r∈T,r.k=2/\zR r.z=true) (lT:T.length<=1) (hB:∀r∈B,r.k=4/\zR r.z=true) (lB:B.length<=1):zY zs ⟨D.P,T,D.G,B⟩ bars:=
 ⟨h.p,hT,lT,h.g,hB,lB,h.nd,h.zn,h.dz,h.ln⟩
theorem zij(h:zY zs D bars) {bs:List Str}(s:bs.Sublist bars):zY zs D bs:=h.sub h.p h.t h.lt h.g h.b h.lb (List.Sublist.refl _) (List.Sublist.refl _) s (Nat.le_refl _) (Nat.le_refl _)
theorem zag(h:zY zs D bars):∀r∈D.rows,r.ok:=fun r hr=>by
 unfold FD.rows at hr;rcases List.mem_append.mp hr with hr|hr
 ·obtain⟨e,n⟩:=h.p r hr;exact⟨by rcases e with e|e <;> omega,n⟩
 ·rcases List.mem_append.mp hr with hr|hr
  ·obtain⟨e,n⟩:=h.t r hr;exact⟨by omega,n⟩
  ·rcases List.mem_append.mp hr with hr|hr
   ·obtain⟨e,n⟩:=h.g r hr;exact⟨by omega,n⟩
   ·obtain⟨e,n⟩:=h.b r hr;exact⟨by omega,n⟩
theorem wW(h:zY zs D bars):D.rows.length<=24:=by
 unfold FD.rows;rw[length_append,length_append,length_append]
 have:=h.ln
 have:=h.lt
 have:=h.lb
 omega
theorem wI(h:zY zs D bars) (p:Nat->Bool):D.rows.filter (fun r=>p r.k)=(D.P.filter fun r=>p r.k)++((if p 2=true then D.T else [])++((if p 3=true then D.G else [])++(if p 4=true then D.B else []))):=by
 have one:∀{l:List Rw}{k:Nat},(∀r∈l,r.k=k)->l.filter (fun r=>p r.k)=if p k=true then l else []:=fun {l k} hl=>by
  cases e:p k with
  | true=>rw[if_pos rfl];exact List.filter_eq_self.mpr fun r hr=>by rw[hl r hr];exact e
  | false=>rw[if_neg Bool.false_ne_true];exact List.filter_eq_nil_iff.mpr fun r hr=>by rw[hl r hr,e];exact Bool.false_ne_true
 unfold FD.rows;rw[filter_append,filter_append,filter_append,one fun r hr=>(h.t r hr).1,one fun r hr=>(h.g r hr).1,one fun r hr=>(h.b r hr).1]
theorem qk(h:zY zs D bars) {p:Nat->Bool}(h0:p 0=false) (h1:p 1=false):(D.P.filter fun r=>p r.k)=[]:=List.filter_eq_nil_iff.mpr fun r hr=>by rcases (h.p r hr).1 with e|e <;> rw[e] <;> simp [h0,h1]
theorem ue(h:zY zs D bars) {p:Nat->Bool}(h0:p 0=true) (h1:p 1=true):(D.P.filter fun r=>p r.k)=D.P:=List.filter_eq_self.mpr fun r hr=>by rcases (h.p r hr).1 with e|e <;> rw[e] <;> assumption
theorem zlb(h:zY zs D bars):(D.rows.filter fun r=>r.k==3)=D.G:=by
 have e:=wI h fun k=>k==3;have e0:=qk h (p:=fun k=>k==3) rfl rfl;rw[e,e0];simp
theorem zla(h:zY zs D bars):(D.rows.filter fun r=>r.k==4)=D.B:=by
 have e:=wI h fun k=>k==4;have e0:=qk h (p:=fun k=>k==4) rfl rfl;rw[e,e0];simp
theorem zk8(h:zY zs D bars):(D.rows.filter fun r=>!(r.k==4))=D.P++(D.T++D.G):=by
 have e:=wI h fun k=>!(k==4);have e0:=ue h (p:=fun k=>!(k==4)) rfl rfl;rw[e,e0];simp
theorem zk9(h:zY zs D bars):(D.rows.filter fun r=>!(r.k==2))=D.P++(D.G++D.B):=by
 have e:=wI h fun k=>!(k==2);have e0:=ue h (p:=fun k=>!(k==2)) rfl rfl;rw[e,e0];simp
theorem zii(h:zY zs D bars):(D.rows.filter fun r=>r.k==0||r.k==1||r.k==2)=D.P++D.T:=by
 have e:=wI h fun k=>k==0||k==1||k==2
 have e0:=ue h (p:=fun k=>k==0||k==1||k==2) rfl rfl
 rw[e,e0];simp
end
end K83
namespace L2
open PySem PySem.Spec PyProof.Rows
def zlE:R2:=fun x y H Q=>∃(a b:Addr) (xs:List V),x=.ref a/\y=.ref b/\H a=some (.lst xs)/\H b=some (.lst [])/\Q (.bl (!decide (xs=[]))) H
theorem zcI{X:Cx}(hu:X.A.units<cLine):OpR X (compareOp .NotEq) zlE:=by
 intro pins s σ H x y v u Q I rx ry h;obtain⟨a,b,xs,rfl,rfl,ha,hb,q⟩:=h;cases rx;cases ry;obtain⟨ia,va,pa,_⟩:=I.list (SqL.of ha);obtain⟨ib,vb,pb,_⟩:=I.list (SqL.of hb);cases vb;by_cases e:xs=[]
 ·subst e
  cases va;rw[decide_eq_true rfl] at q;have t2:=SeqAt.RcNeAt.lists (A:=X.A) (s:=s) (e:=fun _=>true) pa.isList pb.isList rfl hu (fun j h1 h2=>absurd h1 (by simp))
  rw[vq] at t2;exact t2 X.prog X.w X.xe _ ⟨.bl false,H,I,rfl,q⟩
 ·rw[decide_eq_false e] at q
  have l1:=va.length
  have:ia.length≠0:=fun z=>e (List.eq_nil_of_length_eq_zero (by omega))
  exact SeqAt.RcNeAt.lists_lengths pa.isList pb.isList (by simp;exact fun z=>this (by rw[z];rfl)) hu X.prog X.w X.xe _ ⟨.bl true,H,I,rfl,q⟩
end L2
namespace K83
open PySem L2 PyProof.Rows
structure zl6(mg:Str->Option Value):Prop where
 max:mg "max"=none
 len:mg "len"=none
 list:mg "list"=none
 rev:mg "reversed"=none
def zbl:Sp:=fun vs H Q _=>∃(la lb pa:Addr) (n:Int) (D:FD) (bars zs:List Str),vs=[.ref la,.ref lb,.int n,.ref pa]/\xT H la D.rows/\H lb=some (.lst (bars.map V.str))/\H pa=some (.lst (zs.map V.str))/\0<zs.length/\zs.length<=4/\(∀z∈zs,zR z=true)/\zY zs D bars/\
 ∀(t la' lb':Addr) (D':FD) (bars':List Str) (H':Hp),zm H H'->H' t=some (.tup [.ref la',.ref lb'])->xT H' la' D'.rows->H' lb'=some (.lst (bars'.map V.str))->zY zs D' bars'->Q (.ref t) H'
def uH(o:Option Rw):List V:=match o with
 | some r=>rv r
 | none=>[.str "none",.str "",.bl false]
def TG(H:Hp) (la pa kn hx:Addr) (n way:Int) (at0:Nat) (zs:List Str) (σ : L2.St) (H':Hp):Prop:=∃(lm' lb':Addr) (D':FD) (bars':List Str) (v9 v10 v11:Option V),σ=[some (.ref la),some (.ref lb'),some (.int n),some (.ref pa),some (.int way),some (.int at0),some (.ref lm'),some (.ref kn),some (.ref hx),v9,v10,v11]/\zm H H'/\xT H' lm' D'.rows/\H' lb'=some (.lst (bars'.map V.str))/\zY zs D' bars'
theorem ut{H0 H':Hp}{l:Addr}{o:HO}(s:zm H0 H') (n:H0 l=none):zm H0 (upd H' l o):=fun b u e=>by rw[zh (zi e n)];exact s b u e
theorem uj{H:Hp}{l:Addr}{o:HO}{ys:List V}{us:List Addr}{rows:List Rw}(h:Paired (TAt H) us rows) (e:H l=some (.lst ys)):Paired (TAt (upd H l o)) us rows:=Paired.imp' (fun _ _ z=>TAt.upd z e) h
theorem zj6:∀k:Nat,k<5->inV (.str (kw k)) [.str "seat",.str "tail",.str "bag"]=!(k==1||k==3):=by decide +kernel
theorem zj5:∀k:Nat,k<5->inV (.str (kw k)) [.str "seat",.str "both",.str "tail"]=(k==0||k==1||k==2):=by decide +kernel
theorem zlV:([Str.ofString "_law_this",Str.ofString "_law_label"]:List Str).Nodup:=by decide +kernel
theorem zkU:([Str.ofString "_law_name",Str.ofString "_law_bars_here",Str.ofString "_law_known"]:List Str).Nodup:=by decide +kernel
theorem zkI{r:Rw}(rk:r.ok) (hk:¬(r.k=1\/r.k=3)) (z:Str):∃ys:List V,xo (rv r) none (some 1)=[.str (kw r.k)]/\xo (rv r) (some 2) none=ys/\¬(HT.sIx (rv r).length 0 none=0/\HT.sIx (rv r).length (rv r).length (some 1)=(rv r).length)/\¬(HT.sIx (rv r).length 0 (some 2)=0/\HT.sIx (rv r).length (rv r).length none=(rv r).length)/\[.str (kw r.k),.str z]++ys=rv (rl z r)/\ys.length<=1:=by
 unfold rl;rw[if_neg hk];obtain⟨k,z',b⟩:=r;rcases lt5 rk.1 with e|e|e|e|e
 ·cases e;exact⟨[.bl b],rfl,rfl,(fun h=>absurd h.2 (by show ¬(1=3);decide)),(fun h=>absurd h.1 (by show ¬(2=0);decide)),rfl,Nat.le_refl _⟩
 ·exact absurd (.inl e) hk
 ·cases e;exact⟨[],rfl,rfl,(fun h=>absurd h.2 (by show ¬(1=2);decide)),(fun h=>absurd h.1 (by show ¬(2=0);decide)),rfl,zero_le _⟩
 ·exact absurd (.inr e) hk
 ·cases e;exact⟨[],rfl,rfl,(fun h=>absurd h.2 (by show ¬(1=2);decide)),(fun h=>absurd h.1 (by show ¬(2=0);decide)),rfl,zero_le _⟩
theorem ziT(w:Int):inV (.int w) [.int 2,.int 3]=decide (w=2\/w=3):=by
 show(((2:Int)==w)||(((3:Int)==w)||false))=_
 rw[Bool.eq_iff_iff,Bool.or_false,Bool.or_eq_true,beq_iff_eq,beq_iff_eq,decide_eq_true_iff];exact⟨fun h=>h.elim (fun e=>.inl e.symm) fun e=>.inr e.symm,fun h=>h.elim (fun e=>.inl e.symm) fun e=>.inr e.symm⟩
theorem zk2{o:Option Rw}(hok:∀r,o=some r->r.ok) (h:(uH o).length=3):o=none\/∃r,o=some r/\(r.k=0\/r.k=1\/r.k=3):=by
 cases o with
 | none=>exact .inl rfl
 | some r=>
  refine .inr ⟨r,rfl,?_⟩;have rk:=hok r rfl;obtain⟨k,z,b⟩:=r;rcases lt5 rk.1 with e|e|e|e|e
  ·exact .inl e
  ·exact .inr (.inl e)
  ·cases e;exact absurd (show 2=3 from h) (by decide)
  ·exact .inr (.inr e)
  ·cases e;exact absurd (show 2=3 from h) (by decide)
theorem zgM{r:Rw}(h:r.k=0\/r.k=1\/r.k=3):xo (rv r) none (some 2)=[.str (kw r.k),.str r.z]/\¬(HT.sIx (rv r).length 0 none=0/\HT.sIx (rv r).length (rv r).length (some 2)=(rv r).length)/\rv ⟨r.k,r.z,!r.b⟩=[.str (kw r.k),.str r.z,.bl (!r.b)]:=by
 obtain⟨k,z,b⟩:=r;rcases h with e|e|e <;> (cases e;exact⟨rfl,(fun h=>absurd h.2 (by show ¬(2=3);decide)),rfl⟩)
theorem zif{r:Rw}(rk:r.ok):Rp r [⟨r.k,r.z,!r.b⟩]:=by
 refine⟨Nat.le_refl _,fun r' hr'=>?_,?_⟩
 ·rw[List.mem_singleton.mp hr']
  exact⟨rk.2,id,id,id,id⟩
 ·have:nms [(⟨r.k,r.z,!r.b⟩:Rw)]=nms [r]:=by
   unfold nms;rw[filter_cons,filter_cons];cases e:yd r.k <;> simp
  rw[this];exact List.Sublist.refl _
theorem zhi{r:Rw}(rk:r.ok) (hk:r.k=1):Rp r [⟨0,r.z,r.b⟩]:=by
 refine⟨Nat.le_refl _,fun r' hr'=>?_,nil_sublist _⟩;rw[List.mem_singleton.mp hr'];exact⟨rk.2,fun _=>.inl rfl,fun e=>by omega,fun e=>by omega,fun e=>by omega⟩
theorem zh2{r:Rw}:Rp r []:=⟨zero_le _,fun _ h=>(nomatch h),nil_sublist _⟩
theorem zcO{n k:Nat}(h:k<n):ixN n (k:Int)=some k:=by
 unfold ixN;rw[if_pos (by omega),if_pos (by omega)]
 rfl
theorem zh4{n k:Nat}(h:k<n):seqIndex? (k:Int) n=some k:=(za3 (zcO h)).1
theorem zfl{r:Rw}(h:r.k=1):xo (rv r) (some 1) none=[.str r.z,.bl r.b]/\¬(HT.sIx (rv r).length 0 (some 1)=0/\HT.sIx (rv r).length (rv r).length none=(rv r).length):=by
 obtain⟨k,z,b⟩:=r;cases h;exact⟨rfl,(fun h=>absurd h.1 (by show ¬(1=0);decide))⟩
theorem zk3{o:Option Rw}(hok:∀r,o=some r->r.ok):∃z:Str,atI (uH o) 0=some (.str z)/\decide (V.str z=V.str "both")=decide (∃r,o=some r/\r.k=1):=by
 cases o with
 | none=>
  refine⟨"none",rfl,?_⟩;rw[decide_eq_false (p:=∃r,(none:Option Rw)=some r/\r.k=1) (by rintro⟨r,e,_⟩;cases e)]
  exact(by decide +kernel:decide (V.str (Str.ofString "none")=V.str (Str.ofString "both"))=false)
 | some r=>
  have rk:=hok r rfl;refine⟨kw r.k,xg rk,?_⟩;rw[show decide (V.str (kw r.k)=V.str "both")=(r.k==1) from uc 1 (by decide) r.k rk.1]
  by_cases e:r.k=1
  ·rw[decide_eq_true ⟨r,rfl,e⟩,e,beq_self_eq_true]
  ·rw[decide_eq_false (by rintro⟨r',e',k⟩;cases e';exact e k)];exact beq_false_of_ne e
section
variable {P:Program}{w:World}{K:Frag}{mg:Str->Option Value}{base:Heap}{f:Addr}{fd:FuncData}
theorem zgy{la D:Addr}{us:List Addr}{rows:List Rw}{σ : L2.St}{H:Hp}{Q:VK}{z:Str}(k:Nat) (hk:k<5) (ez:kw k=z) (hla:H la=some (.lst (us.map V.ref))) (hu:Paired (TAt H) us rows) (hok:∀r∈rows,r.ok) (hl:rows.length<=24) (hD:H D=none)
  (q:∀H' vs,zm H H'->H' D=some (.lst (vs.map V.ref))->Paired (TAt H') vs (rows.filter fun r=>!(r.k==k))->Q (.ref D) H'):LCr (Itl K la) [none] (zN 0) (zbk (tOp rNe (tOp (xk K) (zbj 0) (tC (.int 0))) (tC (.str z)))) (zbj 0) σ H Q D:=by
 refine wx (K:=K) TAt (fun r=>!(r.k==k)) (fun u _=>.ref u) hD hla hu (by omega) (fun i u r H' N S hu' hr' tr sH n1 s1=>?_) (fun H1 s1 hD1=>?_)
 ·have rk:=hok r (mem_of_getElem? hr')
  have tu:=sH _ _ tr;refine⟨_,rfl,u,_,0,_,rfl,rfl,SqT.of tu,xg rk,rfl,_,rfl,?_⟩;rw[<- ez,uc k hk r.k rk.1];exact⟨fun e=>⟨_,rfl,n1 _ (zm.refl _) e⟩,fun e=>s1 _ (zm.refl _) e⟩
 ·obtain⟨vs,ev,p⟩:=ui (zr s1 hu) fun r=>!(r.k==k)
  exact q H1 vs s1 (by rw[hD1,ev]) p
theorem yi:zu ["_law_row_here","_law_bars_here","_law_number","_law_pool_here","_law_way","_law_at","_law_made","_law_known","_law_here","_law_label","_law_tags","_law_many"] ["_law_row_here","_law_bars_here","_law_number","_law_pool_here"] (zg zaH):=⟨rfl,rfl,rfl,by decide +kernel,rfl,by decide +kernel,by decide +kernel⟩
theorem zev(F:Fun K "_law_turned" "_law_turned" zaH f fd) (U:zl6 mg):zJ P w K mg base CX0 1 f fd ["_law_row_here","_law_bars_here","_law_number","_law_pool_here"] zbl:=by
 refine F.ok yi (fun vs H Q E h=>?_) (fun cdv A outer s H vs Q E hr h=>?_)
 ·obtain⟨la,lb,pa,n,D,bars,zs,rfl,_⟩:=h
  rfl
 obtain⟨la,lb,pa,n,D,bars,zs,rfl,⟨us,hla,hu⟩,hlb,hpa,z0,z4,hzn,fd,q⟩:=h;have hU:=hr.units;have hok:=zag fd;have l24:=wW fd;have lu:us.length=D.rows.length:=hu.length;have lb4:bars.length<=60:=by
  have nb:bars.Nodup:=(List.nodup_append.mp fd.nd).2.1
  have:=yI bars (zs++yc) nb fun z hz=>fd.zn z (List.mem_append.mpr (.inr hz))
  rw[length_append,show yc.length=52 from rfl] at this;omega
 have pick:∀(x:Int),∃j,x % (zs.length:Int)=((j:Nat):Int)/\∃h:j<zs.length,atI (zs.map V.str) (x % (zs.length:Int))=some (.str zs[j]):=fun x=>by
  have d0 : 0<=x % (zs.length:Int):=emod_nonneg _ (by omega)
  have d1:x % (zs.length:Int)<(zs.length:Int):=emod_lt_of_pos _ (by omega)
  obtain⟨j,hj⟩:=Int.eq_ofNat_of_zero_le d0;have hjl:j<zs.length:=by omega
  exact⟨j,hj,hjl,by rw[hj];exact wY (by rw[getElem?_map,getElem?_eq_getElem hjl];rfl)⟩
 have lz:((zs.map V.str).length:Int)=(zs.length:Int):=by rw[length_map]
 refine zA (zy (i:=4) yi.nd rfl (Or.inl rfl) (zz yt (pv 2) zf)) ?_;refine⟨_,rfl,_,_,rfl,rfl,(by show(0:Int)<10;decide),?_⟩
 generalize n % 10=way;dsimp only[zN];refine zA (zy (i:=5) yi.nd rfl (Or.inl rfl) (zz yt (zz yC (pv 2) zf) (cB (ja rfl) U.max boot_max (ac (cB zF U.len PySem.boot_len (ac (pv 0) zd)) (ac zf zd))))) ?_;refine⟨_,rfl,_,_,rfl,rfl,⟨by decide,by decide⟩,_,rfl,la,_,rfl,.inl (SqL.of hla),_,_,rfl,_,_,rfl,rfl,?_,?_⟩
 ·show(0:Int)<if (1:Int)>_ then 1 else _
  split <;> omega
 rw[length_map,lu];have em:(if (1:Int)>((D.rows.length:Nat):Int) then (1:Int) else ((D.rows.length:Nat):Int))=((max D.rows.length 1:Nat):Int):=by split <;> omega
 rw[em];obtain⟨at0,ea,al⟩:∃at0:Nat,n / 10 % ((max D.rows.length 1:Nat):Int)=(at0:Int)/\at0<max D.rows.length 1:=by
  have d0 : 0<=n / 10 % ((max D.rows.length 1:Nat):Int):=emod_nonneg _ (by omega)
  have d1:n / 10 % ((max D.rows.length 1:Nat):Int)<((max D.rows.length 1:Nat):Int):=emod_lt_of_pos _ (by omega)
  obtain⟨j,hj⟩:=Int.eq_ofNat_of_zero_le d0;exact⟨j,hj,by omega⟩
 rw[ea];dsimp only[zN];refine zA (zy (i:=6) yi.nd rfl (Or.inl rfl) (cTy yZ U.list PyProof.Rows.boot_list (ac (pv 0) zd))) ?_;refine⟨_,rfl,la,_,rfl,.inl (SqL.of hla),fun lm hlm=>?_⟩;have s1:=zc hlm (.lst (us.map V.ref));have g1:upd H lm (.lst (us.map V.ref)) lm=some (.lst (us.map V.ref)):=za;generalize upd H lm (.lst (us.map V.ref))=H1 at s1 g1 |-;dsimp only[zN];refine zA (zy (i:=7) yi.nd rfl (Or.inr rfl) (yP [] ["_law_this"] [none] rfl ⟨rfl,rfl,rfl,rfl⟩ (zM (pv 0)) (zG 0) rfl rfl rfl
   (fun pins fp s H C=>⟨zk (i:=0) uB rfl (Or.inl rfl) (.inr rfl),yk (zo (r:=rIn K false) yn (zB (r:=xk K) zw (pv 0) zf (fun _ _=>rfl)) (zW (ac zD (ac zD zd))) (by with_unfolding_all rfl)),zB (r:=xk K) zw (pv 0) zf (fun _ _=>rfl)⟩))) ?_
 refine⟨_,rfl,la,rfl,⟨_,SqL.of (s1 _ _ hla)⟩,fun kn hkn=>?_⟩;refine wx (K:=K) TAt (fun r=>yd r.k) (fun _ r=>.str r.z) hkn (s1 _ _ hla) (zr s1 hu) (by omega) (fun i u r H' N S hu' hr' tr sH n1 s1=>?_) (fun H2 s2 hk2=>?_)
 ·have rk:=hok r (mem_of_getElem? hr')
  have tu:=sH _ _ tr;refine⟨_,rfl,u,_,0,_,rfl,rfl,SqT.of tu,xg rk,zz2,fun l hl=>?_⟩;have s2:=zc hl (.lst [.str "both",.str "tag"]);refine⟨l,_,rfl,.inl (SqL.of za),rfl,rfl,_,rfl,?_⟩;rw[if_neg Bool.false_ne_true,zc4 rk.1];exact⟨fun e=>⟨_,rfl,u,_,1,_,rfl,rfl,SqT.of (s2 _ _ tu),uu rk,n1 _ s2 e⟩,fun e=>s1 _ s2 e⟩
 rw[zaX hu] at hk2;have s12:=s1.trans s2;have g1:=s2 _ _ g1;dsimp only[zN];refine zA (zy (i:=8) yi.nd rfl (Or.inl rfl) (zZ (ac zD (ac zD (ac xX zd))))) ?_;refine⟨zz3,fun he hhe=>?_⟩;have s3:=zc hhe (.tup (uH none));have g3:upd H2 he (.tup (uH none)) he=some (.tup (uH none)):=za;change ze4 _ _ _ _ (upd H2 he (.tup (uH none)));generalize upd H2 he (.tup (uH none))=H3 at s3 g3 |-;have s13:=s12.trans s3;have g1:=s3 _ _ g1;have hk2:=s3 _ _ hk2;refine zA (zP (zo (zcI (lt_of_le_of_lt (Nat.le_add_right _ 64) hU)) (pv 0) (zW zd) (zI _)) (ze (zy (i:=8) yi.nd rfl (Or.inl rfl) (zB yR (pv 0) (pv 5) (fun _ _=>rfl)))) zE) ?_;refine yB (fun σ' H'=>∃hx:Addr,σ'=[some (.ref la),some (.ref lb),some (.int n),some (.ref pa),some (.int way),some (.int (at0:Nat)),some (.ref lm),some (.ref kn),some (.ref hx),none,none,none]/\zm H3 H'/\H' hx=some (.tup (uH D.rows[at0]?))) ?_ (fun key=>?_);rotate_left
 ·refine⟨_,rfl,zz0,fun l hl=>?_⟩
  have s4:=zc hl (.lst []);refine⟨la,l,_,rfl,rfl,(s13.trans s4) _ _ hla,za,_,rfl,?_⟩;by_cases e:us=[]
  ·refine yS (by rw[e];rfl) ?_
   have er:D.rows=[]:=List.eq_nil_of_length_eq_zero (by rw[<- lu,e];rfl)
   refine key _ _ ⟨he,rfl,s4,?_⟩;rw[er];exact s4 _ _ g3
  ·refine xB (by rw[decide_eq_false (fun z=>e (List.map_eq_nil_iff.mp z))];rfl) ?_
   have l0 : 0<us.length:=List.length_pos_iff.mpr e;have hat:at0<us.length:=by rw[lu] at l0 |-;omega
   obtain⟨r,hr',tr⟩:=yb (zr s13 hu) (getElem?_eq_getElem hat);refine⟨_,rfl,_,rfl,la,_,_,.ref us[at0],rfl,rfl,SqL.of ((s13.trans s4) _ _ hla),wY (by rw[getElem?_map,getElem?_eq_getElem hat];rfl),?_⟩
   refine key _ _ ⟨_,rfl,s4,?_⟩;rw[hr'];exact s4 _ _ tr
 rintro σ4 H4 ⟨hx,rfl,s4,h4⟩;have s14:=s13.trans s4;have g1:=s4 _ _ g1;have hk2:=s4 _ _ hk2;have hla4:=s14 _ _ hla;have hu4:=zr s14 hu;have hlb4:=s14 _ _ hlb;have hpa4:=s14 _ _ hpa;clear s1 s2 s3 s4 s12 s13 g3;have s4r:zm H4 H4:=zm.refl _;refine zA (zP (zo yx (pv 4) zf (zI _)) (zj (zy (i:=9) yi.nd rfl (Or.inr rfl) (zB yR (pv 3) (zz yt (zz yC (pv 2) zf) (cB zF U.len PySem.boot_len (ac (pv 3) zd))) (fun _ _=>rfl)))
  (ze (vi (i:=6) ["_law_label"] ["_law_this","_law_label"] [none,some 9] yi.nd rfl (Or.inl rfl) rfl ⟨rfl,rfl,rfl,rfl⟩ (zM (pv 0)) (zG 0) rfl rfl rfl
   (fun pins fp s H C=>⟨zk (i:=0) zlV rfl (Or.inl rfl) (.inr rfl),yK,j0 (zo (r:=rIn K false) yn (zB (r:=xk K) zw (pv 0) zf (fun _ _=>rfl)) (zW (ac zD (ac zD (ac zD zd)))) (by with_unfolding_all rfl))
    (zz (r:=zbC K) js (zz (r:=zbC K) js (yf (r:=zfO K) zaA (pv 0) yJ (yj zf)) (zZ (ac (pv 1) zd))) (yf (r:=zfO K) zaA (pv 0) (yj zf) yJ)) (pv 0)⟩)))) zE) ?_
 refine yB (fun σ' H'=>(σ'=[some (.ref la),some (.ref lb),some (.int n),some (.ref pa),some (.int way),some (.int (at0:Nat)),some (.ref lm),some (.ref kn),some (.ref hx),none,none,none]/\zm H4 H')\/(way∈[(0:Int)]/\TG H la pa kn hx n way at0 zs σ' H')) ?_ (fun key=>?_);rotate_left
 ·refine⟨_,rfl,rfl,_,rfl,?_⟩
  by_cases hw:way=0
  rotate_left
  ·refine yS (decide_eq_false (fun c=>hw (V.int.inj c))) ?_
   exact key _ _ (.inl ⟨rfl,s4r⟩)
  refine xB (decide_eq_true (by rw[hw])) ?_
  obtain⟨j,hj,hjl,hat⟩:=pick (n / 300);refine⟨_,rfl,_,rfl,_,_,rfl,rfl,⟨by decide,by decide⟩,_,rfl,pa,_,rfl,.inl (SqL.of hpa4),_,_,rfl,rfl,(by rw[lz];omega),pa,_,_,.str zs[j],rfl,rfl,SqL.of hpa4,(by rw[lz];exact hat),?_⟩
  have hz:=hzn _ (getElem_mem hjl);generalize zs[j]=z at hz |-;dsimp only[zN];refine⟨_,rfl,la,rfl,⟨_,SqL.of hla4⟩,fun D5 hD5=>?_⟩;refine zdR (K:=K) (bs:=D.rows.map (rl z)) TAt (fun h s=>s _ _ h) TAt.upd (SqL.of hla4) (by rw[length_map,length_map,lu]) (by rw[length_map];omega) hD5 (fun i x r2 H5 Qf Qs hx' hr2 s5 qf=>?_) (fun vs H6 s6 e6 p6=>?_)
  ·obtain⟨u,hu',rfl⟩:=yV hx'
   obtain⟨r,hr',tr⟩:=yb hu4 hu';rw[getElem?_map,hr'] at hr2;cases hr2;have rk:=hok r (mem_of_getElem? hr');have tu:=s5 _ _ tr;refine⟨fun _=>?_,fun e=>Bool.noConfusion e⟩;refine⟨_,rfl,u,_,0,_,rfl,rfl,SqT.of tu,xg rk,zz3,fun l hl=>?_⟩;have s7:=zc hl (.lst [.str "seat",.str "tail",.str "bag"]);refine⟨l,_,rfl,.inl (SqL.of za),rfl,rfl,_,rfl,?_⟩;rw[if_neg Bool.false_ne_true,zj6 r.k rk.1];have tu7:TAt (upd H5 l (.lst [.str "seat",.str "tail",.str "bag"])) u r:=s7 _ _ tu;generalize upd H5 l (.lst [.str "seat",.str "tail",.str "bag"])=H7 at s7 tu7;by_cases hk:r.k=1\/r.k=3
   ·refine yS (by rcases hk with e|e <;> rw[e] <;> rfl) ?_
    exact⟨_,rfl,qf u H7 s7 (by unfold rl;rw[if_pos hk];exact tu7)⟩
   ·refine xB (by rw[show(r.k==1)=false from beq_false_of_ne (fun e=>hk (.inl e)),show(r.k==3)=false from beq_false_of_ne (fun e=>hk (.inr e))];rfl) ?_
    obtain⟨ys,c1,c2,f1,f2,er,ly⟩:=zkI rk hk z;refine⟨_,rfl,_,rfl,u,_,rfl,SqT.of tu7,f1,fun p1 hp1=>?_⟩;rw[c1];have s8:=zc hp1 (.tup [.str (kw r.k)]);have g8:upd H7 p1 (.tup [.str (kw r.k)]) p1=some (.tup [.str (kw r.k)]):=za;have tu8:=s8 _ _ tu7;generalize upd H7 p1 (.tup [.str (kw r.k)])=H8 at s8 g8 tu8 |-;refine⟨_,rfl,zz1,fun p2 hp2=>?_⟩;have s9:=zc hp2 (.tup [.str z]);refine⟨p1,p2,_,_,rfl,rfl,SqT.of (s9 _ _ g8),SqT.of za,(fun e=>by cases e),zz2,(fun e=>by cases e),fun _ p3 hp3=>?_⟩
    have s10:=zc hp3 (.tup [.str (kw r.k),.str z]);have tu10:=(s9.trans s10) _ _ tu8;change tSl _ _ _ _ _ (upd (upd H8 p2 (.tup [.str z])) p3 (.tup [.str (kw r.k),.str z])) _;have g10:upd (upd H8 p2 (.tup [.str z])) p3 (.tup [.str (kw r.k),.str z]) p3=some (.tup [.str (kw r.k),.str z]):=za;generalize upd (upd H8 p2 (.tup [.str z])) p3 (.tup [.str (kw r.k),.str z])=H10 at s10 tu10 g10 |-;refine⟨_,rfl,_,rfl,u,_,rfl,SqT.of tu10,f2,fun p4 hp4=>?_⟩;rw[c2];have s11:=zc hp4 (.tup ys);have g11:=s11 _ _ g10;have sA:=s7.trans (s8.trans (s9.trans (s10.trans s11)));refine⟨p3,p4,_,_,rfl,rfl,SqT.of g11,SqT.of za,(fun e=>by cases e),z3 (by show 2+ys.length<=1000;omega),fun e=>?_,fun e p5 hp5=>?_⟩
    ·refine qf p3 _ sA ?_
     have e0:rv (rl z r)=[.str (kw r.k),.str z]:=by rw[<- er,e];rfl
     show _=some (HO.tup (rv (rl z r)));rw[e0];exact g11
    ·refine qf p5 _ (sA.trans (zc hp5 _)) ?_
     show upd _ p5 _ p5=some (.tup (rv (rl z r)));rw[<- er];exact za
  ·dsimp only[zN]
   obtain⟨er,fd'⟩:=zk7 fd hz;refine key _ _ (.inr ⟨by rw[hw];exact List.mem_singleton.mpr rfl,D5,lb,_,bars,_,_,_,rfl,s14.trans s6,⟨vs,e6,by rw[<- er];exact p6⟩,s6 _ _ hlb4,fd'⟩)
 rintro σ5 H5 J5;refine zA (zP (zo yx (pv 4) zf (zI _)) (zj (vi (i:=10) [] ["_law_this"] [none] yi.nd rfl (Or.inl rfl) rfl ⟨rfl,rfl,rfl,rfl⟩ (zM (pv 0)) (zG 0) rfl rfl rfl
   (fun pins fp s H C=>⟨zk (i:=0) uB rfl (Or.inl rfl) (.inr rfl),yk (zo yx (zB (r:=xk K) zw (pv 0) zf (fun _ _=>rfl)) zD (zI _)),pv 0⟩))
  (zj (zy (i:=6) yi.nd rfl (Or.inl rfl) (zz ym (yP [] ["_law_this"] [none] rfl ⟨rfl,rfl,rfl,rfl⟩ (zM (pv 0)) (zG 0) rfl rfl rfl
   (fun pins fp s H C=>⟨zk (i:=0) uB rfl (Or.inl rfl) (.inr rfl),yk (zo (r:=rIn K false) yn (zB (r:=xk K) zw (pv 0) zf (fun _ _=>rfl)) (zW (ac zD (ac zD (ac zD zd)))) (by with_unfolding_all rfl)),pv 0⟩)) (jZ rfl rfl U.list rfl U.rev (ac (pv 10) zd))))
  (zj (zy (i:=6) yi.nd rfl (Or.inl rfl) (zz ym (pv 6) (yP [] ["_law_this"] [none] rfl ⟨rfl,rfl,rfl,rfl⟩ (zM (pv 0)) (zG 0) rfl rfl rfl
   (fun pins fp s H C=>⟨zk (i:=0) uB rfl (Or.inl rfl) (.inr rfl),yk (zo yx (zB (r:=xk K) zw (pv 0) zf (fun _ _=>rfl)) zD (zI _)),pv 0⟩))))
  (ze (zy (i:=1) yi.nd rfl (Or.inr rfl) (jZ rfl rfl U.list rfl U.rev (ac (pv 1) zd))))))) zE) ?_
 refine yB (fun σ' H'=>(σ'=[some (.ref la),some (.ref lb),some (.int n),some (.ref pa),some (.int way),some (.int (at0:Nat)),some (.ref lm),some (.ref kn),some (.ref hx),none,none,none]/\zm H4 H')\/(way∈[1,0]/\TG H la pa kn hx n way at0 zs σ' H')) ?_ (fun key=>?_);rotate_left
 ·rcases J5 with ⟨rfl,s5⟩|⟨hw,lm',lb',D',bars',v9,v10,v11,rfl,g⟩
  rotate_left
  ·refine⟨_,rfl,rfl,_,rfl,?_⟩
   refine yS (decide_eq_false (fun c=>by rw[V.int.inj c] at hw;revert hw;decide)) ?_
   exact key _ _ (.inr ⟨mem_cons_of_mem _ hw,lm',lb',D',bars',v9,v10,v11,rfl,g⟩)
  refine⟨_,rfl,rfl,_,rfl,?_⟩;by_cases hw:way=1
  rotate_left
  ·refine yS (decide_eq_false (fun c=>hw (V.int.inj c))) ?_
   exact key _ _ (.inl ⟨rfl,s5⟩)
  refine xB (decide_eq_true (by rw[hw])) ?_
  refine⟨_,rfl,la,rfl,⟨_,SqL.of (s5 _ _ hla4)⟩,fun D6 hD6=>?_⟩;refine zcT 3 (by decide) rfl (s5 _ _ hla4) (zr s5 hu4) hok l24 hD6 (fun H6 ts s6 e6 p6=>?_)
  have s46:=s5.trans s6;dsimp only[zN];refine⟨_,rfl,la,rfl,⟨_,SqL.of (s46 _ _ hla4)⟩,fun D7 hD7=>?_⟩;refine wx (K:=K) TAt (fun r=>r.k==0||r.k==1||r.k==2) (fun u _=>.ref u) hD7 (s46 _ _ hla4) (zr s46 hu4) (by omega) (fun i u r H' N S hu' hr' tr sH n1 s1=>?_) (fun H7 s7 e7=>?_)
  ·have rk:=hok r (mem_of_getElem? hr')
   have tu:=sH _ _ tr;refine⟨_,rfl,u,_,0,_,rfl,rfl,SqT.of tu,xg rk,zz3,fun l hl=>?_⟩;have s2:=zc hl (.lst [.str "seat",.str "both",.str "tail"]);refine⟨l,_,rfl,.inl (SqL.of za),rfl,rfl,_,rfl,?_⟩;rw[if_neg Bool.false_ne_true,zj5 r.k rk.1];exact⟨fun e=>⟨_,rfl,n1 _ s2 e⟩,fun e=>s1 _ s2 e⟩
  have s47:=s46.trans s7;obtain⟨as,ev,p7⟩:=ui (zr s47 hu4) fun r=>r.k==0||r.k==1||r.k==2
  rw[ev] at e7;have p6:=zr s7 p6;have lts:ts.length<=24:=by rw[p6.length];exact Nat.le_trans (length_filter_le _ _) l24
  have las:as.length<=24:=by rw[p7.length];exact Nat.le_trans (length_filter_le _ _) l24
  refine⟨_,rfl,D6,_,rfl,SqL.of (s7 _ _ e6),by rw[length_map];omega,fun l8 hl8=>?_⟩
  rw[<- map_reverse];have s8:=zc hl8 (.lst (ts.reverse.map V.ref));refine⟨D7,l8,_,_,rfl,rfl,s8 _ _ e7,za,z3 (by rw[length_map,length_map,length_reverse];omega),fun l9 hl9=>?_⟩
  rw[<- map_append];have s9:=zc hl9 (.lst ((as++ts.reverse).map V.ref));have p9:=zr (s8.trans s9) (yl p7 (zer p6));have g9:upd (upd H7 l8 (.lst (ts.reverse.map V.ref))) l9 (.lst ((as++ts.reverse).map V.ref)) l9=some (.lst ((as++ts.reverse).map V.ref)):=za;have s49:=s47.trans (s8.trans s9);dsimp only[zN];generalize upd (upd H7 l8 (.lst (ts.reverse.map V.ref))) l9 (.lst ((as++ts.reverse).map V.ref))=H9 at s9 p9 g9 s49 |-;refine⟨_,rfl,_,rfl,la,rfl,⟨_,SqL.of (s49 _ _ hla4)⟩,fun D10 hD10=>?_⟩;refine zcT 4 (by decide) rfl (s49 _ _ hla4) (zr s49 hu4) hok l24 hD10 (fun H10 bs s10 e10 p10=>?_)
  have lbs:bs.length<=24:=by rw[p10.length];exact Nat.le_trans (length_filter_le _ _) l24
  refine⟨l9,D10,_,_,rfl,rfl,s10 _ _ g9,e10,z3 (by rw[length_map,length_map,length_append,length_reverse];omega),fun l11 hl11=>?_⟩
  rw[<- map_append];have s11:=zc hl11 (.lst ((as++ts.reverse++bs).map V.ref));have p11:=zr s11 (yl (zr s10 p9) p10);have g11:upd H10 l11 (.lst ((as++ts.reverse++bs).map V.ref)) l11=some (.lst ((as++ts.reverse++bs).map V.ref)):=za;have s411:=s49.trans (s10.trans s11);dsimp only[zN];generalize upd H10 l11 (.lst ((as++ts.reverse++bs).map V.ref))=H11 at s11 p11 g11 s411 |-;refine⟨_,rfl,lb,_,rfl,SqL.of (s411 _ _ hlb4),by rw[length_map];omega,fun l12 hl12=>?_⟩
  rw[<- map_reverse];have s12:=zc hl12 (.lst (bars.reverse.map V.str));dsimp only[zN];refine key _ _ (.inr ⟨by rw[hw];exact mem_cons_self,l11,l12,⟨D.P,D.T,D.G.reverse,D.B⟩,bars.reverse,_,_,_,rfl,s14.trans (s411.trans s12),⟨_,s12 _ _ g11,?_⟩,za,zka fd⟩)
  have p11:=zr s12 p11;rw[zii fd,zlb fd,zla fd] at p11;rw[show FD.rows ⟨D.P,D.T,D.G.reverse,D.B⟩=D.P++D.T++D.G.reverse++D.B by unfold FD.rows;simp]
  exact p11
 have hat:us≠[]->at0<D.rows.length/\∃r,D.rows[at0]?=some r/\r.ok:=fun e=>by
  have l0 : 0<us.length:=List.length_pos_iff.mpr e;have h0:at0<D.rows.length:=by rw[lu] at l0;omega
  exact⟨h0,_,getElem?_eq_getElem h0,hok _ (getElem_mem h0)⟩
 rintro σ6 H6 J6;refine zA (zP (PW.pt (xa (zo (r:=rIn K false) yn (pv 4) (zW (ac zf (ac zf zd))) (by with_unfolding_all rfl)) (xa (zo yx (cB zF U.len PySem.boot_len (ac (pv 8) zd)) zf (zI _)) (yQ (zo (zcI (lt_of_le_of_lt (Nat.le_add_right _ 64) hU)) (pv 0) (zW zd) (zI _))))))
  (ze (wQ (zz (r:=zbC K) js (yf (r:=zfO K) zaA (pv 8) yJ (yj zf)) (zZ (ac (zcF (zB (r:=xk K) zw (pv 8) zf (fun _ _=>rfl))) zd))) (zfV (pv 6) (pv 5) zbs))) zE) ?_
 refine yB (fun σ' H'=>(σ'=[some (.ref la),some (.ref lb),some (.int n),some (.ref pa),some (.int way),some (.int (at0:Nat)),some (.ref lm),some (.ref kn),some (.ref hx),none,none,none]/\zm H4 H')\/(way∈[2,3,1,0]/\TG H la pa kn hx n way at0 zs σ' H')) ?_ (fun key=>?_);rotate_left
 ·rcases J6 with ⟨rfl,s6⟩|⟨hw,lm',lb',D',bars',v9,v10,v11,rfl,g1',g2',g3',g4'⟩
  rotate_left
  ·refine⟨_,rfl,zz2,fun l hl=>?_⟩
   have s7:=zc hl (.lst [.int 2,.int 3]);refine⟨l,_,rfl,.inl (SqL.of za),rfl,rfl,_,rfl,?_⟩;rw[if_neg Bool.false_ne_true,ziT];refine yS (decide_eq_false (fun c=>by rcases c with c|c <;> (rw[c] at hw;revert hw;decide))) ?_
   refine yq ?_;exact key _ _ (.inr ⟨mem_cons_of_mem _ (mem_cons_of_mem _ hw),lm',lb',D',bars',v9,v10,v11,rfl,g1'.trans s7,g2'.same s7,s7 _ _ g3',g4'⟩)
  refine⟨_,rfl,zz2,fun l hl=>?_⟩;have s7:=zc hl (.lst [.int 2,.int 3]);refine⟨l,_,rfl,.inl (SqL.of za),rfl,rfl,_,rfl,?_⟩;have s47:=s6.trans s7;generalize upd H6 l (.lst [.int 2,.int 3])=H7 at s7 s47 |-;rw[if_neg Bool.false_ne_true,ziT];by_cases hw:way=2\/way=3
  rotate_left
  ·refine yS (decide_eq_false hw) ?_
   refine yq ?_;exact key _ _ (.inl ⟨rfl,s47⟩)
  refine xB (decide_eq_true hw) ?_;refine⟨_,rfl,hx,_,rfl,.inr (SqT.of (s47 _ _ h4)),rfl,_,rfl,?_⟩;by_cases h3:(uH D.rows[at0]?).length=3
  rotate_left
  ·refine yS (decide_eq_false (fun c=>h3 (by have:=V.int.inj c;omega))) ?_
   refine yq ?_;exact key _ _ (.inl ⟨rfl,s47⟩)
  refine xB (decide_eq_true (by rw[h3];rfl)) ?_
  refine⟨_,rfl,zz0,fun l2 hl2=>?_⟩;have s8:=zc hl2 (.lst []);have s48:=s47.trans s8;refine⟨la,l2,_,rfl,rfl,s48 _ _ hla4,za,_,rfl,?_⟩;generalize upd H7 l2 (.lst [])=H8 at s8 s48 |-;by_cases eu:us=[]
  ·refine yS (by rw[eu];rfl) ?_
   exact key _ _ (.inl ⟨rfl,s48⟩)
  refine xB (by rw[decide_eq_false (fun z=>eu (List.map_eq_nil_iff.mp z))];rfl) ?_
  obtain⟨hal,r,er,rk⟩:=hat eu;have hk3:r.k=0\/r.k=1\/r.k=3:=by
   rcases zk2 (fun r' e=>by rw[er] at e;cases e;exact rk) h3 with e|⟨r',e,k⟩
   ·rw[er] at e;cases e
   ·rw[er] at e;cases e;exact k
  have h8:H8 hx=some (.tup (rv r)):=by have:=s48 _ _ h4;rw[er] at this;exact this
  obtain⟨c1,c2,c3⟩:=zgM hk3;refine⟨_,rfl,_,rfl,hx,_,rfl,SqT.of h8,c2,fun p1 hp1=>?_⟩;rw[c1];have s9:=zc hp1 (.tup [.str (kw r.k),.str r.z]);have g9:upd H8 p1 (.tup [.str (kw r.k),.str r.z]) p1=some (.tup [.str (kw r.k),.str r.z]):=za;have h9:=s9 _ _ h8;have s49:=s48.trans s9;generalize upd H8 p1 (.tup [.str (kw r.k),.str r.z])=H9 at s9 g9 h9 s49 |-;refine⟨_,rfl,hx,_,2,_,rfl,rfl,SqT.of h9,zdF hk3,_,rfl,zz1,fun p2 hp2=>?_⟩;have s10:=zc hp2 (.tup [.bl (!r.b)]);refine⟨p1,p2,_,_,rfl,rfl,SqT.of (s10 _ _ g9),SqT.of za,(fun e=>by cases e),zz3,(fun e=>by cases e),fun _ p3 hp3=>?_⟩
  have s11:=zc hp3 (.tup [.str (kw r.k),.str r.z,.bl (!r.b)]);have s411:=s49.trans (s10.trans s11);have t3:TAt (upd (upd H9 p2 (.tup [.bl (!r.b)])) p3 (.tup [.str (kw r.k),.str r.z,.bl (!r.b)])) p3 ⟨r.k,r.z,!r.b⟩:=by
   show upd _ p3 _ p3=some (.tup (rv ⟨r.k,r.z,!r.b⟩));rw[c3];exact za
  refine⟨_,rfl,_,rfl,lm,_,_,at0,rfl,rfl,s411 _ _ g1,zcO (by rw[length_map,lu];exact hal),?_⟩
  rw[show([.str (kw r.k),.str r.z]++[.bl (!r.b)]:List V)=[.str (kw r.k),.str r.z,.bl (!r.b)] from rfl];generalize upd (upd H9 p2 (.tup [.bl (!r.b)])) p3 (.tup [.str (kw r.k),.str r.z,.bl (!r.b)])=H11 at s11 s411 t3 |-;have e1:=s411 _ _ g1;obtain⟨D',eD,fD⟩:=za6 fd er (zif rk);rw[<- map_set (f:=V.ref)];refine key _ _ (.inr ⟨by rcases hw with e|e <;> rw[e] <;> decide,lm,lb,D',bars,_,_,_,rfl,ut (s14.trans s411) hlm,⟨us.set at0 p3,za,?_⟩,by rw[zh (zi hlb hlm)];exact s411 _ _ hlb4,fD⟩)
  rw[<- eD,<- zbz hal];exact uj (qT (zr s411 hu4) t3 at0) e1
 rintro σ7 H7 JJ;refine zA (zP (PW.pt (xa (zo yx (pv 4) zf (zI _)) (yQ (zo (zcI (lt_of_le_of_lt (Nat.le_add_right _ 64) hU)) (pv 0) (zW zd) (zI _)))))
  (ze (z6 (xL PySem.F.plainAttrs_list PySem.F.slot_list_pop PySem.F.type_list_pop zgu (pv 6) (ac (pv 5) zd)))) zE) ?_
 refine yB (fun σ' H'=>(σ'=[some (.ref la),some (.ref lb),some (.int n),some (.ref pa),some (.int way),some (.int (at0:Nat)),some (.ref lm),some (.ref kn),some (.ref hx),none,none,none]/\zm H4 H')\/(way∈[4,2,3,1,0]/\TG H la pa kn hx n way at0 zs σ' H')) ?_ (fun key=>?_);rotate_left
 ·rcases JJ with ⟨rfl,s5⟩|⟨hw,lm',lb',D',bars',v9,v10,v11,rfl,g⟩
  rotate_left
  ·refine⟨_,rfl,rfl,_,rfl,?_⟩
   refine yS (decide_eq_false (fun c=>by rw[V.int.inj c] at hw;revert hw;decide)) ?_
   refine yq ?_;exact key _ _ (.inr ⟨mem_cons_of_mem _ hw,lm',lb',D',bars',v9,v10,v11,rfl,g⟩)
  refine⟨_,rfl,rfl,_,rfl,?_⟩;by_cases hw:way=4
  rotate_left
  ·refine yS (decide_eq_false (fun c=>hw (V.int.inj c))) ?_
   refine yq ?_;exact key _ _ (.inl ⟨rfl,s5⟩)
  refine xB (decide_eq_true (by rw[hw])) ?_
  refine⟨_,rfl,zz0,fun l2 hl2=>?_⟩;have s8:=zc hl2 (.lst []);have s48:=s5.trans s8;refine⟨la,l2,_,rfl,rfl,s48 _ _ hla4,za,_,rfl,?_⟩;generalize upd H7 l2 (.lst [])=H8 at s8 s48 |-;by_cases eu:us=[]
  ·refine yS (by rw[eu];rfl) ?_
   exact key _ _ (.inl ⟨rfl,s48⟩)
  refine xB (by rw[decide_eq_false (fun z=>eu (List.map_eq_nil_iff.mp z))];rfl) ?_
  obtain⟨hal,r,er,rk⟩:=hat eu;have hal':at0<us.length:=by rw[lu];exact hal
  have e1:=s48 _ _ g1;refine⟨_,rfl,.inl ⟨rfl,_,SqL.of e1⟩,_,rfl,lm,_,_,at0,.ref us[at0],rfl,rfl,e1,by omega,by omega,zh4 (by rw[length_map];exact hal'),by rw[getElem?_map,getElem?_eq_getElem hal'];rfl,?_⟩
  obtain⟨D',eD,fD⟩:=za6 fd er zh2;have em:(us.map V.ref).eraseIdx at0=(us.eraseIdx at0).map V.ref:=by rw[List.eraseIdx_eq_take_drop_succ,List.eraseIdx_eq_take_drop_succ,map_append,map_take,map_drop]
  rw[em];refine key _ _ (.inr ⟨by rw[hw];decide,lm,lb,D',bars,_,_,_,rfl,ut (s14.trans s48) hlm,⟨us.eraseIdx at0,za,?_⟩,by rw[zh (zi hlb hlm)];exact s48 _ _ hlb4,fD⟩)
  rw[<- eD,<- zhw];exact uj (zfZ (zr s48 hu4) at0) e1
 rintro σ7 H7 JJ;refine zA (zP (PW.pt (xa (zo yx (pv 4) zf (zI _)) (yQ (zo yx (zB (r:=xk K) zw (pv 8) zf (fun _ _=>rfl)) zD (zI _)))))
  (ze (wQ (zz (r:=zbC K) js (zZ (ac zD zd)) (yf (r:=zfO K) zaA (pv 8) (yj zf) yJ)) (zfV (pv 6) (pv 5) zbs))) zE) ?_
 refine yB (fun σ' H'=>(σ'=[some (.ref la),some (.ref lb),some (.int n),some (.ref pa),some (.int way),some (.int (at0:Nat)),some (.ref lm),some (.ref kn),some (.ref hx),none,none,none]/\zm H4 H')\/(way∈[5,4,2,3,1,0]/\TG H la pa kn hx n way at0 zs σ' H')) ?_ (fun key=>?_);rotate_left
 ·rcases JJ with ⟨rfl,s5⟩|⟨hw,lm',lb',D',bars',v9,v10,v11,rfl,g⟩
  rotate_left
  ·refine⟨_,rfl,rfl,_,rfl,?_⟩
   refine yS (decide_eq_false (fun c=>by rw[V.int.inj c] at hw;revert hw;decide)) ?_
   refine yq ?_;exact key _ _ (.inr ⟨mem_cons_of_mem _ hw,lm',lb',D',bars',v9,v10,v11,rfl,g⟩)
  refine⟨_,rfl,rfl,_,rfl,?_⟩;by_cases hw:way=5
  rotate_left
  ·refine yS (decide_eq_false (fun c=>hw (V.int.inj c))) ?_
   refine yq ?_;exact key _ _ (.inl ⟨rfl,s5⟩)
  refine xB (decide_eq_true (by rw[hw])) ?_
  have okh:∀r,D.rows[at0]?=some r->r.ok:=fun r e=>hok r (mem_of_getElem? e);obtain⟨z0',ez0,ed⟩:=zk3 okh;refine⟨_,rfl,hx,_,0,_,rfl,rfl,SqT.of (s5 _ _ h4),ez0,rfl,_,rfl,?_⟩;rw[show decide (V.str z0'=V.str (Str.ofString "both"))=_ from ed];by_cases hb:∃r,D.rows[at0]?=some r/\r.k=1
  rotate_left
  ·refine yS (decide_eq_false hb) ?_
   exact key _ _ (.inl ⟨rfl,s5⟩)
  refine xB (decide_eq_true hb) ?_;obtain⟨r,er,k1⟩:=hb;have rk:=okh r er;have hal:at0<D.rows.length:=(List.getElem?_eq_some_iff.mp er).1;refine⟨zz1,fun p1 hp1=>?_⟩;have s9:=zc hp1 (.tup [.str "seat"]);have g9:upd H7 p1 (.tup [.str "seat"]) p1=some (.tup [.str "seat"]):=za;have s49:=s5.trans s9;generalize upd H7 p1 (.tup [.str "seat"])=H9 at s9 g9 s49 |-;have h9:H9 hx=some (.tup (rv r)):=by have:=s49 _ _ h4;rw[er] at this;exact this
  obtain⟨c1,c2⟩:=zfl k1;refine⟨_,rfl,_,rfl,hx,_,rfl,SqT.of h9,c2,fun p2 hp2=>?_⟩;rw[c1];have s10:=zc hp2 (.tup [.str r.z,.bl r.b]);refine⟨p1,p2,_,_,rfl,rfl,SqT.of (s10 _ _ g9),SqT.of za,(fun e=>by cases e),zz3,(fun e=>by cases e),fun _ p3 hp3=>?_⟩
  have s11:=zc hp3 (.tup [.str "seat",.str r.z,.bl r.b]);have s411:=s49.trans (s10.trans s11);have t3:TAt (upd (upd H9 p2 (.tup [.str r.z,.bl r.b])) p3 (.tup [.str "seat",.str r.z,.bl r.b])) p3 ⟨0,r.z,r.b⟩:=za;refine⟨_,rfl,_,rfl,lm,_,_,at0,rfl,rfl,s411 _ _ g1,zcO (by rw[length_map,lu];exact hal),?_⟩
  rw[show([.str (Str.ofString "seat")]++[.str r.z,.bl r.b]:List V)=[.str (Str.ofString "seat"),.str r.z,.bl r.b] from rfl];generalize upd (upd H9 p2 (.tup [.str r.z,.bl r.b])) p3 (.tup [.str "seat",.str r.z,.bl r.b])=H11 at s11 s411 t3 |-;have e1:=s411 _ _ g1;obtain⟨D',eD,fD⟩:=za6 fd er (zhi rk k1);rw[<- map_set (f:=V.ref)];refine key _ _ (.inr ⟨by rw[hw];decide,lm,lb,D',bars,_,_,_,rfl,ut (s14.trans s411) hlm,⟨us.set at0 p3,za,?_⟩,by rw[zh (zi hlb hlm)];exact s411 _ _ hlb4,fD⟩)
  rw[<- eD,<- zbz hal];exact uj (qT (zr s411 hu4) t3 at0) e1
 rintro σ7 H7 JJ;refine zA (zP (zo yx (pv 4) zf (zI _)) (ze (zy (i:=1) yi.nd rfl (Or.inr rfl) (yf yU (pv 1) (yj zf) yJ))) zE) ?_;refine yB (fun σ' H'=>(σ'=[some (.ref la),some (.ref lb),some (.int n),some (.ref pa),some (.int way),some (.int (at0:Nat)),some (.ref lm),some (.ref kn),some (.ref hx),none,none,none]/\zm H4 H')\/(way∈[6,5,4,2,3,1,0]/\TG H la pa kn hx n way at0 zs σ' H')) ?_ (fun key=>?_);rotate_left
 ·rcases JJ with ⟨rfl,s5⟩|⟨hw,lm',lb',D',bars',v9,v10,v11,rfl,g⟩
  rotate_left
  ·refine⟨_,rfl,rfl,_,rfl,?_⟩
   refine yS (decide_eq_false (fun c=>by rw[V.int.inj c] at hw;revert hw;decide)) ?_
   exact key _ _ (.inr ⟨mem_cons_of_mem _ hw,lm',lb',D',bars',v9,v10,v11,rfl,g⟩)
  refine⟨_,rfl,rfl,_,rfl,?_⟩;by_cases hw:way=6
  rotate_left
  ·refine yS (decide_eq_false (fun c=>hw (V.int.inj c))) ?_
   exact key _ _ (.inl ⟨rfl,s5⟩)
  refine xB (decide_eq_true (by rw[hw])) ?_
  refine⟨_,rfl,_,rfl,lb,_,rfl,SqL.of (s5 _ _ hlb4),fun l8 hl8=>?_⟩;rw[show xo (bars.map V.str) (some 1) none=(bars.drop 1).map V.str from (wJ (n:=1)).trans (map_drop ..).symm];have s8:=zc hl8 (.lst ((bars.drop 1).map V.str));have s48:=s5.trans s8;dsimp only[zN];exact key _ _ (.inr ⟨by rw[hw];decide,lm,l8,D,bars.drop 1,_,_,_,rfl,s14.trans s48,⟨us,s48 _ _ g1,zr s48 hu4⟩,za,zij fd (List.drop_sublist 1 bars)⟩)
 rintro σ7 H7 JJ;refine zA (zP (zo yx (pv 4) zf (zI _)) (ze (zy (i:=1) yi.nd rfl (Or.inr rfl) (zz ym (pv 1) (yf yU (yP ["_law_known","_law_bars_here"] ["_law_name","_law_bars_here","_law_known"] [none,some 1,some 7] rfl ⟨rfl,rfl,rfl,rfl⟩ (zM (pv 3)) (zG 0) rfl rfl rfl
   (fun pins fp s H C=>⟨zk (i:=0) zkU rfl (Or.inl rfl) (.inr rfl),yk (zo (r:=rIn K true) yv (pv 0) (zz ym (pv 2) (pv 1)) (by with_unfolding_all rfl)),pv 0⟩)) yJ (yj zf))))) zE) ?_
 refine yB (fun σ' H'=>(σ'=[some (.ref la),some (.ref lb),some (.int n),some (.ref pa),some (.int way),some (.int (at0:Nat)),some (.ref lm),some (.ref kn),some (.ref hx),none,none,none]/\zm H4 H')\/(way∈[7,6,5,4,2,3,1,0]/\TG H la pa kn hx n way at0 zs σ' H')) ?_ (fun key=>?_);rotate_left
 ·rcases JJ with ⟨rfl,s5⟩|⟨hw,lm',lb',D',bars',v9,v10,v11,rfl,g⟩
  rotate_left
  ·refine⟨_,rfl,rfl,_,rfl,?_⟩
   refine yS (decide_eq_false (fun c=>by rw[V.int.inj c] at hw;revert hw;decide)) ?_
   exact key _ _ (.inr ⟨mem_cons_of_mem _ hw,lm',lb',D',bars',v9,v10,v11,rfl,g⟩)
  refine⟨_,rfl,rfl,_,rfl,?_⟩;by_cases hw:way=7
  rotate_left
  ·refine yS (decide_eq_false (fun c=>hw (V.int.inj c))) ?_
   exact key _ _ (.inl ⟨rfl,s5⟩)
  refine xB (decide_eq_true (by rw[hw])) ?_
  have nl:(nms D.rows).length<=24:=Nat.le_trans (ju _) l24;refine⟨_,rfl,_,rfl,pa,rfl,⟨_,SqL.of (s5 _ _ hpa4)⟩,fun D8 hD8=>?_⟩;refine wl (K:=K) (xs:=zs.map V.str) zs (fun z=>decide (z∉nms D.rows++bars)) V.str hD8 (SqL.of (s5 _ _ hpa4)) (by rw[length_map]) (by rw[length_map];omega) (fun i x z H' N S hx' hz sH n1 s1=>?_) (fun H8 s8 e8=>?_)
  ·obtain⟨z',hz',rfl⟩:=strs_at hx'
   rw[hz] at hz';cases hz';have sA:=s5.trans sH;refine⟨_,rfl,_,rfl,_,rfl,kn,lb,_,_,rfl,rfl,sA _ _ hk2,sA _ _ hlb4,z3 (by rw[length_map,length_map];omega),fun l hl=>?_⟩
   rw[<- map_append];refine⟨l,_,rfl,.inl (SqL.of za),rfl,yA,_,rfl,?_⟩;rw[if_pos rfl,y6,<- decide_not];exact⟨fun e=>⟨_,rfl,n1 _ (zc hl _) e⟩,fun e=>s1 _ (zc hl _) e⟩
  have e8:H8 D8=some (.lst ((zs.filter fun z=>decide (z∉nms D.rows++bars)).map V.str)):=e8;refine⟨_,rfl,D8,_,rfl,SqL.of e8,fun l9 hl9=>?_⟩;rw[show xo ((zs.filter fun z=>decide (z∉nms D.rows++bars)).map V.str) none (some 1)=((zs.filter fun z=>decide (z∉nms D.rows++bars)).take 1).map V.str from (xG (n:=1)).trans (map_take ..).symm];have hb:∀z∈(zs.filter fun z=>decide (z∉nms D.rows++bars)).take 1,z∈zs++yc/\z∉nms D.P++nms D.G++bars:=fun z hz=>by
   obtain⟨a,b⟩:=List.mem_filter.mp (mem_of_mem_take hz);have enm:nms D.rows=nms D.P++nms D.G:=by have:=xF fd (m:=0) (zero_le _);simpa using this
   rw[<- enm];exact⟨List.mem_append.mpr (.inl a),of_decide_eq_true b⟩
  have l1:((zs.filter fun z=>decide (z∉nms D.rows++bars)).take 1).length<=1:=by rw[length_take];omega
  generalize (zs.filter fun z=>decide (z∉nms D.rows++bars)).take 1=bs at hb l1;have s9:=zc hl9 (.lst (bs.map V.str));have s49:=s5.trans (s8.trans s9);refine⟨lb,l9,_,_,rfl,rfl,s49 _ _ hlb4,za,z3 (by rw[length_map,length_map];omega),fun l10 hl10=>?_⟩
  rw[<- map_append];have s10:=zc hl10 (.lst ((bars++bs).map V.str));have s410:=s49.trans s10;dsimp only[zN];exact key _ _ (.inr ⟨by rw[hw];decide,lm,l10,D,bars++bs,_,_,_,rfl,s14.trans s410,⟨us,s410 _ _ g1,zr s410 hu4⟩,za,zih fd l1 hb⟩)
 rintro σ7 H7 JJ;refine zA (zP (zo yx (pv 4) zf (zI _)) (zj (vi (i:=6) [] ["_law_this"] [none] yi.nd rfl (Or.inl rfl) rfl ⟨rfl,rfl,rfl,rfl⟩ (zM (pv 0)) (zG 0) rfl rfl rfl
   (fun pins fp s H C=>⟨zk (i:=0) uB rfl (Or.inl rfl) (.inr rfl),yk (zo j5 (zB (r:=xk K) zw (pv 0) zf (fun _ _=>rfl)) zD (zI _)),pv 0⟩))
  (ze (zP (zo yx (cB zF U.len PySem.boot_len (ac (pv 6) zd)) (cB zF U.len PySem.boot_len (ac (pv 0) zd)) (zI _)) (ze (z6 (xL PySem.F.plainAttrs_list PySem.F.slot_list_append PySem.F.type_list_append yu (pv 6) (ac (zZ (ac zD (ac (zB yR (pv 3) (zz yt (zz yC (pv 2) zf) (cB zF U.len PySem.boot_len (ac (pv 3) zd))) (fun _ _=>rfl)) zd))) zd)))) zE))) zE) ?_
 refine yB (fun σ' H'=>(σ'=[some (.ref la),some (.ref lb),some (.int n),some (.ref pa),some (.int way),some (.int (at0:Nat)),some (.ref lm),some (.ref kn),some (.ref hx),none,none,none]/\zm H4 H')\/(way∈[8,7,6,5,4,2,3,1,0]/\TG H la pa kn hx n way at0 zs σ' H')) ?_ (fun key=>?_);rotate_left
 ·rcases JJ with ⟨rfl,s5⟩|⟨hw,lm',lb',D',bars',v9,v10,v11,rfl,g⟩
  rotate_left
  ·refine⟨_,rfl,rfl,_,rfl,?_⟩
   refine yS (decide_eq_false (fun c=>by rw[V.int.inj c] at hw;revert hw;decide)) ?_
   exact key _ _ (.inr ⟨mem_cons_of_mem _ hw,lm',lb',D',bars',v9,v10,v11,rfl,g⟩)
  refine⟨_,rfl,rfl,_,rfl,?_⟩;by_cases hw:way=8
  rotate_left
  ·refine yS (decide_eq_false (fun c=>hw (V.int.inj c))) ?_
   exact key _ _ (.inl ⟨rfl,s5⟩)
  refine xB (decide_eq_true (by rw[hw])) ?_
  refine⟨_,rfl,la,rfl,⟨_,SqL.of (s5 _ _ hla4)⟩,fun D8 hD8=>?_⟩;refine zgy 4 (by decide) rfl (s5 _ _ hla4) (zr s5 hu4) hok l24 hD8 (fun H8 vs s8 e8 p8=>?_)
  have s48:=s5.trans s8;have nD8:H D8=none:=(s14.trans s5).free hD8;rw[zk8 fd] at p8;have er:D.rows.length=(D.P++(D.T++D.G)).length+D.B.length:=by unfold FD.rows;simp only[length_append];omega
  have lv:vs.length=(D.P++(D.T++D.G)).length:=p8.length;dsimp only[zN];refine⟨_,rfl,D8,_,rfl,.inl (SqL.of e8),_,rfl,la,_,rfl,.inl (SqL.of (s48 _ _ hla4)),rfl,_,rfl,?_⟩;by_cases hB:D.B.length=0
  rotate_left
  ·refine yS (decide_eq_false (fun c=>hB (by have:=V.int.inj c;rw[length_map,length_map] at this;omega))) ?_
   refine key _ _ (.inr ⟨by rw[hw];decide,D8,lb,⟨D.P,D.T,D.G,[]⟩,bars,_,_,_,rfl,s14.trans s48,⟨vs,e8,?_⟩,s48 _ _ hlb4,zdZ fd fd.t fd.lt (fun _ h=>(nomatch h)) (zero_le _)⟩)
   rw[show FD.rows ⟨D.P,D.T,D.G,[]⟩=D.P++(D.T++D.G) by unfold FD.rows;simp]
   exact p8
  ·refine xB (decide_eq_true (by rw[length_map,length_map,lv,lu,er,hB];rfl)) ?_
   obtain⟨j,hj,hjl,hat⟩:=pick (n / 10);have hpa8:=s48 _ _ hpa4;refine⟨_,rfl,.inl ⟨rfl,_,SqL.of e8⟩,_,rfl,_,rfl,_,_,rfl,rfl,⟨by decide,by decide⟩,_,rfl,pa,_,rfl,.inl (SqL.of hpa8),_,_,rfl,rfl,(by rw[lz];omega),pa,_,_,.str zs[j],rfl,rfl,SqL.of hpa8,(by rw[lz];exact hat),zz2,fun p9 hp9=>?_⟩
   have hz:=hzn _ (getElem_mem hjl);generalize zs[j]=z at hz |-;have s9:=zc hp9 (.tup [.str "bag",.str z]);have t9:TAt (upd H8 p9 (.tup [.str "bag",.str z])) p9 ⟨4,z,false⟩:=za;have s49:=s48.trans s9;refine⟨D8,_,_,rfl,rfl,s9 _ _ e8,zT (by rw[length_map,lv];omega),?_⟩
   rw[show vs.map V.ref++[V.ref p9]=(vs++[p9]).map V.ref by rw[map_append];rfl]
   refine key _ _ (.inr ⟨by rw[hw];decide,D8,lb,⟨D.P,D.T,D.G,[⟨4,z,false⟩]⟩,bars,_,_,_,rfl,ut (s14.trans s49) nD8,⟨vs++[p9],za,?_⟩,by rw[zh (zi hlb nD8)];exact s49 _ _ hlb4,zdZ fd fd.t fd.lt (fun r h=>by rw[List.mem_singleton.mp h];exact⟨rfl,hz⟩) (Nat.le_refl _)⟩)
   rw[show FD.rows ⟨D.P,D.T,D.G,[⟨4,z,false⟩]⟩=(D.P++(D.T++D.G))++[⟨4,z,false⟩] by unfold FD.rows;simp]
   exact uj (yl (zr s9 p8) (.cons t9 .nil)) (s9 _ _ e8)
 rintro σ7 H7 JJ;refine zA (zP (zo yx (pv 4) zf (zI _)) (zj (vi (i:=6) [] ["_law_this"] [none] yi.nd rfl (Or.inl rfl) rfl ⟨rfl,rfl,rfl,rfl⟩ (zM (pv 0)) (zG 0) rfl rfl rfl
   (fun pins fp s H C=>⟨zk (i:=0) uB rfl (Or.inl rfl) (.inr rfl),yk (zo j5 (zB (r:=xk K) zw (pv 0) zf (fun _ _=>rfl)) zD (zI _)),pv 0⟩))
  (ze (zP (zo yx (cB zF U.len PySem.boot_len (ac (pv 6) zd)) (cB zF U.len PySem.boot_len (ac (pv 0) zd)) (zI _)) (zj (zy (i:=11) yi.nd rfl (Or.inl rfl) (cB zF U.len PySem.boot_len (ac (yP [] ["_law_this"] [none] rfl ⟨rfl,rfl,rfl,rfl⟩ (zM (pv 0)) (zG 0) rfl rfl rfl
   (fun pins fp s H C=>⟨zk (i:=0) uB rfl (Or.inl rfl) (.inr rfl),yk (zo (r:=rIn K false) yn (zB (r:=xk K) zw (pv 0) zf (fun _ _=>rfl)) (zW (ac zD (ac zD zd))) (by with_unfolding_all rfl)),pv 0⟩)) zd)))
   (ze (zy (i:=6) yi.nd rfl (Or.inl rfl) (zz ym (zz ym (yf yU (pv 0) yJ (yj (pv 11))) (zW (ac (zZ (ac zD (ac (zB yR (pv 3) (zz yt (zz yC (pv 2) zf) (cB zF U.len PySem.boot_len (ac (pv 3) zd))) (fun _ _=>rfl)) zd))) zd))) (yf yU (pv 0) (yj (pv 11)) yJ))))) zE))) zE) ?_
 refine yB (fun σ' H'=>(σ'=[some (.ref la),some (.ref lb),some (.int n),some (.ref pa),some (.int way),some (.int (at0:Nat)),some (.ref lm),some (.ref kn),some (.ref hx),none,none,none]/\zm H4 H')\/(way∈[9,8,7,6,5,4,2,3,1,0]/\TG H la pa kn hx n way at0 zs σ' H')) ?_ (fun key=>?_);rotate_left
 ·rcases JJ with ⟨rfl,s5⟩|⟨hw,lm',lb',D',bars',v9,v10,v11,rfl,g⟩
  rotate_left
  ·refine⟨_,rfl,rfl,_,rfl,?_⟩
   refine yS (decide_eq_false (fun c=>by rw[V.int.inj c] at hw;revert hw;decide)) ?_
   exact key _ _ (.inr ⟨mem_cons_of_mem _ hw,lm',lb',D',bars',v9,v10,v11,rfl,g⟩)
  refine⟨_,rfl,rfl,_,rfl,?_⟩;by_cases hw:way=9
  rotate_left
  ·refine yS (decide_eq_false (fun c=>hw (V.int.inj c))) ?_
   exact key _ _ (.inl ⟨rfl,s5⟩)
  refine xB (decide_eq_true (by rw[hw])) ?_
  refine⟨_,rfl,la,rfl,⟨_,SqL.of (s5 _ _ hla4)⟩,fun D8 hD8=>?_⟩;refine zgy 2 (by decide) rfl (s5 _ _ hla4) (zr s5 hu4) hok l24 hD8 (fun H8 vs s8 e8 p8=>?_)
  have s48:=s5.trans s8;rw[zk9 fd] at p8;have er:D.rows.length=(D.P++(D.G++D.B)).length+D.T.length:=by unfold FD.rows;simp only[length_append];omega
  have lv:vs.length=(D.P++(D.G++D.B)).length:=p8.length;dsimp only[zN];refine⟨_,rfl,D8,_,rfl,.inl (SqL.of e8),_,rfl,la,_,rfl,.inl (SqL.of (s48 _ _ hla4)),rfl,_,rfl,?_⟩;by_cases hT:D.T.length=0
  rotate_left
  ·refine yS (decide_eq_false (fun c=>hT (by have:=V.int.inj c;rw[length_map,length_map] at this;omega))) ?_
   refine key _ _ (.inr ⟨by rw[hw];decide,D8,lb,⟨D.P,[],D.G,D.B⟩,bars,_,_,_,rfl,s14.trans s48,⟨vs,e8,?_⟩,s48 _ _ hlb4,zdZ fd (fun _ h=>(nomatch h)) (zero_le _) fd.b fd.lb⟩)
   rw[show FD.rows ⟨D.P,[],D.G,D.B⟩=D.P++(D.G++D.B) by unfold FD.rows;simp]
   exact p8
  ·refine xB (decide_eq_true (by rw[length_map,length_map,lv,lu,er,hT];rfl)) ?_
   refine⟨_,rfl,la,rfl,⟨_,SqL.of (s48 _ _ hla4)⟩,fun D9 hD9=>?_⟩;refine wx (K:=K) TAt (fun r=>wm r.k) (fun u _=>.ref u) hD9 (s48 _ _ hla4) (zr s48 hu4) (by omega) (fun i u r H' N S hu' hr' tr sH n1 s1=>?_) (fun H9 s9 e9=>?_)
   ·have rk:=hok r (mem_of_getElem? hr')
    have tu:=sH _ _ tr;refine⟨_,rfl,u,_,0,_,rfl,rfl,SqT.of tu,xg rk,zz2,fun l hl=>?_⟩;have s2:=zc hl (.lst [.str "seat",.str "both"]);refine⟨l,_,rfl,.inl (SqL.of za),rfl,rfl,_,rfl,?_⟩;rw[if_neg Bool.false_ne_true,zgD rk.1];exact⟨fun e=>⟨_,rfl,n1 _ s2 e⟩,fun e=>s1 _ s2 e⟩
   have s49:=s48.trans s9;obtain⟨as,ev,p9⟩:=ui (zr s49 hu4) fun r=>wm r.k;rw[ev] at e9;have p9:Paired (TAt H9) as (wb D.rows):=p9;rw[xP fd] at p9;refine⟨D9,_,rfl,.inl (SqL.of e9),?_⟩;rw[length_map,p9.length];dsimp only[zN];refine⟨_,rfl,_,rfl,_,rfl,la,_,rfl,SqL.of (s49 _ _ hla4),fun l10 hl10=>?_⟩;rw[show xo (us.map V.ref) none (some ((D.P.length:Nat):Int))=(us.take D.P.length).map V.ref from xG.trans (map_take ..).symm];have s10:=zc hl10 (.lst ((us.take D.P.length).map V.ref));have g10:upd H9 l10 (.lst ((us.take D.P.length).map V.ref)) l10=some (.lst ((us.take D.P.length).map V.ref)):=za;have s410:=s49.trans s10;generalize upd H9 l10 (.lst ((us.take D.P.length).map V.ref))=H10 at s10 g10 s410 |-;obtain⟨j,hj,hjl,hat⟩:=pick (n / 10);have hpa8:=s410 _ _ hpa4;refine⟨_,rfl,_,rfl,_,_,rfl,rfl,⟨by decide,by decide⟩,_,rfl,pa,_,rfl,.inl (SqL.of hpa8),_,_,rfl,rfl,(by rw[lz];omega),pa,_,_,.str zs[j],rfl,rfl,SqL.of hpa8,(by rw[lz];exact hat),zz2,fun p11 hp11=>?_⟩
   have hz:=hzn _ (getElem_mem hjl);generalize zs[j]=z at hz |-;have s11:=zc hp11 (.tup [.str "tail",.str z]);have t11:TAt (upd H10 p11 (.tup [.str "tail",.str z])) p11 ⟨2,z,false⟩:=za;have s411:=s410.trans s11;have g11:=s11 _ _ g10;refine⟨zz1,fun l12 hl12=>?_⟩;have s12:=zc hl12 (.lst [.ref p11]);have t12:=s12 _ _ t11;refine⟨l10,l12,_,_,rfl,rfl,s12 _ _ g11,za,z3 (by rw[length_map,length_take];show _+1<=1000;omega),fun l13 hl13=>?_⟩
   rw[show(us.take D.P.length).map V.ref++[V.ref p11]=(us.take D.P.length++[p11]).map V.ref by rw[map_append];rfl]
   have s13:=zc hl13 (.lst ((us.take D.P.length++[p11]).map V.ref));have s413:=s411.trans (s12.trans s13);have t13:TAt _ p11 ⟨2,z,false⟩:=s13 _ _ t12;refine⟨_,rfl,_,rfl,_,rfl,la,_,rfl,SqL.of (s413 _ _ hla4),fun l14 hl14=>?_⟩;rw[show xo (us.map V.ref) (some ((D.P.length:Nat):Int)) none=(us.drop D.P.length).map V.ref from wJ.trans (map_drop ..).symm];have s14':=zc hl14 (.lst ((us.drop D.P.length).map V.ref));refine⟨l13,l14,_,_,rfl,rfl,s14' _ _ za,za,z3 (by rw[length_map,length_map,length_append,length_take,length_drop];show _+1+_<=1000;omega),fun l15 hl15=>?_⟩
   rw[<- map_append];have s15:=zc hl15 (.lst ((us.take D.P.length++[p11]++us.drop D.P.length).map V.ref));have s1315:=s14'.trans s15;have s415:=s413.trans s1315;dsimp only[zN];refine key _ _ (.inr ⟨by rw[hw];decide,l15,lb,⟨D.P,[⟨2,z,false⟩],D.G,D.B⟩,bars,_,_,_,rfl,s14.trans s415,⟨_,za,?_⟩,s415 _ _ hlb4,zdZ fd (fun r h=>by rw[List.mem_singleton.mp h];exact⟨rfl,hz⟩) (Nat.le_refl _) fd.b fd.lb⟩)
   have hT0:D.T=[]:=List.eq_nil_of_length_eq_zero hT;have pp:=zr s415 hu4;have pt:=ua pp D.P.length;have pd:=wT pp D.P.length;have et:D.rows.take D.P.length=D.P:=by unfold FD.rows;rw[List.take_append_of_le_length (Nat.le_refl _),take_length]
   have ed:D.rows.drop D.P.length=D.G++D.B:=by unfold FD.rows;rw[List.drop_append_of_le_length (Nat.le_refl _),drop_length,hT0];rfl
   rw[et] at pt;rw[ed] at pd;rw[show FD.rows ⟨D.P,[⟨2,z,false⟩],D.G,D.B⟩=(D.P++[⟨2,z,false⟩])++(D.G++D.B) by unfold FD.rows;simp]
   exact yl (yl pt (.cons (s1315 _ _ t13) .nil)) pd
 rintro σ7 H7 JJ;refine⟨_,ze (zC (zZ (ac (pv 6) (ac (pv 1) zd)))),?_⟩;rcases JJ with ⟨rfl,s5⟩|⟨hw,lm',lb',D',bars',v9,v10,v11,rfl,a1,a2,a3,a4⟩
 ·refine⟨_,rfl,_,rfl,zz2,fun t ht=>?_⟩
  have s6:=zc ht (.tup [.ref lm,.ref lb]);have s46:=s5.trans s6;exact q t lm lb D bars _ (s14.trans s46) za ⟨us,s46 _ _ g1,zr s46 hu4⟩ (s46 _ _ hlb4) fd
 ·refine⟨_,rfl,_,rfl,zz2,fun t ht=>?_⟩
  have s6:=zc ht (.tup [.ref lm',.ref lb']);exact q t lm' lb' D' bars' _ (a1.trans s6) za (a2.same s6) (s6 _ _ a3) a4
end
def may(b:Bool) (X:List Str) (z:Str):Bool:=decide (z∈X) != b
theorem zjZ{b:Bool}{X:List Str}{z:Str}:(if b=true then decide (z∉X) else decide (z∈X))=may b X z:=by
 unfold may;cases b <;> by_cases h:z∈X <;> simp [h]
theorem wU{b:Bool}{X:List Str}{z:Str}(h:z∉X):may b X z=b:=by unfold may;rw[decide_eq_false h];cases b <;> rfl
theorem xJ{n X names:List Str}{b:Bool}:acc (some (n,b,X)) names=true ↔ (∀z∈n,z∈names)/\∀z∈names,may b X z=true:=by
 unfold acc;rw[Bool.and_eq_true,all_eq_true,all_eq_true];refine and_congr (forall_congr' fun z=>forall_congr' fun _=>decide_eq_true_iff) (forall_congr' fun z=>forall_congr' fun _=>?_);rw[zjZ]
theorem zbd{x:TR}{a c:List Str}(h:∀z,z∈a ↔ z∈c):acc x a=acc x c:=by
 cases x with
 | none=>rfl
 | some r=>
  obtain⟨n,b,X⟩:=r;rw[Bool.eq_iff_iff,xJ,xJ];exact⟨fun⟨p,q⟩=>⟨fun z hz=>(h z).mp (p z hz),fun z hz=>q z ((h z).mpr hz)⟩,fun⟨p,q⟩=>⟨fun z hz=>(h z).mpr (p z hz),fun z hz=>q z ((h z).mp hz)⟩⟩
def xC(st:Str) (x y:TR):Option (List Str):=match y with
 | none=>none
 | some (n',b',X')=>match x with
  | none=>some n'
  | some (n,b,X)=>if acc (some (n,b,X)) n'=true then ((X++X'++[st]).find? fun z=>may b' X' z&&!may b X z).map fun z=>z9 (n'++[z]) else some n'
section
variable {zs:List Str}{x y:TR}{st:Str}
theorem v0(hst:∀n b X n' b' X',x=some (n,b,X)->y=some (n',b',X')->st∉X++X') (h:xC st x y=none) (ns:List Str) (hy:acc y ns=true):acc x ns=true:=by
 cases ey:y with
 | none=>rw[ey] at hy;cases hy
 | some r'=>
  obtain⟨n',b',X'⟩:=r';cases ex:x with
  | none=>rw[ex,ey] at h;cases h
  | some r=>
   obtain⟨n,b,X⟩:=r;have hs:=hst n b X n' b' X' ex ey;rw[ex,ey] at h;rw[ey] at hy;unfold xC at h;dsimp only at h;by_cases a:acc (some (n,b,X)) n'=true
   ·rw[if_pos a,map_eq_none_iff,List.find?_eq_none] at h
    rw[xJ] at a hy |-;refine⟨fun z hz=>hy.1 z (a.1 z hz),fun z hz=>?_⟩;have hy2:=hy.2 z hz;by_cases hm:may b X z=true
    ·exact hm
    exfalso;by_cases hk:z∈X++X'
    ·exact h z (List.mem_append.mpr (.inl hk)) (by rw[hy2,Bool.eq_false_iff.mpr hm];rfl)
    ·have n1:z∉X:=fun c=>hk (List.mem_append.mpr (.inl c))
     have n2:z∉X':=fun c=>hk (List.mem_append.mpr (.inr c));have s1:st∉X:=fun c=>hs (List.mem_append.mpr (.inl c));have s2:st∉X':=fun c=>hs (List.mem_append.mpr (.inr c));rw[wU n1] at hm;rw[wU n2] at hy2;exact h st (by simp) (by rw[wU s1,wU s2,hy2,Bool.eq_false_iff.mpr hm];rfl)
   ·rw[if_neg a] at h;cases h
structure zkl(x y:TR) (ns:List Str):Prop where
 ay:acc y ns=true
 ax:acc x ns=false
 nd:ns.Nodup
 so:z9 ns=ns
 mi:∀ns',ns'.Nodup->acc y ns'=true->acc x ns'=false->ns.length<=ns'.length
theorem zap{n' X':List Str}{b':Bool}(py:jb zs n' b' X') (hx:acc x n'=false):zkl x (some (n',b',X')) n':=
 ⟨zb8 py,hx,py.dn,py.sn,fun ns' nd h _=>yI n' ns' py.dn (xJ.mp h).1⟩
theorem zaq{n' X' n X:List Str}{b' b:Bool}{z:Str}(py:jb zs n' b' X') (a:acc (some (n,b,X)) n'=true) (h1:may b' X' z=true) (h2:may b X z=false):z∉n'/\zkl (some (n,b,X)) (some (n',b',X')) (z9 (n'++[z])):=by
 have a2:=xJ.mp a;have hz:z∉n':=fun c=>by have:=a2.2 z c;rw[h2] at this;cases this
 have mm:∀w,w∈z9 (n'++[z]) ↔ w∈n'\/w=z:=fun w=>by rw[(zH _).mem_iff,mem_append,List.mem_singleton]
 have nd:(n'++[z]).Nodup:=List.nodup_append.mpr ⟨py.dn,by simp,fun p hp q hq e=>hz (by rw[<- List.mem_singleton.mp hq,<- e];exact hp)⟩
 refine⟨hz,xJ.mpr ⟨fun w hw=>(mm w).mpr (.inl hw),fun w hw=>?_⟩,?_,(zH _).nodup_iff.mpr nd,jI.mpr (zH _),fun ns' nd' hy hx=>?_⟩
 ·rcases (mm w).mp hw with hw|hw
  ·exact(xJ.mp (zb8 py)).2 w hw
  ·rw[hw];exact h1
 ·refine Bool.eq_false_iff.mpr fun c=>?_
  have:=(xJ.mp c).2 z ((mm z).mpr (.inr rfl))
  rw[h2] at this;cases this
 ·rw[(zH _).length_eq]
  have sub:=(xJ.mp hy).1;by_cases hw:∃w,w∈ns'/\w∉n'
  ·obtain⟨w,w1,w2⟩:=hw
   have:=yI (n'++[w]) ns' (List.nodup_append.mpr ⟨py.dn,by simp,fun p hp q hq e=>w2 (by rw[<- List.mem_singleton.mp hq,<- e];exact hp)⟩) (fun p hp=>by
    rcases List.mem_append.mp hp with hp|hp
    ·exact sub p hp
    ·rw[List.mem_singleton.mp hp];exact w1)
   rw[length_append] at this |-;exact this
  ·exfalso
   have:acc (some (n,b,X)) ns'=acc (some (n,b,X)) n':=zbd fun w=>⟨fun h=>Classical.byContradiction fun c=>hw ⟨w,h,c⟩,sub w⟩
   rw[this,a] at hx;cases hx
theorem vZ(py:∀n b X,y=some (n,b,X)->jb zs n b X) {ns:List Str}(h:xC st x y=some ns):zkl x y ns:=by
 cases ey:y with
 | none=>rw[ey] at h;cases h
 | some r'=>
  obtain⟨n',b',X'⟩:=r';have P:=py _ _ _ ey;rw[ey] at h;cases ex:x with
  | none=>
   rw[ex] at h;cases h;exact zap P rfl
  | some r=>
   obtain⟨n,b,X⟩:=r;rw[ex] at h;unfold xC at h;dsimp only at h;by_cases a:acc (some (n,b,X)) n'=true
   ·rw[if_pos a] at h
    obtain⟨z,hz,rfl⟩:=Option.map_eq_some_iff.mp h
    have:=find?_some hz
    rw[Bool.and_eq_true,Bool.not_eq_true'] at this;exact(zaq P a this.1 this.2).2
   ·rw[if_neg a] at h
    cases h;exact zap P (Bool.eq_false_iff.mpr a)
end
section
variable {zs:List Str}{D D':FD}{bars bars':List Str}
theorem zby(h:zY zs D bars) {m:Nat}(hm:m<=D.P.length) {n X:List Str}{b:Bool}(e:jV D.rows bars m=some (n,b,X)):(∀z∈n,z∈zs)/\(b=false->∀z∈X,z∈zs)/\(b=true->(∀z∈X,z∈bars\/z∈zs)/\∀z∈bars,z∈X):=by
 unfold jV at e;rw[zcY h hm,wK h,xF h hm,uV h hm] at e;split at e
 ·cases e
 next ha=>
 have ha:((D.P.drop m++D.G).filter fun r=>!r.b).any (fun r=>!yd r.k)=false:=by simpa using ha
 have hall:∀r∈(D.P.drop m++D.G).filter fun r=>!r.b,yd r.k=true:=fun r hr=>by
  have:=List.any_eq_false.mp ha r hr
  simpa using this
 have sub:(((D.P.drop m++D.G).filter fun r=>!r.b).map (·.z)).Sublist (nms (D.P.drop m)++nms D.G):=by
  rw[<- zaY hall,<- yg];unfold nms;exact((List.filter_sublist).filter _).map _
 have late:∀z∈nms (D.P.drop m)++nms D.G,z∈zs:=fun z hz=>h.dz z (by
  rcases List.mem_append.mp hz with hz|hz
  ·refine List.mem_append.mpr (.inl ?_)
   have:(nms (D.P.drop m)).Sublist (nms D.P):=by unfold nms;exact((List.drop_sublist m D.P).filter _).map _
   exact this.subset hz
  ·exact List.mem_append.mpr (.inr hz))
 have gone:∀z∈nms (D.P.take m),z∈zs:=fun z hz=>h.dz z (by
  refine List.mem_append.mpr (.inl ?_)
  have:(nms (D.P.take m)).Sublist (nms D.P):=by unfold nms;exact((take_sublist m D.P).filter _).map _
  exact this.subset hz)
 cases hb:D.bg with
 | true=>
  rw[hb,if_pos rfl] at e;cases e;refine⟨fun z hz=>late z (sub.subset ((zH _).mem_iff.mp hz)),(fun c=>by cases c),fun _=>⟨fun z hz=>?_,fun z hz=>(zH _).mem_iff.mpr (List.mem_append.mpr (.inl hz))⟩⟩
  rcases List.mem_append.mp ((zH _).mem_iff.mp hz) with h|h
  ·exact .inl h
  ·exact .inr (gone z h)
 | false=>
  rw[hb,if_neg Bool.false_ne_true] at e;cases e;exact⟨fun z hz=>late z (sub.subset ((zH _).mem_iff.mp hz)),fun _ z hz=>late z ((zH _).mem_iff.mp hz),fun c=>by cases c⟩
theorem zft(h:zY zs D bars) {m:Nat}{n X:List Str}{b:Bool}(e:sF D bars m=some (n,b,X)):(∀z∈n,z∈zs)/\(b=false->∀z∈X,z∈zs)/\(b=true->(∀z∈X,z∈bars\/z∈zs)/\∀z∈bars,z∈X):=by
 unfold sF at e;split at e
 next hi=>exact zby h hi e
 ·split at e
  ·exact zby h (Nat.le_refl _) e
  ·cases e
theorem ziM{M m:Nat}(h1:D.P.length+2<=M) (hm:M - 1<=m):sF D bars m=sF D bars (M - 1):=by
 unfold sF;rw[if_neg (show ¬m<=D.P.length by omega),if_neg (show ¬M - 1<=D.P.length by omega)]
def xx(D:FD) (bars:List Str) (D':FD) (bars':List Str) (m:Nat) (ns:List Str):Prop:=acc (sF D' bars' m) ns=true/\acc (sF D bars m) ns=false
def qv(D:FD) (bars:List Str) (D':FD) (bars':List Str):Option (Nat×List Str)->Prop
 | none=>∀m ns,ns.Nodup->¬xx D bars D' bars' m ns
 | some (m,ns)=>xx D bars D' bars' m ns/\m<max D.P.length D'.P.length+2/\ns.Nodup/\z9 ns=ns/\∀m' ns',ns'.Nodup->xx D bars D' bars' m' ns'->m+ns.length<=m'+ns'.length
def Odd(st:Str) (x y:TR):Prop:=∀n b X n' b' X',x=some (n,b,X)->y=some (n',b',X')->st∉X++X'
theorem uU{M:Nat}(h1:D.P.length+2<=M) (h2:D'.P.length+2<=M) {m:Nat}{ns:List Str}(h:xx D bars D' bars' m ns):xx D bars D' bars' (min m (M - 1)) ns:=by
 rcases lt_or_ge m M with c|c
 ·rw[Nat.min_eq_left (by omega)];exact h
 ·rw[Nat.min_eq_right (by omega)]
  unfold xx at h |-;rw[<- ziM (bars:=bars) h1 (show M - 1<=m by omega),<- ziM (bars:=bars') h2 (show M - 1<=m by omega)]
  exact h
theorem zeq{M:Nat}(h1:D.P.length+2<=M) (h2:D'.P.length+2<=M) (st:Nat->Str) (ho:∀m,m<M->Odd (st m) (sF D bars m) (sF D' bars' m)) (h:∀m,m<M->xC (st m) (sF D bars m) (sF D' bars' m)=none):qv D bars D' bars' none:=fun m ns nd hp=>by
 obtain⟨a,b⟩:=uU h1 h2 hp
 have:=v0 (ho (min m (M - 1)) (by omega)) (h (min m (M - 1)) (by omega)) ns a
 rw[b] at this;cases this
theorem zep(hy':zY zs D' bars') {M:Nat}(eM:M=max D.P.length D'.P.length+2) (st:Nat->Str) (ho:∀m,m<M->Odd (st m) (sF D bars m) (sF D' bars' m)) {m:Nat}{ns:List Str}(hm:m<M) (h:xC (st m) (sF D bars m) (sF D' bars' m)=some ns)
  (hb:∀m',m'<M->∀ns',xC (st m') (sF D bars m') (sF D' bars' m')=some ns'->m+ns.length<=m'+ns'.length):qv D bars D' bars' (some (m,ns)):=by
 have B:=vZ (fun n b X e=>xK hy' e) h;refine⟨⟨B.ay,B.ax⟩,by omega,B.nd,B.so,fun m' ns' nd hp=>?_⟩
 have hp2:=uU (M:=M) (by omega) (by omega) hp
 have hlt:min m' (M - 1)<M:=by omega
 cases e:xC (st (min m' (M - 1))) (sF D bars (min m' (M - 1))) (sF D' bars' (min m' (M - 1))) with
 | none=>
  have:=v0 (ho _ hlt) e ns' hp2.1
  rw[hp2.2] at this;cases this
 | some ns2=>
  have B2:=vZ (fun n b X e=>xK hy' e) e;have h3:=B2.mi ns' nd hp2.1 hp2.2;have h4:=hb _ hlt ns2 e;omega
theorem zjK(h:zY zs D bars) (h':zY zs D' bars') {st:Str}(hst:st∉zs++yc) {once:List Str}(ho:∀z,z∈bars->z∉bars'->z∉zs->∃z'∈once,z'∈bars/\z'∉bars'/\z'∉zs) {m:Nat}{ns:List Str}(nd:ns.Nodup) (hp:xx D bars D' bars' m ns) :
  ∃ns2∈xV (zs++[st]++once) [[]],xx D bars D' bars' m ns2/\((zs++[st]++once).Nodup->ns2.length<=ns.length):=by
 have fin:∀S:List Str,(∀z∈S,z∈zs++[st]++once)->xx D bars D' bars' m S->S.length<=ns.length->∃ns2∈xV (zs++[st]++once) [[]],xx D bars D' bars' m ns2/\((zs++[st]++once).Nodup->ns2.length<=ns.length):=fun S hS hp hl=>by
  have mm:∀z,z∈(zs++[st]++once).filter (fun z=>decide (z∈S)) ↔ z∈S:=fun z=>by
   rw[List.mem_filter,decide_eq_true_iff];exact⟨fun h=>h.2,fun h=>⟨hS z h,h⟩⟩
  refine⟨(zs++[st]++once).filter (fun z=>decide (z∈S)),by have:=zaB (fun z=>decide (z∈S)) (zs++[st]++once) [[]] [] (by simp);simpa using this,⟨by rw[zbd mm];exact hp.1,by rw[zbd mm];exact hp.2⟩,fun nU=>?_⟩
  exact Nat.le_trans (yI _ S (List.filter_sublist.nodup nU) fun z hz=>(mm z).mp hz) hl
 have odd:Odd st (sF D bars m) (sF D' bars' m):=fun n b X n' b' X' e e' c=>hst (by
  rcases List.mem_append.mp c with c|c
  ·exact(xK h e).zX _ c
  ·exact(xK h' e').zX _ c)
 cases e:xC st (sF D bars m) (sF D' bars' m) with
 | none=>
  have:=v0 odd e ns hp.1
  rw[hp.2] at this;cases this
 | some ns0=>
  have B:=vZ (fun n b X e=>xK h' e) e;have hl:=B.mi ns nd hp.1 hp.2;cases ey:sF D' bars' m with
  | none=>rw[ey] at e;cases e
  | some r'=>
   obtain⟨n',b',X'⟩:=r';obtain⟨i1,i2,i3⟩:=zft h' ey;have inU:∀z,z∈zs->z∈zs++[st]++once:=fun z hz=>List.mem_append.mpr (.inl (List.mem_append.mpr (.inl hz)));cases ex:sF D bars m with
   | none=>
    rw[ex,ey] at e;cases e;exact fin ns0 (fun z hz=>inU z (i1 z hz)) ⟨B.ay,B.ax⟩ hl
   | some r=>
    obtain⟨n,b,X⟩:=r;obtain⟨j1,j2,j3⟩:=zft h ex;rw[ex,ey] at e;unfold xC at e;dsimp only at e;by_cases a:acc (some (n,b,X)) n'=true
    ·rw[if_pos a] at e
     obtain⟨z,hz,ez⟩:=Option.map_eq_some_iff.mp e;have hz2:=find?_some hz;have hzm:=List.mem_of_find?_eq_some hz;rw[Bool.and_eq_true,Bool.not_eq_true'] at hz2;have P:=xK h' ey;have lz:ns0.length=n'.length+1:=by rw[<- ez,(zH _).length_eq,length_append];rfl
     obtain⟨z',u1,u2,u3⟩:∃z',z'∈zs++[st]++once/\may b' X' z'=true/\may b X z'=false:=by
      by_cases c:z∈zs++[st]++once
      ·exact⟨z,c,hz2.1,hz2.2⟩
      have nz:z∉zs:=fun q=>c (inU z q);have hst1:st∉X:=fun q=>odd n b X n' b' X' ex ey (List.mem_append.mpr (.inl q));have hst2:st∉X':=fun q=>odd n b X n' b' X' ex ey (List.mem_append.mpr (.inr q));cases b' with
      | false=>
       exfalso
       have:z∈X':=Classical.byContradiction fun q=>by rw[wU q] at hz2;cases hz2.1
       exact nz (i2 rfl z this)
      | true=>
       cases b with
       | false=>exact⟨st,by simp,wU hst2,wU hst1⟩
       | true=>
        have zx:z∈X:=Classical.byContradiction fun q=>by rw[wU q] at hz2;cases hz2.2
        have zb:z∈bars:=((j3 rfl).1 z zx).resolve_right nz;have zx':z∉X':=fun q=>by have:=hz2.1;unfold may at this;rw[decide_eq_true q] at this;cases this
        have zb':z∉bars':=fun q=>zx' ((i3 rfl).2 z q);obtain⟨z',o1,o2,o3,o4⟩:=ho z zb zb' nz;refine⟨z',List.mem_append.mpr (.inr o1),wU fun q=>?_,?_⟩
        ·exact((i3 rfl).1 z' q).elim o3 o4
        ·unfold may;rw[decide_eq_true ((j3 rfl).2 z' o2)];rfl
     have B2:=(zaq P a u2 u3).2;refine fin (z9 (n'++[z'])) (fun w hw=>?_) ⟨by rw[ey];exact B2.ay,by rw[ex];exact B2.ax⟩ (by rw[(zH _).length_eq,length_append];show n'.length+1<=_;omega)
     rcases List.mem_append.mp ((zH _).mem_iff.mp hw) with hw|hw
     ·exact inU w (i1 w hw)
     ·rw[List.mem_singleton.mp hw];exact u1
    ·rw[if_neg a] at e
     cases e;exact fin _ (fun z hz=>inU z (i1 z hz)) ⟨B.ay,B.ax⟩ hl
end
structure RT(K:Frag) (H:Hp) (t l0 l2:Addr) (n:List Str) (b:Bool) (X:List Str):Prop where
 at_:SqT K H t [.ref l0,.bl b,.ref l2]
 h0:H l0=some (.lst (n.map V.str))
 h2:H l2=some (.lst (X.map V.str))
theorem RT.same{K:Frag}{H H':Hp}{t l0 l2:Addr}{n X:List Str}{b:Bool}(h:RT K H t l0 l2 n b X) (s:zm H H'):RT K H' t l0 l2 n b X:=⟨s.sqT h.at_,s _ _ h.h0,s _ _ h.h2⟩
theorem ziN{K:Frag}{ok:Addr->Prop}{H:Hp}{v:V}{n X:List Str}{b:Bool}(h:zS K ok H 2 v (zej (some (n,b,X)))):∃t l0 l2,v=.ref t/\ok l0/\RT K H t l0 l2 n b X:=by
 obtain⟨t,l0,l2,e,h1,o0,_,h2,h3⟩:=zg7 (m:=0) h;exact⟨t,l0,l2,e,o0,h1,h2,h3⟩
def zci(K:Frag):Sp:=fun vs H Q _=>∃(t l0 l2:Addr) (n X:List Str) (b:Bool) (z:Str),vs=[.ref t,.str z]/\RT K H t l0 l2 n b X/\Q (.bl (may b X z)) H
def zbn(K:Frag):Sp:=fun vs H Q _=>∃(t l0 l2 ln:Addr) (n X names:List Str) (b:Bool),vs=[.ref t,.ref ln]/\RT K H t l0 l2 n b X/\H ln=some (.lst (names.map V.str))/\n.length<=100/\names.length<=100/\∀H',zm H H'->Q (.bl (acc (some (n,b,X)) names)) H'
theorem uK{zs:List Str}{D:FD}{bars:List Str}(h:zY zs D bars) (l4:zs.length<=4):bars.length+(nms D.rows).length<64/\bars.length<=60:=by
 have enm:nms D.rows=nms D.P++nms D.G:=by have:=xF h (m:=0) (zero_le _);simpa using this
 have:=yI _ (zs++yc) h.nd h.zn
 rw[length_append,length_append,length_append,show yc.length=52 from rfl] at this;rw[enm,length_append];omega
def zdr(K:Frag) (c:C5) (CF:Addr):Sp:=fun vs H Q _=>∃(f:Addr) (many:Nat) (D:FD) (bars zs:List Str),vs=[.ref f,.int (many:Nat)]/\xU c CF H f D.rows bars/\zY zs D bars/\zs.length<=4/\∀(v:V) (H':Hp),zm H H'->zS K (fun a=>H a=none) H' 2 v (zej (sF D bars many))->Q v H'
section
variable {P:Program}{w:World}{K:Frag}{mg:Str->Option Value}{base:Heap}{f CF:Addr}{fd:FuncData}{c:C5}{m:MA}
theorem zaG:zu ["row","name","needed","has_bag","names"] ["row","name"] (zg zjv):=⟨rfl,rfl,rfl,by decide +kernel,rfl,by decide +kernel,by decide +kernel⟩
theorem zhS(F:Fun K "may_have" "may_have" zjv f fd):zJ P w K mg base CX0 1 f fd ["row","name"] (zci K):=by
 refine F.ok zaG (fun vs H Q E h=>?_) (fun cdv A outer s H vs Q E hr h=>?_)
 ·obtain⟨t,l0,l2,n,X,b,z,rfl,_⟩:=h
  rfl
 obtain⟨t,l0,l2,n,X,b,z,rfl,R,q⟩:=h;refine zA (wQ (pv 0) (xf rfl (zL (zk (i:=2) zaG.nd rfl (Or.inl rfl)) (zL (zk (i:=3) zaG.nd rfl (Or.inl rfl)) (zL (zk (i:=4) zaG.nd rfl (Or.inl rfl)) yL))))) ?_;refine⟨_,rfl,t,_,rfl,R.at_,rfl,_,_,rfl,_,_,rfl,_,_,rfl,rfl,?_⟩;dsimp only[zN];refine⟨_,ze (zC (xZ j5 (xZ yn (pv 1) (pv 4) (by with_unfolding_all rfl)) (pv 3) (zI _))),?_⟩
 refine⟨_,rfl,_,rfl,l2,_,rfl,.inl (SqL.of R.h2),rfl,yA,?_⟩;rw[if_neg Bool.false_ne_true,y6];refine⟨_,rfl,rfl,?_⟩;have e:(!decide (V.bl (decide (z∈X))=V.bl b))=may b X z:=by
  unfold may;by_cases h:z∈X <;> cases b <;> simp [h]
 rw[e];exact q
theorem zkT:([Str.ofString "name",Str.ofString "names"]:List Str).Nodup:=by decide +kernel
theorem zkS:([Str.ofString "name",Str.ofString "row"]:List Str).Nodup:=by decide +kernel
theorem zfm:zu ["row","names"] ["row","names"] (zg zaM):=⟨rfl,rfl,rfl,by decide +kernel,rfl,by decide +kernel,by decide +kernel⟩
theorem zex{g1:Addr}{e1:FuncData}(F:Fun K "takes" "takes" zaM f fd) (hal:mg "all"=none) (cM:zK P w K mg base 1 "may_have" g1 e1 ["row","name"] (zci K)):zJ P w K mg base CX0 2 f fd ["row","names"] (zbn K):=by
 refine F.ok zfm (fun vs H Q E h=>?_) (fun cdv A outer s H vs Q E hr h=>?_)
 ·obtain⟨t,l0,l2,ln,n,X,names,b,rfl,_⟩:=h
  rfl
 obtain⟨t,l0,l2,ln,n,X,names,b,rfl,R,hln,ln1,ln2,q⟩:=h;refine⟨_,ze (zC (zaU (cB (vN rfl) hal boot_all (ac (yP ["names"] ["name","names"] [none,some 1] rfl ⟨rfl,rfl,rfl,rfl⟩ (zM (zB zw (pv 0) zf (fun _ _=>rfl))) (zG 0) rfl rfl rfl
  (fun pins fp s H C=>⟨zk (i:=0) zkT rfl (Or.inl rfl) (.inr rfl),yK,xZ (r:=rIn K false) yn (pv 0) (pv 1) (by with_unfolding_all rfl)⟩)) zd))
  (zaT (cB (vN rfl) hal boot_all (ac (yP ["row"] ["name","row"] [none,some 0] rfl ⟨rfl,rfl,rfl,rfl⟩ (zM (pv 1)) (zG 0) rfl rfl rfl
  (fun pins fp s H C=>⟨zk (i:=0) zkS rfl (Or.inl rfl) (.inr rfl),yK,cF cM hr (ac (pv 1) (ac (pv 0) zd))⟩)) zd))))),?_⟩
 refine⟨_,rfl,t,_,0,.ref l0,rfl,rfl,R.at_,rfl,l0,rfl,⟨_,SqL.of R.h0⟩,fun D1 hD1=>?_⟩;refine wl (K:=K) (xs:=n.map V.str) n (fun _=>true) (fun z=>.bl (decide (z∈names))) hD1 (SqL.of R.h0) (by rw[length_map]) (by rw[length_map];omega) (fun i x y H' N S hx hy sH n1 s1=>?_) (fun H1 s1 e1=>?_)
 ·obtain⟨y',hy',rfl⟩:=strs_at hx
  rw[hy] at hy';cases hy';refine⟨fun _=>?_,fun e=>by cases e⟩
  refine⟨_,rfl,_,rfl,ln,_,rfl,.inl (SqL.of (sH _ _ hln)),rfl,yA,?_⟩;rw[if_neg Bool.false_ne_true,y6];exact n1 _ (zm.refl _) rfl
 have e1:H1 D1=some (.lst ((n.map fun z=>decide (z∈names)).map V.bl)):=by rw[e1,List.filter_eq_self.mpr (fun _ _=>rfl),map_map];rfl
 refine⟨D1,_,rfl,SqL.of e1,_,rfl,?_⟩;rw[show((n.map fun z=>decide (z∈names)).all id)=n.all (fun z=>decide (z∈names)) by rw[all_map];rfl]
 have R1:=R.same s1;have ac2:acc (some (n,b,X)) names=(n.all (fun z=>decide (z∈names))&&names.all (may b X)):=by
  rw[Bool.eq_iff_iff,xJ,Bool.and_eq_true,all_eq_true,all_eq_true];exact and_congr (forall_congr' fun z=>forall_congr' fun _=>decide_eq_true_iff.symm) Iff.rfl
 rw[ac2] at q;cases hA:n.all (fun z=>decide (z∈names)) with
 | false=>
  rw[hA] at q;refine yq ?_;exact q _ s1
 | true=>
  rw[hA] at q;refine xm ?_;refine⟨_,rfl,ln,rfl,⟨_,SqL.of (s1 _ _ hln)⟩,fun D2 hD2=>?_⟩;refine wl (K:=K) (xs:=names.map V.str) names (fun _=>true) (fun z=>.bl (may b X z)) hD2 (SqL.of (s1 _ _ hln)) (by rw[length_map]) (by rw[length_map];omega) (fun i x y H' N S hx hy sH n1 s1=>?_) (fun H2 s2 e2=>?_)
  ·obtain⟨y',hy',rfl⟩:=strs_at hx
   rw[hy] at hy';cases hy';refine⟨fun _=>?_,fun e=>by cases e⟩
   exact⟨_,rfl,_,rfl,t,l0,l2,n,X,b,y,rfl,R1.same sH,n1 _ (zm.refl _) rfl⟩
  have e2:H2 D2=some (.lst ((names.map fun z=>may b X z).map V.bl)):=by rw[e2,List.filter_eq_self.mpr (fun _ _=>rfl),map_map];rfl
  refine⟨D2,_,rfl,SqL.of e2,?_⟩;rw[show((names.map fun z=>may b X z).all id)=names.all (may b X) by rw[all_map];rfl]
  exact q _ (s1.trans s2)
theorem zhk:zu ["form","many"] ["form","many"] (zg zcn):=⟨rfl,rfl,rfl,by decide +kernel,rfl,by decide +kernel,by decide +kernel⟩
theorem zgb{g1 gP gT:Addr}{e1 eP eT:FuncData}(F:Fun K "row_at" "row_at" zcn f fd) (FK:FC K CF) (cR:zK P w K mg base 3 "row_of" g1 e1 ["form","many"] (zdq K c CF)) (mP:xp K CF "places" gP) (GP:zJ P w K mg base CX0 1 gP eP ["self"] (wE c CF)) (bP:z7 K eP ["self"] []) (mT:xp K CF "tail" gT) (GT:zJ P w K mg base CX0 1 gT eT ["self"] (vc c CF 2)) (bT:z7 K eT ["self"] []):zJ P w K mg base CX0 4 f fd ["form","many"] (zdr K c CF):=by
 refine F.ok zhk (fun vs H Q E h=>?_) (fun cdv A outer s H vs Q E hr h=>?_)
 ·obtain⟨f,many,D,bars,zs,rfl,_⟩:=h
  rfl
 obtain⟨f,many,D,bars,zs,rfl,hF,fd,l4,q⟩:=h;have hr1:yw 1 _:=hr.mono (by decide)
 have l24:=wW fd;obtain⟨l64,l60⟩:=uK fd l4;obtain⟨dx,fs,lr,lb',ld,ps,h1,h2,_⟩:=id hF.at_;have epl:=wR fd;refine zA (zP (zo zf2 (pv 1) (yz (pv 0) FK.cl mP GP hr1 bP .nil yp) (zI _)) (ze (zC (cF cR hr (ac (pv 0) (ac (pv 1) zd))))) zE) ?_;refine⟨_,rfl,_,rfl,f,dx,fs,rfl,h1,h2.no _ (by decide +kernel),f,D.rows,bars,rfl,hF.at_,_,_,rfl,rfl,_,rfl,?_⟩
 unfold sF at q;rw[epl];by_cases hm:many<=D.P.length
 ·refine dT (by show((many:Nat):Int)<=((D.P.length:Nat):Int);omega) ?_
  rw[if_pos hm] at q;exact⟨_,rfl,_,rfl,f,many,D.rows,bars,rfl,hF,l24,l60,l64,q⟩
 refine dF (by show ¬((many:Nat):Int)<=((D.P.length:Nat):Int);omega) ?_
 rw[if_neg hm] at q;refine⟨_,ze (zC (j0 (xE (xQ (yz (pv 0) FK.cl mT GT hr1 bT .nil yp))) uT (cF cR hr (ac (pv 0) (ac (yz (pv 0) FK.cl mP GP hr1 bP .nil yp) zd))))),?_⟩;refine⟨_,rfl,f,dx,fs,rfl,h1,h2.no _ (by decide +kernel),f,D.rows,bars,rfl,hF.at_,_,rfl,?_⟩
 have et:=vB fd;cases ht:D.tl with
 | false=>
  rw[ht] at et q;refine dT (xI.mpr et) ?_;exact q .non H (zm.refl _) .non
 | true=>
  rw[ht] at et q;refine dF (fun h=>by rw[xI.mp h] at et;cases et) ?_
  refine⟨_,rfl,_,rfl,f,dx,fs,rfl,h1,h2.no _ (by decide +kernel),f,D.rows,bars,rfl,hF.at_,?_⟩
  rw[epl];exact⟨f,D.P.length,D.rows,bars,rfl,hF,l24,l60,l64,q⟩
end
def vk(k:Nat):Str:=if k<26 then ⟨#[97+k]⟩ else ⟨#[97+k / 26,97+k % 26]⟩
theorem zeB{k:Nat}(h:k<676):zR (vk k)=true:=by
 unfold vk;split
 ·exact wk (l:=[97+k]) (by simp) (by simp) (fun c hc=>by rw[List.mem_singleton.mp hc];omega)
 ·refine wk (l:=[97+k / 26,97+k % 26]) (by simp) (by simp) (fun c hc=>?_)
  have:=mod_lt k (show 26>0 by decide)
  have h2:k / 26<26:=by omega
  rcases List.mem_cons.mp hc with e|hc
  ·omega
  ·rw[List.mem_singleton.mp hc];omega
theorem zbK{j k:Nat}(h:vk j=vk k):j=k:=by
 unfold vk at h;split at h <;> split at h
 ·have:=wn (l:=[97+j]) (m:=[97+k]) h
  have:=List.cons.inj this
  omega
 ·have:=wn (l:=[97+j]) (m:=[97+k / 26,97+k % 26]) h
  simp at this
 ·have:=wn (l:=[97+j / 26,97+j % 26]) (m:=[97+k]) h
  simp at this
 ·have:=wn (l:=[97+j / 26,97+j % 26]) (m:=[97+k / 26,97+k % 26]) h
  have h1:=List.cons.inj this;have h2:=List.cons.inj h1.2;have e1:=Nat.div_add_mod j 26;have e2:=Nat.div_add_mod k 26;have a1:j / 26=k / 26:=by omega
  have a2:j % 26=k % 26:=by omega
  rw[<- e1,<- e2,a1,a2]
def zfa:Sp:=fun vs H Q _=>∃k:Nat,vs=[.int (k:Nat)]/\k<676/\∀H',zm H H'->Q (.str (vk k)) H'
def ziC:Sp:=fun vs H Q _=>∃(l:Addr) (xs:List Str),vs=[.ref l]/\H l=some (.lst (xs.map V.str))/\xs.length<=200/\∀(st:Str) (H':Hp),zm H H'->zR st=true->st∉xs->Q (.str st) H'
def ziB(K:Frag):Sp:=fun vs H Q _=>∃(t l0 l2 t' l0' l2':Addr) (n X n' X':List Str) (b b':Bool),vs=[.ref t,.ref t']/\RT K H t l0 l2 n b X/\RT K H t' l0' l2' n' b' X'/\X.length<=64/\X'.length<=64/\∀(st:Str) (l:Addr) (H':Hp),zm H H'->zR st=true->st∉X++X'->H' l=some (.lst ((X++X'++[st]).map V.str))->Q (.ref l) H'
section
variable {P:Program}{w:World}{K:Frag}{mg:Str->Option Value}{base:Heap}{f CF:Addr}{fd:FuncData}{c:C5}{m:MA}
theorem vX:zu ["number","rest","at","name"] ["number"] (zg uR):=⟨rfl,rfl,rfl,by decide +kernel,rfl,by decide +kernel,by decide +kernel⟩
theorem zhQ(F:Fun K "numbered_name" "numbered_name" uR f fd) (T:zkf K mg) (hdm:mg "divmod"=none):zJ P w K mg base CX0 1 f fd ["number"] zfa:=by
 refine F.ok vX (fun vs H Q E h=>?_) (fun cdv A outer s H vs Q E hr h=>?_)
 ·obtain⟨k,rfl,_⟩:=h
  rfl
 obtain⟨k,rfl,hk,q⟩:=h;obtain⟨tL,hL⟩:=T.letters;have l26:(letters.length:Int)=26:=by decide +kernel
 have lsz:letters.length<=sizeLine:=by decide +kernel
 have lat:∀j,j<26->letters.cps.toList[j]?=some (97+j):=qu;refine zA (wQ (cB jj hdm boot_divmod (ac (pv 0) (ac (cB wX T.len PySem.boot_len (ac (xz (v:=.str letters) rfl hL ⟨_,rfl⟩) zd)) zd))) (xf rfl (zL (zk (i:=1) vX.nd rfl (Or.inl rfl)) (zL (zk (i:=2) vX.nd rfl (Or.inl rfl)) yL)))) ?_;refine⟨_,rfl,letters,rfl,lsz,_,_,rfl,by rw[l26];exact⟨by decide,by decide⟩,fun p1 hp1=>?_⟩
 rw[l26];have s1:=zc hp1 (.tup [.int ((k:Int) / 26),.int ((k:Int) % 26)]);refine⟨p1,_,rfl,SqT.of za,rfl,_,_,rfl,_,_,rfl,rfl,?_⟩;generalize upd H p1 (.tup [.int ((k:Int) / 26),.int ((k:Int) % 26)])=H1 at s1 |-;dsimp only[zN];have e1:(k:Int) / 26=((k / 26:Nat):Int):=by omega
 have e2:(k:Int) % 26=((k % 26:Nat):Int):=by omega
 rw[e1,e2];refine zA (zy (i:=3) vX.nd rfl (Or.inl rfl) (zB u0 (xz (v:=.str letters) rfl hL ⟨_,rfl⟩) (pv 2) (fun _ _=>rfl))) ?_;refine⟨_,rfl,letters,_,97+k % 26,rfl,rfl,lsz,wY (lat _ (mod_lt _ (by decide))),?_⟩
 dsimp only[zN];refine zA (zbE PassesOwn.never (zfP (pv 1) (fun _=>rfl)) (zj (wQ (cB jj hdm boot_divmod (ac (pv 1) (ac (cB wX T.len PySem.boot_len (ac (xz (v:=.str letters) rfl hL ⟨_,rfl⟩) zd)) zd))) (xf rfl (zL (zk (i:=1) vX.nd rfl (Or.inl rfl)) (zL (zk (i:=2) vX.nd rfl (Or.inl rfl)) yL))))
  (ze (zy (i:=3) vX.nd rfl (Or.inl rfl) (zz xr (zB u0 (xz (v:=.str letters) rfl hL ⟨_,rfl⟩) (pv 2) (fun _ _=>rfl)) (pv 3)))))) ?_
 refine⟨fun mm σ H'=>∃(v2:Option V) (z:Str),σ=[some (.int (k:Nat)),some (.int (mm:Nat)),v2,some (.str z)]/\zm H H'/\((mm=k / 26/\z=⟨#[97+k % 26]⟩)\/(mm=0/\z=vk k)),⟨k / 26,_,_,rfl,s1,.inl ⟨rfl,rfl⟩⟩,?_⟩;rintro mm σ H2 ⟨v2,z,rfl,s2,hz⟩;refine⟨_,rfl,_,rfl,?_⟩;by_cases h0:mm=0
 ·subst h0
  refine yq ?_;have ez:z=vk k:=by
   rcases hz with ⟨a,b⟩|⟨_,b⟩
   ·rw[b]
    unfold vk;rw[if_pos (by omega),Nat.mod_eq_of_lt (by omega)]
   ·exact b
  rw[ez];exact⟨_,ze (zC (pv 3)),_,rfl,q _ s2⟩
 ·refine xB (by rw[bne_iff_ne];omega) ?_
  obtain⟨em,ez⟩:mm=k / 26/\z=⟨#[97+k % 26]⟩:=hz.resolve_right fun c=>h0 c.1;refine⟨fun σ' H'=>∃(v2:Option V) (z:Str),σ'=[some (.int (k:Nat)),some (.int ((0:Nat):Int)),v2,some (.str z)]/\zm H H'/\((0=k / 26/\z=⟨#[97+k % 26]⟩)\/((0:Nat)=0/\z=vk k)),fun σ' H' w=>⟨0,by omega,w⟩,?_⟩
  refine⟨_,rfl,letters,rfl,lsz,_,_,rfl,by rw[l26];exact⟨by decide,by decide⟩,fun p2 hp2=>?_⟩
  rw[l26];have f1:((mm:Nat):Int) / 26=((0:Nat):Int):=by omega
  have f2:((mm:Nat):Int) % 26=((mm:Nat):Int):=by omega
  rw[f1,f2];have s3:=zc hp2 (.tup [.int ((0:Nat):Int),.int ((mm:Nat):Int)]);refine⟨p2,_,rfl,SqT.of za,rfl,_,_,rfl,_,_,rfl,rfl,?_⟩;generalize upd H2 p2 (.tup [.int ((0:Nat):Int),.int ((mm:Nat):Int)])=H3 at s3 |-;refine⟨_,rfl,letters,_,97+mm,rfl,rfl,lsz,wY (lat _ (by omega)),_,rfl,_,_,rfl,rfl,z3 (by rw[ez];show 1+1<=1000;decide),?_⟩
  refine⟨_,_,rfl,s2.trans s3,.inr ⟨rfl,?_⟩⟩;rw[ez];unfold vk;rw[if_neg (by omega),em]
  rfl
theorem zfn:zu ["known","number"] ["known"] (zg jP):=⟨rfl,rfl,rfl,by decide +kernel,rfl,by decide +kernel,by decide +kernel⟩
theorem zcK{g1:Addr}{e1:FuncData}(F:Fun K "strange_name" "strange_name" jP f fd) (cN:zK P w K mg base 1 "numbered_name" g1 e1 ["number"] zfa):zJ P w K mg base CX0 2 f fd ["known"] ziC:=by
 refine F.ok zfn (fun vs H Q E h=>?_) (fun cdv A outer s H vs Q E hr h=>?_)
 ·obtain⟨l,xs,rfl,_⟩:=h
  rfl
 obtain⟨l,xs,rfl,hl,l2,q⟩:=h;refine zA (zy (i:=1) zfn.nd rfl (Or.inl rfl) zf) ?_;refine zA (zbE PassesOwn.never (zo yn (cF cN hr (ac (pv 1) zd)) (pv 0) (by with_unfolding_all rfl)) (ze (zjF (i:=1) zfn.nd rfl (Or.inl rfl) zf zj4))) ?_
 refine⟨fun mm σ H'=>∃(k:Nat),σ=[some (.ref l),some (.int (k:Nat))]/\mm+k=201/\zm H H'/\∀j,j<k->vk j∈xs,⟨201,0,rfl,rfl,zm.refl _,fun j hj=>absurd hj (not_lt_zero _)⟩,?_⟩;rintro mm σ H2 ⟨k,rfl,hm,s2,hj⟩;have hkl:k<=200:=by
  have nd:((List.range k).map vk).Nodup:=List.Pairwise.map _ (fun a b h e=>h (zbK e)) nodup_range
  have:=yI ((List.range k).map vk) xs nd (fun z hz=>by
   obtain⟨j,hj',rfl⟩:=List.mem_map.mp hz;exact hj j (List.mem_range.mp hj'))
  rw[length_map,length_range] at this;omega
 refine⟨_,rfl,k,rfl,by omega,fun H3 s3=>?_⟩
 have hl3:=(s2.trans s3) _ _ hl;refine⟨_,rfl,l,_,rfl,.inl (SqL.of hl3),rfl,yA,_,rfl,?_⟩;rw[if_neg Bool.false_ne_true,y6];by_cases hin:vk k∈xs
 ·refine dT hin ?_
  refine⟨fun σ' H'=>∃(k':Nat),σ'=[some (.ref l),some (.int (k':Nat))]/\(mm - 1)+k'=201/\zm H H'/\∀j,j<k'->vk j∈xs,fun σ' H' w=>⟨mm - 1,by omega,w⟩,?_⟩
  refine⟨_,rfl,_,_,rfl,rfl,?_⟩;refine⟨k+1,(by show[some (V.ref l),some (V.int (((k:Nat):Int)+1))]=_;rw[show((k:Nat):Int)+1=((k+1:Nat):Int) by omega]),by omega,s2.trans s3,fun j hj'=>?_⟩
  rcases lt_or_ge j k with c|c
  ·exact hj j c
  ·have:j=k:=by omega
   rw[this];exact hin
 ·refine dF hin ?_
  refine⟨_,ze (zC (cF cN hr (ac (pv 1) zd))),_,rfl,k,rfl,by omega,fun H4 s4=>?_⟩
  exact q _ _ (s2.trans (s3.trans s4)) (zeB (by omega)) hin
theorem ziJ:zu ["one_row","other_row","known"] ["one_row","other_row"] (zg zjp):=⟨rfl,rfl,rfl,by decide +kernel,rfl,by decide +kernel,by decide +kernel⟩
theorem zjP{g1:Addr}{e1:FuncData}(F:Fun K "names_to_try" "names_to_try" zjp f fd) (cS:zK P w K mg base 2 "strange_name" g1 e1 ["known"] ziC):zJ P w K mg base CX0 3 f fd ["one_row","other_row"] (ziB K):=by
 refine F.ok ziJ (fun vs H Q E h=>?_) (fun cdv A outer s H vs Q E hr h=>?_)
 ·obtain⟨t,l0,l2,t',l0',l2',n,X,n',X',b,b',rfl,_⟩:=h
  rfl
 obtain⟨t,l0,l2,t',l0',l2',n,X,n',X',b,b',rfl,R,R',lX,lX',q⟩:=h;refine zA (zy (i:=2) ziJ.nd rfl (Or.inl rfl) (zz ym (zB zw (pv 0) zf (fun _ _=>rfl)) (zB zw (pv 1) zf (fun _ _=>rfl)))) ?_;refine⟨_,rfl,t,_,2,.ref l2,rfl,rfl,R.at_,rfl,_,rfl,t',_,2,.ref l2',rfl,rfl,R'.at_,rfl,l2,l2',_,_,rfl,rfl,R.h2,R'.h2,z3 (by rw[length_map,length_map];omega),fun lk hlk=>?_⟩
 rw[<- map_append];have s1:=zc hlk (.lst ((X++X').map V.str));have g1:upd H lk (.lst ((X++X').map V.str)) lk=some (.lst ((X++X').map V.str)):=za;generalize upd H lk (.lst ((X++X').map V.str))=H1 at s1 g1 |-;dsimp only[zN];refine⟨_,ze (zC (zz ym (pv 2) (zW (ac (cF cS hr (ac (pv 2) zd)) zd)))),?_⟩;refine⟨_,rfl,_,rfl,lk,X++X',rfl,g1,by rw[length_append];omega,fun st H2 s2 hn hs=>⟨zz1,fun l3 hl3=>?_⟩⟩
 have s3:=zc hl3 (.lst [.str st]);refine⟨lk,l3,_,_,rfl,rfl,(s2.trans s3) _ _ g1,za,z3 (by rw[length_map,length_append];show _+1<=1000;omega),fun l4 hl4=>?_⟩
 have s4:=zc hl4 (.lst ((X++X').map V.str++[.str st]));exact q st l4 _ (s1.trans (s2.trans (s3.trans s4))) hn hs (by rw[za,map_append (l₁:=X++X')];rfl)
end
end K83
namespace L2
open PySem PySem.Spec PyProof.Rows
section
variable {prog:Program}{w:World}{A:Around}{E:Value->Shared->Prop}{s:Shared}{l I S:Addr}{vs:List Value}{kid:String}
end
section
variable {X:Cx}
end
theorem zeF(a v d:Value):argsOk "min" ⟨[a],[(Str.ofString "key",v),(Str.ofString "default",d)]⟩:=by unfold argsOk;kernel_rfl
theorem jC:∀{us:List Addr}{its:List Value},zQ (us.map V.ref) its->its=us.map Value.ref
 | [],_,.nil=>rfl
 | u::us,_,.cons r t=>by
  rw[map_cons,<- jC t];have r:_=Value.ref u:=r;rw[r]
section
variable {X:Cx}{pins:List (Addr×Obj)}{σ : St}{H:Hp}{l I S q:Addr}{us:List Addr}{kf:Nat->Int}
def ziY(X:Cx) (σ : St) (H:Hp) (q:Addr) (us:List Addr) (kf:Nat->Int):Prop:=∀(i:Nat) (u:Addr),us[i]?=some u->∀(pins':List (Addr×Obj)) (s:Shared),Inv X pins' σ H s->wpAny (model X.prog X.w) X.A.in1 (call (.ref q) [.ref u]) (EP X pins' σ (fun v H'=>v=.int (kf i)/\H'=H)) (fun _ _=>False) s
theorem vJ{s:Shared}(I0:Inv X pins σ H s) (hS:SqL X.K H l (us.map V.ref)):s.heap.IsList l (us.map Value.ref).toArray:=by
 obtain⟨its,rv,hpl,_⟩:=I0.list hS;rw[jC rv] at hpl;exact hpl.isList
theorem zeE{R:Result->Shared->Prop}(hc:X.calm=true) (hS:SqL X.K H l (us.map V.ref)) (fI:x8 X pins H I) (fS:x8 X pins H S) (hlI:l≠I) (hSI:S≠I) (turn:ziY X σ H q us kf)
  (hR:∀(i:Nat) (u:Addr) (s':Shared),us[i]?=some u->(∀j,j<us.length->kf i<=kf j)->Inv X pins σ H s'->R (.ok (.ret (.ref u))) s') :
  ∀(r j i:Nat) (s:Shared) (vb:Addr) (tb:Tok) (c:Nat),us.length - (j+1)=r->j+1<=us.length->Inv X pins σ H s->s.heap.get? S=some (seqObj "list" #[.ref vb,.int (kf i) tb] c)->s.heap.IsListIter I l (j+1)->us[i]?=some vb->i<=j->(∀j',j'<=j->kf i<=kf j')->
   codeAny (model X.prog X.w) X.A (.builtin "min.loop" ⟨[.ref I,.ref q,.ref S],[(Str.ofString "default",.none)]⟩) R s:=by
 have hname:(toString "min"++toString ".loop" : String)="min.loop":=by decide
 have fp:∀b∈[I,S],x8 X pins H b:=fun b hb=>by
  rcases List.mem_cons.mp hb with e|hb
  ·rw[e];exact fI
  ·rw[List.mem_singleton.mp hb];exact fS
 intro r;induction r with
 | zero=>
  intro j i s vb tb c hr hj I0 nS hit hvb hij hbest;have W:=Walks.list (prog:=X.prog) (w:=X.w) (A:=X.A.in1) (I0.ok.hd hc) I l hlI (us.map Value.ref).toArray;have hsz:(us.map Value.ref).toArray.size=us.length:=by rw[size_toArray,length_map]
  have hin:j+1=us.length:=by omega
  refine codeAny_builtin PySem.F.entry_min_loop ?_;rw[Around.under_plainId PySem.F.plain_min_loop _];show wpAny _ X.A.in1 (seqItems? (.ref S) >>= _) _ _ _;refine wpAny_bind (wpAny_seqItems nS rfl ?_);show wpAny _ X.A.in1 (tryCatch (pyNext (.ref I)) _ >>= _) _ _ _;refine wpAny_bind (wpAny_tryCatch (W.done _ _ _ ⟨by rw[hsz,<- hin];exact hit,vJ I0 hS⟩ fun h' tk' hk'=>?_))
  have I1:Inv X pins σ H { s with heap:=h',toks:=tk' }:=I0.turnedL (ch:=[I,S]) fp fun b o hb e=>hk' b o (fun z=>hb (by rw[List.mem_singleton.mp z];exact mem_cons_self)) e
  have hS':=hk' S _ (by simpa using hSI) nS
  show wpAny _ X.A.in1 (updateSeq S (fun _=>#[]) >>= _) _ _ _;refine wpAny_bind ?_;refine wpAny_updateSeq hS' rfl (wpAny_bind (wpAny_letGo (wpAny_pure ?_)));refine hR i vb _ hvb (fun j' hj'=>hbest j' (by omega)) ?_
  exact I1.turnedL (ch:=[I,S]) fp fun b o hb e=>(Heap.get?_update_other _ _ (fun z=>hb (by rw[<- z];simp))).trans e
 | succ r ih=>
  intro j i s vb tb c hr hj I0 nS hit hvb hij hbest;have W:=Walks.list (prog:=X.prog) (w:=X.w) (A:=X.A.in1) (I0.ok.hd hc) I l hlI (us.map Value.ref).toArray;have hsz:(us.map Value.ref).toArray.size=us.length:=by rw[size_toArray,length_map]
  have hlt:j+1<us.length:=by omega
  refine codeAny_builtin PySem.F.entry_min_loop ?_;rw[Around.under_plainId PySem.F.plain_min_loop _];show wpAny _ X.A.in1 (seqItems? (.ref S) >>= _) _ _ _;refine wpAny_bind (wpAny_seqItems nS rfl ?_);show wpAny _ X.A.in1 (tryCatch (pyNext (.ref I)) _ >>= _) _ _ _;refine wpAny_bind (wpAny_tryCatch (W.item (j+1) _ _ _ (by rw[hsz];exact hlt) ⟨hit,vJ I0 hS⟩ fun v h' tk' hP hst' hk'=>?_))
  obtain⟨u,hu,rfl⟩:∃u,us[j+1]?=some u/\v=.ref u:=by
   have hv:(us.map Value.ref)[j+1]?=some v:=by simpa using hP
   rw[getElem?_map] at hv;obtain⟨u,h1,h2⟩:=Option.map_eq_some_iff.mp hv;exact⟨u,h1,h2.symm⟩
  have I1:Inv X pins σ H { s with heap:=h',toks:=tk' }:=I0.turnedL (ch:=[I,S]) fp fun b o hb e=>hk' b o (fun z=>hb (by rw[List.mem_singleton.mp z];exact mem_cons_self)) e
  have nS1:=hk' S _ (by simpa using hSI) nS
  obtain⟨oI,hoI,hoc,hod⟩:=id hst'.1;have I1p:Inv X (pins++vj [I,S] h') σ H { s with heap:=h',toks:=tk' }:=I1.pinned fp fun b hb=>by
   rcases List.mem_cons.mp hb with e|hb
   ·rw[e];exact⟨oI,hoI,fun v q=>by rw[hod] at q;cases q⟩
   ·rw[List.mem_singleton.mp hb];exact⟨_,nS1,fun v q=>by cases q⟩
  show wpAny _ X.A.in1 (tryCatch (holding [.ref u] (call (.ref q) [.ref u])) _ >>= _) _ _ _;refine wpAny_bind (wpAny_tryCatch (wpAny_holding (wpAny_mono (turn (j+1) u hu _ _ I1p) (fun x s2 he=>?_) fun _ _ hF=>hF.elim)));obtain⟨v2,H2,I2p,rv2,rfl,rfl⟩:=he;obtain⟨t2,rfl⟩:=rv2;have I2:=I2p.unpinned;have nS2:=(I2p.pin (S,_) (mem_append_right _ (mem_append_right _ (yO (by simp) nS1)))).1
  have nI2:=(I2p.pin (I,_) (mem_append_right _ (mem_append_right _ (yO (by simp) hoI)))).1
  dsimp only at nS2 nI2;show wpAny _ X.A.in1 (tryCatch (holding [.ref u,.int (kf (j+1)) t2] (richCompare .Lt (.int (kf (j+1)) t2) (.int (kf i) tb) >>= _)) _ >>= _) _ _ _;refine wpAny_bind (wpAny_tryCatch (wpAny_holding (wpAny_bind (CmpOf.ints_lt (prog:=X.prog) (w:=X.w) (A:=X.A.in1) (P:=fun i v=>∃t,v=.int (kf i) t) kf (fun i v h=>h) (j+1) i _ _ _ _ _ ⟨t2,rfl⟩ ⟨tb,rfl⟩ ?_))));refine wpAny_bind (wpAny_holding (wpAny_truthy_bool ?_));refine wpAny_bind (wpAny_letGo (wpAny_pure ?_));by_cases hb':kf (j+1)<kf i
  ·obtain⟨c2,hc2⟩:∃c2,(s2.heap.update S (Obj.mapSeq fun _=>#[.ref u,.int (kf (j+1)) t2])).get? S=some (seqObj "list" #[.ref u,.int (kf (j+1)) t2] c2):=⟨_,get?_update_seq nS2 fun _=>#[.ref u,.int (kf (j+1)) t2]⟩
   simp only[hb',decide_true,if_true];refine wpAny_bind ?_;refine wpAny_updateSeq nS2 rfl (wpAny_bind (wpAny_letGo ?_));rw[hname];refine wpAny_pure ⟨plainId_quiet PySem.F.plain_min_loop _,ih (j+1) (j+1) _ u t2 c2 (by omega) hlt (I2.turnedL (ch:=[I,S]) fp fun b o hb e=>(Heap.get?_update_other _ _ (fun z=>hb (by rw[<- z];simp))).trans e) hc2 ⟨oI,(Heap.get?_update_other _ _ hSI).trans nI2,hoc,hod⟩ hu (Nat.le_refl _) fun j' hj'=>?_⟩
   by_cases e:j'=j+1
   ·subst e;omega
   ·have hb1:=hbest j' (by omega)
    omega
  ·simp only[hb',decide_false,Bool.false_eq_true,if_false]
   refine wpAny_bind (wpAny_letGo ?_);rw[hname];refine wpAny_pure ⟨plainId_quiet PySem.F.plain_min_loop _,ih (j+1) i _ vb tb c (by omega) hlt I2 nS2 ⟨oI,nI2,hoc,hod⟩ hvb (by omega) fun j' hj'=>?_⟩
   by_cases e:j'=j+1
   ·subst e;omega
   ·exact hbest j' (by omega)
theorem zeV{Q:Value->Shared->Prop}{E:Value->Shared->Prop}{s:Shared}(hc:X.calm=true) (I0:Inv X pins σ H s) (hS:SqL X.K H l (us.map V.ref)) (turn:ziY X σ H q us kf)
  (hQ0:us=[]->∀s',Inv X pins σ H s'->Q .none s')
  (hQ:∀(i:Nat) (u:Addr) (s':Shared),us[i]?=some u->(∀j,j<us.length->kf i<=kf j)->Inv X pins σ H s'->Q (.ref u) s') :
  wpAny (model X.prog X.w) X.A (call (.builtin "min") [.ref l] [(Str.ofString "key",.ref q),(Str.ofString "default",.none)]) Q E s:=by
 have hname:(toString "min"++toString ".loop" : String)="min.loop":=by decide
 have hl:=vJ I0 hS;obtain⟨ol,hol,_⟩:=id hl;have hll:l<s.heap.objs.size:=Heap.lt_size hol;refine kmb_tree PySem.F.kind_min PySem.F.plain_min PySem.F.entry_min (zeF _ _ _) ?_;show wpAny _ X.A.in1 (Builtin.Builtins.bindParams "min" ["key","default"] 0 ⟨[],[(Str.ofString "key",.ref q),(Str.ofString "default",.none)]⟩ >>= _) _ _ s;refine wpAny_bind (wpAny_of_eq (show Builtin.Builtins.bindParams "min" ["key","default"] 0 ⟨[],[(Str.ofString "key",.ref q),(Str.ofString "default",.none)]⟩=pure [some (.ref q),some .none] from rfl) ?_);refine wpAny_bind (wpAny_pure ?_);refine wpAny_bind (wpAny_pyIter_list hl ?_);refine wpAny_bind (wpAny_newList ?_ (zero_le _));rw[hname];have hSz:(s.heap.push { cls:=.type "list_iterator",data:=.fields #[.ref l,.int 0 0] }).objs.size=s.heap.objs.size+1:=size_push' ..;have hlI:l≠s.heap.objs.size:=ne_of_lt hll;have hSI:(s.heap.push { cls:=.type "list_iterator",data:=.fields #[.ref l,.int 0 0] }).objs.size≠s.heap.objs.size:=by rw[hSz];exact ne_of_gt (lt_succ_self _)
 refine wpAny_pure ⟨plainId_quiet PySem.F.plain_min_loop _,?_⟩;have gI:((s.heap.push { cls:=.type "list_iterator",data:=.fields #[.ref l,.int 0 0] }).push (seqObj "list" #[] 0)).get? s.heap.objs.size=some { cls:=.type "list_iterator",data:=.fields #[.ref l,.int 0 0] }:=
  Heap.get?_push_of_some _ (Heap.get?_push_size _ rfl)
 have gS:((s.heap.push { cls:=.type "list_iterator",data:=.fields #[.ref l,.int 0 0] }).push (seqObj "list" #[] 0)).get? (s.heap.push { cls:=.type "list_iterator",data:=.fields #[.ref l,.int 0 0] }).objs.size=some (seqObj "list" #[] 0):=Heap.get?_push_size _ rfl;have old:∀b o,s.heap.get? b=some o->((s.heap.push { cls:=.type "list_iterator",data:=.fields #[.ref l,.int 0 0] }).push (seqObj "list" #[] 0)).get? b=some o:=fun b o e=>Heap.get?_push_of_some _ (Heap.get?_push_of_some _ e);have fI:x8 X pins H s.heap.objs.size:=I0.fpOk (Nat.le_refl _) (I0.hok.fresh (Nat.le_refl _));have fS:x8 X pins H (s.heap.push { cls:=.type "list_iterator",data:=.fields #[.ref l,.int 0 0] }).objs.size:=I0.fpOk (by rw[hSz];exact le_succ _) (I0.hok.fresh (by rw[hSz];exact le_succ _))
 generalize (s.heap.push { cls:=.type "list_iterator",data:=.fields #[.ref l,.int 0 0] }).push (seqObj "list" #[] 0)=hp at gI gS old |-;generalize (s.heap.push { cls:=.type "list_iterator",data:=.fields #[.ref l,.int 0 0] }).objs.size=S at hSI gS fS |-;generalize s.heap.objs.size=I at hlI hSI gI fI |-;have I1:Inv X pins σ H { s with heap:=hp }:=I0.kept (t':=s.toks) old
 have fp:∀b∈[I,S],x8 X pins H b:=fun b hb=>by
  rcases List.mem_cons.mp hb with e|hb
  ·rw[e];exact fI
  ·rw[List.mem_singleton.mp hb];exact fS
 have W:=Walks.list (prog:=X.prog) (w:=X.w) (A:=X.A.in1) (I0.ok.hd hc) I l hlI (us.map Value.ref).toArray;have hsz:(us.map Value.ref).toArray.size=us.length:=by rw[size_toArray,length_map]
 have hl1:hp.IsList l (us.map Value.ref).toArray:=vJ I1 hS;refine codeAny_builtin PySem.F.entry_min_loop ?_;rw[Around.under_plainId PySem.F.plain_min_loop _];show wpAny _ X.A.in1 (seqItems? (.ref _) >>= _) _ _ _;refine wpAny_bind (wpAny_seqItems gS rfl ?_);show wpAny _ X.A.in1 (tryCatch (pyNext (.ref I)) _ >>= _) _ _ _;rcases Nat.eq_zero_or_pos us.length with h0|hne
 ·have e0:us=[]:=List.length_eq_zero_iff.mp h0
  refine wpAny_bind (wpAny_tryCatch (W.done _ _ _ ⟨by rw[hsz,h0];exact⟨_,gI,rfl,rfl⟩,hl1⟩ fun h' tk' hk'=>?_))
  show wpAny _ X.A.in1 (rule _ >>= _) _ _ _;refine wpAny_bind (wpAny_rule (wpAny_pure ?_));have I2:Inv X pins σ H { s with heap:=h',toks:=tk' }:=Inv.turnedL (s:={ s with heap:=hp }) (ch:=[I,S]) I1 fp fun b o hb e=>hk' b o (fun z=>hb (by rw[List.mem_singleton.mp z];exact mem_cons_self)) e
  exact hQ0 e0 _ I2
 refine wpAny_bind (wpAny_tryCatch (W.item 0 _ _ _ (by rw[hsz];exact hne) ⟨⟨_,gI,rfl,rfl⟩,hl1⟩ fun v h' tk' hP hst' hk'=>?_))
 obtain⟨u,hu,rfl⟩:∃u,us[0]?=some u/\v=.ref u:=by
  have hv:(us.map Value.ref)[0]?=some v:=by simpa using hP
  rw[getElem?_map] at hv;obtain⟨u,h1,h2⟩:=Option.map_eq_some_iff.mp hv;exact⟨u,h1,h2.symm⟩
 have I2:Inv X pins σ H { s with heap:=h',toks:=tk' }:=Inv.turnedL (s:={ s with heap:=hp }) (ch:=[I,S]) I1 fp fun b o hb e=>hk' b o (fun z=>hb (by rw[List.mem_singleton.mp z];exact mem_cons_self)) e
 have nS1:=hk' S _ (by simpa using hSI) gS
 obtain⟨oI,hoI,hoc,hod⟩:=id hst'.1;have I1p:Inv X (pins++vj [I,S] h') σ H { s with heap:=h',toks:=tk' }:=I2.pinned fp fun b hb=>by
  rcases List.mem_cons.mp hb with e|hb
  ·rw[e];exact⟨oI,hoI,fun v q=>by rw[hod] at q;cases q⟩
  ·rw[List.mem_singleton.mp hb];exact⟨_,nS1,fun v q=>by cases q⟩
 show wpAny _ X.A.in1 (tryCatch (holding [.ref u] (call (.ref q) [.ref u])) _ >>= _) _ _ _;refine wpAny_bind (wpAny_tryCatch (wpAny_holding (wpAny_mono (turn 0 u hu _ _ I1p) (fun x s2 he=>?_) fun _ _ hF=>hF.elim)));obtain⟨v2,H2,I2p,rv2,rfl,rfl⟩:=he;obtain⟨t2,rfl⟩:=rv2;have I3:=I2p.unpinned;have nS2:=(I2p.pin (S,_) (mem_append_right _ (mem_append_right _ (yO (by simp) nS1)))).1
 have nI2:=(I2p.pin (I,_) (mem_append_right _ (mem_append_right _ (yO (by simp) hoI)))).1
 dsimp only at nS2 nI2;obtain⟨c2,hc2⟩:∃c2,(s2.heap.update S (Obj.mapSeq fun _=>#[.ref u,.int (kf 0) t2])).get? S=some (seqObj "list" #[.ref u,.int (kf 0) t2] c2):=⟨_,get?_update_seq nS2 fun _=>#[.ref u,.int (kf 0) t2]⟩;show wpAny _ X.A.in1 (updateSeq S (fun _=>#[.ref u,.int (kf 0) t2]) >>= _) _ _ _;refine wpAny_bind ?_;refine wpAny_updateSeq nS2 rfl ?_;rw[hname];refine wpAny_pure ⟨plainId_quiet PySem.F.plain_min_loop _,zeE hc hS fI fS hlI hSI turn (fun i u s' hu hb k=>hQ i u s' hu hb k) _ 0 0 _ u t2 c2 rfl hne (I3.turnedL (ch:=[I,S]) fp fun b o hb e=>(Heap.get?_update_other _ _ (fun z=>hb (by rw[<- z];simp))).trans e) hc2 ⟨oI,(Heap.get?_update_other _ _ hSI).trans nI2,hoc,hod⟩ hu (Nat.le_refl _) fun j' hj'=>?_⟩
 have e:j'=0:=by omega
 subst e;exact Int.le_refl _
def zg9(K:Frag) (sp:Sp) (ta:TA):TE:=fun σ H Q=>ta σ H fun vs H1=>∃(l:Addr) (us:List Addr) (kf:Nat->Int),vs=[.ref l]/\SqL K H1 l (us.map V.ref)/\(∀(i:Nat) (u:Addr),us[i]?=some u->sp [.ref u] H1 (fun v H'=>v=.int (kf i)/\H'=H1) E0)/\(us=[]->Q .non H1)/\
 ∀(i:Nat) (u:Addr),us[i]?=some u->(∀j,j<us.length->kf i<=kf j)->Q (.ref u) H1
theorem zem{a:Expr}{ta:TA}{p p2 pos kp kp2 p3:Pos}{j3:Nat}{k:Nat}{x:Str}{fd:FuncData}{pr:Str}{sp:Sp}(hc:X.calm=true) (hg:Gl X "min") (hm:X.mg "min"=none) (c:zK X.prog X.w X.K X.mg X.base k x q fd [pr] sp) (hr:yw (k+1) X.A) (hgx:Gl X x) (ha:PA X [a] ta) (h1:vn a=false:=by rfl) (hdb:(x==("__debug__" : Str))=false:=by decide) :
  PE X (.Call (.Name "min" p) [a] [⟨some "key",.Name x p2,kp⟩,⟨some "default",.Constant .none j3 p3,kp2⟩] pos) (zg9 X.K sp ta):=by
 refine⟨?_⟩;intro pins s σ H Q I h;refine wpAny_Call_Name_kw (ww I hg hm boot_min ?_);refine callWith_kw (env:=X.env) (id:="min") (e:=a) (rest:=[]) (thn (ha pos pins s σ H _ I h) fun us s1 ⟨vs,H1,I1,r1,l,uss,kf,e,hS,hk,q0,q1⟩=>?_) (by rw[yF h1];rfl) (by rw[yF h1];rfl) rfl rfl
 subst e;cases r1 with
 | cons r rr=>
  cases rr;cases r;refine kws_cons (vK I1 hgx c.mg (kws_cons (Constant_none (kws_nil ?_))) hdb);refine zeV (us:=uss) (kf:=kf) hc I1 hS (fun i u hu pins' s' I'=>?_) (fun e s' I'=>⟨.non,H1,I',rfl,q0 e⟩) (fun i u s' hu hb I'=>⟨.ref u,H1,I',rfl,q1 i u hu hb⟩);have hsp:=hk i u hu;refine wpAny_call (codeAny_mono (c.ok.run X.A.in1 X.stack s' H1 ⟨[.ref u],[]⟩ [.ref u] [.ref u] _ E0 hr.in1 I'.env0.in1 (c.bd s' [.ref u] I'.kIn rfl) (.cons rfl .nil) hsp) fun r s'' hq=>?_);cases r with
  | error e=>exact hq.elim
  | ok fl=>
   cases fl with
   | ret u=>exact I'.after hq
   | next=>exact False.elim hq
   | brk=>exact False.elim hq
   | cont=>exact False.elim hq
end
end L2
namespace K83
open PySem L2 PyProof.Rows
def zmc(ok:Addr->Prop) (H:Hp) (v:V):Option (List Str)->Prop
 | none=>v=.non
 | some ns=>∃l,v=.ref l/\ok l/\H l=some (.lst (ns.map V.str))/\(∀z∈ns,zR z=true)/\ns.length<=60
structure zg2(x:TR):Prop where
 ln:∀n b X,x=some (n,b,X)->n.length<=56/\X.length<=56
 nn:∀n b X,x=some (n,b,X)->(∀z∈n,zR z=true)/\∀z∈X,zR z=true
theorem vp:∀z∈yc,zR z=true:=by decide +kernel
theorem zdG{zs:List Str}{D:FD}{bars:List Str}(h:zY zs D bars) (l4:zs.length<=4) (hz:∀z∈zs,zR z=true) (m:Nat):zg2 (sF D bars m):=by
 have all:∀z∈zs++yc,zR z=true:=fun z h=>(List.mem_append.mp h).elim (hz z) (vp z);refine⟨fun n b X e=>?_,fun n b X e=>?_⟩
 ·have p:=xK h e
  have l1:=yI n _ p.dn p.zn;have l2:=yI X _ p.dX p.zX;rw[length_append,show yc.length=52 from rfl] at l1 l2;omega
 ·have p:=xK h e
  exact⟨fun z hz=>all z (p.zn z hz),fun z hz=>all z (p.zX z hz)⟩
def zkz(K:Frag):Sp:=fun vs H Q _=>∃(vx vy:V) (x y:TR) (okx oky:Addr->Prop),vs=[vx,vy]/\zS K okx H 2 vx (zej x)/\zS K oky H 2 vy (zej y)/\zg2 x/\zg2 y/\
 ∀(st:Str) (v:V) (H':Hp),zm H H'->Odd st x y->zmc (fun l=>H l=none\/oky l) H' v (xC st x y)->Q v H'
section
variable {P:Program}{w:World}{K:Frag}{mg:Str->Option Value}{base:Heap}{f CF:Addr}{fd:FuncData}{c:C5}{m:MA}
theorem zjg:zu ["one_row","other_row","needed","name"] ["one_row","other_row"] (zg zaN):=⟨rfl,rfl,rfl,by decide +kernel,rfl,by decide +kernel,by decide +kernel⟩
theorem zkL{g1 g2 g3:Addr}{e1 e2 e3:FuncData}(F:Fun K "parting_names" "parting_names" zaN f fd) (hso:mg "sorted"=none) (cT:zK P w K mg base 2 "takes" g1 e1 ["row","names"] (zbn K)) (cN:zK P w K mg base 3 "names_to_try" g2 e2 ["one_row","other_row"] (ziB K)) (cM:zK P w K mg base 1 "may_have" g3 e3 ["row","name"] (zci K)):zJ P w K mg base CX0 4 f fd ["one_row","other_row"] (zkz K):=by
 refine F.ok zjg (fun vs H Q E h=>?_) (fun cdv A outer s H vs Q E hr h=>?_)
 ·obtain⟨vx,vy,x,y,okx,oky,rfl,_⟩:=h
  rfl
 obtain⟨vx,vy,x,y,okx,oky,rfl,sx,sy,rx,ry,q⟩:=h;have hr1:yw 1 _:=hr.mono (by decide)
 have hr2:yw 2 _:=hr.mono (by decide)
 refine zA (zP (xE (xQ (pv 1))) (ze (zC uT)) zE) ?_;cases y with
 | none=>
  rw[zbw sy];refine⟨_,rfl,_,rfl,?_⟩;refine xB (by simp) ?_
  exact q "" .non H (zm.refl _) (fun n b X n' b' X' _ e=>by cases e) rfl
 | some ry'=>
  obtain⟨n',b',X'⟩:=ry';obtain⟨t',l0',l2',rfl,ok',R'⟩:=ziN sy;obtain⟨ly1,ly2⟩:=ry.ln _ _ _ rfl;obtain⟨ny1,ny2⟩:=ry.nn _ _ _ rfl;refine⟨_,rfl,_,rfl,?_⟩;refine yS (by simp) ?_
  refine zA (zy (i:=2) zjg.nd rfl (Or.inl rfl) (zB zw (pv 1) zf (fun _ _=>rfl))) ?_;refine⟨_,rfl,t',_,0,.ref l0',rfl,rfl,R'.at_,rfl,?_⟩;dsimp only[zN];refine zA (zP (PW.pt (xW (xE (xQ (pv 0))) (xD (xc (yr (cF cT hr2 (ac (pv 0) (ac (pv 2) zd)))))))) (ze (zC (pv 2))) zE) ?_;cases x with
  | none=>
   rw[zbw sx];refine⟨_,rfl,_,rfl,?_⟩;refine xB (by simp) ?_
   exact⟨_,rfl,q "" _ H (zm.refl _) (fun n b X n' b' X' e _=>by cases e) ⟨l0',rfl,.inr ok',R'.h0,ny1,by omega⟩⟩
  | some rx'=>
   obtain⟨n,b,X⟩:=rx';obtain⟨t,l0,l2,rfl,ok0,R⟩:=ziN sx;obtain⟨lx1,lx2⟩:=rx.ln _ _ _ rfl;obtain⟨nx1,nx2⟩:=rx.nn _ _ _ rfl;refine⟨_,rfl,_,rfl,?_⟩;refine yS (by simp) ?_
   refine⟨_,rfl,_,rfl,t,l0,l2,l0',n,X,n',b,rfl,R,R'.h0,by omega,by omega,fun H1 s1=>?_⟩
   refine⟨_,rfl,?_⟩;have R1:=R.same s1;have R1':=R'.same s1;cases ha:acc (some (n,b,X)) n' with
   | false=>
    refine xm ?_;refine⟨_,rfl,?_⟩;obtain⟨st,hst⟩:∃st:Str,st∉X++X':=by
     refine Classical.byContradiction fun c=>?_;have hall:∀z:Str,z∈X++X':=fun z=>Classical.byContradiction fun d=>c ⟨z,d⟩;have nd:((List.range 200).map vk).Nodup:=List.Pairwise.map _ (fun a b h e=>h (zbK e)) nodup_range
     have:=yI _ (X++X') nd fun z _=>hall z
     rw[length_map,length_range,length_append] at this;omega
    refine q st _ H1 s1 (fun _ _ _ _ _ _ e e'=>by cases e;cases e';exact hst) ?_
    unfold xC;dsimp only;rw[ha,if_neg Bool.false_ne_true];exact⟨l0',rfl,.inr ok',R1'.h0,ny1,by omega⟩
   | true=>
    refine yq ?_;refine zA (yW PassesOwn.never rfl (zM (cF cN hr (ac (pv 0) (ac (pv 1) zd)))) (zk (i:=3) zjg.nd rfl (Or.inl rfl)) wp) ?_;refine⟨_,rfl,_,rfl,t,l0,l2,t',l0',l2',n,X,n',X',b,b',rfl,R1,R1',by omega,by omega,fun st lt H2 s2 hn hst hlt=>?_⟩
    have odd:Odd st (some (n,b,X)) (some (n',b',X')):=fun _ _ _ _ _ _ e e'=>by cases e;cases e';exact hst
    have q2:=q st;unfold xC at q2;dsimp only at q2;rw[ha,if_pos rfl] at q2;have nall:∀z∈X++X'++[st],zR z=true:=fun z hz=>by
     rcases List.mem_append.mp hz with hz|hz
     ·exact(List.mem_append.mp hz).elim (nx2 z) (ny2 z)
     ·rw[List.mem_singleton.mp hz];exact hn
    have lL:(X++X'++[st]).length<=200:=by rw[length_append,length_append];show _+1<=200;omega
    generalize X++X'++[st]=L at hlt q2 nall lL;refine⟨lt,rfl,⟨_,SqL.of hlt⟩,xn (K:=K) (a:=lt) (xs:=L.map V.str) (fun i σ H'=>∃(v3:Option V),σ=[some (.ref t),some (.ref t'),some (.ref l0'),v3]/\zm H2 H'/\∀j z,j<i->L[j]?=some z->(may b' X' z&&!may b X z)=false) ⟨_,rfl,zm.refl _,fun j z hj=>absurd hj (not_lt_zero _)⟩ (fun i σ H' _ ⟨_,_,sH,_⟩=>SqL.of (sH _ _ hlt)) ?_ ?_⟩
    ·rintro i v σ H3 hv ⟨v3,rfl,s3,hno⟩
     obtain⟨z,hz,rfl⟩:=strs_at hv;have s23:=s2.trans s3;have R3:=R1.same s23;have R3':=R1'.same s23;refine⟨_,ze (zP (PW.pt (xa (yr (cF cM hr1 (ac (pv 1) (ac (pv 3) zd)))) (yQ (xc (yr (cF cM hr1 (ac (pv 0) (ac (pv 3) zd)))))))) (ze (zC (cB x6 hso boot_sorted (ac (zz ym (pv 2) (zW (ac (pv 3) zd))) zd)))) zE),?_⟩;refine⟨_,rfl,_,rfl,t',l0',l2',n',X',b',z,rfl,R3',_,rfl,?_⟩;have go:(may b' X' z&&!may b X z)=false->∃(v3:Option V),[some (V.ref t),some (.ref t'),some (.ref l0'),some (.str z)]=[some (.ref t),some (.ref t'),some (.ref l0'),v3]/\zm H2 H3/\∀j z,j<i+1->L[j]?=some z->(may b' X' z&&!may b X z)=false:=fun hz0=>by
      refine⟨_,rfl,s3,fun j y hj hy=>?_⟩;rcases lt_or_ge j i with d|d
      ·exact hno j y d hy
      ·have:j=i:=by omega
       subst this;rw[hz] at hy;cases hy;exact hz0
     cases m1:may b' X' z with
     | false=>
      refine yq ?_;exact go (by rw[m1];rfl)
     | true=>
      refine xm ?_;refine⟨_,rfl,_,rfl,t,l0,l2,n,X,b,z,rfl,R3,_,rfl,?_⟩;cases m2:may b X z with
      | true=>
       refine yq ?_;exact go (by rw[m1,m2];rfl)
      | false=>
       refine xm ?_;refine⟨_,rfl,_,rfl,zz1,fun l5 hl5=>?_⟩;have s5:=zc hl5 (.lst [.str z]);refine⟨l0',l5,_,_,rfl,rfl,s5 _ _ R3'.h0,za,z3 (by rw[length_map];show _+1<=1000;omega),fun l6 hl6=>?_⟩
       have s6:=zc hl6 (.lst (n'.map V.str++[.str z]));have e6:n'.map V.str++[.str z]=(n'++[z]).map V.str:=by rw[map_append];rfl
       rw[e6] at s6 |-;refine⟨l6,_,rfl,SqL.of za,by rw[length_append];show _+1<64;omega,fun l7 hl7=>?_⟩
       have s7:=zc hl7 (.lst ((z9 (n'++[z])).map V.str));have hf:L.find? (fun z=>may b' X' z&&!may b X z)=some z:=by
        rw[List.find?_eq_some_iff_getElem];refine⟨by rw[m1,m2];rfl,i,(List.getElem?_eq_some_iff.mp hz).1,(List.getElem?_eq_some_iff.mp hz).2,fun j hj=>?_⟩
        have hjl:j<L.length:=lt_trans hj (List.getElem?_eq_some_iff.mp hz).1;rw[hno j _ hj (getElem?_eq_getElem hjl)];rfl
       have sA:=s1.trans (s23.trans (s5.trans (s6.trans s7)));refine q2 _ _ sA odd ?_;rw[hf];refine⟨l7,rfl,.inl ((s1.trans (s23.trans (s5.trans s6))).free hl7),za,fun y hy=>?_,by rw[(zH _).length_eq,length_append];show _+1<=60;omega⟩
       rcases List.mem_append.mp ((zH _).mem_iff.mp hy) with hy|hy
       ·exact ny1 y hy
       ·rw[List.mem_singleton.mp hy];exact nall z (mem_of_getElem? hz)
    ·rintro σ H3 ⟨v3,rfl,s3,hno⟩
     refine⟨_,ze (zC uT),?_⟩;have hf:L.find? (fun z=>may b' X' z&&!may b X z)=none:=by
      rw[List.find?_eq_none];intro z hz c;obtain⟨j,hj⟩:=getElem?_of_mem hz
      have:=hno j z (by rw[length_map];exact(List.getElem?_eq_some_iff.mp hj).1) hj
      rw[this] at c;cases c
     refine q2 _ _ (s1.trans (s2.trans s3)) odd ?_;rw[hf];rfl
end
def zbm:Sp:=fun vs H Q _=>∃(t l:Addr) (m:Nat) (ns:List Str),vs=[.ref t]/\H t=some (.tup [.int (m:Nat),.ref l])/\H l=some (.lst (ns.map V.str))/\Q (.int ((m+ns.length:Nat):Int)) H
def PV(H0 H:Hp) (v:V):Option (Nat×List Str)->Prop
 | none=>v=.non
 | some (m,ns)=>∃t l,v=.ref t/\H0 l=none/\H t=some (.tup [.int (m:Nat),.ref l])/\H l=some (.lst (ns.map V.str))/\(∀z∈ns,zR z=true)/\ns.length<=60
def uP(c:C5) (CF:Addr):Sp:=fun vs H Q _=>∃(f g:Addr) (D D':FD) (bars bars' zs:List Str),vs=[.ref f,.ref g]/\xU c CF H f D.rows bars/\xU c CF H g D'.rows bars'/\zY zs D bars/\zY zs D' bars'/\zs.length<=4/\(∀z∈zs,zR z=true)/\
 ∀(o:Option (Nat×List Str)) (v:V) (H':Hp),zm H H'->qv D bars D' bars' o->PV H H' v o->Q v H'
def zbo(c:C5) (CF:Addr):Sp:=fun vs H Q _=>∃(f g:Addr) (D D':FD) (bars bars' zs:List Str),vs=[.ref f,.ref g]/\xU c CF H f D.rows bars/\xU c CF H g D'.rows bars'/\zY zs D bars/\zY zs D' bars'/\zs.length<=4/\(∀z∈zs,zR z=true)/\
 ∀(o:Option (Nat×List Str)) (H':Hp),zm H H'->qv D bars D' bars' o->Q (.bl o.isNone) H'
def EAt(H0:Hp) (lf:Addr) (H:Hp) (u:Addr) (e:Nat×List Str):Prop:=u≠lf/\∃l,H u=some (.tup [.int (e.1:Nat),.ref l])/\H0 l=none/\l≠lf/\H l=some (.lst (e.2.map V.str))/\(∀z∈e.2,zR z=true)/\e.2.length<=60
theorem EAt.same{H0 H H':Hp}{lf u:Addr}{e:Nat×List Str}(h:EAt H0 lf H u e) (s:zm H H'):EAt H0 lf H' u e:=let ⟨h0,l,h1,h2,h3,h4,h5⟩:=h;⟨h0,l,s _ _ h1,h2,h3,s _ _ h4,h5⟩
theorem EAt.put{H0 H:Hp}{lf u:Addr}{e:Nat×List Str}{o:HO}(h:EAt H0 lf H u e):EAt H0 lf (upd H lf o) u e:=let ⟨h0,l,h1,h2,h3,h4,h5⟩:=h;⟨h0,l,by rw[zh h0];exact h1,h2,h3,by rw[zh h3];exact h4,h5⟩
structure zl9(mg:Str->Option Value):Prop where
 range:mg "range"=none
 max:mg "max"=none
 min:mg "min"=none
section
variable {P:Program}{w:World}{K:Frag}{mg:Str->Option Value}{base:Heap}{f CF:Addr}{fd:FuncData}{c:C5}{m:MA}
theorem jL:zu ["parted","many","names"] ["parted"] (zg zaI):=⟨rfl,rfl,rfl,by decide +kernel,rfl,by decide +kernel,by decide +kernel⟩
theorem zew(F:Fun K "things_in" "things_in" zaI f fd) (hln:mg "len"=none):zJ P w K mg base CX0 1 f fd ["parted"] zbm:=by
 refine F.ok jL (fun vs H Q E h=>?_) (fun cdv A outer s H vs Q E hr h=>?_)
 ·obtain⟨t,l,m,ns,rfl,_⟩:=h
  rfl
 obtain⟨t,l,m,ns,rfl,ht,hl,q⟩:=h;refine zA (wQ (pv 0) (xf rfl (zL (zk (i:=1) jL.nd rfl (Or.inl rfl)) (zL (zk (i:=2) jL.nd rfl (Or.inl rfl)) yL)))) ?_;refine⟨_,rfl,t,_,rfl,SqT.of ht,rfl,_,_,rfl,_,_,rfl,rfl,?_⟩;dsimp only[zN];refine⟨_,ze (zC (zz xR (pv 1) (cB zF hln PySem.boot_len (ac (pv 2) zd)))),?_⟩;refine⟨_,rfl,_,rfl,l,_,rfl,.inl (SqL.of hl),_,_,rfl,rfl,?_⟩;rw[length_map,show((m:Nat):Int)+((ns.length:Nat):Int)=((m+ns.length:Nat):Int) by omega]
 exact q
theorem vD:zu ["one","other","found","many","names"] ["one","other"] (zg jQ):=⟨rfl,rfl,rfl,by decide +kernel,rfl,by decide +kernel,by decide +kernel⟩
theorem zcL{g1 g2 g3 gP:Addr}{e1 e2 e3 eP:FuncData}(F:Fun K "parting" "parting" jQ f fd) (U:zl9 mg) (FK:FC K CF) (cR:zK P w K mg base 4 "row_at" g1 e1 ["form","many"] (zdr K c CF)) (cN:zK P w K mg base 4 "parting_names" g2 e2 ["one_row","other_row"] (zkz K)) (cT:zK P w K mg base 1 "things_in" g3 e3 ["parted"] zbm) (mP:xp K CF "places" gP) (GP:zJ P w K mg base CX0 1 gP eP ["self"] (wE c CF)) (bP:z7 K eP ["self"] []):zJ P w K mg base CX0 5 f fd ["one","other"] (uP c CF):=by
 refine F.ok vD (fun vs H Q E h=>?_) (fun cdv A outer s H vs Q E hr h=>?_)
 ·obtain⟨f,g,D,D',bars,bars',zs,rfl,_⟩:=h
  rfl
 obtain⟨f,g,D,D',bars,bars',zs,rfl,hF,hG,fd,fd',l4,hz,q⟩:=h;have hr1:yw 1 _:=hr.mono (by decide)
 have hr2:yw 2 _:=hr.mono (by decide)
 have l24:=wW fd;have l24':=wW fd';have pl:=wR fd;have pl':=wR fd';have lp:D.P.length<=24:=by have:=fd.ln;omega
 have lp':D'.P.length<=24:=by have:=fd'.ln;omega
 obtain⟨dx,fs,lr,lb,ld,ps,h1,h2,_⟩:=id hF.at_;obtain⟨dx',fs',lr',lb',ld',ps',h1',h2',_⟩:=id hG.at_;refine zA (zy (i:=2) vD.nd rfl (Or.inl rfl) (zW zd)) ?_;refine⟨zz0,fun lf hlf=>?_⟩;have s0:=zc hlf (.lst []);have g0:upd H lf (.lst []) lf=some (.lst (([]:List Addr).map V.ref)):=za;generalize upd H lf (.lst [])=H0 at s0 g0 |-;dsimp only[zN];refine zA (yW PassesOwn.never rfl (vF rfl U.range (ac (zz xR (cB (ja rfl) U.max boot_max (ac (yz (pv 0) FK.cl mP GP hr1 bP .nil yp) (ac (yz (pv 1) FK.cl mP GP hr1 bP .nil yp) zd))) zf) zd)) (zk (i:=3) vD.nd rfl (Or.inl rfl)) wp) ?_;refine⟨_,rfl,f,dx,fs,rfl,s0 _ _ h1,h2.no _ (by decide +kernel),f,D.rows,bars,rfl,(hF.same s0).at_,_,rfl,g,dx',fs',rfl,s0 _ _ h1',h2'.no _ (by decide +kernel),g,D'.rows,bars',rfl,(hG.same s0).at_,_,_,rfl,_,_,rfl,rfl,?_⟩
 rw[pl,pl'];obtain⟨M,eM,hM⟩:∃M:Nat,M=max D.P.length D'.P.length+2/\(if ((D'.P.length:Nat):Int)>((D.P.length:Nat):Int) then ((D'.P.length:Nat):Int) else ((D.P.length:Nat):Int))+2=((M:Nat):Int):=⟨_,rfl,by split <;> omega⟩
 rw[hM];have M26:M<=26:=by omega
 refine⟨(M:Nat),rfl,by omega,by omega,?_⟩
 rw[show(((M:Nat):Int)).toNat=M by omega]
 refine u7 (n:=M) (fun i σ H'=>∃(v3 v4:Option V) (us:List Addr) (ms:List (Nat×List Str)) (st:Nat->Str),σ=[some (.ref f),some (.ref g),some (.ref lf),v3,v4]/\zm H H'/\H' lf=some (.lst (us.map V.ref))/\Paired (EAt H lf H') us ms/\us.length<=i/\(∀j,j<i->Odd (st j) (sF D bars j) (sF D' bars' j))/\(∀j ns,j<i->xC (st j) (sF D bars j) (sF D' bars' j)=some ns->(j,ns)∈ms)/\∀e∈ms,e.1<i/\xC (st e.1) (sF D bars e.1) (sF D' bars' e.1)=some e.2)
  ⟨_,_,[],[],fun _=>"",rfl,s0,g0,.nil,Nat.le_refl _,(fun j hj=>absurd hj (not_lt_zero _)),(fun j _ hj=>absurd hj (not_lt_zero _)),(fun e he=>nomatch he)⟩ ?_ ?_
 ·rintro i σ H2 hi ⟨v3,v4,us,ms,st,rfl,s2,hl2,hp2,lu,ho,hin,hof⟩
  rw[Int.zero_add];refine zA (zy (i:=4) vD.nd rfl (Or.inl rfl) (cF cN hr (ac (cF cR hr (ac (pv 0) (ac (pv 3) zd))) (ac (cF cR hr (ac (pv 1) (ac (pv 3) zd))) zd)))) ?_;refine⟨_,rfl,_,rfl,f,i,D,bars,zs,rfl,hF.same s2,fd,l4,fun vx H3 s3 sx=>?_⟩;refine⟨_,rfl,_,rfl,g,i,D',bars',zs,rfl,hG.same (s2.trans s3),fd',l4,fun vy H4 s4 sy=>?_⟩;refine⟨vx,vy,_,_,_,_,rfl,sx.same s4,sy,zdG fd l4 hz i,zdG fd' l4 hz i,fun sti v H5 s5 oi pr=>?_⟩;have s25:=s3.trans (s4.trans s5);have hl5:=s25 _ _ hl2;have hp5:=Paired.imp' (fun _ _ z=>EAt.same z s25) hp2;have sA:=s2.trans s25;dsimp only[zN];have st':∀j,j<i+1->(fun k=>if k=i then sti else st k) j=if j=i then sti else st j:=fun _ _=>rfl
  have ho':∀j,j<i+1->Odd ((fun k=>if k=i then sti else st k) j) (sF D bars j) (sF D' bars' j):=fun j hj=>by
   dsimp only;by_cases e:j=i
   ·subst e;rw[if_pos rfl];exact oi
   ·rw[if_neg e];exact ho j (by omega)
  have old:∀e∈ms,e.1<i+1/\xC ((fun k=>if k=i then sti else st k) e.1) (sF D bars e.1) (sF D' bars' e.1)=some e.2:=fun e he=>by
   obtain⟨h1,h2⟩:=hof e he;dsimp only;rw[if_neg (by omega)]
   exact⟨by omega,h2⟩
  refine⟨_,ze (zP (xE (zdN (pv 4))) (ze (z6 (xL PySem.F.plainAttrs_list PySem.F.slot_list_append PySem.F.type_list_append yu (pv 2) (ac (zZ (ac (pv 3) (ac (pv 4) zd))) zd)))) zE),?_⟩;cases ep:xC sti (sF D bars i) (sF D' bars' i) with
  | none=>
   rw[ep] at pr;have pr:v=.non:=pr;subst pr;refine⟨_,rfl,_,rfl,?_⟩;refine yS (by simp) ?_
   refine⟨_,_,us,ms,fun k=>if k=i then sti else st k,rfl,sA,hl5,hp5,by omega,ho',fun j ns hj hn=>?_,old⟩
   dsimp only at hn;by_cases e:j=i
   ·subst e;rw[if_pos rfl,ep] at hn;cases hn
   ·rw[if_neg e] at hn;exact hin j ns (by omega) hn
  | some ns=>
   rw[ep] at pr;obtain⟨l,rfl,okl,hl,hnn,lns⟩:=pr;refine⟨_,rfl,_,rfl,?_⟩;refine xB (by simp) ?_
   refine⟨_,rfl,.inl ⟨rfl,_,SqL.of hl5⟩,_,rfl,_,rfl,zz2,fun tu htu=>?_⟩;have s6:=zc htu (.tup [.int (i:Nat),.ref l]);refine⟨lf,_,_,rfl,rfl,s6 _ _ hl5,(by rw[length_map];exact zT (by omega)),?_⟩
   have nl:H l=none:=by
    rcases okl with h|h
    ·exact(s2.trans (s3.trans s4)).free h
    ·exact(s2.trans s3).free h
   have nlf:l≠lf:=fun e=>by
    rcases okl with h|h
    ·rw[e,(s3.trans s4) _ _ hl2] at h;cases h
    ·rw[e,s3 _ _ hl2] at h;cases h
   have ntu:tu≠lf:=fun e=>by rw[e,hl5] at htu;cases htu
   have gtu:upd H5 tu (.tup [.int (i:Nat),.ref l]) tu=some (.tup [.int (i:Nat),.ref l]):=za;have hl6:=s6 _ _ hl;have sB:=sA.trans s6;have hp6:=Paired.imp' (fun _ _ z=>EAt.same z s6) hp5;generalize upd H5 tu (.tup [.int (i:Nat),.ref l])=H6 at s6 gtu hl6 sB hp6 |-;refine⟨_,_,us++[tu],ms++[(i,ns)],fun k=>if k=i then sti else st k,rfl,fun b u e=>by rw[zh (zi e hlf)];exact sB b u e,by rw[za,map_append];rfl,Paired.snoc (Paired.imp' (fun _ _ z=>EAt.put z) hp6) ⟨ntu,l,by rw[zh ntu];exact gtu,nl,nlf,by rw[zh nlf];exact hl6,hnn,lns⟩,by rw[length_append];show _+1<=_;omega,ho',fun j ns' hj hn=>?_,fun e he=>?_⟩
   ·dsimp only at hn
    by_cases e:j=i
    ·subst e
     rw[if_pos rfl,ep] at hn;cases hn;exact List.mem_append.mpr (.inr (List.mem_singleton.mpr rfl))
    ·rw[if_neg e] at hn
     exact List.mem_append.mpr (.inl (hin j ns' (by omega) hn))
   ·rcases List.mem_append.mp he with he|he
    ·exact old e he
    ·rw[List.mem_singleton.mp he]
     dsimp only;rw[if_pos rfl];exact⟨lt_succ_self _,ep⟩
 ·rintro σ H2 ⟨v3,v4,us,ms,st,rfl,s2,hl2,hp2,lu,ho,hin,hof⟩
  refine⟨_,ze (zC (zem rfl rfl U.min cT hr2 rfl (ac (pv 2) zd))),?_⟩;refine⟨_,rfl,lf,us,fun i=>(((ms.getD i (0,[])).1+(ms.getD i (0,[])).2.length:Nat):Int),rfl,SqL.of hl2,fun i u hu=>?_,fun e0=>?_,fun i u hu hb=>?_⟩
  ·obtain⟨e,he,_,l,h1,_,_,h4,_⟩:=yb hp2 hu
   refine⟨u,l,e.1,e.2,rfl,h1,h4,?_⟩;dsimp only;rw[getD_eq_getElem?_getD,he];exact⟨rfl,rfl⟩
  ·have em:ms=[]:=by
    have:=hp2.length
    rw[e0] at this;exact List.length_eq_zero_iff.mp this.symm
   refine q none _ _ s2 (zeq (M:=M) (by omega) (by omega) st ho fun m hm=>?_) rfl
   cases ep:xC (st m) (sF D bars m) (sF D' bars' m) with
   | none=>rfl
   | some ns=>
    have:=hin m ns hm ep
    rw[em] at this;cases this
  ·obtain⟨e,he,_,l,h1,h2,_,h4,h5,h6⟩:=yb hp2 hu
   have hme:=mem_of_getElem? he;obtain⟨a1,a2⟩:=hof e hme;refine q (some (e.1,e.2)) _ _ s2 (zep fd' eM st ho a1 a2 fun m' hm' ns' hp'=>?_) ⟨u,l,rfl,h2,h1,h4,h5,h6⟩;obtain⟨j,hj⟩:=getElem?_of_mem (hin m' ns' hm' hp');have hjl:j<us.length:=by rw[hp2.length];exact(List.getElem?_eq_some_iff.mp hj).1
   have:=hb j hjl
   dsimp only at this;rw[getD_eq_getElem?_getD,getD_eq_getElem?_getD,he,hj] at this
   have:((e.1+e.2.length:Nat):Int)<=((m'+ns'.length:Nat):Int):=this
   omega
theorem zfp:zu ["one","other"] ["one","other"] (zg zaJ):=⟨rfl,rfl,rfl,by decide +kernel,rfl,by decide +kernel,by decide +kernel⟩
theorem zey{g1:Addr}{e1:FuncData}(F:Fun K "stands_for" "stands_for" zaJ f fd) (cP:zK P w K mg base 5 "parting" g1 e1 ["one","other"] (uP c CF)):zJ P w K mg base CX0 6 f fd ["one","other"] (zbo c CF):=by
 refine F.ok zfp (fun vs H Q E h=>?_) (fun cdv A outer s H vs Q E hr h=>?_)
 ·obtain⟨f,g,D,D',bars,bars',zs,rfl,_⟩:=h
  rfl
 obtain⟨f,g,D,D',bars,bars',zs,rfl,hF,hG,fd,fd',l4,hz,q⟩:=h;refine⟨_,ze (zC (zcG (xQ (cF cP hr (ac (pv 0) (ac (pv 1) zd)))))),?_⟩;refine⟨_,rfl,_,rfl,f,g,D,D',bars,bars',zs,rfl,hF,hG,fd,fd',l4,hz,fun o v H1 s1 po pv=>?_⟩
 have:=q o H1 s1 po
 cases o with
 | none=>
  have pv:v=.non:=pv;subst pv;exact this
 | some e=>
  obtain⟨t,l,rfl,_⟩:=pv;exact this
end
structure FA(H:Hp) (t la lb:Addr) (D:FD) (bars:List Str):Prop where
 ht:H t=some (.tup [.ref la,.ref lb])
 hr:xT H la D.rows
 hb:H lb=some (.lst (bars.map V.str))
theorem FA.same{H H':Hp}{t la lb:Addr}{D:FD}{bars:List Str}(h:FA H t la lb D bars) (s:zm H H'):FA H' t la lb D bars:=⟨s _ _ h.ht,h.hr.same s,s _ _ h.hb⟩
def yM(bars bars' zs:List Str):List Str:=(bars.filter fun z=>decide (z∉bars')&&decide (z∉zs)).take 1
def xA(bars bars' zs:List Str):List Str:=yM bars bars' zs++yM bars' bars zs
theorem wg(bars bars' zs:List Str):(yM bars bars' zs).length<=1:=by unfold yM;rw[length_take];omega
theorem wf{bars bars' zs:List Str}{z:Str}(h:z∈yM bars bars' zs):z∈bars/\z∉bars'/\z∉zs:=by
 obtain⟨a,b⟩:=List.mem_filter.mp (mem_of_mem_take h);rw[Bool.and_eq_true,decide_eq_true_iff,decide_eq_true_iff] at b;exact⟨a,b⟩
theorem zf6{bars bars' zs:List Str}{z:Str}(h1:z∈bars) (h2:z∉bars') (h3:z∉zs):∃z'∈xA bars bars' zs,z'∈bars/\z'∉bars'/\z'∉zs:=by
 have hm:z∈bars.filter fun z=>decide (z∉bars')&&decide (z∉zs):=List.mem_filter.mpr ⟨h1,by rw[decide_eq_true h2,decide_eq_true h3];rfl⟩
 cases e:bars.filter fun z=>decide (z∉bars')&&decide (z∉zs) with
 | nil=>rw[e] at hm;cases hm
 | cons y ys=>
  have hy:y∈yM bars bars' zs:=by unfold yM;rw[e];exact mem_cons_self
  exact⟨y,List.mem_append.mpr (.inl hy),wf hy⟩
theorem zhI{bars bars' zs:List Str}{st:Str}(zn:zs.Nodup) (hst:st∉zs) (hb:st∉bars) (hb':st∉bars'):(zs++[st]++xA bars bars' zs).Nodup:=by
 have one:∀{l:List Str},l.length<=1->l.Nodup:=fun {l} h=>by
  match l,h with
  | [],_=>exact nodup_nil
  | [x],_=>simp
 refine List.nodup_append.mpr ⟨List.nodup_append.mpr ⟨zn,by simp,fun x hx y hy e=>hst (by rw[<- List.mem_singleton.mp hy,<- e];exact hx)⟩,List.nodup_append.mpr ⟨one (wg ..),one (wg ..),fun x hx y hy e=>(wf hx).2.1 (by rw[e];exact(wf hy).1)⟩,fun x hx y hy e=>?_⟩
 subst e;rcases List.mem_append.mp hx with hx|hx
 ·rcases List.mem_append.mp hy with hy|hy
  ·exact(wf hy).2.2 hx
  ·exact(wf hy).2.2 hx
 ·rw[List.mem_singleton.mp hx] at hy
  rcases List.mem_append.mp hy with hy|hy
  ·exact hb (wf hy).1
  ·exact hb' (wf hy).1
def ze9:Sp:=fun vs H Q _=>∃(t la lb t' la' lb' pa:Addr) (D D':FD) (bars bars' zs:List Str),vs=[.ref t,.ref t',.ref pa]/\FA H t la lb D bars/\FA H t' la' lb' D' bars'/\H pa=some (.lst (zs.map V.str))/\bars.length<=60/\bars'.length<=60/\
 ∀(l:Addr) (H':Hp),zm H H'->H' l=some (.lst ((xA bars bars' zs).map V.str))->Q (.ref l) H'
section
variable {P:Program}{w:World}{K:Frag}{mg:Str->Option Value}{base:Heap}{f CF:Addr}{fd:FuncData}{c:C5}{m:MA}
theorem zkR:([Str.ofString "_law_name",Str.ofString "_law_pool_here",Str.ofString "_law_second"]:List Str).Nodup:=by decide +kernel
theorem jN:zu ["_law_this","_law_that","_law_pool_here","_law_found","_law_first","_law_second"] ["_law_this","_law_that","_law_pool_here"] (zg zfz):=⟨rfl,rfl,rfl,by decide +kernel,rfl,by decide +kernel,by decide +kernel⟩
theorem zhO(F:Fun K "_law_barred_once" "_law_barred_once" zfz f fd):zJ P w K mg base CX0 1 f fd ["_law_this","_law_that","_law_pool_here"] ze9:=by
 refine F.ok jN (fun vs H Q E h=>?_) (fun cdv A outer s H vs Q E hr h=>?_)
 ·obtain⟨t,la,lb,t',la',lb',pa,D,D',bars,bars',zs,rfl,_⟩:=h
  rfl
 obtain⟨t,la,lb,t',la',lb',pa,D,D',bars,bars',zs,rfl,fa,fa',hpa,l60,l60',q⟩:=h;refine zA (zy (i:=3) jN.nd rfl (Or.inl rfl) (zW zd)) ?_;refine⟨zz0,fun lf hlf=>?_⟩;have s0:=zc hlf (.lst []);have g0:upd H lf (.lst []) lf=some (.lst (([]:List Str).map V.str)):=za;generalize upd H lf (.lst [])=H0 at s0 g0 |-;dsimp only[zN];refine zA (yW PassesOwn.never rfl (zM (zW (ac (zZ (ac (zB zw (pv 0) zf (fun _ _=>rfl)) (ac (zB zw (pv 1) zf (fun _ _=>rfl)) zd))) (ac (zZ (ac (zB zw (pv 1) zf (fun _ _=>rfl)) (ac (zB zw (pv 0) zf (fun _ _=>rfl)) zd))) zd)))) (xf rfl (zL (zk (i:=4) jN.nd rfl (Or.inl rfl)) (zL (zk (i:=5) jN.nd rfl (Or.inr rfl)) yL))) wp) ?_;have f0:=fa.same s0;have f0':=fa'.same s0;refine⟨_,rfl,t,_,1,.ref lb,rfl,rfl,SqT.of f0.ht,rfl,_,rfl,t',_,1,.ref lb',rfl,rfl,SqT.of f0'.ht,rfl,zz2,fun p1 hp1=>?_⟩;have s1:=zc hp1 (.tup [.ref lb,.ref lb']);refine⟨_,rfl,t',_,1,.ref lb',rfl,rfl,SqT.of (s1 _ _ f0'.ht),rfl,_,rfl,t,_,1,.ref lb,rfl,rfl,SqT.of (s1 _ _ f0.ht),rfl,zz2,fun p2 hp2=>?_⟩;have s2:=zc hp2 (.tup [.ref lb',.ref lb]);refine⟨zz2,fun l3 hl3=>?_⟩;have s3:=zc hl3 (.lst [.ref p1,.ref p2]);have b1:=(s2.trans s3) _ _ (za (a:=p1) (o:=.tup [.ref lb,.ref lb']));have b2:=s3 _ _ (za (a:=p2) (o:=.tup [.ref lb',.ref lb]));have b3:upd (upd (upd H0 p1 (.tup [.ref lb,.ref lb'])) p2 (.tup [.ref lb',.ref lb])) l3 (.lst [.ref p1,.ref p2]) l3=some (.lst [.ref p1,.ref p2]):=za;have s13:=s1.trans (s2.trans s3);generalize upd (upd (upd H0 p1 (.tup [.ref lb,.ref lb'])) p2 (.tup [.ref lb',.ref lb])) l3 (.lst [.ref p1,.ref p2])=H3 at s3 b1 b2 b3 s13 |-;have s03:=s0.trans s13;have f3:=f0.same s13;have f3':=f0'.same s13;have hpa3:=s03 _ _ hpa;refine⟨l3,rfl,⟨_,SqL.of b3⟩,xn (K:=K) (a:=l3) (xs:=[.ref p1,.ref p2]) (fun i σ H'=>∃(v4 v5:Option V) (l:Addr),σ=[some (.ref t),some (.ref t'),some (.ref pa),some (.ref l),v4,v5]/\zm H3 H'/\H' l=some (.lst (([yM bars bars' zs,yM bars' bars zs].take i).flatten.map V.str))) ⟨_,_,lf,rfl,zm.refl _,s13 _ _ g0⟩ (fun i σ H' _ ⟨_,_,_,_,sH,_⟩=>SqL.of (sH _ _ b3)) ?_ ?_⟩
 ·rintro i v σ H4 hv ⟨v4,v5,l,rfl,s4,hl⟩
  obtain⟨pp,ll,ll',bs,bs',rfl,hpp,hll,hll',lbs,hat⟩:∃(pp ll ll':Addr) (bs bs':List Str),v=.ref pp/\H3 pp=some (.tup [.ref ll,.ref ll'])/\H3 ll=some (.lst (bs.map V.str))/\H3 ll'=some (.lst (bs'.map V.str))/\bs.length<=60/\[yM bars bars' zs,yM bars' bars zs][i]?=some (yM bs bs' zs):=by
   have hi2:i=0\/i=1:=by
    have:i<2:=(List.getElem?_eq_some_iff.mp hv).1
    omega
   rcases hi2 with rfl|rfl
   ·exact⟨p1,lb,lb',bars,bars',by simpa using hv.symm,b1,f3.hb,f3'.hb,l60,rfl⟩
   ·exact⟨p2,lb',lb,bars',bars,by simpa using hv.symm,b2,f3'.hb,f3.hb,l60',rfl⟩
  refine⟨pp,_,rfl,SqT.of (s4 _ _ hpp),rfl,_,_,rfl,_,_,rfl,rfl,?_⟩;dsimp only[zN];refine⟨_,ze (zy (i:=3) jN.nd rfl (Or.inl rfl) (zz ym (pv 3) (yf yU (yP ["_law_second","_law_pool_here"] ["_law_name","_law_pool_here","_law_second"] [none,some 2,some 5] rfl ⟨rfl,rfl,rfl,rfl⟩ (zM (pv 4)) (zG 0) rfl rfl rfl
   (fun pins fp s H C=>⟨zk (i:=0) zkR rfl (Or.inl rfl) (.inr rfl),yk (PW.pt (xa (zo (r:=rIn K true) yv (pv 0) (pv 2) (by with_unfolding_all rfl)) (yQ (zo (r:=rIn K true) yv (pv 0) (pv 1) (by with_unfolding_all rfl))))),pv 0⟩)) yJ (yj zf)))),?_⟩
  refine⟨_,rfl,_,rfl,ll,rfl,⟨_,SqL.of (s4 _ _ hll)⟩,fun D8 hD8=>?_⟩;refine wl (K:=K) (xs:=bs.map V.str) bs (fun z=>decide (z∉bs')&&decide (z∉zs)) V.str hD8 (SqL.of (s4 _ _ hll)) (by rw[length_map]) (by rw[length_map];omega) (fun i x z H' N S hx' hz sH n1 s1=>?_) (fun H8 s8 e8=>?_)
  ·obtain⟨z',hz',rfl⟩:=strs_at hx'
   rw[hz] at hz';cases hz';have sA:=s4.trans sH;refine⟨_,rfl,_,rfl,ll',_,rfl,.inl (SqL.of (sA _ _ hll')),rfl,yA,_,rfl,?_⟩;rw[if_pos rfl,y6,<- decide_not];by_cases c1:z∉bs'
   ·refine dT c1 ?_
    refine⟨_,rfl,_,rfl,pa,_,rfl,.inl (SqL.of (sA _ _ hpa3)),rfl,yA,_,rfl,?_⟩;rw[if_pos rfl,y6,<- decide_not];exact⟨fun e=>⟨_,rfl,n1 _ (zm.refl _) (by rw[decide_eq_true c1,e];rfl)⟩,fun e=>s1 _ (zm.refl _) (by rw[e,Bool.and_false])⟩
   ·refine dF c1 ?_
    exact⟨(fun e=>by cases e),fun _=>s1 _ (zm.refl _) (by rw[decide_eq_false c1,Bool.false_and])⟩
  refine⟨_,rfl,D8,_,rfl,SqL.of e8,fun l9 hl9=>?_⟩;rw[show xo ((bs.filter fun z=>decide (z∉bs')&&decide (z∉zs)).map V.str) none (some 1)=(yM bs bs' zs).map V.str from (xG (n:=1)).trans (map_take ..).symm];have s9:=zc hl9 (.lst ((yM bs bs' zs).map V.str));have lo:=wg bs bs' zs;have lfl:(([yM bars bars' zs,yM bars' bars zs].take i).flatten).length<=2:=by
   have a1:=wg bars bars' zs;have a2:=wg bars' bars zs
   have:(([yM bars bars' zs,yM bars' bars zs].take i).flatten).length<=([yM bars bars' zs,yM bars' bars zs].flatten).length:=by
    conv=>rhs;rw[<- take_append_drop i [yM bars bars' zs,yM bars' bars zs],flatten_append,length_append]
    omega
   have e2:([yM bars bars' zs,yM bars' bars zs].flatten).length=(yM bars bars' zs).length+(yM bars' bars zs).length:=by simp
   omega
  refine⟨l,l9,_,_,rfl,rfl,(s8.trans s9) _ _ hl,za,z3 (by rw[length_map,length_map];omega),fun l10 hl10=>?_⟩
  have s10:=zc hl10 (.lst ((([yM bars bars' zs,yM bars' bars zs].take i).flatten.map V.str)++(yM bs bs' zs).map V.str));refine⟨_,_,l10,rfl,s4.trans (s8.trans (s9.trans s10)),?_⟩;have hi2:=(List.getElem?_eq_some_iff.mp hat);rw[za,take_succ_eq_append_getElem hi2.1,hi2.2,flatten_append,map_append];simp
 ·rintro σ H4 ⟨v4,v5,l,rfl,s4,hl⟩
  refine⟨_,ze (zC (pv 3)),_,rfl,q l _ (s03.trans s4) ?_⟩;rw[hl];unfold xA;simp
end
def LP(D:FD) (bars:List Str) (D':FD) (bars':List Str):Option Nat->Prop
 | none=>∀m ns,ns.Nodup->¬xx D bars D' bars' m ns
 | some L=>(∃m ns,ns.Nodup/\xx D bars D' bars' m ns/\L=m+ns.length)/\∀m ns,ns.Nodup->xx D bars D' bars' m ns->L<=m+ns.length
def oV:Option Nat->V
 | none=>.non
 | some L=>.int (L:Nat)
def uh(Pr:Nat->List Str->Prop) (S:List (List Str)) (most i j:Nat):Option Nat->Prop
 | none=>∀i' m ns,S[i']?=some ns->m<most->(i'<i\/(i'=i/\m<j))->¬Pr m ns
 | some L=>(∃m ns,ns∈S/\m<most/\Pr m ns/\L=m+ns.length)/\∀i' m ns,S[i']?=some ns->m<most->(i'<i\/(i'=i/\m<j))->Pr m ns->L<=m+ns.length
section
variable {Pr:Nat->List Str->Prop}{S:List (List Str)}{most i j:Nat}{o:Option Nat}{ns:List Str}
theorem uh.row(h:uh Pr S most i most o):uh Pr S most (i+1) 0 o:=by
 have tr:∀{i' m:Nat},m<most->(i'<i+1\/(i'=i+1/\m<0))->(i'<i\/(i'=i/\m<most)):=fun {i' m} hm h=>by omega
 cases o with
 | none=>exact fun i' m ns h1 h2 h3=>h i' m ns h1 h2 (tr h2 h3)
 | some L=>exact⟨h.1,fun i' m ns h1 h2 h3=>h.2 i' m ns h1 h2 (tr h2 h3)⟩
theorem uh.zero:uh Pr S most 0 0 none:=fun i' m ns _ _ h3=>by omega
theorem uh.stay(h:uh Pr S most i j o) (hs:S[i]?=some ns) (hn:Pr j ns->∃L,o=some L/\L<=j+ns.length):uh Pr S most i (j+1) o:=by
 cases o with
 | none=>
  intro i' m ns' h1 h2 h3 hp;by_cases e:i'=i/\m=j
  ·obtain⟨rfl,rfl⟩:=e
   rw[hs] at h1;cases h1;obtain⟨L,e,_⟩:=hn hp;cases e
  ·exact h i' m ns' h1 h2 (by omega) hp
 | some L=>
  refine⟨h.1,fun i' m ns' h1 h2 h3 hp=>?_⟩;by_cases e:i'=i/\m=j
  ·obtain⟨rfl,rfl⟩:=e
   rw[hs] at h1;cases h1;obtain⟨L',e,hl⟩:=hn hp;cases e;exact hl
  ·exact h.2 i' m ns' h1 h2 (by omega) hp
theorem uh.take(h:uh Pr S most i j o) (hs:S[i]?=some ns) (hj:j<most) (hp:Pr j ns) (hb:∀L,o=some L->j+ns.length<L):uh Pr S most i (j+1) (some (j+ns.length)):=by
 refine⟨⟨j,ns,mem_of_getElem? hs,hj,hp,rfl⟩,fun i' m ns' h1 h2 h3 hp'=>?_⟩;by_cases e:i'=i/\m=j
 ·obtain⟨rfl,rfl⟩:=e
  rw[hs] at h1;cases h1;exact Nat.le_refl _
 ·cases o with
  | none=>exact absurd hp' (h i' m ns' h1 h2 (by omega))
  | some L=>
   have:=h.2 i' m ns' h1 h2 (by omega) hp'
   have:=hb L rfl
   omega
end
theorem zkX{zs:List Str}{D D':FD}{bars bars':List Str}(fd:zY zs D bars) (fd':zY zs D' bars') (zn:zs.Nodup) (hst:strange∉zs) {most:Nat}(h1:D.P.length+2<=most) (h2:D'.P.length+2<=most) {o:Option Nat}(h:uh (xx D bars D' bars') (xV (zs++[strange]++xA bars bars' zs) [[]]) most (xV (zs++[strange]++xA bars bars' zs) [[]]).length 0 o) (nU:(zs++[strange]++xA bars bars' zs).Nodup):LP D bars D' bars' o:=by
 have hst2:strange∉zs++yc:=fun c=>(List.mem_append.mp c).elim hst (by decide +kernel)
 have red:∀m ns,ns.Nodup->xx D bars D' bars' m ns->∃i' m' ns',(xV (zs++[strange]++xA bars bars' zs) [[]])[i']?=some ns'/\m'<most/\i'<(xV (zs++[strange]++xA bars bars' zs) [[]]).length/\xx D bars D' bars' m' ns'/\m'+ns'.length<=m+ns.length:=fun m ns nd hp=>by
  have hp2:=uU h1 h2 hp;obtain⟨ns2,hm,hp3,hl⟩:=zjK fd fd' hst2 (fun z a b c=>zf6 a b c) nd hp2;obtain⟨i',hi⟩:=getElem?_of_mem hm
  have:=hl nU
  exact⟨i',min m (most - 1),ns2,hi,by omega,(List.getElem?_eq_some_iff.mp hi).1,hp3,by omega⟩
 cases o with
 | none=>
  intro m ns nd hp;obtain⟨i',m',ns',a,b,c,d,_⟩:=red m ns nd hp;exact h i' m' ns' a b (.inl c) d
 | some L=>
  obtain⟨⟨m,ns,a,b,c,d⟩,hmin⟩:=h;refine⟨⟨m,ns,(zdA nU a).1,c,d⟩,fun m ns nd hp=>?_⟩;obtain⟨i',m',ns',a,b,c,d,e⟩:=red m ns nd hp
  have:=hmin i' m' ns' a b (.inl c) d
  omega
def zdu:Sp:=fun vs H Q _=>∃(t la lb t' la' lb' pa:Addr) (D D':FD) (bars bars' zs:List Str),vs=[.ref t,.ref t',.ref pa]/\FA H t la lb D bars/\FA H t' la' lb' D' bars'/\H pa=some (.lst (zs.map V.str))/\zY zs D bars/\zY zs D' bars'/\zs.length<=4/\zs.Nodup/\strange∉zs/\
 ∀(o:Option Nat) (H':Hp),zm H H'->LP D bars D' bars' o->Q (oV o) H'
structure zl8(mg:Str->Option Value):Prop where
 range:mg "range"=none
 max:mg "max"=none
 len:mg "len"=none
section
variable {P:Program}{w:World}{K:Frag}{mg:Str->Option Value}{base:Heap}{f CF:Addr}{fd:FuncData}{c:C5}{m:MA}
theorem wo:zu ["_law_this","_law_that","_law_pool_here","_law_sets","_law_name","_law_names","_law_least_here","_law_many"] ["_law_this","_law_that","_law_pool_here"] (zg zct):=⟨rfl,rfl,rfl,by decide +kernel,rfl,by decide +kernel,by decide +kernel⟩
theorem zgi{g1 g2:Addr}{e1 e2:FuncData}(F:Fun K "_law_least" "_law_least" zct f fd) (U:zl8 mg) (cO:zK P w K mg base 1 "_law_barred_once" g1 e1 ["_law_this","_law_that","_law_pool_here"] ze9) (cT:zK P w K mg base 1 "_law_takes" g2 e2 ["_law_row_here","_law_bars_here","_law_many","_law_names"] zat):zJ P w K mg base CX0 2 f fd ["_law_this","_law_that","_law_pool_here"] zdu:=by
 refine F.ok wo (fun vs H Q E h=>?_) (fun cdv A outer s H vs Q E hr h=>?_)
 ·obtain⟨t,la,lb,t',la',lb',pa,D,D',bars,bars',zs,rfl,_⟩:=h
  rfl
 obtain⟨t,la,lb,t',la',lb',pa,D,D',bars,bars',zs,rfl,fa,fa',hpa,fd,fd',l4,zn,hst,q⟩:=h;have l24:=wW fd;have l24':=wW fd';obtain⟨_,l60⟩:=uK fd l4;obtain⟨_,l60'⟩:=uK fd' l4;have hst2:strange∉zs++yc:=fun c=>(List.mem_append.mp c).elim hst (by decide +kernel)
 have nU:(zs++[strange]++xA bars bars' zs).Nodup:=zhI zn hst (fun c=>hst2 (fd.zn _ (List.mem_append.mpr (.inr c)))) (fun c=>hst2 (fd'.zn _ (List.mem_append.mpr (.inr c))));refine zA (zy (i:=3) wo.nd rfl (Or.inl rfl) (zW (ac (zW zd) zd))) ?_;refine⟨zz0,fun l0 hl0=>⟨zz1,fun l1 hl1=>?_⟩⟩;have s0:=zc hl0 (.lst []);have s1:=zc hl1 (.lst [.ref l0]);have g1:upd (upd H l0 (.lst [])) l1 (.lst [.ref l0]) l1=some (.lst ([l0].map V.ref)):=za;have g0:upd (upd H l0 (.lst [])) l1 (.lst [.ref l0]) l0=some (.lst (([]:List Str).map V.str)):=s1 _ _ za;generalize upd (upd H l0 (.lst [])) l1 (.lst [.ref l0])=H1 at s1 g0 g1 |-;have s01:=s0.trans s1;dsimp only[zN];refine zA (yW PassesOwn.never rfl (zM (zz ym (zz ym (pv 2) (zW (ac zD zd))) (cF cO hr (ac (pv 0) (ac (pv 1) (ac (pv 2) zd)))))) (zk (i:=4) wo.nd rfl (Or.inr rfl))
  (ze (zy (i:=3) wo.nd rfl (Or.inl rfl) (zz ym (pv 3) (yP ["_law_name"] ["_law_names","_law_name"] [none,some 4] rfl ⟨rfl,rfl,rfl,rfl⟩ (zM (pv 3)) (zG 0) rfl rfl rfl
   (fun pins fp s H C=>⟨zk (i:=0) zlW rfl (Or.inl rfl) (.inr rfl),yK,zz ym (pv 0) (zW (ac (pv 1) zd))⟩)))))) ?_
 refine⟨_,rfl,zz1,fun l2 hl2=>?_⟩;have s2:=zc hl2 (.lst [.str strange]);refine⟨pa,l2,_,_,rfl,rfl,(s01.trans s2) _ _ hpa,za,z3 (by rw[length_map];show zs.length+1<=1000;omega),fun l3 hl3=>?_⟩
 have s3:=zc hl3 (.lst ((zs++[strange]).map V.str));have g3:upd (upd H1 l2 (.lst [.str strange])) l3 (.lst ((zs++[strange]).map V.str)) l3=some (.lst ((zs++[strange]).map V.str)):=za;rw[show zs.map V.str++[.str (Str.ofString "strange")]=(zs++[strange]).map V.str by rw[map_append];rfl]
 generalize upd (upd H1 l2 (.lst [.str strange])) l3 (.lst ((zs++[strange]).map V.str))=H3 at s3 g3 |-;have s13:=s2.trans s3;have s03:=s01.trans s13;refine⟨_,rfl,_,rfl,_,rfl,t,la,lb,t',la',lb',pa,D,D',bars,bars',zs,rfl,fa.same s03,fa'.same s03,s03 _ _ hpa,l60,l60',fun l4' H4 s4 hl4=>?_⟩;have lo:(xA bars bars' zs).length<=2:=by
  unfold xA;have a1:=wg bars bars' zs;have a2:=wg bars' bars zs;rw[length_append];omega
 refine⟨l3,l4',_,_,rfl,rfl,s4 _ _ g3,hl4,z3 (by rw[length_map,length_map,length_append];show _+1+_<=1000;omega),fun l5 hl5=>?_⟩
 rw[<- map_append];have s5:=zc hl5 (.lst ((zs++[strange]++xA bars bars' zs).map V.str));have g5:upd H4 l5 (.lst ((zs++[strange]++xA bars bars' zs).map V.str)) l5=some (.lst ((zs++[strange]++xA bars bars' zs).map V.str)):=za;generalize upd H4 l5 (.lst ((zs++[strange]++xA bars bars' zs).map V.str))=H5 at s5 g5 |-;have s15:=s13.trans (s4.trans s5);have s05:=s01.trans s15;have g0:=s15 _ _ g0;have g1:=s15 _ _ g1;have lx:(zs++[strange]++xA bars bars' zs).length<=7:=by rw[length_append,length_append];show _+1+_<=7;omega
 have lpo:=fun {most:Nat}(a:D.P.length+2<=most) (b:D'.P.length+2<=most) (o:Option Nat) h=>zkX (most:=most) fd fd' zn hst a b (o:=o) h nU;have nds:∀{a:List Str},a∈xV (zs++[strange]++xA bars bars' zs) [[]]->a.Nodup/\a.length<=7:=fun {a} h=>by
  obtain⟨ys,hy,s',hs',rfl⟩:=jK _ _ a h;refine⟨(zdA nU h).1,?_⟩;rw[List.mem_singleton.mp hy,nil_append]
  have:=hs'.length_le
  omega
 generalize zs++[strange]++xA bars bars' zs=xs at g5 lx lpo nds;refine⟨l5,rfl,⟨_,SqL.of g5⟩,xn (K:=K) (a:=l5) (xs:=xs.map V.str) (fun i σ H'=>∃(l:Addr) (us:List Addr) (S:List (List Str)) (v:Option V),σ=[some (.ref t),some (.ref t'),some (.ref pa),some (.ref l),v,none,none,none]/\zm H5 H'/\H' l=some (.lst (us.map V.ref))/\Paired (NAt H') us S/\S.length<=2 ^ i/\(∀b∈S,b.length<=i)/\xV (xs.drop i) S=xV xs [[]])
  ⟨l1,[l0],[[]],_,rfl,zm.refl _,g1,.cons g0 .nil,Nat.le_refl _,(fun b hb=>by rw[List.mem_singleton.mp hb];exact Nat.le_refl _),rfl⟩ (fun i σ H' _ ⟨_,_,_,_,_,sH,_⟩=>SqL.of (sH _ _ g5)) ?_ ?_⟩
 ·rintro i x σ H' hx ⟨l,us,S,v,rfl,sH,hl,hp,lS,lb,eS⟩
  obtain⟨z,hz,rfl⟩:=strs_at hx;have hi:i<xs.length:=(List.getElem?_eq_some_iff.mp hz).1;have p5 : 2 ^ i<=2 ^ 7:=Nat.pow_le_pow_right (by decide) (by omega)
  have lu:us.length=S.length:=hp.length;have lS':S.length<=128:=Nat.le_trans lS p5;refine⟨_,rfl,_,rfl,l,rfl,⟨_,SqL.of hl⟩,fun D hD=>?_⟩;refine zh7 (K:=K) (bs:=S.map (·++[z])) (SqL.of hl) (by rw[length_map,length_map,lu]) (by rw[length_map];omega) hD (fun j x b H4 Qf Qs hx hb s4 qf=>?_) (fun vs H5 s5 e5 p5=>?_)
  ·obtain⟨u,hu',rfl⟩:=yV hx
   obtain⟨b0,hb0,nb⟩:=yb hp hu';rw[getElem?_map,hb0] at hb;cases hb;have l0:=lb b0 (mem_of_getElem? hb0);refine⟨fun _=>?_,fun e=>Bool.noConfusion e⟩;refine⟨_,rfl,_,rfl,zz1,fun l5 hl5=>?_⟩;have s5:=zc hl5 (.lst [.str z]);refine⟨u,l5,_,_,rfl,rfl,(s4.trans s5) _ _ nb,za,z3 (by rw[length_map];show b0.length+1<=1000;omega),fun l6 hl6=>?_⟩
   rw[show b0.map V.str++[.str z]=(b0++[z]).map V.str by rw[map_append];rfl]
   exact qf _ _ (s5.trans (zc hl6 _)) (s5.free hl6) za
  ·refine⟨l,D,_,_,rfl,rfl,s5 _ _ hl,e5,z3 (by rw[length_map,length_map,p5.length,length_map];omega),fun l7 hl7=>?_⟩
   have s7:=zc hl7 (.lst ((us++vs).map V.ref));rw[<- map_append];refine⟨l7,us++vs,S++S.map (·++[z]),_,rfl,sH.trans (s5.trans s7),za,yl (qU (s5.trans s7) hp) (qU s7 p5),by rw[length_append,length_map,Nat.pow_succ];omega,fun b hb=>?_,?_⟩
   ·rcases List.mem_append.mp hb with hb|hb
    ·exact le_succ_of_le (lb b hb)
    ·obtain⟨b0,hb0,rfl⟩:=List.mem_map.mp hb
     rw[length_append];exact Nat.succ_le_succ (lb b0 hb0)
   ·rw[<- eS,jy hz]
    rfl
 rintro σ H6 ⟨l,us,S,v,rfl,s6,hl,hp,lS,lb6,eS⟩;rw[length_map,drop_length] at eS;have eS:S=xV xs [[]]:=eS;rw[<- eS] at lpo nds;have fa6:=fa.same (s05.trans s6);have fa6':=fa'.same (s05.trans s6);have lS':S.length<=128:=by
  rw[length_map] at lS;exact Nat.le_trans lS (Nat.pow_le_pow_right (n:=2) (by decide) lx)
 have hok:=zag fd;have hok':=zag fd';obtain⟨ur,hur,hpr⟩:=id fa6.hr;obtain⟨ur',hur',hpr'⟩:=id fa6'.hr;have lur:ur.length=D.rows.length:=hpr.length;have lur':ur'.length=D'.rows.length:=hpr'.length;have tk:∀(m:Nat) (ns:List Str),xx D bars D' bars' m ns ↔ (yN D'.rows bars' m ns=true/\yN D.rows bars m ns=false):=fun m ns=>by rw[vA fd,vA fd'];exact Iff.rfl
 refine zA (zy (i:=6) wo.nd rfl (Or.inl rfl) uT) ?_;refine zA (yW PassesOwn.never rfl (zM (pv 3)) (zk (i:=5) wo.nd rfl (Or.inl rfl)) wp) ?_;obtain⟨most,em,m1,m2,m3⟩:∃most:Nat,((if ((D'.rows.length:Nat):Int)>((D.rows.length:Nat):Int) then ((D'.rows.length:Nat):Int) else ((D.rows.length:Nat):Int))+2)=(most:Int)/\D.rows.length+2<=most/\D'.rows.length+2<=most/\most<=26:=by
  split
  ·exact⟨D'.rows.length+2,by omega,by omega,by omega,by omega⟩
  ·exact⟨D.rows.length+2,by omega,by omega,by omega,by omega⟩
 have pl:∀(D:FD),D.P.length<=D.rows.length:=fun D=>by unfold FD.rows;rw[length_append];omega
 refine⟨_,rfl,l,rfl,⟨_,SqL.of hl⟩,xn (K:=K) (a:=l) (xs:=us.map V.ref) (fun i σ H'=>∃(v4 v5 v7:Option V) (o:Option Nat),σ=[some (.ref t),some (.ref t'),some (.ref pa),some (.ref l),v4,v5,some (oV o),v7]/\zm H6 H'/\uh (xx D bars D' bars') S most i 0 o)
  ⟨_,_,_,none,rfl,zm.refl _,uh.zero⟩ (fun i σ H' _ ⟨_,_,_,_,_,sH,_⟩=>SqL.of (sH _ _ hl)) ?_ ?_⟩
 ·rintro i x σ H7 hx ⟨v4,v5,v7,o,rfl,s7,inv⟩
  obtain⟨u,hu',rfl⟩:=yV hx;obtain⟨ns,hns,nb⟩:=yb hp hu';obtain⟨nd,ln⟩:=nds (mem_of_getElem? hns);have nb:H6 u=some (.lst (ns.map V.str)):=nb;dsimp only[zN];refine⟨_,ze (yW PassesOwn.never rfl (vF rfl U.range (ac (zz xR (cB (ja rfl) U.max boot_max (ac (cB zF U.len PySem.boot_len (ac (zB zw (pv 0) zf (fun _ _=>rfl)) zd)) (ac (cB zF U.len PySem.boot_len (ac (zB zw (pv 1) zf (fun _ _=>rfl)) zd)) zd))) zf) zd)) (zk (i:=7) wo.nd rfl (Or.inl rfl)) wp),?_⟩;refine⟨_,rfl,t,_,0,.ref la,rfl,rfl,SqT.of (s7 _ _ fa6.ht),rfl,la,_,rfl,.inl (SqL.of (s7 _ _ hur)),_,rfl,t',_,0,.ref la',rfl,rfl,SqT.of (s7 _ _ fa6'.ht),rfl,la',_,rfl,.inl (SqL.of (s7 _ _ hur')),_,_,rfl,_,_,rfl,rfl,?_⟩;rw[length_map,length_map,lur,lur',em];refine⟨(most:Nat),rfl,by omega,by omega,?_⟩
  rw[show(((most:Nat):Int)).toNat=most by omega]
  refine u7 (n:=most) (fun j σ H'=>∃(v7:Option V) (o:Option Nat),σ=[some (.ref t),some (.ref t'),some (.ref pa),some (.ref l),v4,some (.ref u),some (oV o),v7]/\zm H6 H'/\uh (xx D bars D' bars') S most i j o) ⟨_,o,rfl,s7,inv⟩ ?_ ?_;rotate_left
  ·rintro σ H8 ⟨v7,o,rfl,s8,inv⟩
   exact⟨_,_,_,o,rfl,s8,inv.row⟩
  clear inv s7;rintro j σ H8 hj ⟨v7,o,rfl,s8,inv⟩;rw[Int.zero_add];dsimp only[zN];refine⟨_,ze (zP (PW.pt (xW (xE (xQ (pv 6))) (xD (zo vU (zz xR (pv 7) (cB zF U.len PySem.boot_len (ac (pv 5) zd))) (pv 6) (zI _))))) (ze (zP (PW.pt (xa (yr (cF cT hr (ac (zB zw (pv 1) zf (fun _ _=>rfl)) (ac (zB zw (pv 1) zf (fun _ _=>rfl)) (ac (pv 7) (ac (pv 5) zd)))))) (yQ (xc (yr (cF cT hr (ac (zB zw (pv 0) zf (fun _ _=>rfl)) (ac (zB zw (pv 0) zf (fun _ _=>rfl)) (ac (pv 7) (ac (pv 5) zd)))))))))) (ze (zy (i:=6) wo.nd rfl (Or.inl rfl) (zz xR (pv 7) (cB zF U.len PySem.boot_len (ac (pv 5) zd))))) zE)) zE),?_⟩;cases o with
  | none=>
   refine⟨_,rfl,_,rfl,?_⟩;refine xB (by rfl) ?_
   refine⟨_,rfl,t',_,0,.ref la',rfl,rfl,SqT.of (s8 _ _ fa6'.ht),rfl,_,rfl,t',_,1,.ref lb',rfl,rfl,SqT.of (s8 _ _ fa6'.ht),rfl,_,rfl,_,rfl,la',lb',u,j,D'.rows,bars',ns,rfl,fa6'.hr.same s8,hok',l24',s8 _ _ fa6'.hb,s8 _ _ nb,nd,by omega,fun H9 s9=>?_⟩
   refine⟨_,rfl,?_⟩;have s89:=s8.trans s9;cases k1:yN D'.rows bars' j ns with
   | false=>
    refine yq ?_;exact⟨_,none,rfl,s89,inv.stay hns (fun hp=>by rw[tk,k1] at hp;cases hp.1)⟩
   | true=>
    refine xm ?_;refine⟨_,rfl,t,_,0,.ref la,rfl,rfl,SqT.of (s89 _ _ fa6.ht),rfl,_,rfl,t,_,1,.ref lb,rfl,rfl,SqT.of (s89 _ _ fa6.ht),rfl,_,rfl,_,rfl,la,lb,u,j,D.rows,bars,ns,rfl,fa6.hr.same s89,hok,l24,s89 _ _ fa6.hb,s89 _ _ nb,nd,by omega,fun H10 s10=>?_⟩
    refine⟨_,rfl,?_⟩;have sA:=s89.trans s10;cases k2:yN D.rows bars j ns with
    | true=>
     refine yq ?_;exact⟨_,none,rfl,sA,inv.stay hns (fun hp=>by rw[tk,k2] at hp;cases hp.2)⟩
    | false=>
     refine xm ?_;refine⟨_,rfl,_,rfl,u,_,rfl,.inl (SqL.of (sA _ _ nb)),_,_,rfl,rfl,?_⟩;rw[length_map,show((j:Nat):Int)+((ns.length:Nat):Int)=((j+ns.length:Nat):Int) by omega]
     exact⟨_,some (j+ns.length),rfl,sA,inv.take hns hj ((tk _ _).mpr ⟨k1,k2⟩) (fun L e=>by cases e)⟩
  | some L=>
   refine⟨_,rfl,_,rfl,?_⟩;refine yS (by rfl) ?_
   refine⟨_,rfl,_,rfl,u,_,rfl,.inl (SqL.of (s8 _ _ nb)),_,_,rfl,rfl,_,rfl,_,_,rfl,rfl,_,rfl,?_⟩;rw[length_map];by_cases hlt:j+ns.length<L
   ·refine dT (by show((j:Nat):Int)+((ns.length:Nat):Int)<((L:Nat):Int);omega) ?_
    refine⟨_,rfl,t',_,0,.ref la',rfl,rfl,SqT.of (s8 _ _ fa6'.ht),rfl,_,rfl,t',_,1,.ref lb',rfl,rfl,SqT.of (s8 _ _ fa6'.ht),rfl,_,rfl,_,rfl,la',lb',u,j,D'.rows,bars',ns,rfl,fa6'.hr.same s8,hok',l24',s8 _ _ fa6'.hb,s8 _ _ nb,nd,by omega,fun H9 s9=>?_⟩
    refine⟨_,rfl,?_⟩;have s89:=s8.trans s9;cases k1:yN D'.rows bars' j ns with
    | false=>
     refine yq ?_;exact⟨_,some L,rfl,s89,inv.stay hns (fun hp=>by rw[tk,k1] at hp;cases hp.1)⟩
    | true=>
     refine xm ?_;refine⟨_,rfl,t,_,0,.ref la,rfl,rfl,SqT.of (s89 _ _ fa6.ht),rfl,_,rfl,t,_,1,.ref lb,rfl,rfl,SqT.of (s89 _ _ fa6.ht),rfl,_,rfl,_,rfl,la,lb,u,j,D.rows,bars,ns,rfl,fa6.hr.same s89,hok,l24,s89 _ _ fa6.hb,s89 _ _ nb,nd,by omega,fun H10 s10=>?_⟩
     refine⟨_,rfl,?_⟩;have sA:=s89.trans s10;cases k2:yN D.rows bars j ns with
     | true=>
      refine yq ?_;exact⟨_,some L,rfl,sA,inv.stay hns (fun hp=>by rw[tk,k2] at hp;cases hp.2)⟩
     | false=>
      refine xm ?_;refine⟨_,rfl,_,rfl,u,_,rfl,.inl (SqL.of (sA _ _ nb)),_,_,rfl,rfl,?_⟩;rw[length_map,show((j:Nat):Int)+((ns.length:Nat):Int)=((j+ns.length:Nat):Int) by omega]
      exact⟨_,some (j+ns.length),rfl,sA,inv.take hns hj ((tk _ _).mpr ⟨k1,k2⟩) (fun L' e=>by cases e;exact hlt)⟩
   ·refine dF (by show ¬((j:Nat):Int)+((ns.length:Nat):Int)<((L:Nat):Int);omega) ?_
    exact⟨_,some L,rfl,s8,inv.stay hns (fun _=>⟨L,rfl,by omega⟩)⟩
 rintro σ H7 ⟨v4,v5,v7,o,rfl,s7,inv⟩;refine⟨_,ze (zC (pv 6)),_,rfl,?_⟩;rw[length_map,hp.length] at inv;exact q o H7 (s05.trans (s6.trans s7)) (lpo (by have:=pl D;omega) (by have:=pl D';omega) o inv)
end
section
variable {zs:List Str}{D:FD}{bars:List Str}
theorem qI{rows:List Rw}{bars:List Str}{many:Nat}{z:Str}(V1:jk rows bars) {l:Nat}{r:Rw}(hl:rows[l]?=some r) (hb:yd r.k=true) (he:r.z=z) (hn:l<plN rows/\l<many) (h:yT rows bars many z=none):False:=by
 have nd:(nms rows).Nodup:=(List.nodup_append.mp V1.nd).1;have h1:=qo hb rows 0 l [] hl nd;rw[he] at h1;have hd:yT.lastD' z rows=some l:=by
  unfold yT.lastD';rw[h1];show some _=some _
  congr 1
  omega
 unfold yT at h;rw[hd] at h;split at h
 ·cases h
 ·dsimp only at h
  rw[if_pos hn] at h;cases h
theorem zda(h:zY zs D bars) (V1:jk D.rows bars) {many:Nat}{names:List Str}(hm:uD D.rows bars many names=[]):yN D.rows bars many names=true:=by
 unfold uD at hm;rw[append_eq_nil_iff,append_eq_nil_iff,append_eq_nil_iff,zd3,zbH,zdn,uW] at hm;obtain⟨⟨⟨nd,ov⟩,un⟩,lk⟩:=hm;have lenP:plN D.rows=D.P.length:=wR h;have er:D.rows=D.P++(D.T++(D.G++D.B)):=rfl;have atP:∀{i:Nat}{r:Rw},D.P[i]?=some r->D.rows[i]?=some r:=fun {i r} hi=>by
  rw[er,getElem?_append_left (List.getElem?_eq_some_iff.mp hi).1];exact hi
 unfold yN;rw[Bool.and_eq_true,Bool.and_eq_true,all_eq_true,all_eq_true];refine⟨⟨?_,fun z hz=>?_⟩,fun r hr=>?_⟩
 ·rw[qi h]
  rcases ov with ov|ov
  ·rw[vB h] at ov
   rw[ov];simp
  ·rw[decide_eq_false (by omega)]
   rfl
 ·have u:=un z hz
  unfold jo;rw[Bool.not_eq_true',Bool.or_eq_false_iff,Bool.or_eq_false_iff];have nb:z∉bars:=fun c=>by unfold yT at u;rw[if_pos c] at u;cases u
  refine⟨⟨decide_eq_false nb,decide_eq_false fun c=>?_⟩,?_⟩
  ·unfold uJ at c
   rw[xP h] at c;obtain⟨r,hr,e⟩:=List.mem_map.mp c;obtain⟨hr,k⟩:=List.mem_filter.mp hr;obtain⟨l,hl⟩:=getElem?_of_mem hr;rw[List.getElem?_take] at hl;split at hl
   next hlm=>
    have k1:r.k=1:=by simpa using k
    exact qI V1 (atP hl) (by rw[k1];rfl) e ⟨by rw[lenP];exact(List.getElem?_eq_some_iff.mp hl).1,hlm⟩ u
   ·cases hl
  ·cases hg:uI D.rows 4 with
   | true=>simp
   | false=>
    rw[Bool.not_false,Bool.and_true];refine decide_eq_false fun c=>?_;have hbag:(zO 4 0 D.rows).isSome=false:=by rw[wK h,<- zc5 h];exact hg
    have hk:z∈nms D.rows:=Classical.byContradiction fun hk=>by
     rw[ze1 nb hk,hbag,if_neg Bool.false_ne_true] at u;cases u
    obtain⟨l,r,hl,hbn,he⟩:=zgr hk;have hlt:¬(l<plN D.rows/\l<many):=fun q=>qI V1 hl hbn he q u;refine c ?_;unfold wt;rw[xP h,qJ h];rw[lenP] at hlt;by_cases hp:l<D.P.length
    ·rw[er,getElem?_append_left hp] at hl
     refine List.mem_append.mpr (.inl (List.mem_map.mpr ⟨r,List.mem_filter.mpr ⟨mem_of_getElem? (i:=l - many) ?_,?_⟩,he⟩))
     ·rw[getElem?_drop,show many+(l - many)=l by omega]
      exact hl
     ·rcases (h.p r (mem_of_getElem? hl)).1 with e|e
      ·rw[e] at hbn;cases hbn
      ·rw[e];rfl
    ·rw[er,getElem?_append_right (by omega)] at hl
     have mem:=mem_of_getElem? hl;rcases List.mem_append.mp mem with mm|mm
     ·rw[(h.t r mm).1] at hbn;cases hbn
     ·rcases List.mem_append.mp mm with mm|mm
      ·exact List.mem_append.mpr (.inr (List.mem_map.mpr ⟨r,mm,he⟩))
      ·rw[(h.b r mm).1] at hbn;cases hbn
 ·rw[xP h,qJ h] at hr
  have key:∀i,D.rows[i]?=some r->¬(wm r.k=true/\i<many)->(r.k=0\/r.k=1\/r.k=3)->(!ug names r)=true:=fun i hi hn hk=>by
   have:=lk i r hi
   rw[zdS,jw,Nat.zero_add] at this;unfold ug;have hfr:fr r.k r.b=r.b:=by rcases hk with e|e|e <;> rw[e] <;> rfl
   rw[hfr] at this;cases hb:r.b with
   | true=>rfl
   | false=>
    rw[hb] at this;have n1:(wm r.k&&decide (i<many))=false:=Bool.eq_false_iff.mpr fun c=>hn (by rw[Bool.and_eq_true,decide_eq_true_iff] at c;exact c)
    rw[n1] at this
    have:(yd r.k&&decide (r.z∈names))=true:=by
     cases e:(yd r.k&&decide (r.z∈names)) with
     | true=>rfl
     | false=>rw[e] at this;cases this
    rw[Bool.and_eq_true,decide_eq_true_iff] at this;have k0:(r.k==0)=false:=by
     rcases hk with e|e|e <;> rw[e] at this |-
     ·cases this.1
     ·rfl
     ·rfl
    rw[k0,decide_eq_false (not_not_intro this.2)];rfl
  rcases List.mem_append.mp hr with hr|hr
  ·obtain⟨j,hj⟩:=getElem?_of_mem hr
   rw[getElem?_drop] at hj;exact key (many+j) (atP hj) (fun c=>by omega) (by rcases (h.p r (mem_of_getElem? hj)).1 with e|e;exact .inl e;exact .inr (.inl e))
  ·have k3:=(h.g r hr).1
   have hm:r∈D.rows:=by rw[er];exact mem_append_right _ (mem_append_right _ (mem_append_left _ hr))
   obtain⟨j,hj⟩:=getElem?_of_mem hm;exact key j hj (fun c=>by rw[k3] at c;cases c.1) (.inr (.inr k3))
end
structure zke(mg:Str->Option Value):Prop where
 isi:mg "isinstance"=none
 tuple:mg "tuple"=none
 list:mg "list"=none
 int:mg "int"=none
 bool:mg "bool"=none
 len:mg "len"=none
 all:mg "all"=none
 sorted:mg "sorted"=none
 set:mg "set"=none
 range:mg "range"=none
def ziI(c:C5) (CF:Addr):Sp:=fun vs H Q _=>∃(tp l t la lb t' la' lb':Addr) (m:Nat) (ns:List Str) (D D':FD) (bars bars' zs:List Str),vs=[.ref tp,.ref t,.ref t']/\H tp=some (.tup [.int (m:Nat),.ref l])/\H l=some (.lst (ns.map V.str))/\(∀z∈ns,zR z=true)/\ns.length<=60/\ns.Nodup/\z9 ns=ns/\m<=100/\FA H t la lb D bars/\FA H t' la' lb' D' bars'/\zY zs D bars/\zY zs D' bars'/\zs.length<=4/\(∀z∈zs,zR z=true)/\xx D bars D' bars' m ns/\∀H',zm H H'->Q (.bl true) H'
section
variable {P:Program}{w:World}{K:Frag}{mg:Str->Option Value}{base:Heap}{f CF:Addr}{fd:FuncData}{c:C5}{m:MA}
theorem ziS:([Str.ofString "_law_name"]:List Str).Nodup:=by decide +kernel
theorem zdD:zu ["_law_found","_law_this","_law_that","_law_many","_law_names","_law_call"] ["_law_found","_law_this","_law_that"] (zg zjz):=⟨rfl,rfl,rfl,by decide +kernel,rfl,by decide +kernel,by decide +kernel⟩
theorem zjX{g1 g2 g3 g4:Addr}{e1 e2 e3 e4:FuncData}(F:Fun K "_law_is_parting" "_law_is_parting" zjz f fd) (U:zke mg) (cI:zK P w K mg base 1 "is_name" g1 e1 ["thing"] (zhb K)) (cF':zK P w K mg base 6 "fits" g2 e2 ["form","call"] (zfh K c CF)) (cM:zK P w K mg base 6 "_law_form" g3 e3 ["_law_row_here","_law_bars_here"] (zaw c CF)) (cT:zK P w K mg base 1 "_law_takes" g4 e4 ["_law_row_here","_law_bars_here","_law_many","_law_names"] zat):zJ P w K mg base CX0 7 f fd ["_law_found","_law_this","_law_that"] (ziI c CF):=by
 refine F.ok zdD (fun vs H Q E h=>?_) (fun cdv A outer s H vs Q E hr h=>?_)
 ·obtain⟨tp,l,t,la,lb,t',la',lb',m,ns,D,D',bars,bars',zs,rfl,_⟩:=h
  rfl
 obtain⟨tp,l,t,la,lb,t',la',lb',m,ns,D,D',bars,bars',zs,rfl,htp,hl,nn,lns,nd,so,lm,fa,fa',fd,fd',l4,hz,hp,q⟩:=h;have hr1:yw 1 _:=hr.mono (by decide)
 have hU:=hr.units;have all:∀z∈zs++yc,zR z=true:=fun z h=>(List.mem_append.mp h).elim (hz z) (vp z);obtain⟨_,l60⟩:=uK fd l4;obtain⟨_,l60'⟩:=uK fd' l4;have V1:=fd.valid all l60;have V1':=fd'.valid all l60';have l24:=wW fd;have l24':=wW fd';have t1:yN D'.rows bars' m ns=true:=by rw[vA fd'];exact hp.1
 have t2:yN D.rows bars m ns=false:=by rw[vA fd];exact hp.2
 refine zA (zP (PW.pt (xW (xc (yr (cB xw U.isi boot_isinstance (ac (pv 0) (ac (vH (v:=.ty "tuple") rfl U.tuple PyProof.Rows.boot_tuple rfl) zd))))) (xW (zo j5 (cB zF U.len PySem.boot_len (ac (pv 0) zd)) zf (zI _)) (xD (xc (yr (cB xw U.isi boot_isinstance (ac (zB zw (pv 0) zf (fun _ _=>rfl)) (ac (vH (v:=.ty "list") rfl U.list PyProof.Rows.boot_list rfl) zd))))))))) (ze (zC xX)) zE) ?_;refine⟨_,rfl,_,_,_,_,rfl,.tup htp,qc K,_,rfl,?_⟩;refine yq ?_;refine⟨_,rfl,tp,_,rfl,.inr (SqT.of htp),rfl,_,rfl,?_⟩;refine yS (by rfl) ?_
 refine⟨_,rfl,tp,_,1,.ref l,rfl,rfl,SqT.of htp,rfl,_,_,_,_,rfl,.lst hl,za2 K,_,rfl,?_⟩;refine yq ?_;refine zA (wQ (pv 0) (xf rfl (zL (zk (i:=3) zdD.nd rfl (Or.inl rfl)) (zL (zk (i:=4) zdD.nd rfl (Or.inl rfl)) yL)))) ?_;refine⟨_,rfl,tp,_,rfl,SqT.of htp,rfl,_,_,rfl,_,_,rfl,rfl,?_⟩;dsimp only[zN];refine zA (zP (PW.pt (xW (xc (yr (cB xw U.isi boot_isinstance (ac (pv 3) (ac (vH (v:=.ty "int") rfl U.int PyProof.Rows.boot_int rfl) zd))))) (xW (yr (cB xw U.isi boot_isinstance (ac (pv 3) (ac (vH (v:=.ty "bool") rfl U.bool PyProof.Rows.boot_bool rfl) zd)))) (xD (zo vU (pv 3) zf (zI _)))))) (ze (zC xX)) zE) ?_;refine⟨_,rfl,_,_,_,_,rfl,.int _,zc1 K,_,rfl,?_⟩;refine yq ?_;refine⟨_,rfl,_,_,_,_,rfl,.int _,zbU K,_,rfl,?_⟩;refine yq ?_;refine⟨_,rfl,_,_,rfl,rfl,_,rfl,?_⟩;refine dF (by show ¬((m:Nat):Int)<0;omega) ?_
 refine zA (zP (PW.pt (xW (xc (yr (cB (vN rfl) U.all boot_all (ac (yP [] ["_law_name"] [none] rfl ⟨rfl,rfl,rfl,rfl⟩ (zM (pv 4)) (zG 0) rfl rfl rfl
   (fun pins fp s H C=>⟨zk (i:=0) ziS rfl (Or.inl rfl) (.inr rfl),yK,cF cI hr1 (ac (pv 0) zd)⟩)) zd)))) (xD (zo (zjL hU) (pv 4) (cB (zbb rfl) U.sorted boot_sorted (ac (cTy (zeT rfl) U.set PyProof.Rows.boot_set (ac (pv 4) zd)) zd)) (zI _))))) (ze (zC xX)) zE) ?_
 refine yB (fun σ' H'=>σ'=[some (.ref tp),some (.ref t),some (.ref t'),some (.int (m:Nat)),some (.ref l),none]/\zm H H') ?_ (fun key=>?_);rotate_left
 ·refine⟨_,rfl,l,rfl,⟨_,SqL.of hl⟩,fun D1 hD1=>?_⟩
  refine wl (K:=K) (xs:=ns.map V.str) ns (fun _=>true) (fun _=>.bl true) hD1 (SqL.of hl) (by rw[length_map]) (by rw[length_map];omega) (fun i x y H' N S hx hy sH n1 s1=>?_) (fun H1 s1 e1=>?_)
  ·obtain⟨y',hy',rfl⟩:=strs_at hx
   rw[hy] at hy';cases hy';have ny:=nn y (mem_of_getElem? hy);refine⟨fun _=>?_,fun e=>by cases e⟩
   refine⟨_,rfl,_,rfl,.inl ⟨y,rfl,j8 ny⟩,fun H2 s2=>?_⟩
   have:nmV (.str y)=true:=ny
   rw[this];exact n1 _ s2 rfl
  have e1:H1 D1=some (.lst ((ns.map fun _=>true).map V.bl)):=by rw[e1,List.filter_eq_self.mpr (fun _ _=>rfl),map_map];rfl
  refine⟨D1,_,rfl,SqL.of e1,?_⟩;rw[show((ns.map fun _=>true).all id)=true from by simp]
  refine⟨_,rfl,?_⟩;refine yq ?_;have hl1:=s1 _ _ hl;refine⟨_,rfl,_,rfl,l,ns,rfl,SqL.of hl1,by omega,fun ls k hls=>?_⟩
  have s2:=zc hls (zdB P w ls (fun z=>decide (z∈ns)) k);refine⟨ls,ns,k,rfl,za,by omega,fun l2 ys hl2 ny hy=>?_⟩
  rw[zhc so nd ny hy];have s3:=zc hl2 (.lst (ns.map V.str));have s13:=s1.trans (s2.trans s3);refine⟨l,l2,0,.lst (ns.map Dt.str),fun _=>True,fun _=>True,rfl,rfl,by decide,zS.lst trivial (s13 _ _ hl) (wC _),zS.lst trivial za (wC _),_,rfl,?_⟩
  refine yq ?_;exact key _ _ ⟨rfl,s13⟩
 rintro σ H3 ⟨rfl,s13⟩;have hl3:=s13 _ _ hl;have fa3:=fa.same s13;have fa3':=fa'.same s13;refine zA (zy (i:=5) zdD.nd rfl (Or.inl rfl) (zW (ac (zZ (ac zD (ac (cTy (zdg rfl) U.list PyProof.Rows.boot_list (ac (cTy zgZ U.range PyProof.Rows.boot_range (ac (pv 3) zd)) zd)) zd))) (ac (zZ (ac zD (ac (yP [] ["_law_name"] [none] rfl ⟨rfl,rfl,rfl,rfl⟩ (zM (pv 4)) (zG 0) rfl rfl rfl
   (fun pins fp s H C=>⟨zk (i:=0) ziS rfl (Or.inl rfl) (.inr rfl),yK,zZ (ac (pv 0) (ac zf zd))⟩)) zd))) zd)))) ?_
 refine⟨_,rfl,m,rfl,fun pr1 hpr1=>?_⟩;have sC:=zc hpr1 (.rng 0 (m:Nat));refine⟨pr1,m,rfl,za,by omega,fun lr hlr=>?_⟩
 have sD:=zc hlr (.lst ((yD m).map V.int));have gD:upd (upd H3 pr1 (.rng 0 (m:Nat))) lr (.lst ((yD m).map V.int)) lr=some (.lst ((yD m).map V.int)):=za;have sBD:=sC.trans sD;refine⟨zz2,fun t1' ht1=>?_⟩;have sE:=zc ht1 (.tup [.str (Str.ofString "row"),.ref lr]);have sBE:=sBD.trans sE;have gE:=sE _ _ gD;have gT:upd (upd (upd H3 pr1 (.rng 0 (m:Nat))) lr (.lst ((yD m).map V.int))) t1' (.tup [.str (Str.ofString "row"),.ref lr]) t1'=some (.tup [.str (Str.ofString "row"),.ref lr]):=za;generalize upd (upd (upd H3 pr1 (.rng 0 (m:Nat))) lr (.lst ((yD m).map V.int))) t1' (.tup [.str (Str.ofString "row"),.ref lr])=HE at sE sBE gE gT |-;refine⟨_,rfl,l,rfl,⟨_,SqL.of (sBE _ _ hl3)⟩,fun Dd hDd=>?_⟩;refine zgx (K:=K) (m:=1) (fun i=>wq (ns.getD i "",0)) hDd (SqL.of (sBE _ _ hl3)) (by rw[length_map];omega) (fun i x H' Qf Qs hx sH qf=>?_) (fun ws HF sF' eF pF=>?_)
 ·obtain⟨z,hz,rfl⟩:=strs_at hx
  refine⟨fun _=>?_,fun e=>Bool.noConfusion e⟩;refine⟨_,rfl,zz2,fun p hp=>?_⟩;refine qf _ _ (zc hp _) ?_;show zS K _ _ 1 _ (.tup [.str (ns.getD i ""),.int 0]);rw[getD_eq_getElem?_getD,hz];exact zS.tup (SqT.of za) (.cons .str (.cons .int .nil))
 have epd:(List.range (ns.map V.str).length).map (fun i=>wq (ns.getD i "",0))=(ns.map fun z=>(z,(0:Int))).map wq:=by
  rw[length_map,map_map];refine List.ext_getElem (by simp) fun i h1 h2=>?_
  simp at h1 h2;simp [h1]
 rw[epd] at pF;refine⟨zz2,fun t2' ht2=>?_⟩;have sG:=zc ht2 (.tup [.str (Str.ofString "book"),.ref Dd]);have gG:upd HF t2' (.tup [.str (Str.ofString "book"),.ref Dd]) t2'=some (.tup [.str (Str.ofString "book"),.ref Dd]):=za;have sEG:=sF'.trans sG;have eF:=sG _ _ eF;have gT:=sEG _ _ gT;have gE:=sEG _ _ gE;have pF:=Paired.imp' (fun _ _ z=>z.same sG) pF;have sBG:=sBE.trans sEG;generalize upd HF t2' (.tup [.str (Str.ofString "book"),.ref Dd])=HG at sG gG sEG eF gT gE pF sBG |-;refine⟨zz2,fun lc hlc=>?_⟩;have sH:=zc hlc (.lst [.ref t1',.ref t2']);have gH:upd HG lc (.lst [.ref t1',.ref t2']) lc=some (.lst [.ref t1',.ref t2']):=za;have gG:=sH _ _ gG;have eF:=sH _ _ eF;have gT:=sH _ _ gT;have gE:=sH _ _ gE;have pF:=Paired.imp' (fun _ _ z=>z.same sH) pF;have sBH:=sBG.trans sH;generalize upd HG lc (.lst [.ref t1',.ref t2'])=HH at sH gH gG eF gT gE pF sBH |-;have lint:(yD m).length=m:=by unfold yD;rw[length_map,length_range]
 have c1:xl [.row (yD m),.book (ns.map fun z=>(z,(0:Int)))]=yD m:=by simp [xl,itT]
 have c2:xv [.row (yD m),.book (ns.map fun z=>(z,(0:Int)))]=ns.map fun z=>(z,(0:Int)):=by simp [xv,itP]
 have c3:yX [.row (yD m),.book (ns.map fun z=>(z,(0:Int)))]=ns:=by unfold yX;rw[c2,map_map];show ns.map id=ns;exact List.map_id ns
 have cok:zdl K HH lc [.row (yD m),.book (ns.map fun z=>(z,(0:Int)))]:=by
  refine⟨⟨_,SqL.of gH,.cons (zS.tup (SqT.of gT) (.cons .str (.cons (zS.lst trivial gE ?_) .nil))) (.cons (zS.tup (SqT.of gG) (.cons .str (.cons (zS.lst trivial eF ?_) .nil))) .nil)⟩,by rw[c1,lint];omega,by rw[c2,length_map];omega⟩
  ·exact zaa _
  ·exact Paired.imp' (fun _ _ z=>zht (fun _ _ _=>trivial) z) pF
 have m1:(qa D'.rows bars' [.row (yD m),.book (ns.map fun z=>(z,(0:Int)))]).isEmpty=true:=by
  unfold qa;rw[c1,c3,lint,zcf fd' V1' nd t1];rfl
 have m2:(qa D.rows bars [.row (yD m),.book (ns.map fun z=>(z,(0:Int)))]).isEmpty=false:=by
  unfold qa;rw[c1,c3,lint];cases e:uD D.rows bars m ns with
  | nil=>rw[zda fd V1 e] at t2;cases t2
  | cons a b=>rfl
 generalize [w4.row (yD m),.book (ns.map fun z=>(z,(0:Int)))]=ct at cok m1 m2;have fa4:=fa3.same sBH;have fa4':=fa3'.same sBH;have hl4:=sBH _ _ hl3;have s04:=s13.trans sBH;clear sH gH gG eF gT gE pF sBG sEG sF' sBE sBD sC sD sE sBH c1 c2 c3 lint;dsimp only[zN];refine zA (zP (PW.pt (xW (yr (cF cF' hr (ac (cF cM hr (ac (zB zw (pv 1) zf (fun _ _=>rfl)) (ac (zB zw (pv 1) zf (fun _ _=>rfl)) zd))) (ac (pv 5) zd)))) (xD (xc (yr (cF cF' hr (ac (cF cM hr (ac (zB zw (pv 2) zf (fun _ _=>rfl)) (ac (zB zw (pv 2) zf (fun _ _=>rfl)) zd))) (ac (pv 5) zd)))))))) (ze (zC xX)) zE) ?_;refine⟨_,rfl,t,_,0,.ref la,rfl,rfl,SqT.of fa4.ht,rfl,_,rfl,t,_,1,.ref lb,rfl,rfl,SqT.of fa4.ht,rfl,la,lb,D.rows,bars,rfl,fa4.hr,fa4.hb,V1,fun fo H5 s5 hfo=>?_⟩;obtain⟨⟨cxs,cx1,cx2⟩,ct1,ct2⟩:=cok;refine⟨_,rfl,fo,lc,D.rows,bars,ct,rfl,hfo,⟨⟨cxs,s5.seq cx1,Paired.imp' (fun _ _ z=>z.same s5) cx2⟩,ct1,ct2⟩,fun H6 s6=>?_⟩;rw[m2];refine⟨_,rfl,?_⟩;refine yq ?_;have s46:=s5.trans s6;have fa6':=fa4'.same s46;refine⟨_,rfl,t',_,0,.ref la',rfl,rfl,SqT.of fa6'.ht,rfl,_,rfl,t',_,1,.ref lb',rfl,rfl,SqT.of fa6'.ht,rfl,la',lb',D'.rows,bars',rfl,fa6'.hr,fa6'.hb,V1',fun fo' H7 s7 hfo'=>?_⟩;have s47:=s46.trans s7;refine⟨_,rfl,fo',lc,D'.rows,bars',ct,rfl,hfo',⟨⟨cxs,s47.seq cx1,Paired.imp' (fun _ _ z=>z.same s47) cx2⟩,ct1,ct2⟩,fun H8 s8=>?_⟩;rw[m1];refine⟨_,rfl,?_⟩;refine yq ?_;have s48:=s47.trans s8;have fa8:=fa4.same s48;have fa8':=fa4'.same s48;refine⟨_,ze (zC (zaU (cF cT hr1 (ac (zB zw (pv 2) zf (fun _ _=>rfl)) (ac (zB zw (pv 2) zf (fun _ _=>rfl)) (ac (pv 3) (ac (pv 4) zd))))) (zaT (zcF (cF cT hr1 (ac (zB zw (pv 1) zf (fun _ _=>rfl)) (ac (zB zw (pv 1) zf (fun _ _=>rfl)) (ac (pv 3) (ac (pv 4) zd))))))))),?_⟩;refine⟨_,rfl,t',_,0,.ref la',rfl,rfl,SqT.of fa8'.ht,rfl,_,rfl,t',_,1,.ref lb',rfl,rfl,SqT.of fa8'.ht,rfl,_,rfl,_,rfl,la',lb',l,m,D'.rows,bars',ns,rfl,fa8'.hr,zag fd',l24',fa8'.hb,s48 _ _ hl4,nd,by omega,fun H9 s9=>?_⟩
 rw[t1];refine⟨_,rfl,?_⟩;refine xm ?_;have fa9:=fa8.same s9;refine⟨_,rfl,t,_,0,.ref la,rfl,rfl,SqT.of fa9.ht,rfl,_,rfl,t,_,1,.ref lb,rfl,rfl,SqT.of fa9.ht,rfl,_,rfl,_,rfl,la,lb,l,m,D.rows,bars,ns,rfl,fa9.hr,zag fd,l24,fa9.hb,(s48.trans s9) _ _ hl4,nd,by omega,fun H10 s10=>?_⟩
 rw[t2];exact⟨_,rfl,q _ (s04.trans (s48.trans (s9.trans s10)))⟩
end
theorem zaZ{D D':FD}{bars bars':List Str}{lo:Option Nat}{po:Option (Nat×List Str)}(h:LP D bars D' bars' lo) (h':qv D bars D' bars' po):lo=po.map fun e=>e.1+e.2.length:=by
 cases po with
 | none=>
  cases lo with
  | none=>rfl
  | some L=>
   obtain⟨⟨m,ns,nd,hp,_⟩,_⟩:=h;exact absurd hp (h' m ns nd)
 | some e=>
  obtain⟨m,ns⟩:=e;obtain⟨hp,_,nd,_,hmin⟩:=h';cases lo with
  | none=>exact absurd hp (h m ns nd)
  | some L=>
   obtain⟨⟨m',ns',nd',hp',e⟩,hl⟩:=h;have h1:=hl m ns nd hp;have h2:=hmin m' ns' nd' hp';show some L=some (m+ns.length)
   congr 1
   omega
def zds:Sp:=fun vs H Q _=>∃(t la lb t' la' lb' pa:Addr) (D D':FD) (bars bars' zs:List Str),vs=[.ref t,.ref t',.ref pa]/\FA H t la lb D bars/\FA H t' la' lb' D' bars'/\H pa=some (.lst (zs.map V.str))/\zY zs D bars/\zY zs D' bars'/\zs.length<=4/\zs.Nodup/\strange∉zs/\(∀z∈zs,zR z=true)/\∀H',zm H H'->Q (.bl true) H'
section
variable {P:Program}{w:World}{K:Frag}{mg:Str->Option Value}{base:Heap}{f CF:Addr}{fd:FuncData}{c:C5}{m:MA}
theorem vC:zu ["_law_this","_law_that","_law_pool_here","_law_least_here","_law_forms","_law_told","_law_found","_law_again"] ["_law_this","_law_that","_law_pool_here"] (zg zco):=⟨rfl,rfl,rfl,by decide +kernel,rfl,by decide +kernel,by decide +kernel⟩
theorem zgc{g1 g2 g3 g4 g5:Addr}{e1 e2 e3 e4 e5:FuncData}(F:Fun K "_law_right" "_law_right" zco f fd) (U:zke mg) (cL:zK P w K mg base 2 "_law_least" g1 e1 ["_law_this","_law_that","_law_pool_here"] zdu) (cM:zK P w K mg base 6 "_law_form" g2 e2 ["_law_row_here","_law_bars_here"] (zaw c CF)) (cS:zK P w K mg base 6 "stands_for" g3 e3 ["one","other"] (zbo c CF)) (cP:zK P w K mg base 5 "parting" g4 e4 ["one","other"] (uP c CF)) (cI:zK P w K mg base 7 "_law_is_parting" g5 e5 ["_law_found","_law_this","_law_that"] (ziI c CF)):zJ P w K mg base CX0 8 f fd ["_law_this","_law_that","_law_pool_here"] zds:=by
 refine F.ok vC (fun vs H Q E h=>?_) (fun cdv A outer s H vs Q E hr h=>?_)
 ·obtain⟨t,la,lb,t',la',lb',pa,D,D',bars,bars',zs,rfl,_⟩:=h
  rfl
 obtain⟨t,la,lb,t',la',lb',pa,D,D',bars,bars',zs,rfl,fa,fa',hpa,fd,fd',l4,zn,hst,hz,q⟩:=h;have hr2:yw 2 _:=hr.mono (by decide)
 have hr5:yw 5 _:=hr.mono (by decide)
 have hr6:yw 6 _:=hr.mono (by decide)
 have all:∀z∈zs++yc,zR z=true:=fun z h=>(List.mem_append.mp h).elim (hz z) (vp z);obtain⟨_,l60⟩:=uK fd l4;obtain⟨_,l60'⟩:=uK fd' l4;have V1:=fd.valid all l60;have V1':=fd'.valid all l60';have pl24:D.P.length<=24:=by have:=fd.ln;omega
 have pl24':D'.P.length<=24:=by have:=fd'.ln;omega
 refine zA (zy (i:=3) vC.nd rfl (Or.inl rfl) (cF cL hr2 (ac (pv 0) (ac (pv 1) (ac (pv 2) zd))))) ?_;refine⟨_,rfl,_,rfl,_,rfl,t,la,lb,t',la',lb',pa,D,D',bars,bars',zs,rfl,fa,fa',hpa,fd,fd',l4,zn,hst,fun lo H1 s1 lp=>?_⟩;dsimp only[zN];refine zA (zy (i:=4) vC.nd rfl (Or.inl rfl) (zW (ac (cF cM hr6 (ac (zB zw (pv 0) zf (fun _ _=>rfl)) (ac (zB zw (pv 0) zf (fun _ _=>rfl)) zd))) (ac (cF cM hr6 (ac (zB zw (pv 1) zf (fun _ _=>rfl)) (ac (zB zw (pv 1) zf (fun _ _=>rfl)) zd))) zd)))) ?_;have fa1:=fa.same s1;refine⟨_,rfl,t,_,0,.ref la,rfl,rfl,SqT.of fa1.ht,rfl,_,rfl,t,_,1,.ref lb,rfl,rfl,SqT.of fa1.ht,rfl,la,lb,D.rows,bars,rfl,fa1.hr,fa1.hb,V1,fun fo H2 s2 hfo=>?_⟩;have fa2':=fa'.same (s1.trans s2);refine⟨_,rfl,t',_,0,.ref la',rfl,rfl,SqT.of fa2'.ht,rfl,_,rfl,t',_,1,.ref lb',rfl,rfl,SqT.of fa2'.ht,rfl,la',lb',D'.rows,bars',rfl,fa2'.hr,fa2'.hb,V1',fun fo' H3 s3 hfo'=>?_⟩;refine⟨zz2,fun lf hlf=>?_⟩;have s4:=zc hlf (.lst [.ref fo,.ref fo']);have g4:upd H3 lf (.lst [.ref fo,.ref fo']) lf=some (.lst [.ref fo,.ref fo']):=za;have hfo:=hfo.same (s3.trans s4);have hfo':=hfo'.same s4;have s04:=s1.trans (s2.trans (s3.trans s4));generalize upd H3 lf (.lst [.ref fo,.ref fo'])=H4 at s4 g4 hfo hfo' s04 |-;clear s2 s3 s4 fa1 fa2' hlf;dsimp only[zN];refine zA (zy (i:=5) vC.nd rfl (Or.inl rfl) (cF cS hr6 (ac (zB yR (pv 4) zf (fun _ _=>rfl)) (ac (zB yR (pv 4) zf (fun _ _=>rfl)) zd)))) ?_;refine⟨_,rfl,lf,_,0,.ref fo,rfl,rfl,SqL.of g4,rfl,_,rfl,lf,_,1,.ref fo',rfl,rfl,SqL.of g4,rfl,fo,fo',D,D',bars,bars',zs,rfl,hfo,hfo',fd,fd',l4,hz,fun po H5 s5 pok=>?_⟩;have e0:=zaZ lp pok;dsimp only[zN];refine zA (zy (i:=6) vC.nd rfl (Or.inl rfl) (cF cP hr5 (ac (zB yR (pv 4) zf (fun _ _=>rfl)) (ac (zB yR (pv 4) zf (fun _ _=>rfl)) zd)))) ?_;refine⟨_,rfl,lf,_,0,.ref fo,rfl,rfl,SqL.of (s5 _ _ g4),rfl,_,rfl,lf,_,1,.ref fo',rfl,rfl,SqL.of (s5 _ _ g4),rfl,fo,fo',D,D',bars,bars',zs,rfl,hfo.same s5,hfo'.same s5,fd,fd',l4,hz,fun po2 vf H6 s6 pok2 pvf=>?_⟩;have e2:=zaZ lp pok2;dsimp only[zN];have s46:=s5.trans s6;have s06:=s04.trans s46;have en:po.isNone=lo.isNone:=by rw[e0];cases po <;> rfl
 rw[en];refine zA (zP (PW.pt (xW (xc (yr (cB xw U.isi boot_isinstance (ac (pv 5) (ac (vH (v:=.ty "bool") rfl U.bool PyProof.Rows.boot_bool rfl) zd))))) (xD (zo j5 (pv 5) (zcG (xQ (pv 3))) (zI _))))) (ze (zC xX)) zE) ?_;refine⟨_,rfl,_,_,_,_,rfl,.bl _,uG K,_,rfl,?_⟩;refine yq ?_;refine⟨_,rfl,_,rfl,rfl,_,rfl,?_⟩;refine yS (by cases lo <;> rfl) ?_
 refine zA (zP (xE (xQ (pv 3))) (ze (zC (zcG (xQ (pv 6))))) zE) ?_;cases po2 with
 | none=>
  have e2:lo=none:=e2;subst e2;have pvf:vf=.non:=pvf;subst pvf;refine⟨_,rfl,_,rfl,?_⟩;refine xB (by rfl) ?_
  exact⟨_,rfl,q _ s06⟩
 | some e=>
  obtain⟨m,ns⟩:=e;have e2:lo=some (m+ns.length):=e2;subst e2;obtain⟨tp,l,rfl,nl,htp,hl,nn,lns⟩:=pvf;obtain⟨hparts,hm,nd,so,_⟩:=pok2;refine⟨_,rfl,_,rfl,?_⟩;refine yS (by rfl) ?_
  refine zA (zP (PW.pt (xW (xc (yr (cF cI hr (ac (pv 6) (ac (pv 0) (ac (pv 1) zd)))))) (xD (zo j5 (zz xR (zB zw (pv 6) zf (fun _ _=>rfl)) (cB zF U.len PySem.boot_len (ac (zB zw (pv 6) zf (fun _ _=>rfl)) zd))) (pv 3) (zI _))))) (ze (zC xX)) zE) ?_;have fa6:=fa.same s06;have fa6':=fa'.same s06;refine⟨_,rfl,_,rfl,_,rfl,tp,l,t,la,lb,t',la',lb',m,ns,D,D',bars,bars',zs,rfl,htp,hl,nn,lns,nd,so,by omega,fa6,fa6',fd,fd',l4,hz,hparts,fun H7 s7=>?_⟩
  refine⟨_,rfl,?_⟩;refine yq ?_;have htp7:=s7 _ _ htp;have hl7:=s7 _ _ hl;refine⟨_,rfl,tp,_,0,.int (m:Nat),rfl,rfl,SqT.of htp7,rfl,_,rfl,tp,_,1,.ref l,rfl,rfl,SqT.of htp7,rfl,l,_,rfl,.inl (SqL.of hl7),_,_,rfl,rfl,_,rfl,rfl,_,rfl,?_⟩;rw[length_map];have enn:V.int (((m:Nat):Int)+((ns.length:Nat):Int))=oV (some (m+ns.length)):=by
   show V.int _=V.int _
   congr 1
  rw[enn];refine yS (by rw[decide_eq_true rfl];rfl) ?_
  refine zA (z6 (xL PySem.F.plainAttrs_list PySem.F.slot_list_append PySem.F.type_list_append yu (zB zw (pv 6) zf (fun _ _=>rfl)) (ac zD zd))) ?_;refine⟨_,rfl,tp,_,1,.ref l,rfl,rfl,SqT.of htp7,rfl,.inl ⟨rfl,_,SqL.of hl7⟩,l,_,_,rfl,rfl,hl7,(by rw[length_map];exact zT (by omega)),?_⟩
  have s47:=s46.trans s7;have nl4:H4 l=none:=s5.free nl;have s48:zm H4 (upd H7 l (.lst (ns.map V.str++[.str "a"]))):=fun b u e=>by rw[zh (zi e nl4)];exact s47 b u e
  generalize upd H7 l (.lst (ns.map V.str++[.str "a"]))=H8 at s48 |-;have s08:=s04.trans s48;refine zA (zy (i:=7) vC.nd rfl (Or.inl rfl) (cF cP hr5 (ac (zB yR (pv 4) zf (fun _ _=>rfl)) (ac (zB yR (pv 4) zf (fun _ _=>rfl)) zd)))) ?_;refine⟨_,rfl,lf,_,0,.ref fo,rfl,rfl,SqL.of (s48 _ _ g4),rfl,_,rfl,lf,_,1,.ref fo',rfl,rfl,SqL.of (s48 _ _ g4),rfl,fo,fo',D,D',bars,bars',zs,rfl,hfo.same s48,hfo'.same s48,fd,fd',l4,hz,fun po3 vg H9 s9 pok3 pvg=>?_⟩;have e3:=zaZ lp pok3;have s09:=s08.trans s9;cases po3 with
  | none=>cases e3
  | some e=>
   obtain⟨m3,ns3⟩:=e;have e3:some (m+ns.length)=some (m3+ns3.length):=e3;have e3:=Option.some.inj e3;obtain⟨tp3,l3,rfl,nl3,htp3,hl3,nn3,lns3⟩:=pvg;obtain⟨hparts3,hm3,nd3,so3,_⟩:=pok3;dsimp only[zN];refine⟨_,ze (zC (zaU (cF cI hr (ac (pv 7) (ac (pv 0) (ac (pv 1) zd)))) (zaT (xZ yx (zz xR (zB zw (pv 7) zf (fun _ _=>rfl)) (cB zF U.len PySem.boot_len (ac (zB zw (pv 7) zf (fun _ _=>rfl)) zd))) (pv 3) (zI _))))),?_⟩;refine⟨_,rfl,_,rfl,_,rfl,tp3,l3,t,la,lb,t',la',lb',m3,ns3,D,D',bars,bars',zs,rfl,htp3,hl3,nn3,lns3,nd3,so3,by omega,fa.same s09,fa'.same s09,fd,fd',l4,hz,hparts3,fun H10 s10=>?_⟩
   refine⟨_,rfl,?_⟩;refine xm ?_;have htpA:=s10 _ _ htp3;have hlA:=s10 _ _ hl3;refine⟨_,rfl,tp3,_,0,.int (m3:Nat),rfl,rfl,SqT.of htpA,rfl,_,rfl,tp3,_,1,.ref l3,rfl,rfl,SqT.of htpA,rfl,l3,_,rfl,.inl (SqL.of hlA),_,_,rfl,rfl,_,rfl,rfl,?_⟩;rw[length_map];have enn3:V.int (((m3:Nat):Int)+((ns3.length:Nat):Int))=oV (some (m+ns.length)):=by
    show V.int _=V.int _
    congr 1
    omega
   rw[enn3,decide_eq_true rfl];exact q _ (s09.trans s10)
end
def uC(rows:List Rw) (bars:List Str):List Str:=(yc.filter fun z=>decide (z∉nms rows++bars)).take 50
def zfd:Sp:=fun vs H Q _=>∃(la lb:Addr) (rows:List Rw) (bars:List Str),vs=[.ref la,.ref lb]/\xT H la rows/\(∀r∈rows,r.ok)/\rows.length<=24/\H lb=some (.lst (bars.map V.str))/\bars.length<=60/\∀(l:Addr) (H':Hp),zm H H'->H' l=some (.lst ((uC rows bars).map V.str))->Q (.ref l) H'
section
variable {P:Program}{w:World}{K:Frag}{mg:Str->Option Value}{base:Heap}{f CF:Addr}{fd:FuncData}{c:C5}{m:MA}
theorem zlX:([Str.ofString "_law_name",Str.ofString "_law_known"]:List Str).Nodup:=by decide +kernel
theorem zaF:zu ["_law_row_here","_law_bars_here","_law_letters","_law_known","_law_names"] ["_law_row_here","_law_bars_here"] (zg zfB):=⟨rfl,rfl,rfl,by decide +kernel,rfl,by decide +kernel,by decide +kernel⟩
theorem zhR(F:Fun K "_law_more_bars" "_law_more_bars" zfB f fd):zJ P w K mg base CX0 1 f fd ["_law_row_here","_law_bars_here"] zfd:=by
 refine F.ok zaF (fun vs H Q E h=>?_) (fun cdv A outer s H vs Q E hr h=>?_)
 ·obtain⟨la,lb,rows,bars,rfl,_⟩:=h
  rfl
 obtain⟨la,lb,rows,bars,rfl,⟨us,hla,hu⟩,hok,l24,hlb,l60,q⟩:=h;refine zA (zy (i:=2) zaF.nd rfl (Or.inl rfl) zD) ?_;refine yB (fun σ' H'=>σ'=[some (.ref la),some (.ref lb),some (.str "abcdefghijklmnopqrstuvwxyz"),none,none]/\H'=H) ?_ (fun key=>?_);rotate_left
 ·exact key _ _ ⟨rfl,rfl⟩
 rintro σ0 H0 ⟨rfl,rfl⟩;refine zA (zy (i:=3) zaF.nd rfl (Or.inr rfl) (zz ym (yP [] ["_law_this"] [none] rfl ⟨rfl,rfl,rfl,rfl⟩ (zM (pv 0)) (zG 0) rfl rfl rfl
   (fun pins fp s H C=>⟨zk (i:=0) ziR rfl (Or.inl rfl) (.inr rfl),yk (zo (r:=rIn K false) yn (zB (r:=xk K) zw (pv 0) zf (fun _ _=>rfl)) (zW (ac zD (ac zD zd))) (by with_unfolding_all rfl)),zB (r:=xk K) zw (pv 0) zf (fun _ _=>rfl)⟩)) (pv 1))) ?_
 refine⟨_,rfl,la,rfl,⟨_,SqL.of hla⟩,fun D hD=>?_⟩;refine wx (K:=K) TAt (fun r=>yd r.k) (fun _ r=>.str r.z) hD hla hu (by omega) (fun i u r H' N S hu' hr' tr sH n1 s1=>?_) (fun H1 s1 hD1=>?_)
 ·have rk:=hok r (mem_of_getElem? hr')
  have tu:=sH _ _ tr;refine⟨_,rfl,u,_,0,_,rfl,rfl,SqT.of tu,xg rk,zz2,fun l hl=>?_⟩;have s2:=zc hl (.lst [.str "both",.str "tag"]);refine⟨l,_,rfl,.inl (SqL.of za),rfl,rfl,_,rfl,?_⟩;rw[if_neg Bool.false_ne_true,zc4 rk.1];exact⟨fun e=>⟨_,rfl,u,_,1,_,rfl,rfl,SqT.of (s2 _ _ tu),uu rk,n1 _ s2 e⟩,fun e=>s1 _ s2 e⟩
 rw[zaX hu] at hD1;have nl:=ju rows;refine⟨_,rfl,D,lb,_,_,rfl,rfl,hD1,s1 _ _ hlb,z3 (by rw[length_map,length_map];omega),fun lk hlk=>?_⟩
 rw[<- map_append];have s2:=zc hlk (.lst ((nms rows++bars).map V.str));have g2:upd H1 lk (.lst ((nms rows++bars).map V.str)) lk=some (.lst ((nms rows++bars).map V.str)):=za;have s02:=s1.trans s2;generalize upd H1 lk (.lst ((nms rows++bars).map V.str))=H2 at s2 g2 s02 |-;dsimp only[zN];have sz:(Str.ofString "abcdefghijklmnopqrstuvwxyz").cps.size=26:=by decide +kernel
 refine zA (zy (i:=4) zaF.nd rfl (Or.inl rfl) (zz ym (yP [] ["_law_sign"] [none] rfl ⟨rfl,rfl,rfl,rfl⟩ (zaS (pv 2)) (zG 0) rfl rfl rfl
   (fun pins fp s H C=>⟨zk (i:=0) zgt rfl (Or.inl rfl) (.inr rfl),yK,pv 0⟩)) (yP [] ["_law_sign"] [none] rfl ⟨rfl,rfl,rfl,rfl⟩ (zaS (pv 2)) (zG 0) rfl rfl rfl
   (fun pins fp s H C=>⟨zk (i:=0) zgt rfl (Or.inl rfl) (.inr rfl),yK,zz xr zD (pv 0)⟩)))) ?_
 refine⟨_,rfl,_,rfl,fun D3 hD3=>?_⟩;refine⟨fun i m ys H'=>i<=26/\m=26 - i/\ys=((List.range i).map fun k=>(⟨#[97+k]⟩:Str)).map V.str/\H'=upd H2 D3 (.lst ys),⟨_,zero_le _,rfl,rfl,rfl⟩,?_⟩;rintro i m ys H' ⟨hi,rfl,rfl,rfl⟩;by_cases he:i=26
 rotate_left
 ·refine .inr ⟨by show i<(Str.ofString "abcdefghijklmnopqrstuvwxyz").cps.size;rw[sz];omega,?_⟩
  rintro x H' ⟨rfl,ch,hc,rfl⟩;refine⟨fun _=>?_,fun e=>Bool.noConfusion e⟩;have hc':(Str.ofString "abcdefghijklmnopqrstuvwxyz").cps.toList[i]?=some ch:=by simpa using hc
  rw[qu i (by omega)] at hc'
  cases hc';refine⟨_,rfl,za,?_,26 - (i+1),by omega,by omega,rfl,?_,?_⟩
  ·rw[length_map,length_map,length_range]
   exact zT (by omega)
  ·rw[range_succ,map_append,map_append]
   rfl
  ·rw[vz]
 subst he;refine .inl ⟨by show(Str.ofString "abcdefghijklmnopqrstuvwxyz").cps.size<=26;rw[sz];exact Nat.le_refl _,?_⟩
 have s3:=zc hD3 (.lst (((List.range 26).map fun k=>(⟨#[97+k]⟩:Str)).map V.str));have g3:upd H2 D3 (.lst (((List.range 26).map fun k=>(⟨#[97+k]⟩:Str)).map V.str)) D3=some (.lst (((List.range 26).map fun k=>(⟨#[97+k]⟩:Str)).map V.str)):=za;generalize upd H2 D3 (.lst (((List.range 26).map fun k=>(⟨#[97+k]⟩:Str)).map V.str))=H3 at s3 g3 |-;refine⟨_,rfl,_,rfl,fun D4 hD4=>?_⟩;refine⟨fun i m ys H'=>i<=26/\m=26 - i/\ys=((List.range i).map fun k=>(⟨#[97,97+k]⟩:Str)).map V.str/\H'=upd H3 D4 (.lst ys),⟨_,zero_le _,rfl,rfl,rfl⟩,?_⟩;rintro i m ys H' ⟨hi,rfl,rfl,rfl⟩;by_cases he:i=26
 rotate_left
 ·refine .inr ⟨by show i<(Str.ofString "abcdefghijklmnopqrstuvwxyz").cps.size;rw[sz];omega,?_⟩
  rintro x H' ⟨rfl,ch,hc,rfl⟩;refine⟨fun _=>?_,fun e=>Bool.noConfusion e⟩;have hc':(Str.ofString "abcdefghijklmnopqrstuvwxyz").cps.toList[i]?=some ch:=by simpa using hc
  rw[qu i (by omega)] at hc'
  cases hc';refine⟨_,rfl,_,_,rfl,rfl,(by show 1+1<=sizeLine;decide),za,?_,26 - (i+1),by omega,by omega,rfl,?_,?_⟩
  ·rw[length_map,length_map,length_range]
   exact zT (by omega)
  ·rw[range_succ,map_append,map_append]
   rfl
  ·rw[vz]
 subst he;refine .inl ⟨by show(Str.ofString "abcdefghijklmnopqrstuvwxyz").cps.size<=26;rw[sz];exact Nat.le_refl _,?_⟩
 have s4:=zc hD4 (.lst (((List.range 26).map fun k=>(⟨#[97,97+k]⟩:Str)).map V.str));refine⟨D3,D4,_,_,rfl,rfl,s4 _ _ g3,za,(by rw[length_map,length_map,length_map,length_map,length_range];exact z3 (by decide)),fun l5 hl5=>?_⟩
 rw[<- map_append];have s5:=zc hl5 (.lst (yc.map V.str));have g5:upd (upd H3 D4 (.lst (((List.range 26).map fun k=>(⟨#[97,97+k]⟩:Str)).map V.str))) l5 (.lst (yc.map V.str)) l5=some (.lst (yc.map V.str)):=za;have eex:((List.range 26).map fun k=>(⟨#[97+k]⟩:Str))++((List.range 26).map fun k=>(⟨#[97,97+k]⟩:Str))=yc:=rfl;rw[eex];have s25:=s3.trans (s4.trans s5);generalize upd (upd H3 D4 (.lst (((List.range 26).map fun k=>(⟨#[97,97+k]⟩:Str)).map V.str))) l5 (.lst (yc.map V.str))=H5 at s5 g5 s25 |-;have s05:=s02.trans s25;dsimp only[zN];refine⟨_,ze (zC (yf yU (yP ["_law_known"] ["_law_name","_law_known"] [none,some 3] rfl ⟨rfl,rfl,rfl,rfl⟩ (zM (pv 4)) (zG 0) rfl rfl rfl
   (fun pins fp s H C=>⟨zk (i:=0) zlX rfl (Or.inl rfl) (.inr rfl),yk (zo (r:=rIn K true) yv (pv 0) (pv 1) (by with_unfolding_all rfl)),pv 0⟩)) yJ (yj zf))),?_⟩
 refine⟨_,rfl,l5,rfl,⟨_,SqL.of g5⟩,fun D8 hD8=>?_⟩;refine wl (K:=K) (xs:=yc.map V.str) yc (fun z=>decide (z∉nms rows++bars)) V.str hD8 (SqL.of g5) (by rw[length_map]) (by rw[length_map,show yc.length=52 from rfl];decide) (fun i x z H' N S hx' hz sH n1 s1=>?_) (fun H8 s8 e8=>?_)
 ·obtain⟨z',hz',rfl⟩:=strs_at hx'
  rw[hz] at hz';cases hz';refine⟨_,rfl,_,rfl,lk,_,rfl,.inl (SqL.of ((s25.trans sH) _ _ g2)),rfl,yA,_,rfl,?_⟩;rw[if_pos rfl,y6,<- decide_not];exact⟨fun e=>⟨_,rfl,n1 _ (zm.refl _) e⟩,fun e=>s1 _ (zm.refl _) e⟩
 refine⟨_,rfl,D8,_,rfl,SqL.of e8,fun l9 hl9=>?_⟩;rw[show xo ((yc.filter fun z=>decide (z∉nms rows++bars)).map V.str) none (some 50)=(uC rows bars).map V.str from (xG (n:=50)).trans (map_take ..).symm];exact q l9 _ (s05.trans (s8.trans (zc hl9 _))) za
end
theorem zb1(ns:List Int) (a b:Nat):∃ms:List Int,xo (ns.map V.int) (some (a:Int)) (some (b:Int))=ms.map V.int/\ms.length<=b - a:=by
 refine⟨(ns.drop (min a ns.length)).take (min b ns.length - min a ns.length),?_,?_⟩
 ·unfold xo
  rw[HT.zll,HT.zll,length_map,map_take,map_drop]
 ·rw[length_take,length_drop]
  omega
theorem zgP:yc.Nodup:=by decide +kernel
theorem zgO{zs:List Str}{D:FD}{bars:List Str}(h:zY zs D bars):zY zs D (bars++uC D.rows bars):=by
 have enm:nms D.rows=nms D.P++nms D.G:=by have:=xF h (m:=0) (zero_le _);simpa using this
 have hm:∀z∈uC D.rows bars,z∈yc/\z∉nms D.P++nms D.G++bars:=fun z hz=>by
  obtain⟨a,b⟩:=List.mem_filter.mp (mem_of_mem_take hz);rw[<- enm];exact⟨a,of_decide_eq_true b⟩
 have nm:(uC D.rows bars).Nodup:=((take_sublist 50 _).trans List.filter_sublist).nodup zgP;refine⟨h.p,h.t,h.lt,h.g,h.b,h.lb,?_,fun z hz=>?_,h.dz,h.ln⟩
 ·rw[<- append_assoc]
  exact List.nodup_append.mpr ⟨h.nd,nm,fun x hx y hy e=>(hm y hy).2 (by rw[<- e];exact hx)⟩
 ·rw[<- append_assoc] at hz
  rcases List.mem_append.mp hz with hz|hz
  ·exact h.zn z hz
  ·exact List.mem_append.mpr (.inr (hm z hz).1)
def zav(K:Frag):Sp:=fun vs H Q _=>∃(a:Addr) (ns:List Int),vs=[.ref a]/\SqL K H a (ns.map V.int)/\ns.length<=63/\(∀m∈ns,Builtin.Int.intBits m<=1048576)/\∀H',Q (.bl true) H'
section
variable {P:Program}{w:World}{K:Frag}{mg:Str->Option Value}{base:Heap}{f CF:Addr}{fd:FuncData}{c:C5}
theorem vd:zu ["_law_script","_law_pool_here","_law_row_here","_law_this","_law_turns","_law_that","_law_k"] ["_law_script"] (zg zjx):=⟨rfl,rfl,rfl,by decide +kernel,rfl,by decide +kernel,by decide +kernel⟩
theorem zjW{f1 f2 f3 f4 f5 f6 f7 f8:Addr}{e1 e2 e3 e4 e5 e6 e7 e8:FuncData}(F:Fun K "law" "law" zjx f fd) (hrg:mg "range"=none) (cN:zK P w K mg base 1 "_law_nth" f1 e1 ["_law_script","_law_k"] (zfc K)) (cPo:zK P w K mg base 1 "_law_pool" f2 e2 ["_law_cell"] (ze7 K)) (cR:zK P w K mg base 2 "_law_row" f3 e3 ["_law_cells","_law_pool_here","_law_ends"] (ziD K)) (cB':zK P w K mg base 1 "_law_bars" f4 e4 ["_law_row_here","_law_pool_here","_law_number"] zdw)
  (cSt:zK P w K mg base 1 "_law_stirred" f5 e5 ["_law_cell","_law_k"] zch) (cTu:zK P w K mg base 1 "_law_turned" f6 e6 ["_law_row_here","_law_bars_here","_law_number","_law_pool_here"] zbl) (cMo:zK P w K mg base 1 "_law_more_bars" f7 e7 ["_law_row_here","_law_bars_here"] zfd) (cRi:zK P w K mg base 8 "_law_right" f8 e8 ["_law_this","_law_that","_law_pool_here"] zds):zJ P w K mg base CX0 9 f fd ["_law_script"] (zav K):=by
 refine F.ok vd (fun vs H Q E h=>?_) (fun cdv A outer s H vs Q E hr h=>?_)
 ·obtain⟨a,ns,rfl,_⟩:=h
  rfl
 obtain⟨sa,ns,rfl,hS,h63,hbit,q⟩:=h;have hr1:yw 1 _:=hr.mono (by decide)
 have hr2:yw 2 _:=hr.mono (by decide)
 refine zA (zy (i:=1) vd.nd rfl (Or.inl rfl) (yf yU (cF cPo hr1 (ac (cF cN hr1 (ac (pv 0) (ac zf zd))) zd)) yJ (yj zf))) ?_;refine⟨_,rfl,sa,ns,1,rfl,hS,h63,fun c1 H1 s1=>?_⟩;refine⟨c1,rfl,fun pa0 zs0 H2 s2 np hpa0 zn0 zb0 z00 z26 z40=>?_⟩;refine⟨_,rfl,pa0,_,rfl,SqL.of hpa0,fun pa hpa=>?_⟩;rw[show xo (zs0.map V.str) none (some 4)=(zs0.take 4).map V.str from (xG (n:=4)).trans (map_take ..).symm];have s3:=zc hpa (.lst ((zs0.take 4).map V.str));have g3:upd H2 pa (.lst ((zs0.take 4).map V.str)) pa=some (.lst ((zs0.take 4).map V.str)):=za;have s03:=s1.trans (s2.trans s3);generalize upd H2 pa (.lst ((zs0.take 4).map V.str))=H3 at s3 g3 s03 |-;have zn:(zs0.take 4).Nodup:=zn0.sublist (take_sublist ..);have zb:∀z∈zs0.take 4,zR z=true:=fun z hz=>zb0 z (mem_of_mem_take hz);have zl:(zs0.take 4).length<=4:=by rw[length_take];omega
 have zp : 0<(zs0.take 4).length:=by rw[length_take];omega
 have zst:strange∉zs0.take 4:=fun h=>absurd (z40 _ h) (by decide +kernel)
 generalize zs0.take 4=zs at g3 zn zb zl zp zst;clear z40 z26 z00 zb0 zn0 hpa0 s1 s2 s3;dsimp only[zN];refine zA (zy (i:=2) vd.nd rfl (Or.inl rfl) (cF cR hr2 (ac (yf yU (pv 0) (yj zf) (yj zf)) (ac (pv 1) (ac (cF cN hr1 (ac (pv 0) (ac zf zd))) zd))))) ?_;refine⟨_,rfl,_,rfl,_,rfl,sa,_,rfl,s03.seq hS,fun ca hca=>?_⟩;obtain⟨cs,ec,lc⟩:=zb1 ns 4 12;rw[show xo (ns.map V.int) (some 4) (some 12)=cs.map V.int from ec];have s4:=zc hca (.lst (cs.map V.int));have g4:upd H3 ca (.lst (cs.map V.int)) ca=some (.lst (cs.map V.int)):=za;have s04:=s03.trans s4;have g3:=s4 _ _ g3;generalize upd H3 ca (.lst (cs.map V.int))=H4 at s4 g4 s04 g3 |-;refine⟨_,rfl,_,rfl,sa,ns,0,rfl,s04.seq hS,h63,fun c0 H5 s5=>?_⟩;refine⟨ca,pa,cs,zs,c0,rfl,SqL.of (s5 _ _ g4),by omega,s5 _ _ g3,zp,by omega,zb,fun la us rows H6 s6 nla hla hu VRr nz ⟨S,eS,MS⟩=>?_⟩
 have s06:=s04.trans (s5.trans s6);have g3:=(s5.trans s6) _ _ g3;dsimp only[zN];refine zA (zy (i:=3) vd.nd rfl (Or.inl rfl) (zZ (ac (pv 2) (ac (cF cB' hr1 (ac (pv 2) (ac (pv 1) (ac (cF cN hr1 (ac (pv 0) (ac zf zd))) zd)))) zd)))) ?_;refine⟨_,rfl,_,rfl,_,rfl,_,rfl,sa,ns,2,rfl,s06.seq hS,h63,fun c2 H7 s7=>?_⟩;refine⟨la,pa,c2,us,rows,zs,rfl,s7 _ _ hla,zr s7 hu,VRr,s7 _ _ g3,zn,by omega,fun lb bars H8 s8 nlb hlb bn bz bk bl=>?_⟩
 refine⟨zz2,fun t ht=>?_⟩;have s9:=zc ht (.tup [.ref la,.ref lb]);have g9:upd H8 t (.tup [.ref la,.ref lb]) t=some (.tup [.ref la,.ref lb]):=za;have s69:=s7.trans (s8.trans s9);have s09:=s06.trans s69;have g3:=s69 _ _ g3;have hR:xT (upd H8 t (.tup [.ref la,.ref lb])) la rows:=⟨us,s69 _ _ hla,zr s69 hu⟩;have hlb:=s9 _ _ hlb;obtain⟨D,eD,fD⟩:=ziW (zs:=zs) (bars:=bars) eS MS nz bn (fun z hz=>List.mem_append.mpr (.inl (bz z hz))) bk;rw[eD] at hR;have fa:FA (upd H8 t (.tup [.ref la,.ref lb])) t la lb D bars:=⟨g9,hR,hlb⟩;generalize upd H8 t (.tup [.ref la,.ref lb])=H9 at s9 g9 s69 s09 g3 hR hlb fa |-;clear eD eS MS nz bk VRr hu hla s7 s8 s69 s06 s5 s6 s04 s4 g4 ec lc hca s03 hR hlb g9 s9 ht;dsimp only[zN];refine zA (zy (i:=4) vd.nd rfl (Or.inl rfl) (cF cN hr1 (ac (pv 0) (ac zf zd)))) ?_;refine⟨_,rfl,sa,ns,3,rfl,s09.seq hS,h63,fun c3 H10 s10=>?_⟩;have s010:=s09.trans s10;have g3:=s10 _ _ g3;have fa:=fa.same s10;clear s10 s09;dsimp only[zN];refine zA (zP (zo yx (zz yt (zz yC (pv 4) zf) zf) zf (zI _)) (ze (zy (i:=3) vd.nd rfl (Or.inl rfl) (zZ (ac (pv 2) (ac (zz ym (zB zw (pv 3) zf (fun _ _=>rfl)) (cF cMo hr1 (ac (pv 2) (ac (zB zw (pv 3) zf (fun _ _=>rfl)) zd)))) zd))))) zE) ?_;refine yB (fun σ' H'=>∃(t lb:Addr) (bars:List Str),σ'=[some (.ref sa),some (.ref pa),some (.ref la),some (.ref t),some (.int c3),none,none]/\zm H10 H'/\FA H' t la lb D bars/\zY zs D bars) ?_ (fun key=>?_);rotate_left
 ·refine⟨_,rfl,_,_,rfl,rfl,⟨by decide,by decide⟩,_,_,rfl,rfl,zp16,rfl,_,rfl,?_⟩
  refine za4 (fun _=>?_) (fun _=>?_);rotate_left
  ·exact key _ _ ⟨t,lb,bars,rfl,zm.refl _,fa,fD⟩
  have lenB:bars.length<=60:=(uK fD zl).2;refine⟨_,rfl,_,rfl,t,_,1,.ref lb,rfl,rfl,SqT.of fa.ht,rfl,_,rfl,_,rfl,t,_,1,.ref lb,rfl,rfl,SqT.of fa.ht,rfl,la,lb,D.rows,bars,rfl,fa.hr,zag fD,wW fD,fa.hb,lenB,fun lm H11 s11 hlm=>?_⟩;have fD2:=zgO fD;have lenM:(bars++uC D.rows bars).length<=60:=(uK fD2 zl).2;refine⟨lb,lm,_,_,rfl,rfl,s11 _ _ fa.hb,hlm,z3 (by rw[length_append] at lenM;rw[length_map,length_map];omega),fun lx hlx=>?_⟩
  rw[<- map_append];have s12:=zc hlx (.lst ((bars++uC D.rows bars).map V.str));have g12:upd H11 lx (.lst ((bars++uC D.rows bars).map V.str)) lx=some (.lst ((bars++uC D.rows bars).map V.str)):=za;refine⟨zz2,fun t2 ht2=>?_⟩;have s13:=zc ht2 (.tup [.ref la,.ref lx]);exact key _ _ ⟨t2,lx,_,rfl,s11.trans (s12.trans s13),⟨za,fa.hr.same (s11.trans (s12.trans s13)),s13 _ _ g12⟩,fD2⟩
 clear fa fD bn bz bl;rintro σ H11 ⟨t,lb,bars,rfl,s11,fa,fD⟩;have s011:=s010.trans s11;have g3:=s11 _ _ g3;clear s11 s010;refine zA (zy (i:=5) vd.nd rfl (Or.inl rfl) (pv 3)) ?_;refine⟨_,rfl,?_⟩;dsimp only[zN];refine zA (yW PassesOwn.never rfl (vF rfl hrg (ac (zz xR zf (zz yt (pv 4) zf)) zd)) (zk (i:=6) vd.nd rfl (Or.inl rfl)) wp) ?_;refine⟨_,rfl,_,_,rfl,rfl,zp2,_,_,rfl,rfl,1+c3 % 2,rfl,?_,?_,?_⟩
 ·have:=emod_nonneg c3 (show(2:Int)≠0 by decide);omega
 ·have:=emod_lt_of_pos c3 (show(0:Int)<2 by decide);omega
 generalize (1+c3 % 2).toNat=N;refine u7 (n:=N) (fun i σ H'=>∃(t' la' lb':Addr) (D':FD) (bars':List Str) (v6:Option V),σ=[some (.ref sa),some (.ref pa),some (.ref la),some (.ref t),some (.int c3),some (.ref t'),v6]/\zm H11 H'/\FA H' t' la' lb' D' bars'/\zY zs D' bars') ⟨t,la,lb,D,bars,_,rfl,zm.refl _,fa,fD⟩ ?_ ?_
 ·rintro i σ H12 hi ⟨t',la',lb',D',bars',v6,rfl,s12,fa',fD'⟩
  rw[Int.zero_add];dsimp only[zN];refine⟨_,ze (zy (i:=5) vd.nd rfl (Or.inl rfl) (cF cTu hr1 (ac (zB zw (pv 5) zf (fun _ _=>rfl)) (ac (zB zw (pv 5) zf (fun _ _=>rfl)) (ac (cF cSt hr1 (ac (zz yC (pv 4) zf) (ac (pv 6) zd))) (ac (pv 1) zd)))))),?_⟩;refine⟨_,rfl,t',_,0,_,rfl,rfl,SqT.of fa'.ht,rfl,_,rfl,t',_,1,_,rfl,rfl,SqT.of fa'.ht,rfl,_,rfl,_,_,rfl,rfl,⟨by decide,by decide⟩,_,rfl,_,_,rfl,?_⟩
  refine⟨_,rfl,la',lb',pa,_,D',bars',zs,rfl,fa'.hr,fa'.hb,s12 _ _ g3,zp,zl,zb,fD',fun t2 la2 lb2 D2 bars2 H13 s13 ht2 hR2 hlb2 fD2=>?_⟩;exact⟨t2,la2,lb2,D2,bars2,_,rfl,s12.trans s13,⟨ht2,hR2,hlb2⟩,fD2⟩
 rintro σ H12 ⟨t',la',lb',D',bars',v6,rfl,s12,fa',fD'⟩;have s012:=s011.trans s12;have g3:=s12 _ _ g3;have fa:=fa.same s12;clear s12 s011;refine zA (zP (zo yx (zz yt (zz yC (pv 4) zf) zf) zf (zI _)) (zj (zy (i:=2) vd.nd rfl (Or.inl rfl) (cF cR hr2 (ac (yf yU (pv 0) (yj zf) (yj zf)) (ac (pv 1) (ac (zz yC (pv 4) zf) zd)))))
  (ze (zy (i:=5) vd.nd rfl (Or.inl rfl) (zZ (ac (pv 2) (ac (cF cB' hr1 (ac (pv 2) (ac (pv 1) (ac (zz yC (pv 4) zf) zd)))) zd)))))) zE) ?_
 refine yB (fun σ' H'=>∃(t' la' lb' la0:Addr) (D':FD) (bars':List Str),σ'=[some (.ref sa),some (.ref pa),some (.ref la0),some (.ref t),some (.int c3),some (.ref t'),v6]/\zm H12 H'/\FA H' t' la' lb' D' bars'/\zY zs D' bars') ?_ (fun key=>?_);rotate_left
 ·refine⟨_,rfl,_,_,rfl,rfl,⟨by decide,by decide⟩,_,_,rfl,rfl,(by show(0:Int)<4;decide),rfl,_,rfl,?_⟩
  refine za4 (fun _=>?_) (fun _=>?_);rotate_left
  ·exact key _ _ ⟨t',la',lb',la,D',bars',rfl,zm.refl _,fa',fD'⟩
  refine⟨_,rfl,_,rfl,_,rfl,sa,_,rfl,s012.seq hS,fun ca hca=>?_⟩;obtain⟨cs,ec,lc⟩:=zb1 ns 12 20;rw[show xo (ns.map V.int) (some 12) (some 20)=cs.map V.int from ec];have s13:=zc hca (.lst (cs.map V.int));have g13:upd H12 ca (.lst (cs.map V.int)) ca=some (.lst (cs.map V.int)):=za;generalize upd H12 ca (.lst (cs.map V.int))=H13 at s13 g13 |-;refine⟨_,rfl,_,rfl,_,_,rfl,rfl,⟨by decide,by decide⟩,?_⟩
  refine⟨ca,pa,cs,zs,_,rfl,SqL.of g13,by omega,s13 _ _ g3,zp,by omega,zb,fun la2 us2 rows2 H14 s14 nla2 hla2 hu2 VR2 nz2 ⟨S2,eS2,MS2⟩=>?_⟩
  have s24:=s13.trans s14;refine⟨_,rfl,_,rfl,_,rfl,_,rfl,_,_,rfl,rfl,⟨by decide,by decide⟩,?_⟩
  refine⟨la2,pa,_,us2,rows2,zs,rfl,hla2,hu2,VR2,s24 _ _ g3,zn,by omega,fun lb2 bars2 H15 s15 nlb2 hlb2 bn2 bz2 bk2 bl2=>?_⟩
  refine⟨zz2,fun t2 ht2=>?_⟩;have s16:=zc ht2 (.tup [.ref la2,.ref lb2]);have s56:=s15.trans s16;have hR2:xT (upd H15 t2 (.tup [.ref la2,.ref lb2])) la2 rows2:=⟨us2,s56 _ _ hla2,zr s56 hu2⟩;obtain⟨D2,eD2,fD2⟩:=ziW (zs:=zs) (bars:=bars2) eS2 MS2 nz2 bn2 (fun z hz=>List.mem_append.mpr (.inl (bz2 z hz))) bk2;rw[eD2] at hR2;exact key _ _ ⟨t2,la2,lb2,la2,D2,bars2,rfl,s24.trans s56,⟨za,hR2,s16 _ _ hlb2⟩,fD2⟩
 clear fa' fD';rintro σ H13 ⟨t',la',lb',la0,D',bars',rfl,s13,fa',fD'⟩;have g3:=s13 _ _ g3;have fa:=fa.same s13;refine⟨_,ze (zC (zaU (cF cRi hr (ac (pv 3) (ac (pv 5) (ac (pv 1) zd)))) (zaT (cF cRi hr (ac (pv 5) (ac (pv 3) (ac (pv 1) zd))))))),?_⟩;refine⟨_,rfl,_,rfl,_,rfl,t,la,lb,t',la',lb',pa,D,D',bars,bars',zs,rfl,fa,fa',g3,fD,fD',zl,zn,zst,zb,fun H14 s14=>?_⟩;refine⟨_,rfl,?_⟩;refine xm ?_;exact⟨_,rfl,_,rfl,_,rfl,t',la',lb',t,la,lb,pa,D',D,bars',bars,zs,rfl,fa'.same s14,fa.same s14,s14 _ _ g3,fD',fD,zl,zn,zst,zb,fun H15 s15=>q _⟩
end
end K83
namespace L2
open PySem PySem.Spec PyProof.Rows
section
variable {P:Program}{w:World}{K:Frag}{mg:Str->Option Value}{base h:Heap}{x q p p2 p3 p4 p5:Str}{st:Stmt}{f C T:Addr}{fd:FuncData}{sp:Sp}{k n:Nat}
structure TB(P:Program) (w:World) (K:Frag) (mg:Str->Option Value) (base:Heap):Prop where
 mgo:∀{x:Str}{v:Value},nsIn K mainGlobals x=some (some v)->mg x=some v
structure GD(K:Frag) (x:Str) (st:Stmt) (f:Addr) (fd:FuncData):Prop where
 a:nsIn K mainGlobals x=some (some (.ref f))
 F:Fun K x x st f fd
structure MD(K:Frag) (C:Addr) (x q:Str) (st:Stmt) (f:Addr) (fd:FuncData):Prop where
 m:xp K C x f
 F:Fun K x q st f fd
structure DD(K:Frag) (C:Addr) (x q:Str) (st:Stmt) (f:Addr) (fd:FuncData) (ds:List Value):Prop where
 m:xp K C x f
 F:qE K x q st f fd ds
structure CD(K:Frag) (x:Str) (C:Addr):Prop where
 a:nsIn K mainGlobals x=some (some (.ref C))
 c:Cls K C
 ms:makesIn K C=true
 kc:keepIn K (.ref C)=true
theorem zmj{oc:Value}{od an:Option Addr}{osl:Array (Option Value)}{kV doc pm cdv ct:Value}(a:nsIn K mainGlobals x=some (some (.ref f))) (l:K.lookup f=some ⟨oc,od,.func (fnOf x x (yh st) (ya st) (zg st) .none kV doc pm an cdv ct),osl⟩)
  (c:codeIn K cdv x=true) (k:keepIn K (.ref f)=true):GD K x st f (fnOf x x (yh st) (ya st) (zg st) .none kV doc pm an cdv ct):=⟨a,zgK l c k⟩
theorem zmi{oc:Value}{od an:Option Addr}{osl:Array (Option Value)}{kV doc pm cdv ct:Value}(a:findIn K (.ref C) x=some (some (.ref f))) (i:isFn K (.ref f)=true) (l:K.lookup f=some ⟨oc,od,.func (fnOf x q (yh st) (ya st) (zg st) .none kV doc pm an cdv ct),osl⟩)
  (c:codeIn K cdv q=true) (k:keepIn K (.ref f)=true):MD K C x q st f (fnOf x q (yh st) (ya st) (zg st) .none kV doc pm an cdv ct):=⟨⟨a,i,k⟩,zgK l c k⟩
theorem zmk{oc oT:Value}{od an dT:Option Addr}{osl sT:Array (Option Value)}{kV doc pm cdv ct d:Value}(a:findIn K (.ref C) x=some (some (.ref f))) (i:isFn K (.ref f)=true) (l:K.lookup f=some ⟨oc,od,.func (fnOf x q (yh st) (ya st) (zg st) (.ref T) kV doc pm an cdv ct),osl⟩)
  (c:codeIn K cdv q=true) (k:keepIn K (.ref f)=true) (t:K.lookup T=some ⟨oT,dT,.seq #[d] n,sT⟩):DD K C x q st f (fnOf x q (yh st) (ya st) (zg st) (.ref T) kV doc pm an cdv ct) [d]:=⟨⟨a,i,k⟩,zid (items:=[d]) l c k t rfl⟩
theorem zml(a:nsIn K mainGlobals x=some (some (.ref C))) (pg:plainGet K C Str.empty=true) (hd:hasDictIn K C=true) (po:plainOver K C=true) (sa:findIn K (.ref C) "__setattr__"=some (some (.builtin "object.__setattr__"))) (mk:makesIn K C=true) (kc:keepIn K (.ref C)=true):CD K x C:=⟨a,⟨pg,hd,po,sa⟩,mk,kc⟩
theorem Fun.b1(F:Fun K x q st f fd) (h:∀(kV doc pm:Value) (an:Option Addr) (cdv ct u:Value),bindArgs (fnOf x q (yh st) (ya st) (zg st) .none kV doc pm an cdv ct) ⟨[u],[]⟩=pure [(p,u)]:=by intros;rfl):z7 K fd [p] []:=
 F.binds fun _ _ _ _ _ _ us hl=>match us,hl with|[_],_=>h _ _ _ _ _ _ _
theorem Fun.b2(F:Fun K x q st f fd) (h:∀(kV doc pm:Value) (an:Option Addr) (cdv ct u u2:Value),bindArgs (fnOf x q (yh st) (ya st) (zg st) .none kV doc pm an cdv ct) ⟨[u,u2],[]⟩=pure [(p,u),(p2,u2)]:=by intros;rfl):z7 K fd [p,p2] []:=
 F.binds fun _ _ _ _ _ _ us hl=>match us,hl with|[_,_],_=>h _ _ _ _ _ _ _ _
theorem Fun.b3(F:Fun K x q st f fd) (h:∀(kV doc pm:Value) (an:Option Addr) (cdv ct u u2 u3:Value),bindArgs (fnOf x q (yh st) (ya st) (zg st) .none kV doc pm an cdv ct) ⟨[u,u2,u3],[]⟩=pure [(p,u),(p2,u2),(p3,u3)]:=by intros;rfl):z7 K fd [p,p2,p3] []:=
 F.binds fun _ _ _ _ _ _ us hl=>match us,hl with|[_,_,_],_=>h _ _ _ _ _ _ _ _ _
theorem Fun.b4(F:Fun K x q st f fd) (h:∀(kV doc pm:Value) (an:Option Addr) (cdv ct u u2 u3 u4:Value),bindArgs (fnOf x q (yh st) (ya st) (zg st) .none kV doc pm an cdv ct) ⟨[u,u2,u3,u4],[]⟩=pure [(p,u),(p2,u2),(p3,u3),(p4,u4)]:=by intros;rfl):z7 K fd [p,p2,p3,p4] []:=
 F.binds fun _ _ _ _ _ _ us hl=>match us,hl with|[_,_,_,_],_=>h _ _ _ _ _ _ _ _ _ _
theorem GD.c1(g:GD K x st f fd) (B:TB P w K mg base) (ok:zJ P w K mg base CX0 k f fd [p] sp) (h:∀(kV doc pm:Value) (an:Option Addr) (cdv ct u:Value),bindArgs (fnOf x x (yh st) (ya st) (zg st) .none kV doc pm an cdv ct) ⟨[u],[]⟩=pure [(p,u)]:=by intros;rfl):zK P w K mg base k x f fd [p] sp:=⟨ok,B.mgo g.a,g.F.kp,g.F.b1 h⟩
theorem GD.c2(g:GD K x st f fd) (B:TB P w K mg base) (ok:zJ P w K mg base CX0 k f fd [p,p2] sp) (h:∀(kV doc pm:Value) (an:Option Addr) (cdv ct u u2:Value),bindArgs (fnOf x x (yh st) (ya st) (zg st) .none kV doc pm an cdv ct) ⟨[u,u2],[]⟩=pure [(p,u),(p2,u2)]:=by intros;rfl):zK P w K mg base k x f fd [p,p2] sp:=⟨ok,B.mgo g.a,g.F.kp,g.F.b2 h⟩
theorem GD.c3(g:GD K x st f fd) (B:TB P w K mg base) (ok:zJ P w K mg base CX0 k f fd [p,p2,p3] sp) (h:∀(kV doc pm:Value) (an:Option Addr) (cdv ct u u2 u3:Value),bindArgs (fnOf x x (yh st) (ya st) (zg st) .none kV doc pm an cdv ct) ⟨[u,u2,u3],[]⟩=pure [(p,u),(p2,u2),(p3,u3)]:=by intros;rfl):zK P w K mg base k x f fd [p,p2,p3] sp:=⟨ok,B.mgo g.a,g.F.kp,g.F.b3 h⟩
theorem GD.c4(g:GD K x st f fd) (B:TB P w K mg base) (ok:zJ P w K mg base CX0 k f fd [p,p2,p3,p4] sp) (h:∀(kV doc pm:Value) (an:Option Addr) (cdv ct u u2 u3 u4:Value),bindArgs (fnOf x x (yh st) (ya st) (zg st) .none kV doc pm an cdv ct) ⟨[u,u2,u3,u4],[]⟩=pure [(p,u),(p2,u2),(p3,u3),(p4,u4)]:=by intros;rfl):zK P w K mg base k x f fd [p,p2,p3,p4] sp:=⟨ok,B.mgo g.a,g.F.kp,g.F.b4 h⟩
theorem GD.law(g:GD K x st f fd) (h:∀(kV doc pm:Value) (an:Option Addr) (cdv ct u:Value),bindArgs (fnOf x x (yh st) (ya st) (zg st) .none kV doc pm an cdv ct) ⟨[u],[]⟩=pure [(p,u)]:=by intros;rfl):∀(s:Shared) (v:Value),BindsTo s fd ⟨[v],[]⟩ [(p,v)]:=by
 obtain⟨oc,od,kV,doc,pm,an,cdv,ct,osl,rfl,lk,hcd⟩:=g.F.ex;exact fun s v=>.of_eq (h kV doc pm an cdv ct v)
theorem DD.b0{d:Value}(D:DD K C x q st f fd [d]) (h:∀(T:Addr) (kV doc pm:Value) (an:Option Addr) (cdv ct u u2 u3:Value),∃k:Option (Array Value)->Sem (List (Str×Value)),bindArgs (fnOf x q (yh st) (ya st) (zg st) (.ref T) kV doc pm an cdv ct) ⟨[u,u2,u3],[]⟩=seqItems? (.ref T) >>= k/\k (some [d].toArray)=pure [(p,u),(p2,u2),(p3,u3)]:=by exact fun _ _ _ _ _ _ _ _ _ _=>⟨_,rfl,rfl⟩):z7 K fd [p,p2,p3] []:=
 fun _ us KX hl=>match us,hl with|[_,_,_],_=>D.F.bindsTo (fun _ _ _ _ _ _ _=>h _ _ _ _ _ _ _ _ _ _) KX
end
end L2
def PySem.W.Fast.tw14514159129535871570:Unit:=()
def PySem.W.Fast.tw783044275023232564:Unit:=()
def PySem.W.Fast.tw5419459268521725707:Unit:=()
def PySem.W.Fast.tw12876784666267175043:Unit:=()
def PySem.W.Fast.tw8334336633741205833:Unit:=()
def PySem.W.Fast.tw13370050135565518081:Unit:=()
def PySem.W.Fast.tw12140903598414673391:Unit:=()
def PySem.W.Fast.tw16008453806927448810:Unit:=()
def PySem.W.Fast.tw4957387003909943393:Unit:=()
def PySem.W.Fast.tw4261056193824178553:Unit:=()
def PySem.W.Fast.tw9858392702852458749:Unit:=()
def PySem.W.Fast.tw2705183970254341703:Unit:=()
def PySem.W.Fast.tw728580541874960785:Unit:=()
def PySem.W.Fast.tw12748250874118167632:Unit:=()
def PySem.W.Fast.tw9352223907281869912:Unit:=()
def PySem.W.Fast.tw15475499385997647108:Unit:=()
def PySem.W.Fast.tw4711106235188273232:Unit:=()
def PySem.W.Fast.tw6120521198045290060:Unit:=()
def PySem.W.Fast.tw14008437242011039258:Unit:=()
def PySem.W.Fast.tw8958643029198682151:Unit:=()
def PySem.W.Fast.tw15224363480635606824:Unit:=()
def PySem.W.Fast.tw14259453489050420903:Unit:=()
def PySem.W.Fast.tw17356591277698537630:Unit:=()
def PySem.W.Fast.tw2811547614814836196:Unit:=()
def PySem.W.Fast.tw10453273968219406404:Unit:=()
def PySem.W.Fast.tw18032368628111565897:Unit:=()
def PySem.W.Fast.tw17399578550134673061:Unit:=()
def PySem.W.Fast.tw3244602406020936291:Unit:=()
def PySem.W.Fast.tw7429974263936658370:Unit:=()
def PySem.W.Fast.tw10793902457125726786:Unit:=()
def PySem.W.Fast.tw15301572108845856189:Unit:=()
def PySem.W.Fast.tw15529009601815684870:Unit:=()
def PySem.W.Fast.tw9371507483339295866:Unit:=()
def PySem.W.Fast.tw2293680056720928862:Unit:=()
def PySem.W.Fast.tw11778925793648472113:Unit:=()
def PySem.W.Fast.tw3537142816826965480:Unit:=()
def PySem.W.Fast.tw17055697670100217957:Unit:=()
def PySem.W.Fast.tw16395620735563368476:Unit:=()
def PySem.W.Fast.tw13053845333336367940:Unit:=()
def PySem.W.Fast.tw16082027219208073607:Unit:=()
def PySem.W.Fast.tw6618354884937679551:Unit:=()
def PySem.W.Fast.tw4687130687650175419:Unit:=()
def PySem.W.Fast.tw5675132122342265593:Unit:=()
def PySem.W.Fast.tw16615930203775326020:Unit:=()
def PySem.W.Fast.tw4625749279372069030:Unit:=()
def PySem.W.Fast.tw15017983509995550930:Unit:=()
def PySem.W.Fast.tw7487009619604894874:Unit:=()
def PySem.W.Fast.tw18419945280335031352:Unit:=()
def PySem.W.Fast.tw14747756308643595491:Unit:=()
def PySem.W.Fast.tw18078548130223272387:Unit:=()
def PySem.W.Fast.tw4014808451975875055:Unit:=()
def PySem.W.Fast.tw1350699991049768172:Unit:=()
def PySem.W.Fast.tw5511463999686619280:Unit:=()
def PySem.W.Fast.tw10818236516739256413:Unit:=()
def PySem.W.Fast.tw5042390237453306667:Unit:=()
def PySem.W.Fast.tw9910493328793672964:Unit:=()
def PySem.W.Fast.tw11497657634825238844:Unit:=()
def PySem.W.Fast.tw642453794546716488:Unit:=()
def PySem.W.Fast.tw6080672783417814604:Unit:=()
def PySem.W.Fast.tw6348741892122896025:Unit:=()
def PySem.W.Fast.tw17823617960596671122:Unit:=()
def PySem.W.Fast.tw656591679993868076:Unit:=()
def PySem.W.Fast.tw11420586822494380858:Unit:=()
def PySem.W.Fast.tw12495160044203443676:Unit:=()
def PySem.W.Fast.tw13684979596922450381:Unit:=()
def PySem.W.Fast.tw7714600800455772889:Unit:=()
def PySem.W.Fast.tw14636728310014287206:Unit:=()
namespace K83
open PySem L2 PyProof.Rows
theorem zh9{w:World}{K:Frag}{Gr:Addr}{es:Array DictEntry}{n:Nat}{t0 t1 t2 t3 t4:Tok}(hl:K.lookup Gr=some ⟨.type "dict",none,.dict es n,#[]⟩) (hk:KeysLit w.params es.toList) (h0:nsIn K Gr "seat"=some (some (.int 0 t0))) (h1:nsIn K Gr "both"=some (some (.int 0 t1))) (h2:nsIn K Gr "tail"=some (some (.int 1 t2)))
  (h3:nsIn K Gr "tag"=some (some (.int 2 t3))) (h4:nsIn K Gr "bag"=some (some (.int 3 t4))):zkj w K Gr zib:=by
 refine⟨⟨es,n,hl,hk⟩,fun x v h=>?_⟩;unfold zib at h;by_cases e0:x="seat"
 ·subst e0;rw[lookup_cons_self] at h;cases h;exact⟨_,h0,_,rfl⟩
 rw[lookup_cons,beq_eq_false_iff_ne.mpr e0] at h;by_cases e1:x="both"
 ·subst e1;rw[lookup_cons_self] at h;cases h;exact⟨_,h1,_,rfl⟩
 rw[lookup_cons,beq_eq_false_iff_ne.mpr e1] at h;by_cases e2:x="tail"
 ·subst e2;rw[lookup_cons_self] at h;cases h;exact⟨_,h2,_,rfl⟩
 rw[lookup_cons,beq_eq_false_iff_ne.mpr e2] at h;by_cases e3:x="tag"
 ·subst e3;rw[lookup_cons_self] at h;cases h;exact⟨_,h3,_,rfl⟩
 rw[lookup_cons,beq_eq_false_iff_ne.mpr e3] at h;by_cases e4:x="bag"
 ·subst e4;rw[lookup_cons_self] at h;cases h;exact⟨_,h4,_,rfl⟩
 rw[lookup_cons,beq_eq_false_iff_ne.mpr e4] at h;cases h
theorem zl4{l:PySem.W.OpenLaw}{w:World}{K:Frag}{h:Heap}{mg:Str->Option Value}{fa D C0 C1 C2 C3 C4 FM f1 f2 f3 f4 f5 f6 f7 f8 f9 f10 f11 f12 f13 f14 f15 f16 f17 f18 f19 f20 f21 f22 f23 f24 f25 f26 f27 f28 f29 f30 f31 f32 f33 f34 f35 f36 f37 f38 f39 f40 f41 f42 f43 f44 f45 f46 f47 f48 f49 f50 f51 f52 f53 f54 f55 f56 f57 f58 f59 f60 f61 f62 f63:Addr}{e1 e2 e3 e4 e5 e6 e7 e8 e9 e10 e11 e12 e13 e14 e15 e16 e17 e18 e19 e20 e21 e22 e23 e24 e25 e26 e27 e28 e29 e30 e31 e32 e33 e34 e35 e36 e37 e38 e39 e40 e41 e42 e43 e44 e45 e46 e47 e48 e49 e50 e51 e52 e53 e54 e55 e56 e57 e58 e59 e60 e61 e62 e63:FuncData}{tP tB tO sg Gr:Addr}{tL tN tMP tMB ktP0 ktP1 ktB0 ktB1 ktO0 ktO1 ktO2 ksg0 ksg1 kG0 kG1 kG2 kG3 kG4:Tok}{odtP odtB odtO odsg:Option Addr}{ntP ntB ntO nsg nG:Nat}{sltP sltB sltO slsg:Array (Option Value)}{esG:Array DictEntry}(X:K.In h) (G:h.Ns mainGlobals mg) (hfa:mg "law"=some (.ref fa))
  (cD:CD K "Parameter" D)
  (cC0:CD K "Seat" C0)
  (nC0:findIn K (.ref C0) "word"=some none/\findIn K (.ref C0) "name"=some none/\findIn K (.ref C0) "may_lack"=some none)
  (cC1:CD K "Both" C1)
  (nC1:findIn K (.ref C1) "word"=some none/\findIn K (.ref C1) "name"=some none/\findIn K (.ref C1) "may_lack"=some none)
  (cC2:CD K "Tail" C2)
  (nC2:findIn K (.ref C2) "word"=some none/\findIn K (.ref C2) "name"=some none/\findIn K (.ref C2) "may_lack"=some none)
  (cC3:CD K "Tag" C3)
  (nC3:findIn K (.ref C3) "word"=some none/\findIn K (.ref C3) "name"=some none/\findIn K (.ref C3) "may_lack"=some none)
  (cC4:CD K "Bag" C4)
  (nC4:findIn K (.ref C4) "word"=some none/\findIn K (.ref C4) "name"=some none/\findIn K (.ref C4) "may_lack"=some none)
  (cFM:CD K "Form" FM)
  (nFM:findIn K (.ref FM) "row"=some none/\findIn K (.ref FM) "bar_names"=some none/\findIn K (.ref FM) "place_count"=some none/\findIn K (.ref FM) "tail_number"=some none/\findIn K (.ref FM) "bag_number"=some none/\findIn K (.ref FM) "doors"=some none)
  (g1:GD K "is_name" sIs f1 e1)
  (g2:MD K D "__init__" "Parameter.__init__" zcr f2 e2)
  (g3:MD K D "free" "Parameter.free" zfF f3 e3)
  (g4:MD K D "by_place" "Parameter.by_place" jT f4 e4)
  (g5:MD K D "by_name" "Parameter.by_name" zaQ f5 e5)
  (g6:MD K D "takes_one" "Parameter.takes_one" zjq f6 e6)
  (g7:MD K D "told" "Parameter.told" zkF f7 e7)
  (g8:DD K C0 "__init__" "Seat.__init__" zfw f8 e8 [Value.bool false])
  (g9:DD K C1 "__init__" "Both.__init__" zfK f9 e9 [Value.bool false])
  (g10:MD K C2 "__init__" "Tail.__init__" zfu f10 e10)
  (g11:DD K C3 "__init__" "Tag.__init__" zjr f11 e11 [Value.bool false])
  (g12:MD K C4 "__init__" "Bag.__init__" zjB f12 e12)
  (g13:DD K FM "__init__" "Form.__init__" zcw f13 e13 [Value.none])
  (g14:MD K FM "keep" "Form.keep" zfE f14 e14)
  (g15:MD K FM "parameters" "Form.parameters" zcv f15 e15)
  (g16:MD K FM "bars" "Form.bars" zcx f16 e16)
  (g17:MD K FM "places" "Form.places" jS f17 e17)
  (g18:MD K FM "tail" "Form.tail" zcu f18 e18)
  (g19:MD K FM "bag" "Form.bag" zfJ f19 e19)
  (g20:MD K FM "number_of" "Form.number_of" zfI f20 e20)
  (g21:MD K FM "told" "Form.told" zjA f21 e21)
  (g22:GD K "parameter_of" zjt f22 e22)
  (g23:GD K "refuse_too_many" zcp f23 e23)
  (g24:GD K "refuse_bad_order" zaL f24 e24)
  (g25:GD K "refuse_bars_without_name" zcq f25 e25)
  (g26:GD K "refuse_twice" zaK f26 e26)
  (g27:GD K "number_of_word" zfA f27 e27)
  (g28:GD K "row_of" zcm f28 e28)
  (g29:GD K "door_names" zcy f29 e29)
  (g30:GD K "stands_for" zaJ f30 e30)
  (g31:GD K "parting" jQ f31 e31)
  (g32:GD K "things_in" zaI f32 e32)
  (g33:GD K "row_at" zcn f33 e33)
  (g34:GD K "parting_names" zaN f34 e34)
  (g35:GD K "takes" zaM f35 e35)
  (g36:GD K "may_have" zjv f36 e36)
  (g37:GD K "names_to_try" zjp f37 e37)
  (g38:GD K "strange_name" jP f38 e38)
  (g39:GD K "numbered_name" uR f39 e39)
  (g40:GD K "laid" zfC f40 e40)
  (g41:GD K "misfits" jR f41 e41)
  (g42:GD K "fits" zfH f42 e42)
  (g43:GD K "shape" zcl f43 e43)
  (g44:GD K "first_numbers" zaP f44 e44)
  (g45:GD K "misfits_of" zjw f45 e45)
  (g46:GD K "overs" zcs f46 e46)
  (g47:GD K "unwelcomes" zjo f47 e47)
  (g48:GD K "lackings" zfD f48 e48)
  (g49:GD K "one_entry" zfy f49 e49)
  (g50:GD K "_law_nth" zju f50 e50)
  (g51:GD K "_law_stirred" zfv f51 e51)
  (g52:GD K "_law_pool" zfx f52 e52)
  (g53:GD K "_law_row" zjs f53 e53)
  (g54:GD K "_law_bars" zfL f54 e54)
  (g55:GD K "_law_form" zfG f55 e55)
  (g56:GD K "_law_takes" zaO f56 e56)
  (g57:GD K "_law_turned" zaH f57 e57)
  (g58:GD K "_law_barred_once" zfz f58 e58)
  (g59:GD K "_law_least" zct f59 e59)
  (g60:GD K "_law_is_parting" zjz f60 e60)
  (g61:GD K "_law_right" zco f61 e61)
  (g62:GD K "_law_more_bars" zfB f62 e62)
  (g63:GD K "law" zjx f63 e63)
  (zisinstance:nsIn K mainGlobals "isinstance"=some none)
  (zstr:nsIn K mainGlobals "str"=some none)
  (zbool:nsIn K mainGlobals "bool"=some none)
  (zlen:nsIn K mainGlobals "len"=some none)
  (zall:nsIn K mainGlobals "all"=some none)
  (zrange:nsIn K mainGlobals "range"=some none)
  (zlist:nsIn K mainGlobals "list"=some none)
  (zenumerate:nsIn K mainGlobals "enumerate"=some none)
  (zset:nsIn K mainGlobals "set"=some none)
  (zany:nsIn K mainGlobals "any"=some none)
  (zsorted:nsIn K mainGlobals "sorted"=some none)
  (zmin:nsIn K mainGlobals "min"=some none)
  (zmax:nsIn K mainGlobals "max"=some none)
  (ztuple:nsIn K mainGlobals "tuple"=some none)
  (zint:nsIn K mainGlobals "int"=some none)
  (zdivmod:nsIn K mainGlobals "divmod"=some none)
  (zreversed:nsIn K mainGlobals "reversed"=some none)
  (gL:nsIn K mainGlobals "LETTERS"=some (some (.str letters tL)))
  (gN:nsIn K mainGlobals "LONGEST"=some (some (.int 8 tN)))
  (gMP:nsIn K mainGlobals "MOST_PARAMETERS"=some (some (.int 24 tMP)))
  (gMB:nsIn K mainGlobals "MOST_BARS"=some (some (.int 60 tMB)))
  (ytP:nsIn K mainGlobals "BY_PLACE"=some (some (.ref tP)))
  (utP:K.lookup tP=some ⟨.type "tuple",odtP,.seq #[.str "seat" ktP0,.str "both" ktP1] ntP,sltP⟩)
  (ytB:nsIn K mainGlobals "BY_NAME"=some (some (.ref tB)))
  (utB:K.lookup tB=some ⟨.type "tuple",odtB,.seq #[.str "both" ktB0,.str "tag" ktB1] ntB,sltB⟩)
  (ytO:nsIn K mainGlobals "OF_ONE_THING"=some (some (.ref tO)))
  (utO:K.lookup tO=some ⟨.type "tuple",odtO,.seq #[.str "seat" ktO0,.str "both" ktO1,.str "tag" ktO2] ntO,sltO⟩)
  (ysg:nsIn K mainGlobals "SINGLE_GROUPS"=some (some (.ref sg)))
  (usg:K.lookup sg=some ⟨.type "tuple",odsg,.seq #[.int 1 ksg0,.int 3 ksg1] nsg,slsg⟩)
  (yGr:nsIn K mainGlobals "GROUPS"=some (some (.ref Gr)))
  (lGr:K.lookup Gr=some ⟨.type "dict",none,.dict esG nG,#[]⟩)
  (kGr:KeysLit w.params esG.toList)
  (eG0:nsIn K Gr "seat"=some (some (.int 0 kG0)))
  (eG1:nsIn K Gr "both"=some (some (.int 0 kG1)))
  (eG2:nsIn K Gr "tail"=some (some (.int 1 kG2)))
  (eG3:nsIn K Gr "tag"=some (some (.int 2 kG3)))
  (eG4:nsIn K Gr "bag"=some (some (.int 3 kG4)))
  (dga:qw K D "__init__" f2)
  (h0:findIn K (.ref C0) "free"=some (some (.ref f3))/\findIn K (.ref C0) "by_place"=some (some (.ref f4))/\findIn K (.ref C0) "by_name"=some (some (.ref f5))/\findIn K (.ref C0) "takes_one"=some (some (.ref f6))/\findIn K (.ref C0) "told"=some (some (.ref f7)))
  (h1:findIn K (.ref C1) "free"=some (some (.ref f3))/\findIn K (.ref C1) "by_place"=some (some (.ref f4))/\findIn K (.ref C1) "by_name"=some (some (.ref f5))/\findIn K (.ref C1) "takes_one"=some (some (.ref f6))/\findIn K (.ref C1) "told"=some (some (.ref f7)))
  (h2:findIn K (.ref C2) "free"=some (some (.ref f3))/\findIn K (.ref C2) "by_place"=some (some (.ref f4))/\findIn K (.ref C2) "by_name"=some (some (.ref f5))/\findIn K (.ref C2) "takes_one"=some (some (.ref f6))/\findIn K (.ref C2) "told"=some (some (.ref f7)))
  (h3:findIn K (.ref C3) "free"=some (some (.ref f3))/\findIn K (.ref C3) "by_place"=some (some (.ref f4))/\findIn K (.ref C3) "by_name"=some (some (.ref f5))/\findIn K (.ref C3) "takes_one"=some (some (.ref f6))/\findIn K (.ref C3) "told"=some (some (.ref f7)))
  (h4:findIn K (.ref C4) "free"=some (some (.ref f3))/\findIn K (.ref C4) "by_place"=some (some (.ref f4))/\findIn K (.ref C4) "by_name"=some (some (.ref f5))/\findIn K (.ref C4) "takes_one"=some (some (.ref f6))/\findIn K (.ref C4) "told"=some (some (.ref f7)))
  : ∃fd:FuncData,(∀(s:Shared) (v:Value),BindsTo s fd ⟨[v],[]⟩ [("_law_script",v)])/\∀base:Heap,K.In base->base.Ns mainGlobals mg->zJ l.prog w K mg base CX0 9 fa fd ["_law_script"] (zav K):=by
 have e:=hfa.symm.trans (mg_of X G g63.a);cases e;have no:∀{x:Str},nsIn K mainGlobals x=some none->mg x=none:=fun z=>PySem.W.mg_none_of X G z;have T:zkf K mg:=⟨no zisinstance,no zstr,no zbool,no zlen,no zall,no zrange,⟨tL,mg_of X G gL⟩,⟨tN,mg_of X G gN⟩,jl K,zc0 K,zbW K,zbT K,za1 K,zbV K,zcZ K,uG K⟩;have Wd:Wds K mg tP tB tO:=⟨mg_of X G ytP,mg_of X G ytB,mg_of X G ytO,fun H=>.inr ⟨_,_,_,utP,rfl,rfl,zz2,.cons ⟨_,rfl⟩ (.cons ⟨_,rfl⟩ (.nil))⟩,fun H=>.inr ⟨_,_,_,utB,rfl,rfl,zz2,.cons ⟨_,rfl⟩ (.cons ⟨_,rfl⟩ (.nil))⟩,fun H=>.inr ⟨_,_,_,utO,rfl,rfl,zz3,.cons ⟨_,rfl⟩ (.cons ⟨_,rfl⟩ (.cons ⟨_,rfl⟩ (.nil)))⟩⟩;have TF:zb9 w K mg Gr sg:=⟨no zlen,no zenumerate,no zlist,no zset,⟨tMP,mg_of X G gMP⟩,⟨tMB,mg_of X G gMB⟩,mg_of X G yGr,zh9 lGr kGr eG0 eG1 eG2 eG3 eG4,mg_of X G ysg,fun H=>.inr ⟨_,_,_,usg,rfl,rfl,zz2,.cons ⟨_,rfl⟩ (.cons ⟨_,rfl⟩ .nil)⟩⟩;have pc0:PC K ⟨f3,f4,f5,f6,f7⟩ C0:=⟨cC0.c,nC0.1,nC0.2.1,nC0.2.2,⟨h0.1,g3.m.fn,g3.F.kp⟩,⟨h0.2.1,g4.m.fn,g4.F.kp⟩,⟨h0.2.2.1,g5.m.fn,g5.F.kp⟩,⟨h0.2.2.2.1,g6.m.fn,g6.F.kp⟩,⟨h0.2.2.2.2,g7.m.fn,g7.F.kp⟩⟩;have pc1:PC K ⟨f3,f4,f5,f6,f7⟩ C1:=⟨cC1.c,nC1.1,nC1.2.1,nC1.2.2,⟨h1.1,g3.m.fn,g3.F.kp⟩,⟨h1.2.1,g4.m.fn,g4.F.kp⟩,⟨h1.2.2.1,g5.m.fn,g5.F.kp⟩,⟨h1.2.2.2.1,g6.m.fn,g6.F.kp⟩,⟨h1.2.2.2.2,g7.m.fn,g7.F.kp⟩⟩;have pc2:PC K ⟨f3,f4,f5,f6,f7⟩ C2:=⟨cC2.c,nC2.1,nC2.2.1,nC2.2.2,⟨h2.1,g3.m.fn,g3.F.kp⟩,⟨h2.2.1,g4.m.fn,g4.F.kp⟩,⟨h2.2.2.1,g5.m.fn,g5.F.kp⟩,⟨h2.2.2.2.1,g6.m.fn,g6.F.kp⟩,⟨h2.2.2.2.2,g7.m.fn,g7.F.kp⟩⟩;have pc3:PC K ⟨f3,f4,f5,f6,f7⟩ C3:=⟨cC3.c,nC3.1,nC3.2.1,nC3.2.2,⟨h3.1,g3.m.fn,g3.F.kp⟩,⟨h3.2.1,g4.m.fn,g4.F.kp⟩,⟨h3.2.2.1,g5.m.fn,g5.F.kp⟩,⟨h3.2.2.2.1,g6.m.fn,g6.F.kp⟩,⟨h3.2.2.2.2,g7.m.fn,g7.F.kp⟩⟩;have pc4:PC K ⟨f3,f4,f5,f6,f7⟩ C4:=⟨cC4.c,nC4.1,nC4.2.1,nC4.2.2,⟨h4.1,g3.m.fn,g3.F.kp⟩,⟨h4.2.1,g4.m.fn,g4.F.kp⟩,⟨h4.2.2.1,g5.m.fn,g5.F.kp⟩,⟨h4.2.2.2.1,g6.m.fn,g6.F.kp⟩,⟨h4.2.2.2.2,g7.m.fn,g7.F.kp⟩⟩;have PP:Pcs K ⟨f3,f4,f5,f6,f7⟩ ⟨C0,C1,C2,C3,C4⟩:=fun k hk=>by
  rcases lt5 hk with rfl|rfl|rfl|rfl|rfl
  ·exact pc0
  ·exact pc1
  ·exact pc2
  ·exact pc3
  ·exact pc4
 have FK:FC K FM:=⟨cFM.c,nFM.1,nFM.2.1,nFM.2.2.1,nFM.2.2.2.1,nFM.2.2.2.2.1,nFM.2.2.2.2.2⟩;have UL:zkd mg:=⟨no zlen,no zrange,no zset,no zenumerate,no zlist,no zisinstance,no zbool,no ztuple⟩;have UR:zld mg:=⟨no zany,no zsorted,no zrange,no zlen⟩;have UI:zke mg:=⟨no zisinstance,no ztuple,no zlist,no zint,no zbool,no zlen,no zall,no zsorted,no zset,no zrange⟩;refine⟨_,g63.law,fun base KB GB=>?_⟩;have B:TB l.prog w K mg base:=⟨fun e=>mg_of X G e⟩;have cI:=g1.c1 B (zkM g1.F T);have GP:zJ l.prog w K mg base CX0 2 f2 _ ["self","word","name","may_lack"] (spP K ⟨f3,f4,f5,f6,f7⟩):=zge g2.F cI;have mD:=mg_of X G cD.a;have UC:ziZ l.prog w K mg base ⟨C0,C1,C2,C3,C4⟩ f8 f9 f10 f11 f12 _ _ _ _ _:=⟨⟨⟨cC0.ms,g8.m.at_,g8.m.fn,cC0.kc⟩,zhL g8.F pc0 dga mD GP g2.F.b4,mg_of X G cC0.a,g8.b0⟩,⟨⟨cC1.ms,g9.m.at_,g9.m.fn,cC1.kc⟩,zh0 g9.F pc1 dga mD GP g2.F.b4,mg_of X G cC1.a,g9.b0⟩,⟨⟨cC2.ms,g10.m.at_,g10.m.fn,cC2.kc⟩,zhJ g10.F pc2 dga mD GP g2.F.b4,mg_of X G cC2.a,g10.F.b2⟩,⟨⟨cC3.ms,g11.m.at_,g11.m.fn,cC3.kc⟩,zjQ g11.F pc3 dga mD GP g2.F.b4,mg_of X G cC3.a,g11.b0⟩,⟨⟨cC4.ms,g12.m.at_,g12.m.fn,cC4.kc⟩,zjY g12.F pc4 dga mD GP g2.F.b4,mg_of X G cC4.a,g12.F.b2⟩⟩;have GF:zJ l.prog w K mg base CX0 1 f3 _ ["self"] (zax K ⟨f3,f4,f5,f6,f7⟩):=zhW g3.F;have GQ:zJ l.prog w K mg base CX0 1 f4 _ ["self"] (jG K ⟨f3,f4,f5,f6,f7⟩ bpL):=zbJ g4.F Wd;have GN:zJ l.prog w K mg base CX0 1 f5 _ ["self"] (jG K ⟨f3,f4,f5,f6,f7⟩ bnL):=zcN g5.F Wd;have cM1:=g23.c2 B (zhT g23.F TF);have cM2:=g24.c1 B (zgg g24.F TF PP);have cM3:=g25.c1 B (zgd g25.F cI);have cM4:=g26.c2 B (zf7 g26.F TF PP GN g5.F.b1);have cW:=g27.c2 B (zhP g27.F TF PP);have GK:=zhV g14.F TF PP FK cW GQ g4.F.b1 GN g5.F.b1;have GI:=zgn g13.F FK g14.m cM1 cM2 cM3 cM4 GK (g14.F.b3);have Gpa:zJ l.prog w K mg base CX0 1 f15 _ ["self"] (zau ⟨C0,C1,C2,C3,C4⟩ FM):=zgm g15.F TF FK;have Gba:zJ l.prog w K mg base CX0 1 f16 _ ["self"] (zay ⟨C0,C1,C2,C3,C4⟩ FM):=zgo g16.F TF FK;have Gpl:zJ l.prog w K mg base CX0 1 f17 _ ["self"] (wE ⟨C0,C1,C2,C3,C4⟩ FM):=zcM g17.F FK;have Gta:zJ l.prog w K mg base CX0 1 f18 _ ["self"] (vc ⟨C0,C1,C2,C3,C4⟩ FM 2):=zgl g18.F FK;have Gbg:zJ l.prog w K mg base CX0 1 f19 _ ["self"] (vc ⟨C0,C1,C2,C3,C4⟩ FM 4):=zhZ g19.F FK;have Gnu:zJ l.prog w K mg base CX0 1 f20 _ ["self","name"] (zfb ⟨C0,C1,C2,C3,C4⟩ FM):=zhX g20.F FK;have cL:=g40.c1 B (zhU g40.F);have cSh:=g43.c1 B (zf9 g43.F (no zlen) cL);have cFn:=g44.c1 B (zez g44.F (no zenumerate));have cOv:=g46.c2 B (zgf g46.F (no zrange) FK g18.m Gta (g18.F.b1) g17.m Gpl (g17.F.b1));have cUn:=g47.c3 B (zjO g47.F (no zset) FK g16.m Gba (g16.F.b1) g20.m Gnu (g20.F.b2) g19.m Gbg (g19.F.b1) g17.m Gpl (g17.F.b1));have cEn:=g49.c4 B (zhN g49.F PP GQ g4.F.b1 GN g5.F.b1);have cLa:=g48.c3 B (zgk g48.F (no zenumerate) PP FK g15.m Gpa (g15.F.b1) GF g3.F.b1 cEn);have cMo:=g45.c3 B (zjU g45.F (no zenumerate) cFn cOv cUn cLa);have cMi:=g41.c2 B (zjV g41.F cSh cMo);have cFi:=g42.c2 B (zhY g42.F cMi);have cPf:=g22.c1 B (zjS g22.F UC);have cDo:=g29.c1 B (zgp g29.F PP GN g5.F.b1);have cRo:=g28.c2 B (zga g28.F UR PP FK cDo g15.m Gpa (g15.F.b1) g16.m Gba (g16.F.b1) g19.m Gbg (g19.F.b1) GF g3.F.b1 GN g5.F.b1);have cRA:=g33.c2 B (zgb g33.F FK cRo g17.m Gpl (g17.F.b1) g18.m Gta (g18.F.b1));have cMH:=g36.c2 B (zhS g36.F);have cTR:=g35.c2 B (zex g35.F (no zall) cMH);have cNb:=g39.c1 B (zhQ g39.F T (no zdivmod));have cSg:=g38.c1 B (zcK g38.F cNb);have cTy:=g37.c2 B (zjP g37.F cSg);have cPN:=g34.c2 B (zkL g34.F (no zsorted) cTR cTy cMH);have cTi:=g32.c1 B (zew g32.F (no zlen));have cPg:=g31.c2 B (zcL g31.F ⟨no zrange,no zmax,no zmin⟩ FK cRA cPN cTi g17.m Gpl (g17.F.b1));have cSd:=g30.c2 B (zey g30.F cPg);have cN:=g50.c2 B (zjT g50.F);have cSt:=g51.c2 B (zhK g51.F);have cPo:=g52.c1 B (zhM g52.F UL);have cR:=g53.c3 B (zjR g53.F UL cSt);have cB:=g54.c3 B (zgj g54.F);have cFo:=g55.c2 B (zgh g55.F (no zlist) (mg_of X G cFM.a) ⟨cFM.ms,g13.m.at_,g13.m.fn,cFM.kc⟩ GI g13.b0 cPf);have cTk:=g56.c4 B (zf8 g56.F ⟨no zlen,no zset⟩);have cTu:=g57.c4 B (zev g57.F ⟨no zmax,no zlen,no zlist,no zreversed⟩);have cOn:=g58.c3 B (zhO g58.F);have cLe:=g59.c3 B (zgi g59.F ⟨no zrange,no zmax,no zlen⟩ cOn cTk);have cIP:=g60.c3 B (zjX g60.F UI cI cFi cFo cTk);have cRi:=g61.c3 B (zgc g61.F UI cLe cFo cSd cPg cIP);have cMb:=g62.c2 B (zhR g62.F);exact zjW g63.F (no zrange) cN cPo cR cB cSt cTu cMb cRi
theorem zmm{l:PySem.W.OpenLaw}{q:Program}{loose:List Str}{XP:(Str->Option Value)->Heap->Prop}{YP:World->Heap->Prop}{d:DefRec}{K:Params->Frag}(hn:l.most=some 63) (hdf:d.params.defaults=[])
  (hY:∀(w:World) (h:Heap),YP w h->(K w.params).In h)
  (F:∀(w:World) (mg:Str->Option Value) (fa:Addr) (h:Heap),(K w.params).In h->h.Ns mainGlobals mg->mg d.name=some (.ref fa)->
   ∃fd:FuncData,(∀(s:Shared) (u:Value),BindsTo s fd ⟨[u],[]⟩ [("_law_script",u)])/\∀base:Heap,(K w.params).In base->base.Ns mainGlobals mg->zJ l.prog w (K w.params) mg base CX0 9 fa fd ["_law_script"] (zav (K w.params))) :
  PySem.W.WalkO q loose XP YP l.row.toRowW d [] (fun f vs=>PySem.call f vs):=
 L2.zkm (n:=63) (k:=9) (x:="_law_script") (CX:=fun _=>CX0) (sp:=fun w=>zav (K w.params)) hn (by decide) hdf ⟨rfl,by decide,by decide⟩ hY F (fun _ _ a ns hl hb _ hS=>⟨a,ns,rfl,hS,hl,hb,fun _=>rfl⟩) fun _ _ _ _ _ z=>z
end K83
open PySem PySem.W PyProof.Rows
set_option maxRecDepth 100000 in
set_option maxHeartbeats 0 in
theorem PySem.Challenge.cw_callbinds_k83_stands_or_parts_holds : PySem.Challenge.rw_callbinds_k83_stands_or_parts.Holds := by
 w_on; o_law; k_head; (case hw => w_witness2)
 k_fill
 refine K83.zmm (l := PySem.Challenge.rw_callbinds_k83_stands_or_parts) rfl rfl (fun w h Y => PySem.W.kIn_of Y) ?F
 case F =>
  intro w mg fa h KX G hmg
  refine' K83.zl4 KX G hmg ?cD ?cC0 ?nC0 ?cC1 ?nC1 ?cC2 ?nC2 ?cC3 ?nC3 ?cC4 ?nC4 ?cFM ?nFM ?g1 ?g2 ?g3 ?g4 ?g5 ?g6 ?g7 ?g8 ?g9 ?g10 ?g11 ?g12 ?g13 ?g14 ?g15 ?g16 ?g17 ?g18 ?g19 ?g20 ?g21 ?g22 ?g23 ?g24 ?g25 ?g26 ?g27 ?g28 ?g29 ?g30 ?g31 ?g32 ?g33 ?g34 ?g35 ?g36 ?g37 ?g38 ?g39 ?g40 ?g41 ?g42 ?g43 ?g44 ?g45 ?g46 ?g47 ?g48 ?g49 ?g50 ?g51 ?g52 ?g53 ?g54 ?g55 ?g56 ?g57 ?g58 ?g59 ?g60 ?g61 ?g62 ?g63 ?zisinstance ?zstr ?zbool ?zlen ?zall ?zrange ?zlist ?zenumerate ?zset ?zany ?zsorted ?zmin ?zmax ?ztuple ?zint ?zdivmod ?zreversed ?gL ?gN ?gMP ?gMB ?ytP ?utP ?ytB ?utB ?ytO ?utO ?ysg ?usg ?yGr ?lGr ?kGr ?eG0 ?eG1 ?eG2 ?eG3 ?eG4 ?dga ?h0 ?h1 ?h2 ?h3 ?h4
  (case cD | cC0 => apply L2.zml <;> k_is)
  (case nC0 => exact ⟨by k_is, by k_is, by k_is⟩)
  (case cC1 => apply L2.zml <;> k_is)
  (case nC1 => exact ⟨by k_is, by k_is, by k_is⟩)
  (case cC2 => apply L2.zml <;> k_is)
  (case nC2 => exact ⟨by k_is, by k_is, by k_is⟩)
  (case cC3 => apply L2.zml <;> k_is)
  (case nC3 => exact ⟨by k_is, by k_is, by k_is⟩)
  (case cC4 => apply L2.zml <;> k_is)
  (case nC4 => exact ⟨by k_is, by k_is, by k_is⟩)
  (case cFM => apply L2.zml <;> k_is)
  (case nFM => exact ⟨by k_is, by k_is, by k_is, by k_is, by k_is, by k_is⟩)
  (case g1 => apply L2.zmj <;> k_is)
  (case g2 | g3 | g4 | g5 | g6 | g7 => apply L2.zmi <;> k_is)
  (case g8 | g9 => apply L2.zmk <;> k_is)
  (case g10 => apply L2.zmi <;> k_is)
  (case g11 => apply L2.zmk <;> k_is)
  (case g12 => apply L2.zmi <;> k_is)
  (case g13 => apply L2.zmk <;> k_is)
  (case g14 | g15 | g16 | g17 | g18 | g19 | g20 | g21 => apply L2.zmi <;> k_is)
  (case g22 | g23 | g24 | g25 | g26 | g27 | g28 | g29 | g30 | g31 | g32 | g33 | g34 | g35 | g36 | g37 | g38 | g39 | g40 | g41 | g42 | g43 | g44 | g45 | g46 | g47 | g48 | g49 | g50 | g51 | g52 | g53 | g54 | g55 | g56 | g57 | g58 | g59 | g60 | g61 | g62 | g63 => apply L2.zmj <;> k_is)
  (case zisinstance | zstr | zbool | zlen | zall | zrange | zlist | zenumerate | zset | zany | zsorted | zmin | zmax | ztuple | zint | zdivmod | zreversed | gL | gN | gMP | gMB | ytP | utP | ytB | utB | ytO | utO | ysg | usg | yGr | lGr => k_is)
  (case kGr => k_keys)
  (case eG0 | eG1 | eG2 | eG3 | eG4 => k_is)
  (case dga => exact ⟨by k_is, by k_is, by k_is, by k_is⟩)
  (case h0 | h1 | h2 | h3 | h4 => exact ⟨by k_is, by k_is, by k_is, by k_is, by k_is⟩)
#print axioms PySem.Challenge.cw_callbinds_k83_stands_or_parts_holds
