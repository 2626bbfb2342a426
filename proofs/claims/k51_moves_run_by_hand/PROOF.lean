import PyProof.Rows.All
import Wide.All
import OpenK.AllK
import Wide.FinOn
import Lean
import PyProof.EqAt
import PyProof.EqKinds
import PyProof.TupleCall
import KE.KTryMore
import PyProof.ExcAttrAll.ValueError
import KE.KRevIter
import PyProof.SetNew
import PyProof.SetRoads
import PyProof.Rows.SetObj
import PyProof.DictCompW
import PyProof.DictItems
import PyProof.Rows.SetFrom
import PyProof.ListRange
import PyProof.Rows.Range3
import KE.IntBitsLaws
import PyProof.AttrMissHeap
import PyProof.FactsAll.bool_1
import KE.KDictOf
import PyProof.WalkInts
import KE.RegKIsAll
import KE.RegKTryMore
import PySem.Challenge.RW_callbinds_k51_moves_run_by_hand
set_option Elab.async false
set_option linter.all false
set_option maxRecDepth 100000
set_option maxHeartbeats 4000000
open Nat (lt_of_lt_of_le lt_irrefl ne_of_lt le_trans le_of_lt ne_of_gt le_refl zero_le le_of_eq lt_succ_self le_succ lt_trans lt_of_sub_eq_succ le_succ_of_le le_add_right add_zero)
open List (filterMap_cons mem_cons_self mem_cons_of_mem mem_append_left getElem?_set_ne mem_append_right size_toArray length_cons map_cons length_map append_nil of_mem_zip length_take getElem?_map mem_of_getElem? length_append length_drop length_set all_cons any_cons replicate_succ flatten_cons append_assoc length_singleton nil_append find?_cons cons_append length_nil map_nil lookup_cons getElem?_eq_getElem getD_eq_getElem?_getD all_eq_true getElem_mem take_of_length_le map_map take_add_one map_append drop_eq_getElem_cons take_succ_eq_append_getElem filter_append drop_length length_filter_le take_length mem_append getElem?_eq_none map_take map_drop flatten_append take_append_drop length_range range_succ any_append getElem?_range filter_cons filter_nil drop_zero take_nil drop_nil length_zipIdx getElem?_zipIdx ext_getElem? zip_cons_cons getElem_take range'_succ find?_eq_none singleton_append lookup_cons_self)
open Int (toNat_natCast emod_nonneg emod_lt_of_pos eq_ofNat_of_zero_le)
open Option (getD_none map_some isSome_map)
open PySem.W (instObj methodObj lookIn plainGet hasDictIn findIn plainGet_of isFn plainOver takerIn makesIn emptyDict keepIn methodCall_KW kitOne kia_one callWith_K fnOf codeIn KeysLit nsIn mg_of Frag)
namespace L2
open PySem PySem.Spec PyProof.Rows
theorem zz3 : 3<=sizeLine:=by decide
theorem zz2 : 2<=sizeLine:=by decide
theorem zz0 : 0<=sizeLine:=by decide
theorem zz1 : 1<=sizeLine:=by decide
theorem zp2:(0:Int)<2:=by decide
theorem zp8:(0:Int)<8:=by decide
theorem zp4:(0:Int)<4:=by decide
abbrev Key:=Sum Int Str
def qc:Key->Value->Bool
 | .inl k,v=>Value.isInt k v
 | .inr x,v=>Value.isStrOf x v
def zlS(w:World):Key->Int
 | .inl k=>hashInt k
 | .inr x=>hashStr w x
theorem yx:∀{k:Key}{v:Value},qc k v=true->(∃i t,k=Sum.inl i/\v=Value.int i t)\/(∃x t,k=Sum.inr x/\v=Value.str x t)
 | .inl i,v,h=>by
  obtain⟨t,e⟩:=Value.isInt_shape (k:=i) (v:=v) h;exact .inl ⟨i,t,rfl,e⟩
 | .inr x,v,h=>by
  obtain⟨t,e⟩:=Value.isStrOf_shape (x:=x) (v:=v) h;exact .inr ⟨x,t,rfl,e⟩
theorem zeB(i:Int) (t:Tok):qc (.inl i) (.int i t)=true:=by simp [qc,Value.isInt]
theorem zeA(x:Str) (t:Tok):qc (.inr x) (.str x t)=true:=by simp [qc,Value.isStrOf]
theorem zjM(a b:Int):decide ((Sum.inl a:Key)=Sum.inl b)=(a==b):=by
 by_cases e:a=b
 ·subst e;simp
 ·have h:¬(Sum.inl a:Key)=Sum.inl b:=fun q=>e (Sum.inl.inj q)
  rw[decide_eq_false h];exact(beq_eq_false_iff_ne.mpr e).symm
theorem zgr(a b:Str):decide ((Sum.inr a:Key)=Sum.inr b)=decide (a=b):=by
 by_cases e:a=b
 ·subst e;simp
 ·have h:¬(Sum.inr a:Key)=Sum.inr b:=fun q=>e (Sum.inr.inj q)
  rw[decide_eq_false h,decide_eq_false e]
theorem zjL(a:Int) (b:Str):decide ((Sum.inl a:Key)=Sum.inr b)=false:=decide_eq_false (fun q=>nomatch q)
theorem zjK(a:Str) (b:Int):decide ((Sum.inr a:Key)=Sum.inl b)=false:=decide_eq_false (fun q=>nomatch q)
def z9(prog:Program) (w:World):PySem.KeyKind prog w Key where
 is:=qc
 hash:=zlS w
 inj:=fun v a b ha hb=>by
  rcases yx ha with ⟨i,t,rfl,rfl⟩|⟨x,t,rfl,rfl⟩
  ·rcases yx hb with ⟨j,u,rfl,e⟩|⟨y,u,rfl,e⟩
   ·injection e with e1 _;rw[e1]
   ·exact nomatch e
  ·rcases yx hb with ⟨j,u,rfl,e⟩|⟨y,u,rfl,e⟩
   ·exact nomatch e
   ·injection e with e1 _;rw[e1]
 byValue:=fun k v h=>by
  rcases yx h with ⟨i,t,rfl,rfl⟩|⟨x,t,rfl,rfl⟩ <;> rfl
 pyHash:=fun hv h=>by
  rcases yx hv with ⟨i,t,rfl,rfl⟩|⟨x,t,rfl,rfl⟩
  ·exact wpAny_pyHash_int h
  ·exact wpAny_pyHash_str h
 eqBool:=fun hu hv h=>by
  rcases yx hu with ⟨i,t,rfl,rfl⟩|⟨x,t,rfl,rfl⟩
  ·rcases yx hv with ⟨j,u,rfl,rfl⟩|⟨y,u,rfl,rfl⟩
   ·rw[zjM] at h;exact wpAny_eqBool_int h
   ·rw[zjL] at h;exact SeqAt.EqAt.int_str i t y u _ _ _ _ h
  ·rcases yx hv with ⟨j,u,rfl,rfl⟩|⟨y,u,rfl,rfl⟩
   ·rw[zjK] at h;exact SeqAt.EqAt.str_int x t j u _ _ _ _ h
   ·rw[zgr] at h;exact wpAny_eqBool_str h
 «strs»:=fun k x t v h=>by
  rcases yx h with ⟨i,u,rfl,e⟩|⟨y,u,rfl,e⟩
  ·exact nomatch e
  ·injection e with e1 _
   subst e1;cases v <;> rfl
theorem zbM(prog:Program) (w:World) (i:Int) (t:Tok):(z9 prog w).is (.inl i) (.int i t)=true:=zeB i t
theorem zbL(prog:Program) (w:World) (x:Str) (t:Tok):(z9 prog w).is (.inr x) (.str x t)=true:=zeA x t
inductive V where
 | non|bl (b:Bool)|int (i:Int)|str (x:Str)|byt (b:Array UInt8)|flt (b:UInt64)|ref (a:Addr)|ty (n:String)
 deriving DecidableEq
def zL:V->Value->Prop
 | .non,u=>u=Value.none
 | .bl b,u=>u=Value.bool b
 | .int i,u=>∃t,u=Value.int i t
 | .str x,u=>∃t,u=Value.str x t
 | .byt b,u=>∃t,u=Value.bytes b t
 | .flt b,u=>∃t,u=Value.float b t
 | .ref a,u=>u=Value.ref a
 | .ty n,u=>u=Value.type n
abbrev zJ:List V->List Value->Prop:=Paired zL
theorem zJ.length{xs:List V}{us:List Value}(r:zJ xs us):xs.length=us.length:=Paired.length r
theorem zJ.get:∀{xs:List V}{us:List Value}{i:Nat}{x:V},zJ xs us->xs[i]?=some x->∃u,us[i]?=some u/\zL x u
 | _,_,_,_,.nil,e=>by simp at e
 | _,_,0,_,.cons r _,e=>by simp at e;subst e;exact⟨_,rfl,r⟩
 | _,_,i+1,x,.cons _ t,e=>by
  obtain⟨u,h1,h2⟩:=zJ.get (i:=i) (x:=x) t (by simpa using e)
  exact⟨u,by simpa using h1,h2⟩
theorem zJ.set{x:V}{u:Value}(r:zL x u):∀{xs:List V}{us:List Value}(i:Nat),zJ xs us->zJ (xs.set i x) (us.set i u)
 | _,_,_,.nil=>.nil
 | _,_,0,.cons _ t=>.cons r t
 | _,_,i+1,.cons q t=>.cons q (zJ.set r i t)
theorem zJ.append:∀{xs ys:List V}{us ws:List Value},zJ xs us->zJ ys ws->zJ (xs++ys) (us++ws)
 | _,_,_,_,.nil,s=>s
 | _,_,_,_,.cons r t,s=>.cons r (zJ.append t s)
theorem zJ.take:∀{xs:List V}{us:List Value}(n:Nat),zJ xs us->zJ (xs.take n) (us.take n)
 | _,_,0,_=>.nil
 | _,_,_+1,.nil=>.nil
 | _,_,n+1,.cons r t=>.cons r (zJ.take n t)
theorem zJ.drop:∀{xs:List V}{us:List Value}(n:Nat),zJ xs us->zJ (xs.drop n) (us.drop n)
 | _,_,0,r=>r
 | _,_,_+1,.nil=>.nil
 | _,_,n+1,.cons _ t=>zJ.drop n t
def wS:Option V->Option Value->Prop
 | some v,some u=>zL v u
 | none,none=>True
 | _,_=>False
def KV{κ : Type}:List (κ×V)->List (κ×Value)->Prop:=Paired fun (p : κ×V) (q : κ×Value)=>p.1=q.1/\zL p.2 q.2
def kV:Key->V
 | .inl i=>.int i
 | .inr x=>.str x
inductive HO where
 | lst (xs:List V)
 | tup (xs:List V)
 | dK (kvs:List (Key×V))|dT (kvs:List (List Key×V))
 | set (S:Int->Bool) (n:Nat)
 | ins (C dx:Addr) (fs:List (Str×V))
 | own (x:Addr)
 | xd (fs:List (Str×V))
 | met (f x:Addr)
 | rng (lo hi:Int)
 | frz (o:Obj) (u:HO)
 | tbl (ps:Array Value)
 | ext (φ : Heap->Prop)
abbrev Hp:=Addr->Option HO
def upd(H:Hp) (a:Addr) (o:HO):Hp:=fun b=>if b=a then some o else H b
theorem za{H:Hp}{a:Addr}{o:HO}:upd H a o a=some o:=by unfold upd;rw[if_pos rfl]
theorem zh{H:Hp}{a b:Addr}{o:HO}(h:b≠a):upd H a o b=H b:=by unfold upd;rw[if_neg h]
theorem zat{H:Hp}{a:Addr}{o u:HO}:upd (upd H a o) a u=upd H a u:=by
 funext b;unfold upd;split <;> rfl
theorem xE{H:Hp}{a b:Addr}{o u:HO}(h:H a=some o) (h':H b=some u) (d:o≠u):a≠b:=by
 intro e;subst e;rw[h] at h';exact d (Option.some.inj h')
theorem zd{H:Hp}{a b:Addr}{o:HO}(h:H a=some o) (h':H b=none):a≠b:=by
 intro e;subst e;rw[h] at h';cases h'
section
variable (P:Program) (w:World)
def yy(H:Hp) (h:Heap) (a:Addr):HO->Prop
 | .lst xs=>xs.length<=sizeLine/\∃(its:List Value) (n:Nat),zJ xs its/\h.get? a=some { cls:=.type "list",data:=.seq its.toArray n }
 | .tup xs=>xs.length<=sizeLine/\∃its:List Value,zJ xs its/\IsTup h a its.toArray
 | .dK kvs=>kvs.length<=sizeLine/\(a==sysModules)=false/\∃vs,KV kvs vs/\h.DictOf (z9 P w) a vs
 | .dT kvs=>kvs.length<=sizeLine/\(a==sysModules)=false/\∃xs:List (List Key×Addr×Value),
   Paired (fun (p:List Key×V) (q:List Key×Addr×Value)=>p.1=q.1/\H q.2.1=some (.tup (p.1.map kV))/\zL p.2 q.2.2) kvs xs/\
   ∃o es ep,h.get? a=some o/\o.ExactDict/\o.data=.dict es ep/\es.toList=xs.map (entryOfKey (tupleKind (z9 P w)))/\(xs.map (·.1)).Nodup
 | .set S n=>h.SetOf (intKind P w) a S n
 | .ins C dx fs=>H dx=some (.own a)/\fs.length<=1000/\dx≠a/\h.get? a=some (instObj C dx)/\
   ∃mA,h.Ns1 dx mA/\(∀f,wS (fs.lookup f) (mA f))/\PySem.Within mA (fs.map (·.1))
 | .own _=>∃o,h.get? a=some o
 | .xd fs=>∃mA,h.Ns1 a mA/\∀f,wS (fs.lookup f) (mA f)
 | .rng lo hi=>∃t u v,h.get? a=some { cls:=.type "range",data:=.fields #[.int lo t,.int hi u,.int 1 v] }
 | .frz o u=>h.get? a=some o/\yy H h a u
 | .tbl ps=>h.get? a=some { cls:=.none,data:=.fields ps }
 | .met f x=>h.get? a=some (methodObj (.ref f) (.ref x))
 | .ext φ=>φ h/\(∃o,h.get? a=some o)/\∀h1 h2:Heap,φ h1->(∀o,h1.get? a=some o->h2.get? a=some o)->φ h2
def HOk(H:Hp) (h:Heap):Prop:=∀a o,H a=some o->yy P w H h a o
end
section
variable {P:Program}{w:World}{H H':Hp}{h h':Heap}{a:Addr}{o:HO}
theorem yy.lt(x:yy P w H h a o):a<h.objs.size:=by
 cases o with
 | lst xs=>obtain⟨_,_,_,_,e⟩:=x;exact Heap.lt_size e
 | tup xs=>obtain⟨_,_,_,p⟩:=x;exact p.lt
 | dK kvs=>obtain⟨_,_,_,_,o,_,_,e,_⟩:=x;exact Heap.lt_size e
 | dT kvs=>obtain⟨_,_,_,_,o,_,_,e,_⟩:=x;exact Heap.lt_size e
 | set S n=>obtain⟨o,_,_,_,e,_⟩:=x;exact Heap.lt_size e
 | ins C dx fs=>obtain⟨_,_,_,e,_⟩:=x;exact Heap.lt_size e
 | own y=>obtain⟨_,e⟩:=x;exact Heap.lt_size e
 | xd fs=>obtain⟨_,⟨_,_,_,e,_⟩,_⟩:=x;exact Heap.lt_size e
 | rng lo hi=>obtain⟨_,_,_,e⟩:=x;exact Heap.lt_size e
 | frz ob u=>obtain⟨e,_⟩:=x;exact Heap.lt_size e
 | tbl ps=>exact Heap.lt_size (show h.get? a=some _ from x)
 | met f y=>exact Heap.lt_size (show h.get? a=some _ from x)
 | ext φ=>obtain⟨_,⟨_,e⟩,_⟩:=x;exact Heap.lt_size e
theorem Paired.mapP{α β : Type}{F G : α->β->Prop}:∀{l₁:List α}{l₂:List β},Paired F l₁ l₂->(∀a b,F a b->G a b)->Paired G l₁ l₂
 | _,_,.nil,_=>.nil
 | _,_,.cons r t,f=>.cons (f _ _ r) (Paired.mapP t f)
theorem Paired.imp'{α β : Type}{F G : α->β->Prop}(f:∀a b,F a b->G a b) {l₁:List α}{l₂:List β}(r:Paired F l₁ l₂):Paired G l₁ l₂:=Paired.mapP r f
theorem yy.stay(x:yy P w H h a o) (k:∀b u,(b=a\/H b=some (.own a))->h.get? b=some u->h'.get? b=some u)
  (ho:∀b,H b=some (.own a)->H' b=some (.own a)) (ht:∀b xs,H b=some (.tup xs)->H' b=some (.tup xs)):yy P w H' h' a o:=by
 induction o with
 | lst xs=>obtain⟨z,its,n,r,e⟩:=x;exact⟨z,its,n,r,k _ _ (.inl rfl) e⟩
 | tup xs=>obtain⟨z,its,r,ob,e,c⟩:=x;exact⟨z,its,r,ob,k _ _ (.inl rfl) e,c⟩
 | dK kvs=>obtain⟨z,y,vs,r,ob,es,ep,e,c⟩:=x;exact⟨z,y,vs,r,ob,es,ep,k _ _ (.inl rfl) e,c⟩
 | dT kvs=>
  obtain⟨z,y,xs,r,ob,es,ep,e,c⟩:=x;exact⟨z,y,xs,Paired.mapP r fun p q z=>⟨z.1,ht _ _ z.2.1,z.2.2⟩,ob,es,ep,k _ _ (.inl rfl) e,c⟩
 | set S n=>obtain⟨ob,es,ep,t,e,c⟩:=x;exact⟨ob,es,ep,t,k _ _ (.inl rfl) e,c⟩
 | ins C dx fs=>
  obtain⟨d,z,ne,e,mA,⟨od,es,ep,e2,c⟩,r⟩:=x;exact⟨ho _ d,z,ne,k _ _ (.inl rfl) e,mA,⟨od,es,ep,k _ _ (.inr d) e2,c⟩,r⟩
 | own y=>obtain⟨ob,e⟩:=x;exact⟨ob,k _ _ (.inl rfl) e⟩
 | xd fs=>obtain⟨mA,⟨od,es,ep,e,c⟩,r⟩:=x;exact⟨mA,⟨od,es,ep,k _ _ (.inl rfl) e,c⟩,r⟩
 | rng lo hi=>obtain⟨t,u,v,e⟩:=x;exact⟨t,u,v,k _ _ (.inl rfl) e⟩
 | frz ob u ih=>obtain⟨e,q⟩:=x;exact⟨k _ _ (.inl rfl) e,ih q⟩
 | tbl ps=>
  have e:h.get? a=some { cls:=.none,data:=.fields ps }:=x;show h'.get? a=some { cls:=.none,data:=.fields ps };exact k a _ (.inl rfl) e
 | met f y=>
  have e:h.get? a=some (methodObj (.ref f) (.ref y)):=x;show h'.get? a=some (methodObj (.ref f) (.ref y));exact k a _ (.inl rfl) e
 | ext φ=>obtain⟨p,⟨o,e⟩,st⟩:=x;exact⟨st _ _ p fun o q=>k _ _ (.inl rfl) q,⟨o,k _ _ (.inl rfl) e⟩,st⟩
theorem HOk.lt(x:HOk P w H h) (e:H a=some o):a<h.objs.size:=(x a o e).lt
theorem HOk.fresh(x:HOk P w H h) (e:h.objs.size<=a):H a=none:=by
 cases q:H a with
 | none=>rfl
 | some u=>exact absurd (lt_of_lt_of_le (x.lt q) e) (lt_irrefl _)
theorem HOk.kept(x:HOk P w H h) (k:∀b u,h.get? b=some u->h'.get? b=some u):HOk P w H h':=fun a o e=>
 (x a o e).stay (fun b u _ q=>k b u q) (fun _ q=>q) fun _ _ q=>q
theorem HOk.laid(x:HOk P w H h) (k:∀b u,h.get? b=some u->h'.get? b=some u) (hp:h.objs.size<=a) (new:yy P w (upd H a o) h' a o):HOk P w (upd H a o) h':=fun b u e=>by
 have hn:=x.fresh hp;by_cases hb:b=a
 ·subst hb;rw[za] at e;cases e;exact new
 ·rw[zh hb] at e
  exact(x b u e).stay (fun c v _ q=>k c v q) (fun c q=>by rw[zh (zd q hn)];exact q) fun c xs q=>by rw[zh (zd q hn)];exact q
end
def Rd(H:Hp) (a:Addr) (u:HO):Prop:=H a=some u\/∃o,H a=some (.frz o u)
theorem Rd.ok{P:Program}{w:World}{H:Hp}{h:Heap}{a:Addr}{u:HO}(r:Rd H a u) (x:HOk P w H h):yy P w H h a u:=by
 rcases r with r|⟨o,r⟩
 ·exact x a u r
 ·obtain⟨_,q⟩:=x a _ r
  exact q
def Mut:Option HO->Prop
 | some (.lst _)=>True
 | some (.dK _)=>True
 | some (.dT _)=>True
 | some (.set _ _)=>True
 | some (.ins _ _ _)=>True
 | some (.ext _)=>True
 | _=>False
section
variable {P:Program}{w:World}{H:Hp}{h h':Heap}{x e:Addr}{o':HO}
theorem HOk.write(ok:HOk P w H h) (mu:Mut (H x)) (he:e=x\/H e=some (.own x)) (k:∀b u,b≠e->h.get? b=some u->h'.get? b=some u) (heo:∃u,h'.get? e=some u)
  (new:yy P w (upd H x o') h' x o'):HOk P w (upd H x o') h':=fun b u q=>by
 have nown:∀c y,H c=some (.own y)->c≠x:=fun c y r z=>by subst z;rw[r] at mu;exact mu
 have ntup:∀c xs,H c=some (.tup xs)->c≠x:=fun c xs r z=>by subst z;rw[r] at mu;exact mu
 by_cases hb:b=x
 ·subst hb;rw[za] at q;cases q;exact new
 ·rw[zh hb] at q
  by_cases hbe:b=e
  ·have q':H b=some (.own x):=by
    rcases he with z|z
    ·exact absurd (hbe.trans z) hb
    ·rw[hbe];exact z
   rw[q] at q';cases q';obtain⟨v,hv⟩:=heo;exact⟨v,by rw[hbe];exact hv⟩
  ·refine(ok b u q).stay (fun c v hc r=>k c v ?_ r) (fun c r=>by rw[zh (nown c b r)];exact r) fun c xs r=>by rw[zh (ntup c xs r)];exact r
   rcases hc with rfl|hc
   ·exact hbe
   ·rintro rfl
    rcases he with z|z
    ·exact nown c b hc z
    ·rw[hc] at z;cases z;exact hb rfl
end
structure Un(fs ex:List Addr) (H H':Hp) (h h':Heap):Prop where
 keep:∀b o,h.get? b=some o->H b=none->b∉fs->b∉ex->h'.get? b=some o
 slot:∀b o,h.get? b=some o->H b=none->b∈fs->b∉ex->∃sl,h'.get? b=some { o with slots:=sl }
 free:∀b o,h.get? b=some o->H b=none->b∉ex->H' b=none
 there:∀b o,h.get? b=some o->b∉ex->∃o',h'.get? b=some o'
 tups:∀b xs,H b=some (.tup xs)->H' b=some (.tup xs)
 frzs:∀b o u,H b=some (.frz o u)->H' b=some (.frz o u)
 tbls:∀b ps,H b=some (.tbl ps)->∃more,H' b=some (.tbl (ps++more))
section
variable {fs fs' ex ex':List Addr}{H H1 H2:Hp}{h h1 h2 h':Heap}{a x e:Addr}{o:HO}
theorem Un.any(u:Un fs ex H H1 h h1) {b:Addr}{ob:Obj}(q:h.get? b=some ob) (n:H b=none) (hx:b∉ex):∃sl,h1.get? b=some { ob with slots:=sl }:=by
 by_cases hb:b∈fs
 ·exact u.slot b ob q n hb hx
 ·exact⟨ob.slots,u.keep b ob q n hb hx⟩
theorem Un.kept(k:∀b u,h.get? b=some u->h'.get? b=some u):Un fs ex H H h h':=
 ⟨fun b ob q _ _ _=>k b ob q,fun b ob q _ _ _=>⟨ob.slots,k b ob q⟩,fun _ _ _ n _=>n,fun b ob q _=>⟨ob,k b ob q⟩,fun _ _ q=>q,fun _ _ _ q=>q,fun _ ps q=>⟨#[],by rw[q];simp⟩⟩
theorem Un.refl:Un fs ex H H h h:=Un.kept fun _ _ q=>q
theorem Un.laid(k:∀b u,h.get? b=some u->h'.get? b=some u) (hp:h.objs.size<=a) (hn:H a=none):Un fs ex H (upd H a o) h h' where
 keep:=fun b u q _ _ _=>k b u q
 slot:=fun b u q _ _ _=>⟨u.slots,k b u q⟩
 free:=fun b u q n _=>by rw[zh (ne_of_lt (lt_of_lt_of_le (Heap.lt_size q) hp))];exact n
 there:=fun b u q _=>⟨u,k b u q⟩
 tups:=fun b xs q=>by rw[zh (zd q hn)];exact q
 frzs:=fun b u xs q=>by rw[zh (zd q hn)];exact q
 tbls:=fun b ps q=>⟨#[],by rw[zh (zd q hn),q];simp⟩
theorem Un.write(mu:Mut (H x)) (he:e=x\/H e=some (.own x)) (k:∀b u,b≠e->h.get? b=some u->h'.get? b=some u) (heo:∃u,h'.get? e=some u):Un fs ex H (upd H x o) h h':=by
 have hx:∀b,H b=none->b≠x:=fun b n z=>by subst z;rw[n] at mu;exact mu
 have hb:∀b,H b=none->b≠e:=fun b n z=>by
  subst z;rcases he with r|r
  ·exact hx b n r
  ·rw[n] at r;cases r
 have hm:∀b u,H b=some u->¬Mut (some u)->b≠x:=fun b u q nm z=>by subst z;rw[q] at mu;exact nm mu
 refine⟨fun b u q n _ _=>k b u (hb b n) q,fun b u q n _ _=>⟨u.slots,k b u (hb b n) q⟩,fun b u q n _=>by rw[zh (hx b n)];exact n,fun b u q _=>?_,
  fun b xs q=>by rw[zh (hm b _ q fun z=>z)];exact q,fun b u xs q=>by rw[zh (hm b _ q fun z=>z)];exact q,fun b ps q=>⟨#[],by rw[zh (hm b _ q fun z=>z),q];simp⟩⟩
 by_cases hbe:b=e
 ·subst hbe;exact heo
 ·exact⟨u,k b u hbe q⟩
end
def trk(h:Heap) (H:Hp):List Addr:=(List.range h.objs.size).filter fun a=>(H a).isSome
def za0(h:Heap) (H:Hp):Heap:=PySem.W.hideAll h (trk h H)
theorem zeF(h:Heap) (H:Hp):(za0 h H).objs.size=h.objs.size:=PySem.W.hideAll_size _ _
theorem zgz{h:Heap}{H:Hp}{b:Addr}{o:Obj}(e:h.get? b=some o) (n:H b=none):(za0 h H).get? b=some o:=
 PySem.W.hideAll_get _ e fun hm=>by
  have q:(H b).isSome=true:=(List.mem_filter.mp hm).2;rw[n] at q;simp at q
theorem zhU{h:Heap}{H:Hp}{b:Addr}{o:Obj}(e:(za0 h H).get? b=some o):h.get? b=some o/\H b=none:=by
 have e':h.get? b=some o:=PySem.W.of_hideAll (trk h H) e;refine⟨e',?_⟩;cases q:H b with
 | none=>rfl
 | some x=>
  have hm:b∈trk h H:=List.mem_filter.mpr ⟨List.mem_range.mpr (Heap.lt_size e'),by simp [q]⟩
  have z:(za0 h H).get? b=none:=PySem.W.hideAll_none (trk h H) hm;rw[z] at e;cases e
def zii(g h:Heap) (L:Addr):List (Addr×Obj):=(List.range h.objs.size).filterMap fun a=>if a=L\/(g.get? a).isSome=true then none else (h.get? a).map fun o=>(a,o)
def wv(g h:Heap) (L d:Addr):List (Addr×Obj):=(zii g h L).filter fun p=>decide (p.1≠d)
structure Mod(K:Frag) (mg:Str->Option Value) (base:Heap):Prop where
 kin:K.In base
 glob:base.Ns mainGlobals mg
 blt:∃mb,base.Ns builtinsNs mb/\∀x:Str,x≠"__name__"->mb x=bootBuiltins x
 nolimit:base.NoLimit
structure Cx where
 prog:Program
 w:World
 K:Frag
 mg:Str->Option Value
 base:Heap
 A:Around
 N:List Str
 s₀:Shared
 H₀:Hp
 env:Env
 outer:List Env
 stack:List Env
 ex:List Addr
 fn:Str->Bool
 calm:Bool
 pn:List (Addr×Obj)
 xe:Value->Shared->Prop
def frs(l:List Env):List Addr:=l.filterMap (·.frame)
abbrev Cx.fs(X:Cx):List Addr:=frs X.outer
def Vis(sc:Scope) (x:Str):Prop:=sc.names.lookup x=some .local\/sc.names.lookup x=some .cell\/sc.names.lookup x=some .free
def Loc(sc:Scope) (x:Str):Prop:=sc.names.lookup x=some .local\/sc.names.lookup x=some .cell
def zl0(env:Env) (h:Heap) (m:Str->Option Value) (x:Str) (u:Value):Prop:=
 (env.kindOf x=some .local/\m x=some u)\/((env.kindOf x=some .cell\/env.kindOf x=some .free)/\∃c,env.cells.lookup x=some c/\h.IsCell c (some u))
structure Cx.Ok(X:Cx):Prop where
 mod:Mod X.K X.mg X.base
 kind:X.env.scope.kind=.function
 glob:X.env.globals=mainGlobals
 blt:X.env.builtins=builtinsNs
 above:X.s₀.heap.objs.size<=X.env.locals
 inj:∀x y c,X.env.cells.lookup x=some c->X.env.cells.lookup y=some c->x=y
 has:∀x,(X.env.kindOf x=some .cell\/X.env.kindOf x=some .free)->∃c,X.env.cells.lookup x=some c
 cab:∀x c,X.fn x=true->X.env.cells.lookup x=some c->X.s₀.heap.objs.size<=c
 hd:X.calm=true->X.A.handled=none
 frames:X.A.frames=some X.stack
 stk:X.stack=X.outer\/(X.stack=X.env::X.outer/\X.env.frame=some X.env.locals)
 exf:∀b∈X.ex,b≠X.env.locals/\∀x c,X.env.cells.lookup x=some c->c≠b
 bs:∀b o,X.base.get? b=some o->X.s₀.heap.get? b=some o/\X.H₀ b=none
 bsz:X.base.objs.size<=X.s₀.heap.objs.size
 noex:∀b o,X.base.get? b=some o->b∉X.ex
 exfs:∀b∈X.ex,b∉X.fs
 funs:X.s₀.heap.FunFrames X.base X.outer
 frf:∀b∈X.fs,X.H₀ b=none
structure Inv(X:Cx) (pins:List (Addr×Obj)) (σ : List (Option V)) (H:Hp) (s:Shared):Prop where
 ok:X.Ok
 os:s.os=X.s₀.os
 bare:AllBare s.gens
 base:Un X.fs X.ex X.H₀ H X.s₀.heap s.heap
 loc:∃m,s.heap.Ns X.env.locals m/\∀(i:Nat) (x:Str) (v:V),X.N[i]?=some x->σ[i]?=some (some v)->Vis X.env.scope x->∃u,zL v u/\zl0 X.env s.heap m x u
 cell:∀x c,X.env.cells.lookup x=some c->∃v,s.heap.IsCell c v
 free:H X.env.locals=none
 freeC:∀x c,X.env.cells.lookup x=some c->H c=none
 pin:∀p∈X.pn++pins,s.heap.get? p.1=some p.2/\H p.1=none/\p.1≠X.env.locals/\p.1∉X.fs/\∀v,p.2.data≠.cell v
 hok:HOk X.prog X.w H s.heap
 len : σ.length=X.N.length
section
variable {X:Cx}{pins:List (Addr×Obj)}{σ : List (Option V)}{H H':Hp}{s:Shared}{h':Heap}
theorem Cx.Ok.nofr(ok:X.Ok) {b:Addr}{o:Obj}(e:X.base.get? b=some o):b∉X.fs:=fun hb=>by
 have:=(ok.funs.mem hb).1
 rw[e] at this;cases this
theorem Inv.bs(I:Inv X pins σ H s):∀b o,X.base.get? b=some o->s.heap.get? b=some o/\H b=none:=fun b o e=>
 ⟨I.base.keep b o (I.ok.bs b o e).1 (I.ok.bs b o e).2 (I.ok.nofr e) (I.ok.noex b o e),I.base.free b o (I.ok.bs b o e).1 (I.ok.bs b o e).2 (I.ok.noex b o e)⟩
theorem Inv.bk(I:Inv X pins σ H s):∀b o,X.base.get? b=some o->s.heap.get? b=some o:=fun b o e=>(I.bs b o e).1
theorem Inv.mod(I:Inv X pins σ H s):Mod X.K X.mg X.base:=I.ok.mod
theorem Inv.kIn(I:Inv X pins σ H s):X.K.In s.heap:=I.ok.mod.kin.keeps I.bk
theorem Inv.fr(I:Inv X pins σ H s):∃m,Fr X.base X.env.locals s.heap m:=
 let ⟨m,hn,_⟩:=I.loc
 ⟨m,hn,I.bk,le_trans I.ok.bsz I.ok.above⟩
theorem Inv.lt(I:Inv X pins σ H s):X.env.locals<s.heap.objs.size:=let ⟨_,hn,_⟩:=I.loc;hn.lt
theorem Inv.sz(I:Inv X pins σ H s):X.s₀.heap.objs.size<=s.heap.objs.size:=le_trans I.ok.above (le_of_lt I.lt)
theorem Inv.nofs(I:Inv X pins σ H s) {a:Addr}(h:s.heap.objs.size<=a):a∉X.fs:=fun hb=>by
 obtain⟨_,o,ho,_⟩:=I.ok.funs.mem hb;exact absurd (lt_of_lt_of_le (Heap.lt_size ho) (le_trans I.sz h)) (lt_irrefl _)
theorem Inv.cne(I:Inv X pins σ H s):∀x c,X.env.cells.lookup x=some c->c≠X.env.locals:=fun x c e z=>by
 obtain⟨v,o,ho,hd⟩:=I.cell x c e;obtain⟨m,⟨o',es,ep,ho',hd',_⟩,_⟩:=I.loc;rw[z,ho'] at ho;cases ho;rw[hd'] at hd;cases hd
theorem Inv.funs(I:Inv X pins σ H s):s.heap.FunFrames X.base X.outer:=by
 have all:∀(l:List Env),(∀b∈frs l,b∈X.fs)->X.s₀.heap.FunFrames X.base l->s.heap.FunFrames X.base l:=by
  intro l;induction l with
  | nil=>intro _ _;trivial
  | cons env r ih=>
   intro hs hl;obtain⟨hk,⟨L,o,hf,hn,ho,hd⟩,hr⟩:=hl;have hL:L∈X.fs:=hs L (by unfold frs;rw[filterMap_cons,hf];exact mem_cons_self)
   obtain⟨sl,e⟩:=I.base.slot L o ho (I.ok.frf L hL) hL fun z=>I.ok.exfs L z hL;exact⟨hk,⟨L,_,hf,hn,e,hd⟩,ih (fun b hb=>hs b (by unfold frs;rw[filterMap_cons,hf];exact mem_cons_of_mem _ hb)) hr⟩
 exact all X.outer (fun _ hb=>hb) I.ok.funs
theorem Inv.stack(I:Inv X pins σ H s):s.heap.FunFrames X.base X.stack:=by
 rcases I.ok.stk with e|⟨e,hf⟩
 ·rw[e];exact I.funs
 ·rw[e]
  obtain⟨m,hn,_⟩:=I.loc;refine .cons (by rw[I.ok.kind];decide) hf hn ?_ I.funs
  exact Heap.get?_none_of_le (le_trans I.ok.bsz I.ok.above)
theorem Inv.stkSub(I:Inv X pins σ H s):∀b∈frs X.stack,b∈X.env.locals::X.fs:=fun b hb=>by
 rcases I.ok.stk with e|⟨e,hf⟩
 ·rw[e] at hb;exact mem_cons_of_mem _ hb
 ·rw[e] at hb
  unfold frs at hb;rw[filterMap_cons,hf] at hb;exact hb
theorem Inv.stkFree(I:Inv X pins σ H s):∀b∈frs X.stack,H b=none:=fun b hb=>by
 rcases List.mem_cons.mp (I.stkSub b hb) with e|hb
 ·rw[e];exact I.free
 ·obtain⟨_,o,ho,_⟩:=I.ok.funs.mem hb
  exact I.base.free b o ho (I.ok.frf b hb) fun z=>I.ok.exfs b z hb
theorem Inv.step{g':Array GenState}{t':Nat}{d':Drawn}{ch:List Addr}(I:Inv X pins σ H s)
  (hch:∀b∈ch,(b∈X.ex\/X.s₀.heap.objs.size<=b)/\b≠X.env.locals/\(∀x c,X.env.cells.lookup x=some c->c≠b)/\∀p∈X.pn++pins,p.1≠b)
  (keep:∀b o,b≠X.env.locals->b∉X.fs->b∉ch->s.heap.get? b=some o->H b=none->h'.get? b=some o)
  (slot:∀b o,b≠X.env.locals->b∈X.fs->b∉ch->s.heap.get? b=some o->H b=none->∃sl,h'.get? b=some { o with slots:=sl }) (free:∀b o,b∉ch->s.heap.get? b=some o->H b=none->H' b=none)
  (there:∀b o,b∉ch->s.heap.get? b=some o->∃o',h'.get? b=some o')
  (tups:∀b xs,H b=some (.tup xs)->H' b=some (.tup xs)) (frzs:∀b o u,H b=some (.frz o u)->H' b=some (.frz o u)) (tbls:∀b ps,H b=some (.tbl ps)->∃more,H' b=some (.tbl (ps++more)))
  (ns:∀m,s.heap.Ns X.env.locals m->h'.Ns X.env.locals m) (hok:HOk X.prog X.w H' h') (hg:AllBare g') :
  Inv X pins σ H' { s with heap:=h',gens:=g',drawn:=d',toks:=t' }:=by
 have neL:∀b o,X.s₀.heap.get? b=some o->b≠X.env.locals:=fun b o e=>ne_of_lt (lt_of_lt_of_le (Heap.lt_size e) I.ok.above);have neC:∀b o,X.s₀.heap.get? b=some o->b∉X.ex->b∉ch:=fun b o e hx hb=>by
  rcases (hch b hb).1 with z|z
  ·exact hx z
  ·exact absurd (lt_of_lt_of_le (Heap.lt_size e) z) (lt_irrefl _)
 have cellK:∀x c,X.env.cells.lookup x=some c->∀v,s.heap.IsCell c v->h'.IsCell c v:=fun x c e v ⟨o,ho,hd⟩=>by
  have nch:c∉ch:=fun z=>(hch c z).2.2.1 x c e rfl;by_cases hc:c∈X.fs
  ·obtain⟨sl,q⟩:=slot c o (I.cne x c e) hc nch ho (I.freeC x c e)
   exact⟨_,q,hd⟩
  ·exact⟨o,keep c o (I.cne x c e) hc nch ho (I.freeC x c e),hd⟩
 refine⟨I.ok,I.os,hg,⟨fun b o e n hb hx=>?_,fun b o e n hb hx=>?_,fun b o e n hx=>?_,fun b o e hx=>?_,fun b xs e=>tups b xs (I.base.tups b xs e),fun b o xs e=>frzs b o xs (I.base.frzs b o xs e),fun b ps e=>?_⟩,?_,fun x c e=>?_,?_,fun x c e=>?_,fun p hp=>?_,hok,I.len⟩
 ·exact keep b o (neL b o e) hb (neC b o e hx) (I.base.keep b o e n hb hx) (I.base.free b o e n hx)
 ·obtain⟨sl,e1⟩:=I.base.slot b o e n hb hx
  obtain⟨sl',e2⟩:=slot b _ (neL b o e) hb (neC b o e hx) e1 (I.base.free b o e n hx);exact⟨sl',e2⟩
 ·obtain⟨o',e1⟩:=I.base.there b o e hx
  exact free b o' (neC b o e hx) e1 (I.base.free b o e n hx)
 ·obtain⟨o',e1⟩:=I.base.there b o e hx
  exact there b o' (neC b o e hx) e1
 ·obtain⟨m1,e1⟩:=I.base.tbls b ps e
  obtain⟨m2,e2⟩:=tbls b _ e1;exact⟨m1++m2,by rw[e2,Array.append_assoc]⟩
 ·obtain⟨m,hn,hl⟩:=I.loc
  refine⟨m,ns m hn,fun i x v e1 e2 e3=>?_⟩;obtain⟨u,r,l⟩:=hl i x v e1 e2 e3;refine⟨u,r,?_⟩;rcases l with l|⟨k,c,e,z⟩
  ·exact .inl l
  ·exact .inr ⟨k,c,e,cellK x c e _ z⟩
 ·obtain⟨v,z⟩:=I.cell x c e
  exact⟨v,cellK x c e v z⟩
 ·obtain⟨m,⟨o,_,_,ho,_⟩,_⟩:=I.loc
  exact free _ o (fun z=>(hch _ z).2.1 rfl) ho I.free
 ·obtain⟨v,o,ho,hd⟩:=I.cell x c e
  exact free c o (fun z=>(hch c z).2.2.1 x c e rfl) ho (I.freeC x c e)
 ·obtain⟨e,n,ne,nf,d⟩:=I.pin p hp
  have nch:p.1∉ch:=fun z=>(hch p.1 z).2.2.2 p hp rfl;exact⟨keep p.1 p.2 ne nf nch e n,free p.1 p.2 nch e n,ne,nf,d⟩
theorem Inv.un{t':Nat}(I:Inv X pins σ H s) (u:Un X.fs [] H H' s.heap h') (hok:HOk X.prog X.w H' h'):Inv X pins σ H' { s with heap:=h',toks:=t' }:=by
 obtain⟨m,⟨o,es,ep,ho,r⟩,_⟩:=id I.loc;obtain⟨sl,hL⟩:=u.any ho I.free (by simp)
 exact I.step (g':=s.gens) (d':=s.drawn) (ch:=[]) (fun _ z=>nomatch z) (fun b o _ hb _ e n=>u.keep b o e n hb (by simp)) (fun b o _ hb _ e n=>u.slot b o e n hb (by simp)) (fun b o _ e n=>u.free b o e n (by simp)) (fun b o _ e=>u.there b o e (by simp)) u.tups u.frzs u.tbls (fun m' hm=>by
  obtain⟨o',es',ep',ho',r'⟩:=hm;rw[ho] at ho';cases ho';exact⟨_,es',ep',hL,r'⟩) hok I.bare
theorem Inv.call{g':Array GenState}{t':Nat}{d':Drawn}{ch:List Addr}(I:Inv X pins σ H s) (u:Un (frs X.stack) ch H H' s.heap h') (hok:HOk X.prog X.w H' h') (hg:AllBare g')
  (hch:∀b∈ch,(b∈X.ex\/X.s₀.heap.objs.size<=b)/\b≠X.env.locals/\(∀x c,X.env.cells.lookup x=some c->c≠b)/\∀p∈X.pn++pins,p.1≠b) :
  Inv X pins σ H' { s with heap:=h',gens:=g',drawn:=d',toks:=t' }:=by
 obtain⟨m,⟨o,es,ep,ho,r⟩,_⟩:=id I.loc;obtain⟨sl,hL⟩:=u.any ho I.free fun z=>(hch _ z).2.1 rfl;exact I.step (ch:=ch) hch (fun b o hL hb hc e n=>u.keep b o e n (fun z=>(List.mem_cons.mp (I.stkSub b z)).elim hL hb) hc) (fun b o _ _ hc e n=>u.any e n hc) (fun b o hc e n=>u.free b o e n hc) (fun b o hc e=>u.there b o e hc) u.tups u.frzs u.tbls (fun m' hm=>by
  obtain⟨o',es',ep',ho',r'⟩:=hm;rw[ho] at ho';cases ho';exact⟨_,es',ep',hL,r'⟩) hok hg
theorem Inv.turned{t':Nat}{it:Addr}(I:Inv X pins σ H s) (k:∀b o,b≠it->s.heap.get? b=some o->h'.get? b=some o) (hn:H it=none) (hL:it≠X.env.locals)
  (h1:it∈X.ex\/X.s₀.heap.objs.size<=it) (h2:∀x c,X.env.cells.lookup x=some c->c≠it) (h3:∀p∈X.pn++pins,p.1≠it):Inv X pins σ H { s with heap:=h',toks:=t' }:=by
 have nit:∀b u,H b=some u->b≠it:=fun b u e z=>by rw[z,hn] at e;cases e
 refine I.step (g':=s.gens) (d':=s.drawn) (ch:=[it]) (fun b hb=>?_) (fun b o _ _ hc e _=>k b o (fun z=>hc (by simp [z])) e) (fun b o _ _ hc e _=>⟨o.slots,k b o (fun z=>hc (by simp [z])) e⟩) (fun _ _ _ _ n=>n)
  (fun b o hc e=>⟨o,k b o (fun z=>hc (by simp [z])) e⟩) (fun _ _ e=>e) (fun _ _ _ e=>e) (fun b ps e=>⟨#[],by rw[e];simp⟩) (fun m hm=>?_) (fun b u e=>?_) I.bare
 ·have e:b=it:=by simpa using hb
  subst e;exact⟨h1,hL,h2,h3⟩
 ·obtain⟨o,es,ep,ho,r⟩:=hm
  exact⟨o,es,ep,k _ o (Ne.symm hL) ho,r⟩
 ·refine(I.hok b u e).stay (fun c v hc q=>k c v ?_ q) (fun _ q=>q) fun _ _ q=>q
  rcases hc with z|z
  ·rw[z];exact nit b u e
  ·exact nit c _ z
theorem Inv.tok(I:Inv X pins σ H s) (t:Nat):Inv X pins σ H { s with toks:=t }:=I.un (h':=s.heap) (t':=t) Un.refl I.hok
theorem Inv.kept{t':Nat}(I:Inv X pins σ H s) (k:∀b u,s.heap.get? b=some u->h'.get? b=some u):Inv X pins σ H { s with heap:=h',toks:=t' }:=I.un (Un.kept k) (I.hok.kept k)
theorem Inv.laid{a:Addr}{o:HO}{t':Nat}(I:Inv X pins σ H s) (k:∀b u,s.heap.get? b=some u->h'.get? b=some u) (hp:s.heap.objs.size<=a) (new:yy X.prog X.w (upd H a o) h' a o) :
  Inv X pins σ (upd H a o) { s with heap:=h',toks:=t' }:=I.un (Un.laid k hp (I.hok.fresh hp)) (I.hok.laid k hp new)
theorem Inv.write{x e:Addr}{o:HO}{t':Nat}(I:Inv X pins σ H s) (mu:Mut (H x)) (he:e=x\/H e=some (.own x)) (k:∀b u,b≠e->s.heap.get? b=some u->h'.get? b=some u) (heo:∃u,h'.get? e=some u)
  (new:yy X.prog X.w (upd H x o) h' x o):Inv X pins σ (upd H x o) { s with heap:=h',toks:=t' }:=I.un (Un.write mu he k heo) (I.hok.write mu he k heo new)
theorem Inv.weak{σ':List (Option V)}(I:Inv X pins σ H s) (hl : σ'.length=σ.length) (w:∀(i:Nat) v,σ'[i]?=some (some v)->σ[i]?=some (some v)):Inv X pins σ' H s:=
 ⟨I.ok,I.os,I.bare,I.base,let ⟨m,hn,hl'⟩:=I.loc;⟨m,hn,fun i x v e1 e2 e3=>hl' i x v e1 (w i v e2) e3⟩,I.cell,I.free,I.freeC,I.pin,I.hok,hl.trans I.len⟩
theorem Inv.pins_of{pins':List (Addr×Obj)}(I:Inv X pins σ H s) (h:∀p∈pins',s.heap.get? p.1=some p.2/\H p.1=none/\p.1≠X.env.locals/\p.1∉X.fs/\∀v,p.2.data≠.cell v):Inv X pins' σ H s:=
 ⟨I.ok,I.os,I.bare,I.base,I.loc,I.cell,I.free,I.freeC,fun p hp=>(List.mem_append.mp hp).elim (fun z=>I.pin p (mem_append_left _ z)) (h p),I.hok,I.len⟩
theorem zbH{N:List Str}(hN:N.Nodup) {i j:Nat}{x:Str}(a:N[i]?=some x) (b:N[j]?=some x):i=j:=by
 obtain⟨h1,e1⟩:=List.getElem?_eq_some_iff.mp a;obtain⟨h2,e2⟩:=List.getElem?_eq_some_iff.mp b;exact(List.getElem_inj hN).mp (e1.trans e2.symm)
theorem qG{M:Model}{A:Around}{E:Value->Shared->Prop}{i:Nat}{x:Str}{v:V}{u:Value}{Q:Unit->Shared->Prop}(I:Inv X pins σ H s) (hN:X.N.Nodup) (hi:X.N[i]?=some x) (hx:Loc X.env.scope x) (r:zL v u)
  (h:∀s',Inv X pins (σ.set i (some v)) H s'->(∃a,Heap.SameBut a s.heap s'.heap/\(a=X.env.locals\/X.env.cells.lookup x=some a))->Q () s') (hf:X.fn x=true\/X.env.scope.names.lookup x=some .local:=by first|exact .inl rfl|exact .inr rfl|assumption):wpAny M A (storeName X.env x u) Q E s:=by
 obtain⟨m,hn,hl⟩:=id I.loc;have hcls:(X.env.scope.kind==.class||(X.env.scope.kind==.module&&X.env.locals != X.env.globals))=false:=by rw[I.ok.kind];rfl
 have hiσ : i<σ.length:=by rw[I.len];exact(List.getElem?_eq_some_iff.mp hi).1
 have cne:=I.cne;have tracked:∀{a:Addr}{h':Heap},(∃o,s.heap.get? a=some o/\H a=none)->Heap.SameBut a s.heap h'->HOk X.prog X.w H h':=fun {a h'} ha hs b ob e=>by
  obtain⟨_,_,hfree⟩:=ha;refine(I.hok b ob e).stay (fun c w' hc q=>(hs.2 c ?_).trans q) (fun _ q=>q) fun _ _ q=>q;rintro rfl;rcases hc with rfl|hc
  ·rw[hfree] at e;cases e
  ·rw[hfree] at hc;cases hc
 rcases hx with hk|hk
 ·refine wpAny_storeName_local hk hn (fun h' hn' hs=>?_) hcls
  obtain⟨oL,_,_,hoL,_⟩:=id hn;refine h _ ⟨I.ok,I.os,I.bare,⟨fun b o e n hb hx=>?_,fun b o e n hb hx=>?_,I.base.free,fun b o e hx=>?_,I.base.tups,I.base.frzs,I.base.tbls⟩,⟨_,hn',fun j y v' e1 e2 e3=>?_⟩,fun y c e=>?_,I.free,I.freeC,fun p hp=>?_,tracked ⟨oL,hoL,I.free⟩ hs,by simpa using I.len⟩ ⟨_,hs,.inl rfl⟩
  ·exact(hs.2 b (ne_of_lt (lt_of_lt_of_le (Heap.lt_size e) I.ok.above))).trans (I.base.keep b o e n hb hx)
  ·obtain⟨sl,e1⟩:=I.base.slot b o e n hb hx
   exact⟨sl,(hs.2 b (ne_of_lt (lt_of_lt_of_le (Heap.lt_size e) I.ok.above))).trans e1⟩
  ·obtain⟨o',e1⟩:=I.base.there b o e hx
   exact⟨o',(hs.2 b (ne_of_lt (lt_of_lt_of_le (Heap.lt_size e) I.ok.above))).trans e1⟩
  ·by_cases hj:j=i
   ·subst hj
    rw[hi] at e1;cases e1;rw[List.getElem?_set_self hiσ] at e2;cases e2;exact⟨u,r,.inl ⟨hk,by simp⟩⟩
   ·rw[getElem?_set_ne (Ne.symm hj)] at e2
    obtain⟨u',r',q⟩:=hl j y v' e1 e2 e3;refine⟨u',r',?_⟩;rcases q with ⟨k,e⟩|⟨k,c,e,z⟩
    ·refine .inl ⟨k,?_⟩
     have:y≠x:=fun e=>hj (zbH hN e1 (e ▸ hi))
     simp [this,e]
    ·exact .inr ⟨k,c,e,z.sameBut hs (cne y c e)⟩
  ·obtain⟨w',z⟩:=I.cell y c e
   exact⟨w',z.sameBut hs (cne y c e)⟩
  ·obtain⟨e,n,ne,nf,d⟩:=I.pin p hp
   exact⟨(hs.2 p.1 ne).trans e,n,ne,nf,d⟩
 ·have hfn:X.fn x=true:=by
   rcases hf with z|z
   ·exact z
   ·rw[z] at hk;cases hk
  obtain⟨c,hc⟩:=I.ok.has x (.inl hk);obtain⟨w',z⟩:=I.cell x c hc;refine wpAny_storeName_cell I.ok.kind hk hc z (fun h' hc' hs=>?_);obtain⟨oc,hoc,hocd⟩:=id z;refine h { s with heap:=h' } ⟨I.ok,I.os,I.bare,⟨fun b o e n hb hx=>?_,fun b o e n hb hx=>?_,I.base.free,fun b o e hx=>?_,I.base.tups,I.base.frzs,I.base.tbls⟩,⟨m,hn.sameBut hs (Ne.symm (cne x c hc)),fun j y v' e1 e2 e3=>?_⟩,fun y c' e=>?_,I.free,I.freeC,fun p hp=>?_,tracked ⟨oc,hoc,I.freeC x c hc⟩ hs,by simpa using I.len⟩ ⟨c,hs,.inr hc⟩
  ·exact(hs.2 b (ne_of_lt (lt_of_lt_of_le (Heap.lt_size e) (I.ok.cab x c hfn hc)))).trans (I.base.keep b o e n hb hx)
  ·obtain⟨sl,e1⟩:=I.base.slot b o e n hb hx
   exact⟨sl,(hs.2 b (ne_of_lt (lt_of_lt_of_le (Heap.lt_size e) (I.ok.cab x c hfn hc)))).trans e1⟩
  ·obtain⟨o',e1⟩:=I.base.there b o e hx
   exact⟨o',(hs.2 b (ne_of_lt (lt_of_lt_of_le (Heap.lt_size e) (I.ok.cab x c hfn hc)))).trans e1⟩
  ·by_cases hj:j=i
   ·subst hj
    rw[hi] at e1;cases e1;rw[List.getElem?_set_self hiσ] at e2;cases e2;exact⟨u,r,.inr ⟨.inl hk,c,hc,hc'⟩⟩
   ·rw[getElem?_set_ne (Ne.symm hj)] at e2
    obtain⟨u',r',q⟩:=hl j y v' e1 e2 e3;refine⟨u',r',?_⟩;rcases q with q|⟨k,c',e,z'⟩
    ·exact .inl q
    ·refine .inr ⟨k,c',e,z'.sameBut hs ?_⟩
     rintro rfl;exact hj (zbH hN e1 (I.ok.inj _ _ _ e hc ▸ hi))
  ·by_cases hcc:c'=c
   ·subst hcc;exact⟨_,hc'⟩
   ·obtain⟨w2,z2⟩:=I.cell y c' e
    exact⟨w2,z2.sameBut hs hcc⟩
  ·obtain⟨e,n,ne,nf,d⟩:=I.pin p hp
   refine⟨(hs.2 p.1 ?_).trans e,n,ne,nf,d⟩;intro q;rw[q,hoc] at e;have q':oc=p.2:=Option.some.inj e;exact d w' (by rw[<- q'];exact hocd)
theorem zbe{M:Model}{A:Around}{E:Value->Shared->Prop}{i:Nat}{x:Str}{v:V}{u:Value}{Q:Unit->Shared->Prop}(I:Inv X pins σ H s) (hN:X.N.Nodup) (hi:X.N[i]?=some x) (hx:Loc X.env.scope x) (r:zL v u)
  (h:∀s',Inv X pins (σ.set i (some v)) H s'->Q () s') (hf:X.fn x=true\/X.env.scope.names.lookup x=some .local:=by first|exact .inl rfl|exact .inr rfl|assumption):wpAny M A (storeName X.env x u) Q E s:=
 qG I hN hi hx r (fun s' I' _=>h s' I') hf
theorem Inv.call'{s':Shared}{ch:List Addr}(I:Inv X pins σ H s) (ho:s'.os=s.os) (u:Un (frs X.stack) ch H H' s.heap s'.heap) (hok:HOk X.prog X.w H' s'.heap) (hg:AllBare s'.gens)
  (hch:∀b∈ch,(b∈X.ex\/X.s₀.heap.objs.size<=b)/\b≠X.env.locals/\(∀x c,X.env.cells.lookup x=some c->c≠b)/\∀p∈X.pn++pins,p.1≠b):Inv X pins σ H' s':=by
 obtain⟨h',g',d',t',o'⟩:=s';have e:o'=s.os:=ho;subst e;exact I.call (g':=g') (t':=t') (d':=d') u hok hg hch
end
abbrev XK:=Value->Option Addr->Hp->Prop
abbrev St:=List (Option V)
abbrev VK:=V->Hp->Prop
abbrev TE:=St->Hp->VK->Prop
abbrev TT:=St->Hp->(Bool->Hp->Prop)->Prop
abbrev TA:=St->Hp->(List V->Hp->Prop)->Prop
structure jc where
 nx:St->Hp->Prop
 rt:VK
 bk:St->Hp->Prop:=fun _ _=>False
 ct:St->Hp->Prop:=fun _ _=>False
abbrev TS:=jc->St->Hp->Prop
def EP(X:Cx) (pins:List (Addr×Obj)) (σ : St) (Q:VK) (u:Value) (s':Shared):Prop:=∃v H',Inv X pins σ H' s'/\zL v u/\Q v H'
def TP(X:Cx) (pins:List (Addr×Obj)) (σ : St) (Q:Bool->Hp->Prop) (b:Bool) (s':Shared):Prop:=∃H',Inv X pins σ H' s'/\Q b H'
def AP(X:Cx) (pins:List (Addr×Obj)) (σ : St) (Q:List V->Hp->Prop) (us:List Value) (s':Shared):Prop:=∃vs H',Inv X pins σ H' s'/\zJ vs us/\Q vs H'
def SP(X:Cx) (pins:List (Addr×Obj)) (D:jc) (f:Flow) (s':Shared):Prop:=
 match f with
 | .next=>∃σ' H',Inv X pins σ' H' s'/\D.nx σ' H'
 | .brk=>∃σ' H',Inv X pins σ' H' s'/\D.bk σ' H'
 | .cont=>∃σ' H',Inv X pins σ' H' s'/\D.ct σ' H'
 | .ret u=>∃v σ' H',Inv X pins σ' H' s'/\zL v u/\D.rt v H'
structure PE(X:Cx) (e:Expr) (t:TE):Prop where
 run:∀(pins:List (Addr×Obj)) (s:Shared) (σ : St) (H:Hp) (Q:VK),Inv X pins σ H s->t σ H Q->wpAny (model X.prog X.w) X.A (eval e X.env) (EP X pins σ Q) X.xe s
instance {X:Cx}{e:Expr}{t:TE}:CoeFun (PE X e t) (fun _=>∀(pins:List (Addr×Obj)) (s:Shared) (σ : St) (H:Hp) (Q:VK),Inv X pins σ H s->t σ H Q->wpAny (model X.prog X.w) X.A (eval e X.env) (EP X pins σ Q) X.xe s):=⟨PE.run⟩
structure PT(X:Cx) (e:Expr) (t:TT):Prop where
 run:∀(pins:List (Addr×Obj)) (s:Shared) (σ : St) (H:Hp) (Q:Bool->Hp->Prop),Inv X pins σ H s->t σ H Q->wpAny (model X.prog X.w) X.A (isTrue e X.env (eval e X.env)) (TP X pins σ Q) X.xe s
instance {X:Cx}{e:Expr}{t:TT}:CoeFun (PT X e t) (fun _=>∀(pins:List (Addr×Obj)) (s:Shared) (σ : St) (H:Hp) (Q:Bool->Hp->Prop),Inv X pins σ H s->t σ H Q->wpAny (model X.prog X.w) X.A (isTrue e X.env (eval e X.env)) (TP X pins σ Q) X.xe s):=⟨PT.run⟩
structure PW(X:Cx) (e:Expr) (t:TT):Prop where
 run:∀(whole:Sem Value) (pins:List (Addr×Obj)) (s:Shared) (σ : St) (H:Hp) (Q:Bool->Hp->Prop),Inv X pins σ H s->t σ H Q->wpAny (model X.prog X.w) X.A (isTrue e X.env whole) (TP X pins σ Q) X.xe s
instance {X:Cx}{e:Expr}{t:TT}:CoeFun (PW X e t) (fun _=>∀(whole:Sem Value) (pins:List (Addr×Obj)) (s:Shared) (σ : St) (H:Hp) (Q:Bool->Hp->Prop),Inv X pins σ H s->t σ H Q->wpAny (model X.prog X.w) X.A (isTrue e X.env whole) (TP X pins σ Q) X.xe s):=⟨PW.run⟩
theorem PW.pt{X:Cx}{e:Expr}{t:TT}(h:PW X e t):PT X e t:=⟨h _⟩
structure PA(X:Cx) (es:List Expr) (t:TA):Prop where
 run:∀(pos:Pos) (pins:List (Addr×Obj)) (s:Shared) (σ : St) (H:Hp) (Q:List V->Hp->Prop),Inv X pins σ H s->t σ H Q->wpAny (model X.prog X.w) X.A (spliced (backTo pos (starEach es X.env))) (AP X pins σ Q) X.xe s
instance {X:Cx}{es:List Expr}{t:TA}:CoeFun (PA X es t) (fun _=>∀(pos:Pos) (pins:List (Addr×Obj)) (s:Shared) (σ : St) (H:Hp) (Q:List V->Hp->Prop),Inv X pins σ H s->t σ H Q->wpAny (model X.prog X.w) X.A (spliced (backTo pos (starEach es X.env))) (AP X pins σ Q) X.xe s):=⟨PA.run⟩
structure PS(X:Cx) (st:Stmt) (t:TS):Prop where
 run:∀(pins:List (Addr×Obj)) (s:Shared) (σ : St) (H:Hp) (D:jc),Inv X pins σ H s->t D σ H->wpAny (model X.prog X.w) X.A (exec st X.env) (SP X pins D) X.xe s
instance {X:Cx}{st:Stmt}{t:TS}:CoeFun (PS X st t) (fun _=>∀(pins:List (Addr×Obj)) (s:Shared) (σ : St) (H:Hp) (D:jc),Inv X pins σ H s->t D σ H->wpAny (model X.prog X.w) X.A (exec st X.env) (SP X pins D) X.xe s):=⟨PS.run⟩
structure PSs(X:Cx) (st:List Stmt) (t:TS):Prop where
 run:∀(pins:List (Addr×Obj)) (s:Shared) (σ : St) (H:Hp) (D:jc),Inv X pins σ H s->t D σ H->wpAny (model X.prog X.w) X.A (execs st X.env) (SP X pins D) X.xe s
instance {X:Cx}{st:List Stmt}{t:TS}:CoeFun (PSs X st t) (fun _=>∀(pins:List (Addr×Obj)) (s:Shared) (σ : St) (H:Hp) (D:jc),Inv X pins σ H s->t D σ H->wpAny (model X.prog X.w) X.A (execs st X.env) (SP X pins D) X.xe s):=⟨PSs.run⟩
theorem thn{α : Type}{t:Sem α}{Q Q' : α->Shared->Prop}{M:Model}{A:Around}{E:Value->Shared->Prop}{s:Shared}(h:wpAny M A t Q E s) (hQ:∀a s,Q a s->Q' a s):wpAny M A t Q' E s:=wpAny_mono h hQ fun _ _ x=>x
section
variable {X:Cx}
theorem bin{a b:Expr}{ta tb:TE}(ha:PE X a ta) (hb:PE X b tb) {pins:List (Addr×Obj)}{s:Shared}{σ : St}{H:Hp}{R:V->V->Hp->Prop}(I:Inv X pins σ H s) (h:ta σ H fun x H1=>tb σ H1 fun y H2=>R x y H2)
  {α : Type}{Q : α->Shared->Prop}{f:Value->Value->Sem α}
  (hf:∀v u s2 x y H2,Inv X pins σ H2 s2->zL x v->zL y u->R x y H2->wpAny (model X.prog X.w) X.A (f v u) Q X.xe s2) :
  wpAny (model X.prog X.w) X.A (eval a X.env) (fun v s₁=>wpAny (model X.prog X.w) X.A (eval b X.env) (fun u s₂=>wpAny (model X.prog X.w) X.A (f v u) Q X.xe s₂) X.xe s₁) X.xe s:=by
 refine thn (ha pins s σ H _ I h) fun v s1 ⟨x,H1,I1,r1,q1⟩=>?_;refine thn (hb pins s1 σ H1 _ I1 q1) fun u s2 ⟨y,H2,I2,r2,q2⟩=>?_;exact hf v u s2 x y H2 I2 r1 r2 q2
inductive zl2(i:Nat) (σ : St) (H:Hp) (Q:VK):Prop where
 | mk (v:V) (e : σ[i]?=some (some v)) (q:Q v H)
def zkb(i:Nat):TE:=fun σ H Q=>zl2 i σ H Q
def tC(v:V):TE:=fun _ H Q=>Q v H
theorem zjr{i:Nat}{x:Str}{pos:Pos}(hN:X.N[i]?=some x) (hv:Vis X.env.scope x) (hd:(x==("__debug__" : Str))=false:=by decide) (hcd:(x==("__classdict__" : Str))=false:=by decide):PE X (.Name x pos) (zkb i):=by
 refine⟨?_⟩;intro pins s σ H Q I h;obtain⟨v,e,h⟩:=h;obtain⟨m,hn,hl⟩:=I.loc;obtain⟨u,r,l⟩:=hl i x v hN e hv;have fin:EP X pins σ Q u s:=⟨v,H,I,r,h⟩;rcases l with ⟨hk,hm⟩|⟨hk,c,hc,hcell⟩
 ·exact wpAny_Name (wpAny_loadName_local I.ok.kind hk hn hm fin) hd
 ·rcases hk with hk|hk
  ·exact wpAny_Name (wpAny_loadName_cell I.ok.kind hk hc hcell fin) hd
  ·exact wpAny_Name (wpAny_loadName_free I.ok.kind hk hc hcell fin hcd) hd
theorem zg{i j pos}:PE X (.Constant (.int i) j pos) (tC (.int i)):=⟨fun _ _ _ H _ I h=>wpAny_Constant_int ⟨.int i,H,I.tok _,⟨_,rfl⟩,h⟩⟩
theorem vn{b j pos}:PE X (.Constant (.bool b) j pos) (tC (.bl b)):=⟨fun _ _ _ H _ I h=>Constant_bool ⟨.bl b,H,I,rfl,h⟩⟩
theorem uX{j pos}:PE X (.Constant .none j pos) (tC .non):=⟨fun _ _ _ H _ I h=>Constant_none ⟨.non,H,I,rfl,h⟩⟩
theorem zj{x j pos}:PE X (.Constant (.str x) j pos) (tC (.str x)):=⟨fun _ _ _ H _ I h=>Calls.Constant_str ⟨.str x,H,I.tok _,⟨_,rfl⟩,h⟩⟩
def Gl(X:Cx) (x:Str):Prop:=X.env.kindOf x=some .globalImplicit
theorem uH{E:Value->Shared->Prop}{pins:List (Addr×Obj)}{s:Shared}{σ : St}{H:Hp}{x:Str}{u:Value}{pos:Pos}{Q:Value->Shared->Prop}(I:Inv X pins σ H s) (hg:Gl X x) (hm:X.mg x=some u) (h:Q u s)
  (hd:(x==("__debug__" : Str))=false:=by decide):wpAny (model X.prog X.w) X.A (eval (.Name x pos) X.env) Q E s:=
 Calls.Name_function_global I.ok.kind hg (Calls.loadGlobal_global (by rw[I.ok.glob];exact I.mod.glob.keeps I.bk) hm h) hd
theorem vG{E:Value->Shared->Prop}{pins:List (Addr×Obj)}{s:Shared}{σ : St}{H:Hp}{x:Str}{u:Value}{pos:Pos}{Q:Value->Shared->Prop}(I:Inv X pins σ H s) (hg:Gl X x) (hm:X.mg x=none) (hv:bootBuiltins x=some u) (h:Q u s)
  (hn:x≠"__name__":=by decide) (hd:(x==("__debug__" : Str))=false:=by decide):wpAny (model X.prog X.w) X.A (eval (.Name x pos) X.env) Q E s:=by
 obtain⟨mb,h1,h2⟩:=I.mod.blt;exact Calls.Name_function_global I.ok.kind hg (Calls.loadGlobal_builtin (by rw[I.ok.glob];exact I.mod.glob.keeps I.bk) hm (by rw[I.ok.blt];exact h1.keeps I.bk) ((h2 x hn).trans hv) h) hd
theorem wy{x:Str}{v:V}{u:Value}{pos:Pos}(hg:Gl X x) (hm:X.mg x=some u) (r:zL v u) (hd:(x==("__debug__" : Str))=false:=by decide):PE X (.Name x pos) (tC v):=⟨fun _ _ _ H _ I h=>uH I hg hm ⟨v,H,I,r,h⟩ hd⟩
theorem wz{x:Str}{v:V}{u:Value}{pos:Pos}(hg:Gl X x) (hm:X.mg x=none) (hv:bootBuiltins x=some u) (r:zL v u) (hn:x≠"__name__":=by decide) (hd:(x==("__debug__" : Str))=false:=by decide):PE X (.Name x pos) (tC v):=⟨fun _ _ _ H _ I h=>vG I hg hm hv ⟨v,H,I,r,h⟩ hn hd⟩
variable {a b:Expr}{ta tb:TE}{pos:Pos}
structure PC(X:Cx) (op:CmpOp) (a b:Expr) (t:TE):Prop where
 run:∀(pins:List (Addr×Obj)) (s:Shared) (σ : St) (H:Hp) (Q:VK),Inv X pins σ H s->t σ H Q->
  wpAny (model X.prog X.w) X.A (eval a X.env) (fun v s₁=>wpAny (model X.prog X.w) X.A (eval b X.env) (fun u s₂=>wpAny (model X.prog X.w) X.A (compareOp op v u) (EP X pins σ Q) X.xe s₂) X.xe s₁) X.xe s
instance {X:Cx}{op:CmpOp}{a b:Expr}{t:TE}:CoeFun (PC X op a b t) (fun _=>∀(pins:List (Addr×Obj)) (s:Shared) (σ : St) (H:Hp) (Q:VK),Inv X pins σ H s->t σ H Q->
  wpAny (model X.prog X.w) X.A (eval a X.env) (fun v s₁=>wpAny (model X.prog X.w) X.A (eval b X.env) (fun u s₂=>wpAny (model X.prog X.w) X.A (compareOp op v u) (EP X pins σ Q) X.xe s₂) X.xe s₁) X.xe s):=⟨PC.run⟩
theorem zgh(b:Expr) {op:CmpOp}(h:op≠.In) (h2:op≠.NotIn):behindInMarks op b=false:=by
 have e1:(op==CmpOp.In)=false:=by cases op <;> first|rfl|exact absurd rfl h
 have e2:(op==CmpOp.NotIn)=false:=by cases op <;> first|rfl|exact absurd rfl h2
 cases b <;> simp [behindInMarks,e1,e2]
def zlm(ta:TE):TE:=fun σ H Q=>ta σ H fun x H1=>Q (.bl (decide (x=.non))) H1
def zkg(ta:TE):TE:=fun σ H Q=>ta σ H fun x H1=>Q (.bl (!decide (x=.non))) H1
theorem zL.none_iff{x:V}{v:Value}(r:zL x v):(v==Value.none)=decide (x=.non):=by
 cases x with
 | non=>cases r;rfl
 | bl _=>cases r;rfl
 | int _=>obtain⟨t,rfl⟩:=r;rfl
 | str _=>obtain⟨t,rfl⟩:=r;rfl
 | byt _=>obtain⟨t,rfl⟩:=r;rfl
 | flt _=>obtain⟨t,rfl⟩:=r;rfl
 | ref _=>cases r;rfl
 | ty _=>cases r;rfl
theorem wb{j pos'} (ha:PE X a ta):PC X .Is a (.Constant .none j pos') (zlm ta):=by
 refine⟨?_⟩;intro pins s σ H Q I h;refine thn (ha pins s σ H _ I h) fun v s1 ⟨x,H1,I1,r1,q1⟩=>?_;exact Constant_none (is_none_gen ⟨.bl _,H1,I1,by rw[r1.none_iff];rfl,q1⟩)
theorem uD{j pos'} (ha:PE X a ta):PC X .IsNot a (.Constant .none j pos') (zkg ta):=by
 refine⟨?_⟩;intro pins s σ H Q I h;refine thn (ha pins s σ H _ I h) fun v s1 ⟨x,H1,I1,r1,q1⟩=>?_;exact Constant_none (isnot_none_gen ⟨.bl _,H1,I1,by rw[r1.none_iff];rfl,q1⟩)
def tB(t:TE):TT:=fun σ H Q=>t σ H fun x H1=>∃c,x=.bl c/\Q c H1
theorem yL{op:CmpOp}{t:TE}(h:PC X op a b t) (h1:behindInMarks op b=false:=by first|exact zgh _ (by decide) (by decide)|rfl):PT X (.Compare a [op] [b] pos) (tB t):=by
 refine⟨?_⟩;intro pins s σ H Q I hw;refine wpAny_isTrue_Compare1 (thn (h pins s σ H _ I hw) fun v s1 h1=>thn h1 fun u s2 h2=>thn h2 fun c s3 ⟨x,H1,I1,r1,q1⟩=>?_) h1;obtain⟨d,rfl,q⟩:=q1;cases r1;exact wpAny_truthy_bool ⟨H1,I1,q⟩
theorem yk{e:Expr}{t:TE}(h:PE X e t) (he:∀whole,isTrue e X.env whole=(do let v <- whole;standAt e.pos;holding [v] (truthy v)):=by intro _;rfl):PT X e (tB t):=by
 refine⟨?_⟩;intro pins s σ H Q I hw;refine isTrue_plain (thn (h pins s σ H _ I hw) fun v s1 ⟨x,H1,I1,r1,q1⟩=>?_) (he _);obtain⟨d,rfl,q⟩:=q1;cases r1;exact wpAny_truthy_bool ⟨H1,I1,q⟩
variable {tA tB':TT}{wv:List Expr}
def zls(t u:TT):TT:=fun σ H Q=>t σ H fun c H1=>if c=true then u σ H1 Q else Q false H1
def tOr(t u:TT):TT:=fun σ H Q=>t σ H fun c H1=>if c=true then Q true H1 else u σ H1 Q
def zlk(t:TT):TT:=fun σ H Q=>t σ H fun c H1=>Q (!c) H1
theorem yd(ha:PT X a tA):PW X (.BoolOp .And [a] pos) tA:=by
 refine⟨?_⟩;intro wh pins s σ H Q I h;refine isTrue_and (thn (ha pins s σ H Q I h) fun c s1 e=>?_);cases c with
 | true=>exact isTrue_and_nil e
 | false=>exact e
theorem xM(ha:PT X a tA):PW X (.BoolOp .Or [a] pos) tA:=by
 refine⟨?_⟩;intro wh pins s σ H Q I h;refine isTrue_or (thn (ha pins s σ H Q I h) fun c s1 e=>?_);cases c with
 | false=>exact isTrue_or_nil e
 | true=>exact e
theorem yw(ha:PT X a tA) (hb:PW X (.BoolOp .And (b::wv) pos) tB'):PW X (.BoolOp .And (a::b::wv) pos) (zls tA tB'):=by
 refine⟨?_⟩;intro wh pins s σ H Q I h;refine isTrue_and (thn (ha pins s σ H _ I h) fun c s1 ⟨H1,I1,q1⟩=>?_);cases c with
 | true=>exact hb wh pins s1 σ H1 Q I1 q1
 | false=>exact⟨H1,I1,q1⟩
theorem wc(ha:PT X a tA) (hb:PW X (.BoolOp .Or (b::wv) pos) tB'):PW X (.BoolOp .Or (a::b::wv) pos) (tOr tA tB'):=by
 refine⟨?_⟩;intro wh pins s σ H Q I h;refine isTrue_or (thn (ha pins s σ H _ I h) fun c s1 ⟨H1,I1,q1⟩=>?_);cases c with
 | true=>exact⟨H1,I1,q1⟩
 | false=>exact hb wh pins s1 σ H1 Q I1 q1
theorem xf(ha:PT X a tA):PT X (.UnaryOp .Not a pos) (zlk tA):=by
 refine⟨?_⟩;intro pins s σ H Q I h;exact isTrue_not (ha pins s σ H (fun c H1=>Q (!c) H1) I h)
def zkm(ta tb:TE):TE:=fun σ H Q=>ta σ H fun x H1=>∃c,x=.bl c/\if c=true then tb σ H1 Q else Q (.bl false) H1
def zkf(ta:TE):TE:=fun σ H Q=>ta σ H fun x H1=>∃c,x=.bl c/\Q (.bl (!c)) H1
theorem zaP{op} {t:TE}(h:PE X a t):PE X (.BoolOp op [a] pos) t:=⟨fun pins s σ H Q I hw=>BoolOp_one (h pins s σ H Q I hw)⟩
theorem zaS(ha:PE X a ta) (hb:PE X (.BoolOp .And (b::wv) pos) tb):PE X (.BoolOp .And (a::b::wv) pos) (zkm ta tb):=by
 refine⟨?_⟩;intro pins s σ H Q I h;refine BoolOp_and (thn (ha pins s σ H _ I h) fun v s1 ⟨x,H1,I1,r1,q1⟩=>?_);obtain⟨c,rfl,q1⟩:=q1;cases r1;refine wpAny_truthy_bool ?_;cases c with
 | true=>exact hb pins s1 σ H1 Q I1 q1
 | false=>exact⟨.bl false,H1,I1,rfl,q1⟩
theorem zjs(ha:PE X a ta):PE X (.UnaryOp .Not a pos) (zkf ta):=by
 refine⟨?_⟩;intro pins s σ H Q I h;refine UnaryOp_ (thn (ha pins s σ H _ I h) fun v s1 ⟨x,H1,I1,r1,q1⟩=>?_);obtain⟨c,rfl,q1⟩:=q1;cases r1;exact not_of (wpAny_truthy_bool ⟨.bl (!c),H1,I1,rfl,q1⟩)
def tIf(t:TT) (ta tb:TE):TE:=fun σ H Q=>t σ H fun c H1=>if c=true then ta σ H1 Q else tb σ H1 Q
theorem vB{c:Expr}(hc:PT X c tA) (ha:PE X a ta) (hb:PE X b tb):PE X (.IfExp c a b pos) (tIf tA ta tb):=by
 refine⟨?_⟩;intro pins s σ H Q I h;refine wpAny_IfExp (thn (hc pins s σ H _ I h) fun d s1 ⟨H1,I1,q1⟩=>?_);cases d with
 | true=>exact ha pins s1 σ H1 Q I1 q1
 | false=>exact hb pins s1 σ H1 Q I1 q1
end
def SqL(K:Frag) (H:Hp) (a:Addr) (xs:List V):Prop:=
 Rd H a (.lst xs)\/
  ∃(o:Obj) (its:Array Value) (n:Nat),K.lookup a=some o/\o.cls=.type "list"/\o.dict=none/\o.data=.seq its n/\its.size<=sizeLine/\zJ xs its.toList
def SqT(K:Frag) (H:Hp) (a:Addr) (xs:List V):Prop:=
 Rd H a (.tup xs)\/
  ∃(o:Obj) (its:Array Value) (n:Nat),K.lookup a=some o/\o.cls=.type "tuple"/\o.data=.seq its n/\its.size<=sizeLine/\zJ xs its.toList
def zlX:Value->Option V
 | .none=>some .non
 | .bool b=>some (.bl b)
 | .int i _=>some (.int i)
 | .str x _=>some (.str x)
 | .bytes b _=>some (.byt b)
 | .float b _=>some (.flt b)
 | .ref a=>some (.ref a)
 | .type n=>some (.ty n)
 | _=>none
theorem zL.abs{x:V}{u:Value}(r:zL x u):zlX u=some x:=by
 cases x with
 | non=>cases r;rfl
 | bl _=>cases r;rfl
 | int _=>obtain⟨t,rfl⟩:=r;rfl
 | str _=>obtain⟨t,rfl⟩:=r;rfl
 | byt _=>obtain⟨t,rfl⟩:=r;rfl
 | flt _=>obtain⟨t,rfl⟩:=r;rfl
 | ref _=>cases r;rfl
 | ty _=>cases r;rfl
theorem zL.inj{x y:V}{u:Value}(r:zL x u) (q:zL y u):x=y:=Option.some.inj (r.abs.symm.trans q.abs)
theorem zJ.inj:∀{xs ys:List V}{us:List Value},zJ xs us->zJ ys us->xs=ys
 | _,_,_,.nil,.nil=>rfl
 | _,_,_,.cons r t,.cons r' t'=>by rw[r.inj r',zJ.inj t t']
section
variable {X:Cx}{pins:List (Addr×Obj)}{σ : St}{H:Hp}{s:Shared}{a:Addr}{xs ys:List V}
theorem SqL.of{K:Frag}(h:H a=some (.lst xs)):SqL K H a xs:=.inl (.inl h)
theorem SqT.of{K:Frag}(h:H a=some (.tup xs)):SqT K H a xs:=.inl (.inl h)
theorem Inv.list(I:Inv X pins σ H s) (h:SqL X.K H a xs):∃its:List Value,zJ xs its/\PlainL s.heap a its.toArray/\xs.length<=sizeLine:=by
 rcases h with h|⟨o,its,n,hk,hc,hd,hs,hz,r⟩
 ·obtain⟨z,its,n,r,e⟩:=h.ok I.hok
  exact⟨its,r,⟨_,n,e,rfl,rfl,rfl⟩,z⟩
 ·refine⟨its.toList,r,⟨o,n,I.kIn a o hk,hc,hd,by simpa using hs⟩,?_⟩
  have e:=r.length;simp only[Array.length_toList] at e;omega
theorem Inv.tuple(I:Inv X pins σ H s) (h:SqT X.K H a xs):∃its:List Value,zJ xs its/\IsTup s.heap a its.toArray/\xs.length<=sizeLine:=by
 rcases h with h|⟨o,its,n,hk,hc,hs,hz,r⟩
 ·obtain⟨z,its,r,p⟩:=h.ok I.hok
  exact⟨its,r,p,z⟩
 ·refine⟨its.toList,r,⟨o,I.kIn a o hk,hc,n,by simpa using hs⟩,?_⟩
  have e:=r.length;simp only[Array.length_toList] at e;omega
theorem Inv.list_inj(I:Inv X pins σ H s) (h:SqL X.K H a xs) (h':SqL X.K H a ys):xs=ys:=by
 obtain⟨its,r,⟨o,n,e,_,_,d⟩,_⟩:=I.list h;obtain⟨its',r',⟨o',n',e',_,_,d'⟩,_⟩:=I.list h';rw[e] at e';cases e';rw[d] at d';injection d' with d1 _
 have:its=its':=by simpa using congrArg Array.toList d1
 subst this;exact r.inj r'
end
abbrev Cx.wish(X:Cx) (E:Value->Shared->Prop):Cx:={ X with xe:=E }
abbrev Cx.nox(X:Cx):Cx:=X.wish fun _ _=>False
theorem Cx.Ok.wish{X:Cx}(ok:X.Ok) (E:Value->Shared->Prop):(X.wish E).Ok:=
 ⟨ok.mod,ok.kind,ok.glob,ok.blt,ok.above,ok.inj,ok.has,ok.cab,ok.hd,ok.frames,ok.stk,ok.exf,ok.bs,ok.bsz,ok.noex,ok.exfs,ok.funs,ok.frf⟩
theorem Cx.Ok.unwish{X:Cx}{E:Value->Shared->Prop}(ok:(X.wish E).Ok):X.Ok:=
 ⟨ok.mod,ok.kind,ok.glob,ok.blt,ok.above,ok.inj,ok.has,ok.cab,ok.hd,ok.frames,ok.stk,ok.exf,ok.bs,ok.bsz,ok.noex,ok.exfs,ok.funs,ok.frf⟩
section
variable {X:Cx}{pins:List (Addr×Obj)}{σ : St}{H:Hp}{s:Shared}{E:Value->Shared->Prop}
theorem Inv.wish(I:Inv X pins σ H s) (E:Value->Shared->Prop):Inv (X.wish E) pins σ H s:=⟨I.ok.wish E,I.os,I.bare,I.base,I.loc,I.cell,I.free,I.freeC,I.pin,I.hok,I.len⟩
theorem Inv.unwish(I:Inv (X.wish E) pins σ H s):Inv X pins σ H s:=⟨I.ok.unwish,I.os,I.bare,I.base,I.loc,I.cell,I.free,I.freeC,I.pin,I.hok,I.len⟩
theorem SP.unwish{D:jc}{f:Flow}{s':Shared}(h:SP (X.wish E) pins D f s'):SP X pins D f s':=by
 cases f with
 | next=>obtain⟨σ',H',I,q⟩:=h;exact⟨σ',H',I.unwish,q⟩
 | brk=>obtain⟨σ',H',I,q⟩:=h;exact⟨σ',H',I.unwish,q⟩
 | cont=>obtain⟨σ',H',I,q⟩:=h;exact⟨σ',H',I.unwish,q⟩
 | ret u=>obtain⟨v,σ',H',I,r,q⟩:=h;exact⟨v,σ',H',I.unwish,r,q⟩
theorem PSs.nox{st:List Stmt}{t:TS}(h:PSs X.nox st t):PSs X st t:=⟨fun pins s σ H D I hw=>
 wpAny_mono (h pins s σ H D (I.wish _) hw) (fun _ _ q=>q.unwish) fun _ _ z=>False.elim z⟩
end
section
variable {X:Cx}{st:Stmt}{wv:List Stmt}{t u:TS}{e:Expr}{te:TE}{pos:Pos}
def ze5:TS:=fun D σ H=>D.nx σ H
def wn(t u:TS):TS:=fun D σ H=>t { D with nx:=u D } σ H
theorem zv:PSs X [] ze5:=⟨fun _ _ σ H _ I h=>wpAny_execs_nil ⟨σ,H,I,h⟩⟩
theorem zf(h1:PS X st t) (h2:PSs X wv u):PSs X (st::wv) (wn t u):=by
 refine⟨?_⟩;intro pins s σ H D I h;refine wpAny_execs_cons (thn (h1 pins s σ H { D with nx:=u D } I h) fun f s1 q=>?_)
 cases f with
 | next=>
  obtain⟨σ',H',I',q⟩:=q;exact h2 pins s1 σ' H' D I' q
 | ret v=>exact q
 | brk=>exact q
 | cont=>exact q
theorem ze(h1:PS X st t):PSs X [st] t:=by
 refine⟨?_⟩;intro pins s σ H D I h;refine wpAny_execs_cons (thn (h1 pins s σ H D I h) fun f s1 q=>?_);cases f with
 | next=>exact wpAny_execs_nil q
 | ret v=>exact q
 | brk=>exact q
 | cont=>exact q
def zkl:TS:=fun D σ H=>D.ct σ H
theorem zbs:PS X (.Continue pos) zkl:=⟨fun _ _ σ H _ I h=>wpAny_Continue ⟨σ,H,I,h⟩⟩
theorem Inv.quiet{pins:List (Addr×Obj)}{σ : St}{H:Hp}{s:Shared}(I:Inv X pins σ H s):interactive X.env=false:=by simp [interactive,I.ok.kind]
def zki(te:TE):TS:=fun D σ H=>te σ H fun _ H1=>D.nx σ H1
theorem zI(he:PE X e te) (hs:swapsWith e none pos.line X.env=pure false:=by rfl):PS X (.Expr e pos) (zki te):=by
 refine⟨?_⟩;intro pins s σ H D I h;exact wpAny_Expr_any (thn (he pins s σ H _ I h) fun v s1 ⟨x,H1,I1,r1,q1⟩=>⟨σ,H1,I1,q1⟩) I.quiet hs
def zlj(te:TE):TS:=fun D σ H=>te σ H D.rt
theorem zq(he:PE X e te):PS X (.Return (some e) pos) (zlj te):=by
 refine⟨?_⟩;intro pins s σ H D I h;exact wpAny_Return_some (thn (he pins s σ H _ I h) fun v s1 ⟨x,H1,I1,r1,q1⟩=>⟨x,σ,H1,I1,r1,q1⟩)
def zln(c:TT) (t u:TS):TS:=fun D σ H=>c σ H fun b H1=>if b=true then t D σ H1 else u D σ H1
theorem zH{c:Expr}{a b:List Stmt}{tc:TT}(hc:PT X c tc) (ha:PSs X a t) (hb:PSs X b u):PS X (.If c a b pos) (zln tc t u):=by
 refine⟨?_⟩;intro pins s σ H D I h;refine wpAny_If (thn (hc pins s σ H _ I h) fun d s1 ⟨H1,I1,q1⟩=>?_);cases d with
 | true=>exact ha pins s1 σ H1 D I1 q1
 | false=>exact hb pins s1 σ H1 D I1 q1
end
abbrev TG:=V->St->Hp->(St->Hp->Prop)->Prop
abbrev TGs:=List V->St->Hp->(St->Hp->Prop)->Prop
structure PG(X:Cx) (target:Expr) (t:TG):Prop where
 run:∀(pins:List (Addr×Obj)) (s:Shared) (σ : St) (H:Hp) (v:V) (u:Value) (Q:St->Hp->Prop),Inv X pins σ H s->zL v u->t v σ H Q->
  wpAny (model X.prog X.w) X.A (assign target X.env u) (fun _ s'=>∃σ' H',Inv X pins σ' H' s'/\Q σ' H') X.xe s
instance {X:Cx}{target:Expr}{t:TG}:CoeFun (PG X target t) (fun _=>∀(pins:List (Addr×Obj)) (s:Shared) (σ : St) (H:Hp) (v:V) (u:Value) (Q:St->Hp->Prop),Inv X pins σ H s->zL v u->t v σ H Q->
  wpAny (model X.prog X.w) X.A (assign target X.env u) (fun _ s'=>∃σ' H',Inv X pins σ' H' s'/\Q σ' H') X.xe s):=⟨PG.run⟩
structure PGs(X:Cx) (ts:List Expr) (t:TGs):Prop where
 run:∀(pins:List (Addr×Obj)) (s:Shared) (σ : St) (H:Hp) (vs:List V) (us:List Value) (Q:St->Hp->Prop),Inv X pins σ H s->zJ vs us->t vs σ H Q->
  wpAny (model X.prog X.w) X.A (assignInOrder ((assignEach ts X.env).map (·.2)) us) (fun _ s'=>∃σ' H',Inv X pins σ' H' s'/\Q σ' H') X.xe s
instance {X:Cx}{ts:List Expr}{t:TGs}:CoeFun (PGs X ts t) (fun _=>∀(pins:List (Addr×Obj)) (s:Shared) (σ : St) (H:Hp) (vs:List V) (us:List Value) (Q:St->Hp->Prop),Inv X pins σ H s->zJ vs us->t vs σ H Q->
  wpAny (model X.prog X.w) X.A (assignInOrder ((assignEach ts X.env).map (·.2)) us) (fun _ s'=>∃σ' H',Inv X pins σ' H' s'/\Q σ' H') X.xe s):=⟨PGs.run⟩
abbrev zj4:=V->V->V->Hp->(Hp->Prop)->Prop
def zle(X:Cx) (t:zj4):Prop:=
 ∀(pins:List (Addr×Obj)) (s:Shared) (σ : St) (H:Hp) (o i v:V) (ov iv u:Value) (Q:Hp->Prop),Inv X pins σ H s->zL o ov->zL i iv->zL v u->t o i v H Q->
  wpAny (model X.prog X.w) X.A (setItem ov iv u) (fun _ s'=>∃H',Inv X pins σ H' s'/\Q H') X.xe s
section
variable {X:Cx}{pos:Pos}
def yr(i:Nat):TG:=fun v σ H Q=>Q (σ.set i (some v)) H
theorem zl{i:Nat}{x:Str}(hN:X.N.Nodup) (hi:X.N[i]?=some x) (hx:Loc X.env.scope x) (hf:X.fn x=true\/X.env.scope.names.lookup x=some .local:=by first|exact .inl rfl|exact .inr rfl|assumption):PG X (.Name x pos) (yr i):=by
 refine⟨?_⟩;intro pins s σ H v u Q I r h;exact wpAny_assign_Name (zbe I hN hi hx r (fun s' I'=>⟨_,H,I',h⟩) hf)
def zk7:TGs:=fun vs σ H Q=>vs=[]/\Q σ H
def zgD(t:TG) (u:TGs):TGs:=fun vs σ H Q=>∃v r,vs=v::r/\t v σ H fun σ' H'=>u r σ' H' Q
theorem zS:PGs X [] zk7:=by
 refine⟨?_⟩;intro pins s σ H vs us Q I r h;obtain⟨e,h⟩:=h;subst e;cases r;exact assignInOrder_nil ⟨σ,H,I,h⟩
theorem zp{e:Expr}{es:List Expr}{t:TG}{u:TGs}(h1:PG X e t) (h2:PGs X es u)
  (hs:(assignEach (e::es) X.env).map (·.2)=assign e X.env::(assignEach es X.env).map (·.2):=by rfl):PGs X (e::es) (zgD t u):=by
 refine⟨?_⟩;intro pins s σ H vs us Q I r h;obtain⟨v,vr,e1,h⟩:=h;subst e1;cases r with
 | cons r rr=>
  rw[hs];refine assignInOrder_cons (thn (h1 pins s σ H _ _ _ I r h) fun _ s1 ⟨σ1,H1,I1,q1⟩=>?_);exact h2 pins s1 σ1 H1 _ _ Q I1 rr q1
def zk6(K:Frag) (n:Nat) (t:TGs):TG:=fun v σ H Q=>∃a xs,v=.ref a/\SqT K H a xs/\xs.length=n/\t xs σ H Q
theorem yi{es:List Expr}{k:Nat}{t:TGs}{n:Nat}(hc:X.calm=true) (h:PGs X es t)
  (hn:(assignEach es X.env).length=n:=by rfl) (hst:(assignEach es X.env).findIdx? (·.1)=none:=by rfl):PG X (.Tuple es k pos) (zk6 X.K n t):=by
 refine⟨?_⟩;intro pins s σ H v u Q I r hw;obtain⟨a,xs,e1,hq,hl,hw⟩:=hw;subst e1;cases r;obtain⟨its,rv,ht,hz⟩:=I.tuple hq;refine assign_Tuple_tuple (I.ok.hd hc) ht (by simp [hn,<- hl,rv.length]) hst fun h' hx=>?_
 have I1:Inv X pins σ H { s with heap:=h' }:=I.kept (t':=s.toks) fun b o e=>hx b o (ne_of_lt (Heap.lt_size e)) e
 exact h pins _ σ H xs _ Q I1 (by simpa using rv) hw
def zlU(to ti:TE) (t:zj4):TG:=fun v σ H Q=>to σ H fun o H1=>ti σ H1 fun i H2=>t o i v H2 fun H3=>Q σ H3
theorem uW{o i:Expr}{to ti:TE}{t:zj4}(ho:PE X o to) (hi:PE X i ti) (hs:zle X t)
  (ha:∀v,assign (.Subscript o i pos) X.env v=(do
   let ov <- holding [v] (eval o X.env)
   let iv <- holding [v,ov] (eval i X.env)
   standAt pos
   holding [v,ov,iv] (setItem ov iv v)
   release [v,ov,iv] []):=by intro _;rfl):PG X (.Subscript o i pos) (zlU to ti t):=by
 refine⟨?_⟩;intro pins s σ H v u Q I r h;rw[ha];refine wpAny_bind (wpAny_holding (thn (ho pins s σ H _ I h) fun ov s1 ⟨x,H1,I1,r1,q1⟩=>?_));refine wpAny_bind (wpAny_holding (thn (hi pins s1 σ H1 _ I1 q1) fun iv s2 ⟨y,H2,I2,r2,q2⟩=>?_));refine wpAny_bind (wpAny_standAt (wpAny_bind (wpAny_holding (thn (hs pins s2 σ H2 x y v ov iv u _ I2 r1 r2 r q2) fun _ s3 ⟨H3,I3,q3⟩=>?_))));exact wpAny_release ⟨σ,H3,I3,q3⟩
def ziY(te:TE) (g:TG):TS:=fun D σ H=>te σ H fun x H1=>g x σ H1 D.nx
theorem xN{tg e:Expr}{te:TE}{g:TG}(he:PE X e te) (hg:PG X tg g) (hs:swapsWithSole [tg] e pos.line X.env=pure false:=by rfl) (hw:swappedStores [tg] e X.env=pure none:=by rfl)
  (h1:(assignEach [tg] X.env).map (·.2)=[assign tg X.env]:=by rfl):PS X (.Assign [tg] e pos) (ziY te g):=by
 refine⟨?_⟩;intro pins s σ H D I h;refine wpAny_Assign_stores (thn (he pins s σ H _ I h) fun v s1 ⟨x,H1,I1,r1,q1⟩=>?_) hs hw;rw[h1];exact thn (hg pins s1 σ H1 x v _ I1 r1 q1) fun _ s2 q=>q
theorem zu{i:Nat}{x:Str}{e:Expr}{te:TE}{pos':Pos}(hN:X.N.Nodup) (hi:X.N[i]?=some x) (hx:Loc X.env.scope x) (he:PE X e te) (hs:swapsWith e (some (.Name x pos')) pos.line X.env=pure false:=by rfl) (hf:X.fn x=true\/X.env.scope.names.lookup x=some .local:=by first|exact .inl rfl|exact .inr rfl|assumption) :
  PS X (.Assign [.Name x pos'] e pos) (ziY te (yr i)):=by
 refine⟨?_⟩;intro pins s σ H D I h;refine wpAny_Assign_Name (thn (he pins s σ H _ I h) fun v s1 ⟨y,H1,I1,r1,q1⟩=>?_) hs;exact zbe I1 hN hi hx r1 (fun s2 I2=>⟨_,H1,I2,q1⟩) hf
def ziR(c:TT) (tb:TS):TS:=fun D σ H=>∃W:Nat->St->Hp->Prop,(∃m,W m σ H)/\∀m σ H,W m σ H->
 c σ H fun b H1=>if b=true then ∃N:St->Hp->Prop,(∀σ' H',N σ' H'->∃m',m'<m/\W m' σ' H')/\tb { D with nx:=N,ct:=N,bk:=D.nx } σ H1 else D.nx σ H1
theorem zfM{c:Expr}{body:List Stmt}{tc:TT}{tb:TS}(hp:PassesOwn (model X.prog X.w) X.A X.env X.xe) (hc:PT X c tc) (hb:PSs X body tb):PS X (.While c body [] pos) (ziR tc tb):=by
 refine⟨?_⟩;intro pins s σ H D I h;obtain⟨W,⟨m0,w0⟩,turn⟩:=h;refine wpAny_While (codeAny_whileLoop (fun n s'=>∃σ' H',Inv X pins σ' H' s'/\W n σ' H') ?_ m0 ⟨σ,H,I,w0⟩);rintro n s1 ⟨σ1,H1,I1,w1⟩;refine wpAny_passesOwn hp (thn (hc pins s1 σ1 H1 _ I1 (turn n σ1 H1 w1)) fun b s2 ⟨H2,I2,q2⟩=>?_);cases b with
 | true=>
  obtain⟨N,hN,q2⟩:=q2;rw[if_pos rfl];refine wpAny_passesOwn hp (thn (hb pins s2 σ1 H2 _ I2 q2) fun f s3 q3=>?_);cases f with
  | next=>
   obtain⟨σ3,H3,I3,n3⟩:=q3;obtain⟨m',hm,w3⟩:=hN σ3 H3 n3;exact⟨m',hm,σ3,H3,I3,w3⟩
  | cont=>
   obtain⟨σ3,H3,I3,n3⟩:=q3;obtain⟨m',hm,w3⟩:=hN σ3 H3 n3;exact⟨m',hm,σ3,H3,I3,w3⟩
  | brk=>exact q3
  | ret v=>exact q3
 | false=>
  rw[if_neg Bool.false_ne_true];exact wpAny_execs_nil ⟨σ1,H2,I2,q2⟩
end
structure It where
 go:Nat->Hp->Prop
 yld:Nat->Hp->V->Hp->Prop
 stop:Nat->Hp->Prop
def vK(X:Cx) (pins:List (Addr×Obj)) (H:Hp) (b:Addr):Prop:=
 H b=none/\b≠X.env.locals/\b∉X.fs/\(b∈X.ex\/X.s₀.heap.objs.size<=b)/\(∀x c,X.env.cells.lookup x=some c->c≠b)/\∀p∈X.pn++pins,p.1≠b
theorem Inv.fpOk{X:Cx}{pins:List (Addr×Obj)}{σ : St}{H H':Hp}{s:Shared}{b:Addr}(I:Inv X pins σ H s) (hb:s.heap.objs.size<=b) (hn:H' b=none):vK X pins H' b:=by
 refine⟨hn,ne_of_gt (lt_of_lt_of_le I.lt hb),I.nofs hb,.inr (le_trans I.sz hb),fun x c e z=>?_,fun p hp z=>?_⟩
 ·obtain⟨v,q⟩:=I.cell x c e
  exact absurd (lt_of_lt_of_le q.lt (by rw[z];exact hb)) (lt_irrefl _)
 ·exact absurd (lt_of_lt_of_le (Heap.lt_size (I.pin p hp).1) (by rw[z];exact hb)) (lt_irrefl _)
structure za8(P:Program) (w:World) (K:Frag) (tg:Expr) (J:It) (fp:List Addr) (it:Addr) (tn:Nat->Heap->Prop):Prop where
 mem:it∈fp
 obj:∀i h,tn i h->∀b∈fp,∃o,h.get? b=some o/\∀v,o.data≠.cell v
 keep:∀i h h',tn i h->(∀b∈fp,∀o,h.get? b=some o->h'.get? b=some o)->tn i h'
 item:∀(X:Cx),X.prog=P->X.w=w->X.K=K->X.calm=true->∀(i:Nat) (pins:List (Addr×Obj)) (s:Shared) (σ : St) (H:Hp) (E:Value->Shared->Prop),Inv X pins σ H s->(∀b∈fp,vK X pins H b)->tn i s.heap->J.go i H->
  wpAny (model P w) X.A (pyNext (.ref it)) (fun r s1=>∃u,r=some u/\
   wpAny (model P w) X.A (letOwnedTupleGo tg (.ref it) u) (fun _ s2=>∃x H',Inv X pins σ H' s2/\zL x u/\J.yld i H x H'/\tn (i+1) s2.heap/\∀b∈fp,H' b=none) E s1) E s
 done:∀(X:Cx),X.prog=P->X.w=w->X.K=K->X.calm=true->∀(i:Nat) (pins:List (Addr×Obj)) (s:Shared) (σ : St) (H:Hp) (E:Value->Shared->Prop),Inv X pins σ H s->(∀b∈fp,vK X pins H b)->tn i s.heap->J.stop i H->
  wpAny (model P w) X.A (pyNext (.ref it)) (fun r s1=>r=none/\Inv X pins σ H s1) E s
 self:∀(A:Around) (i:Nat) (s:Shared) (Q:Value->Shared->Prop) (E:Value->Shared->Prop),tn i s.heap->Q (.ref it) s->wpAny (model P w) A (pyIter (.ref it)) Q E s
abbrev TI:=St->Hp->(It->Hp->Prop)->Prop
def PIE(X:Cx) (pins:List (Addr×Obj)) (σ : St) (tg:Expr) (R:It->Hp->Prop) (itv:Value) (s2:Shared):Prop:=
 ∃(it:Addr) (fp:List Addr) (tn:Nat->Heap->Prop) (J:It) (H':Hp),itv=.ref it/\Inv X pins σ H' s2/\za8 X.prog X.w X.K tg J fp it tn/\tn 0 s2.heap/\(∀b∈fp,vK X pins H' b)/\R J H'
structure PI(X:Cx) (tg iter:Expr) (wi:TI):Prop where
 run:∀(pins:List (Addr×Obj)) (s:Shared) (σ : St) (H:Hp) (R:It->Hp->Prop),Inv X pins σ H s->wi σ H R->
  wpAny (model X.prog X.w) X.A (eval iter X.env) (fun v s1=>wpAny (model X.prog X.w) X.A (pyIter v) (PIE X pins σ tg R) X.xe s1) X.xe s
instance {X:Cx}{tg iter:Expr}{wi:TI}:CoeFun (PI X tg iter wi) (fun _=>∀(pins:List (Addr×Obj)) (s:Shared) (σ : St) (H:Hp) (R:It->Hp->Prop),Inv X pins σ H s->wi σ H R->
  wpAny (model X.prog X.w) X.A (eval iter X.env) (fun v s1=>wpAny (model X.prog X.w) X.A (pyIter v) (PIE X pins σ tg R) X.xe s1) X.xe s):=⟨PI.run⟩
theorem zdP{M:Model}{A:Around}{E:Value->Shared->Prop}{s:Shared}{tg:Expr}{it:Addr}{u:Value}{o:Obj}{n:String}{vs:Array Value}{Q:Unit->Shared->Prop}(ho:s.heap.get? it=some o) (hc:o.cls=.type n) (hd:o.data=.fields vs)
  (hn:["enumerate","zip","dict_itemiterator","dict_reverseitemiterator","odict_iterator","itertools.zip_longest","itertools.pairwise"].contains n=false) (hQ:Q () s):wpAny M A (letOwnedTupleGo tg (.ref it) u) Q E s:=by
 unfold letOwnedTupleGo;cases tg <;> first
  | exact wpAny_pure hQ
  | (cases u <;> first
    | exact wpAny_pure hQ
    | (refine wpAny_bind (wpAny_load ho ?_)
       rw[hc,hd];show wpAny M A (if (["enumerate","zip","dict_itemiterator","dict_reverseitemiterator","odict_iterator","itertools.zip_longest","itertools.pairwise"].contains n&&vs[0]?==some (rawInt _))=true then _ else _) Q E s
       rw[if_neg (by intro h;rw[hn,Bool.false_and] at h;cases h)]
       exact wpAny_pure hQ))
def Itl(K:Frag) (a:Addr):It:=
 ⟨fun i H=>∃xs x,SqL K H a xs/\xs[i]?=some x,fun i H x H'=>H'=H/\∀xs,SqL K H a xs->xs[i]?=some x,fun i H=>∃xs,SqL K H a xs/\xs.length<=i⟩
def Itr(lo:Int) (n:Nat):It:=⟨fun i _=>i<n,fun i H x H'=>H'=H/\x=.int (lo+i),fun i _=>n<=i⟩
theorem zd5{P:Program}{w:World}{K:Frag}{tg:Expr}(a it:Addr):za8 P w K tg (Itl K a) [it] it (fun i h=>h.IsListIter it a i) where
 mem:=by simp
 obj:=fun i h st b hb=>by
  have e:b=it:=by simpa using hb
  subst e;obtain⟨o,e,c,d⟩:=st;exact⟨o,e,fun v z=>by rw[d] at z;cases z⟩
 keep:=fun i h h' st k=>st.at fun o e=>k it (by simp) o e
 item:=by
  intro X hP hw hK hc i pins s σ H E I hf st hg;subst hP hw hK;obtain⟨xs,x,hq,hx⟩:=hg;obtain⟨its,rv,p,hz⟩:=I.list hq;obtain⟨u,hu,ru⟩:=rv.get hx;obtain⟨f0,f1,f2,f3,f4,f5⟩:=hf it (by simp)
  refine wpAny_pyNext_list_item st p.isList (x:=u) (by simpa using hu) fun h' st' sb=>?_
  have I1:Inv X pins σ H { s with heap:=h' }:=I.turned (t':=s.toks) (fun b o hb e=>(sb.2 b hb).trans e) f0 f1 f3 f4 f5
  obtain⟨o,e,c,d⟩:=id st';exact⟨u,rfl,zdP (s:={ s with heap:=h' }) e c d (by decide) ⟨x,H,I1,ru,⟨rfl,fun ys hy=>by rw[I.list_inj hy hq];exact hx⟩,st',fun b hb=>(hf b hb).1⟩⟩
 done:=by
  intro X hP hw hK hc i pins s σ H E I hf st hg;subst hP hw hK;obtain⟨xs,hq,hx⟩:=hg;obtain⟨its,rv,p,hz⟩:=I.list hq;obtain⟨f0,f1,f2,f3,f4,f5⟩:=hf it (by simp)
  have hl:=rv.length;exact wpAny_pyNext_list_end (I.ok.hd hc) st p.isList (by simp;omega) fun h' eb=>⟨rfl,I.turned (t':=s.toks) (fun b o hb e=>eb b o hb e) f0 f1 f3 f4 f5⟩
 self:=fun _ _ _ _ _ st h=>wpAny_pyIter_listiter st h
theorem zcd{P:Program}{w:World}{K:Frag}{tg:Expr}(it:Addr) (lo:Int) (n:Nat):za8 P w K tg (Itr lo n) [it] it (fun i h=>IsRangeIter h it (lo+(i:Nat) * 1) ((n:Int) - (i:Nat)) 1) where
 mem:=by simp
 obj:=fun i h st b hb=>by
  have e:b=it:=by simpa using hb
  subst e;exact⟨_,st,fun v z=>by
   have z':Data.fields _=Data.cell v:=z;cases z'⟩
 keep:=fun i h h' st k=>k it (by simp) _ st
 item:=by
  intro X hP hw hK hc i pins s σ H E I hf st hg;subst hP hw hK;obtain⟨f0,f1,f2,f3,f4,f5⟩:=hf it (by simp)
  have W:=Walks.range (prog:=X.prog) (w:=X.w) (I.ok.hd hc) it lo 1 n;refine W.item i s _ _ hg st fun v h' tk hv st' kk=>?_;obtain⟨t,rfl⟩:=hv;have I1:Inv X pins σ H { s with heap:=h',toks:=tk }:=I.turned (fun b o hb e=>kk b o (by simpa using hb) e) f0 f1 f3 f4 f5
  refine⟨_,rfl,zdP (s:={ s with heap:=h',toks:=tk }) (n:="range_iterator") st' rfl rfl (by decide) ⟨.int (lo+i),H,I1,⟨t,?_⟩,⟨rfl,rfl⟩,st',fun b hb=>(hf b hb).1⟩⟩
  rw[Int.mul_one]
 done:=by
  intro X hP hw hK hc i pins s σ H E I hf st hg;subst hP hw hK;obtain⟨f0,f1,f2,f3,f4,f5⟩:=hf it (by simp)
  exact wpAny_pyNext_range_end (I.ok.hd hc) st (by have:n<=i:=hg;omega) fun h' eb=>⟨rfl,I.turned (t':=s.toks) (fun b o hb e=>eb b o hb e) f0 f1 f3 f4 f5⟩
 self:=fun _ _ _ _ _ st h=>wpAny_pyIter_rangeiter st h
section
variable {X:Cx}{tg:Expr}
def zk4(K:Frag) (tl:TE):TI:=fun σ H R=>tl σ H fun x H1=>∃a,x=.ref a/\(∃xs,SqL K H1 a xs)/\R (Itl K a) H1
theorem yE{l:Expr}{tl:TE}(hl:PE X l tl):PI X tg l (zk4 X.K tl):=by
 refine⟨?_⟩;intro pins s σ H R I h;refine thn (hl pins s σ H _ I h) fun v s1 ⟨x,H1,I1,r1,q1⟩=>?_;obtain⟨a,e,⟨xs,hq⟩,q⟩:=q1;subst e;cases r1;obtain⟨its,rv,p,hz⟩:=I1.list hq;refine wpAny_pyIter_list p.isList ?_;refine⟨s1.heap.objs.size,[s1.heap.objs.size],_,_,H1,rfl,I1.kept (t':=s1.toks) fun b o e=>Heap.get?_push_of_some _ e,zd5 a _,⟨_,Heap.get?_push_size _ rfl,rfl,rfl⟩,fun b hb=>?_,q⟩;have e:b=s1.heap.objs.size:=by simpa using hb
 subst e;exact I1.fpOk (le_refl _) (I1.hok.fresh (le_refl _))
theorem zbr{pins:List (Addr×Obj)}{σ : St}{H:Hp}{s:Shared}{R:It->Hp->Prop}{E:Value->Shared->Prop}{lo hi:Int}{t u v:Tok}{tk:Nat}(I:Inv X pins σ H s) (h1 : -(2 ^ 62)<=lo) (h2:lo<2 ^ 62) (h3 : -(2 ^ 62)<=hi) (h4:hi<2 ^ 62)
  (q:R (Itr lo (hi - lo).toNat) H):wpAny (model X.prog X.w) X.A (pyIter (.ref s.heap.objs.size)) (PIE X pins σ tg R) E { s with heap:=s.heap.push { cls:=.type "range",data:=.fields #[.int lo t,.int hi u,.int 1 v] },toks:=tk }:=by
 refine wpAny_pyIter_range (IsRange.new ..) (small_one h1 h2 h3 h4) ?_;have I1:Inv X pins σ H { s with heap:=s.heap.push { cls:=.type "range",data:=.fields #[.int lo t,.int hi u,.int 1 v] },toks:=tk }:=I.kept fun b o e=>Heap.get?_push_of_some _ e
 refine⟨(s.heap.push { cls:=.type "range",data:=.fields #[.int lo t,.int hi u,.int 1 v] }).objs.size,[(s.heap.push { cls:=.type "range",data:=.fields #[.int lo t,.int hi u,.int 1 v] }).objs.size],_,_,H,rfl,
  I1.kept (t':=tk) fun b o e=>Heap.get?_push_of_some _ e,zcd _ lo (hi - lo).toNat,?_,fun b hb=>?_,q⟩
 ·have e1:lo+((0:Nat):Int) * 1=lo:=by simp
  have e2:(((hi - lo).toNat:Nat):Int) - ((0:Nat):Int)=Builtin.Range.rangeSize lo hi 1:=by rw[rangeSize_one];split <;> omega
  show IsRangeIter _ _ (lo+((0:Nat):Int) * 1) ((((hi - lo).toNat:Nat):Int) - ((0:Nat):Int)) 1;rw[e1,e2];exact Heap.get?_push_size _ rfl
 ·have e:b=(s.heap.push { cls:=.type "range",data:=.fields #[.int lo t,.int hi u,.int 1 v] }).objs.size:=by simpa using hb
  subst e;exact I1.fpOk (le_refl _) (I1.hok.fresh (le_refl _))
def zk3(ta:TA):TI:=fun σ H R=>ta σ H fun vs H1=>∃j:Int,vs=[.int j]/\-(2 ^ 62)<=j/\j<2 ^ 62/\R (Itr 0 j.toNat) H1
def zk2(ta:TA):TI:=fun σ H R=>ta σ H fun vs H1=>∃i j:Int,vs=[.int i,.int j]/\(-(2 ^ 62)<=i/\i<2 ^ 62/\-(2 ^ 62)<=j/\j<2 ^ 62)/\R (Itr i (j - i).toNat) H1
theorem xO{a:Expr}{ta:TA}{p pos:Pos}(hg:Gl X "range") (hm:X.mg "range"=none) (ha:PA X [a] ta) (hs:starEach [a] X.env=[(false,eval a X.env)]:=by rfl):PI X tg (.Call (.Name "range" p) [a] [] pos) (zk3 ta):=by
 refine⟨?_⟩;intro pins s σ H R I h;refine Call_ (vG I hg hm boot_range (PyProof.Rows.callWith_type1 (thn (ha pos pins s σ H _ I h) fun us s1 ⟨vs,H1,I1,r1,q1⟩=>?_) hs rfl));obtain⟨j,e,q1,q2,q⟩:=q1;subst e;cases r1 with
 | cons r rr=>
  cases rr;obtain⟨t,rfl⟩:=r;exact call_range_1 (zbr I1 (by omega) (by omega) q1 q2 (by simpa using q))
theorem zei{a b:Expr}{ta:TA}{p pos:Pos}(hg:Gl X "range") (hm:X.mg "range"=none) (ha:PA X [a,b] ta) (hs:starEach [a,b] X.env=[(false,eval a X.env),(false,eval b X.env)]:=by rfl) (hs2:starEach [b] X.env=[(false,eval b X.env)]:=by rfl) :
  PI X tg (.Call (.Name "range" p) [a,b] [] pos) (zk2 ta):=by
 refine⟨?_⟩;intro pins s σ H R I h;refine Call_ (vG I hg hm boot_range (PyProof.Rows.callWith_type1 (thn (ha pos pins s σ H _ I h) fun us s1 ⟨vs,H1,I1,r1,q1⟩=>?_) (by rw[hs,hs2]) (by rw[hs2];rfl)))
 obtain⟨i,j,e,⟨q1,q2,q3,q4⟩,q⟩:=q1;subst e;cases r1 with
 | cons r rr=>
  cases rr with
  | cons r' rr=>
   cases rr;obtain⟨t,rfl⟩:=r;obtain⟨t',rfl⟩:=r';exact call_range_2 (zbr I1 q1 q2 q3 q4 q)
def zlp(wi:TI) (g:TG) (tb:TS):TS:=fun D σ H=>wi σ H fun J H1=>∃W:Nat->Nat->St->Hp->Prop,(∃m,W 0 m σ H1)/\∀i m σ H,W i m σ H->
 (J.stop i H/\D.nx σ H)\/(J.go i H/\∃N:St->Hp->Prop,(∀σ' H',N σ' H'->∃m',m'<m/\W (i+1) m' σ' H')/\∀x H',J.yld i H x H'->g x σ H' fun σ2 H2=>tb { D with nx:=N,ct:=N,bk:=D.nx } σ2 H2)
def uV(fp:List Addr) (h:Heap):List (Addr×Obj):=fp.filterMap fun b=>(h.get? b).map fun o=>(b,o)
theorem xQ{fp:List Addr}{h:Heap}{b:Addr}{o:Obj}(hb:b∈fp) (e:h.get? b=some o):(b,o)∈uV fp h:=List.mem_filterMap.mpr ⟨b,hb,by rw[e];rfl⟩
theorem zet{fp:List Addr}{h:Heap}{p:Addr×Obj}(hp:p∈uV fp h):p.1∈fp/\h.get? p.1=some p.2:=by
 obtain⟨b,hb,e⟩:=List.mem_filterMap.mp hp;cases q:h.get? b with
 | none=>rw[q] at e;cases e
 | some o=>
  rw[q] at e;have e':(b,o)=p:=Option.some.inj e;subst e';exact⟨hb,q⟩
theorem Inv.pinned{pins:List (Addr×Obj)}{σ : St}{H:Hp}{s:Shared}{fp:List Addr}(I:Inv X pins σ H s) (hf:∀b∈fp,vK X pins H b) (ho:∀b∈fp,∃o,s.heap.get? b=some o/\∀v,o.data≠.cell v):Inv X (pins++uV fp s.heap) σ H s:=
 I.pins_of fun p hp=>(List.mem_append.mp hp).elim (fun z=>I.pin p (mem_append_right _ z)) fun z=>by
  obtain⟨hb,e⟩:=zet z;obtain⟨f0,f1,f2,_⟩:=hf p.1 hb;obtain⟨o,e',d⟩:=ho p.1 hb;rw[e] at e';cases e';exact⟨e,f0,f1,f2,d⟩
theorem Inv.unpinned{pins pl:List (Addr×Obj)}{σ : St}{H:Hp}{s:Shared}(I:Inv X (pins++pl) σ H s):Inv X pins σ H s:=I.pins_of fun p hp=>I.pin p (mem_append_right _ (mem_append_left _ hp))
theorem xq{iter:Expr}{body:List Stmt}{wi:TI}{g:TG}{tb:TS}{pos:Pos}(hp:PassesOwn (model X.prog X.w) X.A X.env X.xe) (hc:X.calm=true) (hi:PI X tg iter wi) (hg:PG X tg g) (hb:PSs X body tb)
  (hs:∀x,foldedSetIterable iter X.env x=pure x:=by intro _;rfl):PS X (.For tg iter body [] pos) (zlp wi g tb):=by
 refine⟨?_⟩;intro pins s σ H D I h;refine wpAny_For (thn (hi pins s σ H _ I h) fun v s1 h1=>thn h1 fun itv s2 h2=>?_) hs;obtain⟨it,fp,tn,J,H2,e,I2,T,st2,f2,W,⟨m0,w0⟩,turn⟩:=h2;subst e;have stat:∀{H':Hp},(∀b∈fp,H' b=none)->∀b∈fp,vK X pins H' b:=fun hn b hb=>⟨hn b hb,(f2 b hb).2⟩;refine codeAny_forLoop_any (fun n s'=>∃i σ' H',Inv X pins σ' H' s'/\tn i s'.heap/\(∀b∈fp,H' b=none)/\W i n σ' H') ?_ m0 ⟨0,σ,H2,I2,st2,fun b hb=>(f2 b hb).1,w0⟩;rintro n s3 ⟨i,σ3,H3,I3,st3,fr3,w3⟩;rcases turn i n σ3 H3 w3 with ⟨stop,qn⟩|⟨go,N,hN,step⟩
 ·refine wpAny_passesOwn hp (thn (T.done X rfl rfl rfl hc i pins s3 σ3 H3 X.xe I3 (stat fr3) st3 stop) fun r s4 ⟨hr,I4⟩=>?_)
  subst hr;exact wpAny_execs_nil ⟨σ3,H3,I4,qn⟩
 ·refine wpAny_passesOwn hp (thn (T.item X rfl rfl rfl hc i pins s3 σ3 H3 X.xe I3 (stat fr3) st3 go) fun r s4 ⟨u,hr,h4⟩=>?_)
  subst hr;refine wpAny_passesOwn hp (thn h4 fun _ s5 ⟨x,H5,I5,r5,y5,st5,fr5⟩=>?_);have I5':=I5.pinned (stat fr5) (T.obj _ _ st5);refine wpAny_passesOwn hp (thn (hg _ s5 σ3 H5 x u _ I5' r5 (step x H5 y5)) fun _ s6 ⟨σ6,H6,I6,q6⟩=>?_);refine wpAny_passesOwn hp (thn (hb _ s6 σ6 H6 _ I6 q6) fun f s7 q7=>?_);have again:∀{σ7:St}{H7:Hp},Inv X (pins++uV fp s5.heap) σ7 H7 s7->N σ7 H7->∃m,m<n/\∃i σ' H',Inv X pins σ' H' s7/\tn i s7.heap/\(∀b∈fp,H' b=none)/\W i m σ' H':=fun {σ7 H7} I7 n7=>by
   obtain⟨m',hm,w7⟩:=hN σ7 H7 n7;refine⟨m',hm,i+1,σ7,H7,I7.unpinned,T.keep _ _ _ st5 fun b hb o e=>(I7.pin (b,o) (mem_append_right _ (mem_append_right _ (xQ hb e)))).1,fun b hb=>?_,w7⟩;obtain⟨o,e,d⟩:=T.obj _ _ st5 b hb;exact(I7.pin (b,o) (mem_append_right _ (mem_append_right _ (xQ hb e)))).2.1
  cases f with
  | next=>obtain⟨σ7,H7,I7,n7⟩:=q7;exact again I7 n7
  | cont=>obtain⟨σ7,H7,I7,n7⟩:=q7;exact again I7 n7
  | brk=>obtain⟨σ7,H7,I7,q7⟩:=q7;exact⟨σ7,H7,I7.unpinned,q7⟩
  | ret v=>obtain⟨x7,σ7,H7,I7,r7,q7⟩:=q7;exact⟨x7,σ7,H7,I7.unpinned,r7,q7⟩
end
theorem uN{K:Frag}{a:Addr}{xs:List V}{g:TG}{tb:TS}{D:jc}{σ : St}{H:Hp}(Pv:Nat->St->Hp->Prop) (h0:Pv 0 σ H) (hl:∀i σ H,i<=xs.length->Pv i σ H->SqL K H a xs)
  (hs:∀i x σ H,xs[i]?=some x->Pv i σ H->g x σ H fun σ2 H2=>tb { D with nx:=Pv (i+1),ct:=Pv (i+1),bk:=D.nx } σ2 H2) (hd:∀σ H,Pv xs.length σ H->D.nx σ H) :
  ∃W:Nat->Nat->St->Hp->Prop,(∃m,W 0 m σ H)/\∀i m σ H,W i m σ H->
   ((Itl K a).stop i H/\D.nx σ H)\/((Itl K a).go i H/\∃N:St->Hp->Prop,(∀σ' H',N σ' H'->∃m',m'<m/\W (i+1) m' σ' H')/\∀x H',(Itl K a).yld i H x H'->g x σ H' fun σ2 H2=>tb { D with nx:=N,ct:=N,bk:=D.nx } σ2 H2):=by
 refine⟨fun i m σ H=>m=xs.length - i/\i<=xs.length/\Pv i σ H,⟨xs.length,by simp,zero_le _,h0⟩,?_⟩
 rintro i m σ H ⟨rfl,hi,p⟩;have q:=hl i σ H hi p;by_cases hlt:i<xs.length
 ·refine .inr ⟨⟨xs,xs[i],q,by simp [hlt]⟩,Pv (i+1),fun σ' H' p'=>⟨xs.length - (i+1),by omega,rfl,hlt,p'⟩,fun x H' y=>?_⟩
  obtain⟨e,y⟩:=y;subst e;exact hs i x σ _ (y xs q) p
 ·have e:i=xs.length:=by omega
  subst e;exact .inl ⟨⟨xs,q,le_refl _⟩,hd σ H p⟩
theorem zae{lo:Int}{n:Nat}{g:TG}{tb:TS}{D:jc}{σ : St}{H:Hp}(Pv:Nat->St->Hp->Prop) (h0:Pv 0 σ H)
  (hs:∀i σ H,i<n->Pv i σ H->g (.int (lo+i)) σ H fun σ2 H2=>tb { D with nx:=Pv (i+1),ct:=Pv (i+1),bk:=D.nx } σ2 H2) (hd:∀σ H,Pv n σ H->D.nx σ H) :
  ∃W:Nat->Nat->St->Hp->Prop,(∃m,W 0 m σ H)/\∀i m σ H,W i m σ H->
   ((Itr lo n).stop i H/\D.nx σ H)\/((Itr lo n).go i H/\∃N:St->Hp->Prop,(∀σ' H',N σ' H'->∃m',m'<m/\W (i+1) m' σ' H')/\∀x H',(Itr lo n).yld i H x H'->g x σ H' fun σ2 H2=>tb { D with nx:=N,ct:=N,bk:=D.nx } σ2 H2):=by
 refine⟨fun i m σ H=>m=n - i/\i<=n/\Pv i σ H,⟨n,by simp,zero_le _,h0⟩,?_⟩
 rintro i m σ H ⟨rfl,hi,p⟩;by_cases hlt:i<n
 ·refine .inr ⟨hlt,Pv (i+1),fun σ' H' p'=>⟨n - (i+1),by omega,rfl,hlt,p'⟩,fun x H' y=>?_⟩
  obtain⟨e,y⟩:=y;subst e y;exact hs i σ _ hlt p
 ·have e:i=n:=by omega
  subst e;exact .inl ⟨le_refl _,hd σ H p⟩
abbrev R2:=V->V->Hp->VK->Prop
def OpR(X:Cx) (f:Value->Value->Sem Value) (r:R2):Prop:=
 ∀(pins:List (Addr×Obj)) (s:Shared) (σ : St) (H:Hp) (x y:V) (v u:Value) (Q:VK),Inv X pins σ H s->zL x v->zL y u->r x y H Q->
  wpAny (model X.prog X.w) X.A (f v u) (EP X pins σ Q) X.xe s
def UnR(X:Cx) (f:Value->Sem Value) (r:V->Hp->VK->Prop):Prop:=
 ∀(pins:List (Addr×Obj)) (s:Shared) (σ : St) (H:Hp) (x:V) (v:Value) (Q:VK),Inv X pins σ H s->zL x v->r x H Q->
  wpAny (model X.prog X.w) X.A (f v) (EP X pins σ Q) X.xe s
def xv(X:Cx) (f:Value) (r:List V->Hp->VK->Prop):Prop:=
 ∀(pins:List (Addr×Obj)) (s:Shared) (σ : St) (H:Hp) (xs:List V) (us:List Value) (Q:VK),Inv X pins σ H s->zJ xs us->r xs H Q->
  wpAny (model X.prog X.w) X.A (call f us) (EP X pins σ Q) X.xe s
def zlY(X:Cx) (r:V->Hp->(Bool->Hp->Prop)->Prop):Prop:=
 ∀(pins:List (Addr×Obj)) (s:Shared) (σ : St) (H:Hp) (x:V) (v:Value) (Q:Bool->Hp->Prop),Inv X pins σ H s->zL x v->r x H Q->
  wpAny (model X.prog X.w) X.A (truthy v) (TP X pins σ Q) X.xe s
def tOp(r:R2) (ta tb:TE):TE:=fun σ H Q=>ta σ H fun x H1=>tb σ H1 fun y H2=>r x y H2 Q
def tUn(r:V->Hp->VK->Prop) (ta:TE):TE:=fun σ H Q=>ta σ H fun x H1=>r x H1 Q
inductive IrI(C:Int->Int->Prop) (g:Int->Int->V) (x y:V) (H:Hp) (Q:VK):Prop where
 | mk (i j:Int) (e1:x=.int i) (e2:y=.int j) (c:C i j) (q:Q (g i j) H)
def rI(C:Int->Int->Prop) (g:Int->Int->V):R2:=fun x y H Q=>IrI C g x y H Q
inductive zl1(g:Int->Int->V) (x y:V) (H:Hp) (Q:VK):Prop where
 | mk (i j:Int) (e1:x=.int i) (e2:y=.int j) (q:Q (g i j) H)
def rI0(g:Int->Int->V):R2:=fun x y H Q=>zl1 g x y H Q
def rU(g:Int->V):V->Hp->VK->Prop:=fun x H Q=>∃i,x=.int i/\Q (g i) H
section
variable {X:Cx}{a b c:Expr}{ta tb tc:TE}{pos:Pos}
theorem zj2(ha:PE X a ta) (hb:PE X b tb) {pins:List (Addr×Obj)}{s:Shared}{σ : St}{H:Hp}{R:V->V->Hp->Prop}(I:Inv X pins σ H s)
  (h:ta σ H fun x H1=>tb σ H1 fun y H2=>R x y H2) {Q:Value->Shared->Prop}{f:Value->Value->Sem Value}
  (hf:∀v u s2 x y H2,Inv X pins σ H2 s2->zL x v->zL y u->R x y H2->wpAny (model X.prog X.w) X.A (f v u) Q X.xe s2) :
  wpAny (model X.prog X.w) X.A (eval a X.env) (fun v s₁=>wpAny (model X.prog X.w) X.A (eval b X.env) (fun u s₂=>wpAny (model X.prog X.w) X.A (f v u) Q X.xe s₂) X.xe s₁) X.xe s:=by
 refine thn (ha pins s σ H _ I h) fun v s1 ⟨x,H1,I1,r1,q1⟩=>?_;refine thn (hb pins s1 σ H1 _ I1 q1) fun u s2 ⟨y,H2,I2,r2,q2⟩=>?_;exact hf v u s2 x y H2 I2 r1 r2 q2
theorem zx{op:Operator}{r:R2}(ho:OpR X (binaryOp op) r) (ha:PE X a ta) (hb:PE X b tb):PE X (.BinOp a op b pos) (tOp r ta tb):=by
 refine⟨?_⟩;intro pins s σ H Q I h;exact wpAny_BinOp (zj2 ha hb I h fun v u s2 x y H2 I2 rx ry q=>ho pins s2 σ H2 x y v u Q I2 rx ry q)
theorem zbw{op:UnaryOp}{r:V->Hp->VK->Prop}(ho:UnR X (unaryOp op) r) (ha:PE X a ta):PE X (.UnaryOp op a pos) (tUn r ta):=by
 refine⟨?_⟩;intro pins s σ H Q I h;exact UnaryOp_ (thn (ha pins s σ H _ I h) fun v s1 ⟨x,H1,I1,r1,q1⟩=>ho pins s1 σ H1 x v Q I1 r1 q1)
theorem opI{f:Value->Value->Sem Value}{C:Int->Int->Prop}{g:Int->Int->Int}
  (rule:∀(i j:Int) (t u:Tok) (s:Shared) (Q:Value->Shared->Prop) (E:Value->Shared->Prop),C i j->Q (.int (g i j) s.toks) { s with toks:=s.toks+1 }->wpAny (model X.prog X.w) X.A (f (.int i t) (.int j u)) Q E s) :
  OpR X f (rI C fun i j=>.int (g i j)):=by
 intro pins s σ H x y v u Q I rx ry h;obtain⟨i,j,rfl,rfl,hc,q⟩:=h;obtain⟨t,rfl⟩:=rx;obtain⟨t',rfl⟩:=ry;exact rule i j t t' s _ _ hc ⟨.int (g i j),H,I.tok _,⟨_,rfl⟩,q⟩
theorem zkH{f:Value->Value->Sem Value}{g:Int->Int->Int}
  (rule:∀(i j:Int) (t u:Tok) (s:Shared) (Q:Value->Shared->Prop) (E:Value->Shared->Prop),Q (.int (g i j) s.toks) { s with toks:=s.toks+1 }->wpAny (model X.prog X.w) X.A (f (.int i t) (.int j u)) Q E s) :
  OpR X f (rI0 fun i j=>.int (g i j)):=by
 intro pins s σ H x y v u Q I rx ry h;obtain⟨i,j,rfl,rfl,q⟩:=h;obtain⟨t,rfl⟩:=rx;obtain⟨t',rfl⟩:=ry;exact rule i j t t' s _ _ ⟨.int (g i j),H,I.tok _,⟨_,rfl⟩,q⟩
theorem zhC{f:Value->Value->Sem Value}{g:Int->Int->Bool}
  (rule:∀(i j:Int) (t u:Tok) (s:Shared) (Q:Value->Shared->Prop) (E:Value->Shared->Prop),Q (.bool (g i j)) s->wpAny (model X.prog X.w) X.A (f (.int i t) (.int j u)) Q E s) :
  OpR X f (rI0 fun i j=>.bl (g i j)):=by
 intro pins s σ H x y v u Q I rx ry h;obtain⟨i,j,rfl,rfl,q⟩:=h;obtain⟨t,rfl⟩:=rx;obtain⟨t',rfl⟩:=ry;exact rule i j t t' s _ _ ⟨.bl (g i j),H,I,rfl,q⟩
def zl6(i j:Int):Prop:=0<j/\j<1073741824
def zl5(i j:Int):Prop:=0<=j/\j<=1000000/\i.natAbs<2 ^ 64
def zj8(i j:Int):Prop:=(-(2 ^ 64)<i/\i<2 ^ 64)\/(-(2 ^ 64)<j/\j<2 ^ 64)
theorem zj8.ok{i j:Int}(h:zj8 i j):IntMulOk i j:=by
 rcases h with ⟨h1,h2⟩|⟨h1,h2⟩
 ·exact .of_left (intBits_le_64 h1 h2)
 ·exact .of_right (intBits_le_64 h1 h2)
theorem yz:OpR X (binaryOp .Add) (rI0 fun i j=>.int (i+j)):=zkH fun _ _ _ _ _ _ _ q=>add_int q
theorem jW:OpR X (binaryOp .Sub) (rI0 fun i j=>.int (i - j)):=zkH fun _ _ _ _ _ _ _ q=>sub_int q
theorem ue:OpR X (binaryOp .Mult) (rI zj8 fun i j=>.int (i * j)):=opI fun _ _ _ _ _ _ _ hc q=>mul_int q hc.ok
theorem xS:OpR X (binaryOp .FloorDiv) (rI zl6 fun i j=>.int (i / j)):=opI fun i j _ _ _ _ _ hc q=>by
 have h1:(0:Int)<j:=hc.1;have h2:j<1073741824:=hc.2;exact floordiv_int (by omega) (by rw[Int.fdiv_eq_ediv_of_nonneg i (by omega)];exact q) (.inl (PyProof.noPylong_small (by omega)))
theorem yf:OpR X (binaryOp .Mod) (rI (fun _ j=>0<j) fun i j=>.int (i % j)):=opI fun i j _ _ _ _ _ hc q=>by
 have h1:(0:Int)<j:=hc;exact mod_int' (by omega) (by rw[Int.fmod_eq_emod_of_nonneg i (by omega)];exact q)
theorem zcL:OpR X (binaryOp .Pow) (rI zl5 fun i j=>.int (i ^ j.toNat)):=opI fun _ _ _ _ _ _ _ hc q=>pow_int_small hc.1 hc.2.1 hc.2.2 q
theorem unI{f:Value->Sem Value}{g:Int->Int}
  (rule:∀(i:Int) (t:Tok) (s:Shared) (Q:Value->Shared->Prop) (E:Value->Shared->Prop),Q (.int (g i) s.toks) { s with toks:=s.toks+1 }->wpAny (model X.prog X.w) X.A (f (.int i t)) Q E s) :
  UnR X f (rU fun i=>.int (g i)):=by
 intro pins s σ H x v Q I rx h;obtain⟨i,rfl,q⟩:=h;obtain⟨t,rfl⟩:=rx;exact rule i t s _ _ ⟨.int (g i),H,I.tok _,⟨_,rfl⟩,q⟩
theorem jA:UnR X (unaryOp .USub) (rU fun i=>.int (-i)):=unI fun _ _ _ _ _ q=>neg_int q
end
def zkt:V->V->Bool
 | .non,.non=>true|.non,.int _=>true|.int _,.non=>true|.non,.bl _=>true|.bl _,.non=>true|.non,.str _=>true|.str _,.non=>true
 | .int _,.int _=>true|.bl _,.bl _=>true|.str _,.str _=>true|.byt _,.byt _=>true
 | .int _,.str _=>true|.str _,.int _=>true|.bl _,.str _=>true|.str _,.bl _=>true
 | _,_=>false
def rEq:R2:=fun x y H Q=>zkt x y=true/\Q (.bl (decide (x=y))) H
def rNe:R2:=fun x y H Q=>zkt x y=true/\Q (.bl (!decide (x=y))) H
theorem zdW{i j:Int}:decide (V.int i=V.int j)=(i==j):=by
 rw[Bool.eq_iff_iff];simp
theorem zgN{i j:Bool}:decide (V.bl i=V.bl j)=(i==j):=by
 rw[Bool.eq_iff_iff];simp
theorem zdV{i j:Str}:decide (V.str i=V.str j)=(i==j):=by
 rw[Bool.eq_iff_iff];simp
theorem zdX{i j:Array UInt8}:decide (V.byt i=V.byt j)=(i.toList==j.toList):=by
 rw[Bool.eq_iff_iff];cases i;cases j;simp
section
variable {X:Cx}{a b c:Expr}{ta tb tc:TE}{pos:Pos}
theorem z8{pins:List (Addr×Obj)}{σ : St}{H:Hp}{s:Shared}{Q:VK}{k k':Bool}(I:Inv X pins σ H s) (q:Q (.bl k) H) (e:k=k'):EP X pins σ Q (.bool k') s:=by
 subst e;exact⟨.bl k,H,I,rfl,q⟩
theorem z7:OpR X (compareOp .Eq) rEq:=by
 intro pins s σ H x y v u Q I rx ry h;obtain⟨hs,q⟩:=h;cases x with
 | non=>
  cases rx;cases y with
  | non=>cases ry;exact PySem.EqNone.eq_none_none (z8 I q (by simp))
  | bl j=>cases ry;exact PySem.EqNone.eq_none_bool (z8 I q (by simp))
  | int j=>obtain⟨t',rfl⟩:=ry;exact PySem.EqNone.eq_none_int (z8 I q (by simp))
  | str j=>obtain⟨t',rfl⟩:=ry;exact PySem.EqNone.eq_none_str (z8 I q (by simp))
  | _=>exact absurd (show false=true from hs) Bool.false_ne_true
 | bl i=>
  cases rx;cases y with
  | non=>cases ry;exact PySem.EqNone.eq_bool_none (z8 I q (by simp))
  | bl j=>cases ry;exact eq_bool (z8 I q zgN)
  | str j=>obtain⟨t',rfl⟩:=ry;exact PySem.EqMixed.eq_bool_str (z8 I q (by simp))
  | _=>exact absurd (show false=true from hs) Bool.false_ne_true
 | int i=>
  obtain⟨t,rfl⟩:=rx;cases y with
  | non=>cases ry;exact PySem.EqNone.eq_int_none (z8 I q (by simp))
  | int j=>obtain⟨t',rfl⟩:=ry;exact eq_int (z8 I q zdW)
  | str j=>obtain⟨t',rfl⟩:=ry;exact PySem.EqMixed.eq_int_str (z8 I q (by simp))
  | _=>exact absurd (show false=true from hs) Bool.false_ne_true
 | str i=>
  obtain⟨t,rfl⟩:=rx;cases y with
  | non=>cases ry;exact PySem.EqNone.eq_str_none (z8 I q (by simp))
  | bl j=>cases ry;exact PySem.EqMixed.eq_str_bool (z8 I q (by simp))
  | int j=>obtain⟨t',rfl⟩:=ry;exact PySem.EqMixed.eq_str_int (z8 I q (by simp))
  | str j=>obtain⟨t',rfl⟩:=ry;exact eq_str (z8 I q zdV)
  | _=>exact absurd (show false=true from hs) Bool.false_ne_true
 | byt i=>
  obtain⟨t,rfl⟩:=rx;cases y with
  | byt j=>obtain⟨t',rfl⟩:=ry;exact PySem.W.eq_bytes (z8 I q zdX)
  | _=>exact absurd (show false=true from hs) Bool.false_ne_true
 | _=>cases y <;> exact absurd (show false=true from hs) Bool.false_ne_true
theorem zbD:OpR X (compareOp .NotEq) rNe:=by
 intro pins s σ H x y v u Q I rx ry h;obtain⟨hs,q⟩:=h;cases x with
 | non=>
  cases rx;cases y with
  | non=>cases ry;exact PySem.EqNone.ne_none_none (z8 I q (by simp))
  | bl j=>cases ry;exact PySem.EqNone.ne_none_bool (z8 I q (by simp))
  | int j=>obtain⟨t',rfl⟩:=ry;exact PySem.EqNone.ne_none_int (z8 I q (by simp))
  | str j=>obtain⟨t',rfl⟩:=ry;exact PySem.EqNone.ne_none_str (z8 I q (by simp))
  | _=>exact absurd (show false=true from hs) Bool.false_ne_true
 | bl i=>
  cases rx;cases y with
  | non=>cases ry;exact PySem.EqNone.ne_bool_none (z8 I q (by simp))
  | bl j=>cases ry;exact ne_bool (z8 I q (congrArg not zgN))
  | str j=>obtain⟨t',rfl⟩:=ry;exact PySem.EqMixed.ne_bool_str (z8 I q (by simp))
  | _=>exact absurd (show false=true from hs) Bool.false_ne_true
 | int i=>
  obtain⟨t,rfl⟩:=rx;cases y with
  | non=>cases ry;exact PySem.EqNone.ne_int_none (z8 I q (by simp))
  | int j=>obtain⟨t',rfl⟩:=ry;exact ne_int (z8 I q (congrArg not zdW))
  | str j=>obtain⟨t',rfl⟩:=ry;exact PySem.EqMixed.ne_int_str (z8 I q (by simp))
  | _=>exact absurd (show false=true from hs) Bool.false_ne_true
 | str i=>
  obtain⟨t,rfl⟩:=rx;cases y with
  | non=>cases ry;exact PySem.EqNone.ne_str_none (z8 I q (by simp))
  | bl j=>cases ry;exact PySem.EqMixed.ne_str_bool (z8 I q (by simp))
  | int j=>obtain⟨t',rfl⟩:=ry;exact PySem.EqMixed.ne_str_int (z8 I q (by simp))
  | str j=>obtain⟨t',rfl⟩:=ry;exact ne_str (z8 I q (congrArg not zdV))
  | _=>exact absurd (show false=true from hs) Bool.false_ne_true
 | byt i=>
  obtain⟨t,rfl⟩:=rx;cases y with
  | byt j=>obtain⟨t',rfl⟩:=ry;exact PySem.W.ne_bytes (z8 I q (congrArg not zdX))
  | _=>exact absurd (show false=true from hs) Bool.false_ne_true
 | _=>cases y <;> exact absurd (show false=true from hs) Bool.false_ne_true
theorem jX:OpR X (compareOp .Lt) (rI0 fun i j=>.bl (decide (i<j))):=zhC fun _ _ _ _ _ _ _ q=>lt_int q
theorem ziC:OpR X (compareOp .LtE) (rI0 fun i j=>.bl (decide (i<=j))):=zhC fun _ _ _ _ _ _ _ q=>le_int q
theorem qT:OpR X (compareOp .Gt) (rI0 fun i j=>.bl (decide (j<i))):=zhC fun _ _ _ _ _ _ _ q=>gt_int q
theorem ziD:OpR X (compareOp .GtE) (rI0 fun i j=>.bl (decide (j<=i))):=zhC fun _ _ _ _ _ _ _ q=>ge_int q
theorem zem:OpR X (compareOp .In) (fun x y H Q=>∃i j,x=.str i/\y=.str j/\Q (.bl (!(Builtin.Str.occurrences j i 0 j.length 1).isEmpty)) H):=by
 intro pins s σ H x y v u Q I rx ry h;obtain⟨i,j,rfl,rfl,q⟩:=h;obtain⟨t,rfl⟩:=rx;obtain⟨t',rfl⟩:=ry;exact in_str (z8 I q rfl)
theorem OpR.or{f:Value->Value->Sem Value}{r r':R2}(h:OpR X f r) (h':OpR X f r'):OpR X f (fun x y H Q=>r x y H Q\/r' x y H Q):=by
 intro pins s σ H x y v u Q I rx ry q;rcases q with q|q
 ·exact h pins s σ H x y v u Q I rx ry q
 ·exact h' pins s σ H x y v u Q I rx ry q
theorem zt(b:Expr) {op:CmpOp}(h:op≠.In:=by decide) (h2:op≠.NotIn:=by decide):behindInMarks op b=false:=by
 have e1:(op==CmpOp.In)=false:=by cases op <;> first|rfl|exact absurd rfl h
 have e2:(op==CmpOp.NotIn)=false:=by cases op <;> first|rfl|exact absurd rfl h2
 cases b <;> simp [behindInMarks,e1,e2]
theorem xb{op:CmpOp}{r:R2}(ho:OpR X (compareOp op) r) (ha:PE X a ta) (hb:PE X b tb) (hm:behindInMarks op b=false):PE X (.Compare a [op] [b] pos) (tOp r ta tb):=by
 refine⟨?_⟩;intro pins s σ H Q I h;exact wpAny_Compare1 (zj2 ha hb I h fun v u s2 x y H2 I2 rx ry q=>ho pins s2 σ H2 x y v u Q I2 rx ry q) hm
inductive zlf(x:V) (H:Hp) (Q:Bool->Hp->Prop):Prop where
 | mk (k:Bool) (e:x=.bl k) (q:Q k H)
def zil(t:TE):TT:=fun σ H Q=>t σ H fun x H'=>zlf x H' Q
theorem zk{op:CmpOp}{r:R2}(ho:OpR X (compareOp op) r) (ha:PE X a ta) (hb:PE X b tb) (hm:behindInMarks op b=false):PT X (.Compare a [op] [b] pos) (zil (tOp r ta tb)):=by
 refine⟨?_⟩;intro pins s σ H Q I h;refine wpAny_isTrue_Compare1 (thn (ha pins s σ H _ I h) fun v s1 ⟨x,H1,I1,r1,q1⟩=>thn (hb pins s1 σ H1 _ I1 q1) fun u s2 ⟨y,H2,I2,r2,q2⟩=>
  thn (ho pins s2 σ H2 x y v u _ I2 r1 r2 q2) fun c s3 ⟨z,H3,I3,r3,k,e,q3⟩=>?_) hm
 subst e;cases r3;exact wpAny_truthy_bool ⟨H3,I3,q3⟩
def ziX(r r':R2) (ta tb tc:TE):TE:=fun σ H Q=>ta σ H fun x H1=>tb σ H1 fun y H2=>r x y H2 fun z H3=>∃k,z=.bl k/\
 (if k=true then tc σ H3 fun w' H4=>r' y w' H4 Q else Q (.bl false) H3)
theorem zfL{op op':CmpOp}{r r':R2}(ho:OpR X (compareOp op) r) (ho':OpR X (compareOp op') r') (ha:PE X a ta) (hb:PE X b tb) (hc:PE X c tc)
  (hm:lastMarks [op,op'] [b,c]=false:=by with_unfolding_all rfl):PT X (.Compare a [op,op'] [b,c] pos) (zil (ziX r r' ta tb tc)):=by
 refine⟨?_⟩;intro pins s σ H Q I h;refine isTrue_chain (thn (ha pins s σ H _ I h) fun v s1 ⟨x,H1,I1,r1,q1⟩=>test_link (thn (hb pins s1 σ H1 _ I1 q1) fun u s2 ⟨y,H2,I2,r2,q2⟩=>
  thn (ho pins s2 σ H2 x y v u _ I2 r1 r2 q2) fun d s3 ⟨z,H3,I3,r3,k,e,q3⟩=>?_)) hm
 subst e;cases r3;refine wpAny_truthy_bool ?_;cases k with
 | false=>
  obtain⟨k',e',q'⟩:=q3;cases e';exact ite_ff ⟨H3,I3,q'⟩
 | true=>
  refine ite_tt (test_last (thn (hc pins s3 σ H3 _ I3 q3) fun w' s4 ⟨z',H4,I4,r4,q4⟩=>thn (ho' pins s4 σ H4 y z' u w' _ I4 r2 r4 q4) fun d' s5 ⟨z2,H5,I5,r5,k2,e2,q5⟩=>?_));subst e2;cases r5;exact wpAny_truthy_bool ⟨H5,I5,q5⟩
def zld(K:Frag) (x:V) (H:Hp) (k:Bool):Prop:=
 match x with
 | .non=>k=false
 | .bl b=>k=b
 | .int i=>k=(i != 0)
 | .str y=>y.length<=sizeLine/\k=((y.length:Int) != 0)
 | .byt y=>y.size<=sizeLine/\k=((y.size:Int) != 0)
 | .ref p=>(∃xs,SqL K H p xs/\k=!xs.isEmpty)\/(∃xs,SqT K H p xs/\k=!xs.isEmpty)\/∃kvs,H p=some (.dK kvs)/\k=!kvs.isEmpty
 | _=>False
theorem zc5{κ : Type}{kvs:List (κ×V)}{vs:List (κ×Value)}(r:KV kvs vs):(!vs.isEmpty)=!kvs.isEmpty:=by
 cases r <;> rfl
theorem qd{xs:List V}{its:List Value}(r:zJ xs its):(!its.toArray.isEmpty)=!xs.isEmpty:=by
 cases r <;> simp
theorem uj:(sizeLine:Nat)<2 ^ 63:=by rw[sizeLine_eq];decide
theorem ziO:zlY X (fun x H Q=>∃k,zld X.K x H k/\Q k H):=by
 intro pins s σ H x v Q I rx h;obtain⟨k,e,q⟩:=h;have hl:=uj;have hs:sizeLine=16777216:=sizeLine_eq;cases x with
 | non=>
  cases rx;have e':k=false:=e;subst e';exact truthy_none ⟨H,I,q⟩
 | bl b=>
  cases rx;have e':k=b:=e;subst e';exact wpAny_truthy_bool ⟨H,I,q⟩
 | int i=>
  obtain⟨t,rfl⟩:=rx;have e':k=(i != 0):=e;subst e';exact PySem.P.truthy_int ⟨H,I,q⟩
 | str y=>
  obtain⟨t,rfl⟩:=rx;obtain⟨hy,e'⟩:y.length<=sizeLine/\k=((y.length:Int) != 0):=e;subst e';exact PySem.P.truthy_str (by omega) ⟨H,I.tok _,q⟩
 | byt y=>
  obtain⟨t,rfl⟩:=rx;obtain⟨hy,e'⟩:y.size<=sizeLine/\k=((y.size:Int) != 0):=e;subst e';exact PySem.W.truthy_bytes (by omega) ⟨H,I.tok _,q⟩
 | ref p=>
  cases rx;have e':(∃xs,SqL X.K H p xs/\k=!xs.isEmpty)\/(∃xs,SqT X.K H p xs/\k=!xs.isEmpty)\/∃kvs,H p=some (.dK kvs)/\k=!kvs.isEmpty:=e;rcases e' with ⟨xs,hx,e'⟩|⟨xs,hx,e'⟩|⟨kvs,hx,e'⟩
  ·subst e'
   obtain⟨its,r,pl,hz⟩:=I.list hx;have hlen:=r.length;exact wpAny_truthy_list pl.isList (by simp only[size_toArray];omega) ⟨H,I.tok _,by rw[qd r];exact q⟩
  ·subst e'
   obtain⟨its,r,pl,hz⟩:=I.tuple hx;have hlen:=r.length;exact truthy_tuple pl (by simp only[size_toArray];omega) ⟨H,I.tok _,by rw[qd r];exact q⟩
  ·subst e'
   obtain⟨hz,hS,vs,r,m⟩:kvs.length<=sizeLine/\(p==sysModules)=false/\∃vs,KV kvs vs/\s.heap.DictOf (z9 X.prog X.w) p vs:=I.hok p _ hx;have hlen:kvs.length=vs.length:=Paired.length r;exact wpAny_truthy_dict hS m (by omega) ⟨H,I.tok _,by rw[zc5 r];exact q⟩
 | _=>exact(show False from e).elim
theorem zfK(ha:PE X a ta) (he:∀whole,isTrue a X.env whole=(do let v <- whole;standAt a.pos;holding [v] (truthy v))) :
  PT X a (fun σ H Q=>ta σ H fun x H'=>∃k,zld X.K x H' k/\Q k H'):=by
 refine⟨?_⟩;intro pins s σ H Q I h;exact isTrue_plain (thn (ha pins s σ H _ I h) fun v s1 ⟨x,H1,I1,r1,q1⟩=>ziO pins s1 σ H1 x v Q I1 r1 q1) (he _)
theorem zcN:OpR X (binaryOp .Add) (fun x y H Q=>∃i j,x=.str i/\y=.str j/\i.length+j.length<=sizeLine/\Q (.str (i++j)) H):=by
 intro pins s σ H x y v u Q I rx ry h;obtain⟨i,j,rfl,rfl,hz,q⟩:=h;obtain⟨t,rfl⟩:=rx;obtain⟨t',rfl⟩:=ry;exact add_str (fun t' tk=>⟨.str (i++j),H,I.tok _,⟨_,rfl⟩,q⟩) hz
theorem vt{x:V}{us:List Value}(r:zJ [x] us):∃u,us=[u]/\zL x u:=by
 cases r with
 | cons r1 r2=>cases r2;exact⟨_,rfl,r1⟩
theorem qC{x y:V}{us:List Value}(r:zJ [x,y] us):∃u w',us=[u,w']/\zL x u/\zL y w':=by
 cases r with
 | cons r1 r2=>
  cases r2 with
  | cons r3 r4=>cases r4;exact⟨_,_,rfl,r1,r3⟩
theorem zeS(hc:X.calm=true):xv X (.builtin "max") (fun xs H Q=>∃i j,xs=[.int i,.int j]/\Q (.int (if j>i then j else i)) H):=by
 intro pins s σ H xs us Q I r h;obtain⟨i,j,rfl,q⟩:=h;obtain⟨u,w',rfl,⟨t,rfl⟩,⟨t',rfl⟩⟩:=qC r;refine max_two_ints (I.ok.hd hc) fun h' tk k=>⟨_,H,I.kept k,?_,q⟩;by_cases hj:j>i
 ·rw[if_pos hj,if_pos hj];exact⟨_,rfl⟩
 ·rw[if_neg hj,if_neg hj];exact⟨_,rfl⟩
theorem zal(hc:X.calm=true):xv X (.builtin "min") (fun xs H Q=>∃i j,xs=[.int i,.int j]/\Q (.int (if j<i then j else i)) H):=by
 intro pins s σ H xs us Q I r h;obtain⟨i,j,rfl,q⟩:=h;obtain⟨u,w',rfl,⟨t,rfl⟩,⟨t',rfl⟩⟩:=qC r;refine min_two_ints (I.ok.hd hc) fun h' tk k=>⟨_,H,I.kept k,?_,q⟩;by_cases hj:j<i
 ·rw[if_pos hj,if_pos hj];exact⟨_,rfl⟩
 ·rw[if_neg hj,if_neg hj];exact⟨_,rfl⟩
end
structure zdi(h:Heap) (x dx C:Addr) (mA:Str->Option Value):Prop where
 obj:h.get? x=some (instObj C dx)
 ns:h.Ns1 dx mA
 ne:dx≠x
theorem zew{h:Heap}{dx:Addr}{mA:Str->Option Value}(n:h.Ns1 dx mA):∃od,h.get? dx=some od/\∀name,lookIn name od=some (mA name):=by
 obtain⟨o,es,ep,ho,hd,hk,_,hm⟩:=n;refine⟨o,ho,fun name=>?_⟩;have e:=hm name;unfold nsFind findBy at e;rw[<- Array.find?_toList] at e;unfold lookIn;rw[hd];dsimp only;split
 ·rename_i y q
  rw[q] at e;exact congrArg some e
 ·rename_i q
  rw[q] at e;have a:es.toList.any (·.refKey)=false:=by
   rw[List.any_eq_false];intro y hy;obtain⟨z,t,hkey⟩:=hk y (Array.mem_toList_iff.mp hy);simp [DictEntry.refKey,hkey]
  have a':¬es.toList.any (·.refKey)=true:=by rw[a];exact Bool.false_ne_true
  rw[if_neg a'];exact congrArg some e
theorem zdi.look{h:Heap}{x dx C:Addr}{mA:Str->Option Value}(I:zdi h x dx C mA):∃od,PySem.W.InstAt h x (instObj C dx) C (some od)/\∀name,lookIn name od=some (mA name):=
 let ⟨od,ho,hl⟩:=zew I.ns
 ⟨od,⟨I.obj,rfl,rfl,ho⟩,hl⟩
section
variable {prog:Program}{w:World}{A:Around}{E:Value->Shared->Prop}{s:Shared}{K:Frag}{x dx C f:Addr}{mA:Str->Option Value}{name:Str}{v:Value}
theorem zh3{expr:Bool}{Q:Value->Shared->Prop}(X:K.In s.heap) (I:zdi s.heap x dx C mA) (hg:plainGet K C name=true) (hh:hasDictIn K C=true)
  (ha:findIn K (.ref C) name=some none) (hv:mA name=some v) (hv':PySem.W.handedIn v=true) (h:Q v { s with toks:=s.toks+1 }) :
  wpAny (model prog w) A (getAttr (.ref x) name expr) Q E s:=by
 obtain⟨od,J,hl⟩:=I.look;exact PySem.W.get_value X J (plainGet_of hg).1 (PySem.W.findObj_own hh ha rfl (by rw[hl,hv])) hv' h
theorem zgB{pl:Sem Bool}{Q:Value×List Value->Shared->Prop}(X:K.In s.heap) (I:zdi s.heap x dx C mA) (hg:plainGet K C name=true)
  (hf:findIn K (.ref C) name=some (some (.ref f))) (ht:isFn K (.ref f)=true) (hv:mA name=none) (h:Q (.ref f,[.ref x]) s) :
  wpAny (model prog w) A (getMethod (.ref x) name pl) Q E s:=by
 obtain⟨od,J,hl⟩:=I.look;exact PySem.W.method_fn X J (plainGet_of hg).1 (plainGet_of hg).2 hf (beq_iff_eq.mp ht) (by show(lookIn name od).map (·.isSome)=some false;rw[hl,hv];rfl) h
theorem zg9{ns:List Str}{Q:Unit->Shared->Prop}(X:K.In s.heap) (I:zdi s.heap x dx C mA)
  (hs:findIn K (.ref C) "__setattr__"=some (some (.builtin "object.__setattr__"))) (hp:plainOver K C=true) (ht:takerIn K C name=some none) (hh:hasDictIn K C=true)
  (hw:PySem.Within mA ns) (hsz:ns.length<=sizeLine)
  (h:∀h',zdi h' x dx C (fun y=>if y=name then some v else mA y)->Heap.SameBut dx s.heap h'->Q () { s with heap:=h',toks:=s.toks+2 }) :
  wpAny (model prog w) A (setAttr (.ref x) name v) Q E s:=by
 obtain⟨od,J,hl⟩:=I.look;refine PySem.W.set_plain X J hs (PySem.W.osa_open (s:={ s with toks:=s.toks+1 }) (r:=none) X J hp ht fun b=>?_)
 obtain⟨cd,hc,hd'⟩:=PySem.W.any_some hh;have hx:s.heap.get? x=some ⟨.ref C,some dx,.plain,#[]⟩:=I.obj;refine wpAny_bind (wpAny_pure (wpAny_bind (wpAny_bind (wpAny_loadPart hx (wpAny_bind (PySem.W.Looks.here (s:={ s with toks:=s.toks+1 }) (PySem.W.looks_clsIn X hc) ?_))))))
 rw[hd'];refine wpAny_pure (a:=some dx) (wpAny_bind (wpAny_pure (wpAny_bind ?_)));refine wpAny_nsSet1 (s:={ s with toks:=s.toks+1 }) I.ns fun h' hn2 hs2=>?_
 obtain⟨oD,esD,epD,hoD,hdD,hcD⟩:=hn2.count (PySem.Within.cons name v hw);refine wpAny_bind (wpAny_lookBehind hoD (by rw[hdD];exact pastItsLine_dict (le_trans hcD (by rw[length_cons];omega))) ?_)
 exact wpAny_pure (h _ ⟨(hs2.2 _ (Ne.symm I.ne)).trans I.obj,hn2,I.ne⟩ hs2)
theorem zgm{R:Result->Shared->Prop}{vs:List Value}{kw:List (Str×Value)}(X:K.In s.heap) (hm:makesIn K C=true)
  (hi:findIn K (.ref C) "__init__"=some (some (.ref f))) (hf:PySem.W.typeIn K (.ref f)=some (.type "function"))
  (h:codeAny (model prog w) (A.under (.builtin "type.__call__" ⟨.ref C::vs,kw⟩)) (.call (.ref f) ⟨.ref (s.heap.objs.size+1)::vs,kw⟩) (PySem.W.InitBack (s.heap.objs.size+1) R)
   { s with heap:=(s.heap.push emptyDict).push (instObj C s.heap.objs.size) }) :
  codeAny (model prog w) A (.call (.ref C) ⟨vs,kw⟩) R s:=by
 obtain⟨hh,g,d,t,os⟩:=s;exact PySem.W.make_core (PySem.W.makes_of X hm) (PySem.W.looks_findIn X hi) (fun self=>PySem.W.bind_fn X self hf) (.inl rfl) h
end
def zX(f:Str) (v:V):List (Str×V)->List (Str×V)
 | []=>[(f,v)]
 | (g,x)::r=>if g=f then (g,v)::r else (g,x)::zX f v r
theorem zn(f g:Str) (v:V):∀fs:List (Str×V),(zX f v fs).lookup g=if g=f then some v else fs.lookup g
 | []=>by
  show List.lookup g [(f,v)]=_;by_cases h:g=f
  ·have hb:(g==f)=true:=beq_iff_eq.mpr h
   simp only[List.lookup,hb,if_pos h]
  ·have hb:(g==f)=false:=beq_eq_false_iff_ne.mpr h
   simp only[List.lookup,hb,if_neg h]
 | (k,x)::r=>by
  have ih:=zn f g v r;rw[show zX f v ((k,x)::r)=(if k=f then (k,v)::r else (k,x)::zX f v r) from rfl]
  by_cases hk:k=f
  ·rw[if_pos hk]
   by_cases h:g=k
   ·have hb:(g==k)=true:=beq_iff_eq.mpr h
    simp only[List.lookup,hb,if_pos (h.trans hk)]
   ·have hb:(g==k)=false:=beq_eq_false_iff_ne.mpr h
    simp only[List.lookup,hb,if_neg (fun e:g=f=>h (e.trans hk.symm))]
  ·rw[if_neg hk]
   by_cases h:g=k
   ·have hb:(g==k)=true:=beq_iff_eq.mpr h
    simp only[List.lookup,hb,if_neg (fun e:g=f=>hk (h.symm.trans e))]
   ·have hb:(g==k)=false:=beq_eq_false_iff_ne.mpr h
    simp only[List.lookup,hb];exact ih
theorem u0(f:Str) (v:V):∀fs:List (Str×V),f∈(zX f v fs).map (·.1)/\∀g,g∈fs.map (·.1)->g∈(zX f v fs).map (·.1)
 | []=>⟨by simp [zX],fun g h=>by simp at h⟩
 | (k,x)::r=>by
  obtain⟨i1,i2⟩:=u0 f v r;rw[show zX f v ((k,x)::r)=(if k=f then (k,v)::r else (k,x)::zX f v r) from rfl]
  by_cases hk:k=f
  ·rw[if_pos hk]
   subst hk;exact⟨by simp,fun g h=>by simpa using h⟩
  ·rw[if_neg hk]
   refine⟨?_,fun g h=>?_⟩
   ·rw[map_cons]
    exact mem_cons_of_mem _ i1
   ·rw[map_cons] at h |-
    rcases List.mem_cons.mp h with e|e
    ·exact List.mem_cons.mpr (.inl e)
    ·exact mem_cons_of_mem _ (i2 g e)
theorem jf(f:Str) (v:V):∀fs:List (Str×V),(zX f v fs).length<=fs.length+1
 | []=>by simp [zX]
 | (k,x)::r=>by
  have ih:=jf f v r;rw[show zX f v ((k,x)::r)=(if k=f then (k,v)::r else (k,x)::zX f v r) from rfl]
  by_cases hk:k=f
  ·rw[if_pos hk,length_cons,length_cons];omega
  ·rw[if_neg hk,length_cons,length_cons];omega
theorem wS.some_of{v:V}{o:Option Value}(r:wS (some v) o):∃u,o=some u/\zL v u:=by
 cases o with
 | none=>exact(show False from r).elim
 | some u=>exact⟨u,rfl,r⟩
theorem wS.none_of{o:Option Value}(r:wS none o):o=none:=by
 cases o with
 | none=>rfl
 | some u=>exact(show False from r).elim
theorem zeG{v:V}{u:Value}(r:zL v u):PySem.W.handedIn u=true:=by
 cases v with
 | non=>cases (show u=Value.none from r);rfl
 | bl b=>cases (show u=Value.bool b from r);rfl
 | int i=>obtain⟨t,e⟩:=(show ∃t,u=Value.int i t from r);cases e;rfl
 | str x=>obtain⟨t,e⟩:=(show ∃t,u=Value.str x t from r);cases e;rfl
 | byt b=>obtain⟨t,e⟩:=(show ∃t,u=Value.bytes b t from r);cases e;rfl
 | flt b=>obtain⟨t,e⟩:=(show ∃t,u=Value.float b t from r);cases e;rfl
 | ref a=>cases (show u=Value.ref a from r);rfl
 | ty n=>cases (show u=Value.type n from r);rfl
section
variable {P:Program}{w:World}{H H':Hp}{h h':Heap}{a C dx:Addr}{fs fs':List (Str×V)}
theorem jw(hok:HOk P w H h) (e:H a=some (.ins C dx fs)):∃mA,zdi h a dx C mA/\(∀f,wS (fs.lookup f) (mA f))/\PySem.Within mA (fs.map (·.1))/\fs.length<=1000/\H dx=some (.own a):=by
 obtain⟨d,z,ne,ob,mA,n,r,q⟩:=(show yy P w H h a (.ins C dx fs) from hok a _ e);exact⟨mA,⟨ob,n,ne⟩,r,q,z,d⟩
end
structure Cls(K:Frag) (C:Addr):Prop where
 pg:plainGet K C Str.empty=true
 hd:hasDictIn K C=true
 po:plainOver K C=true
 sa:findIn K (.ref C) "__setattr__"=some (some (.builtin "object.__setattr__"))
theorem Cls.get{K:Frag}{C:Addr}(c:Cls K C) (f:Str):plainGet K C f=true:=c.pg
def xy(K:Frag) (C:Addr) (f:Str):Prop:=findIn K (.ref C) f=some none
theorem xy.taker{K:Frag}{C:Addr}{f:Str}(n:xy K C f):takerIn K C f=some none:=by
 unfold takerIn;rw[show findIn K (.ref C) f=some none from n];rfl
structure yS(K:Frag) (C:Addr) (m:Str) (f:Addr):Prop where
 at_:findIn K (.ref C) m=some (some (.ref f))
 fn:isFn K (.ref f)=true
 kp:keepIn K (.ref f)=true
section
variable {X:Cx}{pins:List (Addr×Obj)}{σ : St}{H:Hp}{s:Shared}{a C dx:Addr}{fs:List (Str×V)}{f:Str}{v:V}{A:Around}{E:Value->Shared->Prop}
theorem zc6{b:Bool}{Q:Value->Shared->Prop}(I:Inv X pins σ H s) (e:H a=some (.ins C dx fs)) (c:Cls X.K C) (n:xy X.K C f) (l:fs.lookup f=some v)
  (h:∀u s',Inv X pins σ H s'->zL v u->Q u s'):wpAny (model X.prog X.w) A (getAttr (.ref a) f b) Q E s:=by
 obtain⟨mA,O,r,_,_,_⟩:=jw I.hok e;obtain⟨u,hu,ru⟩:=wS.some_of (v:=v) (o:=mA f) (by rw[<- l];exact r f)
 exact zh3 I.kIn O (c.get f) c.hd n hu (zeG ru) (h u _ (I.tok _) ru)
theorem vj{m:Str}{g:Addr}{pl:Sem Bool}{Q:Value×List Value->Shared->Prop}(I:Inv X pins σ H s) (e:H a=some (.ins C dx fs)) (c:Cls X.K C) (k:yS X.K C m g) (l:fs.lookup m=none)
  (h:Q (.ref g,[.ref a]) s):wpAny (model X.prog X.w) A (getMethod (.ref a) m pl) Q E s:=by
 obtain⟨mA,O,r,_,_,_⟩:=jw I.hok e;have hn:mA m=none:=wS.none_of (by rw[<- l];exact r m)
 exact zgB I.kIn O (c.get m) k.at_ k.fn hn h
theorem zcj{y:V}{u:Value}{Q:Unit->Shared->Prop}(I:Inv X pins σ H s) (e:H a=some (.ins C dx fs)) (c:Cls X.K C) (n:xy X.K C f) (hl:fs.length<1000) (ry:zL y u)
  (h:∀s',Inv X pins σ (upd H a (.ins C dx (zX f y fs))) s'->Q () s'):wpAny (model X.prog X.w) A (setAttr (.ref a) f u) Q E s:=by
 obtain⟨mA,O,r,wi,_,ho⟩:=jw I.hok e;have hz:(fs.map (·.1)).length<=sizeLine:=by rw[length_map,sizeLine_eq];omega
 refine zg9 I.kIn O c.sa c.po n.taker c.hd wi hz fun h' O' sb=>h _ ?_;have hd:∃o,h'.get? dx=some o:=let ⟨o,_,_,e',_⟩:=O'.ns;⟨o,e'⟩;refine I.write (x:=a) (e:=dx) (by rw[e];exact True.intro) (.inr ho) (fun b q hb z=>(sb.2 b hb).trans z) hd ?_
 refine⟨by rw[zh O.ne];exact ho,?_,O.ne,O'.obj,_,O'.ns,fun g=>?_,fun g hg=>?_⟩
 ·have:=jf f y fs;omega
 ·show wS ((zX f y fs).lookup g) (if g=f then some u else mA g)
  rw[zn];by_cases q:g=f
  ·rw[if_pos q,if_pos q];exact ry
  ·rw[if_neg q,if_neg q];exact r g
 ·by_cases q:g=f
  ·rw[q];exact(u0 f y fs).1
  ·refine(u0 f y fs).2 g (wi g fun z=>hg ?_)
   show(if g=f then some u else mA g)=none
   rw[if_neg q];exact z
theorem Inv.made(I:Inv X pins σ H s):Inv X pins σ (upd (upd H s.heap.objs.size (.own (s.heap.objs.size+1))) (s.heap.objs.size+1) (.ins C s.heap.objs.size []))
  { s with heap:=(s.heap.push emptyDict).push (instObj C s.heap.objs.size) }:=by
 have e1:(s.heap.push emptyDict).get? s.heap.objs.size=some emptyDict:=Heap.get?_push_size s.heap rfl;have e2:((s.heap.push emptyDict).push (instObj C s.heap.objs.size)).get? (s.heap.objs.size+1)=some (instObj C s.heap.objs.size):=by
  have:=Heap.get?_push_size (s.heap.push emptyDict) (o:=instObj C s.heap.objs.size) rfl
  rwa [Heap.size_push] at this
 have e3:(s.heap.push emptyDict).Ns s.heap.objs.size (fun _=>none):=⟨emptyDict,#[],_,e1,rfl,(fun e he=>absurd he (by simp)),fun _=>rfl⟩
 have I1:=I.laid (a:=s.heap.objs.size) (o:=.own (s.heap.objs.size+1)) (h':=s.heap.push emptyDict) (t':=s.toks) (fun b u q=>Heap.get?_push_of_some _ q) (le_refl _) ⟨_,e1⟩;refine I1.laid (a:=s.heap.objs.size+1) (o:=.ins C s.heap.objs.size []) (t':=s.toks) (fun b u q=>Heap.get?_push_of_some _ q) (le_of_eq (Heap.size_push _ _)) ?_;have ne:s.heap.objs.size≠s.heap.objs.size+1:=ne_of_lt (lt_succ_self _);refine⟨by rw[zh ne,za],zero_le _,ne,e2,fun _=>none,(Heap.Ns1.of_empty e3).at fun o q=>Heap.get?_push_of_some _ q,fun _=>True.intro,fun y hy=>absurd rfl hy⟩
theorem zif{prog:Program}{w:World}{env:Env}{e:Expr}{f:Str}{pos:Pos}{s:Shared}{Q:Value->Shared->Prop}(hb:attributeBase e f env (eval e env)=eval e env)
  (h:wpAny (model prog w) A (eval e env) (fun o s₁=>wpAny (model prog w) A (getAttr o f true) Q E s₁) E s):wpAny (model prog w) A (eval (.Attribute e f pos) env) Q E s:=
 Attribute_any_ h (by rw[arm_eval_Attribute,hb])
end
def zkh(K:Frag) (ta:TE) (f:Str):TE:=fun σ H Q=>ta σ H fun x H1=>∃a C dx fs v,x=.ref a/\H1 a=some (.ins C dx fs)/\Cls K C/\xy K C f/\fs.lookup f=some v/\Q v H1
def zlu(K:Frag) (ta tv:TE) (f:Str):TS:=fun D σ H=>tv σ H fun y H1=>ta σ H1 fun x H2=>∃a C dx fs,x=.ref a/\H2 a=some (.ins C dx fs)/\Cls K C/\xy K C f/\fs.length<1000/\
 D.nx σ (upd H2 a (.ins C dx (zX f y fs)))
section
variable {X:Cx}{o e value:Expr}{f:Str}{pos pos' tpos:Pos}{ta tv:TE}
theorem ym(he:PE X e ta) (hb:attributeBase e f X.env (eval e X.env)=eval e X.env):PE X (.Attribute e f pos) (zkh X.K ta f):=by
 refine⟨?_⟩;intro pins s σ H Q I h;refine zif hb (thn (he pins s σ H _ I h) fun u s1 ⟨x,H1,I1,rx,a,C,dx,fs,v,ex,ea,c,n,l,q⟩=>?_);subst ex;obtain rfl:u=Value.ref a:=rx;exact zc6 I1 ea c n l fun u' s2 I2 ru=>⟨v,H1,I2,ru,q⟩
theorem wZ(ha:PE X o ta) (hv:PE X value tv) (hs:swapsWith value (some (.Attribute o f pos')) pos.line X.env=pure false):PS X (.Assign [.Attribute o f pos'] value pos) (zlu X.K ta tv f):=by
 refine⟨?_⟩;intro pins s σ H D I h;refine plainObj_wpAny_Assign_Attribute (thn (hv pins s σ H _ I h) fun u s1 ⟨y,H1,I1,ry,q⟩=>thn (ha pins s1 σ H1 _ I1 q) fun ov s2 ⟨x,H2,I2,rx,a,C,dx,fs,ex,ea,c,n,l,q2⟩=>?_) hs;subst ex;obtain rfl:ov=Value.ref a:=rx;exact zcj I2 ea c n l ry fun s3 I3=>⟨σ,_,I3,q2⟩
theorem ziG{pl:Sem Bool}{m:Str}{apos:Pos}{args:List Expr}{pins:List (Addr×Obj)}{s:Shared}{σ : St}{H:Hp}{Q:Value->Shared->Prop}{te:TE}(he:PE X e te) (I:Inv X pins σ H s)
  (h:te σ H fun x H1=>∃a C dx fs g,x=.ref a/\H1 a=some (.ins C dx fs)/\Cls X.K C/\yS X.K C m g/\fs.lookup m=none/\
   ∀s1,Inv X pins σ H1 s1->wpAny (model X.prog X.w) X.A (callWith pos (.ref g) [.ref a] (backTo pos (starEach args X.env)) (backToKw pos (keywordEach [] X.env))) Q X.xe s1)
  (ht:eval (.Call (.Attribute e m apos) args [] pos) X.env=(do
   let ov <- eval e X.env
   standAt apos.atName
   let (f,first) <- holding [ov] (getMethod ov m pl)
   callWith pos f first (backTo pos (starEach args X.env)) (backToKw pos (keywordEach [] X.env)))) :
  wpAny (model X.prog X.w) X.A (eval (.Call (.Attribute e m apos) args [] pos) X.env) Q X.xe s:=by
 refine methodCall_KW (pl:=pl) (thn (he pins s σ H _ I h) fun u s1 ⟨x,H1,I1,rx,a,C,dx,fs,g,ex,ea,c,k,l,q⟩=>?_) ht;subst ex;obtain rfl:u=Value.ref a:=rx;exact vj I1 ea c k l (q s1 I1)
end
section
variable {X:Cx}{pins:List (Addr×Obj)}{σ : St}{H:Hp}{s:Shared}{A:Around}{E:Value->Shared->Prop}{Q:Value->Shared->Prop}{c:Value}{b:Bool}
inductive vZ(K:Frag) (H:Hp):V->Value->Prop where
 | non:vZ K H .non (.type "NoneType")
 | bl (x:Bool):vZ K H (.bl x) (.type "bool")
 | int (i:Int):vZ K H (.int i) (.type "int")
 | str (x:Str):vZ K H (.str x) (.type "str")
 | flt (x:UInt64):vZ K H (.flt x) (.type "float")
 | lst {a:Addr}{xs:List V}(e:H a=some (.lst xs)):vZ K H (.ref a) (.type "list")
 | frz {a:Addr}{o:Obj}{xs:List V}(e:H a=some (.frz o (.lst xs))):vZ K H (.ref a) (.type "list")
 | tup {a:Addr}{xs:List V}(e:H a=some (.tup xs)):vZ K H (.ref a) (.type "tuple")
 | dK {a:Addr}{kvs:List (Key×V)}(e:H a=some (.dK kvs)):vZ K H (.ref a) (.type "dict")
 | dT {a:Addr}{kvs:List (List Key×V)}(e:H a=some (.dT kvs)):vZ K H (.ref a) (.type "dict")
 | ins {a C dx:Addr}{fs:List (Str×V)}(e:H a=some (.ins C dx fs)) (cl:Cls K C) (ha:findIn K (.ref C) "__class__"=some (some (.builtin "object.__class__")))
   (hn:PySem.W.specialIn K (.builtin "object.__class__") "__get__"=some (some (.builtin "getset_descriptor.__get__"))) (htk:PySem.W.takesIn K (.builtin "object.__class__")=some true)
   (hm:PySem.W.mroIn K C (.type "object")=some true):vZ K H (.ref a) (.ref C)
theorem zeD{x:V}{u t:Value}(I:Inv X pins σ H s) (rx:zL x u) (ty:vZ X.K H x t) (e:kitOne X.K t c=some b) (h:∀tk,Q (.bool b) { s with toks:=tk }) :
  wpAny (model X.prog X.w) A (call (.builtin "isinstance") [u,c]) Q E s:=by
 cases ty with
 | non=>cases (show u=Value.none from rx);exact kia_one PySem.W.kitx_none I.kIn True.intro e (fun z=>nomatch z) h
 | bl y=>cases (show u=Value.bool y from rx);exact kia_one PySem.W.kitx_bool I.kIn True.intro e (fun z=>nomatch z) h
 | int i=>obtain⟨t,q⟩:=(show ∃t,u=Value.int i t from rx);cases q;exact kia_one PySem.W.kitx_int I.kIn True.intro e (fun z=>nomatch z) h
 | str y=>obtain⟨t,q⟩:=(show ∃t,u=Value.str y t from rx);cases q;exact kia_one PySem.W.kitx_str I.kIn True.intro e (fun z=>nomatch z) h
 | flt y=>obtain⟨t,q⟩:=(show ∃t,u=Value.float y t from rx);cases q;exact kia_one PySem.W.kitx_float I.kIn True.intro e (fun z=>nomatch z) h
 | @lst a xs ea=>
  cases (show u=Value.ref a from rx);obtain⟨_,_,n,_,h1⟩:=(show yy X.prog X.w H s.heap a (.lst xs) from I.hok a _ ea);exact kia_one PySem.W.kitx_list I.kIn ⟨_,h1,rfl⟩ e (fun z=>nomatch z) h
 | @frz a ob xs ea=>
  cases (show u=Value.ref a from rx);obtain⟨_,_,_,n,_,h1⟩:=(show yy X.prog X.w H s.heap a (.frz ob (.lst xs)) from I.hok a _ ea);exact kia_one PySem.W.kitx_list I.kIn ⟨_,h1,rfl⟩ e (fun z=>nomatch z) h
 | @tup a xs ea=>
  cases (show u=Value.ref a from rx);obtain⟨_,_,_,p⟩:=(show yy X.prog X.w H s.heap a (.tup xs) from I.hok a _ ea);obtain⟨o,h1,h2,_⟩:=p;exact kia_one PySem.W.kitx_tuple I.kIn ⟨o,h1,h2⟩ e (fun z=>nomatch z) h
 | @dK a kvs ea=>
  cases (show u=Value.ref a from rx);obtain⟨_,_,vs,_,p⟩:=(show yy X.prog X.w H s.heap a (.dK kvs) from I.hok a _ ea);obtain⟨o,es,ep,h1,h2,_⟩:=p;exact kia_one PySem.W.kitx_dict I.kIn ⟨o,h1,h2.1⟩ e (fun z=>nomatch z) h
 | @dT a kvs ea=>
  cases (show u=Value.ref a from rx);obtain⟨_,_,xs,_,o,es,ep,h1,h2,_⟩:=(show yy X.prog X.w H s.heap a (.dT kvs) from I.hok a _ ea);exact kia_one PySem.W.kitx_dict I.kIn ⟨o,h1,h2.1⟩ e (fun z=>nomatch z) h
 | @ins a C dx fs ea cl ha hn htk hm=>
  cases (show u=Value.ref a from rx);obtain⟨mA,O,_⟩:=jw I.hok ea;obtain⟨od,J,_⟩:=O.look;exact kia_one (PySem.W.kitx_own (cl.get _) cl.hd ha hn htk hm) I.kIn J e (fun z=>nomatch z) h
end
structure yo(k:Nat) (A:Around):Prop where
 hd:A.handled=none
 dp:A.depth+3 * k+5<recursionLimit
 un:A.units+16 * k+200<cLine
theorem yo.mono{j k:Nat}{A:Around}(r:yo k A) (h:j<=k):yo j A:=⟨r.hd,by have:=r.dp;omega,by have:=r.un;omega⟩
theorem yo.deeper{k:Nat}{A:Around}(r:yo (k+1) A) (env:Env):yo k (A.deeper env):=
 ⟨r.hd,by have:=r.dp;show A.depth+1+3 * k+5<_;omega,by have:=r.un;show A.units+3+16 * k+200<_;omega⟩
theorem zcW{A:Around}{C:Addr}{us:List Value}{kw:List (Str×Value)}:(A.under (.builtin "type.__call__" ⟨.ref C::us,kw⟩)).depth=A.depth+1:=by
 first|rfl|simp [Around.under,Code.weight,Code.isCreation,Code.isGuard,Code.isCaller,Code.frames,Code.isFrame,guardIds]
theorem zcV{A:Around}{C:Addr}{us:List Value}{kw:List (Str×Value)}:(A.under (.builtin "type.__call__" ⟨.ref C::us,kw⟩)).units=A.units+1:=by
 first|rfl|simp [Around.under,Code.cUnits,Code.frames,Code.isFrame]
theorem yo.make{k:Nat}{A:Around}(r:yo (k+1) A) (C:Addr) (us:List Value) (kw:List (Str×Value)):yo k (A.under (.builtin "type.__call__" ⟨.ref C::us,kw⟩)):=
 ⟨r.hd,by have:=r.dp;rw[zcW];omega,by have:=r.un;rw[zcV];omega⟩
theorem yo.depth{k:Nat}{A:Around}(r:yo k A):A.depth<recursionLimit:=by have:=r.dp;omega
theorem yo.units{k:Nat}{A:Around}(r:yo k A):A.units+64<cLine:=by have:=r.un;omega
theorem yo.units0{k:Nat}{A:Around}(r:yo k A):A.units<cLine:=by have:=r.un;omega
def ziS:TA:=fun _ H Q=>Q [] H
def zio(ta:TE) (tr:TA):TA:=fun σ H Q=>ta σ H fun x H1=>tr σ H1 fun xs H2=>Q (x::xs) H2
section
variable {X:Cx}{e:Expr}{es:List Expr}{te:TE}{t:TA}{pos:Pos}
theorem zc:PA X [] ziS:=⟨fun _ _ _ _ H Q I h=>Calls.spliced_nil ⟨[],H,I,.nil,h⟩⟩
theorem zhy(ha:PE X e te) (hr:PA X es t) (hs:starEach (e::es) X.env=(false,eval e X.env)::starEach es X.env:=by rfl):PA X (e::es) (zio te t):=by
 refine⟨?_⟩;intro pos pins s σ H Q I h;rw[hs];show wpAny _ _ (spliced ((false,eval e X.env)::backTo pos (starEach es X.env))) _ _ s;refine Calls.spliced_cons (thn (ha pins s σ H _ I h) fun u s1 ⟨x,H1,I1,r1,q1⟩=>?_);exact thn (hr pos pins s1 σ H1 _ I1 q1) fun us s2 ⟨xs,H2,I2,r2,q2⟩=>⟨x::xs,H2,I2,.cons r1 r2,q2⟩
def zli(t:TA):TE:=fun σ H Q=>t σ H fun xs H1=>xs.length<=sizeLine/\∀p,H1 p=none->Q (.ref p) (upd H1 p (.tup xs))
def zll(t:TA):TE:=fun σ H Q=>t σ H fun xs H1=>xs.length<=sizeLine/\∀p,H1 p=none->Q (.ref p) (upd H1 p (.lst xs))
theorem zC{x1} (h:PA X es t):PE X (.Tuple es x1 pos) (zli t):=by
 refine⟨?_⟩;intro pins s σ H Q I hq;refine wpAny_Tuple_spliced (thn (h pos pins s σ H _ I hq) fun us s1 ⟨xs,H1,I1,r,z,q⟩=>⟨by rw[<- r.length];exact z,?_⟩)
 have hf:H1 s1.heap.objs.size=none:=I1.hok.fresh (le_refl _);refine⟨.ref s1.heap.objs.size,upd H1 s1.heap.objs.size (.tup xs),I1.laid (t':=s1.toks) (fun b u e=>Heap.get?_push_of_some _ e) (le_refl _) ?_,rfl,q _ hf⟩;exact⟨z,us,r,⟨_,Heap.get?_push_size _ rfl,rfl,_,rfl⟩⟩
theorem zO(h:PA X es t):PE X (.List es pos) (zll t):=by
 refine⟨?_⟩;intro pins s σ H Q I hq;refine wpAny_List_spliced (thn (h pos pins s σ H _ I hq) fun us s1 ⟨xs,H1,I1,r,z,q⟩=>⟨by rw[<- r.length];exact z,?_⟩)
 have hf:H1 s1.heap.objs.size=none:=I1.hok.fresh (le_refl _);refine⟨.ref s1.heap.objs.size,upd H1 s1.heap.objs.size (.lst xs),I1.laid (t':=s1.toks) (fun b u e=>Heap.get?_push_of_some _ e) (le_refl _) ?_,rfl,q _ hf⟩;exact⟨z,us,0,r,Heap.get?_push_size _ rfl⟩
end
abbrev Sp:=List V->Hp->VK->XK->Prop
abbrev CXT:=List Env->Hp->Shared->XK->Value->Shared->Prop
structure zdn(P:Program) (w:World) (K:Frag) (mg:Str->Option Value) (base:Heap) (A:Around) (outer:List Env) (s:Shared) (H:Hp):Prop where
 frames:A.frames=some outer
 mod:Mod K mg base
 bs:∀b o,base.get? b=some o->s.heap.get? b=some o/\H b=none
 bsz:base.objs.size<=s.heap.objs.size
 funs:s.heap.FunFrames base outer
 frf:∀b∈frs outer,H b=none
 hok:HOk P w H s.heap
 bare:AllBare s.gens
def CE(outer:List Env) (P:Program) (w:World) (H:Hp) (s:Shared) (Q:VK) (u:Value) (s':Shared):Prop:=
 ∃v H',s'.os=s.os/\AllBare s'.gens/\Un (frs outer) [] H H' s.heap s'.heap/\HOk P w H' s'.heap/\zL v u/\Q v H'
def CR(CX:CXT) (outer:List Env) (P:Program) (w:World) (H:Hp) (s:Shared) (Q:VK) (E:XK) (r:Result) (s':Shared):Prop:=
 match r with
 | .ok (.ret u)=>CE outer P w H s Q u s'
 | .ok _=>False
 | .error e=>CX outer H s E e s'
structure zD(P:Program) (w:World) (K:Frag) (mg:Str->Option Value) (base:Heap) (CX:CXT) (k:Nat) (f:Addr) (fd:FuncData) (ps:List Str) (sp:Sp):Prop where
 len:∀vs H Q E,sp vs H Q E->vs.length=ps.length
 run:∀(A:Around) (outer:List Env) (s:Shared) (H:Hp) (args:Args) (us:List Value) (vs:List V) (Q:VK) (E:XK),yo k A->zdn P w K mg base A outer s H->BindsTo s fd args (ps.zip us)->zJ vs us->sp vs H Q E->
  codeAny (model P w) A (.call (.ref f) args) (CR CX outer P w H s Q E) s
theorem zdn.make{P:Program}{w:World}{K:Frag}{mg:Str->Option Value}{base:Heap}{A:Around}{outer:List Env}{s:Shared}{H:Hp}(e:zdn P w K mg base A outer s H) (C:Addr) (us:List Value) (kw:List (Str×Value)) :
  zdn P w K mg base (A.under (.builtin "type.__call__" ⟨.ref C::us,kw⟩)) outer s H:=⟨by first|exact e.frames|(simpa [Around.under,Code.envs,Code.isFrame,pushEnvs] using e.frames),e.mod,e.bs,e.bsz,e.funs,e.frf,e.hok,e.bare⟩
section
variable {X:Cx}{pins:List (Addr×Obj)}{σ : St}{H:Hp}{s s':Shared}
theorem Inv.env0(I:Inv X pins σ H s):zdn X.prog X.w X.K X.mg X.base X.A X.stack s H:=
 ⟨I.ok.frames,I.ok.mod,I.bs,le_trans I.ok.bsz I.sz,I.stack,I.stkFree,I.hok,I.bare⟩
theorem Inv.after{Q:VK}{u:Value}(I:Inv X pins σ H s) (h:CE X.stack X.prog X.w H s Q u s'):EP X pins σ Q u s':=by
 obtain⟨v,H',os,bare,un,hok,r,q⟩:=h;obtain⟨hh,g,d,t,os'⟩:=s';obtain rfl:os'=s.os:=os;exact⟨v,H',I.call (h':=hh) (g':=g) (d':=d) (t':=t) (ch:=[]) un hok bare (fun b z=>absurd z (by simp)),r,q⟩
end
def ze6(sp:Sp) (dvs:List V) (E:XK) (t:TA):TE:=fun σ H Q=>t σ H fun vs H1=>sp (vs++dvs) H1 Q E
def zim(C:Addr) (m:Str) (sp:Sp) (dvs:List V) (E:XK) (ta:TE) (t:TA):TE:=fun σ H Q=>ta σ H fun x H1=>∃a dx fs,x=.ref a/\H1 a=some (.ins C dx fs)/\fs.lookup m=none/\
 t σ H1 fun vs H2=>sp (x::(vs++dvs)) H2 Q E
def zin(C:Addr) (sp:Sp) (dvs:List V) (E:XK) (t:TA):TE:=fun σ H Q=>t σ H fun vs H1=>∀x dx,H1 x=none->H1 dx=none->dx≠x->
 sp (.ref x::(vs++dvs)) (upd (upd H1 dx (.own x)) x (.ins C dx [])) (fun v H2=>v=.non/\Q (.ref x) H2) E
def zM(K:Frag) (fd:FuncData) (ps:List Str) (ds:List Value):Prop:=
 ∀(s:Shared) (us:List Value),K.In s.heap->(us++ds).length=ps.length->BindsTo s fd ⟨us,[]⟩ (ps.zip (us++ds))
theorem zM.all{K:Frag}{fd:FuncData}{ps:List Str}(h:∀us:List Value,us.length=ps.length->bindArgs fd ⟨us,[]⟩=pure (ps.zip us)):zM K fd ps []:=fun s us _ hl=>by
 rw[append_nil] at hl |-;exact .of_eq (h us hl)
def wF(CX:CXT) (X:Cx) (E:XK):Prop:=∀(pins:List (Addr×Obj)) (σ : St) (H:Hp) (s:Shared) (e:Value) (s':Shared),Inv X pins σ H s->CX X.stack H s E e s'->X.xe e s'
section
variable {X:Cx}{CX:CXT}{k:Nat}{f C:Addr}{fd:FuncData}{ps:List Str}{sp:Sp}{dvs:List V}{ds:List Value}{E:XK}{x m:Str}{p pos apos:Pos}{e o:Expr}{es:List Expr}{ta:TE}{t:TA}
theorem jQ{pins:List (Addr×Obj)}{σ : St}{H:Hp}{s:Shared}{Q:VK}{us:List Value}{vs:List V}(F:zD X.prog X.w X.K X.mg X.base CX k f fd ps sp) (hr:yo k X.A) (hb:zM X.K fd ps ds) (hd:zJ dvs ds) (hx:wF CX X E)
  (I:Inv X pins σ H s) (r:zJ vs us) (h:sp (vs++dvs) H Q E):wpAny (model X.prog X.w) X.A (call (.ref f) us) (EP X pins σ Q) X.xe s:=by
 have r2:zJ (vs++dvs) (us++ds):=r.append hd;have hl:(us++ds).length=ps.length:=by rw[<- r2.length];exact F.len _ _ _ _ h
 refine wpAny_call (codeAny_mono (F.run X.A X.stack s H ⟨us,[]⟩ (us++ds) (vs++dvs) Q E hr I.env0 (hb s us I.kIn hl) r2 h) fun r s' hq=>?_);cases r with
 | error e=>exact hx pins σ H s e s' I hq
 | ok fl=>
  cases fl with
  | ret u=>exact I.after hq
  | next=>exact False.elim hq
  | brk=>exact False.elim hq
  | cont=>exact False.elim hq
theorem zhw(F:zD X.prog X.w X.K X.mg X.base CX k f fd ps sp) (hr:yo k X.A) (hg:Gl X x) (hm:X.mg x=some (.ref f)) (hk:keepIn X.K (.ref f)=true) (hb:zM X.K fd ps ds) (hd:zJ dvs ds) (hx:wF CX X E)
  (ha:PA X (e::es) t) (hdb:(x==("__debug__" : Str))=false:=by decide) (he:starEach (e::es) X.env=(false,eval e X.env)::starEach es X.env:=by rfl) (hpl:(backTo pos (starEach es X.env)).any (·.1)=false:=by rfl) :
  PE X (.Call (.Name x p) (e::es) [] pos) (ze6 sp dvs E t):=by
 refine⟨?_⟩;intro pins s σ H Q I h;refine wpAny_Call_Name_kw (uH I hg hm ?_ hdb);refine callWith_K (h₀:=X.base) I.ok.mod.kin hk (thn (ha pos pins s σ H _ I h) fun us s1 ⟨vs,H1,I1,r,q⟩=>⟨I1.kIn,?_⟩) he hpl;exact jQ F hr hb hd hx I1 r q
theorem zaQ{pl:Sem Bool}(he:PE X o ta) (c:Cls X.K C) (hm:yS X.K C m f) (F:zD X.prog X.w X.K X.mg X.base CX k f fd ps sp) (hr:yo k X.A) (hb:zM X.K fd ps ds) (hd:zJ dvs ds) (hx:wF CX X E) (ha:PA X (e::es) t)
  (hst:starEach (e::es) X.env=(false,eval e X.env)::starEach es X.env:=by rfl) (hpl:(backTo pos (starEach es X.env)).any (·.1)=false:=by rfl)
  (ht:eval (.Call (.Attribute o m apos) (e::es) [] pos) X.env=(do
   let ov <- eval o X.env
   standAt apos.atName
   let (f,first) <- holding [ov] (getMethod ov m pl)
   callWith pos f first (backTo pos (starEach (e::es) X.env)) (backToKw pos (keywordEach [] X.env))):=by rfl) :
  PE X (.Call (.Attribute o m apos) (e::es) [] pos) (zim C m sp dvs E ta t):=by
 refine⟨?_⟩;intro pins s σ H Q I h;refine methodCall_KW (pl:=pl) (thn (he pins s σ H _ I h) fun u s1 ⟨x,H1,I1,rx,a,dx,fs,ex,ea,l,q⟩=>?_) ht;subst ex;obtain rfl:u=Value.ref a:=rx;refine vj I1 ea c hm l ?_;refine callWith_K (first:=[.ref a]) (h₀:=X.base) I.ok.mod.kin hm.kp (thn (ha pos pins s1 σ H1 _ I1 q) fun us s2 ⟨vs,H2,I2,r,q2⟩=>⟨I2.kIn,?_⟩) hst hpl
 exact jQ (us:=.ref a::us) (vs:=.ref a::vs) F hr hb hd hx I2 (.cons rfl r) q2
theorem zU{pl:Sem Bool}(he:PE X o ta) (c:Cls X.K C) (hm:yS X.K C m f) (F:zD X.prog X.w X.K X.mg X.base CX k f fd ps sp) (hr:yo k X.A) (hb:zM X.K fd ps ds) (hd:zJ dvs ds) (hx:wF CX X E)
  (ht:eval (.Call (.Attribute o m apos) [] [] pos) X.env=(do
   let ov <- eval o X.env
   standAt apos.atName
   let (f,first) <- holding [ov] (getMethod ov m pl)
   callWith pos f first (backTo pos (starEach [] X.env)) (backToKw pos (keywordEach [] X.env))):=by rfl) :
  PE X (.Call (.Attribute o m apos) [] [] pos) (zim C m sp dvs E ta ziS):=by
 refine⟨?_⟩;intro pins s σ H Q I h;refine methodCall_KW (pl:=pl) (thn (he pins s σ H _ I h) fun u s1 ⟨x,H1,I1,rx,a,dx,fs,ex,ea,l,q⟩=>?_) ht;subst ex;obtain rfl:u=Value.ref a:=rx;refine vj I1 ea c hm l ?_;exact PySem.W.callWith_K0 (first:=[.ref a]) I1.kIn hm.kp (jQ (us:=[.ref a]) (vs:=[.ref a]) F hr hb hd hx I1 (.cons rfl .nil) q)
structure Mk(K:Frag) (C f:Addr):Prop where
 makes:makesIn K C=true
 init:findIn K (.ref C) "__init__"=some (some (.ref f))
 fn:isFn K (.ref f)=true
 kp:keepIn K (.ref C)=true
theorem zfF{pins:List (Addr×Obj)}{σ : St}{H:Hp}{s:Shared}{Q:VK}{us:List Value}{vs:List V}(M:Mk X.K C f) (F:zD X.prog X.w X.K X.mg X.base CX k f fd ps sp) (hr:yo (k+1) X.A) (hb:zM X.K fd ps ds) (hd:zJ dvs ds)
  (hx:wF CX X E) (I:Inv X pins σ H s) (r:zJ vs us)
  (h:∀x dx,H x=none->H dx=none->dx≠x->sp (.ref x::(vs++dvs)) (upd (upd H dx (.own x)) x (.ins C dx [])) (fun v H2=>v=.non/\Q (.ref x) H2) E) :
  wpAny (model X.prog X.w) X.A (call (.ref C) us) (EP X pins σ Q) X.xe s:=by
 have hq:=h (s.heap.objs.size+1) s.heap.objs.size (I.hok.fresh (le_succ _)) (I.hok.fresh (le_refl _)) (ne_of_lt (lt_succ_self _));have I2:=Inv.made (C:=C) I;have r2:zJ (V.ref (s.heap.objs.size+1)::(vs++dvs)) (Value.ref (s.heap.objs.size+1)::(us++ds)):=.cons rfl (r.append hd);have hl:(Value.ref (s.heap.objs.size+1)::us++ds).length=ps.length:=by
  have e:=r2.length;rw[F.len _ _ _ _ hq] at e;exact e.symm
 refine wpAny_call (zgm (f:=f) I.kIn M.makes M.init (beq_iff_eq.mp M.fn) (codeAny_mono (F.run _ X.stack _ _ ⟨Value.ref (s.heap.objs.size+1)::us,[]⟩ (Value.ref (s.heap.objs.size+1)::(us++ds)) _ _ E (hr.make C us [])
  (I2.env0.make C us []) (hb _ (Value.ref (s.heap.objs.size+1)::us) I2.kIn hl) r2 hq) fun r s' hq'=>?_))
 cases r with
 | error e=>exact hx pins σ _ _ e s' I2 hq'
 | ok fl=>
  cases fl with
  | ret u=>
   obtain⟨v,H',I3,rv,ev,q3⟩:=I2.after hq';subst ev;exact⟨rv,⟨V.ref (s.heap.objs.size+1),H',I3,rfl,q3⟩⟩
  | next=>exact False.elim hq'
  | brk=>exact False.elim hq'
  | cont=>exact False.elim hq'
theorem zdH(M:Mk X.K C f) (F:zD X.prog X.w X.K X.mg X.base CX k f fd ps sp) (hr:yo (k+1) X.A) (hg:Gl X x) (hm:X.mg x=some (.ref C)) (hb:zM X.K fd ps ds) (hd:zJ dvs ds) (hx:wF CX X E)
  (ha:PA X (e::es) t) (hdb:(x==("__debug__" : Str))=false:=by decide) (he:starEach (e::es) X.env=(false,eval e X.env)::starEach es X.env:=by rfl) (hpl:(backTo pos (starEach es X.env)).any (·.1)=false:=by rfl) :
  PE X (.Call (.Name x p) (e::es) [] pos) (zin C sp dvs E t):=by
 refine⟨?_⟩;intro pins s σ H Q I h;refine wpAny_Call_Name_kw (uH I hg hm ?_ hdb);refine callWith_K (h₀:=X.base) I.ok.mod.kin M.kp (thn (ha pos pins s σ H _ I h) fun us s1 ⟨vs,H1,I1,r,q⟩=>⟨I1.kIn,?_⟩) he hpl;exact zfF M F hr hb hd hx I1 r q
end
section
variable {X:Cx}{CX:CXT}{k:Nat}{f C:Addr}{fd:FuncData}{ps ks:List Str}{sp:Sp}{E:XK}{x m:Str}{p pos apos kpos:Pos}{e o:Expr}{es:List Expr}{kws:List Keyword}{te ta:TE}{t tk:TA}{nm:Option Str}
variable {g:List Value->List Value->List Value}{gV:List V->List V->List V}
end
structure zr(N P:List Str) (sc:Scope):Prop where
 kind:sc.kind=.function
 co:sc.isCoroutine=false
 gen:sc.isGenerator=false
 nd:N.Nodup
 pre:N.take P.length=P
 par:∀x∈P,sc.names.lookup x=some .local\/sc.names.lookup x=some .cell
 nofree:∀y∈sc.names,y.2≠.free
theorem zan{kindOf:Str->Option NameKind}{x:Str}:∀{binds:List (Str×Value)}{m:Str->Option Value},(∀v,(x,v)∉binds)->bindL kindOf binds m x=m x
 | [],_,_=>rfl
 | (n,v)::r,m,h=>by
  unfold bindL;rw[zan fun w hw=>h w (mem_cons_of_mem _ hw)];split
  ·have:x≠n:=by rintro rfl;exact h v mem_cons_self
   simp [this]
  ·rfl
theorem zap{kindOf:Str->Option NameKind}{x:Str}:∀{binds:List (Str×Value)}{m:Str->Option Value},(∀v,(x,v)∉binds)->bindC kindOf binds m x=m x
 | [],_,_=>rfl
 | (n,v)::r,m,h=>by
  unfold bindC;rw[zap fun w hw=>h w (mem_cons_of_mem _ hw)];split
  ·rfl
  ·have:x≠n:=by rintro rfl;exact h v mem_cons_self
   simp [this]
theorem zao{kindOf:Str->Option NameKind}{x:Str}{v:Value}:∀{P:List Str}{vs:List Value}{i:Nat}{m:Str->Option Value},P.Nodup->P[i]?=some x->vs[i]?=some v->kindOf x=some .local->
  bindL kindOf (P.zip vs) m x=some v
 | [],_,_,_,_,h,_,_=>by simp at h
 | _::_,[],_,_,_,_,h,_=>by simp at h
 | p::P,w::vs,0,m,nd,h1,h2,hk=>by
  simp at h1 h2;subst h1;subst h2;show bindL kindOf ((p,w)::P.zip vs) m p=_;unfold bindL;rw[zan fun v hv=>(List.nodup_cons.mp nd).1 (of_mem_zip hv).1,if_pos hk];simp
 | p::P,w::vs,i+1,m,nd,h1,h2,hk=>by
  show bindL kindOf ((p,w)::P.zip vs) m x=_;unfold bindL;exact zao (i:=i) (List.nodup_cons.mp nd).2 (by simpa using h1) (by simpa using h2) hk
theorem zaq{kindOf:Str->Option NameKind}{x:Str}{v:Value}:∀{P:List Str}{vs:List Value}{i:Nat}{m:Str->Option Value},P.Nodup->P[i]?=some x->vs[i]?=some v->kindOf x≠some .local->
  bindC kindOf (P.zip vs) m x=some v
 | [],_,_,_,_,h,_,_=>by simp at h
 | _::_,[],_,_,_,_,h,_=>by simp at h
 | p::P,w::vs,0,m,nd,h1,h2,hk=>by
  simp at h1 h2;subst h1;subst h2;show bindC kindOf ((p,w)::P.zip vs) m p=_;unfold bindC;rw[zap fun v hv=>(List.nodup_cons.mp nd).1 (of_mem_zip hv).1,if_neg hk];simp
 | p::P,w::vs,i+1,m,nd,h1,h2,hk=>by
  show bindC kindOf ((p,w)::P.zip vs) m x=_;unfold bindC;exact zaq (i:=i) (List.nodup_cons.mp nd).2 (by simpa using h1) (by simpa using h2) hk
def uy(N:List Str) (vs:List V):St:=vs.map some++List.replicate (N.length - vs.length) none
def zdd(CX:CXT) (P:Program) (w:World) (K:Frag) (mg:Str->Option Value) (base:Heap) (N:List Str) (qual:Str) (scope:Scope) (f:Addr) (cd:Value) (A:Around) (outer:List Env) (s:Shared) (H:Hp) (E:XK):Cx where
 prog:=P
 w:=w
 K:=K
 mg:=mg
 base:=base
 A:=A.deeper (envOfC qual scope s.heap.objs.size f cd)
 N:=N
 s₀:=s
 H₀:=H
 env:=envOfC qual scope s.heap.objs.size f cd
 outer:=outer
 stack:=envOfC qual scope s.heap.objs.size f cd::outer
 ex:=[]
 calm:=true
 fn:=fun _=>true
 pn:=[]
 xe:=fun e s'=>wpAny (model P w) (A.deeper (envOfC qual scope s.heap.objs.size f cd)) (leaving (envOfC qual scope s.heap.objs.size f cd) e) (fun _ s''=>CX outer H s E e s'') (fun e' s''=>CX outer H s E e' s'') s'
theorem zb7{sc:Scope}{n:Nat}{x:Str}(h:sc.names.lookup x=some .cell):∃c,(cellsFrom n sc.names []).lookup x=some c:=by
 have q:=PySem.W.cellsFrom_some sc.names n [] (.inl h);exact Option.isSome_iff_exists.mp q
theorem zeE{CX:CXT}{P:Program}{w:World}{K:Frag}{mg:Str->Option Value}{base:Heap}{N ps:List Str}{qual:Str}{scope:Scope}{f:Addr}{cd:Value}{A:Around}{outer:List Env}{s s1:Shared}{H:Hp}{E:XK}{us:List Value}{vs:List V}
  (S:zr N ps scope) (hd:A.handled=none) (e0:zdn P w K mg base A outer s H) (hl:vs.length=ps.length) (r:zJ vs us)
  (x:InCallC s s.heap.objs.size (bindL (envOfC qual scope s.heap.objs.size f cd).kindOf (ps.zip us) fun _=>none) (cellsFrom (s.heap.objs.size+1) scope.names []) (bindC (envOfC qual scope s.heap.objs.size f cd).kindOf (ps.zip us) fun _=>none) s1) :
  Inv (zdd CX P w K mg base N qual scope f cd A outer s H E) [] (uy N vs) H s1:=by
 have hpl:ps.length<=N.length:=by have:=congrArg List.length S.pre;rw[length_take] at this;omega
 obtain⟨h1,tk,rfl,hk⟩:=x.done;have noA:∀b:Addr,b∉(zdd CX P w K mg base N qual scope f cd A outer s H E).ex:=fun b z=>absurd (show b∈([]:List Addr) from z) (by simp)
 refine⟨⟨e0.mod,S.kind,rfl,rfl,le_refl _,fun y z c h1 h2=>?_,fun y hy=>?_,fun y c _ h=>?_,fun _=>hd,Around.frames_deeper e0.frames,.inr ⟨rfl,rfl⟩,fun b z=>absurd z (noA b),e0.bs,e0.bsz,fun b _ _=>noA b,fun b z=>absurd z (noA b),e0.funs,e0.frf⟩,
  rfl,e0.bare,Un.kept hk,⟨_,x.toInCall.ns,fun i y v h1 h2 h3=>?_⟩,fun y c h=>⟨_,x.cell y c h⟩,e0.hok.fresh (le_refl _),fun y c h=>?_,fun p hp=>absurd (show p∈([]:List (Addr×Obj)) from hp) (by simp),e0.hok.kept hk,?_⟩
 ·exact name_of_addr x.apart (PySem.mem_of_lookup h1) (PySem.mem_of_lookup h2)
 ·have hy:scope.names.lookup y=some .cell\/scope.names.lookup y=some .free:=hy
  rcases hy with hy|hy
  ·exact zb7 hy
  ·exact absurd rfl (S.nofree _ (PySem.mem_of_lookup hy))
 ·exact le_of_lt (x.above y c (PySem.mem_of_lookup h))
 ·have hi:i<vs.length:=by
   unfold uy at h2;by_cases hi:i<vs.length
   ·exact hi
   ·rw[List.getElem?_append_right (by simpa using hi)] at h2
    rw[List.getElem?_replicate] at h2;split at h2 <;> cases h2
  have ha:vs[i]?=some v:=by
   unfold uy at h2;rw[List.getElem?_append_left (by simpa using hi),getElem?_map] at h2
   cases e:vs[i]? with
   | none=>rw[e] at h2;cases h2
   | some a=>rw[e] at h2;cases h2;rfl
  obtain⟨u,hu,rv⟩:=r.get ha;have hp:ps[i]?=some y:=by
   rw[<- S.pre,List.getElem?_take_of_lt (by omega)];exact h1
  have ndP:ps.Nodup:=by rw[<- S.pre];exact S.nd.sublist (List.take_sublist _ _)
  refine⟨u,rv,?_⟩;rcases S.par y (mem_of_getElem? hp) with k|k
  ·exact .inl ⟨k,zao ndP hp hu k⟩
  ·obtain⟨c,e⟩:=zb7 (n:=s.heap.objs.size+1) k
   refine .inr ⟨.inl k,c,e,?_⟩;have q:=x.cell y c e;rw[zaq ndP hp hu (by show scope.names.lookup y≠_;rw[k];decide)] at q
   exact q
 ·exact e0.hok.fresh (le_of_lt (x.above y c (PySem.mem_of_lookup h)))
 ·unfold uy
  show _=N.length;rw[length_append,length_map,List.length_replicate];omega
theorem ziK{CX:CXT}{P:Program}{w:World}{K:Frag}{mg:Str->Option Value}{base:Heap}{k:Nat}{f:Addr}{name qual:Str}{params:Arguments}{body:List Stmt}{scope:Scope}{dV kV doc pm cdv ct oc:Value}{an od:Option Addr}
  {osl:Array (Option Value)}{N ps:List Str}{sp:Sp}(lk:K.lookup f=some ⟨oc,od,.func (fnOf name qual params body scope dV kV doc pm an cdv ct),osl⟩) (hcd:codeIn K cdv qual=true) (S:zr N ps scope)
  (len:∀vs H Q E,sp vs H Q E->vs.length=ps.length)
  (hbody:∀(A:Around) (outer:List Env) (s:Shared) (H:Hp) (vs:List V) (Q:VK) (E:XK),yo k (A.deeper (envOfC qual scope s.heap.objs.size f cdv))->sp vs H Q E->
   ∃t,PSs (zdd CX P w K mg base N qual scope f cdv A outer s H E) body t/\t { nx:=fun _ H'=>Q .non H',rt:=Q } (uy N vs) H) :
  zD P w K mg base CX (k+1) f (fnOf name qual params body scope dV kV doc pm an cdv ct) ps sp:=by
 refine⟨len,fun A outer s H args us vs Q E hr e0 hb r hsp=>?_⟩;have hl:=len _ _ _ _ hsp;have KX:K.In s.heap:=e0.mod.kin.keeps fun b o e=>(e0.bs b o e).1;have lim:s.heap.NoLimit:=e0.mod.nolimit.keeps fun b o e=>(e0.bs b o e).1;have hkind:∀y∈ps.zip us,scope.names.lookup y.1=some .local\/(scope.names.lookup y.1=some .cell/\((cellsFrom (s.heap.objs.size+1) scope.names []).lookup y.1).isSome=true):=fun⟨n,v⟩ hy=>by
  rcases S.par n (of_mem_zip hy).1 with q|q
  ·exact .inl q
  ·exact .inr ⟨q,PySem.W.cellsFrom_some _ _ _ (.inl q)⟩
 refine codeAny_call_function hr.depth (KX _ _ lk) rfl S.co S.gen rfl (PySem.W.codeRec_of KX hcd) (hb _ _ _ _ ?_);refine wpAny_newFunctionEnv_cells S.kind hkind fun env he s1 x=>?_;subst he;refine⟨lim.keeps x.toInCall.keep,codeAny_func ?_⟩;obtain⟨t,ht,hq⟩:=hbody A outer s H vs Q E (hr.deeper _) hsp;have I:Inv (zdd CX P w K mg base N qual scope f cdv A outer s H E) [] (uy N vs) H s1:=zeE S hr.hd e0 hl r x;refine wpAny_mono (ht [] s1 (uy N vs) H _ I hq) (fun fl s' hs=>?_) fun e s' hs=>hs;have fin:∀{σ':St}{H':Hp}{v:V}{u:Value},Inv (zdd CX P w K mg base N qual scope f cdv A outer s H E) [] σ' H' s'->zL v u->Q v H'->CE outer P w H s Q u s':=
  fun {σ' H' v u} J rv q=>⟨v,H',J.os,J.bare,J.base,J.hok,rv,q⟩
 cases fl with
 | ret u=>
  obtain⟨v,σ',H',J,rv,q⟩:=hs;exact fin J rv q
 | next=>
  obtain⟨σ',H',J,q⟩:=hs;exact fin (v:=V.non) (u:=Value.none) J rfl q
 | brk=>
  obtain⟨_,_,_,q⟩:=hs;exact False.elim q
 | cont=>
  obtain⟨_,_,_,q⟩:=hs;exact False.elim q
section
variable {X:Cx}{x:Str}{p pos:Pos}{e:Expr}{es:List Expr}{t:TA}{id T:String}{r:List V->Hp->VK->Prop}
def tCB(r:List V->Hp->VK->Prop) (t:TA):TE:=fun σ H Q=>t σ H fun vs H1=>r vs H1 Q
theorem zfS(hc:xv X (.builtin id) r) (hg:Gl X x) (hm:X.mg x=none) (hv:bootBuiltins x=some (.builtin id)) (ha:PA X (e::es) t) (hn:x≠"__name__":=by decide) (hdb:(x==("__debug__" : Str))=false:=by decide)
  (he:starEach (e::es) X.env=(false,eval e X.env)::starEach es X.env:=by rfl) (hpl:(backTo pos (starEach es X.env)).any (·.1)=false:=by rfl):PE X (.Call (.Name x p) (e::es) [] pos) (tCB r t):=by
 refine⟨?_⟩;intro pins s σ H Q I h;refine wpAny_Call_Name_kw (vG I hg hm hv ?_ hn hdb);exact PyProof.Rows.callWith_builtin1 (thn (ha pos pins s σ H _ I h) fun us s1 ⟨vs,H1,I1,r1,q1⟩=>hc pins s1 σ H1 vs us Q I1 r1 q1) he hpl
theorem zej(hc:xv X (.type T) r) (hg:Gl X x) (hm:X.mg x=none) (hv:bootBuiltins x=some (.type T)) (ha:PA X (e::es) t) (hn:x≠"__name__":=by decide) (hdb:(x==("__debug__" : Str))=false:=by decide)
  (he:starEach (e::es) X.env=(false,eval e X.env)::starEach es X.env:=by rfl) (hpl:(backTo pos (starEach es X.env)).any (·.1)=false:=by rfl):PE X (.Call (.Name x p) (e::es) [] pos) (tCB r t):=by
 refine⟨?_⟩;intro pins s σ H Q I h;refine wpAny_Call_Name_kw (vG I hg hm hv ?_ hn hdb);exact PyProof.Rows.callWith_type1 (thn (ha pos pins s σ H _ I h) fun us s1 ⟨vs,H1,I1,r1,q1⟩=>hc pins s1 σ H1 vs us Q I1 r1 q1) he hpl
theorem zcJ(hc:xv X (.type T) r) (hg:Gl X x) (hm:X.mg x=none) (hv:bootBuiltins x=some (.type T)) (hn:x≠"__name__":=by decide) (hdb:(x==("__debug__" : Str))=false:=by decide) :
  PE X (.Call (.Name x p) [] [] pos) (tCB r ziS):=by
 refine⟨?_⟩;intro pins s σ H Q I h;refine wpAny_Call_Name_kw (vG I hg hm hv ?_ hn hdb);exact PyProof.Rows.callWith_type0 (hc pins s σ H [] [] Q I .nil h)
end
end L2
namespace HT
open PySem PyProof.Rows
section
open PySem.SeqAt
open PySem.AutoSeq1 (wpAny_loadPart')
open PySem.MeetsSeq PySem.MeetsSeq2 PySem.MeetsSeq3
end
section
variable {prog:Program}{w:World}{A:Around}{E:Value->Shared->Prop}{s:Shared}
theorem zlh{t b:Addr}{vs ws:List Value}{Q:Value->Shared->Prop}(ht:IsTup s.heap t vs.toArray) (hb:IsTup s.heap b ws.toArray) (hv:vs≠[])
  (h1:ws=[]->Q (.ref t) s) (h2:ws≠[]->Q (.ref s.heap.objs.size) { s with heap:=s.heap.push { cls:=.type "tuple",data:=.seq (vs++ws).toArray } })
  (hsz:vs.length+ws.length<=sizeLine):wpAny (model prog w) A (binaryOp .Add (.ref t) (.ref b)) Q E s:=by
 obtain⟨⟨cls,dd,data,sl⟩,ho,hc,n,hd⟩:=id ht;obtain⟨⟨cls2,dd2,data2,sl2⟩,ho2,hc2,n2,hd2⟩:=id hb;simp only at hc hd hc2 hd2;subst hc hd hc2 hd2;have e:vs.toArray++ws.toArray=(vs++ws).toArray:=by simp
 by_cases hw:ws=[]
 ·exact concat_meets ⟨_,ho,rfl⟩ ⟨_,ho2,rfl⟩ noFill_tuple_add seq_tuple_add PySem.F.slot_tuple_add PySem.F.entry_tuple_add (PySem.F.args_tuple_add_2 _ _)
   (tuple_addW1 t b vs.toArray ws.toArray n n2 dd dd2 sl sl2 (by simpa using hv) (by simp [hw])) ⟨ho,ho2,h1 hw⟩
 ·refine concat_meets ⟨_,ho,rfl⟩ ⟨_,ho2,rfl⟩ noFill_tuple_add seq_tuple_add PySem.F.slot_tuple_add PySem.F.entry_tuple_add (PySem.F.args_tuple_add_2 _ _)
   (tuple_addW2 t b vs.toArray ws.toArray n n2 dd dd2 sl sl2 (by simpa using hv) (by simpa using hw) (by rw[size_toArray,size_toArray];exact hsz)) ⟨ho,ho2,?_⟩
  rw[e];exact h2 hw
def sIx(n d:Nat):Option Int->Nat
 | none=>d
 | some v=>if v<0 then (v+(n:Int)).toNat else min v.toNat n
theorem zkx(n d:Nat):sIx n d none=d:=rfl
theorem zlg(n d k:Nat):sIx n d (some (k:Int))=min k n:=by
 show(if (k:Int)<0 then ((k:Int)+(n:Int)).toNat else min (k:Int).toNat n)=min k n
 rw[if_neg (by omega),toNat_natCast]
end
end HT
namespace L2
open PySem PySem.Spec PyProof.Rows
abbrev TO:=St->Hp->(Option Int->Hp->Prop)->Prop
structure PO(X:Cx) (e:Option Expr) (t:TO):Prop where
 run:∀(pins:List (Addr×Obj)) (s:Shared) (σ : St) (H:Hp) (Q:Option Int->Hp->Prop),Inv X pins σ H s->t σ H Q->
  wpAny (model X.prog X.w) X.A (evalPart e X.env) (fun u s'=>∃o H',Inv X pins σ H' s'/\IsPart u o/\Q o H') X.xe s
instance {X:Cx}{e:Option Expr}{t:TO}:CoeFun (PO X e t) (fun _=>∀(pins:List (Addr×Obj)) (s:Shared) (σ : St) (H:Hp) (Q:Option Int->Hp->Prop),Inv X pins σ H s->t σ H Q->
  wpAny (model X.prog X.w) X.A (evalPart e X.env) (fun u s'=>∃o H',Inv X pins σ H' s'/\IsPart u o/\Q o H') X.xe s):=⟨PO.run⟩
def zg4:TO:=fun _ H Q=>Q none H
def zke(t:TE):TO:=fun σ H Q=>t σ H fun x H1=>∃i,x=.int i/\Q (some i) H1
section
variable {X:Cx}{e:Expr}{te:TE}{lo hi:Option Expr}{tl th:TO}{pos p2:Pos}
theorem yD:PO X none zg4:=by
 refine⟨?_⟩;intro pins s σ H Q I h;rw[evalPart_none];exact wpAny_pure ⟨none,H,I,.none,h⟩
theorem yp(h:PE X e te):PO X (some e) (zke te):=by
 refine⟨?_⟩;intro pins s σ H Q I hw;rw[evalPart_some];refine thn (h pins s σ H _ I hw) fun u s1 ⟨x,H1,I1,r1,q1⟩=>?_;obtain⟨i,rfl,q⟩:=q1;obtain⟨t,rfl⟩:=r1;exact⟨some i,H1,I1,.int i t,q⟩
def SlR(X:Cx) (r:V->Option Int->Option Int->Hp->VK->Prop):Prop:=
 ∀(pins:List (Addr×Obj)) (s:Shared) (σ : St) (H:Hp) (x:V) (v vl vu:Value) (lo hi:Option Int) (sl:Addr) (Q:VK),Inv X pins σ H s->zL x v->s.heap.IsSliceOf sl vl vu .none->IsPart vl lo->IsPart vu hi->r x lo hi H Q->
  ∃T id,typeLookup (.type T) "__getitem__"=pure (some (.builtin id))/\s.TypeIs v T/\wpAny (model X.prog X.w) X.A (getItem v (.ref sl)) (EP X pins σ Q) X.xe s
def tSl(r:V->Option Int->Option Int->Hp->VK->Prop) (te:TE) (tl th:TO):TE:=fun σ H Q=>te σ H fun x H1=>tl σ H1 fun l H2=>th σ H2 fun u H3=>r x l u H3 Q
theorem ye{r:V->Option Int->Option Int->Hp->VK->Prop}(hr:SlR X r) (he:PE X e te) (hl:PO X lo tl) (hu:PO X hi th):PE X (.Subscript e (.Slice lo hi none p2) pos) (tSl r te tl th):=by
 refine⟨?_⟩;intro pins s σ H Q I h;refine Subscript_ (thn (he pins s σ H _ I h) fun v s1 ⟨x,H1,I1,r1,q1⟩=>?_);refine wpAny_Slice (thn (hl pins s1 σ H1 _ I1 q1) fun vl s2 ⟨l,H2,I2,pl,q2⟩=>thn (hu pins s2 σ H2 _ I2 q2) fun vu s3 ⟨u,H3,I3,pu,q3⟩=>?_);rw[evalPart_none];refine wpAny_pure ?_;have I4:Inv X pins σ H3 { s3 with heap:=s3.heap.push { cls:=.type "slice",data:=.fields #[vl,vu,.none] } }:=I3.kept (t':=s3.toks) fun b ob q=>Heap.get?_push_of_some _ q
 obtain⟨T,id,hT,ht,hg⟩:=hr pins { s3 with heap:=s3.heap.push { cls:=.type "slice",data:=.fields #[vl,vu,.none] } } σ H3 x v vl vu l u s3.heap.objs.size Q I4 r1 (Heap.IsSliceOf.new ..) pl pu q3
 show wpAny (model X.prog X.w) X.A (subscriptTail e (.Slice lo hi none p2) v (.ref s3.heap.objs.size)) (EP X pins σ Q) X.xe { s3 with heap:=s3.heap.push { cls:=.type "slice",data:=.fields #[vl,vu,.none] } }
 exact tail_any (ops:=[.ref s3.heap.objs.size,v]) ht hT hg (by with_unfolding_all rfl)
def wu(xs:List V) (lo hi:Option Int):List V:=(xs.drop (HT.sIx xs.length 0 lo)).take (HT.sIx xs.length xs.length hi - HT.sIx xs.length 0 lo)
theorem zb3(xs:List V) (lo hi:Option Int):(wu xs lo hi).length<=xs.length:=by
 unfold wu;rw[length_take,length_drop];omega
def zkE(K:Frag):R2:=fun x y H Q=>∃a b xs ys,x=.ref a/\y=.ref b/\SqT K H a xs/\SqT K H b ys/\xs≠[]/\xs.length+ys.length<=sizeLine/\
 (ys=[]->Q (.ref a) H)/\(ys≠[]->∀p,H p=none->Q (.ref p) (upd H p (.tup (xs++ys))))
theorem zJ.nil_iff{xs:List V}{us:List Value}(r:zJ xs us):us=[] ↔ xs=[]:=by
 cases r with
 | nil=>simp
 | cons _ _=>simp
theorem zhB:OpR X (binaryOp .Add) (zkE X.K):=by
 intro pins s σ H x y v u Q I rx ry h;obtain⟨a,b,xs,ys,rfl,rfl,ha,hb,hx,hz,q1,q2⟩:=h;cases rx;cases ry;obtain⟨its,r1,p1,_⟩:=I.tuple ha;obtain⟨its2,r2,p2,_⟩:=I.tuple hb;refine HT.zlh p1 p2 (fun z=>hx (r1.nil_iff.mp z)) (fun z=>⟨.ref a,H,I,rfl,q1 (r2.nil_iff.mp z)⟩) (fun z=>?_) (by rw[<- r1.length,<- r2.length];exact hz)
 refine⟨.ref s.heap.objs.size,_,I.laid (t':=s.toks) (o:=.tup (xs++ys)) (fun b ob q=>Heap.get?_push_of_some _ q) (le_refl _) ?_,rfl,q2 (fun w=>z (r2.nil_iff.mpr w)) _ (I.hok.fresh (le_refl _))⟩;exact⟨by rw[length_append];exact hz,_,r1.append r2,IsTup.new _ _⟩
end
def ixN(n:Nat) (i:Int):Option Nat:=if 0<=i then (if i<n then some i.toNat else none) else if -(n:Int)<=i then some (i+n).toNat else none
def atI{α : Type}(xs:List α) (i:Int):Option α:=(ixN xs.length i).bind fun j=>xs[j]?
theorem zaX{n:Nat}{i:Int}{j:Nat}(h:ixN n i=some j):seqIndex? i n=some j/\j<n/\-(n:Int)<=i/\i<n:=by
 unfold ixN at h;by_cases h0 : 0<=i
 ·rw[if_pos h0] at h
  by_cases h1:i<n
  ·rw[if_pos h1] at h
   have e:i.toNat=j:=Option.some.inj h;exact⟨by rw[seqIndex_of h0 h1,e],by omega,by omega,h1⟩
  ·rw[if_neg h1] at h;cases h
 ·rw[if_neg h0] at h
  by_cases h1 : -(n:Int)<=i
  ·rw[if_pos h1] at h
   have e:(i+n).toNat=j:=Option.some.inj h;exact⟨by rw[seqIndex_neg (by omega) h1,e],by omega,h1,by omega⟩
  ·rw[if_neg h1] at h;cases h
theorem za6{α : Type}{xs:List α}{i:Int}{v : α}(h:atI xs i=some v):∃j,seqIndex? i xs.length=some j/\xs[j]?=some v/\j<xs.length/\-(xs.length:Int)<=i/\i<xs.length:=by
 unfold atI at h;cases e:ixN xs.length i with
 | none=>rw[e] at h;cases h
 | some j=>
  rw[e] at h;obtain⟨h1,h2,h3,h4⟩:=zaX e;exact⟨j,h1,h,h2,h3,h4⟩
theorem yJ{α : Type}{xs:List α}{j:Nat}{v : α}(h:xs[j]?=some v):atI xs (j:Int)=some v:=by
 have hj:j<xs.length:=(List.getElem?_eq_some_iff.mp h).1;have e:ixN xs.length (j:Int)=some j:=by
  unfold ixN;rw[if_pos (by omega),if_pos (by omega)];simp
 unfold atI;rw[e];exact h
def zij(b:Expr):Prop:=∀o i,subscripted b false o i=operate [o,i] (getItem o i)
def IxR(X:Cx) (r:R2):Prop:=
 ∀(value slice:Expr) (pins:List (Addr×Obj)) (s:Shared) (σ : St) (H:Hp) (x y:V) (v u:Value) (Q:VK),Inv X pins σ H s->zL x v->zL y u->r x y H Q->
  subscripted slice false v u=operate [v,u] (getItem v u)->wpAny (model X.prog X.w) X.A (subscriptTail value slice v u) (EP X pins σ Q) X.xe s
def MtR(X:Cx) (id:String) (r:V->List V->Hp->VK->Prop):Prop:=
 ∀(pins:List (Addr×Obj)) (s:Shared) (σ : St) (H:Hp) (x:V) (xs:List V) (v:Value) (us:List Value) (Q:VK),Inv X pins σ H s->zL x v->zJ xs us->r x xs H Q->
  wpAny (model X.prog X.w) X.A (call (.builtin id) (v::us)) (EP X pins σ Q) X.xe s
section
variable {X:Cx}{a b:Expr}{ta tb:TE}{pos:Pos}
theorem zB{r:R2}(hr:IxR X r) (ha:PE X a ta) (hb:PE X b tb) (hs:zij b):PE X (.Subscript a b pos) (tOp r ta tb):=by
 refine⟨?_⟩;intro pins s σ H Q I h;exact Subscript_ (zj2 ha hb I h fun v u s2 x y H2 I2 rx ry q=>hr a b pins s2 σ H2 x y v u Q I2 rx ry q (hs _ _))
inductive zl4(K:Frag) (x y:V) (H:Hp) (Q:VK):Prop where
 | mk (p:Addr) (xs:List V) (i:Int) (v:V) (e1:x=.ref p) (e2:y=.int i) (h:SqL K H p xs) (a:atI xs i=some v) (q:Q v H)
def zkD(K:Frag):R2:=fun x y H Q=>zl4 K x y H Q
inductive zl3(K:Frag) (x y:V) (H:Hp) (Q:VK):Prop where
 | mk (p:Addr) (xs:List V) (i:Int) (v:V) (e1:x=.ref p) (e2:y=.int i) (h:SqT K H p xs) (a:atI xs i=some v) (q:Q v H)
def qu(K:Frag):R2:=fun x y H Q=>zl3 K x y H Q
def zlz:R2:=fun x y H Q=>∃z i c,x=.str z/\y=.int i/\z.length<=sizeLine/\atI z.cps.toList i=some c/\Q (.str ⟨#[c]⟩) H
theorem yF:IxR X (zkD X.K):=by
 intro value slice pins s σ H x y v u Q I rx ry h hs;obtain⟨p,xs,i,z,rfl,rfl,hq,he,q⟩:=h;cases rx;obtain⟨t,rfl⟩:=ry;obtain⟨its,r,pl,hz⟩:=I.list hq;obtain⟨j,h1,h2,h3,h4,h5⟩:=za6 he;obtain⟨w,ew,rw'⟩:=r.get h2;have hl:=r.length;have hn:=uj;have fin:EP X pins σ Q w s:=⟨z,H,I,rw',q⟩;by_cases h0 : 0<=i
 ·have hj:i.toNat=j:=by
   rw[seqIndex_of h0 h5] at h1;exact Option.some.inj h1
  exact item_listR pl.isList h0 (by omega) (by rw[hj];simpa using ew) fin hs
 ·have hj:(i+(its.toArray.size:Int)).toNat=j:=by
   rw[seqIndex_neg (by omega) h4] at h1
   rw[size_toArray,<- hl];exact Option.some.inj h1
  exact subscriptTail_builtinR (x:=w) pl.isList.typeIs slot_list_getitem.lookup
   (wpAny_getItem_list_neg (Q:=fun r s'=>r=w/\EP X pins σ Q r s') pl.isList (by omega) (by rw[size_toArray] <;> omega) (by omega) (by rw[hj];simpa using ew) ⟨rfl,fin⟩) hs
theorem zy:IxR X (qu X.K):=by
 intro value slice pins s σ H x y v u Q I rx ry h hs;obtain⟨p,xs,i,z,rfl,rfl,hq,he,q⟩:=h;cases rx;obtain⟨t,rfl⟩:=ry;obtain⟨its,r,pl,hz⟩:=I.tuple hq;obtain⟨j,h1,h2,h3,h4,h5⟩:=za6 he;obtain⟨w,ew,rw'⟩:=r.get h2;have hl:=r.length;have hn:=uj;have fin:EP X pins σ Q w s:=⟨z,H,I,rw',q⟩;exact subscriptTail_builtinR (x:=w) pl.typeIs slot_tuple_getitem.lookup
  (getItem_tuple (j:=j) (Q:=fun r s'=>r=w/\EP X pins σ Q r s') pl (by omega) (by omega) (by rw[size_toArray,<- hl];exact h1) (by simpa using ew) ⟨rfl,fin⟩) hs
theorem zjP:IxR X zlz:=by
 intro value slice pins s σ H x y v u Q I rx ry h hs;obtain⟨z,i,c,rfl,rfl,hz,he,q⟩:=h;obtain⟨t,rfl⟩:=rx;obtain⟨t',rfl⟩:=ry;obtain⟨j,h1,h2,h3,h4,h5⟩:=za6 he;have hl:z.cps.toList.length=z.length:=by simp [Str.length]
 rw[hl] at h1 h4 h5;have hn:=uj;exact tail_any (typeIs_str s z t) slot_str_getitem.lookup (getItem_str (c:=c) (by
  have e1:decide (i < -(2 ^ 63:Int))=false:=decide_eq_false (by omega)
  have e2:decide (i>=2 ^ 63)=false:=decide_eq_false (by omega)
  rw[e1,e2,Bool.or_false]) (by rw[h1];simpa using h2) ⟨.str ⟨#[c]⟩,H,I.tok _,⟨_,rfl⟩,q⟩) hs
theorem zcU(its:List Value) (n j:Nat) (u:Value):Obj.mapSeq (·.setIfInBounds j u) { cls:=.type "list",data:=.seq its.toArray n }={ cls:=.type "list",data:=.seq (its.set j u).toArray n }:=by
 simp [Obj.mapSeq]
theorem Inv.lst{pins:List (Addr×Obj)}{σ : St}{H:Hp}{s:Shared}{p:Addr}{xs:List V}(I:Inv X pins σ H s) (h:H p=some (.lst xs)) :
  ∃(its:List Value) (n:Nat),zJ xs its/\s.heap.get? p=some { cls:=.type "list",data:=.seq its.toArray n }/\xs.length<=sizeLine:=by
 obtain⟨z,its,n,r,e⟩:=I.hok p _ h;exact⟨its,n,r,e,z⟩
theorem Inv.lstUpd{pins:List (Addr×Obj)}{σ : St}{H:Hp}{s:Shared}{p:Addr}{xs ys:List V}{its its':List Value}{n n':Nat}{f:Obj->Obj}(I:Inv X pins σ H s) (h:H p=some (.lst xs))
  (ho:s.heap.get? p=some { cls:=.type "list",data:=.seq its.toArray n }) (hf:f { cls:=.type "list",data:=.seq its.toArray n }={ cls:=.type "list",data:=.seq its'.toArray n' }) (r:zJ ys its') (hz:ys.length<=sizeLine) (t:Nat) :
  Inv X pins σ (upd H p (.lst ys)) { s with heap:=s.heap.update p f,toks:=t }:=by
 have e:(s.heap.update p f).get? p=some { cls:=.type "list",data:=.seq its'.toArray n' }:=by
  rw[Heap.get?_update_self f ho (by rw[hf] <;> rfl),hf]
 refine I.write (x:=p) (e:=p) (by rw[h];trivial) (.inl rfl) (fun b u hb q=>(Heap.get?_update_other _ _ (Ne.symm hb)).trans q) ⟨_,e⟩ ?_
 exact⟨hz,its',n',r,e⟩
def zkB:V->V->V->Hp->(Hp->Prop)->Prop:=fun o i v H Q=>∃p xs k j,o=.ref p/\i=.int k/\H p=some (.lst xs)/\ixN xs.length k=some j/\Q (upd H p (.lst (xs.set j v)))
theorem wI:zle X zkB:=by
 intro pins s σ H o i v ov iv u Q I ro ri rv h;obtain⟨p,xs,k,j,rfl,rfl,hp,hj,q⟩:=h;cases ro;obtain⟨t,rfl⟩:=ri;obtain⟨its,n,r,ho,hz⟩:=I.lst hp;obtain⟨h1,h2,h3,h4⟩:=zaX hj;have hl:=r.length;have hn:=uj;have I':Inv X pins σ (upd H p (.lst (xs.set j v))) { s with heap:=s.heap.update p (Obj.mapSeq (·.setIfInBounds j u)) }:=
  I.lstUpd hp ho (zcU its n j u) (r.set rv j) (by rw[length_set];exact hz) s.toks
 by_cases h0 : 0<=k
 ·have hk:k.toNat=j:=by
   rw[seqIndex_of h0 h4] at h1;exact Option.some.inj h1
  exact PySem.W.ki_setAt ho h0 (by omega) (by rw[size_toArray,<- hl];exact h4) (by rw[hk];exact⟨_,I',q⟩)
 ·have hk:(k+(its.toArray.size:Int)).toNat=j:=by
   rw[seqIndex_neg (by omega) h3] at h1
   rw[size_toArray,<- hl];exact Option.some.inj h1
  exact PySem.W.ki_setBack ho (by omega) (by rw[size_toArray,<- hl];exact h3) (by omega) (by rw[hk];exact⟨_,I',q⟩)
theorem zaD(lo hi:Option Int) (n:Nat):(sliceBounds lo hi none n).1=((HT.sIx n 0 lo:Nat):Int)/\(sliceBounds lo hi none n).2.1=((HT.sIx n n hi:Nat):Int)/\(sliceBounds lo hi none n).2.2=1:=by
 refine⟨?_,?_,rfl⟩
 ·cases lo with
  | none=>simp [sliceBounds,HT.sIx]
  | some i=>
   simp only[sliceBounds,HT.sIx,getD_none,show(1:Int)>0 by decide,if_true]
   by_cases h:i<0
   ·simp only[h,if_true] <;> omega
   ·simp only[h,if_false] <;> omega
 ·cases hi with
  | none=>simp [sliceBounds,HT.sIx]
  | some i=>
   simp only[sliceBounds,HT.sIx,getD_none,show(1:Int)>0 by decide,if_true]
   by_cases h:i<0
   ·simp only[h,if_true] <;> omega
   ·simp only[h,if_false] <;> omega
theorem qt(its:List Value) (lo hi:Option Int):slicePick its.toArray lo hi none=((its.drop (HT.sIx its.length 0 lo)).take (HT.sIx its.length its.length hi - HT.sIx its.length 0 lo)).toArray:=by
 obtain⟨h1,h2,h3⟩:=zaD lo hi its.toArray.size;unfold slicePick;rw[h1,h2,h3];simp only[sliceRange_one,pick_run,size_toArray] <;> rfl
def zkA(K:Frag):V->Option Int->Option Int->Hp->VK->Prop:=fun x lo hi H Q=>∃a xs,x=.ref a/\SqL K H a xs/\∀p,H p=none->Q (.ref p) (upd H p (.lst (wu xs lo hi)))
theorem yC:SlR X (zkA X.K):=by
 intro pins s σ H x v vl vu lo hi sl Q I rx hs pl pu h;obtain⟨a,xs,rfl,hx,q⟩:=h;cases rx;obtain⟨its,r,ht,hz⟩:=I.list hx;have hlen:=r.length;refine⟨"list",_,slot_list_getitem.lookup,ht.isList.typeIs,?_⟩;refine wpAny_getItem_list_slice ht.isList hs pl pu .none (by simp) ?_ (by rw[size_toArray] <;> omega)
 rw[qt,<- hlen];refine⟨.ref s.heap.objs.size,_,I.laid (t':=s.toks) (o:=.lst (wu xs lo hi)) (fun b ob q=>Heap.get?_push_of_some _ q) (le_refl _) ?_,rfl,q _ (I.hok.fresh (le_refl _))⟩;exact⟨le_trans (zb3 xs lo hi) hz,_,0,(r.drop (HT.sIx xs.length 0 lo)).take (HT.sIx xs.length xs.length hi - HT.sIx xs.length 0 lo),Heap.get?_push_size _ rfl⟩
def xI:V->Bool
 | .non=>true
 | .bl _=>true
 | .int _=>true
 | .str _=>true
 | _=>false
def eqV:V->V->Bool
 | .non,.non=>true
 | .bl a,.bl b=>a==b
 | .bl a,.int b=>(if a then 1 else 0)==b
 | .int a,.bl b=>a==(if b then 1 else 0)
 | .int a,.int b=>a==b
 | .str a,.str b=>a==b
 | _,_=>false
theorem zgI{A:Around}{s:Shared}{y x:V}{u v:Value}(ry:zL y u) (rx:zL x v) (fy:xI y=true) (fx:xI x=true):SeqAt.EqAt A s u v (eqV y x):=by
 cases y with
 | non=>
  cases ry;cases x with
  | non=>cases rx;exact SeqAt.EqAt.same _
  | bl b=>cases rx;exact SeqAt.EqAt.none_bool b
  | int b=>obtain⟨t,rfl⟩:=rx;exact SeqAt.EqAt.none_int b t
  | str b=>obtain⟨t,rfl⟩:=rx;exact SeqAt.EqAt.none_str b t
  | _=>exact absurd (show false=true from fx) Bool.false_ne_true
 | bl a=>
  cases ry;cases x with
  | non=>cases rx;exact SeqAt.EqAt.bool_none a
  | bl b=>cases rx;exact SeqAt.EqAt.bool_bool a b
  | int b=>obtain⟨t,rfl⟩:=rx;exact SeqAt.EqAt.bool_int a b t
  | str b=>obtain⟨t,rfl⟩:=rx;exact SeqAt.EqAt.bool_str a b t
  | _=>exact absurd (show false=true from fx) Bool.false_ne_true
 | int a=>
  obtain⟨t',rfl⟩:=ry;cases x with
  | non=>cases rx;exact SeqAt.EqAt.int_none a t'
  | bl b=>cases rx;exact SeqAt.EqAt.int_bool a t' b
  | int b=>obtain⟨t,rfl⟩:=rx;exact SeqAt.EqAt.int_int a t' b t
  | str b=>obtain⟨t,rfl⟩:=rx;exact SeqAt.EqAt.int_str a t' b t
  | _=>exact absurd (show false=true from fx) Bool.false_ne_true
 | str a=>
  obtain⟨t',rfl⟩:=ry;cases x with
  | non=>cases rx;exact SeqAt.EqAt.str_none a t'
  | bl b=>cases rx;exact SeqAt.EqAt.str_bool a t' b
  | int b=>obtain⟨t,rfl⟩:=rx;exact SeqAt.EqAt.str_int a t' b t
  | str b=>obtain⟨t,rfl⟩:=rx;exact SeqAt.EqAt.str_str a t' b t
  | _=>exact absurd (show false=true from fx) Bool.false_ne_true
 | _=>exact absurd (show false=true from fy) Bool.false_ne_true
def eqU(x:V) (u:Value):Bool:=match u with
 | .none=>eqV .non x
 | .bool b=>eqV (.bl b) x
 | .int i _=>eqV (.int i) x
 | .str z _=>eqV (.str z) x
 | _=>false
theorem zgH{x y:V}{u:Value}(r:zL y u) (f:xI y=true):eqU x u=eqV y x:=by
 cases y with
 | non=>cases r;rfl
 | bl b=>cases r;rfl
 | int i=>obtain⟨t,rfl⟩:=r;rfl
 | str z=>obtain⟨t,rfl⟩:=r;rfl
 | _=>exact absurd (show false=true from f) Bool.false_ne_true
theorem uR{x:V}:∀{xs:List V}{us:List Value},zJ xs us->xs.all xI=true->us.any (eqU x)=xs.any fun y=>eqV y x
 | _,_,.nil,_=>rfl
 | y::xs,u::us,.cons r t,f=>by
  rw[all_cons,Bool.and_eq_true] at f;rw[any_cons,any_cons,zgH r f.1,uR t f.2]
theorem vF{A:Around}{s:Shared}{x:V}{v:Value}(rx:zL x v) (fx:xI x=true):∀{xs:List V}{us:List Value},zJ xs us->xs.all xI=true->∀u∈us,SeqAt.EqAt A s u v (eqU x u)
 | _,_,.nil,_=>fun u hu=>by cases hu
 | y::xs,u::us,.cons r t,f=>fun u' hu=>by
  rw[all_cons,Bool.and_eq_true] at f;rcases List.mem_cons.mp hu with rfl|hu
  ·rw[zgH r f.1];exact zgI r rx f.1 fx
  ·exact vF rx fx t f.2 u' hu
def inV(x:V) (xs:List V):Bool:=xs.any fun y=>eqV y x
def rIn(K:Frag) (neg:Bool):R2:=fun x y H Q=>∃p xs,y=.ref p/\(SqL K H p xs\/SqT K H p xs)/\xI x=true/\xs.all xI=true/\Q (.bl (if neg then !inV x xs else inV x xs)) H
theorem yh:OpR X (compareOp .In) (rIn X.K false):=by
 intro pins s σ H x y v u Q I rx ry h;obtain⟨p,xs,rfl,hq,fx,fs,q⟩:=h;cases ry;rcases hq with hq|hq
 ·obtain⟨its,r,pl,hz⟩:=I.list hq
  refine SeqAt.in_listAt (eqU x) pl.isList (fun w hw=>vF rx fx r fs w (by simpa using hw)) ⟨.bl _,H,I,rfl,?_⟩
  rw[show its.toArray.any (eqU x)=its.any (eqU x) by simp,uR r fs]
  exact q
 ·obtain⟨its,r,pl,hz⟩:=I.tuple hq
  refine SeqAt.in_tupleAt (eqU x) pl (fun w hw=>vF rx fx r fs w (by simpa using hw)) ⟨.bl _,H,I,rfl,?_⟩
  rw[show its.toArray.any (eqU x)=its.any (eqU x) by simp,uR r fs]
  exact q
theorem vc:OpR X (compareOp .NotIn) (rIn X.K true):=by
 intro pins s σ H x y v u Q I rx ry h;obtain⟨p,xs,rfl,hq,fx,fs,q⟩:=h;cases ry;rcases hq with hq|hq
 ·obtain⟨its,r,pl,hz⟩:=I.list hq
  refine SeqAt.notIn_listAt (eqU x) pl.isList (fun w hw=>vF rx fx r fs w (by simpa using hw)) ⟨.bl _,H,I,rfl,?_⟩
  rw[show its.toArray.any (eqU x)=its.any (eqU x) by simp,uR r fs]
  exact q
 ·obtain⟨its,r,pl,hz⟩:=I.tuple hq
  refine SeqAt.notIn_tupleAt (eqU x) pl (fun w hw=>vF rx fx r fs w (by simpa using hw)) ⟨.bl _,H,I,rfl,?_⟩
  rw[show its.toArray.any (eqU x)=its.any (eqU x) by simp,uR r fs]
  exact q
theorem zw:xv X (.builtin "len") (fun xs H Q=>∃p ys,xs=[.ref p]/\(SqL X.K H p ys\/SqT X.K H p ys)/\Q (.int ys.length) H):=by
 intro pins s σ H xs us Q I r h;obtain⟨p,ys,rfl,hq,q⟩:=h;obtain⟨u,rfl,rx⟩:=vt r;cases rx;have hn:=uj;rcases hq with hq|hq
 ·obtain⟨its,r',pl,hz⟩:=I.list hq
  have hlen:=r'.length;exact Calls.call_len_list pl.isList (by simp only[size_toArray] <;> omega) ⟨.int ys.length,H,I.tok _,⟨s.toks+1,by rw[size_toArray,hlen]⟩,q⟩
 ·obtain⟨its,r',pl,hz⟩:=I.tuple hq
  have hlen:=r'.length;exact len_tuple pl (by simp only[size_toArray] <;> omega) ⟨.int ys.length,H,I.tok _,⟨s.toks+1,by rw[size_toArray,hlen]⟩,q⟩
theorem za5:xv X (.builtin "len") (fun xs H Q=>∃z,xs=[.str z]/\z.length<=sizeLine/\Q (.int z.length) H):=by
 intro pins s σ H xs us Q I r h;obtain⟨z,rfl,hz,q⟩:=h;obtain⟨u,rfl,t,rfl⟩:=vt r;have hn:=uj;exact len_str (by omega) ⟨.int z.length,H,I.tok _,⟨_,rfl⟩,q⟩
theorem yl:xv X (.type "list") (fun xs H Q=>∃p ys,xs=[.ref p]/\(SqL X.K H p ys\/SqT X.K H p ys)/\∀l,H l=none->Q (.ref l) (upd H l (.lst ys))):=by
 intro pins s σ H xs us Q I r h;obtain⟨p,ys,rfl,hq,q⟩:=h;obtain⟨u,rfl,rx⟩:=vt r;cases rx;have fin:∀(its:List Value),zJ ys its->ys.length<=sizeLine->∀(h':Heap) (c':Nat),(∀b o',s.heap.get? b=some o'->h'.get? b=some o')->
   h'.get? s.heap.objs.size=some { cls:=.type "list",dict:=none,data:=.seq its.toArray c',slots:=#[] }->EP X pins σ Q (.ref s.heap.objs.size) { s with heap:=h' }:=fun its r' hz h' c' kp e=>
  ⟨.ref s.heap.objs.size,_,I.laid (t':=s.toks) kp (le_refl _) (show yy X.prog X.w _ h' _ (.lst ys) from ⟨hz,its,c',r',e⟩),rfl,q _ (I.hok.fresh (le_refl _))⟩
 rcases hq with hq|hq
 ·obtain⟨its,r',pl,hz⟩:=I.list hq
  have hlen:=r'.length;obtain⟨o,ho,hc,n,hd⟩:=pl.isList;exact call_list_seq p (.inl rfl) ho hc hd (fun h' c' kp e=>fin its r' hz h' c' kp e) (by simp only[size_toArray] <;> omega)
 ·obtain⟨its,r',pl,hz⟩:=I.tuple hq
  have hlen:=r'.length;obtain⟨o,ho,hc,n,hd⟩:=pl;exact call_list_seq p (.inr rfl) ho hc hd (fun h' c' kp e=>fin its r' hz h' c' kp e) (by simp only[size_toArray] <;> omega)
def tyV(K:Frag) (T:String) (x:V) (H:Hp):Prop:=match x with
 | .str _=>T="str"
 | .int _=>T="int"
 | .ref p=>(T="list"/\∃xs,SqL K H p xs)\/(T="tuple"/\∃o,K.lookup p=some o/\o.cls=.type "tuple"/\o.dict=none)\/
   (T="dict"/\((∃kvs,H p=some (.dK kvs))\/∃kvs,H p=some (.dT kvs)))\/(T="set"/\∃S n,H p=some (.set S n))
 | _=>False
theorem ze1{pins:List (Addr×Obj)}{σ : St}{H:Hp}{s:Shared}{T:String}{x:V}{v:Value}(I:Inv X pins σ H s) (r:zL x v) (ty:tyV X.K T x H) :
  s.TypeIs v T/\∀a,v=.ref a->∃ob,s.heap.get? a=some ob/\ob.dict=none:=by
 cases x with
 | str z=>
  obtain⟨t,rfl⟩:=r;cases (show T="str" from ty);exact⟨typeIs_str s z t,fun _ e=>nomatch e⟩
 | int i=>
  obtain⟨t,rfl⟩:=r;cases (show T="int" from ty);exact⟨typeIs_int s i t,fun _ e=>nomatch e⟩
 | ref p=>
  cases r;rcases ty with ⟨rfl,xs,hq⟩|⟨rfl,o,hk,hc,hd⟩|⟨rfl,hk⟩|⟨rfl,S,n,hk⟩
  ·obtain⟨its,_,pl,_⟩:=I.list hq
   refine⟨pl.isList.typeIs,fun a e=>?_⟩;cases e;obtain⟨o,n,e,c,hd,_⟩:=pl;exact⟨o,e,hd⟩
  ·refine⟨⟨o,I.kIn p o hk,hc⟩,fun a e=>?_⟩
   cases e;exact⟨o,I.kIn _ o hk,hd⟩
  ·have z:∃o,s.heap.get? p=some o/\o.ExactDict:=by
    rcases hk with ⟨kvs,hk⟩|⟨kvs,hk⟩
    ·obtain⟨_,_,_,_,o,_,_,e,ex,_⟩:=I.hok p _ hk
     exact⟨o,e,ex⟩
    ·obtain⟨_,_,_,_,o,_,_,e,ex,_⟩:=I.hok p _ hk
     exact⟨o,e,ex⟩
   obtain⟨o,e,ex⟩:=z;refine⟨⟨o,e,ex.1⟩,fun a e2=>?_⟩;cases e2;exact⟨o,e,ex.2.1⟩
  ·obtain⟨o,_,_,_,e,ex,_⟩:=I.hok p _ hk
   refine⟨⟨o,e,ex.1⟩,fun a e2=>?_⟩;cases e2;exact⟨o,e,ex.2.1⟩
 | _=>exact False.elim ty
def zlr(K:Frag) (T:String) (r:V->List V->Hp->VK->Prop) (to:TE):TE:=fun σ H Q=>to σ H fun x H1=>tyV K T x H1/\r x [] H1 Q
def tBM(K:Frag) (T:String) (r:V->List V->Hp->VK->Prop) (to:TE) (t:TA):TE:=fun σ H Q=>to σ H fun x H1=>tyV K T x H1/\t σ H1 fun xs H2=>r x xs H2 Q
variable {o e:Expr}{es:List Expr}{to:TE}{t:TA}{name:Str}{apos cpos:Pos}{T id:String}{r:V->List V->Hp->VK->Prop}
theorem zfT(pa:PlainAttrs T) (slot:Slot T name id) (hty:typeOf (.builtin id)=pure (.type "method_descriptor")) (hm:MtR X id r) (ho:PE X o to)
  (hbase:attributeBase o name X.env (eval o X.env)=eval o X.env:=by rfl) (hline:(apos.endLine==cpos.line)=true:=by rfl):PE X (.Call (.Attribute o name apos) [] [] cpos) (zlr X.K T r to):=by
 refine⟨?_⟩;intro pins s σ H Q I h;refine wpAny_Call_method0_late hbase hline (thn (ho pins s σ H _ I h) fun v s1 ⟨x,H1,I1,r1,ty,q1⟩=>?_);obtain⟨h1,h2⟩:=ze1 I1 r1 ty;exact⟨T,id,pa,slot,hty,h1,h2,Calls.callWith_builtin rfl (PySem.evalArgs_none (hm pins s1 σ H1 x [] v [] Q I1 r1 .nil q1))⟩
theorem y3(pa:PlainAttrs T) (slot:Slot T name id) (hty:typeOf (.builtin id)=pure (.type "method_descriptor")) (hm:MtR X id r) (ho:PE X o to) (ha:PA X (e::es) t)
  (hbase:attributeBase o name X.env (eval o X.env)=eval o X.env:=by rfl)
  (hfew:((backTo cpos (starEach (e::es) X.env)).all (fun x=>!x.1)&&(backToKw cpos (keywordEach [] X.env)).all (fun x=>x.1.isSome)
   && decide ((e::es).length+([]:List Keyword).length+(if ([]:List Keyword).isEmpty then 0 else 1)<30))=true:=by rfl)
  (hline:(apos.endLine==cpos.line)=true:=by rfl) (hs:starEach (e::es) X.env=(false,eval e X.env)::starEach es X.env:=by rfl) (hplain:(backTo cpos (starEach es X.env)).any (·.1)=false:=by rfl) :
  PE X (.Call (.Attribute o name apos) (e::es) [] cpos) (tBM X.K T r to t):=by
 refine⟨?_⟩;intro pins s σ H Q I h;refine wpAny_Call_method_late hbase hfew hline rfl (thn (ho pins s σ H _ I h) fun v s1 ⟨x,H1,I1,r1,ty,q1⟩=>?_);obtain⟨h1,h2⟩:=ze1 I1 r1 ty;refine⟨T,id,pa,slot,hty,h1,h2,?_⟩;have hA:=ha cpos pins s1 σ H1 _ I1 q1;rw[hs] at hA |-;refine Calls.callWith_builtin (by show(false||(backTo cpos (starEach es X.env)).any (·.1))=false;rw[hplain] <;> rfl) (Calls.evalArgs_plain ?_)
 exact thn hA fun us s2 ⟨vs,H2,I2,r2,q2⟩=>hm pins s2 σ H2 x vs v us Q I2 r1 r2 q2
end
def MtM(X:Cx) (id:String) (r:V->List V->Hp->VK->Prop):Prop:=
 ∀(pins:List (Addr×Obj)) (s:Shared) (σ : St) (H:Hp) (x:V) (xs:List V) (v:Value) (us:List Value) (Q:VK),Inv X pins σ H s->zL x v->zJ xs us->r x xs H Q->
  wpAny (model X.prog X.w) X.A (call (.builtin id) (v::us)) (EP X pins σ Q) X.xe s
theorem zJ.one:∀{x:V}{us:List Value},zJ [x] us->∃u,us=[u]/\zL x u
 | _,_,.cons r .nil=>⟨_,rfl,r⟩
theorem zJ.zero:∀{us:List Value},zJ [] us->us=[]
 | _,.nil=>rfl
theorem zJ.eraseIdx:∀{xs:List V}{us:List Value}(i:Nat),zJ xs us->zJ (xs.eraseIdx i) (us.eraseIdx i)
 | _,_,_,.nil=>.nil
 | _,_,0,.cons _ t=>t
 | _,_,i+1,.cons r t=>.cons r (zJ.eraseIdx i t)
theorem zJ.rep{xs:List V}{us:List Value}(h:zJ xs us):∀k:Nat,zJ (List.replicate k xs).flatten (List.replicate k us).flatten
 | 0=>.nil
 | k+1=>by
  rw[replicate_succ,replicate_succ,flatten_cons,flatten_cons];exact zJ.append h (zJ.rep h k)
theorem qY{α : Type}:∀(l:List α) (i:Nat),(l.eraseIdx i).length<=l.length
 | [],_=>le_refl _
 | _::_,0=>le_succ _
 | _::r,i+1=>Nat.succ_le_succ (qY r i)
theorem zaf(its:List Value):∀(k:Nat) (acc:List Value),
  List.foldl (fun x1 x2=>x1++x2) acc.toArray (List.replicate k its.toArray)=(acc++(List.replicate k its).flatten).toArray
 | 0,acc=>by simp
 | k+1,acc=>by
  have e:acc.toArray++its.toArray=(acc++its).toArray:=by simp
  have e2:(acc++its)++(List.replicate k its).flatten=acc++(List.replicate (k+1) its).flatten:=by
   rw[replicate_succ,flatten_cons,append_assoc]
  rw[<- e2,<- zaf its k (acc++its),<- e,replicate_succ,List.foldl_cons]
section
variable {X:Cx}{pins:List (Addr×Obj)}{σ : St}{H:Hp}{s:Shared}{l b:Addr}{xs ys zs:List V}
theorem Inv.lset{its its':List Value}{n:Nat}{f:Array Value->Array Value}{t':Nat}(I:Inv X pins σ H s) (hH:H l=some (.lst xs))
  (e:s.heap.get? l=some { cls:=.type "list",data:=.seq its.toArray n }) (hf:f its.toArray=its'.toArray) (hv:zJ ys its') (hz:ys.length<=sizeLine) :
  Inv X pins σ (upd H l (.lst ys)) { s with heap:=s.heap.update l (Obj.mapSeq f),toks:=t' }:=by
 have q:=PySem.IsL.update e f;rw[hf] at q;refine I.write (x:=l) (e:=l) (by rw[hH];exact trivial) (.inl rfl) (fun b' u hb hu=>(Heap.get?_update_other s.heap (Obj.mapSeq f) (Ne.symm hb)).trans hu) ⟨_,q⟩ ?_
 exact⟨hz,its',_,hv,q⟩
theorem Inv.lnew{its:List Value}{t':Nat}(I:Inv X pins σ H s) (hv:zJ ys its) (hz:ys.length<=sizeLine) :
  Inv X pins σ (upd H s.heap.objs.size (.lst ys)) { s with heap:=s.heap.push { cls:=.type "list",data:=.seq its.toArray },toks:=t' }:=
 I.laid (fun _ _ q=>Heap.get?_push_of_some _ q) (le_refl _) ⟨hz,its,0,hv,Heap.get?_push_size _ rfl⟩
theorem Inv.fresh(I:Inv X pins σ H s):H s.heap.objs.size=none:=I.hok.fresh (le_refl _)
theorem Inv.lstM(I:Inv X pins σ H s) (hH:H l=some (.lst xs)):xs.length<=sizeLine/\∃(its:List Value) (n:Nat),zJ xs its/\xs.length=its.length/\s.heap.get? l=some { cls:=.type "list",data:=.seq its.toArray n }:=by
 obtain⟨z,its,n,r,e⟩:=I.hok l _ hH;exact⟨z,its,n,r,r.length,e⟩
theorem zbG{n:Nat}(h:n<=sizeLine):Builtin.List.listTooLong n=false:=by
 unfold Builtin.List.listTooLong;exact decide_eq_false (by omega)
end
section
variable {X:Cx}
def zhq:V->List V->Hp->VK->Prop:=fun x vs H Q=>∃l xs y,x=.ref l/\vs=[y]/\H l=some (.lst xs)/\xs.length<sizeLine/\Q .non (upd H l (.lst (xs++[y])))
theorem zQ:MtM X "list.append" zhq:=by
 intro pins s σ H x vs v us Q I rx rv h;obtain⟨l,xs,y,rfl,rfl,hH,hz,q⟩:=h;cases rx;obtain⟨u,rfl,ru⟩:=rv.one;obtain⟨z,its,n,r,hl,e⟩:=I.lstM hH;refine call_meets F.slot_list_append ⟨_,e,rfl⟩ F.entry_list_append (F.args_list_append_2 _ _) (PySem.list_append l its.toArray n u (by rw[size_toArray];omega)) ⟨e,?_⟩
 refine⟨.non,_,I.lset (its':=its++[u]) hH e (by simp) (r.append (.cons ru .nil)) ?_,rfl,q⟩
 rw[length_append,length_singleton];omega
def zhp:V->List V->Hp->VK->Prop:=fun x vs H Q=>∃l b xs zs,x=.ref l/\vs=[.ref b]/\H l=some (.lst xs)/\H b=some (.lst zs)/\xs.length+zs.length<=sizeLine/\Q .non (upd H l (.lst (xs++zs)))
theorem vT:MtM X "list.extend" zhp:=by
 intro pins s σ H x vs v us Q I rx rv h;obtain⟨l,b,xs,zs,rfl,rfl,hH,hB,hz,q⟩:=h;cases rx;obtain⟨u,rfl,ru⟩:=rv.one;cases ru;obtain⟨z,its,n,r,hl,e⟩:=I.lstM hH;obtain⟨z2,its2,n2,r2,hl2,e2⟩:=I.lstM hB;have hsz:its.toArray.size+its2.toArray.size<=sizeLine:=by rw[size_toArray,size_toArray];omega
 have hlong:¬(!its.toArray.isEmpty&&Builtin.List.listTooLong (its.toArray.size+its2.toArray.size))=true:=by
  rw[zbG hsz,Bool.and_false];exact Bool.false_ne_true
 refine call_meets F.slot_list_extend ⟨_,e,rfl⟩ F.entry_list_extend (F.args_list_extend_2 _ _)
  (AutoSeq1.list_extend_list_list_0 l its.toArray n b its2.toArray n2 hlong (by rw[size_toArray];omega) (by omega)) ⟨e,e2,?_⟩
 refine⟨.non,_,I.lset (its':=its++its2) hH e (by simp) (r.append r2) ?_,rfl,q⟩
 rw[length_append];omega
def zjm:V->List V->Hp->VK->Prop:=fun x vs H Q=>∃l xs i k y,x=.ref l/\vs=[.int i]/\H l=some (.lst xs)/\-(2 ^ 63)<=i/\i<2 ^ 63/\seqIndex? i xs.length=some k/\xs[k]?=some y/\Q y (upd H l (.lst (xs.eraseIdx k)))
theorem zgl:MtM X "list.pop" zjm:=by
 intro pins s σ H x vs v us Q I rx rv h;obtain⟨l,xs,i,k,y,rfl,rfl,hH,h1,h2,hk,hy,q⟩:=h;cases rx;obtain⟨u,rfl,ru⟩:=rv.one;obtain⟨t,rfl⟩:=ru;obtain⟨z,its,n,r,hl,e⟩:=I.lstM hH;obtain⟨w,hw,rw'⟩:=r.get hy;refine call_meets F.slot_list_pop ⟨_,e,rfl⟩ F.entry_list_pop (F.args_list_pop_2 _ _)
  (MeetsSeq.list_pop_at l its.toArray n i t k w (fitsIndex_both h1 h2) (by rw[size_toArray,<- hl];exact hk) (by rw[<- Array.getElem?_toList];exact hw) (by rw[size_toArray];omega)) ⟨e,?_⟩
 refine⟨y,_,I.lset (its':=its.eraseIdx k) hH e ?_ (r.eraseIdx k) ?_,rw',q⟩
 ·show its.toArray.eraseIdxIfInBounds k=(its.eraseIdx k).toArray
  rw[List.eraseIdxIfInBounds_toArray]
 ·have:=qY xs k
  omega
def zjp:V->List V->Hp->VK->Prop:=fun x vs H Q=>∃l xs,x=.ref l/\vs=[]/\H l=some (.lst xs)/\Q .non (upd H l (.lst []))
theorem zbK:MtM X "list.clear" zjp:=by
 intro pins s σ H x vs v us Q I rx rv h;obtain⟨l,xs,rfl,rfl,hH,q⟩:=h;cases rx;have hus:=rv.zero;subst hus;obtain⟨z,its,n,r,hl,e⟩:=I.lstM hH;refine call_meets F.slot_list_clear ⟨_,e,rfl⟩ F.entry_list_clear (F.args_list_clear_1 _) (AutoSeq1.list_clear_list_0 l its.toArray n (by rw[size_toArray];omega)) ⟨e,?_⟩
 exact⟨.non,_,I.lset (its':=[]) (ys:=[]) hH e rfl .nil (zero_le _),rfl,q⟩
def zlA:R2:=fun x y H Q=>∃l b xs zs,x=.ref l/\y=.ref b/\H l=some (.lst xs)/\H b=some (.lst zs)/\xs.length+zs.length<=sizeLine/\∀p,H p=none->Q (.ref p) (upd H p (.lst (xs++zs)))
theorem xx:OpR X (binaryOp .Add) zlA:=by
 intro pins s σ H x y v u Q I rx ry h;obtain⟨l,b,xs,zs,rfl,rfl,hH,hB,hz,q⟩:=h;cases rx;cases ry;obtain⟨z,its,n,r,hl,e⟩:=I.lstM hH;obtain⟨z2,its2,n2,r2,hl2,e2⟩:=I.lstM hB;refine PySem.P.add_list e e2 ?_ (by rw[size_toArray,size_toArray];omega)
 have ea:its.toArray++its2.toArray=(its++its2).toArray:=by simp
 rw[ea];exact⟨.ref _,_,I.lnew (t':=s.toks) (r.append r2) (by rw[length_append];omega),rfl,q _ I.fresh⟩
def zlx:R2:=fun x y H Q=>∃l k xs,x=.ref l/\y=.int k/\H l=some (.lst xs)/\-(2 ^ 63)<=k/\k<2 ^ 63/\xs.length * k.toNat<=sizeLine/\
 ∀p,H p=none->Q (.ref p) (upd H p (.lst (List.replicate k.toNat xs).flatten))
theorem zhX{α : Type}(xs:List α) (k:Nat):(List.replicate k xs).flatten.length=k * xs.length:=by
 induction k with
 | zero=>simp
 | succ k ih=>rw[replicate_succ,flatten_cons,length_append,ih,Nat.succ_mul,Nat.add_comm]
theorem zjv:OpR X (binaryOp .Mult) zlx:=by
 intro pins s σ H x y v u Q I rx ry h;obtain⟨l,k,xs,rfl,rfl,hH,h1,h2,hz,q⟩:=h;cases rx;obtain⟨t,rfl⟩:=ry;obtain⟨z,its,n,r,hl,e⟩:=I.lstM hH;have hlen:its.toArray.size * k.toNat<=sizeLine:=by rw[size_toArray,<- hl];exact hz
 have hcap:¬its.toArray.size * k.toNat>(2 ^ 63 - 1) / 8:=by
  have:(sizeLine:Nat)<=(2 ^ 63 - 1) / 8:=by decide
  omega
 have hfit:¬(!Builtin.List.listFitsIndex k)=true:=by
  rw[fitsIndex_both h1 h2];exact Bool.false_ne_true
 have hlong:¬Builtin.List.listTooLong (its.toArray.size * k.toNat)=true:=by
  rw[zbG hlen];exact Bool.false_ne_true
 have hnew:List.foldl (fun x1 x2=>x1++x2) #[] (List.replicate (if its.toArray.isEmpty=true then 0 else k.toNat) its.toArray)=(List.replicate k.toNat its).flatten.toArray:=by
  have f0:∀m:Nat,List.foldl (fun x1 x2=>x1++x2) #[] (List.replicate m its.toArray)=(List.replicate m its).flatten.toArray:=fun m=>by
   have:=zaf its m []
   rw[nil_append] at this;exact this
  rw[f0];cases its with
  | nil=>simp
  | cons a r'=>rw[if_neg (by simp)]
 refine wpAny_binaryOp_repeat_ref (T:="list") (U:="int") (by decide) ⟨_,e,rfl⟩ (fun s'=>typeIs_int s' k t) noFill_list_mul F.fills_int_mul F.slot_int_rmul repeat_list F.slot_int_index.lookup
  (call_meets F.slot_int_rmul (typeIs_int s k t) F.entry_int_rmul (F.args_int_rmul_2 _ _) (int___rmul___int_list k t l its.toArray n)
   ⟨e,rfl,⟨_,e,rfl⟩,call_meets F.slot_list_mul ⟨_,e,rfl⟩ F.entry_list_mul (F.args_list_mul_2 _ _) (AutoListH.list___mul___list_int_3 l its.toArray n k t hfit hcap hlong) ⟨e,?_⟩⟩)
 rw[hnew];exact⟨.ref _,_,I.lnew (t':=s.toks) (r.rep k.toNat) (by rw[zhX,Nat.mul_comm];exact hz),rfl,q _ I.fresh⟩
end
section
variable {prog:Program}{w:World}{A:Around}{E:Value->Shared->Prop}{s:Shared}
end
section
variable {X:Cx}
end
section
variable {κ : Type}[DecidableEq κ]
def zF(kvs:List (κ×V)) (k : κ):Option V:=(kvs.find? fun kv=>decide (kv.1=k)).map (·.2)
def zV(kvs:List (κ×V)) (k : κ) (v:V):List (κ×V):=
 if (kvs.any fun kv=>decide (kv.1=k))=true then kvs.map (fun kv=>if kv.1=k then (kv.1,v) else kv) else kvs++[(k,v)]
theorem y0{p : κ×V}{r:List (κ×V)}{k : κ}(e:p.1=k):zF (p::r) k=some p.2:=by simp [zF,find?_cons,e]
theorem y1{p : κ×V}{r:List (κ×V)}{k : κ}(e:¬p.1=k):zF (p::r) k=zF r k:=by simp [zF,find?_cons,e]
theorem wm(k : κ):∀kvs:List (κ×V),(kvs.any fun kv=>decide (kv.1=k))=(zF kvs k).isSome
 | []=>rfl
 | p::r=>by
  rw[any_cons];by_cases e:p.1=k
  ·simp only[y0 e,decide_eq_true e,Bool.true_or,Option.isSome_some]
  ·rw[y1 e,decide_eq_false e,Bool.false_or];exact wm k r
theorem zba(k j : κ) (y:V):∀kvs:List (κ×V),zF (kvs.map fun kv=>if kv.1=k then (kv.1,y) else kv) j=(zF kvs j).map fun x=>if j=k then y else x
 | []=>rfl
 | p::r=>by
  have ih:=zba k j y r;rw[map_cons];by_cases h:p.1=k
  ·rw[if_pos h]
   by_cases e:p.1=j
   ·rw[y0 (p:=(p.1,y)) e,y0 e,map_some,if_pos (e.symm.trans h)]
   ·rw[y1 (p:=(p.1,y)) e,y1 e,ih]
  ·rw[if_neg h]
   by_cases e:p.1=j
   ·rw[y0 (p:=p) e,y0 e,map_some,if_neg (fun z=>h (e.trans z))]
   ·rw[y1 (p:=p) e,y1 e,ih]
theorem qD(k j : κ) (y:V):∀kvs:List (κ×V),zF kvs k=none->zF (kvs++[(k,y)]) j=if j=k then some y else zF kvs j
 | [],_=>by
  by_cases e:k=j
  ·rw[if_pos e.symm];exact y0 (p:=(k,y)) e
  ·rw[if_neg (fun z=>e z.symm)];exact y1 (p:=(k,y)) e
 | p::r,hn=>by
  rw[cons_append];have hk:¬p.1=k:=fun z=>by rw[y0 z] at hn;cases hn
  rw[y1 hk] at hn;have ih:=qD k j y r hn;by_cases e:p.1=j
  ·rw[y0 e,y0 e,if_neg (fun z=>hk (e.trans z))]
  ·rw[y1 e,y1 e,ih]
theorem xt(kvs:List (κ×V)) (k j : κ) (y:V):zF (zV kvs k y) j=if j=k then some y else zF kvs j:=by
 unfold zV;by_cases a:(kvs.any fun kv=>decide (kv.1=k))=true
 ·rw[if_pos a,zba]
  rw[wm] at a;by_cases e:j=k
  ·obtain⟨x,hx⟩:=Option.isSome_iff_exists.mp a
   rw[if_pos e,e,hx,map_some,if_pos rfl]
  ·rw[if_neg e]
   cases zF kvs j with
   | none=>rfl
   | some x=>rw[map_some,if_neg e]
 ·rw[if_neg a]
  refine qD k j y kvs ?_;rw[wm] at a;cases q:zF kvs k with
  | none=>rfl
  | some x=>rw[q] at a;exact(a rfl).elim
theorem yV(kvs:List (κ×V)) (k : κ) (v:V):(zV kvs k v).length<=kvs.length+1:=by
 unfold zV;split
 ·rw[length_map];omega
 ·rw[length_append,length_cons,length_nil];omega
theorem wS.isSome_eq{o:Option V}{u:Option Value}(r:wS o u):o.isSome=u.isSome:=by
 cases o with
 | none=>cases u with
  | none=>rfl
  | some _=>exact(show False from r).elim
 | some _=>cases u with
  | none=>exact(show False from r).elim
  | some _=>rfl
theorem wS.getD{o:Option V}{u:Option Value}{d:V}{d':Value}(r:wS o u) (rd:zL d d'):zL (o.getD d) (u.getD d'):=by
 cases o with
 | none=>cases u with
  | none=>exact rd
  | some _=>exact(show False from r).elim
 | some _=>cases u with
  | none=>exact(show False from r).elim
  | some _=>exact r
theorem KV.val{kvs:List (κ×V)}{vs:List (κ×Value)}(r:KV kvs vs) (k : κ):wS (zF kvs k) (valueAt vs k):=by
 unfold KV at r;induction r with
 | nil=>exact True.intro
 | @cons p q ps qs h t ih=>
  obtain⟨h1,h2⟩:=h;by_cases e:p.1=k
  ·have e':q.1=k:=h1.symm.trans e
   have b:valueAt (q::qs) k=some q.2:=by simp [valueAt,find?_cons,e']
   rw[y0 e,b];exact h2
  ·have e':¬q.1=k:=fun z=>e (h1.trans z)
   have b:valueAt (q::qs) k=valueAt qs k:=by simp [valueAt,find?_cons,e']
   rw[y1 e,b];exact ih
theorem KV.any{kvs:List (κ×V)}{vs:List (κ×Value)}(r:KV kvs vs) (k : κ):(kvs.any fun kv=>decide (kv.1=k))=vs.any fun kv=>decide (kv.1=k):=by
 unfold KV at r;induction r with
 | nil=>rfl
 | cons h t ih=>rw[any_cons,any_cons,ih,h.1]
theorem KV.repl{kvs:List (κ×V)}{vs:List (κ×Value)}(r:KV kvs vs) (k : κ) {y:V}{u:Value}(ry:zL y u) :
  KV (kvs.map fun kv=>if kv.1=k then (kv.1,y) else kv) (vs.map fun kv=>if kv.1=k then (kv.1,u) else kv):=by
 unfold KV at r |-;induction r with
 | nil=>exact .nil
 | @cons p q ps qs h t ih=>
  rw[map_cons,map_cons];refine .cons ?_ ih;obtain⟨h1,h2⟩:=h;by_cases e:p.1=k
  ·rw[if_pos e,if_pos (h1.symm.trans e)];exact⟨h1,ry⟩
  ·rw[if_neg e,if_neg (fun z=>e (h1.trans z))];exact⟨h1,h2⟩
theorem KV.put{kvs:List (κ×V)}{vs:List (κ×Value)}(r:KV kvs vs) (k : κ) {y:V}{u:Value}(ry:zL y u):KV (zV kvs k y) (stored vs k u):=by
 unfold zV stored;rw[r.any k];by_cases e:(vs.any fun kv=>decide (kv.1=k))=true
 ·rw[if_pos e,if_pos e];exact r.repl k ry
 ·rw[if_neg e,if_neg e];exact Paired.snoc r ⟨rfl,ry⟩
theorem KV.length{kvs:List (κ×V)}{vs:List (κ×Value)}(r:KV kvs vs):kvs.length=vs.length:=Paired.length r
end
theorem jg{P:Program}{w:World}{k:Key}{u:Value}(r:zL (kV k) u):(z9 P w).is k u=true:=by
 cases k with
 | inl i=>obtain⟨t,e⟩:=(show ∃t,u=Value.int i t from r);subst e;exact zbM P w i t
 | inr x=>obtain⟨t,e⟩:=(show ∃t,u=Value.str x t from r);subst e;exact zbL P w x t
theorem zab{P:Program}{w:World}:∀{ks:List Key}{us:List Value},zJ (ks.map kV) us->ItemsAre (z9 P w) ks us
 | [],_,r=>by rw[map_nil] at r;cases r;exact .nil
 | k::ks,_,r=>by
  rw[map_cons] at r;cases r with
  | cons h t=>exact .cons (jg h) (zab t)
abbrev KT(H:Hp):List (List Key×V)->List (List Key×Addr×Value)->Prop:=Paired fun p q=>p.1=q.1/\H q.2.1=some (.tup (p.1.map kV))/\zL p.2 q.2.2
theorem KT.val{H:Hp}{kvs:List (List Key×V)}{xs:List (List Key×Addr×Value)}(r:KT H kvs xs) (k:List Key):wS (zF kvs k) ((atKey xs k).map (·.2)):=by
 induction r with
 | nil=>exact True.intro
 | @cons p q ps qs h t ih=>
  obtain⟨h1,_,h2⟩:=h;by_cases e:p.1=k
  ·have e':q.1=k:=h1.symm.trans e
   have b:atKey (q::qs) k=some q.2:=by simp [atKey,find?_cons,e']
   rw[y0 e,b];exact h2
  ·have e':¬q.1=k:=fun z=>e (h1.trans z)
   have b:atKey (q::qs) k=atKey qs k:=by simp [atKey,find?_cons,e']
   rw[y1 e,b];exact ih
theorem KT.repl{H:Hp}{kvs:List (List Key×V)}{xs:List (List Key×Addr×Value)}(r:KT H kvs xs) (k:List Key) {y:V}{u:Value}(ry:zL y u) :
  KT H (kvs.map fun kv=>if kv.1=k then (kv.1,y) else kv) (xs.map (putAt k u)):=by
 induction r with
 | nil=>exact .nil
 | @cons p q ps qs h t ih=>
  rw[map_cons,map_cons];refine .cons ?_ ih;obtain⟨h1,h2,h3⟩:=h;unfold putAt;by_cases e:p.1=k
  ·rw[if_pos e,if_pos (h1.symm.trans e)];exact⟨h1,h2,ry⟩
  ·rw[if_neg e,if_neg (fun z=>e (h1.trans z))];exact⟨h1,h2,h3⟩
theorem KT.put{H:Hp}{kvs:List (List Key×V)}{xs:List (List Key×Addr×Value)}(r:KT H kvs xs) (k:List Key) {b:Addr}{y:V}{u:Value}(hb:H b=some (.tup (k.map kV))) (ry:zL y u) :
  KT H (zV kvs k y) (storedH xs k b u):=by
 have e:(kvs.any fun kv=>decide (kv.1=k))=(atKey xs k).isSome:=by
  rw[wm,(r.val k).isSome_eq,isSome_map]
 unfold zV storedH;rw[e];by_cases q:(atKey xs k).isSome=true
 ·rw[if_pos q,if_pos q];exact r.repl k ry
 ·rw[if_neg q,if_neg q];exact Paired.snoc r ⟨rfl,hb,ry⟩
theorem KT.keeps{H H':Hp}{kvs:List (List Key×V)}{xs:List (List Key×Addr×Value)}(r:KT H kvs xs) (ht:∀b ys,H b=some (.tup ys)->H' b=some (.tup ys)):KT H' kvs xs:=
 Paired.mapP r fun _ _ z=>⟨z.1,ht _ _ z.2.1,z.2.2⟩
section
variable {P:Program}{w:World}{H:Hp}{h:Heap}{a:Addr}
theorem ziA{u:HO}(ok:HOk P w H h) (e:Rd H a u):yy P w H h a u:=e.ok ok
theorem qi{kvs:List (Key×V)}(ok:HOk P w H h) (e:Rd H a (.dK kvs)):kvs.length<=sizeLine/\(a==sysModules)=false/\∃vs,KV kvs vs/\h.DictOf (z9 P w) a vs:=
 show yy P w H h a (.dK kvs) from ziA ok e
theorem zgL{kvs:List (Key×V)}(ok:HOk P w H h) (e:H a=some (.dK kvs)):kvs.length<=sizeLine/\(a==sysModules)=false/\∃vs,KV kvs vs/\h.DictOf (z9 P w) a vs:=qi ok (.inl e)
theorem u7{ks:List Key}(ok:HOk P w H h) (e:H a=some (.tup (ks.map kV))):(tupleKind (z9 P w)).is h ks a:=by
 obtain⟨_,its,r,o,h1,h2,n,h3⟩:=(show yy P w H h a (.tup (ks.map kV)) from ok a _ e);exact⟨o,its.toArray,n,h1,h2,h3,by simpa using zab r⟩
theorem qh{kvs:List (List Key×V)}(ok:HOk P w H h) (e:Rd H a (.dT kvs)):kvs.length<=sizeLine/\(a==sysModules)=false/\
  ∃xs,KT H kvs xs/\h.DictOfH (tupleKind (z9 P w)) a xs:=by
 obtain⟨z,y,xs,r,o,es,ep,h1,h2,h3,h4,h5⟩:=(show yy P w H h a (.dT kvs) from ziA ok e);refine⟨z,y,xs,r,o,es,ep,h1,h2,h3,h4,fun x hx=>?_,h5⟩;have all:∀{l:List (List Key×V)}{m:List (List Key×Addr×Value)},KT H l m->∀x∈m,(tupleKind (z9 P w)).is h x.1 x.2.1:=by
  intro l m q;induction q with
  | nil=>intro x hx;exact nomatch hx
  | @cons p q ps qs hq t ih=>
   intro x hx;rcases List.mem_cons.mp hx with e|hx
   ·subst e
    exact u7 ok (by rw[<- hq.1];exact hq.2.1)
   ·exact ih x hx
 exact all r x hx
theorem zk9{kvs:List (List Key×V)}(ok:HOk P w H h) (e:H a=some (.dT kvs)):kvs.length<=sizeLine/\(a==sysModules)=false/\
  ∃xs,KT H kvs xs/\h.DictOfH (tupleKind (z9 P w)) a xs:=qh ok (.inl e)
end
def vL(H:Hp) (a:Addr) (y:V) (r:Option V):Prop:=
 (∃kvs k,Rd H a (.dK kvs)/\y=kV k/\r=zF kvs k)\/∃kvs k b,Rd H a (.dT kvs)/\y=.ref b/\H b=some (.tup (k.map kV))/\r=zF kvs k
def zcb(H:Hp) (a:Addr) (y v:V) (H':Hp):Prop:=
 (∃kvs k,H a=some (.dK kvs)/\y=kV k/\kvs.length<sizeLine/\H'=upd H a (.dK (zV kvs k v)))\/
 ∃kvs k b,H a=some (.dT kvs)/\y=.ref b/\H b=some (.tup (k.map kV))/\kvs.length<sizeLine/\H'=upd H a (.dT (zV kvs k v))
theorem vL.k{H:Hp}{a:Addr}{kvs:List (Key×V)}{k:Key}(e:H a=some (.dK kvs)):vL H a (kV k) (zF kvs k):=.inl ⟨kvs,k,.inl e,rfl,rfl⟩
theorem zcb.k{H:Hp}{a:Addr}{kvs:List (Key×V)}{k:Key}{v:V}(e:H a=some (.dK kvs)) (hl:kvs.length<sizeLine):zcb H a (kV k) v (upd H a (.dK (zV kvs k v))):=.inl ⟨kvs,k,e,rfl,hl,rfl⟩
section
variable {X:Cx}{pins:List (Addr×Obj)}{σ : St}{H:Hp}{s:Shared}{a:Addr}{y v:V}{u r:Value}{o:Option V}{A:Around}{E:Value->Shared->Prop}
theorem Inv.big(I:Inv X pins σ H s):sysModules<s.heap.objs.size:=by
 have h:mainGlobals<s.heap.objs.size:=(I.mod.glob.keeps I.bk).lt;exact lt_trans (by decide) h
theorem zeL{Q:Value->Shared->Prop}(hu:A.units+1<cLine) (I:Inv X pins σ H s) (g:vL H a y (some v)) (ry:zL y u) (h:∀w' s',Inv X pins σ H s'->zL v w'->Q w' s') :
  wpAny (model X.prog X.w) A (getItem (.ref a) u) Q E s:=by
 rcases g with ⟨kvs,k,e,ey,l⟩|⟨kvs,k,b,e,ey,eb,l⟩
 ·subst ey
  obtain⟨z,hd,vs,rel,dd⟩:=qi I.hok e;obtain⟨w',hw,rw'⟩:=wS.some_of (v:=v) (o:=valueAt vs k) (by rw[l];exact rel.val k)
  exact wpAny_getItem_of (jg ry) dd.mapOf hw (h w' _ (I.tok _) rw')
 ·subst ey
  cases (show u=Value.ref b from ry);obtain⟨z,hd,xs,rel,dd⟩:=qh I.hok e;obtain⟨w',hw,rw'⟩:=wS.some_of (v:=v) (o:=(atKey xs k).map (·.2)) (by rw[l];exact rel.val k)
  obtain⟨p,hp,hp2⟩:=Option.map_eq_some_iff.mp hw;refine wpAny_getItem_heap (tupleKind_room_in1 hu) (u7 I.hok eb) dd hp ?_;rw[hp2];exact h w' _ (I.tok _) rw'
theorem zlV{Q:Value->Shared->Prop}(hu:A.units+1<cLine) (I:Inv X pins σ H s) (g:vL H a y o) (ry:zL y u) (h:∀s',Inv X pins σ H s'->Q (.bool o.isSome) s') :
  wpAny (model X.prog X.w) A (compareOp .In u (.ref a)) Q E s:=by
 rcases g with ⟨kvs,k,e,ey,l⟩|⟨kvs,k,b,e,ey,eb,l⟩
 ·subst ey
  obtain⟨z,hd,vs,rel,dd⟩:=qi I.hok e;refine wpAny_in_of (jg ry) hd dd.mapOf ?_;rw[<- (rel.val k).isSome_eq,<- l];exact h _ (I.tok _)
 ·subst ey
  cases (show u=Value.ref b from ry);obtain⟨z,hd,xs,rel,dd⟩:=qh I.hok e;refine wpAny_in_heap (tupleKind_room_in1 hu) (u7 I.hok eb) hd dd ?_;have q:=(rel.val k).isSome_eq;rw[isSome_map] at q;rw[<- q,<- l];exact h _ (I.tok _)
theorem zid{Q:Value->Shared->Prop}(hu:A.units+1<cLine) (I:Inv X pins σ H s) (g:vL H a y o) (ry:zL y u) (h:∀s',Inv X pins σ H s'->Q (.bool (!o.isSome)) s') :
  wpAny (model X.prog X.w) A (compareOp .NotIn u (.ref a)) Q E s:=by
 rcases g with ⟨kvs,k,e,ey,l⟩|⟨kvs,k,b,e,ey,eb,l⟩
 ·subst ey
  obtain⟨z,hd,vs,rel,dd⟩:=qi I.hok e;refine wpAny_notIn_of (jg ry) hd dd.mapOf ?_;rw[<- (rel.val k).isSome_eq,<- l];exact h _ (I.tok _)
 ·subst ey
  cases (show u=Value.ref b from ry);obtain⟨z,hd,xs,rel,dd⟩:=qh I.hok e;refine wpAny_notIn_heap (tupleKind_room_in1 hu) (u7 I.hok eb) hd dd ?_;have q:=(rel.val k).isSome_eq;rw[isSome_map] at q;rw[<- q,<- l];exact h _ (I.tok _)
theorem jy{h':Heap}{t':Nat}{ob:HO}(I:Inv X pins σ H s) (mu:Mut (H a)) (hs:Heap.SameBut a s.heap h') (he:∃q,h'.get? a=some q) (new:yy X.prog X.w (upd H a ob) h' a ob) :
  Inv X pins σ (upd H a ob) { s with heap:=h',toks:=t' }:=
 I.write (x:=a) (e:=a) mu (.inl rfl) (fun b q hb z=>(hs.2 b hb).trans z) he new
theorem zdc{P:Program}{w:World}{H':Hp}{h':Heap}{kvs:List (Key×V)}{vs:List (Key×Value)}(z:kvs.length<=sizeLine) (hd:(a==sysModules)=false) (rel:KV kvs vs) (dd:h'.DictOf (z9 P w) a vs) :
  yy P w H' h' a (.dK kvs):=⟨z,hd,vs,rel,dd⟩
theorem zeK{H':Hp}{Q:Unit->Shared->Prop}(hu:A.units+1<cLine) (I:Inv X pins σ H s) (g:zcb H a y v H') (ry:zL y u) (rv:zL v r) (h:∀s',Inv X pins σ H' s'->Q () s') :
  wpAny (model X.prog X.w) A (setItem (.ref a) u r) Q E s:=by
 rcases g with ⟨kvs,k,e,ey,l,eH⟩|⟨kvs,k,b,e,ey,eb,l,eH⟩
 ·subst ey eH
  obtain⟨z,hd,vs,rel,dd⟩:=zgL I.hok e;have hz:vs.length<=sizeLine:=by rw[<- rel.length];exact z
  have hl:(zV kvs k v).length<=sizeLine:=by have:=yV kvs k v;omega
  refine wpAny_setItem_pairs (hsz:=hz) (jg ry) dd fun h' dd' hs=>h _ ?_;have he:∃q,h'.get? a=some q:=let ⟨q,_,_,hq,_⟩:=dd';⟨q,hq⟩;exact jy I (by rw[e];exact True.intro) hs he (zdc hl hd (rel.put k rv) dd')
 ·subst ey eH
  cases (show u=Value.ref b from ry);obtain⟨z,hd,xs,rel,dd⟩:=zk9 I.hok e;have hz:xs.length<=sizeLine:=by rw[<- Paired.length rel];exact z
  have hl:(zV kvs k v).length<=sizeLine:=by have:=yV kvs k v;omega
  refine wpAny_setItem_heap (hsz:=hz) (tupleKind_room_in1 hu) (u7 I.hok eb) dd fun h' dd' hs=>h _ ?_;obtain⟨q,es,ep,hq,h2,h3,h4,_,h5⟩:=dd';refine jy I (by rw[e];exact True.intro) hs ⟨q,hq⟩ ⟨hl,hd,_,(rel.put k eb rv).keeps fun c ys ec=>?_,q,es,ep,hq,h2,h3,h4,h5⟩
  rw[zh (xE ec e (fun z=>nomatch z))];exact ec
end
section
variable {X:Cx}{pins:List (Addr×Obj)}{σ : St}{H:Hp}{s:Shared}{a:Addr}{kvs:List (Key×V)}{k:Key}{u:Value}{A:Around}{E:Value->Shared->Prop}
end
def zik(i:Expr):Prop:=∀ov iv,subscripted i false ov iv=operate [ov,iv] (getItem ov iv)
theorem zaw{prog:Program}{w:World}{A:Around}{E:Value->Shared->Prop}{s:Shared}{env:Env}{value slice:Expr}{pos:Pos}{T id:String}{Q:Value->Shared->Prop}
  (hl:typeLookup (.type T) "__getitem__"=pure (some (.builtin id))) (hs:zik slice)
  (h:wpAny (model prog w) A (eval value env) (fun o s₁=>wpAny (model prog w) A (eval slice env) (fun i s₂=>s₂.TypeIs o T/\wpAny (model prog w) A (getItem o i) Q E s₂) E s₁) E s) :
  wpAny (model prog w) A (eval (.Subscript value slice pos) env) Q E s:=by
 refine Subscript_ (wpAny_mono h (fun o s₁ h₁=>wpAny_mono h₁ (fun i s₂ h₂=>?_) fun _ _ x=>x) fun _ _ x=>x);obtain⟨hT,h₂⟩:=h₂;unfold subscriptTail;refine wpAny_bind ?_;rw[getitemInPython_of_ne hT.not_modules];refine wpAny_bind (wpAny_specialOf hT hl ?_);have fin:wpAny (model prog w) A (subscripted slice false o i) (fun r s₃=>wpAny (model prog w) A (letTemporaryGo value o r >>= fun _=>pure r) Q E s₃) E s₂:=by
  rw[hs o i];exact wpAny_operating (wpAny_mono h₂ (fun r s₃ h₃=>wpAny_bind (wpAny_letTemporaryGo (wpAny_pure h₃))) fun _ _ x=>x)
 first
  | exact wpAny_pure (wpAny_bind fin)
  | exact wpAny_bind (wpAny_pure (wpAny_bind fin))
  | exact wpAny_bind fin
theorem zb1{X:Cx}{pins:List (Addr×Obj)}{σ : St}{H:Hp}{s:Shared}{a:Addr}{y:V}{o:Option V}(I:Inv X pins σ H s) (g:vL H a y o):s.TypeIs (.ref a) "dict":=by
 rcases g with ⟨kvs,k,e,_,_⟩|⟨kvs,k,b,e,_,_,_⟩
 ·obtain⟨_,_,vs,_,dd⟩:=qi I.hok e
  exact dd.typeIs
 ·obtain⟨_,_,xs,_,dd⟩:=qh I.hok e
  exact dd.typeIs
def zkk(td ty:TE):TE:=fun σ H Q=>td σ H fun x H1=>ty σ H1 fun y H2=>∃a v,x=.ref a/\vL H2 a y (some v)/\Q v H2
def zlq(ty td:TE):TE:=fun σ H Q=>ty σ H fun y H1=>td σ H1 fun x H2=>∃a o,x=.ref a/\vL H2 a y o/\Q (.bl o.isSome) H2
def zg5(ty td:TE):TE:=fun σ H Q=>ty σ H fun y H1=>td σ H1 fun x H2=>∃a o,x=.ref a/\vL H2 a y o/\Q (.bl (!o.isSome)) H2
def zky(td ty tv:TE):TS:=fun D σ H=>tv σ H fun v H1=>td σ H1 fun x H2=>ty σ H2 fun y H3=>∃a H4,x=.ref a/\zcb H3 a y v H4/\D.nx σ H4
section
variable {X:Cx}{o i e value:Expr}{pos pos' tpos:Pos}{td ty tv:TE}
theorem vR(hu:X.A.units+1<cLine) (ho:PE X o td) (hi:PE X i ty) (hs:zik i):PE X (.Subscript o i pos) (zkk td ty):=by
 refine⟨?_⟩;intro pins s σ H Q I h;refine zaw PySem.F.slot_dict_getitem.lookup hs (thn (ho pins s σ H _ I h) fun u s1 ⟨x,H1,I1,rx,q1⟩=>thn (hi pins s1 σ H1 _ I1 q1) fun iv s2 ⟨y,H2,I2,ry,a,v,ex,g,q2⟩=>?_);subst ex;obtain rfl:u=Value.ref a:=rx;exact⟨zb1 I2 g,zeL hu I2 g ry fun w' s3 I3 rw'=>⟨v,H2,I3,rw',q2⟩⟩
theorem zcK(hu:X.A.units+1<cLine) (hi:PE X i ty) (ho:PE X o td):PC X .In i o (zlq ty td):=by
 refine⟨?_⟩;intro pins s σ H Q I h;refine thn (hi pins s σ H _ I h) fun iv s1 ⟨y,H1,I1,ry,q1⟩=>thn (ho pins s1 σ H1 _ I1 q1) fun u s2 ⟨x,H2,I2,rx,a,ov,ex,g,q2⟩=>?_;subst ex;obtain rfl:u=Value.ref a:=rx;exact zlV hu I2 g ry fun s3 I3=>⟨.bl ov.isSome,H2,I3,rfl,q2⟩
theorem zek(hu:X.A.units+1<cLine) (hi:PE X i ty) (ho:PE X o td):PC X .NotIn i o (zg5 ty td):=by
 refine⟨?_⟩;intro pins s σ H Q I h;refine thn (hi pins s σ H _ I h) fun iv s1 ⟨y,H1,I1,ry,q1⟩=>thn (ho pins s1 σ H1 _ I1 q1) fun u s2 ⟨x,H2,I2,rx,a,ov,ex,g,q2⟩=>?_;subst ex;obtain rfl:u=Value.ref a:=rx;exact zid hu I2 g ry fun s3 I3=>⟨.bl (!ov.isSome),H2,I3,rfl,q2⟩
theorem jr(hu:X.A.units+1<cLine) (ho:PE X o td) (hi:PE X i ty) (hv:PE X value tv) (hs:swapsWith value (some (.Subscript o i pos')) pos.line X.env=pure false) :
  PS X (.Assign [.Subscript o i pos'] value pos) (zky td ty tv):=by
 refine⟨?_⟩;intro pins s σ H D I h;refine wpAny_Assign_Subscript (thn (hv pins s σ H _ I h) fun r s1 ⟨v,H1,I1,rv,q1⟩=>thn (ho pins s1 σ H1 _ I1 q1) fun u s2 ⟨x,H2,I2,rx,q2⟩=>thn (hi pins s2 σ H2 _ I2 q2) fun iv s3 ⟨y,H3,I3,ry,a,H4,ex,g,q3⟩=>?_) hs;subst ex;obtain rfl:u=Value.ref a:=rx;exact zeK hu I3 g ry rv fun s4 I4=>⟨σ,H4,I4,q3⟩
end
theorem zb0{P:Program}{w:World}{H:Hp}(h:Heap) (hb:sysModules<h.objs.size):yy P w H (h.push { cls:=.type "dict",data:=.dict #[] }) h.objs.size (.dK []):=
 ⟨zero_le _,beq_eq_false_iff_ne.mpr (Ne.symm (ne_of_lt hb)),[],.nil,Heap.DictOf.new h⟩
def ziU:TE:=fun _ H Q=>∀p,H p=none->Q (.ref p) (upd H p (.dK []))
section
variable {X:Cx}{pos:Pos}
theorem zbx:PE X (.Dict [] [] pos) ziU:=⟨fun pins s σ H Q I h=>
 wpAny_Dict_empty ⟨.ref s.heap.objs.size,_,I.laid (a:=s.heap.objs.size) (o:=.dK []) (t':=s.toks) (fun _ _ q=>Heap.get?_push_of_some _ q) (le_refl _) (zb0 s.heap I.big),rfl,h _ (I.hok.fresh (le_refl _))⟩⟩
end
def zav:List (TE×TE)->St->Hp->(List (V×V)->Hp->Prop)->Prop
 | [],_,H,Q=>Q [] H
 | (tk,tv)::r,σ,H,Q=>tk σ H fun x H1=>tv σ H1 fun y H2=>zav r σ H2 fun ps H3=>Q ((x,y)::ps) H3
abbrev VV:List (V×V)->List (Value×Value)->Prop:=Paired fun p q=>zL p.1 q.1/\zL p.2 q.2
structure PPs(X:Cx) (pos:Pos) (keys:List (Option Expr)) (values:List Expr) (trs:List (TE×TE)):Prop where
 run:∀(pins:List (Addr×Obj)) (s:Shared) (σ : St) (H:Hp) (Q:List (V×V)->Hp->Prop),Inv X pins σ H s->zav trs σ H Q->
  wpAny (model X.prog X.w) X.A (evalPairs (pairTrees keys values X.env pos)) (fun vs s'=>∃ps H',Inv X pins σ H' s'/\VV ps vs/\Q ps H') X.xe s
instance {X:Cx}{pos:Pos}{keys:List (Option Expr)}{values:List Expr}{trs:List (TE×TE)}:CoeFun (PPs X pos keys values trs) (fun _=>∀(pins:List (Addr×Obj)) (s:Shared) (σ : St) (H:Hp) (Q:List (V×V)->Hp->Prop),Inv X pins σ H s->zav trs σ H Q->
  wpAny (model X.prog X.w) X.A (evalPairs (pairTrees keys values X.env pos)) (fun vs s'=>∃ps H',Inv X pins σ H' s'/\VV ps vs/\Q ps H') X.xe s):=⟨PPs.run⟩
theorem zhr{X:Cx}{pos:Pos}:PPs X pos [] [] []:=⟨fun pins s σ H Q I h=>pairTrees_nil_walk ⟨[],H,I,.nil,h⟩⟩
theorem zbt{X:Cx}{pos:Pos}{k v:Expr}{ks:List (Option Expr)}{vs:List Expr}{tk tv:TE}{trs:List (TE×TE)}(hk:PE X k tk) (hv:PE X v tv) (hr:PPs X pos ks vs trs) :
  PPs X pos (some k::ks) (v::vs) ((tk,tv)::trs):=⟨fun pins s σ H Q I h=>
 pairTrees_cons_walk (thn (hk pins s σ H _ I h) fun u s1 ⟨x,H1,I1,rx,q1⟩=>thn (hv pins s1 σ H1 _ I1 q1) fun w2 s2 ⟨y,H2,I2,ry,q2⟩=>
  thn (hr pins s2 σ H2 _ I2 q2) fun ws s3 ⟨ps,H3,I3,rel,q3⟩=>⟨(x,y)::ps,H3,I3,.cons ⟨rx,ry⟩ rel,q3⟩)⟩
def ui(kvs more:List (Key×V)):List (Key×V):=more.foldl (fun acc kv=>zV acc kv.1 kv.2) kvs
theorem KV.merge:∀{more:List (Key×V)}{rs:List (Key×Value)}{kvs:List (Key×V)}{vs:List (Key×Value)},KV more rs->KV kvs vs->KV (ui kvs more) (merged vs rs):=by
 intro more rs kvs vs r;unfold KV at r;induction r generalizing kvs vs with
 | nil=>intro q;exact q
 | @cons p q ps qs h t ih=>
  intro r0;have e:KV (zV kvs p.1 p.2) (stored vs q.1 q.2):=by
   have:=r0.put p.1 h.2
   rw[<- h.1];exact this
  exact ih e
theorem ua:∀(more kvs:List (Key×V)),(ui kvs more).length<=kvs.length+more.length
 | [],kvs=>by show kvs.length<=kvs.length+0;omega
 | p::r,kvs=>by
  have h1:=ua r (zV kvs p.1 p.2);have h2:=yV kvs p.1 p.2;show(ui (zV kvs p.1 p.2) r).length<=_;rw[length_cons];omega
theorem ql{P:Program}{w:World}:∀{kvs:List (Key×V)}{ws:List (Value×Value)},VV (kvs.map fun kv=>(kV kv.1,kv.2)) ws->∃rs,Carries (z9 P w) ws rs/\KV kvs rs
 | [],_,r=>by rw[map_nil] at r;cases r;exact⟨[],True.intro,.nil⟩
 | p::kvs,_,r=>by
  rw[map_cons] at r;cases r with
  | @cons a b as bs h t=>
   obtain⟨rs,c,q⟩:=ql (P:=P) (w:=w) t;obtain⟨b1,b2⟩:=b;exact⟨(p.1,b2)::rs,⟨jg h.1,rfl,c⟩,.cons ⟨rfl,h.2⟩ q⟩
def zkj(trs:List (TE×TE)):TE:=fun σ H Q=>∀p,H p=none->zav trs σ (upd H p (.dK [])) fun ps H2=>H2 p=some (.dK [])/\∃kvs:List (Key×V),ps=kvs.map (fun kv=>(kV kv.1,kv.2))/\kvs.length<=15/\Q (.ref p) (upd H2 p (.dK (ui [] kvs)))
theorem zhv{X:Cx}{pos:Pos}{keys:List (Option Expr)}{values:List Expr}{trs:List (TE×TE)}(h:PPs X pos keys values trs) (hall:keys.all (·.isSome)=true) (hl:keys.length=values.length) (h0:keys≠[])
  (h15:keys.length<=15):PE X (.Dict keys values pos) (zkj trs):=by
 refine⟨?_⟩;intro pins s σ H Q I q;have hn:=I.hok.fresh (le_refl s.heap.objs.size);have I1:=I.laid (a:=s.heap.objs.size) (o:=.dK []) (h':=s.heap.push { cls:=.type "dict",data:=.dict #[] }) (t':=s.toks) (fun _ _ q=>Heap.get?_push_of_some _ q) (le_refl _) (zb0 s.heap I.big);refine wpAny_Dict_walk (knd:=z9 X.prog X.w) hall hl h0 h15 (thn (h pins _ σ _ _ I1 (q _ hn)) fun ws s2 ⟨ps,H2,I2,rel,e,kvs,ep,lk,q2⟩=>?_);subst ep;obtain⟨rs,c,rk⟩:=ql (P:=X.prog) (w:=X.w) rel;obtain⟨z,hd,vs0,r0,dd⟩:=zgL I2.hok e;cases r0;refine⟨rs,c,dd,fun h' dd' hs=>⟨.ref s.heap.objs.size,_,?_,rfl,q2⟩⟩;have hz:(ui [] kvs).length<=sizeLine:=by
  have h1:=ua kvs [];rw[length_nil] at h1;rw[sizeLine_eq];omega
 have he:∃q,h'.get? s.heap.objs.size=some q:=let ⟨q,_,_,hq,_⟩:=dd';⟨q,hq⟩;exact jy I2 (by rw[e];exact True.intro) hs he (zdc hz hd (rk.merge .nil) dd')
structure M1(X:Cx) (o:Expr) (m:Str) (apos:Pos) (e:Expr) (cpos:Pos):Prop where
 base:attributeBase o m X.env (eval o X.env)=eval o X.env
 few:((backTo cpos (starEach [e] X.env)).all (fun x=>!x.1)&&(backToKw cpos (keywordEach [] X.env)).all (fun x=>x.1.isSome)
  && decide (([e]:List Expr).length+([]:List Keyword).length+(if ([]:List Keyword).isEmpty then 0 else 1)<30))=true
 line:(apos.endLine==cpos.line)=true
 trees:backTo cpos (starEach [e] X.env)=[(false,eval e X.env)]
def IsD(H:Hp) (a:Addr):Prop:=(∃kvs,Rd H a (.dK kvs))\/∃kvs,Rd H a (.dT kvs)
theorem zjQ{X:Cx}{pins:List (Addr×Obj)}{σ : St}{H:Hp}{s:Shared}{a:Addr}(I:Inv X pins σ H s) (d:IsD H a) :
  s.TypeIs (.ref a) "dict"/\(∀b,Value.ref a=.ref b->∃ob,s.heap.get? b=some ob/\ob.dict=none)/\(a==sysModules)=false:=by
 rcases d with ⟨kvs,e⟩|⟨kvs,e⟩
 ·obtain⟨_,hd,vs,_,dd⟩:=qi I.hok e
  refine⟨dd.typeIs,fun b q=>?_,hd⟩;cases q;obtain⟨ob,_,_,h1,h2,_⟩:=dd;exact⟨ob,h1,h2.2.1⟩
 ·obtain⟨_,hd,xs,_,dd⟩:=qh I.hok e
  refine⟨dd.typeIs,fun b q=>?_,hd⟩;cases q;obtain⟨ob,_,_,h1,h2,_⟩:=dd;exact⟨ob,h1,h2.2.1⟩
section
variable {X:Cx}{pins:List (Addr×Obj)}{σ : St}{H:Hp}{s:Shared}{a:Addr}{y d:V}{u r:Value}{o:Option V}{A:Around}{E:Value->Shared->Prop}
theorem zj1{Q:Value->Shared->Prop}(hu:A.units+1<cLine) (I:Inv X pins σ H s) (g:vL H a y o) (ry:zL y u) (h:∀w' s',Inv X pins σ H s'->zL (o.getD .non) w'->Q w' s') :
  wpAny (model X.prog X.w) A (call (.builtin "dict.get") [.ref a,u]) Q E s:=by
 rcases g with ⟨kvs,k,e,ey,l⟩|⟨kvs,k,b,e,ey,eb,l⟩
 ·subst ey
  obtain⟨z,hd,vs,rel,dd⟩:=qi I.hok e;refine call_meetsIn PySem.F.slot_dict_get dd.typeIs PySem.F.entry_dict_get (PySem.F.args_dict_get_2 _ _) (meets_dict_get (z9 X.prog X.w) a (jg ry) hd) ⟨_,dd.mapOf,h _ _ (I.tok _) ?_⟩;rw[l];exact(rel.val k).getD rfl
 ·subst ey
  cases (show u=Value.ref b from ry);obtain⟨z,hd,xs,rel,dd⟩:=qh I.hok e;refine call_meetsIn PySem.F.slot_dict_get dd.typeIs PySem.F.entry_dict_get (PySem.F.args_dict_get_2 _ _) (meetsH_dict_get (tupleKind (z9 X.prog X.w)) a b hd) ⟨tupleKind_room_in1 hu,k,xs,u7 I.hok eb,dd,h _ _ (I.tok _) ?_⟩;rw[l];exact(rel.val k).getD rfl
end
def ziW(td ty:TE):TE:=fun σ H Q=>td σ H fun x H1=>∃a,x=.ref a/\IsD H1 a/\ty σ H1 fun y H2=>∃o,vL H2 a y o/\Q (o.getD .non) H2
section
variable {X:Cx}{o e f:Expr}{apos cpos:Pos}{td ty tx:TE}
theorem jT(hu:X.A.units+1<cLine) (ho:PE X o td) (he:PE X e ty) (m:M1 X o "get" apos e cpos):PE X (.Call (.Attribute o "get" apos) [e] [] cpos) (ziW td ty):=by
 refine⟨?_⟩;intro pins s σ H Q I h;refine wpAny_Call_method m.base m.few m.line PySem.F.plainAttrs_dict PySem.F.slot_dict_get PySem.F.type_dict_get (thn (ho pins s σ H _ I h) fun u s1 ⟨x,H1,I1,rx,a,ex,d,q1⟩=>?_);subst ex;obtain rfl:u=Value.ref a:=rx;obtain⟨t1,t2,_⟩:=zjQ I1 d;refine⟨t1,t2,?_⟩;rw[m.trees];refine Calls.callWith_builtin rfl (Calls.evalArgs_plain (Calls.spliced_cons (thn (he pins s1 σ H1 _ I1 q1) fun iv s2 ⟨y,H2,I2,ry,ov,g,q2⟩=>Calls.spliced_nil ?_)));exact zj1 hu I2 g ry fun w' s3 I3 rw'=>⟨_,H2,I3,rw',q2⟩
end
section
variable {X:Cx}{pins:List (Addr×Obj)}{σ : St}{H:Hp}{s:Shared}{a:Addr}{kvs:List (Key×V)}{A:Around}{E:Value->Shared->Prop}
end
section
variable {X:Cx}{pins:List (Addr×Obj)}{σ : St}{H:Hp}{s:Shared}{a:Addr}{y:V}{u:Value}{A:Around}{E:Value->Shared->Prop}
end
end L2
namespace Att
open PySem PySem.W PySem.Calls PyProof.Rows
theorem jl{P:Params}{h:Heap}:∀(ns:List Int) (vs:List Value),WellAll P h vs (ns.map WData.int)->IntsAre vs ns:=by
 intro ns;induction ns with
 | nil=>
  intro vs w;rw[map_nil] at w;cases w;exact .nil
 | cons n ns ih=>
  intro vs w;rw[map_cons] at w;cases w with
  | cons a b=>
   cases a;exact .cons _ _ (ih _ b)
theorem zeb{l:OpenLaw}{n:Nat}(hn:l.most=some n) {P:Params}{h:Heap}{args:List WData}{vals:List Value}
  (hpre:l.row.toRowW.claim.pre args=true) (hwl:WellAll P h vals args) :
  ∃a vs ns,vals=[Value.ref a]/\args=[WData.list (ns.map WData.int)]/\h.get? a=some { cls:=.type "list",data:=.seq vs.toArray }/\IntsAre vs ns/\ns.length<=n:=by
 have hsh:WShape.hasAll [] args [.list .int]=true:=(pre_splitW hpre).1;have hc:l.pre.holds [] { args:=args }=true:=(pre_splitW hpre).2;obtain⟨d,r,rfl,h1,h2⟩:=hasAllW_cons hsh;obtain rfl:=hasAllW_nil h2;obtain⟨xs,rfl,h3⟩:=hasW_list h1;obtain⟨ns,rfl⟩:=items_int h3;have hlen:ns.length<=n:=by
  unfold OpenLaw.pre at hc;have h4:(WTm.not (.lt (.lit (.int (n:Int))) (.len (.arg 0)))).holds [] { args:=[.list (ns.map .int)] }=true:=by
   have h4:=(holds_andW hc).1;rw[hn] at h4;exact h4
  have h5:=condW_of h4 (w_not (w_lt w_lit (w_len_list (w_arg rfl))));rw[length_map] at h5;refine Nat.le_of_not_lt fun q=>?_;have q':(n:Int)<((ns.length:Nat):Int):=by omega
  first
   | (rw[decide_eq_true q'] at h5;exact absurd h5 (by decide))
   | (simp at h5;omega)
 cases hwl with
 | cons w1 w2=>
  cases w2;cases w1 with
  | list ho hall=>exact⟨_,_,ns,rfl,rfl,ho,jl ns _ hall,hlen⟩
theorem zef(l:OpenLaw) (args:List WData):l.row.toRowW.claim.post args (.bool true) args=true:=
 postW_of (r:=l.row.toRowW) (X:=(true==true))
  (show WShape.has [] (.bool true) .bool=true by first|rfl|decide|simp [WShape.has,WShape.arms,WShape.armsAll])
  (show(WTm.eq .res (.lit (.bool true))).value [] { args:=args,res:=some (.bool true),after:=args }=some (.bool (true==true)) from w_eq_bool (w_res rfl) w_lit) rfl
section
variable {prog:Program}{w:World}{A:Around}{E:Value->Shared->Prop}{s:Shared}{K:Frag}
def zlR(h:Heap) (L d:Addr):List (Addr×Obj):=(List.range h.objs.size).filterMap fun a=>if a=L\/a=d then none else (h.get? a).map fun o=>(a,o)
end
end Att
namespace L2
open PySem PySem.Spec PyProof.Rows
theorem qB:∀{vs:List Value}{ns:List Int},IntsAre vs ns->zJ (ns.map V.int) vs
 | _,_,.nil=>.nil
 | _,_,.cons n t h=>.cons ⟨t,rfl⟩ (qB h)
def zj6(H:Hp):Prop:=∀b,H b=none\/∃o xs,H b=some (.frz o (.lst xs))
theorem zgq{P:Program}{w:World}{K:Frag}{mg mb:Str->Option Value}{CX:CXT}{k:Nat}{fa a:Addr}{fd:FuncData}{x:Str}{sp:Sp}{s₁:Shared}{vs:List Value}{ns:List Int}
  (KX:K.In s₁.heap) (hns:s₁.heap.Ns mainGlobals mg) (hb:s₁.heap.Ns builtinsNs mb) (hbb:∀x:Str,x≠"__name__"->mb x=bootBuiltins x) (hlim:s₁.heap.NoLimit) (hg:s₁.gens=#[])
  (ha:s₁.heap.get? a=some { cls:=.type "list",data:=.seq vs.toArray }) (hi:IntsAre vs ns) (hl:ns.length<=sizeLine) (hr:yo k callerA)
  (F:∀base:Heap,K.In base->base.Ns mainGlobals mg->zD P w K mg base CX k fa fd [x] sp) (hbind:∀(s:Shared) (u:Value),BindsTo s fd ⟨[u],[]⟩ [(x,u)])
  (hsp:∀H:Hp,zj6 H->SqL K H a (ns.map V.int)->sp [.ref a] H (fun v _=>v=.bl true) fun _ _ _=>False)
  (hCX:∀H e s',CX [] H s₁ (fun _ _ _=>False) e s'->False) :
  codeAny (model P w) callerA (.call (.ref fa) ⟨[.ref a],[]⟩) (fun r s'=>r=.ok (.ret (.bool true))/\OldK s₁.heap s'.heap/\s'.os=s₁.os/\AllBare s'.gens) s₁:=by
 have rv:=qB hi;have lenV:=hi.length;have core:∀H:Hp,zj6 H->SqL K H a (ns.map V.int)->HOk P w H s₁.heap->(∀b,H b≠none->b=a)->(H a≠none->K.lookup a=none)->
   codeAny (model P w) callerA (.call (.ref fa) ⟨[.ref a],[]⟩) (fun r s'=>r=.ok (.ret (.bool true))/\OldK s₁.heap s'.heap/\s'.os=s₁.os/\AllBare s'.gens) s₁:=by
  intro H hO hS hok hA hK;have base_of:∀{b:Addr}{o:Obj},s₁.heap.get? b=some o->H b=none->(za0 s₁.heap H).get? b=some o:=fun e n=>zgz e n;have noA:∀{b:Addr}{o:Obj}{es:Array DictEntry}{ep:Nat},s₁.heap.get? b=some o->o.data=.dict es ep->H b=none:=fun {b o es ep} e d=>by
   cases q:H b with
   | none=>rfl
   | some u=>
    have e':b=a:=hA b (by rw[q];simp)
    subst e';rw[ha] at e;cases e;have d':Data.seq vs.toArray _=Data.dict es ep:=d;cases d'
  have nsK:∀{b:Addr}{m:Str->Option Value},s₁.heap.Ns b m->(za0 s₁.heap H).Ns b m:=fun {b m} ⟨o,es,ep,e,d,r⟩=>⟨o,es,ep,base_of e (noA e d),d,r⟩;have hKb:K.In (za0 s₁.heap H):=fun b o e=>base_of (KX b o e) (by
   cases q:H b with
   | none=>rfl
   | some u=>
    have e':b=a:=hA b (by rw[q];simp)
    subst e';rw[hK (by rw[q];simp)] at e;cases e)
  have hM:Mod K mg (za0 s₁.heap H):=⟨hKb,nsK hns,⟨mb,nsK hb,hbb⟩,let ⟨mc,h1,h2⟩:=hlim;⟨mc,nsK h1,h2⟩⟩;have e0:zdn P w K mg (za0 s₁.heap H) callerA [] s₁ H:=⟨rfl,hM,fun b o e=>zhU e,le_of_eq (zeF _ _),trivial,fun b hb=>absurd (show b∈([]:List Addr) from hb) (by simp),hok,.of_eq hg⟩
  refine codeAny_mono ((F _ hKb (nsK hns)).run callerA [] s₁ H ⟨[.ref a],[]⟩ [.ref a] [.ref a] _ _ hr e0 (hbind s₁ (.ref a)) (.cons rfl .nil) (hsp H hO hS)) fun r s' h=>?_;cases r with
  | error e=>exact(hCX H e s' h).elim
  | ok fl=>
   cases fl with
   | next=>exact False.elim h
   | brk=>exact False.elim h
   | cont=>exact False.elim h
   | ret u=>
    obtain⟨v,H',os,bare,un,hok',r',q⟩:=h;have q':v=.bl true:=q;subst q';obtain rfl:u=Value.bool true:=r';refine⟨rfl,OldK.of_keep fun b o e=>?_,os,bare⟩;cases q:H b with
    | none=>exact un.keep b o e q (by intro z;exact absurd (show b∈([]:List Addr) from z) (by simp)) (by simp)
    | some u=>
     rcases hO b with z|⟨ob,xs,z⟩
     ·rw[q] at z;cases z
     ·have z2:=un.frzs b ob _ z
      obtain⟨e1,_⟩:=hok b _ z;obtain⟨e2,_⟩:=hok' b _ z2;rw[e] at e1;cases e1;exact e2
 cases hk:K.lookup a with
 | some o=>
  have e:=KX a o hk;rw[ha] at e;cases e;refine core (fun _=>none) (fun _=>.inl rfl) (.inr ⟨_,vs.toArray,_,hk,rfl,rfl,rfl,by rw[size_toArray,lenV];exact hl,by simpa using rv⟩) (fun b u z=>by have z':(none:Option HO)=some u:=z;cases z') (fun b z=>absurd rfl z) fun z=>absurd rfl z
 | none=>
  refine core (fun b=>if b=a then some (.frz { cls:=.type "list",data:=.seq vs.toArray } (.lst (ns.map V.int))) else none) (fun b=>?_) (.inl (.inr ⟨{ cls:=.type "list",data:=.seq vs.toArray },if_pos rfl⟩)) (fun b u z=>?_) (fun b z=>?_) fun _=>hk
  ·by_cases hb:b=a
   ·exact .inr ⟨_,_,if_pos hb⟩
   ·exact .inl (if_neg hb)
  ·by_cases hb:b=a
   ·have z':=(if_pos hb).symm.trans z
    cases z';subst hb;exact⟨ha,by rw[length_map];exact hl,vs,_,rv,ha⟩
   ·have z':=(if_neg hb).symm.trans z
    cases z'
  ·by_cases hb:b=a
   ·exact hb
   ·exact absurd (if_neg hb) z
def yq(s:Stmt) (j:Nat):Stmt:=match s with
 | .ClassDef _ _ _ body _ _ _ _ _ _ _=>body.getD j (.Pass ⟨0,0,0,0⟩)
 | _=>.Pass ⟨0,0,0,0⟩
def z6(s:Stmt):Arguments:=match s with
 | .FunctionDef _ a _ _ _ _ _ _ _ _=>a
 | _=>{ posonlyargs:=[],args:=[],vararg:=none,kwonlyargs:=[],kw_defaults:=[],kwarg:=none,defaults:=[] }
def zT(s:Stmt):List Stmt:=match s with
 | .FunctionDef _ _ b _ _ _ _ _ _ _=>b
 | _=>[]
def zi(s:Stmt):Scope:=match s with
 | .FunctionDef _ _ _ _ _ _ sc _ _ _=>sc
 | _=>{ kind:=.function,names:=[],isGenerator:=false,isCoroutine:=false }
abbrev CX0:CXT:=fun _ _ _ _ _ _=>False
abbrev E0:XK:=fun _ _ _=>False
theorem zW{X:Cx}:wF CX0 X E0:=fun _ _ _ _ _ _ _ h=>h.elim
structure Fun(K:Frag) (x qual:Str) (st:Stmt) (f:Addr) (fd:FuncData):Prop where
 ex:∃(oc:Value) (od:Option Addr) (kV doc pm:Value) (an:Option Addr) (cdv ct:Value) (osl:Array (Option Value)),
  fd=fnOf x qual (z6 st) (zT st) (zi st) .none kV doc pm an cdv ct/\K.lookup f=some ⟨oc,od,.func fd,osl⟩/\codeIn K cdv qual=true
 kp:keepIn K (.ref f)=true
section
variable {P:Program}{w:World}{K:Frag}{mg:Str->Option Value}{base:Heap}
theorem Fun.ok{x qual:Str}{st:Stmt}{f:Addr}{fd:FuncData}{N ps:List Str}{k:Nat}{sp:Sp}(F:Fun K x qual st f fd) (S:zr N ps (zi st)) (len:∀vs H Q E,sp vs H Q E->vs.length=ps.length)
  (hbody:∀(cdv:Value) (A:Around) (outer:List Env) (s:Shared) (H:Hp) (vs:List V) (Q:VK) (E:XK),yo k (A.deeper (envOfC qual (zi st) s.heap.objs.size f cdv))->sp vs H Q E->
   ∃t,PSs (zdd CX0 P w K mg base N qual (zi st) f cdv A outer s H E).nox (zT st) t/\t { nx:=fun _ H'=>Q .non H',rt:=Q } (uy N vs) H):zD P w K mg base CX0 (k+1) f fd ps sp:=by
 obtain⟨oc,od,kV,doc,pm,an,cdv,ct,osl,rfl,lk,hcd⟩:=F.ex;refine ziK lk hcd S len fun A outer s H vs Q E hr hsp=>?_;obtain⟨t,h,q⟩:=hbody cdv A outer s H vs Q E hr hsp;exact⟨t,h.nox,q⟩
theorem Fun.binds{x qual:Str}{st:Stmt}{f:Addr}{fd:FuncData}{ps:List Str}(F:Fun K x qual st f fd)
  (h:∀(kV doc pm:Value) (an:Option Addr) (cdv ct:Value) (us:List Value),us.length=ps.length->bindArgs (fnOf x qual (z6 st) (zT st) (zi st) .none kV doc pm an cdv ct) ⟨us,[]⟩=pure (ps.zip us)):zM K fd ps []:=by
 obtain⟨oc,od,kV,doc,pm,an,cdv,ct,osl,rfl,lk,hcd⟩:=F.ex;exact .all (h kV doc pm an cdv ct)
theorem zgE{x qual:Str}{st:Stmt}{f:Addr}{oc:Value}{od an:Option Addr}{osl:Array (Option Value)}{kV doc pm cdv ct:Value}(l:K.lookup f=some ⟨oc,od,.func (fnOf x qual (z6 st) (zT st) (zi st) .none kV doc pm an cdv ct),osl⟩)
  (c:codeIn K cdv qual=true) (k:keepIn K (.ref f)=true):Fun K x qual st f (fnOf x qual (z6 st) (zT st) (zi st) .none kV doc pm an cdv ct):=⟨⟨oc,od,kV,doc,pm,an,cdv,ct,osl,rfl,l,c⟩,k⟩
end
theorem jh{A:Around}{k:Nat}(hr:yo k A):A.units+1<cLine:=Nat.lt_of_le_of_lt (Nat.add_le_add_left (by decide : 1<=64) _) hr.units
theorem zE{n:Nat}(h:n<=1000):n<sizeLine:=Nat.lt_of_le_of_lt h (by decide)
section
variable {X:Cx}
theorem pv(i:Nat) {x:Str}{pos:Pos}(hN:X.N[i]?=some x:=by rfl) (hv:Vis X.env.scope x:=by first|exact Or.inl rfl|exact Or.inr (Or.inl rfl)|exact Or.inr (Or.inr rfl)) (hd:(x==("__debug__" : Str))=false:=by decide)
  (hcd:(x==("__classdict__" : Str))=false:=by decide):PE X (.Name x pos) (zkb i):=zjr hN hv hd hcd
end
theorem zK{A B:Prop}(h:B):if false=true then A else B:=by
 rw[if_neg Bool.false_ne_true];exact h
theorem yY{A B:Prop}(h:A):if true=true then A else B:=by
 rw[if_pos rfl];exact h
theorem zaY{c A B:Prop}[Decidable c] (h1:c->A) (h2:¬c->B):if c then A else B:=by
 by_cases h:c
 ·rw[if_pos h]
  exact h1 h
 ·rw[if_neg h]
  exact h2 h
def zo(H H':Hp):Prop:=∀b o,H b=some o->H' b=some o
theorem zo.refl(H:Hp):zo H H:=fun _ _ h=>h
theorem zo.trans{H H1 H2:Hp}(a:zo H H1) (b:zo H1 H2):zo H H2:=fun c o h=>b c o (a c o h)
theorem zo.free{H H':Hp}(e:zo H H') {l:Addr}(h:H' l=Option.none):H l=Option.none:=by
 cases q:H l with
 | none=>rfl
 | some o=>
  rw[e l o q] at h;cases h
theorem zo.seq{K:Frag}{H H':Hp}{a:Addr}{xs:List V}(e:zo H H') (h:SqL K H a xs):SqL K H' a xs:=by
 rcases h with (h|⟨o,h⟩)|h
 ·exact .inl (.inl (e _ _ h))
 ·exact .inl (.inr ⟨o,e _ _ h⟩)
 ·exact .inr h
section
variable {X:Cx}
end
section
variable {κ : Type}[DecidableEq κ]
end
def clB(env:Env) (fr:List Str):List (Str×Addr):=fr.map fun n=>(n,(env.cells.lookup n).getD 0)
theorem zb6{env:Env}:∀{fr:List Str}{x:Str}{c:Addr},(clB env fr).lookup x=some c->x∈fr/\c=(env.cells.lookup x).getD 0
 | [],x,c,h=>by simp [clB] at h
 | n::r,x,c,h=>by
  have h':List.lookup x ((n,(env.cells.lookup n).getD 0)::clB env r)=some c:=h;rw[lookup_cons] at h';cases e:x==n with
  | true=>
   rw[e] at h';have e':x=n:=by simpa using e
   subst e';exact⟨mem_cons_self,(Option.some.inj h').symm⟩
  | false=>
   rw[e] at h';obtain⟨h1,h2⟩:=zb6 h';exact⟨mem_cons_of_mem _ h1,h2⟩
theorem za4{env:Env}:∀{fr:List Str}{x:Str},x∈fr->(clB env fr).lookup x=some ((env.cells.lookup x).getD 0)
 | n::r,x,h=>by
  show List.lookup x ((n,(env.cells.lookup n).getD 0)::clB env r)=_;rw[lookup_cons];cases e:x==n with
  | true=>
   have e':x=n:=by simpa using e
   subst e';rfl
  | false=>
   rcases List.mem_cons.mp h with z|z
   ·subst z;simp at e
   ·exact za4 z
theorem vz{env:Env}:∀{names:List (Str×NameKind)}{x:Str}{k:NameKind},
  (names.map fun (n,k)=>if (k==NameKind.free&&env.scope.kind==.function&&env.kindOf n==some .cell) then (n,NameKind.cell) else (n,k)).lookup x=some k->
  ∃k0,(x,k0)∈names/\(k=k0\/(k0=.free/\k=.cell))
 | [],_,_,h=>by simp at h
 | (n,k0)::r,x,k,h=>by
  have h':List.lookup x ((if (k0==NameKind.free&&env.scope.kind==.function&&env.kindOf n==some .cell)=true then (n,NameKind.cell) else (n,k0)) ::
   (r.map fun (n,k)=>if (k==NameKind.free&&env.scope.kind==.function&&env.kindOf n==some .cell) then (n,NameKind.cell) else (n,k)))=some k:=h
  by_cases hc:(k0==NameKind.free&&env.scope.kind==.function&&env.kindOf n==some .cell)=true
  ·rw[if_pos hc,lookup_cons] at h'
   cases e:x==n with
   | true=>
    rw[e] at h';have e':x=n:=by simpa using e
    subst e';simp only[Bool.and_eq_true] at hc;exact⟨k0,mem_cons_self,.inr ⟨by simpa using hc.1.1,(Option.some.inj h').symm⟩⟩
   | false=>
    rw[e] at h';obtain⟨k1,h1,h2⟩:=vz h';exact⟨k1,mem_cons_of_mem _ h1,h2⟩
  ·rw[if_neg hc,lookup_cons] at h'
   cases e:x==n with
   | true=>
    rw[e] at h';have e':x=n:=by simpa using e
    subst e';exact⟨k0,mem_cons_self,.inl (Option.some.inj h').symm⟩
   | false=>
    rw[e] at h';obtain⟨k1,h1,h2⟩:=vz h';exact⟨k1,mem_cons_of_mem _ h1,h2⟩
theorem wX{env:Env}(hk:env.scope.kind=.function):∀{names:List (Str×NameKind)}{x:Str},names.lookup x=some .free->env.kindOf x=some .cell->
  (names.map fun (n,k)=>if (k==NameKind.free&&env.scope.kind==.function&&env.kindOf n==some .cell) then (n,NameKind.cell) else (n,k)).lookup x=some .cell
 | [],_,h,_=>by simp at h
 | (n,k0)::r,x,h,hx=>by
  show List.lookup x ((if (k0==NameKind.free&&env.scope.kind==.function&&env.kindOf n==some .cell)=true then (n,NameKind.cell) else (n,k0)) ::
   (r.map fun (n,k)=>if (k==NameKind.free&&env.scope.kind==.function&&env.kindOf n==some .cell) then (n,NameKind.cell) else (n,k)))=some .cell
  rw[lookup_cons] at h;cases e:x==n with
  | true=>
   rw[e] at h;have e':x=n:=by simpa using e
   subst e';have h0:k0=.free:=Option.some.inj h;subst h0;rw[if_pos (by rw[hk,hx];decide),lookup_cons]
   simp
  | false=>
   rw[e] at h;have ih:=wX hk h hx;split
   ·rw[lookup_cons,e];exact ih
   ·rw[lookup_cons,e];exact ih
abbrev zN(X:Cx) (pins:List (Addr×Obj)) (sc:Scope) (fr Nc:List Str) (fp:List Addr) (s:Shared) (H:Hp) (C:Addr):Cx:=
 { prog:=X.prog,w:=X.w,K:=X.K,mg:=X.mg,base:=X.base,A:=X.A,N:=Nc,s₀:=s,H₀:=H,env:=compEnvC sc (clB X.env fr) C X.env,outer:=X.stack,stack:=X.stack,ex:=fp,fn:=fun _=>false,calm:=X.calm,pn:=X.pn++pins,xe:=fun _ _=>False }
structure xc(env:Env) (sc:Scope) (fr:List Str):Prop where
 kind:sc.kind=.function
 clos:closureFor sc env=pure (clB env fr)
 cells:(fr.all fun n=>(env.cells.lookup n).isSome)=true
 names:(sc.names.all fun y=>(y.2 != .cell)&&(y.2 != .free||fr.contains y.1)&&(y.2 != .local||sc.names.lookup y.1==some .local))=true
def ur(N Nc:List Str) (caps:List (Option Nat)) (env:Env) (sc:Scope) (fr:List Str):Bool:=
 (Nc.zip caps).all fun p=>match p.2 with
  | none=>true
  | some j=>(N[j]?==some p.1)&&(env.kindOf p.1==some .cell)&&(sc.names.lookup p.1==some .free)&&fr.contains p.1
def xk(caps:List (Option Nat)) (σ : St):St:=caps.map fun o=>match o with
 | none=>none
 | some j=>(σ[j]?).join
section
variable {X:Cx}{pins:List (Addr×Obj)}{σ : St}{H:Hp}{s:Shared}{sc:Scope}{fr Nc:List Str}{fp:List Addr}{C:Addr}
theorem xc.sub{env:Env}(B:xc env sc fr) {x:Str}{c:Addr}(h:(clB env fr).lookup x=some c):env.cells.lookup x=some c:=by
 obtain⟨h1,h2⟩:=zb6 h;have h3:=List.all_eq_true.mp B.cells x h1;obtain⟨d,hd⟩:=Option.isSome_iff_exists.mp h3;rw[hd] at h2 |-;rw[h2];rfl
theorem xc.free{env:Env}(B:xc env sc fr) {x:Str}{k:NameKind}(h:(relabel sc env).names.lookup x=some k) (hk:k=.cell\/k=.free):x∈fr:=by
 obtain⟨k0,h1,h2⟩:=vz h;have h3:=List.all_eq_true.mp B.names _ h1;simp only[Bool.and_eq_true,Bool.or_eq_true,bne_iff_ne,ne_eq,List.contains_iff_mem] at h3;have h4:k0=.free:=by
  rcases h2 with h2|⟨h2,_⟩
  ·subst h2
   rcases hk with z|z
   ·exact absurd z h3.1.1
   ·exact z
  ·exact h2
 rcases h3.1.2 with z|z
 ·exact absurd h4 z
 ·exact z
theorem zdZ(I:Inv X pins σ H s) (B:xc X.env sc fr) (hf:∀b∈fp,vK X pins H b) (ho:∀b∈fp,∃o,s.heap.get? b=some o) (hC:s.heap.objs.size<=C):(zN X pins sc fr Nc fp s H C).Ok where
 mod:=I.ok.mod
 kind:=B.kind
 glob:=I.ok.glob
 blt:=I.ok.blt
 above:=hC
 inj:=fun x y c h1 h2=>I.ok.inj x y c (B.sub h1) (B.sub h2)
 has:=fun x h=>by
  have hx:x∈fr:=by
   rcases h with h|h
   ·exact B.free h (.inl rfl)
   ·exact B.free h (.inr rfl)
  exact⟨_,za4 hx⟩
 cab:=fun x c h=>absurd h (by simp)
 hd:=I.ok.hd
 frames:=I.ok.frames
 stk:=.inl rfl
 exf:=fun b hb=>by
  obtain⟨o,e⟩:=ho b hb;refine⟨fun z=>?_,fun x c h=>(hf b hb).2.2.2.2.1 x c (B.sub h)⟩;have z':b=C:=z
  have:=Heap.lt_size e
  rw[z'] at this;exact absurd (lt_of_lt_of_le this hC) (lt_irrefl _)
 bs:=I.bs
 bsz:=le_trans I.ok.bsz I.sz
 noex:=fun b o e hb=>by
  rcases (hf b hb).2.2.2.1 with z|z
  ·exact I.ok.noex b o e z
  ·exact absurd (lt_of_lt_of_le (Heap.lt_size (I.ok.bs b o e).1) z) (lt_irrefl _)
 exfs:=fun b hb h=>by
  rcases List.mem_cons.mp (I.stkSub b h) with z|z
  ·exact(hf b hb).2.1 z
  ·exact(hf b hb).2.2.1 z
 funs:=I.stack
 frf:=I.stkFree
theorem Inv.pin_lt(I:Inv X pins σ H s) {p:Addr×Obj}(hp:p∈X.pn++pins):p.1<s.heap.objs.size:=Heap.lt_size (I.pin p hp).1
theorem zde{caps:List (Option Nat)}{h':Heap}{D:Addr}{m:Str->Option Value}{t' n0:Nat}(I:Inv X pins σ H s) (B:xc X.env sc fr) (hf:∀b∈fp,vK X pins H b) (ho:∀b∈fp,∃o,s.heap.get? b=some o)
  (hC:s.heap.objs.size<=C) (hD:s.heap.objs.size<=D) (hDC:D≠C) (keep:∀b o,s.heap.get? b=some o->h'.get? b=some o) (hl:h'.get? D=some { cls:=.type "list",data:=.seq ([]:List Value).toArray n0 }) (hn:h'.Ns C m)
  (hcap:ur X.N Nc caps X.env sc fr=true) (hlen:caps.length=Nc.length) :
  Inv (zN X pins sc fr Nc fp s H C) [] (xk caps σ) (upd H D (.lst [])) { s with heap:=h',toks:=t' }:=by
 have hk:X.env.scope.kind=.function:=I.ok.kind;have fresh:∀a,s.heap.objs.size<=a->H a=none:=fun a ha=>I.hok.fresh ha;refine⟨zdZ I B hf ho hC,rfl,I.bare,Un.laid keep hD (fresh D hD),⟨m,hn,fun i x v e1 e2 e3=>?_⟩,fun x c h=>?_,?_,fun x c h=>?_,fun p hp=>?_,?_,?_⟩
 ·
  have e2':(caps[i]?).map (fun o=>match o with|none=>none|some j=>(σ[j]?).join)=some (some v):=by
   have:(xk caps σ)[i]?=some (some v):=e2
   unfold xk at this;rw[getElem?_map] at this;exact this
  cases hc:caps[i]? with
  | none=>rw[hc] at e2';cases e2'
  | some o=>
   rw[hc] at e2';cases o with
   | none=>simp at e2'
   | some j=>
    have e4:(σ[j]?).join=some v:=by simpa using e2'
    have e5 : σ[j]?=some (some v):=by
     cases q : σ[j]? with
     | none=>rw[q] at e4;cases e4
     | some w'=>rw[q] at e4;simp at e4;rw[e4]
    have e6:(Nc.zip caps)[i]?=some (x,some j):=by
     rw[List.getElem?_zip_eq_some];exact⟨e1,hc⟩
    have e7:=List.all_eq_true.mp hcap _ (mem_of_getElem? e6);simp only[Bool.and_eq_true,beq_iff_eq,List.contains_iff_mem] at e7;obtain⟨⟨⟨a1,a2⟩,a3⟩,a4⟩:=e7;obtain⟨m0,hn0,hl0⟩:=I.loc;obtain⟨u,r,l⟩:=hl0 j x v a1 e5 (.inr (.inl a2));refine⟨u,r,.inr ⟨.inl (wX hk a3 a2),_,za4 a4,?_⟩⟩;rcases l with ⟨z,_⟩|⟨_,c,ec,hcell⟩
    ·rw[a2] at z;cases z
    ·have:(X.env.cells.lookup x).getD 0=c:=by rw[ec];rfl
     rw[this];exact hcell.keeps keep
 ·obtain⟨v,hv⟩:=I.cell x c (B.sub h)
  exact⟨v,hv.keeps keep⟩
 ·show upd H D (.lst []) C=none
  rw[zh (Ne.symm hDC)];exact fresh C hC
 ·obtain⟨v,hv⟩:=I.cell x c (B.sub h)
  have:c≠D:=fun z=>by have:=hv.lt;rw[z] at this;exact absurd (lt_of_lt_of_le this hD) (lt_irrefl _)
  rw[zh this];exact I.freeC x c (B.sub h)
 ·have hp':p∈X.pn++pins:=by simpa using hp
  obtain⟨e,n,ne,nf,d⟩:=I.pin p hp';have hlt:=I.pin_lt hp';refine⟨keep _ _ e,?_,?_,fun z=>?_,d⟩
  ·rw[zh (fun z=>by rw[z] at hlt;exact absurd (lt_of_lt_of_le hlt hD) (lt_irrefl _))];exact n
  ·intro z
   have z':p.1=C:=z;rw[z'] at hlt;exact absurd (lt_of_lt_of_le hlt hC) (lt_irrefl _)
  ·rcases List.mem_cons.mp (I.stkSub p.1 z) with q|q
   ·exact ne q
   ·exact nf q
 ·exact I.hok.laid keep hD ⟨zero_le _,[],n0,.nil,hl⟩
 ·show(xk caps σ).length=Nc.length
  unfold xk;rw[length_map,hlen]
theorem ja{pl:List (Addr×Obj)}{σ':St}{H':Hp}{s':Shared}(I:Inv X pins σ H s) (hf:∀b∈fp,vK X pins H b) (J:Inv (zN X pins sc fr Nc fp s H C) pl σ' H' s'):Inv X pins σ H' s':=
 I.call' J.os J.base J.hok J.bare fun b hb=>⟨(hf b hb).2.2.2.1,(hf b hb).2.1,(hf b hb).2.2.2.2.1,(hf b hb).2.2.2.2.2⟩
theorem zak{pl:List (Addr×Obj)}{σ' σ2:St}{H':Hp}{s':Shared}{h2:Heap}{t2:Nat}(I:Inv X pins σ H s) (J:Inv (zN X pins sc fr Nc fp s H C) pl σ' H' s') (J2:Inv X pins σ2 H' s') (hs:Heap.SameBut C s'.heap h2):Inv X pins σ2 H' { s' with heap:=h2,toks:=t2 }:=by
 have hC:s.heap.objs.size<=C:=J.ok.above;refine J2.turned (it:=C) (fun b o hb e=>(hs.2 b hb).trans e) J.free ?_ (.inr (le_trans I.sz hC)) (fun x c h z=>?_) fun p hp z=>?_
 ·intro z
  have:=I.lt
  rw[<- z] at this;exact absurd (lt_of_lt_of_le this hC) (lt_irrefl _)
 ·obtain⟨v,hv⟩:=I.cell x c h
  have:=hv.lt
  rw[z] at this;exact absurd (lt_of_lt_of_le this hC) (lt_irrefl _)
 ·have:=I.pin_lt hp
  rw[z] at this;exact absurd (lt_of_lt_of_le this hC) (lt_irrefl _)
end
def zkc:TT:=fun _ H Q=>Q true H
structure PIf(X:Cx) (ifs:List Expr) (t:TT):Prop where
 run:∀(pins:List (Addr×Obj)) (s:Shared) (σ : St) (H:Hp) (Q:Bool->Hp->Prop),Inv X pins σ H s->t σ H Q->
  wpAny (model X.prog X.w) X.A (forIn ifs true fun c r=>if r=true then do let ok <- isTrue c X.env (eval c X.env);pure (ForInStep.yield ok) else pure (ForInStep.yield r)) (TP X pins σ Q) X.xe s
instance {X:Cx}{ifs:List Expr}{t:TT}:CoeFun (PIf X ifs t) (fun _=>∀(pins:List (Addr×Obj)) (s:Shared) (σ : St) (H:Hp) (Q:Bool->Hp->Prop),Inv X pins σ H s->t σ H Q->
  wpAny (model X.prog X.w) X.A (forIn ifs true fun c r=>if r=true then do let ok <- isTrue c X.env (eval c X.env);pure (ForInStep.yield ok) else pure (ForInStep.yield r)) (TP X pins σ Q) X.xe s):=⟨PIf.run⟩
theorem yO{X:Cx}:PIf X [] zkc:=⟨fun _ _ _ H _ I h=>wpAny_tests_nil ⟨H,I,h⟩⟩
theorem yX{X:Cx}{c:Expr}{t:TT}(hc:PT X c t):PIf X [c] t:=⟨fun pins s σ H Q I h=>wpAny_tests_one (hc pins s σ H Q I h)⟩
def zdl(g:TG) (ow:List Nat):Prop:=
 ∀(v:V) (σ : St) (H:Hp) (Q:St->Hp->Prop),g v σ H Q->g v σ H fun σ2 H2=>Q σ2 H2/\σ2.length=σ.length/\∀i,i∉ow->σ2[i]?=σ[i]?
theorem zY(i:Nat):zdl (yr i) [i]:=fun v σ H Q h=>⟨h,length_set ..,fun j hj=>getElem?_set_ne (fun e=>hj (by simp [e]))⟩
theorem yG{K:Frag}{n:Nat}(i j:Nat):zdl (zk6 K n (zgD (yr i) (zgD (yr j) zk7))) [i,j]:=by
 rintro v σ H Q ⟨a,xs,e1,e2,e3,v1,r1,e4,v2,r2,e5,e6,q⟩;refine⟨a,xs,e1,e2,e3,v1,r1,e4,v2,r2,e5,e6,q,by rw[length_set,length_set],fun k hk=>?_⟩
 have h1:i≠k:=fun e=>hk (by simp [e])
 have h2:j≠k:=fun e=>hk (by simp [e])
 rw[getElem?_set_ne h2,getElem?_set_ne h1]
section
variable {prog:Program}{w:World}{A:Around}{R:Result->Shared->Prop}{s:Shared}
theorem za3{elt target iter:Expr}{ifs:List Expr}{scope:Scope}{pos:Pos}{it acc:Value}{env:Env}(I:Nat->Shared->Prop)
  (turn:∀n s,I n s->wpAny (model prog w) A (pyNext it) (fun r s₁=>match r with
   | none=>R (.ok .next) s₁
   | some v=>wpAny (model prog w) A (letOwnedTupleGo target it v) (fun _ s₀=>wpAny (model prog w) A (assign target env v) (fun _ s₂=>
     wpAny (model prog w) A (forIn ifs true fun c r=>if r=true then do let ok <- isTrue c env (eval c env);pure (ForInStep.yield ok) else pure (ForInStep.yield r)) (fun ok s₃=>
      if ok=true then wpAny (model prog w) A (eval elt env) (fun x s₄=>
       wpAny (model prog w) A (call (.builtin "list.append") [acc,x]) (fun _ s₅=>∃m,m<n/\I m s₅) (fun _ _=>False) s₄) (fun _ _=>False) s₃
      else ∃m,m<n/\I m s₃) (fun _ _=>False) s₂) (fun _ _=>False) s₀) (fun _ _=>False) s₁) (fun _ _=>False) s)
  (n:Nat) (h:I n s) :
  codeAny (model prog w) A (.compLoop (.ListComp elt [⟨target,iter,ifs,0⟩] scope pos) 0 it acc env) R s:=by
 refine codeAny_loop rfl I (fun n s hI=>?_) n h;show wpAny _ A ((compTurn (.ListComp elt [⟨target,iter,ifs,0⟩] scope pos) 0 it acc env).onRaise (fun x=>do noteFrame x env;theTreesLotGoes x)) _ _ s
 refine wpAny_noted ?_;rw[compTurn_list];refine wpAny_bind (wpAny_standAt (wpAny_bind (wpAny_mono (turn n s hI) (fun r s₁ h₁=>?_) fun _ _ z=>z.elim)));cases r with
 | none=>exact wpAny_pure h₁
 | some v=>
  refine wpAny_bind (wpAny_mono h₁ (fun _ s₀ h₀=>?_) fun _ _ z=>z.elim);refine wpAny_bind (wpAny_mono h₀ (fun _ s₂ h₂=>wpAny_bind (wpAny_mono h₂ (fun ok s₃ h₃=>?_) fun _ _ z=>z.elim)) fun _ _ z=>z.elim);cases ok with
  | false=>exact wpAny_pure ⟨rfl,h₃⟩
  | true=>
   exact wpAny_bind (wpAny_bind (wpAny_mono h₃ (fun x s₄ h₄=>wpAny_bind (wpAny_mono h₄ (fun _ s₅ h₅=>wpAny_pure (wpAny_pure ⟨rfl,h₅⟩)) fun _ _ z=>z.elim)) fun _ _ z=>z.elim))
end
def LCr(J:It) (caps:List (Option Nat)) (g:TG) (tt:TT) (te:TE) (σ : St) (H1:Hp) (Q:VK) (D:Addr):Prop:=
 ∃W:Nat->Nat->List V->Hp->Prop,(∃m,W 0 m [] (upd H1 D (.lst [])))/\∀i m ys H,W i m ys H->
  (J.stop i H/\Q (.ref D) H)\/
  (J.go i H/\∀x H',J.yld i H x H'->g x (xk caps σ) H' fun σ2 H2=>tt σ2 H2 fun ok H3=>
   (ok=true->te σ2 H3 fun v H4=>H4 D=some (.lst ys)/\ys.length<sizeLine/\∃m',m'<m/\W (i+1) m' (ys++[v]) (upd H4 D (.lst (ys++[v]))))/\
   (ok=false->∃m',m'<m/\W (i+1) m' ys H3))
def tLC(wi:TI) (caps:List (Option Nat)) (g:TG) (tt:TT) (te:TE):TE:=fun σ H Q=>wi σ H fun J H1=>∀D,H1 D=none->LCr J caps g tt te σ H1 Q D
section
variable {X:Cx}{pins:List (Addr×Obj)}{σ : St}{s:Shared}{sc:Scope}{fr Nc:List Str}{caps:List (Option Nat)}{elt tg iter:Expr}{ifs:List Expr}{g:TG}{tt:TT}{te:TE}{ow:List Nat}{pos pos2:Pos}{E:Value->Shared->Prop}
theorem zb5{H2:Hp}{it:Addr}{fp:List Addr}{tn:Nat->Heap->Prop}{J:It}{Q:VK}{RR:Value->Addr->Result->Shared->Prop}
  (hc:X.calm=true) (B:xc X.env sc fr) (go:zdl g ow) (how:(ow.all fun i=>caps[i]?==some none)=true) (hcap:ur X.N Nc caps X.env sc fr=true) (hlen:caps.length=Nc.length)
  (hb:∀(pins:List (Addr×Obj)) (fp:List Addr) (s:Shared) (H:Hp) (C:Addr),PG (zN X pins sc fr Nc fp s H C) tg g/\PIf (zN X pins sc fr Nc fp s H C) ifs tt/\PE (zN X pins sc fr Nc fp s H C) elt te)
  (I2:Inv X pins σ H2 s) (T:za8 X.prog X.w X.K tg J fp it tn) (st2:tn 0 s.heap) (f2:∀b∈fp,vK X pins H2 b) (h:∀D,H2 D=none->LCr J caps g tt te σ H2 Q D)
  (fin:∀(D C:Addr) (σ':St) (H':Hp) (s':Shared),Inv (zN X pins sc fr Nc fp s H2 C) [] σ' H' s'->Q (.ref D) H'->RR (.ref D) C (.ok .next) s') :
  wpAny (model X.prog X.w) X.A (newList []) (fun acc s₃=>wpAny (model X.prog X.w) X.A (newFunctionEnv sc X.env.globals (clB X.env fr) [] X.env.qual none .none (some X.env)) (fun cenv s₄=>
   codeAny (model X.prog X.w) X.A (.compStart (.ListComp elt [⟨tg,iter,ifs,0⟩] sc pos) 0 (.ref it) acc { cenv with scope:=relabel sc X.env }) (RR acc cenv.locals) s₄) E s₃) E s:=by
 have hcell:∀y∈sc.names,y.2≠.cell:=fun y hy=>by
  have h3:=List.all_eq_true.mp B.names _ hy;simp only[Bool.and_eq_true,bne_iff_ne,ne_eq] at h3;exact h3.1.1
 refine wpAny_newObj_type (wpAny_newFunctionEnv hcell (by intro y hy;simp at hy) (fun h₁ hns₁ hsb₁=>?_) B.kind)
 dsimp only at hns₁ hsb₁ |-;generalize hH2:s.heap.push { cls:=.type "list",dict:=none,data:=.seq ([]:List Value).toArray }=H3 at hns₁ hsb₁ |-;have hCs:H3.objs.size=s.heap.objs.size+1:=by rw[<- hH2,Heap.size_push]
 have hDC:s.heap.objs.size≠H3.objs.size:=by rw[hCs];exact ne_of_lt (lt_succ_self _)
 have hC:s.heap.objs.size<=H3.objs.size:=by rw[hCs];exact le_succ _
 have old:∀b o,s.heap.get? b=some o->h₁.get? b=some o:=fun b o e=>
  hsb₁.extBut b o (ne_of_lt (lt_of_lt_of_le (Heap.lt_size e) hC)) (Heap.get?_push_of_some _ (hH2 ▸ Heap.get?_push_of_some _ e))
 have hD:h₁.get? s.heap.objs.size=some { cls:=.type "list",data:=.seq ([]:List Value).toArray }:=hsb₁.extBut _ _ hDC (Heap.get?_push_of_some _ (hH2 ▸ Heap.get?_push_size _ rfl));have ho:∀b∈fp,∃o,s.heap.get? b=some o:=fun b hb'=>let ⟨o,e,_⟩:=T.obj 0 _ st2 b hb';⟨o,e⟩;have I4:∀t',Inv (zN X pins sc fr Nc fp s H2 H3.objs.size) [] (xk caps σ) (upd H2 s.heap.objs.size (.lst [])) { s with heap:=h₁,toks:=t' }:=fun t'=>
  zde I2 B f2 ho hC (le_refl _) hDC old hD hns₁ hcap hlen
 have ok:=(I4 0).ok;obtain⟨hbg,hbt,hbe⟩:=hb pins fp s H2 H3.objs.size;obtain⟨W,⟨m0,w0⟩,turn⟩:=h s.heap.objs.size (I2.hok.fresh (le_refl _));have stat:∀{H':Hp},(∀b∈fp,H' b=none)->∀b∈fp,vK (zN X pins sc fr Nc fp s H2 H3.objs.size) [] H' b:=fun hn b hb'=>
  ⟨hn b hb',(ok.exf b hb').1,ok.exfs b hb',.inl hb',(ok.exf b hb').2,fun p hp=>(f2 b hb').2.2.2.2.2 p (by simpa using hp)⟩
 have hfp0:∀b∈fp,upd H2 s.heap.objs.size (.lst []) b=none:=fun b hb'=>by
  obtain⟨o,e⟩:=ho b hb';rw[zh (ne_of_lt (Heap.lt_size e))];exact(f2 b hb').1
 have loop:∀s₃:Shared,s₃={ s with heap:=h₁,toks:=s.toks+([]:List (Str×Value)).length }->
   codeAny (model X.prog X.w) X.A (.compLoop (.ListComp elt [⟨tg,iter,ifs,0⟩] sc pos) 0 (.ref it) (.ref s.heap.objs.size) (compEnvC sc (clB X.env fr) H3.objs.size X.env)) (RR (.ref s.heap.objs.size) H3.objs.size) s₃:=by
  rintro s₃ rfl;refine za3 (fun n s'=>∃i σ' H' ys,Inv (zN X pins sc fr Nc fp s H2 H3.objs.size) [] σ' H' s'/\tn i s'.heap/\(∀b∈fp,H' b=none)/\W i n ys H'/\
   (∀(k:Nat) (v:V),(xk caps σ)[k]?=some (some v)->σ'[k]?=some (some v))) ?_ m0
   ⟨0,_,_,[],I4 _,T.keep _ _ _ st2 (fun b _ o e=>old b o e),hfp0,w0,fun _ _ e=>e⟩
  rintro n s3 ⟨i,σ3,H4,ys,I3,st3,fr3,w3,wk3⟩;have I3':Inv (zN X pins sc fr Nc fp s H2 H3.objs.size) [] (xk caps σ) H4 s3:=I3.weak (by rw[I3.len];exact(I4 0).len) wk3
  rcases turn i n ys H4 w3 with ⟨stop,qn⟩|⟨gg,step⟩
  ·refine thn (T.done (zN X pins sc fr Nc fp s H2 H3.objs.size) rfl rfl rfl hc i [] s3 _ H4 (fun _ _=>False) I3' (stat fr3) st3 stop) fun r s4 ⟨hr,I4'⟩=>?_
   subst hr;exact fin _ _ _ _ _ I4' qn
  ·refine thn (T.item (zN X pins sc fr Nc fp s H2 H3.objs.size) rfl rfl rfl hc i [] s3 _ H4 (fun _ _=>False) I3' (stat fr3) st3 gg) fun r s4 ⟨u,hr,h4⟩=>?_
   subst hr;refine thn h4 fun _ s5 ⟨x,H5,I5,r5,y5,st5,fr5⟩=>?_;have I5':=I5.pinned (stat fr5) (T.obj _ _ st5);refine thn (hbg _ s5 _ H5 x u _ I5' r5 (go _ _ _ _ (step x H5 y5))) fun _ s6 ⟨σ6,H6,I6,q6,l6,k6⟩=>?_;have wk6:∀(k:Nat) (v:V),(xk caps σ)[k]?=some (some v)->σ6[k]?=some (some v):=fun k v e=>by
    rw[k6 k fun hk=>?_]
    ·exact e
    ·have h1:=List.all_eq_true.mp how k hk
     have h2:caps[k]?=some none:=by simpa using h1
     unfold xk at e;rw[getElem?_map,h2] at e;cases e
   refine thn (hbt _ s6 σ6 H6 _ I6 q6) fun ok s7 ⟨H7,I7,q7⟩=>?_;have again:∀{H8:Hp}{s8:Shared}{ys':List V},Inv (zN X pins sc fr Nc fp s H2 H3.objs.size) ([]++uV fp s5.heap) σ6 H8 s8->(∃m',m'<n/\W (i+1) m' ys' H8)->
     ∃m,m<n/\∃i σ' H' ys,Inv (zN X pins sc fr Nc fp s H2 H3.objs.size) [] σ' H' s8/\tn i s8.heap/\(∀b∈fp,H' b=none)/\W i m ys H'/\(∀(k:Nat) (v:V),(xk caps σ)[k]?=some (some v)->σ'[k]?=some (some v)):=fun {H8 s8 ys'} I8 ⟨m',hm,w8⟩=>by
    refine⟨m',hm,i+1,σ6,H8,ys',I8.unpinned,T.keep _ _ _ st5 fun b hb' o e=>(I8.pin (b,o) (mem_append_right _ (mem_append_right _ (xQ hb' e)))).1,fun b hb'=>?_,w8,wk6⟩;obtain⟨o,e,d⟩:=T.obj _ _ st5 b hb';exact(I8.pin (b,o) (mem_append_right _ (mem_append_right _ (xQ hb' e)))).2.1
   cases ok with
   | false=>
    rw[if_neg Bool.false_ne_true];exact again I7 (q7.2 rfl)
   | true=>
    rw[if_pos rfl];refine thn (hbe _ s7 σ6 H7 _ I7 (q7.1 rfl)) fun uv s8 ⟨v,H8,I8,r8,hD8,hz,q8⟩=>?_;refine thn (zQ (X:=zN X pins sc fr Nc fp s H2 H3.objs.size) _ s8 σ6 H8 (.ref s.heap.objs.size) [v] _ [uv] (fun _ H'=>H'=upd H8 s.heap.objs.size (.lst (ys++[v]))) I8 rfl (.cons r8 .nil) ⟨_,ys,v,rfl,rfl,hD8,hz,rfl⟩) fun _ s9 ⟨_,H9,I9,_,e9⟩=>?_;subst e9;exact again I9 q8
 exact codeAny_compStart_list (loop _ rfl) (T.self _ 0 _ _ _ (T.keep _ _ _ st2 (fun b _ o e=>old b o e)) (loop _ rfl))
theorem xc.loc{env:Env}(B:xc env sc fr):∀x∈sc.names,x.2=.local->sc.names.lookup x.1=some .local:=fun y hy e=>by
 have h3:=List.all_eq_true.mp B.names _ hy;simp only[Bool.and_eq_true,Bool.or_eq_true,bne_iff_ne,ne_eq,beq_iff_eq] at h3;rcases h3.2 with z|z
 ·exact absurd e z
 ·exact z
theorem xn{wi:TI}(fr Nc:List Str) (caps:List (Option Nat)) (hc:X.calm=true) (B:xc X.env sc fr) (hi:PI X tg iter wi) (go:zdl g ow) (how:(ow.all fun i=>caps[i]?==some none)=true)
  (hcap:ur X.N Nc caps X.env sc fr=true) (hlen:caps.length=Nc.length)
  (hb:∀(pins:List (Addr×Obj)) (fp:List Addr) (s:Shared) (H:Hp) (C:Addr),PG (zN X pins sc fr Nc fp s H C) tg g/\PIf (zN X pins sc fr Nc fp s H C) ifs tt/\PE (zN X pins sc fr Nc fp s H C) elt te)
  (hs:∀x,foldedSetIterable iter X.env x=pure x:=by intro _;rfl):PE X (.ListComp elt [⟨tg,iter,ifs,0⟩] sc pos) (tLC wi caps g tt te):=by
 refine⟨?_⟩;intro pins s σ H Q I h;rw[eval_ListComp];refine wpAny_comprehension_free (use:=none) rfl hs B.clos B.kind B.loc (thn (hi pins s σ H _ I h) fun v s1 h1=>thn h1 fun itv s2 h2=>?_);obtain⟨it,fp,tn,J,H2,e,I2,T,st2,f2,q⟩:=h2;subst e;refine zb5 (RR:=fun acc C=>compPost (model X.prog X.w) X.A X.xe none (EP X pins σ Q) acc C) hc B go how hcap hlen hb I2 T st2 f2 q ?_;intro D C σ' H' s' J' qq;obtain⟨m,hn,_⟩:=J'.loc;exact⟨m,hn,fun h' hs'=>⟨.ref D,H',zak I2 J' (ja I2 f2 J') hs',rfl,qq⟩⟩
theorem je{wi:TI}{i:Nat}{x:Str}{pos':Pos}(fr Nc:List Str) (caps:List (Option Nat)) (hN:X.N.Nodup) (hix:X.N[i]?=some x) (hx:Loc X.env.scope x) (hc:X.calm=true) (B:xc X.env sc fr) (hi:PI X tg iter wi) (go:zdl g ow) (how:(ow.all fun i=>caps[i]?==some none)=true)
  (hcap:ur X.N Nc caps X.env sc fr=true) (hlen:caps.length=Nc.length)
  (hb:∀(pins:List (Addr×Obj)) (fp:List Addr) (s:Shared) (H:Hp) (C:Addr),PG (zN X pins sc fr Nc fp s H C) tg g/\PIf (zN X pins sc fr Nc fp s H C) ifs tt/\PE (zN X pins sc fr Nc fp s H C) elt te)
  (hsw:swapsWith (.ListComp elt [⟨tg,iter,ifs,0⟩] sc pos) (some (.Name x pos')) pos2.line X.env=pure true:=by rfl)
  (hs:∀x,foldedSetIterable iter X.env x=pure x:=by intro _;rfl) (hf:X.fn x=true\/X.env.scope.names.lookup x=some .local:=by first|exact .inl rfl|exact .inr rfl|assumption) :
  PS X (.Assign [.Name x pos'] (.ListComp elt [⟨tg,iter,ifs,0⟩] sc pos) pos2) (ziY (tLC wi caps g tt te) (yr i)):=by
 refine⟨?_⟩;intro pins s σ H D0 I h;rw[exec_Assign_Name_used _ _ _ _ hsw];refine wpAny_bind (wpAny_standAt (wpAny_bind ?_));show wpAny _ X.A (do let _ <- comprehension (.ListComp elt [⟨tg,iter,ifs,0⟩] sc pos) sc X.env _ (newList []) false (eval iter X.env) (some (assign (.Name x pos') X.env))) _ _ s
 refine wpAny_bind (wpAny_mono (wpAny_comprehension_free (use:=some (assign (.Name x pos') X.env)) (Q:=fun _ s'=>SP X pins D0 .next s') rfl hs B.clos B.kind B.loc
  (thn (hi pins s σ H _ I h) fun v s1 h1=>thn h1 fun itv s2 h2=>?_)) (fun _ s' hq=>wpAny_pure (wpAny_pure hq)) fun _ _ e=>e)
 obtain⟨it,fp,tn,J,H2,e,I2,T,st2,f2,q⟩:=h2;subst e;refine zb5 (Q:=fun v H1=>yr i v σ H1 D0.nx) (RR:=fun acc C=>compPost (model X.prog X.w) X.A X.xe (some (assign (.Name x pos') X.env)) (fun _ s'=>SP X pins D0 .next s') acc C) hc B go how hcap hlen hb I2 T st2 f2 q ?_;intro D C σ' H' s' J' qq;have I':=ja I2 f2 J';obtain⟨m,hn,_⟩:=J'.loc;have hC:s2.heap.objs.size<=C:=J'.ok.above;show wpAny _ X.A (assign (.Name x pos') X.env (.ref D)) _ _ s';refine wpAny_assign_Name (qG (v:=.ref D) I' hN hix hx rfl (fun s'' I'' ⟨a,sb,ha⟩=>?_) hf);have haC:C≠a:=by
  rintro rfl;rcases ha with z|z
  ·have:=I2.lt
   rw[<- z] at this;exact absurd (lt_of_lt_of_le this hC) (lt_irrefl _)
  ·obtain⟨v,hv⟩:=I2.cell x C z
   exact absurd (lt_of_lt_of_le hv.lt hC) (lt_irrefl _)
 have hCH:H' C=none:=J'.free;refine⟨m,hn.sameBut sb haC,fun h' hs'=>⟨_,H',?_,qq⟩⟩;refine I''.turned (it:=C) (t':=s''.toks) (fun b o hb e=>(hs'.2 b hb).trans e) hCH ?_ (.inr (le_trans I2.sz hC)) (fun x c h z=>?_) fun p hp z=>?_
 ·intro z
  have:=I2.lt
  rw[<- z] at this;exact absurd (lt_of_lt_of_le this hC) (lt_irrefl _)
 ·obtain⟨v,hv⟩:=I2.cell x c h
  have:=hv.lt
  rw[z] at this;exact absurd (lt_of_lt_of_le this hC) (lt_irrefl _)
 ·have:=I2.pin_lt hp
  rw[z] at this;exact absurd (lt_of_lt_of_le this hC) (lt_irrefl _)
end
def Its(z:Str):It:=⟨fun i _=>i<z.cps.size,fun i H x H'=>H'=H/\∃c,z.cps[i]?=some c/\x=.str ⟨#[c]⟩,fun i _=>z.cps.size<=i⟩
theorem ze2{P:Program}{w:World}{K:Frag}{tg:Expr}(it:Addr) (z:Str) (t:Tok):za8 P w K tg (Its z) [it] it (fun i h=>h.IsStrIter it (strIterType z) z t i) where
 mem:=by simp
 obj:=fun i h st b hb=>by
  have e:b=it:=by simpa using hb
  subst e;obtain⟨o,e,_,d⟩:=st;exact⟨o,e,fun v q=>by rw[d] at q;cases q⟩
 keep:=fun i h h' st k=>by
  obtain⟨o,e,r⟩:=st;exact⟨o,k it (by simp) o e,r⟩
 item:=by
  intro X hP hw hK hc i pins s σ H E I hf st hg;subst hP hw hK;obtain⟨f0,f1,f2,f3,f4,f5⟩:=hf it (by simp)
  have hi:i<z.cps.size:=hg;have hx:z.cps[i]?=some z.cps[i]:=by simp [hi]
  have fin:∀h',h'.IsStrIter it (strIterType z) z t (i+1)->Heap.SameBut it s.heap h'->
    ∃u,some (Value.str ⟨#[z.cps[i]]⟩ s.toks)=some u/\wpAny (model X.prog X.w) X.A (letOwnedTupleGo tg (.ref it) u) (fun _ s2=>∃x H',Inv X pins σ H' s2/\zL x u/\(Its z).yld i H x H'/\s2.heap.IsStrIter it (strIterType z) z t (i+1)/\∀b∈[it],H' b=none) E { s with heap:=h',toks:=s.toks+1 }:=fun h' hit hs=>by
   have I1:Inv X pins σ H { s with heap:=h',toks:=s.toks+1 }:=I.turned (fun b o hb e=>(hs.2 b hb).trans e) f0 f1 f3 f4 f5
   obtain⟨o,e1,e2,e3⟩:=id hit;refine⟨_,rfl,zdP (s:={ s with heap:=h',toks:=s.toks+1 }) e1 e2 e3 ?_ ⟨.str ⟨#[z.cps[i]]⟩,H,I1,⟨_,rfl⟩,⟨rfl,_,hx,rfl⟩,hit,fun b hb=>(hf b hb).1⟩⟩
   unfold strIterType;split <;> decide
  cases ha:z.cps.all (·<128)
  ·have e:strIterType z="str_iterator":=by simp [strIterType,ha]
   rw[e] at st;exact wpAny_pyNext_wide_item st hx fun h' a b=>fin h' (e.symm ▸ a) b
  ·have e:strIterType z="str_ascii_iterator":=by simp [strIterType,ha]
   rw[e] at st;exact wpAny_pyNext_ascii_item st hx fun h' a b=>fin h' (e.symm ▸ a) b
 done:=by
  intro X hP hw hK hc i pins s σ H E I hf st hg;subst hP hw hK;obtain⟨f0,f1,f2,f3,f4,f5⟩:=hf it (by simp)
  have hi:z.cps.size<=i:=hg;have hx:z.cps[i]?=none:=by simp [hi]
  have fin:∀h',Heap.ExtBut it s.heap h'->(none:Option Value)=none/\Inv X pins σ H { s with heap:=h' }:=fun h' eb=>⟨rfl,I.turned (t':=s.toks) (fun b o hb e=>eb b o hb e) f0 f1 f3 f4 f5⟩
  cases ha:z.cps.all (·<128)
  ·have e:strIterType z="str_iterator":=by simp [strIterType,ha]
   rw[e] at st;exact wpAny_pyNext_wide_end (I.ok.hd hc) st hx fin
  ·have e:strIterType z="str_ascii_iterator":=by simp [strIterType,ha]
   rw[e] at st;exact wpAny_pyNext_ascii_end (I.ok.hd hc) st hx fin
 self:=fun A i s Q E st h=>by
  cases ha:z.cps.all (·<128)
  ·have e:strIterType z="str_iterator":=by simp [strIterType,ha]
   rw[e] at st;exact wpAny_pyIter_striter_wide st h
  ·have e:strIterType z="str_ascii_iterator":=by simp [strIterType,ha]
   rw[e] at st;exact wpAny_pyIter_striter_ascii st h
section
variable {X:Cx}{tg:Expr}
def zlT(tl:TE):TI:=fun σ H R=>tl σ H fun x H1=>∃z,x=.str z/\R (Its z) H1
theorem zjq{l:Expr}{tl:TE}(hl:PE X l tl):PI X tg l (zlT tl):=by
 refine⟨?_⟩;intro pins s σ H R I h;refine thn (hl pins s σ H _ I h) fun v s1 ⟨x,H1,I1,r1,q1⟩=>?_;obtain⟨z,e,q⟩:=q1;subst e;obtain⟨t,rfl⟩:=r1;refine wpAny_pyIter_strU ?_;refine⟨s1.heap.objs.size,[s1.heap.objs.size],_,_,H1,rfl,I1.kept (t':=s1.toks) fun b o e=>Heap.get?_push_of_some _ e,ze2 _ z t,⟨_,Heap.get?_push_size _ rfl,rfl,rfl⟩,fun b hb=>?_,q⟩;have e:b=s1.heap.objs.size:=by simpa using hb
 subst e;exact I1.fpOk (le_refl _) (I1.hok.fresh (le_refl _))
def zlw:V->Option Int->Option Int->Hp->VK->Prop:=fun x lo hi H Q=>∃z,x=.str z/\z.length<=sizeLine/\Q (.str (Txt.slice z lo hi)) H
theorem zi0:SlR X zlw:=by
 intro pins s σ H x v vl vu lo hi sl Q I rx hs pl pu h;obtain⟨z,rfl,hz,q⟩:=h;obtain⟨t,rfl⟩:=rx;refine⟨"str",_,F.slot_str_getitem.lookup,typeIs_str _ _ _,?_⟩;have fin:∀t' k,EP X pins σ Q (.str (Txt.slice z lo hi) t') { s with toks:=k }:=fun t' k=>⟨.str (Txt.slice z lo hi),H,I.tok k,⟨t',rfl⟩,q⟩
 cases pl with
 | none=>
  cases pu with
  | none=>exact wpAny_getItem_str_slice (l:=none) (u:=none) (st:=none) hs rfl (post_val_or_str ⟨le_trans (Txt.slice_le z _ _) hz,fin⟩)
  | int j tj=>exact wpAny_getItem_str_slice (l:=none) (u:=some (j,tj)) (st:=none) hs rfl (post_val_or_str ⟨le_trans (Txt.slice_le z _ _) hz,fin⟩)
 | int i ti=>
  cases pu with
  | none=>exact wpAny_getItem_str_slice (l:=some (i,ti)) (u:=none) (st:=none) hs rfl (post_val_or_str ⟨le_trans (Txt.slice_le z _ _) hz,fin⟩)
  | int j tj=>exact wpAny_getItem_str_slice (l:=some (i,ti)) (u:=some (j,tj)) (st:=none) hs rfl (post_val_or_str ⟨le_trans (Txt.slice_le z _ _) hz,fin⟩)
theorem zeT(hc:X.calm=true):xv X (.builtin "all") (fun xs H Q=>∃(p:Addr) (bs:List Bool),xs=[.ref p]/\SqL X.K H p (bs.map V.bl)/\Q (.bl (bs.all id)) H):=by
 intro pins s σ H xs us Q I r h;obtain⟨p,bs,rfl,hS,q⟩:=h;obtain⟨u,rfl,ru⟩:=vt r;cases ru;obtain⟨its,rv,hp,hz⟩:=I.list hS;have hlen:its.length=bs.length:=by rw[<- rv.length,length_map]
 have hne:p≠s.heap.objs.size:=ne_of_lt (by obtain⟨_,e,_⟩:=hp.isList;exact Heap.lt_size e)
 refine call_all_walk (wpAny_pyIter_list hp.isList ?_);refine⟨s.heap.objs.size,_,_,_,_,_,fun i=>bs.getD i false,rfl,Walks.list (A:=X.A.in1) (I.ok.hd hc) s.heap.objs.size p hne its.toArray,⟨⟨_,Heap.get?_push_size _ rfl,rfl,rfl⟩,hp.isList.push _⟩,?_,fun h' tk k=>?_⟩
 ·intro i v s' Q' E' hP hQ
  have hv:its[i]?=some v:=by simpa using hP
  have hi:i<bs.length:=by rw[<- hlen];exact(List.getElem?_eq_some_iff.mp hv).1
  obtain⟨u',e1,e2⟩:=rv.get (i:=i) (x:=V.bl bs[i]) (by rw[getElem?_map,getElem?_eq_getElem hi];rfl)
  rw[hv] at e1;cases e1;cases e2;refine wpAny_truthy_bool ?_
  have:bs.getD i false=bs[i]:=by rw[getD_eq_getElem?_getD,getElem?_eq_getElem hi];rfl
  rw[<- this];exact hQ
 ·have e:((List.range its.toArray.size).all fun i=>bs.getD i false)=bs.all id:=by
   rw[size_toArray,hlen,Bool.eq_iff_iff,all_eq_true,all_eq_true];constructor
   ·intro hh b hb
    obtain⟨i,hi,rfl⟩:=List.getElem_of_mem hb
    have:=hh i (List.mem_range.mpr hi)
    rw[getD_eq_getElem?_getD,getElem?_eq_getElem hi] at this;exact this
   ·intro hh i hi
    have hi':=List.mem_range.mp hi;rw[getD_eq_getElem?_getD,getElem?_eq_getElem hi'];exact hh _ (getElem_mem hi')
  rw[e];exact⟨.bl (bs.all id),H,I.kept (h':=h') (t':=tk) (fun b o q=>k b o (fun hm=>by
   have e:b=s.heap.objs.size:=by simpa using hm
   exact absurd (Heap.lt_size q) (by rw[e];exact lt_irrefl _)) (Heap.get?_push_of_some _ q)),rfl,q⟩
theorem xB:xv X (.builtin "isinstance") (fun xs H Q=>∃x T t b,xs=[x,.ty T]/\vZ X.K H x t/\kitOne X.K t (.type T)=some b/\Q (.bl b) H):=by
 intro pins s σ H xs us Q I r h;obtain⟨x,T,t,b,rfl,ty,e,q⟩:=h;obtain⟨u,w',rfl,ru,rw'⟩:=qC r;cases rw';exact zeD I ru ty e fun tk=>⟨.bl b,H,I.tok tk,rfl,q⟩
end
def uI:Expr->Bool
 | .Starred ..=>true
 | _=>false
theorem xz{e:Expr}{es:List Expr}{env:Env}(h:uI e=false):starEach (e::es) env=(false,eval e env)::starEach es env:=by
 cases e <;> first|rfl|cases h
theorem wG{env:Env}{pos:Pos}:∀{es:List Expr},es.any uI=false->(backTo pos (starEach es env)).any (·.1)=false
 | [],_=>rfl
 | e::es,h=>by
  rw[any_cons,Bool.or_eq_false_iff] at h;rw[xz h.1];show(false||(backTo pos (starEach es env)).any (·.1))=false
  rw[wG h.2];rfl
section
variable {X:Cx}{CX:CXT}{k:Nat}{f C:Addr}{fd:FuncData}{ps:List Str}{sp:Sp}{dvs:List V}{ds:List Value}{E:XK}{x m:Str}{p pos apos:Pos}{e o:Expr}{es:List Expr}{te ta:TE}{t:TA}{id T:String}{r:List V->Hp->VK->Prop}
theorem ac(ha:PE X e te) (hr:PA X es t) (h:uI e=false:=by rfl):PA X (e::es) (zio te t):=zhy ha hr (xz h)
theorem cB(hc:xv X (.builtin id) r) (hm:X.mg x=none) (hv:bootBuiltins x=some (.builtin id)) (ha:PA X (e::es) t) (hg:Gl X x:=by rfl) (hn:x≠"__name__":=by decide) (hdb:(x==("__debug__" : Str))=false:=by decide)
  (h1:uI e=false:=by rfl) (h2:es.any uI=false:=by rfl):PE X (.Call (.Name x p) (e::es) [] pos) (tCB r t):=zfS hc hg hm hv ha hn hdb (xz h1) (wG h2)
theorem cTy(hc:xv X (.type T) r) (hm:X.mg x=none) (hv:bootBuiltins x=some (.type T)) (ha:PA X (e::es) t) (hg:Gl X x:=by rfl) (hn:x≠"__name__":=by decide) (hdb:(x==("__debug__" : Str))=false:=by decide)
  (h1:uI e=false:=by rfl) (h2:es.any uI=false:=by rfl):PE X (.Call (.Name x p) (e::es) [] pos) (tCB r t):=zej hc hg hm hv ha hn hdb (xz h1) (wG h2)
structure zG(P:Program) (w:World) (K:Frag) (mg:Str->Option Value) (base:Heap) (k:Nat) (x:Str) (f:Addr) (fd:FuncData) (ps:List Str) (sp:Sp):Prop where
 ok:zD P w K mg base CX0 k f fd ps sp
 mg:mg x=some (.ref f)
 kp:keepIn K (.ref f)=true
 bd:zM K fd ps []
theorem cF(c:zG X.prog X.w X.K X.mg X.base k x f fd ps sp) (hr:yo k X.A) (ha:PA X (e::es) t) (hg:Gl X x:=by rfl) (hdb:(x==("__debug__" : Str))=false:=by decide)
  (h1:uI e=false:=by rfl) (h2:es.any uI=false:=by rfl):PE X (.Call (.Name x p) (e::es) [] pos) (ze6 sp [] E0 t):=
 zhw c.ok hr hg c.mg c.kp c.bd .nil zW ha hdb (xz h1) (wG h2)
end
end L2
namespace L2
open PySem PyProof.Rows
theorem jk(K:Frag):kitOne K (.type "NoneType") (.type "str")=some false:=by kernel_rfl
theorem zc1(K:Frag):kitOne K (.type "int") (.type "str")=some false:=by kernel_rfl
theorem zbR(K:Frag):kitOne K (.type "int") (.type "bool")=some false:=by kernel_rfl
theorem zc2(K:Frag):kitOne K (.type "int") (.type "int")=some true:=by kernel_rfl
theorem zbT(K:Frag):kitOne K (.type "bool") (.type "str")=some false:=by kernel_rfl
theorem zaW(K:Frag):kitOne K (.type "bool") (.type "bool")=some true:=by kernel_rfl
theorem ul(K:Frag):kitOne K (.type "str") (.type "str")=some true:=by kernel_rfl
theorem zbQ(K:Frag):kitOne K (.type "list") (.type "str")=some false:=by kernel_rfl
theorem zaV(K:Frag):kitOne K (.type "list") (.type "list")=some true:=by kernel_rfl
theorem zaU(K:Frag):kitOne K (.type "tuple") (.type "str")=some false:=by kernel_rfl
theorem vH(K:Frag):kitOne K (.type "tuple") (.type "tuple")=some true:=by kernel_rfl
theorem zbS(K:Frag):kitOne K (.type "dict") (.type "str")=some false:=by kernel_rfl
end L2
namespace L2
open PySem PySem.Spec PyProof.Rows
inductive Dt where
 | non|bl (b:Bool)|int (i:Int)|str (z:Str)|tup (ds:List Dt)|lst (ds:List Dt)
def jj:V->Dt->Prop
 | .non,.non=>True
 | .bl a,.bl b=>a=b
 | .int a,.int b=>a=b
 | .str a,.str b=>a=b
 | _,_=>False
def zA(K:Frag) (ok:Addr->Prop) (H:Hp):Nat->V->Dt->Prop
 | 0,x,d=>jj x d
 | n+1,x,d=>jj x d\/(∃a xs ds,x=.ref a/\d=.tup ds/\SqT K H a xs/\Paired (zA K ok H n) xs ds)\/(∃a xs ds,x=.ref a/\d=.lst ds/\ok a/\H a=some (.lst xs)/\Paired (zA K ok H n) xs ds)
section
variable {K:Frag}{ok ok':Addr->Prop}{H H':Hp}
theorem zA.flat{n:Nat}{x:V}{d:Dt}(h:jj x d):zA K ok H n x d:=by
 cases n with
 | zero=>exact h
 | succ n=>exact .inl h
theorem zA.int{n:Nat}{i:Int}:zA K ok H n (.int i) (.int i):=.flat rfl
theorem zA.str{n:Nat}{z:Str}:zA K ok H n (.str z) (.str z):=.flat rfl
theorem zA.bl{n:Nat}{b:Bool}:zA K ok H n (.bl b) (.bl b):=.flat rfl
theorem zA.tup{n:Nat}{a:Addr}{xs:List V}{ds:List Dt}(h:SqT K H a xs) (r:Paired (zA K ok H n) xs ds):zA K ok H (n+1) (.ref a) (.tup ds):=.inr (.inl ⟨a,xs,ds,rfl,rfl,h,r⟩)
theorem zA.lst{n:Nat}{a:Addr}{xs:List V}{ds:List Dt}(o:ok a) (h:H a=some (.lst xs)) (r:Paired (zA K ok H n) xs ds):zA K ok H (n+1) (.ref a) (.lst ds):=.inr (.inr ⟨a,xs,ds,rfl,rfl,o,h,r⟩)
theorem zA.frame(hT:∀a xs,SqT K H a xs->SqT K H' a xs) (hL:∀a xs,ok a->H a=some (.lst xs)->ok' a/\H' a=some (.lst xs)):∀{n:Nat}{x:V}{d:Dt},zA K ok H n x d->zA K ok' H' n x d
 | 0,_,_,h=>h
 | n+1,x,d,h=>by
  rcases h with h|⟨a,xs,ds,e1,e2,h,r⟩|⟨a,xs,ds,e1,e2,o,h,r⟩
  ·exact .inl h
  ·exact .inr (.inl ⟨a,xs,ds,e1,e2,hT a xs h,Paired.imp' (fun _ _ z=>zA.frame hT hL z) r⟩)
  ·exact .inr (.inr ⟨a,xs,ds,e1,e2,(hL a xs o h).1,(hL a xs o h).2,Paired.imp' (fun _ _ z=>zA.frame hT hL z) r⟩)
theorem zo.sqT{a:Addr}{xs:List V}(e:zo H H') (h:SqT K H a xs):SqT K H' a xs:=by
 rcases h with (h|⟨o,h⟩)|h
 ·exact .inl (.inl (e _ _ h))
 ·exact .inl (.inr ⟨o,e _ _ h⟩)
 ·exact .inr h
theorem zA.same{n:Nat}{x:V}{d:Dt}(e:zo H H') (h:zA K ok H n x d):zA K ok H' n x d:=h.frame (fun _ _ z=>e.sqT z) fun _ _ o z=>⟨o,e _ _ z⟩
theorem Paired.get{α β : Type}{F : α->β->Prop}:∀{l₁:List α}{l₂:List β}{i:Nat}{a : α},Paired F l₁ l₂->l₁[i]?=some a->∃b,l₂[i]?=some b/\F a b
 | _,_,_,_,.nil,e=>by simp at e
 | _,_,0,_,.cons r _,e=>by simp at e;subst e;exact⟨_,rfl,r⟩
 | _,_,i+1,a,.cons _ t,e=>by
  obtain⟨b,h1,h2⟩:=Paired.get (i:=i) (a:=a) t (by simpa using e)
  exact⟨b,by simpa using h1,h2⟩
end
section
variable {X:Cx}{pins:List (Addr×Obj)}{σ : St}{H:Hp}{s:Shared}{ok ok':Addr->Prop}
theorem zag{A:Around}{x y:V}{d:Dt}{u v:Value}(hx:jj x d) (hy:jj y d) (ru:zL x u) (rv:zL y v):SeqAt.EqAt A s u v true:=by
 cases d with
 | non=>
  cases x <;> try exact hx.elim
  cases y <;> try exact hy.elim
  cases ru;cases rv;exact SeqAt.EqAt.same _
 | bl b=>
  cases x <;> try exact hx.elim
  cases y <;> try exact hy.elim
  rename_i a c;obtain rfl:a=b:=hx;obtain rfl:c=a:=hy;cases ru;cases rv;exact SeqAt.EqAt.same _
 | int b=>
  cases x <;> try exact hx.elim
  cases y <;> try exact hy.elim
  rename_i a c;obtain rfl:a=b:=hx;obtain rfl:c=a:=hy;obtain⟨t,rfl⟩:=ru;obtain⟨t',rfl⟩:=rv
  have:=SeqAt.EqAt.int_int (A:=A) (s:=s) c t c t'
  simpa using this
 | str b=>
  cases x <;> try exact hx.elim
  cases y <;> try exact hy.elim
  rename_i a c;obtain rfl:a=b:=hx;obtain rfl:c=a:=hy;obtain⟨t,rfl⟩:=ru;obtain⟨t',rfl⟩:=rv
  have:=SeqAt.EqAt.str_str (A:=A) (s:=s) c t c t'
  simpa using this
 | tup ds=>cases x <;> exact hx.elim
 | lst ds=>cases x <;> exact hx.elim
theorem qe{a:Addr}{d:Dt}(h:jj (.ref a) d):False:=by cases d <;> exact h
theorem uS(n:Nat):((List.range n).all fun _=>true)=true:=by rw[all_eq_true];intro _ _;rfl
theorem vW(I:Inv X pins σ H s):∀(n:Nat) {A:Around}{x y:V}{d:Dt}{u v:Value},zA X.K ok H n x d->zA X.K ok' H n y d->zL x u->zL y v->A.units+n<cLine->SeqAt.EqAt A s u v true
 | 0,A,x,y,d,u,v,hx,hy,ru,rv,_=>zag hx hy ru rv
 | n+1,A,x,y,d,u,v,hx,hy,ru,rv,hu=>by
  have hin:A.in1.units+n<cLine:=by show A.units+1+n<cLine;omega
  rcases hx with hx|⟨a,xs,ds,rfl,rfl,hx,r⟩|⟨a,xs,ds,rfl,rfl,_,hx,r⟩
  ·rcases hy with hy|⟨b,ys,es,rfl,rfl,hy,q⟩|⟨b,ys,es,rfl,rfl,_,hy,q⟩
   ·exact zag hx hy ru rv
   ·cases x <;> exact hx.elim
   ·cases x <;> exact hx.elim
  ·rcases hy with hy|⟨b,ys,es,rfl,e2,hy,q⟩|⟨b,ys,es,rfl,e2,_,hy,q⟩
   ·cases y <;> exact hy.elim
   ·cases e2
    cases ru;cases rv;by_cases hab:a=b
    ·subst hab;exact SeqAt.EqAt.same _
    ·obtain⟨ia,va,pa,_⟩:=I.tuple hx
     obtain⟨ib,vb,pb,_⟩:=I.tuple hy;have la:ia.length=ds.length:=by rw[<- va.length,r.length]
     have lb:ib.length=ds.length:=by rw[<- vb.length,q.length]
     have:=SeqAt.RcAt.tuples (A:=A) (s:=s) (e:=fun _=>true) (show s.heap.IsTuple a ia.toArray from pa) (show s.heap.IsTuple b ib.toArray from pb) (by omega) (fun j h1 h2=>by
      have j1:j<ia.length:=by simpa using h1
      have j2:j<ib.length:=by simpa using h2
      have hxl:j<xs.length:=by rw[va.length];exact j1
      have hyl:j<ys.length:=by rw[vb.length];exact j2
      obtain⟨u',e1,e2⟩:=va.get (i:=j) (getElem?_eq_getElem hxl);obtain⟨v',e3,e4⟩:=vb.get (i:=j) (getElem?_eq_getElem hyl);obtain⟨d1,f1,f2⟩:=Paired.get r (getElem?_eq_getElem hxl);obtain⟨d2,f3,f4⟩:=Paired.get q (getElem?_eq_getElem hyl);rw[f1] at f3;cases f3;rw[getElem?_eq_getElem j1] at e1;rw[getElem?_eq_getElem j2] at e3;cases e1;cases e3;simpa using vW I n f2 f4 e2 e4 hin)
     rw[uS] at this;have z:(ia.toArray.size==ib.toArray.size)=true:=by simp [la,lb]
     rw[z] at this;exact SeqAt.EqAt.of_refs hab this
   ·cases e2
  ·rcases hy with hy|⟨b,ys,es,rfl,e2,hy,q⟩|⟨b,ys,es,rfl,e2,_,hy,q⟩
   ·cases y <;> exact hy.elim
   ·cases e2
   ·cases e2
    cases ru;cases rv;by_cases hab:a=b
    ·subst hab;exact SeqAt.EqAt.same _
    ·obtain⟨ia,va,pa,_⟩:=I.list (SqL.of hx)
     obtain⟨ib,vb,pb,_⟩:=I.list (SqL.of hy);have la:ia.length=ds.length:=by rw[<- va.length,r.length]
     have lb:ib.length=ds.length:=by rw[<- vb.length,q.length]
     have:=SeqAt.RcAt.lists (A:=A) (s:=s) (e:=fun _=>true) pa.isList pb.isList (by simp [la,lb]) (by omega) (fun j h1 h2=>by
      have j1:j<ia.length:=by simpa using h1
      have j2:j<ib.length:=by simpa using h2
      have hxl:j<xs.length:=by rw[va.length];exact j1
      have hyl:j<ys.length:=by rw[vb.length];exact j2
      obtain⟨u',e1,e2⟩:=va.get (i:=j) (getElem?_eq_getElem hxl);obtain⟨v',e3,e4⟩:=vb.get (i:=j) (getElem?_eq_getElem hyl);obtain⟨d1,f1,f2⟩:=Paired.get r (getElem?_eq_getElem hxl);obtain⟨d2,f3,f4⟩:=Paired.get q (getElem?_eq_getElem hyl);rw[f1] at f3;cases f3;rw[getElem?_eq_getElem j1] at e1;rw[getElem?_eq_getElem j2] at e3;cases e1;cases e3;simpa using vW I n f2 f4 e2 e4 hin)
     rw[uS] at this;exact SeqAt.EqAt.of_refs hab this
theorem zdG(I:Inv X pins σ H s) {n:Nat}{A:Around}{a b:Addr}{d:Dt}(hx:zA X.K ok H (n+1) (.ref a) d) (hy:zA X.K ok' H (n+1) (.ref b) d) (hu:A.units+n+1<cLine) :
  SeqAt.RcAt A s (.ref a) (.ref b) true/\SeqAt.RcNeAt A s (.ref a) (.ref b) false:=by
 have hin:A.in1.units+n<cLine:=by show A.units+1+n<cLine;omega
 rcases hx with hx|⟨a,xs,ds,e0,rfl,hx,r⟩|⟨a,xs,ds,e0,rfl,_,hx,r⟩
 ·exact(qe hx).elim
 ·cases e0
  rcases hy with hy|⟨b,ys,es,e1,e2,hy,q⟩|⟨b,ys,es,e1,e2,_,hy,q⟩
  ·exact(qe hy).elim
  ·cases e1;cases e2
   obtain⟨ia,va,pa,_⟩:=I.tuple hx;obtain⟨ib,vb,pb,_⟩:=I.tuple hy;have la:ia.length=ds.length:=by rw[<- va.length,r.length]
   have lb:ib.length=ds.length:=by rw[<- vb.length,q.length]
   have el:∀j (h1:j<ia.toArray.size) (h2:j<ib.toArray.size),SeqAt.EqAt A.in1 s ia.toArray[j] ib.toArray[j] true:=fun j h1 h2=>by
    have j1:j<ia.length:=by simpa using h1
    have j2:j<ib.length:=by simpa using h2
    have hxl:j<xs.length:=by rw[va.length];exact j1
    have hyl:j<ys.length:=by rw[vb.length];exact j2
    obtain⟨u',e1,e2⟩:=va.get (i:=j) (getElem?_eq_getElem hxl);obtain⟨v',e3,e4⟩:=vb.get (i:=j) (getElem?_eq_getElem hyl);obtain⟨d1,f1,f2⟩:=Paired.get r (getElem?_eq_getElem hxl);obtain⟨d2,f3,f4⟩:=Paired.get q (getElem?_eq_getElem hyl);rw[f1] at f3;cases f3;rw[getElem?_eq_getElem j1] at e1;rw[getElem?_eq_getElem j2] at e3;cases e1;cases e3;simpa using vW I n f2 f4 e2 e4 hin
   have z:(ia.toArray.size==ib.toArray.size)=true:=by simp [la,lb]
   have t1:=SeqAt.RcAt.tuples (A:=A) (s:=s) (e:=fun _=>true) (show s.heap.IsTuple a ia.toArray from pa) (show s.heap.IsTuple b ib.toArray from pb) (by omega) el
   have t2:=SeqAt.RcNeAt.tuples (A:=A) (s:=s) (e:=fun _=>true) (show s.heap.IsTuple a ia.toArray from pa) (show s.heap.IsTuple b ib.toArray from pb) (by omega) el
   rw[uS,z] at t1 t2;exact⟨t1,t2⟩
  ·cases e1;cases e2
 ·cases e0
  rcases hy with hy|⟨b,ys,es,e1,e2,hy,q⟩|⟨b,ys,es,e1,e2,_,hy,q⟩
  ·exact(qe hy).elim
  ·cases e1;cases e2
  ·cases e1;cases e2
   obtain⟨ia,va,pa,_⟩:=I.list (SqL.of hx);obtain⟨ib,vb,pb,_⟩:=I.list (SqL.of hy);have la:ia.length=ds.length:=by rw[<- va.length,r.length]
   have lb:ib.length=ds.length:=by rw[<- vb.length,q.length]
   have el:∀j (h1:j<ia.toArray.size) (h2:j<ib.toArray.size),SeqAt.EqAt A.in1 s ia.toArray[j] ib.toArray[j] true:=fun j h1 h2=>by
    have j1:j<ia.length:=by simpa using h1
    have j2:j<ib.length:=by simpa using h2
    have hxl:j<xs.length:=by rw[va.length];exact j1
    have hyl:j<ys.length:=by rw[vb.length];exact j2
    obtain⟨u',e1,e2⟩:=va.get (i:=j) (getElem?_eq_getElem hxl);obtain⟨v',e3,e4⟩:=vb.get (i:=j) (getElem?_eq_getElem hyl);obtain⟨d1,f1,f2⟩:=Paired.get r (getElem?_eq_getElem hxl);obtain⟨d2,f3,f4⟩:=Paired.get q (getElem?_eq_getElem hyl);rw[f1] at f3;cases f3;rw[getElem?_eq_getElem j1] at e1;rw[getElem?_eq_getElem j2] at e3;cases e1;cases e3;simpa using vW I n f2 f4 e2 e4 hin
   have t1:=SeqAt.RcAt.lists (A:=A) (s:=s) (e:=fun _=>true) pa.isList pb.isList (by simp [la,lb]) (by omega) el
   have t2:=SeqAt.RcNeAt.lists (A:=A) (s:=s) (e:=fun _=>true) pa.isList pb.isList (by simp [la,lb]) (by omega) el
   rw[uS] at t1 t2;exact⟨t1,t2⟩
def ziB(K:Frag) (b:Bool):R2:=fun x y H Q=>∃(a c:Addr) (n:Nat) (d:Dt) (ok ok':Addr->Prop),x=.ref a/\y=.ref c/\n<=20/\zA K ok H (n+1) x d/\zA K ok' H (n+1) y d/\Q (.bl b) H
theorem zcM(hu:X.A.units+64<cLine):OpR X (compareOp .Eq) (ziB X.K true):=by
 intro pins s σ H x y v u Q I rx ry h;obtain⟨a,c,n,d,ok,ok',rfl,rfl,hn,hx,hy,q⟩:=h;cases rx;cases ry;exact(zdG (A:=X.A) I hx hy (by omega)).1 X.prog X.w X.xe _ ⟨.bl true,H,I,rfl,q⟩
theorem ud(hu:X.A.units+64<cLine):OpR X (compareOp .NotEq) (ziB X.K false):=by
 intro pins s σ H x y v u Q I rx ry h;obtain⟨a,c,n,d,ok,ok',rfl,rfl,hn,hx,hy,q⟩:=h;cases rx;cases ry;exact(zdG (A:=X.A) I hx hy (by omega)).2 X.prog X.w X.xe _ ⟨.bl false,H,I,rfl,q⟩
end
def Ite(K:Frag) (a:Addr):It:=
 ⟨fun i H=>∃xs x,SqL K H a xs/\xs[i]?=some x,fun i H x H'=>∃(p:Addr) (y:V),x=.ref p/\H p=none/\(∀xs,SqL K H a xs->xs[i]?=some y)/\H'=upd H p (.tup [.int i,y]),fun i H=>∃xs,SqL K H a xs/\xs.length<=i⟩
theorem zd6{P:Program}{w:World}{K:Frag}{elts:List Expr}{x1:Nat}{tpos:Pos}(a e it:Addr) (hne:e≠it) :
  za8 P w K (.Tuple elts x1 tpos) (Ite K a) [e,it] e (fun i h=>(∃old,IsEnum h e it (i:Int) old)/\h.IsListIter it a i) where
 mem:=by simp
 obj:=fun i h st b hb=>by
  rcases List.mem_cons.mp hb with rfl|hb
  ·obtain⟨⟨old,he⟩,_⟩:=st
   exact⟨_,he,fun v q=>by cases q⟩
  ·have e':b=it:=by simpa using hb
   subst e';obtain⟨_,o,ho,_,hd⟩:=st;exact⟨o,ho,fun v q=>by rw[hd] at q;cases q⟩
 keep:=fun i h h' st k=>by
  obtain⟨⟨old,he⟩,o,ho,r⟩:=st;exact⟨⟨old,k e (by simp) _ he⟩,o,k it (by simp) o ho,r⟩
 item:=by
  intro X hP hw hK hc i pins s σ H E I hf st hg;subst hP hw hK;obtain⟨f0,f1,f2,f3,f4,f5⟩:=hf e (by simp)
  obtain⟨g0,g1,g2,g3,g4,g5⟩:=hf it (by simp)
  obtain⟨⟨old,he⟩,hit⟩:=st;obtain⟨xs,x,hS,hx⟩:=hg;obtain⟨its,rv,hp,hz⟩:=I.list hS;obtain⟨u,hu,ru⟩:=rv.get hx;refine wpAny_pyNext_enum_item he hit hp.isList (x:=u) (by simpa using hu) hne fun h' he' hit' htup hsz hk=>?_
  have I0:Inv X pins σ H { s with heap:=h',toks:=s.toks+1 }:=by
   refine I.step (g':=s.gens) (d':=s.drawn) (ch:=[e,it]) (fun b hb=>?_) (fun b o _ _ hc' e1 _=>hk b o (fun z=>hc' (by simp [z])) (fun z=>hc' (by simp [z])) e1) (fun b o _ _ hc' e1 _=>⟨o.slots,hk b o (fun z=>hc' (by simp [z])) (fun z=>hc' (by simp [z])) e1⟩) (fun _ _ _ _ n=>n)
    (fun b o hc' e1=>⟨o,hk b o (fun z=>hc' (by simp [z])) (fun z=>hc' (by simp [z])) e1⟩) (fun _ _ e1=>e1) (fun _ _ _ e1=>e1) (fun b ps e1=>⟨#[],by rw[e1];simp⟩) (fun m hm=>?_) (fun b u' e1=>?_) I.bare
   ·rcases List.mem_cons.mp hb with rfl|hb
    ·exact⟨f3,f1,f4,f5⟩
    ·have e':b=it:=by simpa using hb
     subst e';exact⟨g3,g1,g4,g5⟩
   ·obtain⟨o,es,ep,ho,r⟩:=hm
    exact⟨o,es,ep,hk _ o (Ne.symm f1) (Ne.symm g1) ho,r⟩
   ·have nit:∀c v',H c=some v'->c≠e/\c≠it:=fun c v' q=>⟨fun z=>(by rw[z,f0] at q;cases q),fun z=>(by rw[z,g0] at q;cases q)⟩
    refine(I.hok b u' e1).stay (fun c v' hc' q=>?_) (fun _ q=>q) fun _ _ q=>q;rcases hc' with z|z
    ·subst z;exact hk c v' (nit c _ e1).1 (nit c _ e1).2 q
    ·exact hk c v' (nit c _ z).1 (nit c _ z).2 q
  have hfr:H s.heap.objs.size=none:=I.hok.fresh (le_refl _);have I1:Inv X pins σ (upd H s.heap.objs.size (.tup [.int i,x])) { s with heap:=h',toks:=s.toks+1 }:=by
   have hok:HOk X.prog X.w (upd H s.heap.objs.size (.tup [.int i,x])) h':=fun b o q=>by
    by_cases hb:b=s.heap.objs.size
    ·subst hb
     rw[za] at q;cases q;exact⟨by show 2<=sizeLine;decide,[.int i s.toks,u],.cons ⟨_,rfl⟩ (.cons ru .nil),⟨_,htup,rfl,_,rfl⟩⟩
    ·rw[zh hb] at q
     exact(I0.hok b o q).stay (fun _ _ _ z=>z) (fun c z=>by rw[zh (zd z hfr)];exact z) fun c xs' z=>by rw[zh (zd z hfr)];exact z
   refine I0.step (s:={ s with heap:=h',toks:=s.toks+1 }) (g':=s.gens) (d':=s.drawn) (h':=h') (t':=s.toks+1) (ch:=[s.heap.objs.size]) (fun b hb=>?_) (fun b o _ _ _ e1 _=>e1) (fun b o _ _ _ e1 _=>⟨o.slots,e1⟩) (fun b o hb e1 n=>by rw[zh (fun z=>hb (by simp [z]))];exact n)
    (fun b o _ e1=>⟨o,e1⟩) (fun b xs' e1=>by rw[zh (zd e1 hfr)];exact e1) (fun b o' u' e1=>by rw[zh (zd e1 hfr)];exact e1) (fun b ps e1=>⟨#[],by rw[zh (zd e1 hfr),e1];simp⟩) (fun m hm=>hm) hok I0.bare
   have e':b=s.heap.objs.size:=by simpa using hb
   subst e';refine⟨.inr I.sz,fun z=>?_,fun y c h z=>?_,fun p hp' z=>?_⟩
   ·have:=I.lt;rw[<- z] at this;exact absurd this (lt_irrefl _)
   ·obtain⟨v',hv⟩:=I.cell y c h
    have:=hv.lt;rw[z] at this;exact absurd this (lt_irrefl _)
   ·have:=I.pin_lt hp';rw[z] at this;exact absurd this (lt_irrefl _)
  refine⟨_,rfl,wpAny_letOwnedTupleGo_enum he' fun h2 he2 hs2=>?_⟩;have nes:s.heap.objs.size≠e:=fun z=>by
   have:=Heap.lt_size (show s.heap.get? e=some _ from he)
   rw[<- z] at this;exact absurd this (lt_irrefl _)
  have nis:s.heap.objs.size≠it:=fun z=>by
   obtain⟨o,ho,_⟩:=hit
   have:=Heap.lt_size ho
   rw[<- z] at this;exact absurd this (lt_irrefl _)
  have I2:Inv X pins σ (upd H s.heap.objs.size (.tup [.int i,x])) { s with heap:=h2,toks:=s.toks+1 }:=
   I1.turned (s:={ s with heap:=h',toks:=s.toks+1 }) (t':=s.toks+1) (it:=e) (fun b o hb q=>(hs2.2 b hb).trans q) (by rw[zh nes.symm];exact f0) f1 f3 f4 f5
  refine⟨.ref s.heap.objs.size,_,I2,rfl,⟨_,x,rfl,hfr,fun xs' h'=>?_,rfl⟩,⟨⟨_,by simpa using he2⟩,?_⟩,fun b hb=>?_⟩
  ·rw[I.list_inj h' hS];exact hx
  ·obtain⟨o,ho,r⟩:=hit'
   exact⟨o,(hs2.2 it (Ne.symm hne)).trans ho,r⟩
  ·rcases List.mem_cons.mp hb with rfl|hb
   ·rw[zh nes.symm];exact f0
   ·have e':b=it:=by simpa using hb
    subst e';rw[zh nis.symm];exact g0
 done:=by
  intro X hP hw hK hc i pins s σ H E I hf st hg;subst hP hw hK;obtain⟨⟨old,he⟩,hit⟩:=st;obtain⟨g0,g1,g2,g3,g4,g5⟩:=hf it (by simp)
  obtain⟨xs,hS,hle⟩:=hg;obtain⟨its,rv,hp,hz⟩:=I.list hS;have hx:its.toArray[i]?=none:=by simp [<- rv.length,hle]
  exact wpAny_pyNext_enum_end (I.ok.hd hc) he hit hp.isList hx fun h' eb=>⟨rfl,I.turned (t':=s.toks) (fun b o hb e1=>eb b o hb e1) g0 g1 g3 g4 g5⟩
 self:=fun A i s Q E st h=>by
  obtain⟨⟨old,he⟩,_⟩:=st;exact wpAny_pyIter_enum he h
section
variable {X:Cx}{elts:List Expr}{x1:Nat}{tpos:Pos}
def zk5(K:Frag) (ta:TA):TI:=fun σ H R=>ta σ H fun vs H1=>∃a,vs=[.ref a]/\(∃xs,SqL K H1 a xs)/\R (Ite K a) H1
theorem yH{l:Expr}{ta:TA}{p pos:Pos}(hg:Gl X "enumerate") (hm:X.mg "enumerate"=none) (ha:PA X [l] ta) (hl:uI l=false:=by rfl):PI X (.Tuple elts x1 tpos) (.Call (.Name "enumerate" p) [l] [] pos) (zk5 X.K ta):=by
 refine⟨?_⟩;intro pins s σ H R I h;refine Call_ (vG I hg hm PyProof.Rows.boot_enumerate (PyProof.Rows.callWith_type1 (thn (ha pos pins s σ H _ I h) fun us s1 ⟨vs,H1,I1,r1,q1⟩=>?_) (xz hl) rfl));obtain⟨a,e,⟨xs,hS⟩,q⟩:=q1;subst e;obtain⟨u,rfl,ru⟩:=vt r1;cases ru;obtain⟨its,rv,hp,hz⟩:=I1.list hS;refine call_enumerate_list hp.isList fun h' he hit hsz hk=>?_;refine wpAny_pyIter_enum he ?_;have hfr:∀b,s1.heap.objs.size<=b->H1 b=none:=fun b hb=>I1.hok.fresh hb;have I2:Inv X pins σ H1 { s1 with heap:=h' }:=I1.kept (t':=s1.toks) hk
 refine⟨s1.heap.objs.size+1,[s1.heap.objs.size+1,s1.heap.objs.size],_,_,H1,rfl,I2,zd6 a _ _ (Nat.succ_ne_self _),⟨⟨_,he⟩,hit⟩,fun b hb=>?_,q⟩;rcases List.mem_cons.mp hb with rfl|hb
 ·exact I1.fpOk (le_succ _) (hfr _ (le_succ _))
 ·have e':b=s1.heap.objs.size:=by simpa using hb
  subst e';exact I1.fpOk (le_refl _) (hfr _ (le_refl _))
end
end L2
namespace Att
open PySem PySem.W PySem.Calls PyProof.Rows
theorem zbl{ns:List Int}(h:WData.layableAll [WData.list (ns.map WData.int)]=true):∀n∈ns,Builtin.Int.intBits n<=1048576:=fun n hn=>
 PySem.intBits_le_of_layable (layable0_of_all (lay0_int (layableW_item (layW_cons h).1 (.int n) (List.mem_map.mpr ⟨n,hn,rfl⟩))))
theorem zig{l:OpenLaw}{n:Nat}{q:Program}{loose:List Str}{XP:(Str->Option Value)->Heap->Prop}{YP:World->Heap->Prop}{d:DefRec}
  (hn:l.most=some n) (hdf:d.params.defaults=[])
  (call:∀(w:World) (s₀ s₁:Shared) (mg mb:Str->Option Value) (fa:Addr) (o:Obj) (pm cd doc:Value) (a:Addr) (vs:List Value) (ns:List Int),
   Ground q loose [] XP w s₀ mg mb s₁.heap->YP w s₁.heap->
   s₁.heap.get? fa=some o->o.data=.func (docDef d.name d.params d.body d.scope pm cd doc)->s₁.heap.CodeRec cd d.name->mg d.name=some (.ref fa)->
   s₁.heap.get? a=some { cls:=.type "list",data:=.seq vs.toArray }->IntsAre vs ns->ns.length<=n->(∀m∈ns,Builtin.Int.intBits m<=1048576)->s₁.gens=#[]->
   codeAny (model l.prog w) callerA (.call (.ref fa) ⟨[.ref a],[]⟩) (fun r s'=>r=.ok (.ret (.bool true))/\OldK s₁.heap s'.heap/\s'.os=s₁.os/\AllBare s'.gens) s₁) :
  WalkO q loose XP YP l.row.toRowW d [] (fun f vs=>PySem.call f vs):=by
 intro w s₀ s₁ mg mb G Y fa o pm cd doc dV kV ho hd hcd hD hmg hg args vals as hpre hlay hrd hwl hlo;obtain rfl:dV=.none:=Dflts.none hD hdf;obtain rfl:kV=.none:=Dflts.noKw hD;obtain⟨a,vs,ns,rfl,rfl,hobj,hints,hlen⟩:=zeb hn hpre hwl;refine enter_call (codeAny_mono (call w s₀ s₁ mg mb fa o pm cd doc a vs ns G Y ho (fd_plain hd) hcd hmg hobj hints hlen (zbl hlay) hg) fun r s' hq=>?_);obtain⟨rfl,h2,h3,h4⟩:=hq;exact⟨.inl ⟨.bool true,.bool true,[],rfl,fun _=>rfl,.bool true,zef l _,fun _=>⟨List.Pairwise.nil,fun _ hm=>(nomatch hm)⟩⟩,h2,h3,h4⟩
end Att
namespace L2
open PySem PySem.Spec PyProof.Rows
theorem zj9{l:PySem.W.OpenLaw}{n k:Nat}{q:Program}{loose:List Str}{XP:(Str->Option Value)->Heap->Prop}{YP:World->Heap->Prop}{d:DefRec}{K:Params->Frag}{CX:World->CXT}{sp:World->Sp}{x:Str}
  (hn:l.most=some n) (hn2:n<=sizeLine) (hdf:d.params.defaults=[]) (hr:yo k callerA)
  (hY:∀(w:World) (h:Heap),YP w h->(K w.params).In h)
  (F:∀(w:World) (mg:Str->Option Value) (fa:Addr) (h:Heap),(K w.params).In h->h.Ns mainGlobals mg->mg d.name=some (.ref fa)->
   ∃fd:FuncData,(∀(s:Shared) (u:Value),BindsTo s fd ⟨[u],[]⟩ [(x,u)])/\
    ∀base:Heap,(K w.params).In base->base.Ns mainGlobals mg->zD l.prog w (K w.params) mg base (CX w) k fa fd [x] (sp w))
  (hsp:∀(w:World) (H:Hp) (a:Addr) (ns:List Int),ns.length<=n->(∀m∈ns,Builtin.Int.intBits m<=1048576)->zj6 H->SqL (K w.params) H a (ns.map V.int)->sp w [.ref a] H (fun v _=>v=.bl true) fun _ _ _=>False)
  (hCX:∀(w:World) (H:Hp) (s:Shared) (e:Value) (s':Shared),CX w [] H s (fun _ _ _=>False) e s'->False) :
  PySem.W.WalkO q loose XP YP l.row.toRowW d [] (fun f vs=>PySem.call f vs):=by
 refine Att.zig hn hdf fun w s₀ s₁ mg mb fa o pm cd doc a vs ns G Y ho hd hcd hmg hobj hints hlen hbits hg=>?_;have KX:=hY w _ Y;obtain⟨fd,hb,hF⟩:=F w mg fa _ KX G.T.g hmg;exact zgq KX G.T.g G.T.b G.T.builtins G.T.nolimit hg hobj hints (le_trans hlen hn2) hr hF hb (fun H hO hS=>hsp w H a ns hlen hbits hO hS) fun H e s'=>hCX w H s₁ e s'
section
variable {X:Cx}
theorem zhA:OpR X (binaryOp .Mult) (rI IntMulOk fun i j=>.int (i * j)):=opI fun _ _ _ _ _ _ _ hc q=>mul_int q hc
end
structure qx(K:Frag) (x qual:Str) (st:Stmt) (f:Addr) (fd:FuncData) (items:List Value):Prop where
 ex:∃(oc:Value) (od:Option Addr) (T:Addr) (kV doc pm:Value) (an:Option Addr) (cdv ct:Value) (osl:Array (Option Value)) (o:Obj) (n:Nat),
  fd=fnOf x qual (z6 st) (zT st) (zi st) (.ref T) kV doc pm an cdv ct/\K.lookup f=some ⟨oc,od,.func fd,osl⟩/\codeIn K cdv qual=true/\K.lookup T=some o/\o.data=.seq items.toArray n
 kp:keepIn K (.ref f)=true
section
variable {P:Program}{w:World}{K:Frag}{mg:Str->Option Value}{base:Heap}
theorem qx.ok{x qual:Str}{st:Stmt}{f:Addr}{fd:FuncData}{items:List Value}{N ps:List Str}{k:Nat}{sp:Sp}(F:qx K x qual st f fd items) (S:zr N ps (zi st)) (len:∀vs H Q E,sp vs H Q E->vs.length=ps.length)
  (hbody:∀(cdv:Value) (A:Around) (outer:List Env) (s:Shared) (H:Hp) (vs:List V) (Q:VK) (E:XK),yo k (A.deeper (envOfC qual (zi st) s.heap.objs.size f cdv))->sp vs H Q E->
   ∃t,PSs (zdd CX0 P w K mg base N qual (zi st) f cdv A outer s H E).nox (zT st) t/\t { nx:=fun _ H'=>Q .non H',rt:=Q } (uy N vs) H):zD P w K mg base CX0 (k+1) f fd ps sp:=by
 obtain⟨oc,od,T,kV,doc,pm,an,cdv,ct,osl,o,n,rfl,lk,hcd,_,_⟩:=F.ex;refine ziK lk hcd S len fun A outer s H vs Q E hr hsp=>?_;obtain⟨t,h,q⟩:=hbody cdv A outer s H vs Q E hr hsp;exact⟨t,h.nox,q⟩
theorem qx.bindsTo{x qual:Str}{st:Stmt}{f:Addr}{fd:FuncData}{items:List Value}(F:qx K x qual st f fd items) {args:Args}{bs:List (Str×Value)}
  (h:∀(T:Addr) (kV doc pm:Value) (an:Option Addr) (cdv ct:Value),∃k:Option (Array Value)->Sem (List (Str×Value)),
   bindArgs (fnOf x qual (z6 st) (zT st) (zi st) (.ref T) kV doc pm an cdv ct) args=seqItems? (.ref T) >>= k/\k (some items.toArray)=pure bs) {s:Shared}(KX:K.In s.heap):BindsTo s fd args bs:=by
 obtain⟨oc,od,T,kV,doc,pm,an,cdv,ct,osl,o,n,rfl,lk,hcd,lt,hs⟩:=F.ex;obtain⟨k,h1,h2⟩:=h T kV doc pm an cdv ct;exact BindsTo.of_defaults (T:=T) (n:=n) rfl (KX _ _ lt) hs h1 h2
theorem zh4{x qual:Str}{st:Stmt}{f T:Addr}{oc:Value}{od an:Option Addr}{osl:Array (Option Value)}{kV doc pm cdv ct:Value}{o:Obj}{n:Nat}{items:List Value}
  (l:K.lookup f=some ⟨oc,od,.func (fnOf x qual (z6 st) (zT st) (zi st) (.ref T) kV doc pm an cdv ct),osl⟩)
  (c:codeIn K cdv qual=true) (k:keepIn K (.ref f)=true) (lT:K.lookup T=some o) (hs:o.data=.seq items.toArray n) :
  qx K x qual st f (fnOf x qual (z6 st) (zT st) (zi st) (.ref T) kV doc pm an cdv ct) items:=⟨⟨oc,od,T,kV,doc,pm,an,cdv,ct,osl,o,n,rfl,l,c,lT,hs⟩,k⟩
end
section
variable {X:Cx}{CX:CXT}{k:Nat}{f C:Addr}{fd:FuncData}{ps ks:List Str}{sp:Sp}{E:XK}{x:Str}{p pos:Pos}{e:Expr}{es:List Expr}{kws:List Keyword}{t tk:TA}
 {g:List Value->List Value->List Value}{gV:List V->List V->List V}
end
theorem yv{t u:TS}{D:jc}{σ : St}{H:Hp}(R:St->Hp->Prop) (h2:∀σ H,R σ H->u D σ H) (h1:(∀σ H,R σ H->u D σ H)->t { D with nx:=u D } σ H):wn t u D σ H:=h1 h2
def lcN(n i:Nat) (D:Addr) (Pv:Nat->List V->Hp->Prop) (ys:List V):VK:=fun v H4=>H4 D=some (.lst ys)/\ys.length<sizeLine/\∃m',m'<n - i/\m'=n - (i+1)/\i+1<=n/\Pv (i+1) (ys++[v]) (upd H4 D (.lst (ys++[v])))
def lcS(n i:Nat) (Pv:Nat->List V->Hp->Prop) (ys:List V):Hp->Prop:=fun H4=>∃m',m'<n - i/\m'=n - (i+1)/\i+1<=n/\Pv (i+1) ys H4
theorem lcN.mk{n i:Nat}{D:Addr}{Pv:Nat->List V->Hp->Prop}{ys:List V}{v:V}{H4:Hp}(hi:i<n) (hn:n<=sizeLine) (hD:H4 D=some (.lst ys)) (hy:ys.length<=i) (p:Pv (i+1) (ys++[v]) (upd H4 D (.lst (ys++[v])))):lcN n i D Pv ys v H4:=
 ⟨hD,by omega,n - (i+1),by omega,rfl,hi,p⟩
theorem lcS.mk{n i:Nat}{Pv:Nat->List V->Hp->Prop}{ys:List V}{H4:Hp}(hi:i<n) (p:Pv (i+1) ys H4):lcS n i Pv ys H4:=⟨n - (i+1),by omega,rfl,hi,p⟩
theorem ve{K:Frag}{a:Addr}{xs:List V}{caps:List (Option Nat)}{g:TG}{tt:TT}{te:TE}{σ : St}{H1:Hp}{Q:VK}{D:Addr}(Pv:Nat->List V->Hp->Prop) (h0:Pv 0 [] (upd H1 D (.lst [])))
  (hl:∀i ys H,Pv i ys H->SqL K H a xs)
  (hs:∀i x ys H,i<xs.length->xs[i]?=some x->Pv i ys H->g x (xk caps σ) H fun σ2 H2=>tt σ2 H2 fun ok H3=>(ok=true->te σ2 H3 (lcN xs.length i D Pv ys))/\(ok=false->lcS xs.length i Pv ys H3))
  (hd:∀ys H,Pv xs.length ys H->Q (.ref D) H):LCr (Itl K a) caps g tt te σ H1 Q D:=by
 refine⟨fun i m ys H=>m=xs.length - i/\i<=xs.length/\Pv i ys H,⟨xs.length,by simp,zero_le _,h0⟩,?_⟩
 rintro i m ys H ⟨rfl,hi,p⟩;have q:=hl i ys H p;by_cases hlt:i<xs.length
 ·refine .inr ⟨⟨xs,xs[i],q,by simp [hlt]⟩,fun x H' y=>?_⟩
  obtain⟨e,y⟩:=y;subst e;exact hs i x ys _ hlt (y xs q) p
 ·have e:i=xs.length:=by omega
  subst e;exact .inl ⟨⟨xs,q,le_refl _⟩,hd ys H p⟩
theorem xw{H:Hp}{x dx:Addr}{o1:HO}(hx:H x=none) (hd:H dx=none):zo H (upd (upd H dx (.own x)) x o1):=fun b u q=>by
 rw[zh (zd q hx),zh (zd q hd)];exact q
theorem zb{H:Hp}{p:Addr}(h:H p=none) (o:HO):zo H (upd H p o):=fun b u q=>by rw[zh (zd q h)];exact q
theorem wR{lo:Int}{n:Nat}{caps:List (Option Nat)}{g:TG}{tt:TT}{te:TE}{σ : St}{H1:Hp}{Q:VK}{D:Addr}(Pv:Nat->List V->Hp->Prop) (h0:Pv 0 [] (upd H1 D (.lst [])))
  (hs:∀i ys H,i<n->Pv i ys H->g (.int (lo+i)) (xk caps σ) H fun σ2 H2=>tt σ2 H2 fun ok H3=>(ok=true->te σ2 H3 (lcN n i D Pv ys))/\(ok=false->lcS n i Pv ys H3))
  (hd:∀ys H,Pv n ys H->Q (.ref D) H):LCr (Itr lo n) caps g tt te σ H1 Q D:=by
 refine⟨fun i m ys H=>m=n - i/\i<=n/\Pv i ys H,⟨n,by simp,zero_le _,h0⟩,?_⟩
 rintro i m ys H ⟨rfl,hi,p⟩;by_cases hlt:i<n
 ·refine .inr ⟨hlt,fun x H' y=>?_⟩
  obtain⟨e,y⟩:=y;subst e y;exact hs i ys _ hlt p
 ·have e:i=n:=by omega
  subst e;exact .inl ⟨le_refl _,hd ys H p⟩
theorem ju{K:Frag}{a:Addr}{xs:List V}{caps:List (Option Nat)}{g:TG}{tt:TT}{te:TE}{σ : St}{H1:Hp}{Q:VK}{D:Addr}(Pv:Nat->List V->Hp->Prop) (h0:Pv 0 [] (upd H1 D (.lst [])))
  (hl:∀i ys H,Pv i ys H->SqL K H a xs)
  (hs:∀i x p ys H,i<xs.length->xs[i]?=some x->Pv i ys H->H p=none->g (.ref p) (xk caps σ) (upd H p (.tup [.int i,x])) fun σ2 H2=>tt σ2 H2 fun ok H3=>(ok=true->te σ2 H3 (lcN xs.length i D Pv ys))/\(ok=false->lcS xs.length i Pv ys H3))
  (hd:∀ys H,Pv xs.length ys H->Q (.ref D) H):LCr (Ite K a) caps g tt te σ H1 Q D:=by
 refine⟨fun i m ys H=>m=xs.length - i/\i<=xs.length/\Pv i ys H,⟨xs.length,by simp,zero_le _,h0⟩,?_⟩
 rintro i m ys H ⟨rfl,hi,p⟩;have q:=hl i ys H p;by_cases hlt:i<xs.length
 ·refine .inr ⟨⟨xs,xs[i],q,by simp [hlt]⟩,fun x H' y=>?_⟩
  obtain⟨pp,y,rfl,hp,y2,rfl⟩:=y;exact hs i y pp ys H hlt (y2 xs q) p hp
 ·have e:i=xs.length:=by omega
  subst e;exact .inl ⟨⟨xs,q,le_refl _⟩,hd ys H p⟩
theorem xY{K:Frag}{a:Addr}{xs:List V}{g:TG}{tb:TS}{D:jc}{σ : St}{H:Hp}(Pv:Nat->St->Hp->Prop) (h0:Pv 0 σ H) (hl:∀i σ H,i<=xs.length->Pv i σ H->SqL K H a xs)
  (hs:∀i x p σ H,xs[i]?=some x->Pv i σ H->H p=none->g (.ref p) σ (upd H p (.tup [.int i,x])) fun σ2 H2=>tb { D with nx:=Pv (i+1),ct:=Pv (i+1),bk:=D.nx } σ2 H2) (hd:∀σ H,Pv xs.length σ H->D.nx σ H) :
  ∃W:Nat->Nat->St->Hp->Prop,(∃m,W 0 m σ H)/\∀i m σ H,W i m σ H->
   ((Ite K a).stop i H/\D.nx σ H)\/((Ite K a).go i H/\∃N:St->Hp->Prop,(∀σ' H',N σ' H'->∃m',m'<m/\W (i+1) m' σ' H')/\∀x H',(Ite K a).yld i H x H'->g x σ H' fun σ2 H2=>tb { D with nx:=N,ct:=N,bk:=D.nx } σ2 H2):=by
 refine⟨fun i m σ H=>m=xs.length - i/\i<=xs.length/\Pv i σ H,⟨xs.length,by simp,zero_le _,h0⟩,?_⟩
 rintro i m σ H ⟨rfl,hi,p⟩;have q:=hl i σ H hi p;by_cases hlt:i<xs.length
 ·refine .inr ⟨⟨xs,xs[i],q,by simp [hlt]⟩,Pv (i+1),fun σ' H' p'=>⟨xs.length - (i+1),by omega,rfl,hlt,p'⟩,fun x H' y=>?_⟩
  obtain⟨pp,y,rfl,hp,y2,rfl⟩:=y;exact hs i y pp σ H (y2 xs q) p hp
 ·have e:i=xs.length:=by omega
  subst e;exact .inl ⟨⟨xs,q,le_refl _⟩,hd σ H p⟩
theorem uQ{X:Cx}:xv X (.builtin "isinstance") (fun xs H Q=>∃a ys T b,xs=[.ref a,.ty T]/\SqT X.K H a ys/\kitOne X.K (.type "tuple") (.type T)=some b/\Q (.bl b) H):=by
 intro pins s σ H xs us Q I r h;obtain⟨a,ys,T,b,rfl,hS,e,q⟩:=h;obtain⟨u,w',rfl,ru,rw'⟩:=qC r;cases rw';cases ru;obtain⟨its,r,⟨o,h1,h2,_⟩,_⟩:=I.tuple hS;exact kia_one PySem.W.kitx_tuple I.kIn ⟨o,h1,h2⟩ e (fun z=>nomatch z) fun tk=>⟨.bl b,H,I.tok tk,rfl,q⟩
section
variable {X:Cx}{pins:List (Addr×Obj)}{σ : St}{H H':Hp}{s s':Shared}{ea:Addr}{cls:Value}{vs:List Value}{h':Heap}{M:Model}{E:Value->Shared->Prop}
end
section
variable {X:Cx}{E:XK}{x:Str}{C:Addr}{B Bn newId nid initId inN:String}{bm bmN:List Value}{np cpos pos:Pos}{e:Expr}{es:List Expr}{t:TA}
end
section
variable {P:Program}{w:World}{K:Frag}{mg:Str->Option Value}{base:Heap}{N:List Str}{qual:Str}{scope:Scope}{f:Addr}{cd:Value}{A:Around}{outer:List Env}{s:Shared}{H:Hp}{E E':XK}
end
section
variable {X:Cx}{k:Nat}{f:Addr}{fd:FuncData}{ps:List Str}{sp:Sp}{E:XK}{x:Str}{p pos:Pos}{e:Expr}{es:List Expr}{t:TA}
end
section
variable {X:Cx}{pins:List (Addr×Obj)}{σ : St}{H H':Hp}{s s':Shared}{ea a:Addr}{cls:Value}{o:HO}{h5:Heap}
end
section
variable {X:Cx}{pins:List (Addr×Obj)}{σ : St}{H:Hp}{s:Shared}{M:Model}{A:Around}{E:Value->Shared->Prop}{i:Nat}{n:Str}{pos:Pos}
end
section
variable {X:Cx}{pins:List (Addr×Obj)}{σ : St}{e:Expr}{es:List Expr}{te ta:TE}{t tr:TA}{E:XK}{x m:Str}{p pos apos:Pos}{k:Nat}{f C:Addr}{fd:FuncData}{ps:List Str}{sp:Sp}{o:Expr}{dvs:List V}{ds:List Value}
end
section
variable {X:Cx}{pins:List (Addr×Obj)}{σ : St}{H:Hp}{s:Shared}{ea:Addr}
variable {st b₀:Stmt}{suite:List Stmt}{c n:Str}{np hpos pos:Pos}{C:Addr}{i:Nat}{tb:XK->TS}{ts:TS}{ok:Value->Prop}
end
end L2
namespace L2
open PySem PySem.W PySem.Builtin PySem.Builtin.ObjectAttr PySem.Builtin.Getset_descriptor PySem.Spec PyProof.Rows
section
variable {prog:Program}{w:World}{A:Around}{E:Value->Shared->Prop}{s:Shared}{K:Frag}{x D:Addr}
end
end L2
namespace L2
open PySem PySem.Spec PyProof.Rows
section
variable {X:Cx}
theorem qA:∀{cs:List Addr}{us:List Value},zJ (cs.map V.ref) us->us=cs.map Value.ref
 | [],_,.nil=>rfl
 | c::cs,_,.cons r t=>by
  cases r;rw[qA t];rfl
end
section
variable {P:Program}{w:World}{K:Frag}{mg:Str->Option Value}{base:Heap}
end
section
variable {X:Cx}{k:Nat}{f:Addr}{fd:FuncData}{ps:List Str}{sp:Sp}{x:Str}{p pos:Pos}{e:Expr}{es:List Expr}{t:TA}
end
section
variable {prog:Program}{w:World}{A:Around}{E:Value->Shared->Prop}{s:Shared}{r:Addr}{n:Int}{t u v:Tok}
end
section
variable {X:Cx}{tg:Expr}
end
section
variable {X:Cx}{o i:Expr}{to ti:TE}{pos tpos:Pos}
def zly:R2:=fun x y H Q=>∃(a c:Addr) (xs ys:List V),x=.ref a/\y=.ref c/\H a=some (.lst xs)/\H c=some (.lst ys)/\xs.length≠ys.length/\Q (.bl false) H
theorem zfV(hu:X.A.units<cLine):OpR X (compareOp .Eq) zly:=by
 intro pins s σ H x y v u Q I rx ry h;obtain⟨a,c,xs,ys,rfl,rfl,ha,hc,hn,q⟩:=h;cases rx;cases ry;obtain⟨its,r,pl,_⟩:=I.list (SqL.of ha);obtain⟨its2,r2,pl2,_⟩:=I.list (SqL.of hc);have e1:=r.length;have e2:=r2.length;exact PySem.SeqAt.eq_list_lengthsAt pl.isList pl2.isList (by simp only[size_toArray,bne_iff_ne];omega) hu ⟨.bl false,H,I,rfl,q⟩
end
section
variable {X:Cx}{pins:List (Addr×Obj)}{σ : St}{e:Expr}{te:TE}{pos p:Pos}{C:Addr}{x:Str}
end
theorem wo{H H1:Hp}{x dx:Addr}{o1 o2:HO}(hx:H x=none) (hd:H dx=none) (s:zo (upd (upd H dx (.own x)) x o1) H1):zo H (upd H1 x o2):=fun b u q=>by
 rw[zh (zd q hx)];exact s _ _ (xw hx hd b u q)
structure zeV(P:Program) (w:World) (K:Frag) (mg:Str->Option Value) (base:Heap) (CX:CXT) (k:Nat) (x:Str) (C i:Addr) (fd:FuncData) (ps:List Str) (ds:List Value) (sp:Sp):Prop where
 mkr:Mk K C i
 ok:zD P w K mg base CX k i fd ps sp
 mg:mg x=some (.ref C)
 bd:zM K fd ps ds
section
variable {X:Cx}{CX:CXT}{k:Nat}{C i f:Addr}{fd:FuncData}{ps ks:List Str}{sp:Sp}{E:XK}{x m:Str}{p pos apos:Pos}{e:Expr}{es:List Expr}{t tk:TA}{ds:List Value}{dvs:List V}{kws:List Keyword}
 {g:List Value->List Value->List Value}{gV:List V->List V->List V}
theorem cMk(c:zeV X.prog X.w X.K X.mg X.base CX k x C i fd ps ds sp) (hd:zJ dvs ds) (hp:wF CX X E) (hr:yo (k+1) X.A) (ha:PA X (e::es) t) (hg:Gl X x:=by rfl) (hdb:(x==("__debug__" : Str))=false:=by decide)
  (h1:uI e=false:=by rfl) (h2:es.any uI=false:=by rfl):PE X (.Call (.Name x p) (e::es) [] pos) (zin C sp dvs E t):=zdH c.mkr c.ok hr hg c.mg c.bd hd hp ha hdb (xz h1) (wG h2)
structure qr(K:Frag) (C:Addr) (m:Str) (f:Addr):Prop where
 ga:PySem.W.specialIn K (.ref C) "__getattribute__"=some (some (.builtin "type.__getattribute__"))
 rd:PySem.W.readsIn K C (.type "type")=true
 fc:PySem.W.findCls K (.ref C) (.type "type") m=some (.val (.ref f))
 kp:keepIn K (.ref f)=true
theorem zby{pl:Sem Bool}(B:qr X.K C m f) (hm:X.mg x=some (.ref C)) (F:zD X.prog X.w X.K X.mg X.base CX k f fd ps sp) (hr:yo k X.A) (hb:zM X.K fd ps []) (hx:wF CX X E) (ha:PA X (e::es) t) (hg:Gl X x:=by rfl)
  (hdb:(x==("__debug__" : Str))=false:=by decide) (h1:uI e=false:=by rfl) (h2:es.any uI=false:=by rfl)
  (ht:eval (.Call (.Attribute (.Name x p) m apos) (e::es) [] pos) X.env=(do
   let ov <- eval (.Name x p) X.env
   standAt apos.atName
   let (f,first) <- holding [ov] (getMethod ov m pl)
   callWith pos f first (backTo pos (starEach (e::es) X.env)) (backToKw pos (keywordEach [] X.env))):=by rfl) :
  PE X (.Call (.Attribute (.Name x p) m apos) (e::es) [] pos) (ze6 sp [] E t):=by
 refine⟨?_⟩;intro pins s σ H Q I h;refine methodCall_KW (pl:=pl) (uH I hg hm ?_ hdb) ht;refine PySem.W.method_cls I.kIn B.ga (PySem.W.cls_value I.kIn B.rd B.fc rfl ?_);have It:=I.tok (s.toks+1);refine callWith_K (first:=[]) (h₀:=X.base) I.ok.mod.kin B.kp (thn (ha pos pins _ σ H _ It h) fun us s2 ⟨vs,H2,I2,r,q2⟩=>⟨I2.kIn,?_⟩) (xz h1) (wG h2)
 exact jQ F hr hb .nil hx I2 r q2
end
theorem vP{X:Cx}{st:Stmt}:PS X st (fun _ _ _=>False):=⟨fun _ _ _ _ _ _ h=>h.elim⟩
def zlZ(P:Program) (w:World) (a:Addr) (S:Str->Bool) (n:Nat) (h:Heap):Prop:=h.SetOf (strKind P w) a S n
abbrev vq(P:Program) (w:World) (a:Addr) (S:Str->Bool) (n:Nat):HO:=.ext (zlZ P w a S n)
theorem zaE{P:Program}{w:World}{H:Hp}{h:Heap}{a:Addr}{S:Str->Bool}{n:Nat}(e:h.SetOf (strKind P w) a S n):yy P w H h a (vq P w a S n):=
 ⟨e,let ⟨o,_,_,_,h1,_⟩:=e;⟨o,h1⟩,fun g1 g2 q k=>let ⟨o,es,ep,t,h1,c⟩:=q;⟨o,es,ep,t,k o h1,c⟩⟩
section
variable {X:Cx}
theorem zeP:xv X (.type "set") (fun xs H Q=>xs=[]/\∀p,H p=none->Q (.ref p) (upd H p (vq X.prog X.w p (fun _=>false) 0))):=by
 intro pins s σ H xs us Q I r h;obtain⟨rfl,q⟩:=h;cases r;refine call_set_0 fun led=>?_;have hf:H s.heap.objs.size=none:=I.hok.fresh (le_refl _);refine⟨.ref s.heap.objs.size,_,I.laid (t':=s.toks) (fun b u e=>Heap.get?_push_of_some _ e) (le_refl _) (zaE ?_),rfl,q _ hf⟩;exact(setObjOf_fresh led).setOf (Heap.get?_push_size _ rfl) (by decide)
theorem jY:OpR X (compareOp .In) (fun x y H Q=>∃(a:Addr) (S:Str->Bool) (n:Nat) (z:Str),x=.str z/\y=.ref a/\H a=some (vq X.prog X.w a S n)/\Q (.bl (S z)) H):=by
 intro pins s σ H x y v u Q I rx ry h;obtain⟨a,S,n,z,rfl,rfl,e,q⟩:=h;obtain⟨t,rfl⟩:=rx;cases ry;have hS:s.heap.SetOf (strKind X.prog X.w) a S n:=(I.hok a _ e).1;exact wpAny_inSet_of (strKind_is X.prog X.w z t) rfl hS ⟨.bl (S z),H,I.tok _,rfl,q⟩
def zkd(P:Program) (w:World) (to te:TE):TE:=fun σ H Q=>to σ H fun x H1=>∃(a:Addr) (S:Str->Bool) (n:Nat),x=.ref a/\H1 a=some (vq P w a S n)/\te σ H1 fun y H2=>∃(S:Str->Bool) (n:Nat) (z:Str),y=.str z/\H2 a=some (vq P w a S n)/\n+1<scanBound/\
 Q .non (upd H2 a (vq P w a (fun k=>S k||decide (k=z)) (if S z then n else n+1)))
theorem zht{o e:Expr}{apos cpos:Pos}{to te:TE}(ho:PE X o to) (he:PE X e te) (m:M1 X o "add" apos e cpos):PE X (.Call (.Attribute o "add" apos) [e] [] cpos) (zkd X.prog X.w to te):=by
 refine⟨?_⟩;intro pins s σ H Q I h;refine wpAny_Call_method m.base m.few m.line PySem.F.plainAttrs_set PySem.F.slot_set_add PySem.F.type_set_add (thn (ho pins s σ H _ I h) fun u s1 ⟨x,H1,I1,rx,a,S,n,ex,d,q1⟩=>?_);subst ex;obtain rfl:u=Value.ref a:=rx;have hS:s1.heap.SetOf (strKind X.prog X.w) a S n:=(I1.hok a _ d).1;refine⟨hS.typeIs,hS.noDict,?_⟩;rw[m.trees];refine Calls.callWith_builtin rfl (Calls.evalArgs_plain (Calls.spliced_cons (thn (he pins s1 σ H1 _ I1 q1) fun iv s2 ⟨y,H2,I2,ry,S2,n2,z,ey,e2,hn,q2⟩=>Calls.spliced_nil ?_)));subst ey;obtain⟨t,rfl⟩:=ry;have hS2:s2.heap.SetOf (strKind X.prog X.w) a S2 n2:=(I2.hok a _ e2).1;refine call_set_add (strKind_is X.prog X.w z t) rfl hS2 hn fun h' hs hS3=>⟨.non,_,?_,rfl,q2⟩;refine I2.write (x:=a) (e:=a) (by rw[e2];exact True.intro) (.inl rfl) (fun b q hb z=>(hs.2 b hb).trans z) (let ⟨o,_,_,_,h1,_⟩:=hS3;⟨o,h1⟩) (zaE hS3)
def ziT(Cs:Addr->Prop) (m:Str) (sp:Sp) (E:XK) (ta:TE):TE:=fun σ H Q=>ta σ H fun x H1=>∃a C dx fs,x=.ref a/\Cs C/\H1 a=some (.ins C dx fs)/\fs.lookup m=none/\sp [x] H1 Q E
theorem xW{CX:CXT}{k:Nat}{f:Addr}{fd:FuncData}{ps:List Str}{sp:Sp}{E:XK}{m:Str}{pos apos:Pos}{o:Expr}{ta:TE}{Cs:Addr->Prop}{pl:Sem Bool}(he:PE X o ta) (hC:∀C,Cs C->Cls X.K C/\yS X.K C m f) (F:zD X.prog X.w X.K X.mg X.base CX k f fd ps sp) (hr:yo k X.A) (hb:zM X.K fd ps []) (hx:wF CX X E)
  (ht:eval (.Call (.Attribute o m apos) [] [] pos) X.env=(do
   let ov <- eval o X.env
   standAt apos.atName
   let (f,first) <- holding [ov] (getMethod ov m pl)
   callWith pos f first (backTo pos (starEach [] X.env)) (backToKw pos (keywordEach [] X.env))):=by rfl) :
  PE X (.Call (.Attribute o m apos) [] [] pos) (ziT Cs m sp E ta):=by
 refine⟨?_⟩;intro pins s σ H Q I h;refine methodCall_KW (pl:=pl) (thn (he pins s σ H _ I h) fun u s1 ⟨x,H1,I1,rx,a,C,dx,fs,ex,hc,ea,l,q⟩=>?_) ht;subst ex;obtain rfl:u=Value.ref a:=rx;obtain⟨c,hm⟩:=hC C hc;refine vj I1 ea c hm l ?_;exact PySem.W.callWith_K0 (first:=[.ref a]) I1.kIn hm.kp (jQ (us:=[.ref a]) (vs:=[.ref a]) F hr hb .nil hx I1 (.cons rfl .nil) q)
structure zj7(w:World) (K:Frag) (a:Addr) (f:Str->Option V):Prop where
 obj:∃es n,K.lookup a=some ⟨.type "dict",none,.dict es n,#[]⟩/\KeysLit w.params es.toList
 vals:∀x v,f x=some v->∃u,nsIn K a x=some (some u)/\zL v u
theorem zhu{e:Expr}{d:Str}{p pos:Pos}{a:Addr}{f:Str->Option V}{te:TE}(T:zj7 X.w X.K a f) (hm:X.mg d=some (.ref a)) (he:PE X e te) (hg:Gl X d:=by rfl) (hs:zik e:=by first|exact fun _ _=>rfl|decide|rfl) (hdb:(d==("__debug__" : Str))=false:=by decide) :
  PE X (.Subscript (.Name d p) e pos) (fun σ H Q=>te σ H fun y H1=>∃x v,y=.str x/\f x=some v/\Q v H1):=by
 refine⟨?_⟩;intro pins s σ H Q I h;obtain⟨es,n,hl,hk⟩:=T.obj;refine zaw PySem.F.slot_dict_getitem.lookup hs (uH I hg hm (thn (he pins s σ H _ I h) fun iv s2 ⟨y,H2,I2,ry,x,v,ey,ef,q2⟩=>?_) hdb);subst ey;obtain⟨t,rfl⟩:=ry;obtain⟨u,eu,ru⟩:=T.vals x v ef;have hmap:=PySem.W.mapOf_K (prog:=X.prog) (w:=X.w) I2.kIn hl hk;exact⟨hmap.typeIs,wpAny_getItem_of (strKind_is X.prog X.w x t) hmap (PySem.W.find_K hl eu) ⟨v,H2,I2.tok _,ru,q2⟩⟩
end
section
variable {X:Cx}{pins:List (Addr×Obj)}{σ : St}{H:Hp}{s:Shared}{sc:Scope}{fr Nc:List Str}{fp:List Addr}{C:Addr}
theorem zb4{caps:List (Option Nat)}{h':Heap}{D:Addr}{m:Str->Option Value}{t':Nat}{o0:HO}(I:Inv X pins σ H s) (B:xc X.env sc fr) (hf:∀b∈fp,vK X pins H b) (ho:∀b∈fp,∃o,s.heap.get? b=some o)
  (hC:s.heap.objs.size<=C) (hD:s.heap.objs.size<=D) (hDC:D≠C) (keep:∀b o,s.heap.get? b=some o->h'.get? b=some o) (new:yy X.prog X.w (upd H D o0) h' D o0) (hn:h'.Ns C m)
  (hcap:ur X.N Nc caps X.env sc fr=true) (hlen:caps.length=Nc.length) :
  Inv (zN X pins sc fr Nc fp s H C) [] (xk caps σ) (upd H D o0) { s with heap:=h',toks:=t' }:=by
 have hk:X.env.scope.kind=.function:=I.ok.kind;have fresh:∀a,s.heap.objs.size<=a->H a=none:=fun a ha=>I.hok.fresh ha;refine⟨zdZ I B hf ho hC,rfl,I.bare,Un.laid keep hD (fresh D hD),⟨m,hn,fun i x v e1 e2 e3=>?_⟩,fun x c h=>?_,?_,fun x c h=>?_,fun p hp=>?_,?_,?_⟩
 ·
  have e2':(caps[i]?).map (fun o=>match o with|none=>none|some j=>(σ[j]?).join)=some (some v):=by
   have:(xk caps σ)[i]?=some (some v):=e2
   unfold xk at this;rw[getElem?_map] at this;exact this
  cases hc:caps[i]? with
  | none=>rw[hc] at e2';cases e2'
  | some o=>
   rw[hc] at e2';cases o with
   | none=>simp at e2'
   | some j=>
    have e4:(σ[j]?).join=some v:=by simpa using e2'
    have e5 : σ[j]?=some (some v):=by
     cases q : σ[j]? with
     | none=>rw[q] at e4;cases e4
     | some w'=>rw[q] at e4;simp at e4;rw[e4]
    have e6:(Nc.zip caps)[i]?=some (x,some j):=by
     rw[List.getElem?_zip_eq_some];exact⟨e1,hc⟩
    have e7:=List.all_eq_true.mp hcap _ (mem_of_getElem? e6);simp only[Bool.and_eq_true,beq_iff_eq,List.contains_iff_mem] at e7;obtain⟨⟨⟨a1,a2⟩,a3⟩,a4⟩:=e7;obtain⟨m0,hn0,hl0⟩:=I.loc;obtain⟨u,r,l⟩:=hl0 j x v a1 e5 (.inr (.inl a2));refine⟨u,r,.inr ⟨.inl (wX hk a3 a2),_,za4 a4,?_⟩⟩;rcases l with ⟨z,_⟩|⟨_,c,ec,hcell⟩
    ·rw[a2] at z;cases z
    ·have:(X.env.cells.lookup x).getD 0=c:=by rw[ec];rfl
     rw[this];exact hcell.keeps keep
 ·obtain⟨v,hv⟩:=I.cell x c (B.sub h)
  exact⟨v,hv.keeps keep⟩
 ·show upd H D o0 C=none
  rw[zh (Ne.symm hDC)];exact fresh C hC
 ·obtain⟨v,hv⟩:=I.cell x c (B.sub h)
  have:c≠D:=fun z=>by have:=hv.lt;rw[z] at this;exact absurd (lt_of_lt_of_le this hD) (lt_irrefl _)
  rw[zh this];exact I.freeC x c (B.sub h)
 ·have hp':p∈X.pn++pins:=by simpa using hp
  obtain⟨e,n,ne,nf,d⟩:=I.pin p hp';have hlt:=I.pin_lt hp';refine⟨keep _ _ e,?_,?_,fun z=>?_,d⟩
  ·rw[zh (fun z=>by rw[z] at hlt;exact absurd (lt_of_lt_of_le hlt hD) (lt_irrefl _))];exact n
  ·intro z
   have z':p.1=C:=z;rw[z'] at hlt;exact absurd (lt_of_lt_of_le hlt hC) (lt_irrefl _)
  ·rcases List.mem_cons.mp (I.stkSub p.1 z) with q|q
   ·exact ne q
   ·exact nf q
 ·exact I.hok.laid keep hD new
 ·show(xk caps σ).length=Nc.length
  unfold xk;rw[length_map,hlen]
end
section
variable {prog:Program}{w:World}{A:Around}{R:Result->Shared->Prop}{s:Shared}
theorem qw{kx vx target iter:Expr}{ifs:List Expr}{scope:Scope}{pos:Pos}{it:Value}{D:Addr}{env:Env}(I:Nat->Shared->Prop)
  (turn:∀n s,I n s->wpAny (model prog w) A (pyNext it) (fun r s₁=>match r with
   | none=>R (.ok .next) s₁
   | some v=>wpAny (model prog w) A (letOwnedTupleGo target it v) (fun _ s₀=>wpAny (model prog w) A (assign target env v) (fun _ s₂=>
     wpAny (model prog w) A (forIn ifs true fun c r=>if r=true then do let ok <- isTrue c env (eval c env);pure (ForInStep.yield ok) else pure (ForInStep.yield r)) (fun ok s₃=>
      if ok=true then wpAny (model prog w) A (eval kx env) (fun kv s₄=>wpAny (model prog w) A (eval vx env) (fun vv s₅=>
       wpAny (model prog w) A (dictSet D kv vv) (fun _ s₆=>∃m,m<n/\I m s₆) (fun _ _=>False) s₅) (fun _ _=>False) s₄) (fun _ _=>False) s₃
      else ∃m,m<n/\I m s₃) (fun _ _=>False) s₂) (fun _ _=>False) s₀) (fun _ _=>False) s₁) (fun _ _=>False) s)
  (n:Nat) (h:I n s) :
  codeAny (model prog w) A (.compLoop (.DictComp kx vx [⟨target,iter,ifs,0⟩] scope pos) 0 it (.ref D) env) R s:=by
 refine codeAny_loop rfl I (fun n s hI=>?_) n h;show wpAny _ A ((compTurn (.DictComp kx vx [⟨target,iter,ifs,0⟩] scope pos) 0 it (.ref D) env).onRaise (fun x=>do noteFrame x env;theTreesLotGoes x)) _ _ s
 refine wpAny_noted ?_;rw[compTurn_dict];refine wpAny_bind (wpAny_standAt (wpAny_bind (wpAny_mono (turn n s hI) (fun r s₁ h₁=>?_) fun _ _ z=>z.elim)));cases r with
 | none=>exact wpAny_pure h₁
 | some v=>
  refine wpAny_bind (wpAny_mono h₁ (fun _ s₀ h₀=>?_) fun _ _ z=>z.elim);refine wpAny_bind (wpAny_mono h₀ (fun _ s₂ h₂=>wpAny_bind (wpAny_mono h₂ (fun ok s₃ h₃=>?_) fun _ _ z=>z.elim)) fun _ _ z=>z.elim);cases ok with
  | false=>exact wpAny_pure ⟨rfl,h₃⟩
  | true=>
   exact wpAny_bind (wpAny_bind (wpAny_mono h₃ (fun kv s₄ h₄=>wpAny_bind (wpAny_holding (wpAny_mono h₄ (fun vv s₅ h₅=>wpAny_bind (wpAny_standAt (wpAny_holding (wpAny_mono h₅ (fun _ s₆ h₆=>wpAny_pure ⟨rfl,h₆⟩) fun _ _ z=>z.elim)))) fun _ _ z=>z.elim))) fun _ _ z=>z.elim))
end
def DCr(J:It) (caps:List (Option Nat)) (g:TG) (tt:TT) (tk tv:TE) (σ : St) (H1:Hp) (Q:VK) (D:Addr):Prop:=
 ∃W:Nat->Nat->List (Key×V)->Hp->Prop,(∃m,W 0 m [] (upd H1 D (.dK [])))/\∀i m ys H,W i m ys H->
  (J.stop i H/\Q (.ref D) H)\/
  (J.go i H/\∀x H',J.yld i H x H'->g x (xk caps σ) H' fun σ2 H2=>tt σ2 H2 fun ok H3=>
   (ok=true->tk σ2 H3 fun y H4=>tv σ2 H4 fun v H5=>∃k,y=kV k/\H5 D=some (.dK ys)/\ys.length<sizeLine/\∃m',m'<m/\W (i+1) m' (zV ys k v) (upd H5 D (.dK (zV ys k v))))/\
   (ok=false->∃m',m'<m/\W (i+1) m' ys H3))
def tDC(wi:TI) (caps:List (Option Nat)) (g:TG) (tt:TT) (tk tv:TE):TE:=fun σ H Q=>wi σ H fun J H1=>∀D,H1 D=none->DCr J caps g tt tk tv σ H1 Q D
section
variable {X:Cx}{pins:List (Addr×Obj)}{σ : St}{s:Shared}{sc:Scope}{fr Nc:List Str}{caps:List (Option Nat)}{kx vx tg iter:Expr}{ifs:List Expr}{g:TG}{tt:TT}{tk tv:TE}{ow:List Nat}{pos pos2:Pos}{E:Value->Shared->Prop}
theorem zkn{H:Hp}(I:Inv X pins σ H s):sysModules<s.heap.objs.size:=I.big
theorem zeN{H2:Hp}{it:Addr}{fp:List Addr}{tn:Nat->Heap->Prop}{J:It}{Q:VK}{RR:Value->Addr->Result->Shared->Prop}
  (hc:X.calm=true) (B:xc X.env sc fr) (go:zdl g ow) (how:(ow.all fun i=>caps[i]?==some none)=true) (hcap:ur X.N Nc caps X.env sc fr=true) (hlen:caps.length=Nc.length)
  (hb:∀(pins:List (Addr×Obj)) (fp:List Addr) (s:Shared) (H:Hp) (C:Addr),PG (zN X pins sc fr Nc fp s H C) tg g/\PIf (zN X pins sc fr Nc fp s H C) ifs tt/\PE (zN X pins sc fr Nc fp s H C) kx tk/\PE (zN X pins sc fr Nc fp s H C) vx tv)
  (I2:Inv X pins σ H2 s) (T:za8 X.prog X.w X.K tg J fp it tn) (st2:tn 0 s.heap) (f2:∀b∈fp,vK X pins H2 b) (h:∀D,H2 D=none->DCr J caps g tt tk tv σ H2 Q D)
  (fin:∀(D C:Addr) (σ':St) (H':Hp) (s':Shared),Inv (zN X pins sc fr Nc fp s H2 C) [] σ' H' s'->Q (.ref D) H'->RR (.ref D) C (.ok .next) s') :
  wpAny (model X.prog X.w) X.A newDict (fun acc s₃=>wpAny (model X.prog X.w) X.A (newFunctionEnv sc X.env.globals (clB X.env fr) [] X.env.qual none .none (some X.env)) (fun cenv s₄=>
   codeAny (model X.prog X.w) X.A (.compStart (.DictComp kx vx [⟨tg,iter,ifs,0⟩] sc pos) 0 (.ref it) acc { cenv with scope:=relabel sc X.env }) (RR acc cenv.locals) s₄) E s₃) E s:=by
 have hcell:∀y∈sc.names,y.2≠.cell:=fun y hy=>by
  have h3:=List.all_eq_true.mp B.names _ hy;simp only[Bool.and_eq_true,bne_iff_ne,ne_eq] at h3;exact h3.1.1
 refine wpAny_newObj_type (wpAny_newFunctionEnv hcell (by intro y hy;simp at hy) (fun h₁ hns₁ hsb₁=>?_) B.kind)
 dsimp only at hns₁ hsb₁ |-;have hnew:(s.heap.push { cls:=.type "dict",dict:=none,data:=.dict #[] }).DictOf (z9 X.prog X.w) s.heap.objs.size []:=Heap.DictOf.new s.heap;generalize hH2:s.heap.push { cls:=.type "dict",dict:=none,data:=.dict #[] }=H3 at hns₁ hsb₁ hnew |-;have hCs:H3.objs.size=s.heap.objs.size+1:=by rw[<- hH2,Heap.size_push]
 have hDC:s.heap.objs.size≠H3.objs.size:=by rw[hCs];exact ne_of_lt (lt_succ_self _)
 have hC:s.heap.objs.size<=H3.objs.size:=by rw[hCs];exact le_succ _
 have old:∀b o,s.heap.get? b=some o->h₁.get? b=some o:=fun b o e=>
  hsb₁.extBut b o (ne_of_lt (lt_of_lt_of_le (Heap.lt_size e) hC)) (Heap.get?_push_of_some _ (hH2 ▸ Heap.get?_push_of_some _ e))
 have hsm:sysModules<s.heap.objs.size:=zkn I2;have hD:h₁.DictOf (z9 X.prog X.w) s.heap.objs.size []:=hnew.at fun o e=>hsb₁.extBut _ _ hDC (Heap.get?_push_of_some _ e);have hDo:∀H',yy X.prog X.w H' h₁ s.heap.objs.size (.dK []):=fun _=>⟨zero_le _,beq_eq_false_iff_ne.mpr (Ne.symm (ne_of_lt hsm)),[],.nil,hD⟩;have ho:∀b∈fp,∃o,s.heap.get? b=some o:=fun b hb'=>let ⟨o,e,_⟩:=T.obj 0 _ st2 b hb';⟨o,e⟩;have I4:∀t',Inv (zN X pins sc fr Nc fp s H2 H3.objs.size) [] (xk caps σ) (upd H2 s.heap.objs.size (.dK [])) { s with heap:=h₁,toks:=t' }:=fun t'=>
  zb4 I2 B f2 ho hC (le_refl _) hDC old (hDo _) hns₁ hcap hlen
 have ok:=(I4 0).ok;obtain⟨hbg,hbt,hbk,hbv⟩:=hb pins fp s H2 H3.objs.size;obtain⟨W,⟨m0,w0⟩,turn⟩:=h s.heap.objs.size (I2.hok.fresh (le_refl _));have stat:∀{H':Hp},(∀b∈fp,H' b=none)->∀b∈fp,vK (zN X pins sc fr Nc fp s H2 H3.objs.size) [] H' b:=fun hn b hb'=>
  ⟨hn b hb',(ok.exf b hb').1,ok.exfs b hb',.inl hb',(ok.exf b hb').2,fun p hp=>(f2 b hb').2.2.2.2.2 p (by simpa using hp)⟩
 have hfp0:∀b∈fp,upd H2 s.heap.objs.size (.dK []) b=none:=fun b hb'=>by
  obtain⟨o,e⟩:=ho b hb';rw[zh (ne_of_lt (Heap.lt_size e))];exact(f2 b hb').1
 have loop:∀s₃:Shared,s₃={ s with heap:=h₁,toks:=s.toks+([]:List (Str×Value)).length }->
   codeAny (model X.prog X.w) X.A (.compLoop (.DictComp kx vx [⟨tg,iter,ifs,0⟩] sc pos) 0 (.ref it) (.ref s.heap.objs.size) (compEnvC sc (clB X.env fr) H3.objs.size X.env)) (RR (.ref s.heap.objs.size) H3.objs.size) s₃:=by
  rintro s₃ rfl;refine qw (fun n s'=>∃i σ' H' ys,Inv (zN X pins sc fr Nc fp s H2 H3.objs.size) [] σ' H' s'/\tn i s'.heap/\(∀b∈fp,H' b=none)/\W i n ys H'/\
   (∀(k:Nat) (v:V),(xk caps σ)[k]?=some (some v)->σ'[k]?=some (some v))) ?_ m0
   ⟨0,_,_,[],I4 _,T.keep _ _ _ st2 (fun b _ o e=>old b o e),hfp0,w0,fun _ _ e=>e⟩
  rintro n s3 ⟨i,σ3,H4,ys,I3,st3,fr3,w3,wk3⟩;have I3':Inv (zN X pins sc fr Nc fp s H2 H3.objs.size) [] (xk caps σ) H4 s3:=I3.weak (by rw[I3.len];exact(I4 0).len) wk3
  rcases turn i n ys H4 w3 with ⟨stop,qn⟩|⟨gg,step⟩
  ·refine thn (T.done (zN X pins sc fr Nc fp s H2 H3.objs.size) rfl rfl rfl hc i [] s3 _ H4 (fun _ _=>False) I3' (stat fr3) st3 stop) fun r s4 ⟨hr,I4'⟩=>?_
   subst hr;exact fin _ _ _ _ _ I4' qn
  ·refine thn (T.item (zN X pins sc fr Nc fp s H2 H3.objs.size) rfl rfl rfl hc i [] s3 _ H4 (fun _ _=>False) I3' (stat fr3) st3 gg) fun r s4 ⟨u,hr,h4⟩=>?_
   subst hr;refine thn h4 fun _ s5 ⟨x,H5,I5,r5,y5,st5,fr5⟩=>?_;have I5':=I5.pinned (stat fr5) (T.obj _ _ st5);refine thn (hbg _ s5 _ H5 x u _ I5' r5 (go _ _ _ _ (step x H5 y5))) fun _ s6 ⟨σ6,H6,I6,q6,l6,k6⟩=>?_;have wk6:∀(k:Nat) (v:V),(xk caps σ)[k]?=some (some v)->σ6[k]?=some (some v):=fun k v e=>by
    rw[k6 k fun hk=>?_]
    ·exact e
    ·have h1:=List.all_eq_true.mp how k hk
     have h2:caps[k]?=some none:=by simpa using h1
     unfold xk at e;rw[getElem?_map,h2] at e;cases e
   refine thn (hbt _ s6 σ6 H6 _ I6 q6) fun ok s7 ⟨H7,I7,q7⟩=>?_;have again:∀{H8:Hp}{s8:Shared}{ys':List (Key×V)},Inv (zN X pins sc fr Nc fp s H2 H3.objs.size) ([]++uV fp s5.heap) σ6 H8 s8->(∃m',m'<n/\W (i+1) m' ys' H8)->
     ∃m,m<n/\∃i σ' H' ys,Inv (zN X pins sc fr Nc fp s H2 H3.objs.size) [] σ' H' s8/\tn i s8.heap/\(∀b∈fp,H' b=none)/\W i m ys H'/\(∀(k:Nat) (v:V),(xk caps σ)[k]?=some (some v)->σ'[k]?=some (some v)):=fun {H8 s8 ys'} I8 ⟨m',hm,w8⟩=>by
    refine⟨m',hm,i+1,σ6,H8,ys',I8.unpinned,T.keep _ _ _ st5 fun b hb' o e=>(I8.pin (b,o) (mem_append_right _ (mem_append_right _ (xQ hb' e)))).1,fun b hb'=>?_,w8,wk6⟩;obtain⟨o,e,d⟩:=T.obj _ _ st5 b hb';exact(I8.pin (b,o) (mem_append_right _ (mem_append_right _ (xQ hb' e)))).2.1
   cases ok with
   | false=>
    rw[if_neg Bool.false_ne_true];exact again I7 (q7.2 rfl)
   | true=>
    rw[if_pos rfl];refine thn (hbk _ s7 σ6 H7 _ I7 (q7.1 rfl)) fun uk s8 ⟨y,H8,I8,r8,q8⟩=>?_;refine thn (hbv _ s8 σ6 H8 _ I8 q8) fun uv s9 ⟨v,H9,I9,r9,k,ey,hD9,hz,q9⟩=>?_;subst ey;obtain⟨z,hd,vs,rel,dd⟩:=zgL I9.hok hD9;have hzs:vs.length<=sizeLine:=by rw[<- rel.length];exact z
    have hl:(zV ys k v).length<=sizeLine:=by have:=yV ys k v;omega
    refine wpAny_dictSet_pairs (hsz:=hzs) (jg r8) dd fun h' dd' hs=>?_;have he:∃q,h'.get? s.heap.objs.size=some q:=let ⟨q,_,_,hq,_⟩:=dd';⟨q,hq⟩;exact again (jy I9 (by rw[hD9];exact True.intro) hs he (zdc hl hd (rel.put k r9) dd')) q9
 exact codeAny_compStart_dict (loop _ rfl) (T.self _ 0 _ _ _ (T.keep _ _ _ st2 (fun b _ o e=>old b o e)) (loop _ rfl))
theorem zkF{wi:TI}(fr Nc:List Str) (caps:List (Option Nat)) (hc:X.calm=true) (B:xc X.env sc fr) (hi:PI X tg iter wi) (go:zdl g ow) (how:(ow.all fun i=>caps[i]?==some none)=true)
  (hcap:ur X.N Nc caps X.env sc fr=true) (hlen:caps.length=Nc.length)
  (hb:∀(pins:List (Addr×Obj)) (fp:List Addr) (s:Shared) (H:Hp) (C:Addr),PG (zN X pins sc fr Nc fp s H C) tg g/\PIf (zN X pins sc fr Nc fp s H C) ifs tt/\PE (zN X pins sc fr Nc fp s H C) kx tk/\PE (zN X pins sc fr Nc fp s H C) vx tv)
  (hs:∀x,foldedSetIterable iter X.env x=pure x:=by intro _;rfl):PE X (.DictComp kx vx [⟨tg,iter,ifs,0⟩] sc pos) (tDC wi caps g tt tk tv):=by
 refine⟨?_⟩;intro pins s σ H Q I h;rw[arm_eval_DictComp];refine wpAny_comprehension_free (use:=none) rfl hs B.clos B.kind B.loc (thn (hi pins s σ H _ I h) fun v s1 h1=>thn h1 fun itv s2 h2=>?_);obtain⟨it,fp,tn,J,H2,e,I2,T,st2,f2,q⟩:=h2;subst e;refine zeN (RR:=fun acc C=>compPost (model X.prog X.w) X.A X.xe none (EP X pins σ Q) acc C) hc B go how hcap hlen hb I2 T st2 f2 q ?_;intro D C σ' H' s' J' qq;obtain⟨m,hn,_⟩:=J'.loc;exact⟨m,hn,fun h' hs'=>⟨.ref D,H',zak I2 J' (ja I2 f2 J') hs',rfl,qq⟩⟩
end
def eqT(xs ys:List V):Bool:=((List.range (min xs.length ys.length)).all fun j=>eqV (xs[j]?.getD .non) (ys[j]?.getD .non))&&xs.length==ys.length
end L2
namespace K51
open PySem L2 PyProof.Rows
def top(i:Nat):Stmt:=PySem.Challenge.pw_callbinds_k51_moves_run_by_hand.main.body.getD i (.Pass ⟨0,0,0,0⟩)
abbrev zcu:Stmt:=yq (top 49) 0
abbrev zfy:Stmt:=yq (top 49) 1
abbrev jO:Stmt:=yq (top 49) 2
abbrev zaM:Stmt:=yq (top 49) 3
abbrev zco:Stmt:=yq (top 49) 4
abbrev zfn:Stmt:=yq (top 49) 5
abbrev zfq:Stmt:=yq (top 50) 0
abbrev zfD:Stmt:=yq (top 51) 0
abbrev zfo:Stmt:=yq (top 52) 0
abbrev zjd:Stmt:=yq (top 53) 0
abbrev zjj:Stmt:=yq (top 54) 0
abbrev zcD:Stmt:=yq (top 39) 0
abbrev zfx:Stmt:=yq (top 39) 1
abbrev zcC:Stmt:=yq (top 39) 2
abbrev zcE:Stmt:=yq (top 39) 3
abbrev jN:Stmt:=yq (top 39) 4
abbrev zcB:Stmt:=yq (top 39) 5
abbrev zfB:Stmt:=yq (top 39) 6
abbrev zfA:Stmt:=yq (top 39) 7
abbrev zcA:Stmt:=yq (top 39) 8
abbrev sIs:Stmt:=top 33
abbrev zjf:Stmt:=top 55
abbrev zcr:Stmt:=top 40
abbrev zaI:Stmt:=top 41
abbrev zcs:Stmt:=top 42
abbrev zaH:Stmt:=top 43
abbrev zft:Stmt:=top 44
abbrev zfu:Stmt:=top 14
abbrev jL:Stmt:=top 16
abbrev zcp:Stmt:=top 18
abbrev zaL:Stmt:=top 19
abbrev zjh:Stmt:=top 20
abbrev zcv:Stmt:=top 21
abbrev zjc:Stmt:=top 22
abbrev zfv:Stmt:=top 23
abbrev zfs:Stmt:=top 25
abbrev zhm:Stmt:=top 26
abbrev zct:Stmt:=top 17
abbrev zcF:Stmt:=top 24
abbrev zfC:Stmt:=top 57
abbrev zcz:Stmt:=top 58
abbrev zjg:Stmt:=top 59
abbrev zfr:Stmt:=top 60
abbrev zfz:Stmt:=top 61
abbrev zfw:Stmt:=top 62
abbrev zcx:Stmt:=top 63
abbrev zcn:Stmt:=top 64
abbrev zcy:Stmt:=top 65
abbrev zcm:Stmt:=top 66
abbrev jM:Stmt:=top 67
abbrev zjk:Stmt:=top 68
abbrev jK:Stmt:=top 69
abbrev zfp:Stmt:=top 70
abbrev zje:Stmt:=top 71
abbrev zaK:Stmt:=top 72
abbrev zcw:Stmt:=top 73
abbrev zcq:Stmt:=top 74
abbrev zji:Stmt:=top 75
abbrev zaN:Stmt:=top 28
abbrev zaJ:Stmt:=top 29
def low(c:Nat):Bool:=decide (97<=c)&&decide (c<=122)
def xX(z:Str):Bool:=decide (1<=z.length)&&decide (z.length<=8)&&z.cps.toList.all low
def nmV:V->Bool
 | .str z=>xX z
 | _=>false
def OkS(z:Str):Prop:=z.length<=1000/\∀c∈z.cps.toList,c<128
def OkV(K:Frag) (H:Hp) (x:V):Prop:=(∃z,x=.str z/\OkS z)\/(nmV x=false/\∃t,vZ K H x t/\kitOne K t (.type "str")=some false)
theorem qX{z:Str}:xX z=true ↔ 1<=z.length/\z.length<=8/\∀c∈z.cps.toList,97<=c/\c<=122:=by
 unfold xX low;simp only[Bool.and_eq_true,decide_eq_true_eq,all_eq_true];constructor
 ·rintro⟨⟨a,b⟩,c⟩;exact⟨a,b,c⟩
 ·rintro⟨a,b,c⟩;exact⟨⟨a,b⟩,c⟩
theorem j7{z:Str}(h:z.length=0\/9<=z.length):xX z=false:=by
 cases e:xX z with
 | false=>rfl
 | true=>
  have:=qX.mp e
  omega
theorem j6{z:Str}(h:xX z=true):OkS z:=by
 obtain⟨_,h2,h3⟩:=qX.mp h;exact⟨by omega,fun c hc=>by have:=h3 c hc;omega⟩
def letters:Str:="abcdefghijklmnopqrstuvwxyz"
theorem zcX:∀c:Nat,c<128->(!(Builtin.Str.occurrences letters ⟨#[c]⟩ 0 letters.length 1).isEmpty)=low c:=by decide +kernel
theorem zb{H:Hp}{p:Addr}(h:H p=none) (o:HO):zo H (upd H p o):=fun b u q=>by rw[zh (zd q h)];exact q
theorem zd4{K:Frag}{H H':Hp}{x:V}{t:Value}(s:zo H H') (h:vZ K H x t):vZ K H' x t:=by
 cases h with
 | non=>exact .non
 | bl b=>exact .bl b
 | int i=>exact .int i
 | str z=>exact .str z
 | flt z=>exact .flt z
 | lst e=>exact .lst (s _ _ e)
 | frz e=>exact .frz (s _ _ e)
 | tup e=>exact .tup (s _ _ e)
 | dK e=>exact .dK (s _ _ e)
 | dT e=>exact .dT (s _ _ e)
 | ins e a b c d f=>exact .ins (s _ _ e) a b c d f
theorem OkV.same{K:Frag}{H H':Hp}{x:V}(s:zo H H') (h:OkV K H x):OkV K H' x:=by
 rcases h with h|⟨h,t,ty,e⟩
 ·exact .inl h
 ·exact .inr ⟨h,t,zd4 s ty,e⟩
theorem nd1:([Str.ofString "sign"]:List Str).Nodup:=by decide +kernel
def ziZ(K:Frag):Sp:=fun vs H Q _=>∃x,vs=[x]/\OkV K H x/\∀H',zo H H'->Q (.bl (nmV x)) H'
structure zlb(K:Frag) (mg:Str->Option Value):Prop where
 isi:mg "isinstance"=none
 str:mg "str"=none
 bool:mg "bool"=none
 len:mg "len"=none
 all:mg "all"=none
 range:mg "range"=none
 letters:∃t,mg "LETTERS"=some (.str letters t)
 longest:∃t,mg "LONGEST"=some (.int 8 t)
 kNon:kitOne K (.type "NoneType") (.type "str")=some false
 kInt:kitOne K (.type "int") (.type "str")=some false
 kBl:kitOne K (.type "bool") (.type "str")=some false
 kLst:kitOne K (.type "list") (.type "str")=some false
 kTup:kitOne K (.type "tuple") (.type "str")=some false
 kDct:kitOne K (.type "dict") (.type "str")=some false
 kStr:kitOne K (.type "str") (.type "str")=some true
 bBl:kitOne K (.type "bool") (.type "bool")=some true
section
variable {P:Program}{w:World}{K:Frag}{mg:Str->Option Value}{base:Heap}{f:Addr}{fd:FuncData}
theorem zlt:zr ["thing"] ["thing"] (zi sIs):=⟨rfl,rfl,rfl,by decide +kernel,rfl,by decide +kernel,by decide +kernel⟩
theorem zkK(F:Fun K "is_name" "is_name" sIs f fd) (T:zlb K mg):zD P w K mg base CX0 1 f fd ["thing"] (ziZ K):=by
 refine F.ok zlt (fun vs H Q E h=>?_) (fun cdv A outer s H vs Q E hr h=>?_)
 ·obtain⟨x,rfl,_⟩:=h
  rfl
 obtain⟨x,rfl,hx,q⟩:=h;obtain⟨tL,hL⟩:=T.letters;obtain⟨tN,hN⟩:=T.longest;refine⟨_,zf (zH (PW.pt (wc (xf (yk (cB xB T.isi boot_isinstance (ac (pv 0) (ac (wz (v:=.ty "str") rfl T.str PyProof.Rows.boot_str rfl) zc)))))
   (xM (xf (zfL ziC ziC zg (cB za5 T.len PySem.boot_len (ac (pv 0) zc)) (wy (v:=.int 8) rfl hN ⟨_,rfl⟩))))))
   (ze (zq vn)) zv)
  (ze (zq (cB (zeT rfl) T.all boot_all (ac (xn [] ["sign"] [none] rfl ⟨rfl,rfl,rfl,rfl⟩ (zjq (pv 0)) (zY 0) rfl rfl rfl
   (fun pins fp s H C=>⟨zl (i:=0) nd1 rfl (Or.inl rfl) (.inr rfl),yO,xb zem (pv 0) (wy (v:=.str letters) rfl hL ⟨_,rfl⟩) (by with_unfolding_all rfl)⟩)) zc)))),?_⟩
 rcases hx with ⟨z,rfl,hz1,hz2⟩|⟨hn,t,ty,e⟩
 ·refine⟨_,rfl,_,_,_,_,rfl,.str z,T.kStr,_,rfl,?_⟩
  refine zK ?_;refine⟨_,rfl,z,rfl,le_trans hz1 (by decide),_,_,rfl,rfl,_,rfl,?_⟩
  have no:xX z=false->Q (.bl false) H:=fun e=>by
   have:=q H (zo.refl H)
   have e':nmV (.str z)=false:=e;rw[e'] at this;exact this
  refine zaY (fun c=>?_) (fun c=>?_)
  ·have c':(1:Int)<=(z.length:Int):=of_decide_eq_true c
   refine⟨_,_,rfl,rfl,_,rfl,?_⟩;by_cases h8:(z.length:Int)<=8
   ·rw[decide_eq_true h8]
    refine zK ?_;refine⟨_,rfl,z,rfl,fun D hD=>?_⟩;refine⟨fun i m ys H'=>i<=z.cps.size/\m=z.cps.size - i/\ys=(z.cps.toList.take i).map (fun c=>V.bl (low c))/\H'=upd H D (.lst ys),⟨_,zero_le _,rfl,rfl,rfl⟩,?_⟩;rintro i m ys H' ⟨hi,rfl,rfl,rfl⟩;by_cases he:i=z.cps.size
    ·subst he
     refine .inl ⟨le_refl _,?_⟩;refine⟨D,z.cps.toList.map low,rfl,SqL.of ?_,?_⟩
     ·rw[za,take_of_length_le (by simp),map_map]
      rfl
     ·have e:(z.cps.toList.map low).all id=nmV (.str z):=by
       show _=xX z;unfold xX;rw[decide_eq_true (show 1<=z.length by omega),decide_eq_true (show z.length<=8 by omega),List.all_map]
       rfl
      rw[e];exact q _ (zb hD _)
    ·refine .inr ⟨by show i<z.cps.size;omega,?_⟩
     rintro x H' ⟨rfl,c,hc,rfl⟩;refine⟨fun _=>?_,fun e=>Bool.noConfusion e⟩;refine⟨_,rfl,_,_,rfl,rfl,za,?_,z.cps.size - (i+1),by omega,by omega,rfl,?_,?_⟩
     ·rw[length_map,length_take]
      have:z.cps.size<=1000:=hz1
      exact zE (by omega)
     ·have hc':z.cps.toList[i]?=some c:=by simpa using hc
      have hlow:=zcX c (hz2 c (mem_of_getElem? hc'));rw[hlow,take_add_one,hc',map_append];rfl
     ·rw[zat]
   ·rw[decide_eq_false h8]
    refine yY ?_;exact no (j7 (.inr (by omega)))
  ·have c':¬(1:Int)<=(z.length:Int):=of_decide_eq_false (Bool.eq_false_iff.mpr c)
   refine⟨_,rfl,?_⟩;exact yY (no (j7 (.inl (by omega))))
 ·refine⟨_,rfl,_,_,_,_,rfl,ty,e,_,rfl,?_⟩
  refine yY ?_;refine yY ?_
  have:=q H (zo.refl H)
  rw[hn] at this;exact this
end
theorem dT{A B:Prop}{c:Prop}[Decidable c] (h:c) (a:A):if decide c=true then A else B:=by rw[decide_eq_true h];exact yY a
theorem dF{A B:Prop}{c:Prop}[Decidable c] (h:¬c) (b:B):if decide c=true then A else B:=by rw[decide_eq_false h];exact zK b
def kw:Nat->Str
 | 0=>"seat"|1=>"both"|2=>"tail"|3=>"tag"|_=>"bag"
def jR(k:Nat) (x:V) (b:Bool):List V:=match k with
 | 0=>[.str "seat",x,.bl b]|1=>[.str "both",x,.bl b]|2=>[.str "tail",x]|3=>[.str "tag",x,.bl b]|_=>[.str "bag",x]
def fr(k:Nat) (b:Bool):Bool:=match k with
 | 0=>b|1=>b|2=>true|3=>b|_=>true
theorem lt5{k:Nat}(h:k<5):k=0\/k=1\/k=2\/k=3\/k=4:=by omega
def pf(wd:Str) (x:V) (b:Bool):List (Str×V):=zX "may_lack" (.bl b) (zX "name" x (zX "word" (.str wd) []))
theorem xD{wd:Str}{x:V}{b:Bool}:(pf wd x b).lookup ("word" : Str)=some (.str wd):=by
 unfold pf;rw[zn,if_neg (by decide +kernel),zn,if_neg (by decide +kernel),zn,if_pos rfl]
theorem xR{wd:Str}{x:V}{b:Bool}:(pf wd x b).lookup ("name" : Str)=some x:=by
 unfold pf;rw[zn,if_neg (by decide +kernel),zn,if_pos rfl]
theorem js{wd:Str}{x:V}{b:Bool}:(pf wd x b).lookup ("may_lack" : Str)=some (.bl b):=by
 unfold pf;rw[zn,if_pos rfl]
theorem vA{wd:Str}{x:V}{b:Bool}{m:Str}(h1:¬m="may_lack") (h2:¬m="name") (h3:¬m="word"):(pf wd x b).lookup m=none:=by
 unfold pf;rw[zn,if_neg h1,zn,if_neg h2,zn,if_neg h3];rfl
structure MA where
 (fF fP fB fT fO:Addr)
structure PC(K:Frag) (m:MA) (C:Addr):Prop where
 cl:Cls K C
 nW:xy K C "word"
 nN:xy K C "name"
 nM:xy K C "may_lack"
 mF:yS K C "free" m.fF
 mP:yS K C "by_place" m.fP
 mB:yS K C "by_name" m.fB
 mT:yS K C "takes_one" m.fT
 mO:yS K C "told" m.fO
def spP(K:Frag) (m:MA):Sp:=fun vs H Q _=>∃(p dx C:Addr) (wd:Str) (x:V) (b:Bool),vs=[.ref p,.str wd,x,.bl b]/\H p=some (.ins C dx [])/\PC K m C/\OkV K H x/\nmV x=true/\∀H1,zo H H1->Q .non (upd H1 p (.ins C dx (pf wd x b)))
def spS(K:Frag) (C:Addr) (wd:Str):Sp:=fun vs H Q _=>∃(p dx:Addr) (x:V) (b:Bool),vs=[.ref p,x,.bl b]/\H p=some (.ins C dx [])/\OkV K H x/\nmV x=true/\∀H1,zo H H1->Q .non (upd H1 p (.ins C dx (pf wd x b)))
def spT(K:Frag) (C:Addr) (wd:Str):Sp:=fun vs H Q _=>∃(p dx:Addr) (x:V),vs=[.ref p,x]/\H p=some (.ins C dx [])/\OkV K H x/\nmV x=true/\∀H1,zo H H1->Q .non (upd H1 p (.ins C dx (pf wd x true)))
def bpL:List V:=[.str "seat",.str "both"]
def bnL:List V:=[.str "both",.str "tag"]
def otL:List V:=[.str "seat",.str "both",.str "tag"]
def zaA(K:Frag) (m:MA):Sp:=fun vs H Q _=>∃(p dx C:Addr) (wd:Str) (x:V) (b:Bool),vs=[.ref p]/\PC K m C/\H p=some (.ins C dx (pf wd x b))/\Q (.bl b) H
def uz(K:Frag) (m:MA) (l:List V):Sp:=fun vs H Q _=>∃(p dx C:Addr) (wd:Str) (x:V) (b:Bool),vs=[.ref p]/\PC K m C/\H p=some (.ins C dx (pf wd x b))/\Q (.bl (inV (.str wd) l)) H
def zcg(K:Frag) (m:MA):Sp:=fun vs H Q _=>∃(p dx C:Addr) (k:Nat) (x:V) (b:Bool),vs=[.ref p]/\k<5/\PC K m C/\H p=some (.ins C dx (pf (kw k) x (fr k b)))/\∀(r:Addr) (H':Hp),zo H H'->H' r=some (.tup (jR k x b))->Q (.ref r) H'
structure Wds(K:Frag) (mg:Str->Option Value) (tP tB tO:Addr):Prop where
 mP:mg "BY_PLACE"=some (.ref tP)
 mB:mg "BY_NAME"=some (.ref tB)
 mO:mg "OF_ONE_THING"=some (.ref tO)
 hP:∀H,SqT K H tP bpL
 hB:∀H,SqT K H tB bnL
 hO:∀H,SqT K H tO otL
section
variable {P:Program}{w:World}{K:Frag}{mg:Str->Option Value}{base:Heap}{f C tP tB tO:Addr}{fd:FuncData}{m:MA}
theorem zhd:zr ["self","word","name","may_lack"] ["self","word","name","may_lack"] (zi zcu):=⟨rfl,rfl,rfl,by decide +kernel,rfl,by decide +kernel,by decide +kernel⟩
theorem zf2{g:Addr}{gd:FuncData}(F:Fun K "__init__" "Parameter.__init__" zcu f fd) (cI:zG P w K mg base 1 "is_name" g gd ["thing"] (ziZ K)) :
  zD P w K mg base CX0 2 f fd ["self","word","name","may_lack"] (spP K m):=by
 refine F.ok zhd (fun vs H Q E h=>?_) (fun cdv A outer s H vs Q E hr h=>?_)
 ·obtain⟨p,dx,C,wd,x,b,rfl,_⟩:=h
  rfl
 obtain⟨p,dx,C,wd,x,b,rfl,hp,c,hx,q1,q2⟩:=h;refine⟨_,zf (zH (xf (yk (cF cI hr (ac (pv 2) zc)))) (ze vP) zv)
  (zf (wZ (pv 0) (pv 1) rfl) (zf (wZ (pv 0) (pv 2) rfl) (ze (wZ (pv 0) (pv 3) rfl)))),?_⟩
 refine⟨_,rfl,x,rfl,hx,fun H1 s1=>⟨_,rfl,?_⟩⟩;rw[q1];refine zK ?_;refine⟨_,rfl,_,rfl,p,C,dx,[],rfl,s1 _ _ hp,c.cl,c.nW,(by show 0<1000;decide),?_⟩
 refine⟨_,rfl,_,rfl,p,C,dx,_,rfl,za,c.cl,c.nN,(by show 1<1000;decide),?_⟩
 refine⟨_,rfl,_,rfl,p,C,dx,_,rfl,za,c.cl,c.nM,(by show 2<1000;decide),?_⟩
 rw[zat,zat];exact q2 _ s1
theorem zi3:zr ["self","name","free"] ["self","name","free"] (zi zfq):=⟨rfl,rfl,rfl,by decide +kernel,rfl,by decide +kernel,by decide +kernel⟩
theorem zhG{g D:Addr}{gd:FuncData}{ds:List Value}(F:qx K "__init__" "Seat.__init__" zfq f fd ds) (c:PC K m C) (B:qr K D "__init__" g) (mD:mg "Parameter"=some (.ref D)) (G:zD P w K mg base CX0 2 g gd ["self","word","name","may_lack"] (spP K m)) (bg:zM K gd ["self","word","name","may_lack"] []) :
  zD P w K mg base CX0 3 f fd ["self","name","free"] (spS K C "seat"):=by
 refine F.ok zi3 (fun vs H Q E h=>?_) (fun cdv A outer s H vs Q E hr h=>?_)
 ·obtain⟨p,dx,x,b,rfl,_⟩:=h
  rfl
 obtain⟨p,dx,x,b,rfl,hp,hx,q1,q2⟩:=h;refine⟨_,ze (zI (zby B mD G hr bg zW (ac (pv 0) (ac zj (ac (pv 1) (ac (pv 2) zc)))))),?_⟩;exact⟨_,rfl,_,rfl,_,rfl,p,dx,C,_,x,b,rfl,hp,c,hx,q1,q2⟩
theorem zja:zr ["self","name","free"] ["self","name","free"] (zi zfD):=⟨rfl,rfl,rfl,by decide +kernel,rfl,by decide +kernel,by decide +kernel⟩
theorem zhT{g D:Addr}{gd:FuncData}{ds:List Value}(F:qx K "__init__" "Both.__init__" zfD f fd ds) (c:PC K m C) (B:qr K D "__init__" g) (mD:mg "Parameter"=some (.ref D)) (G:zD P w K mg base CX0 2 g gd ["self","word","name","may_lack"] (spP K m)) (bg:zM K gd ["self","word","name","may_lack"] []) :
  zD P w K mg base CX0 3 f fd ["self","name","free"] (spS K C "both"):=by
 refine F.ok zja (fun vs H Q E h=>?_) (fun cdv A outer s H vs Q E hr h=>?_)
 ·obtain⟨p,dx,x,b,rfl,_⟩:=h
  rfl
 obtain⟨p,dx,x,b,rfl,hp,hx,q1,q2⟩:=h;refine⟨_,ze (zI (zby B mD G hr bg zW (ac (pv 0) (ac zj (ac (pv 1) (ac (pv 2) zc)))))),?_⟩;exact⟨_,rfl,_,rfl,_,rfl,p,dx,C,_,x,b,rfl,hp,c,hx,q1,q2⟩
theorem zku:zr ["self","name","free"] ["self","name","free"] (zi zjd):=⟨rfl,rfl,rfl,by decide +kernel,rfl,by decide +kernel,by decide +kernel⟩
theorem zjy{g D:Addr}{gd:FuncData}{ds:List Value}(F:qx K "__init__" "Tag.__init__" zjd f fd ds) (c:PC K m C) (B:qr K D "__init__" g) (mD:mg "Parameter"=some (.ref D)) (G:zD P w K mg base CX0 2 g gd ["self","word","name","may_lack"] (spP K m)) (bg:zM K gd ["self","word","name","may_lack"] []) :
  zD P w K mg base CX0 3 f fd ["self","name","free"] (spS K C "tag"):=by
 refine F.ok zku (fun vs H Q E h=>?_) (fun cdv A outer s H vs Q E hr h=>?_)
 ·obtain⟨p,dx,x,b,rfl,_⟩:=h
  rfl
 obtain⟨p,dx,x,b,rfl,hp,hx,q1,q2⟩:=h;refine⟨_,ze (zI (zby B mD G hr bg zW (ac (pv 0) (ac zj (ac (pv 1) (ac (pv 2) zc)))))),?_⟩;exact⟨_,rfl,_,rfl,_,rfl,p,dx,C,_,x,b,rfl,hp,c,hx,q1,q2⟩
theorem zi2:zr ["self","name"] ["self","name"] (zi zfo):=⟨rfl,rfl,rfl,by decide +kernel,rfl,by decide +kernel,by decide +kernel⟩
theorem zhE{g D:Addr}{gd:FuncData}(F:Fun K "__init__" "Tail.__init__" zfo f fd) (c:PC K m C) (B:qr K D "__init__" g) (mD:mg "Parameter"=some (.ref D)) (G:zD P w K mg base CX0 2 g gd ["self","word","name","may_lack"] (spP K m)) (bg:zM K gd ["self","word","name","may_lack"] []) :
  zD P w K mg base CX0 3 f fd ["self","name"] (spT K C "tail"):=by
 refine F.ok zi2 (fun vs H Q E h=>?_) (fun cdv A outer s H vs Q E hr h=>?_)
 ·obtain⟨p,dx,x,rfl,_⟩:=h
  rfl
 obtain⟨p,dx,x,rfl,hp,hx,q1,q2⟩:=h;refine⟨_,ze (zI (zby B mD G hr bg zW (ac (pv 0) (ac zj (ac (pv 1) (ac vn zc)))))),?_⟩;exact⟨_,rfl,_,rfl,p,dx,C,_,x,true,rfl,hp,c,hx,q1,q2⟩
theorem zkv:zr ["self","name"] ["self","name"] (zi zjj):=⟨rfl,rfl,rfl,by decide +kernel,rfl,by decide +kernel,by decide +kernel⟩
theorem zjF{g D:Addr}{gd:FuncData}(F:Fun K "__init__" "Bag.__init__" zjj f fd) (c:PC K m C) (B:qr K D "__init__" g) (mD:mg "Parameter"=some (.ref D)) (G:zD P w K mg base CX0 2 g gd ["self","word","name","may_lack"] (spP K m)) (bg:zM K gd ["self","word","name","may_lack"] []) :
  zD P w K mg base CX0 3 f fd ["self","name"] (spT K C "bag"):=by
 refine F.ok zkv (fun vs H Q E h=>?_) (fun cdv A outer s H vs Q E hr h=>?_)
 ·obtain⟨p,dx,x,rfl,_⟩:=h
  rfl
 obtain⟨p,dx,x,rfl,hp,hx,q1,q2⟩:=h;refine⟨_,ze (zI (zby B mD G hr bg zW (ac (pv 0) (ac zj (ac (pv 1) (ac vn zc)))))),?_⟩;exact⟨_,rfl,_,rfl,p,dx,C,_,x,true,rfl,hp,c,hx,q1,q2⟩
theorem zi6:zr ["self"] ["self"] (zi zfy):=⟨rfl,rfl,rfl,by decide +kernel,rfl,by decide +kernel,by decide +kernel⟩
theorem zhO(F:Fun K "free" "Parameter.free" zfy f fd):zD P w K mg base CX0 1 f fd ["self"] (zaA K m):=by
 refine F.ok zi6 (fun vs H Q E h=>?_) (fun cdv A outer s H vs Q E hr h=>?_)
 ·obtain⟨p,dx,C,wd,x,b,rfl,_⟩:=h
  rfl
 obtain⟨p,dx,C,wd,x,b,rfl,c,hp,q⟩:=h;refine⟨_,ze (zq (ym (pv 0) rfl)),?_⟩;exact⟨_,rfl,p,C,dx,_,_,rfl,hp,c.cl,c.nM,js,q⟩
theorem zed:zr ["self"] ["self"] (zi jO):=⟨rfl,rfl,rfl,by decide +kernel,rfl,by decide +kernel,by decide +kernel⟩
theorem zbF(F:Fun K "by_place" "Parameter.by_place" jO f fd) (Wd:Wds K mg tP tB tO):zD P w K mg base CX0 1 f fd ["self"] (uz K m bpL):=by
 refine F.ok zed (fun vs H Q E h=>?_) (fun cdv A outer s H vs Q E hr h=>?_)
 ·obtain⟨p,dx,C,wd,x,b,rfl,_⟩:=h
  rfl
 obtain⟨p,dx,C,wd,x,b,rfl,c,hp,q⟩:=h;refine⟨_,ze (zq (xb yh (ym (pv 0) rfl) (wy (v:=.ref tP) rfl Wd.mP rfl) (by with_unfolding_all rfl))),?_⟩
 exact⟨_,rfl,p,C,dx,_,_,rfl,hp,c.cl,c.nW,xD,tP,bpL,rfl,.inr (Wd.hP H),rfl,(by decide),q⟩
theorem zfm:zr ["self"] ["self"] (zi zaM):=⟨rfl,rfl,rfl,by decide +kernel,rfl,by decide +kernel,by decide +kernel⟩
theorem zcR(F:Fun K "by_name" "Parameter.by_name" zaM f fd) (Wd:Wds K mg tP tB tO):zD P w K mg base CX0 1 f fd ["self"] (uz K m bnL):=by
 refine F.ok zfm (fun vs H Q E h=>?_) (fun cdv A outer s H vs Q E hr h=>?_)
 ·obtain⟨p,dx,C,wd,x,b,rfl,_⟩:=h
  rfl
 obtain⟨p,dx,C,wd,x,b,rfl,c,hp,q⟩:=h;refine⟨_,ze (zq (xb yh (ym (pv 0) rfl) (wy (v:=.ref tB) rfl Wd.mB rfl) (by with_unfolding_all rfl))),?_⟩
 exact⟨_,rfl,p,C,dx,_,_,rfl,hp,c.cl,c.nW,xD,tB,bnL,rfl,.inr (Wd.hB H),rfl,(by decide),q⟩
theorem zhb:zr ["self"] ["self"] (zi zco):=⟨rfl,rfl,rfl,by decide +kernel,rfl,by decide +kernel,by decide +kernel⟩
theorem zaT(F:Fun K "takes_one" "Parameter.takes_one" zco f fd) (Wd:Wds K mg tP tB tO):zD P w K mg base CX0 1 f fd ["self"] (uz K m otL):=by
 refine F.ok zhb (fun vs H Q E h=>?_) (fun cdv A outer s H vs Q E hr h=>?_)
 ·obtain⟨p,dx,C,wd,x,b,rfl,_⟩:=h
  rfl
 obtain⟨p,dx,C,wd,x,b,rfl,c,hp,q⟩:=h;refine⟨_,ze (zq (xb yh (ym (pv 0) rfl) (wy (v:=.ref tO) rfl Wd.mO rfl) (by with_unfolding_all rfl))),?_⟩
 exact⟨_,rfl,p,C,dx,_,_,rfl,hp,c.cl,c.nW,xD,tO,otL,rfl,.inr (Wd.hO H),rfl,(by decide),q⟩
theorem zi1:zr ["self"] ["self"] (zi zfn):=⟨rfl,rfl,rfl,by decide +kernel,rfl,by decide +kernel,by decide +kernel⟩
theorem zhD{gd:FuncData}(F:Fun K "told" "Parameter.told" zfn f fd) (G:zD P w K mg base CX0 1 m.fT gd ["self"] (uz K m otL)) (bg:zM K gd ["self"] []):zD P w K mg base CX0 2 f fd ["self"] (zcg K m):=by
 refine F.ok zi1 (fun vs H Q E h=>?_) (fun cdv A outer s H vs Q E hr h=>?_)
 ·obtain⟨p,dx,C,k,x,b,rfl,_⟩:=h
  rfl
 obtain⟨p,dx,C,k,x,b,rfl,hk,c,hp,q⟩:=h;have nt:(pf (kw k) x (fr k b)).lookup ("takes_one" : Str)=none:=vA (by decide +kernel) (by decide +kernel) (by decide +kernel)
 refine⟨_,zf (zH (yk (zU (pv 0) c.cl c.mT G hr bg .nil zW)) (ze (zq (zC (ac (ym (pv 0) rfl) (ac (ym (pv 0) rfl) (ac (ym (pv 0) rfl) zc)))))) zv)
  (ze (zq (zC (ac (ym (pv 0) rfl) (ac (ym (pv 0) rfl) zc))))),?_⟩
 refine⟨_,rfl,p,dx,_,rfl,hp,nt,p,dx,C,kw k,x,fr k b,rfl,c,hp,_,rfl,?_⟩;have fW:∃b',pf (kw k) x (fr k b)=pf (kw k) x b':=⟨_,rfl⟩;rcases lt5 hk with rfl|rfl|rfl|rfl|rfl
 ·refine yY ?_
  exact⟨_,rfl,p,C,dx,_,_,rfl,hp,c.cl,c.nW,xD,_,rfl,p,C,dx,_,_,rfl,hp,c.cl,c.nN,xR,_,rfl,p,C,dx,_,_,rfl,hp,c.cl,c.nM,js,zz3,fun r hr=>q r _ (zb hr _) za⟩
 ·refine yY ?_
  exact⟨_,rfl,p,C,dx,_,_,rfl,hp,c.cl,c.nW,xD,_,rfl,p,C,dx,_,_,rfl,hp,c.cl,c.nN,xR,_,rfl,p,C,dx,_,_,rfl,hp,c.cl,c.nM,js,zz3,fun r hr=>q r _ (zb hr _) za⟩
 ·refine zK ?_
  exact⟨_,rfl,p,C,dx,_,_,rfl,hp,c.cl,c.nW,xD,_,rfl,p,C,dx,_,_,rfl,hp,c.cl,c.nN,xR,zz2,fun r hr=>q r _ (zb hr _) za⟩
 ·refine yY ?_
  exact⟨_,rfl,p,C,dx,_,_,rfl,hp,c.cl,c.nW,xD,_,rfl,p,C,dx,_,_,rfl,hp,c.cl,c.nN,xR,_,rfl,p,C,dx,_,_,rfl,hp,c.cl,c.nM,js,zz3,fun r hr=>q r _ (zb hr _) za⟩
 ·refine zK ?_
  exact⟨_,rfl,p,C,dx,_,_,rfl,hp,c.cl,c.nW,xD,_,rfl,p,C,dx,_,_,rfl,hp,c.cl,c.nN,xR,zz2,fun r hr=>q r _ (zb hr _) za⟩
end
structure C5 where
 (c0 c1 c2 c3 c4:Addr)
def C5.at(c:C5):Nat->Addr
 | 0=>c.c0|1=>c.c1|2=>c.c2|3=>c.c3|_=>c.c4
structure ziM(P:Program) (w:World) (K:Frag) (mg:Str->Option Value) (base:Heap) (c:C5) (i0 i1 i2 i3 i4:Addr) (d0 d1 d2 d3 d4:FuncData):Prop where
 k0:zeV P w K mg base CX0 3 "Seat" c.c0 i0 d0 ["self","name","free"] [] (spS K c.c0 "seat")
 k1:zeV P w K mg base CX0 3 "Both" c.c1 i1 d1 ["self","name","free"] [] (spS K c.c1 "both")
 k2:zeV P w K mg base CX0 3 "Tail" c.c2 i2 d2 ["self","name"] [] (spT K c.c2 "tail")
 k3:zeV P w K mg base CX0 3 "Tag" c.c3 i3 d3 ["self","name","free"] [] (spS K c.c3 "tag")
 k4:zeV P w K mg base CX0 3 "Bag" c.c4 i4 d4 ["self","name"] [] (spT K c.c4 "bag")
def Res(c:C5) (H:Hp) (k:Nat) (x:V) (b:Bool) (Q:VK):Prop:=
 nmV x=true/\∀(o dx:Addr) (H':Hp),zo H H'->H' o=some (.ins (c.at k) dx (pf (kw k) x (fr k b)))->Q (.ref o) H'
def zis(K:Frag) (c:C5):Sp:=fun vs H Q _=>∃(p:Addr) (k:Nat) (x:V) (b:Bool),vs=[.ref p]/\k<5/\H p=some (.tup (jR k x b))/\OkV K H x/\Res c H k x b Q
theorem zlK:¬(V.str "both"=V.str "seat"):=by decide +kernel
theorem zlJ:¬(V.str "tail"=V.str "seat"):=by decide +kernel
theorem zlI:¬(V.str "tail"=V.str "both"):=by decide +kernel
theorem zlH:¬(V.str "tag"=V.str "seat"):=by decide +kernel
theorem zlG:¬(V.str "tag"=V.str "both"):=by decide +kernel
theorem zlF:¬(V.str "tag"=V.str "tail"):=by decide +kernel
theorem zlE:¬(V.str "bag"=V.str "seat"):=by decide +kernel
theorem zlD:¬(V.str "bag"=V.str "both"):=by decide +kernel
theorem zlC:¬(V.str "bag"=V.str "tail"):=by decide +kernel
theorem zlB:¬(V.str "bag"=V.str "tag"):=by decide +kernel
section
variable {P:Program}{w:World}{K:Frag}{mg:Str->Option Value}{base:Heap}{f i0 i1 i2 i3 i4:Addr}{fd d0 d1 d2 d3 d4:FuncData}{c:C5}
theorem zgn{x:V}{k:Nat}{b:Bool}:atI (jR k x b) 1=some x:=by unfold jR;split <;> rfl
theorem qv{x:V}{k:Nat}{b:Bool}(h:k<5):atI (jR k x b) 0=some (.str (kw k)):=by rcases lt5 h with rfl|rfl|rfl|rfl|rfl <;> rfl
theorem zix:zr ["told","word"] ["told"] (zi zjf):=⟨rfl,rfl,rfl,by decide +kernel,rfl,by decide +kernel,by decide +kernel⟩
theorem zjA(F:Fun K "parameter_of" "parameter_of" zjf f fd) (U:ziM P w K mg base c i0 i1 i2 i3 i4 d0 d1 d2 d3 d4):zD P w K mg base CX0 5 f fd ["told"] (zis K c):=by
 refine F.ok zix (fun vs H Q E h=>?_) (fun cdv A outer s H vs Q E hr h=>?_)
 ·obtain⟨p,k,x,b,rfl,_⟩:=h
  rfl
 obtain⟨p,k,x,b,rfl,hk,hp,hx,r1,r2⟩:=h;refine⟨_,zf (zu (i:=1) zix.nd rfl (Or.inl rfl) (zB zy (pv 0) zg (fun _ _=>rfl)))
  (zf (zH (zk z7 (pv 1) zj (zt _)) (ze (zq (cMk U.k0 .nil zW hr (ac (zB zy (pv 0) zg (fun _ _=>rfl)) (ac (zB zy (pv 0) zg (fun _ _=>rfl)) zc))))) zv)
  (zf (zH (zk z7 (pv 1) zj (zt _)) (ze (zq (cMk U.k1 .nil zW hr (ac (zB zy (pv 0) zg (fun _ _=>rfl)) (ac (zB zy (pv 0) zg (fun _ _=>rfl)) zc))))) zv)
  (zf (zH (zk z7 (pv 1) zj (zt _)) (ze (zq (cMk U.k2 .nil zW hr (ac (zB zy (pv 0) zg (fun _ _=>rfl)) zc)))) zv)
  (zf (zH (zk z7 (pv 1) zj (zt _)) (ze (zq (cMk U.k3 .nil zW hr (ac (zB zy (pv 0) zg (fun _ _=>rfl)) (ac (zB zy (pv 0) zg (fun _ _=>rfl)) zc))))) zv)
  (ze (zq (cMk U.k4 .nil zW hr (ac (zB zy (pv 0) zg (fun _ _=>rfl)) zc)))))))),?_⟩
 refine⟨_,rfl,p,_,_,.str (kw k),rfl,rfl,SqT.of hp,qv hk,?_⟩;rcases lt5 hk with rfl|rfl|rfl|rfl|rfl
 ·have hS:SqT K H p _:=SqT.of hp
  refine⟨_,rfl,rfl,_,rfl,?_⟩;refine dT rfl ?_;exact⟨_,rfl,p,_,_,x,rfl,rfl,hS,rfl,_,rfl,p,_,_,.bl b,rfl,rfl,hS,rfl,fun o dx ho hdx ne=>⟨o,dx,x,b,rfl,za,hx.same (xw ho hdx),r1,fun H1 s1=>⟨rfl,r2 o dx _ (wo ho hdx s1) za⟩⟩⟩
 ·have hS:SqT K H p _:=SqT.of hp
  refine⟨_,rfl,rfl,_,rfl,?_⟩;refine dF zlK ?_;refine⟨_,rfl,rfl,_,rfl,?_⟩;refine dT rfl ?_;exact⟨_,rfl,p,_,_,x,rfl,rfl,hS,rfl,_,rfl,p,_,_,.bl b,rfl,rfl,hS,rfl,fun o dx ho hdx ne=>⟨o,dx,x,b,rfl,za,hx.same (xw ho hdx),r1,fun H1 s1=>⟨rfl,r2 o dx _ (wo ho hdx s1) za⟩⟩⟩
 ·have hS:SqT K H p _:=SqT.of hp
  refine⟨_,rfl,rfl,_,rfl,?_⟩;refine dF zlJ ?_;refine⟨_,rfl,rfl,_,rfl,?_⟩;refine dF zlI ?_;refine⟨_,rfl,rfl,_,rfl,?_⟩;refine dT rfl ?_;exact⟨_,rfl,p,_,_,x,rfl,rfl,hS,rfl,fun o dx ho hdx ne=>⟨o,dx,x,rfl,za,hx.same (xw ho hdx),r1,fun H1 s1=>⟨rfl,r2 o dx _ (wo ho hdx s1) za⟩⟩⟩
 ·have hS:SqT K H p _:=SqT.of hp
  refine⟨_,rfl,rfl,_,rfl,?_⟩;refine dF zlH ?_;refine⟨_,rfl,rfl,_,rfl,?_⟩;refine dF zlG ?_;refine⟨_,rfl,rfl,_,rfl,?_⟩;refine dF zlF ?_;refine⟨_,rfl,rfl,_,rfl,?_⟩;refine dT rfl ?_;exact⟨_,rfl,p,_,_,x,rfl,rfl,hS,rfl,_,rfl,p,_,_,.bl b,rfl,rfl,hS,rfl,fun o dx ho hdx ne=>⟨o,dx,x,b,rfl,za,hx.same (xw ho hdx),r1,fun H1 s1=>⟨rfl,r2 o dx _ (wo ho hdx s1) za⟩⟩⟩
 ·have hS:SqT K H p _:=SqT.of hp
  refine⟨_,rfl,rfl,_,rfl,?_⟩;refine dF zlE ?_;refine⟨_,rfl,rfl,_,rfl,?_⟩;refine dF zlD ?_;refine⟨_,rfl,rfl,_,rfl,?_⟩;refine dF zlC ?_;refine⟨_,rfl,rfl,_,rfl,?_⟩;refine dF zlB ?_;exact⟨_,rfl,p,_,_,x,rfl,rfl,hS,rfl,fun o dx ho hdx ne=>⟨o,dx,x,rfl,za,hx.same (xw ho hdx),r1,fun H1 s1=>⟨rfl,r2 o dx _ (wo ho hdx s1) za⟩⟩⟩
end
end K51
namespace L2
open PySem PySem.Spec PyProof.Rows
def dcN(n i:Nat) (D:Addr) (Pv:Nat->List (Key×V)->Hp->Prop) (ys:List (Key×V)) (y:V):VK:=fun v H5=>∃k,y=kV k/\H5 D=some (.dK ys)/\ys.length<sizeLine/\∃m',m'<n - i/\m'=n - (i+1)/\i+1<=n/\Pv (i+1) (zV ys k v) (upd H5 D (.dK (zV ys k v)))
def dcS(n i:Nat) (Pv:Nat->List (Key×V)->Hp->Prop) (ys:List (Key×V)) (H4:Hp):Prop:=∃m',m'<n - i/\m'=n - (i+1)/\i+1<=n/\Pv (i+1) ys H4
theorem dcN.mk{n i:Nat}{D:Addr}{Pv:Nat->List (Key×V)->Hp->Prop}{ys:List (Key×V)}{y v:V}{H5:Hp}(k:Key) (hi:i<n) (ek:y=kV k) (hn:n<=sizeLine) (hD:H5 D=some (.dK ys)) (hy:ys.length<=i) (p:Pv (i+1) (zV ys k v) (upd H5 D (.dK (zV ys k v)))):dcN n i D Pv ys y v H5:=
 ⟨k,ek,hD,by omega,n - (i+1),by omega,rfl,hi,p⟩
theorem dcS.mk{n i:Nat}{Pv:Nat->List (Key×V)->Hp->Prop}{ys:List (Key×V)}{H4:Hp}(hi:i<n) (p:Pv (i+1) ys H4):dcS n i Pv ys H4:=⟨n - (i+1),by omega,rfl,hi,p⟩
theorem zib{K:Frag}{a:Addr}{xs:List V}{caps:List (Option Nat)}{g:TG}{tt:TT}{tk tv:TE}{σ : St}{H1:Hp}{Q:VK}{D:Addr}(Pv:Nat->List (Key×V)->Hp->Prop) (h0:Pv 0 [] (upd H1 D (.dK [])))
  (hl:∀i ys H,Pv i ys H->SqL K H a xs)
  (hs:∀i x p ys H,i<xs.length->xs[i]?=some x->Pv i ys H->H p=none->g (.ref p) (xk caps σ) (upd H p (.tup [.int i,x])) fun σ2 H2=>tt σ2 H2 fun ok H3=>(ok=true->tk σ2 H3 fun y H4=>tv σ2 H4 (dcN xs.length i D Pv ys y))/\(ok=false->dcS xs.length i Pv ys H3))
  (hd:∀ys H,Pv xs.length ys H->Q (.ref D) H):DCr (Ite K a) caps g tt tk tv σ H1 Q D:=by
 refine⟨fun i m ys H=>m=xs.length - i/\i<=xs.length/\Pv i ys H,⟨xs.length,by simp,zero_le _,h0⟩,?_⟩
 rintro i m ys H ⟨rfl,hi,p⟩;have q:=hl i ys H p;by_cases hlt:i<xs.length
 ·refine .inr ⟨⟨xs,xs[i],q,by simp [hlt]⟩,fun x H' y=>?_⟩
  obtain⟨pp,y,rfl,hp,y2,rfl⟩:=y;exact hs i y pp ys H hlt (y2 xs q) p hp
 ·have e:i=xs.length:=by omega
  subst e;exact .inl ⟨⟨xs,q,le_refl _⟩,hd ys H p⟩
end L2
namespace K51
open PySem L2 PyProof.Rows
structure Rw where
 (k:Nat) (z:Str) (b:Bool)
def Rw.ok(r:Rw):Prop:=r.k<5/\xX r.z=true
abbrev rv(r:Rw):List V:=jR r.k (.str r.z) r.b
abbrev pr(r:Rw):List (Str×V):=pf (kw r.k) (.str r.z) (fr r.k r.b)
def PAt(c:C5) (H:Hp) (p:Addr) (r:Rw):Prop:=∃dx,H p=some (.ins (c.at r.k) dx (pr r))
def xl(k:Nat):Bool:=k==0||k==1
def zR(k:Nat):Bool:=k==1||k==3
theorem zgw:∀k:Nat,k<5->inV (.str (kw k)) bpL=xl k:=by decide +kernel
theorem uK:∀k:Nat,k<5->inV (.str (kw k)) bnL=zR k:=by decide +kernel
def grp:Nat->Nat
 | 0=>0|1=>0|2=>1|3=>2|_=>3
def xK(l g:Nat):Bool:=decide (g<l)||(g==l&&(g==1||g==3))
def yn:Nat->List Rw->Bool
 | _,[]=>true
 | l,r::rs=>!xK l (grp r.k)&&yn (grp r.k) rs
def nms(rows:List Rw):List Str:=(rows.filter fun r=>zR r.k).map (·.z)
structure yN(rows:List Rw) (bars:List Str):Prop where
 ok:∀r∈rows,r.ok
 l24:rows.length<=24
 l60:bars.length<=60
 ord:yn 0 rows=true
 bn:∀z∈bars,xX z=true
 nd:(nms rows++bars).Nodup
def zm(kk:Nat):Nat->List Rw->Option Nat
 | _,[]=>none
 | i,r::rs=>if r.k=kk then some i else zm kk (i+1) rs
def ww:Option Nat->V
 | none=>.non
 | some i=>.int i
def yM:Nat->List (Key×V)->List Rw->List (Key×V)
 | _,acc,[]=>acc
 | i,acc,r::rs=>yM (i+1) (if zR r.k=true then zV acc (.inr r.z) (.int i) else acc) rs
def plN(rows:List Rw):Nat:=(rows.filter fun r=>xl r.k).length
def zgT:List Str:=["row","bar_names","place_count","tail_number","bag_number","doors"]
structure FF(fs:List (Str×V)) (lr lb ld:Addr) (rows:List Rw):Prop where
 row:fs.lookup ("row" : Str)=some (.ref lr)
 bn:fs.lookup ("bar_names" : Str)=some (.ref lb)
 pc:fs.lookup ("place_count" : Str)=some (.int (plN rows))
 tn:fs.lookup ("tail_number" : Str)=some (ww (zm 2 0 rows))
 bg:fs.lookup ("bag_number" : Str)=some (ww (zm 4 0 rows))
 dr:fs.lookup ("doors" : Str)=some (.ref ld)
 no:∀m,m∉zgT->fs.lookup m=none
def xr(c:C5) (CF:Addr) (H:Hp) (f:Addr) (rows:List Rw) (bars:List Str):Prop:=
 ∃dx fs lr lb ld ps,H f=some (.ins CF dx fs)/\FF fs lr lb ld rows/\H lr=some (.lst (ps.map V.ref))/\Paired (PAt c H) ps rows/\H lb=some (.lst (bars.map V.str))/\H ld=some (.dK (yM 0 [] rows))
section
variable {c:C5}{CF f p:Addr}{H H':Hp}{rows:List Rw}{bars:List Str}{r:Rw}{ps:List Addr}
theorem PAt.same(h:PAt c H p r) (s:zo H H'):PAt c H' p r:=h.imp fun _=>s _ _
theorem xP(s:zo H H') (h:Paired (PAt c H) ps rows):Paired (PAt c H') ps rows:=Paired.imp' (fun _ _ z=>z.same s) h
theorem xr.same(h:xr c CF H f rows bars) (s:zo H H'):xr c CF H' f rows bars:=by
 obtain⟨dx,fs,lr,lb,ld,ps,h1,h2,h3,h4,h5,h6⟩:=h;exact⟨dx,fs,lr,lb,ld,ps,s _ _ h1,h2,s _ _ h3,xP s h4,s _ _ h5,s _ _ h6⟩
def qp(c:C5) (CF:Addr) (H H':Hp) (f:Addr) (rows:List Rw) (bars:List Str):Prop:=
 ∃dx fs lr lb ld ps,H' f=some (.ins CF dx fs)/\FF fs lr lb ld rows/\H' lr=some (.lst (ps.map V.ref))/\Paired (PAt c H') ps rows/\H' lb=some (.lst (bars.map V.str))/\H' ld=some (.dK (yM 0 [] rows))/\H lr=none/\H lb=none
theorem qp.at(h:qp c CF H H' f rows bars):xr c CF H' f rows bars:=by
 obtain⟨dx,fs,lr,lb,ld,ps,h1,h2,h3,h4,h5,h6,_,_⟩:=h;exact⟨dx,fs,lr,lb,ld,ps,h1,h2,h3,h4,h5,h6⟩
theorem qp.of{H0:Hp}(h:qp c CF H H' f rows bars) (s:zo H0 H):qp c CF H0 H' f rows bars:=by
 obtain⟨dx,fs,lr,lb,ld,ps,h1,h2,h3,h4,h5,h6,h7,h8⟩:=h;exact⟨dx,fs,lr,lb,ld,ps,h1,h2,h3,h4,h5,h6,s.free h7,s.free h8⟩
theorem yg{α β : Type}{R : α->β->Prop}{xs:List α}{ys:List β}(h:Paired R xs ys):∀{i:Nat}{x : α},xs[i]?=some x->∃y,ys[i]?=some y/\R x y:=by
 induction h with
 | nil=>intro i x e;simp at e
 | cons r t ih=>
  intro i x e;cases i with
  | zero=>exact⟨_,rfl,by simp at e;exact e ▸ r⟩
  | succ i=>simpa using ih (by simpa using e)
end
def zh1(x:Str):Option V:=([(("seat" : Str),V.int 0),("both",.int 0),("tail",.int 1),("tag",.int 2),("bag",.int 3)]:List (Str×V)).lookup x
theorem zh0:∀k:Nat,k<5->zh1 (kw k)=some (.int (grp k)):=by decide +kernel
theorem zjT(k:Nat):grp k<4:=by unfold grp;split <;> decide
structure za7(w:World) (K:Frag) (mg:Str->Option Value) (G sg:Addr):Prop where
 len:mg "len"=none
 en:mg "enumerate"=none
 lst:mg "list"=none
 set:mg "set"=none
 mp:∃t,mg "MOST_PARAMETERS"=some (.int 24 t)
 mb:∃t,mg "MOST_BARS"=some (.int 60 t)
 mgr:mg "GROUPS"=some (.ref G)
 gt:zj7 w K G zh1
 ms:mg "SINGLE_GROUPS"=some (.ref sg)
 hs:∀H,SqT K H sg [.int 1,.int 3]
def Cs5(c:C5):Addr->Prop:=fun C=>∃k,k<5/\C=c.at k
def ze9(K:Frag):Sp:=fun vs H Q _=>∃(a b:Addr) (xs ys:List V),vs=[.ref a,.ref b]/\SqL K H a xs/\SqL K H b ys/\xs.length<=24/\ys.length<=60/\Q .non H
def zit(c:C5):Sp:=fun vs H Q _=>∃(a:Addr) (ps:List Addr) (rows:List Rw),vs=[.ref a]/\H a=some (.lst (ps.map V.ref))/\Paired (PAt c H) ps rows/\(∀r∈rows,r.ok)/\yn 0 rows=true/\∀H',zo H H'->Q .non H'
def zkp:Sp:=fun vs H Q _=>∃(b:Addr) (bars:List Str),vs=[.ref b]/\H b=some (.lst (bars.map V.str))/\(∀z∈bars,xX z=true)/\∀H',zo H H'->Q .non H'
def zko(c:C5):Sp:=fun vs H Q _=>∃(a b:Addr) (ps:List Addr) (rows:List Rw) (bars:List Str),vs=[.ref a,.ref b]/\H a=some (.lst (ps.map V.ref))/\Paired (PAt c H) ps rows/\(∀r∈rows,r.ok)/\rows.length<=500/\H b=some (.lst (bars.map V.str))/\bars.length<=500/\(nms rows++bars).Nodup/\∀H',zo H H'->Q .non H'
def zkr(c:C5):Sp:=fun vs H Q _=>∃(a:Addr) (ps:List Addr) (rows:List Rw) (kk:Nat),vs=[.ref a,.str (kw kk)]/\kk<5/\H a=some (.lst (ps.map V.ref))/\Paired (PAt c H) ps rows/\(∀r∈rows,r.ok)/\∀H',zo H H'->Q (ww (zm kk 0 rows)) H'
theorem zjJ:∀i:Nat,i<5->∀k:Nat,k<5->decide (V.str (kw k)=V.str (kw i))=(k==i):=by decide +kernel
theorem zdU{α : Type}{xs:List α}{i:Nat}{x : α}(h:xs[i]?=some x):xs.drop i=x::xs.drop (i+1):=by
 have hi:i<xs.length:=(List.getElem?_eq_some_iff.mp h).1;rw[drop_eq_getElem_cons hi];rw[getElem?_eq_getElem hi] at h;rw[Option.some.inj h]
theorem xa{ps:List Addr}{i:Nat}{x:V}(h:(ps.map V.ref)[i]?=some x):∃p,ps[i]?=some p/\x=.ref p:=by
 rw[getElem?_map] at h;cases e:ps[i]? with
 | none=>rw[e] at h;cases h
 | some p=>rw[e] at h;exact⟨p,rfl,(Option.some.inj h).symm⟩
theorem strs_at{zs:List Str}{i:Nat}{x:V}(h:(zs.map V.str)[i]?=some x):∃z,zs[i]?=some z/\x=.str z:=by
 rw[getElem?_map] at h;cases e:zs[i]? with
 | none=>rw[e] at h;cases h
 | some p=>rw[e] at h;exact⟨p,rfl,(Option.some.inj h).symm⟩
section
variable {P:Program}{w:World}{K:Frag}{mg:Str->Option Value}{base:Heap}{f G sg:Addr}{fd:FuncData}{c:C5}{m:MA}
def Pcs(K:Frag) (m:MA) (c:C5):Prop:=∀k,k<5->PC K m (c.at k)
theorem zhc:zr ["parameters","bars"] ["parameters","bars"] (zi zcr):=⟨rfl,rfl,rfl,by decide +kernel,rfl,by decide +kernel,by decide +kernel⟩
theorem zhK(F:Fun K "refuse_too_many" "refuse_too_many" zcr f fd) (T:za7 w K mg G sg):zD P w K mg base CX0 1 f fd ["parameters","bars"] (ze9 K):=by
 refine F.ok zhc (fun vs H Q E h=>?_) (fun cdv A outer s H vs Q E hr h=>?_)
 ·obtain⟨a,b,xs,ys,rfl,_⟩:=h
  rfl
 obtain⟨a,b,xs,ys,rfl,ha,hb,l1,l2,q⟩:=h;obtain⟨t1,m1⟩:=T.mp;obtain⟨t2,m2⟩:=T.mb;refine⟨_,zf (zH (zk qT (cB zw T.len PySem.boot_len (ac (pv 0) zc)) (wy (v:=.int 24) rfl m1 ⟨_,rfl⟩) (zt _)) (ze vP) zv)
  (ze (zH (zk qT (cB zw T.len PySem.boot_len (ac (pv 1) zc)) (wy (v:=.int 60) rfl m2 ⟨_,rfl⟩) (zt _)) (ze vP) zv)),?_⟩
 refine⟨_,rfl,a,_,rfl,.inl ha,_,_,rfl,rfl,_,rfl,?_⟩;refine dF (by show ¬(24:Int)<(xs.length:Int);omega) ?_
 refine⟨_,rfl,b,_,rfl,.inl hb,_,_,rfl,rfl,_,rfl,?_⟩;exact dF (by show ¬(60:Int)<(ys.length:Int);omega) q
theorem wJ:zr ["parameters","last","at","parameter","group"] ["parameters"] (zi zaI):=⟨rfl,rfl,rfl,by decide +kernel,rfl,by decide +kernel,by decide +kernel⟩
theorem zf5(F:Fun K "refuse_bad_order" "refuse_bad_order" zaI f fd) (T:za7 w K mg G sg) (PP:Pcs K m c):zD P w K mg base CX0 1 f fd ["parameters"] (zit c):=by
 refine F.ok wJ (fun vs H Q E h=>?_) (fun cdv A outer s H vs Q E hr h=>?_)
 ·obtain⟨a,ps,rows,rfl,_⟩:=h
  rfl
 obtain⟨a,ps,rows,rfl,ha,hp,hok,ho,q⟩:=h;refine⟨_,zf (zu (i:=1) wJ.nd rfl (Or.inl rfl) zg)
  (ze (xq PassesOwn.never rfl (yH rfl T.en (ac (pv 0) zc)) (yi rfl (zp (zl (i:=2) wJ.nd rfl (Or.inl rfl)) (zp (zl (i:=3) wJ.nd rfl (Or.inl rfl)) zS)))
   (zf (zu (i:=4) wJ.nd rfl (Or.inl rfl) (zhu T.gt T.mgr (ym (pv 3) rfl)))
   (zf (zH (PW.pt (wc (zk jX (pv 4) (pv 1) (zt _)) (xM (PW.pt (yw (zk z7 (pv 4) (pv 1) (zt _)) (yd (zk yh (pv 4) (wy (v:=.ref sg) rfl T.ms rfl) (by with_unfolding_all rfl)))))))) (ze vP) zv)
   (ze (zu (i:=1) wJ.nd rfl (Or.inl rfl) (pv 4))))))),?_⟩
 show wn _ _ _ _ _;refine⟨_,rfl,a,rfl,⟨_,SqL.of ha⟩,xY (K:=K) (a:=a) (xs:=ps.map V.ref) (fun i σ H'=>∃(l:Nat) (v2 v3 v4:Option V),σ=[some (.ref a),some (.int (l:Nat)),v2,v3,v4]/\zo H H'/\yn l (rows.drop i)=true)
  ⟨0,_,_,_,rfl,zo.refl _,ho⟩ (fun i σ H' _ ⟨_,_,_,_,_,sH,_⟩=>SqL.of (sH _ _ ha)) ?_ ?_⟩
 ·rintro i x p σ H' hx ⟨l,v2,v3,v4,rfl,sH,hl⟩ hpn
  obtain⟨pa,hpa,rfl⟩:=xa hx;obtain⟨r,hr',dx,hdx⟩:=yg hp hpa;have rok:=hok r (mem_of_getElem? hr');have C:=PP r.k rok.1;rw[zdU hr'] at hl;have hl':(!xK l (grp r.k)&&yn (grp r.k) (rows.drop (i+1)))=true:=hl;rw[Bool.and_eq_true,Bool.not_eq_true'] at hl';obtain⟨hb,hl2⟩:=hl';have hb':(decide (grp r.k<l)||(grp r.k==l&&(grp r.k==1||grp r.k==3)))=false:=hb
  rw[Bool.or_eq_false_iff] at hb';have sp:=zb hpn (.tup [.int (i:Nat),.ref pa]);refine⟨p,_,rfl,SqT.of za,rfl,_,_,rfl,_,_,rfl,rfl,?_⟩;refine⟨_,rfl,pa,_,dx,_,_,rfl,sp _ _ (sH _ _ hdx),C.cl,C.nW,xD,kw r.k,.int (grp r.k),rfl,zh0 r.k rok.1,?_⟩;refine⟨_,rfl,_,rfl,_,_,rfl,rfl,_,rfl,?_⟩;refine dF (fun z=>by have:=of_decide_eq_false hb'.1;omega) ?_
  have fin:∃(l':Nat) (v2 v3 v4:Option V),([some (.ref a),some (.int (grp r.k:Nat)),some (.int (i:Nat)),some (.ref pa),some (.int (grp r.k:Nat))]:L2.St)=[some (.ref a),some (.int (l':Nat)),v2,v3,v4]/\zo H (upd H' p (.tup [.int (i:Nat),.ref pa]))/\yn l' (rows.drop (i+1))=true:=
   ⟨grp r.k,_,_,_,rfl,sH.trans sp,hl2⟩
  refine⟨_,rfl,_,rfl,rfl,_,rfl,?_⟩;by_cases e:grp r.k=l
  ·refine dT (by rw[e]) ?_
   refine⟨_,rfl,sg,_,rfl,.inr (T.hs _),rfl,(by decide),_,rfl,?_⟩
   have h13:(grp r.k==1||grp r.k==3)=false:=by
    have:=hb'.2
    rw[e] at this |-;simpa using this
   have hin:inV (.int (grp r.k:Nat)) [.int 1,.int 3]=false:=by
    have g4:=zjT r.k
    have:∀g:Nat,g<4->(g==1||g==3)=false->inV (.int (g:Nat)) [.int 1,.int 3]=false:=by decide +kernel
    exact this _ g4 h13
   rw[show(if false=true then !inV (V.int ((grp r.k:Nat):Int)) [V.int 1,V.int 3] else inV (V.int ((grp r.k:Nat):Int)) [V.int 1,V.int 3])=false from hin]
   refine zK ?_;exact⟨_,rfl,fin⟩
  ·refine dF (fun z=>e (by have:=V.int.inj z;omega)) ?_
   exact⟨_,rfl,fin⟩
 ·rintro σ H' ⟨l,v2,v3,v4,rfl,sH,_⟩
  exact q _ sH
end
end K51
namespace L2
open PySem PySem.Spec PyProof.Rows
theorem zaR{X:Cx}{K:Frag}{e:Expr}{f:Str}{pos:Pos}{ta:TE}(hK:X.K=K) (he:PE X e ta) (hb:attributeBase e f X.env (eval e X.env)=eval e X.env):PE X (.Attribute e f pos) (zkh K ta f):=hK ▸ ym he hb
end L2
namespace K51
open PySem L2 PyProof.Rows
theorem zZ{n:Nat}(h:n<=1000):n<=sizeLine:=le_of_lt (zE h)
theorem zhV{rows:List Rw}{i:Nat}{r:Rw}(h:rows[i]?=some r):nms (rows.take (i+1))=nms (rows.take i)++(if zR r.k=true then [r.z] else []):=by
 have hi:i<rows.length:=(List.getElem?_eq_some_iff.mp h).1;have e:rows[i]=r:=by rw[getElem?_eq_getElem hi] at h;exact Option.some.inj h
 unfold nms;rw[take_succ_eq_append_getElem hi,filter_append,map_append,e];cases hb:zR r.k <;> simp [hb]
section
variable {P:Program}{w:World}{K:Frag}{mg:Str->Option Value}{base:Heap}{f G sg:Addr}{fd:FuncData}{c:C5}{m:MA}
theorem zck:zr ["parameters","word","at","parameter"] ["parameters","word"] (zi zft):=⟨rfl,rfl,rfl,by decide +kernel,rfl,by decide +kernel,by decide +kernel⟩
theorem zhJ(F:Fun K "number_of_word" "number_of_word" zft f fd) (T:za7 w K mg G sg) (PP:Pcs K m c):zD P w K mg base CX0 1 f fd ["parameters","word"] (zkr c):=by
 refine F.ok zck (fun vs H Q E h=>?_) (fun cdv A outer s H vs Q E hr h=>?_)
 ·obtain⟨a,ps,rows,kk,rfl,_⟩:=h
  rfl
 obtain⟨a,ps,rows,kk,rfl,hkk,ha,hp,hok,q⟩:=h;refine⟨_,zf (xq PassesOwn.never rfl (yH rfl T.en (ac (pv 0) zc)) (yi rfl (zp (zl (i:=2) zck.nd rfl (Or.inl rfl)) (zp (zl (i:=3) zck.nd rfl (Or.inl rfl)) zS)))
   (ze (zH (zk z7 (ym (pv 3) rfl) (pv 1) (zt _)) (ze (zq (pv 2))) zv))) (ze (zq uX)),?_⟩
 refine⟨_,rfl,a,rfl,⟨_,SqL.of ha⟩,xY (K:=K) (a:=a) (xs:=ps.map V.ref) (fun i σ H'=>∃(v2 v3:Option V),σ=[some (.ref a),some (.str (kw kk)),v2,v3]/\zo H H'/\zm kk i (rows.drop i)=zm kk 0 rows)
  ⟨_,_,rfl,zo.refl _,rfl⟩ (fun i σ H' _ ⟨_,_,_,sH,_⟩=>SqL.of (sH _ _ ha)) ?_ ?_⟩
 ·rintro i x p σ H' hx ⟨v2,v3,rfl,sH,hl⟩ hpn
  obtain⟨pa,hpa,rfl⟩:=xa hx;obtain⟨r,hr',dx,hdx⟩:=yg hp hpa;have rok:=hok r (mem_of_getElem? hr');have C:=PP r.k rok.1;rw[zdU hr'] at hl;have hl':(if r.k=kk then some i else zm kk (i+1) (rows.drop (i+1)))=zm kk 0 rows:=hl
  have sp:=zb hpn (.tup [.int (i:Nat),.ref pa]);refine⟨p,_,rfl,SqT.of za,rfl,_,_,rfl,_,_,rfl,rfl,?_⟩;refine⟨_,rfl,pa,_,dx,_,_,rfl,sp _ _ (sH _ _ hdx),C.cl,C.nW,xD,_,rfl,rfl,_,rfl,?_⟩;by_cases e:r.k=kk
  ·refine dT (by rw[e]) ?_
   rw[if_pos e] at hl';refine⟨_,rfl,?_⟩
   have:=q _ (sH.trans sp)
   rw[<- hl'] at this;exact this
  ·refine dF (fun z=>?_) ?_
   ·have h1:=zjJ kk hkk r.k rok.1
    rw[decide_eq_true z] at h1;exact e (by simpa using h1.symm)
   ·rw[if_neg e] at hl'
    exact⟨_,_,rfl,sH.trans sp,hl'⟩
 ·rintro σ H' ⟨v2,v3,rfl,sH,hl⟩
  have e:zm kk 0 rows=none:=by
   rw[<- hl,length_map,hp.length,drop_length];rfl
  have:=q _ sH
  rw[e] at this;exact this
theorem zdz:zr ["bars","bar"] ["bars"] (zi zcs):=⟨rfl,rfl,rfl,by decide +kernel,rfl,by decide +kernel,by decide +kernel⟩
theorem zf1{g:Addr}{gd:FuncData}(F:Fun K "refuse_bars_without_name" "refuse_bars_without_name" zcs f fd) (cI:zG P w K mg base 1 "is_name" g gd ["thing"] (ziZ K)):zD P w K mg base CX0 2 f fd ["bars"] zkp:=by
 refine F.ok zdz (fun vs H Q E h=>?_) (fun cdv A outer s H vs Q E hr h=>?_)
 ·obtain⟨b,bars,rfl,_⟩:=h
  rfl
 obtain⟨b,bars,rfl,hb,hn,q⟩:=h;refine⟨_,ze (xq PassesOwn.never rfl (yE (pv 0)) (zl (i:=1) zdz.nd rfl (Or.inl rfl)) (ze (zH (xf (yk (cF cI hr (ac (pv 1) zc)))) (ze vP) zv))),?_⟩;refine⟨_,rfl,b,rfl,⟨_,SqL.of hb⟩,uN (K:=K) (a:=b) (xs:=bars.map V.str) (fun i σ H'=>∃v1,σ=[some (.ref b),v1]/\zo H H') ⟨_,rfl,zo.refl _⟩ (fun i σ H' _ ⟨_,_,sH⟩=>SqL.of (sH _ _ hb)) ?_ ?_⟩
 ·rintro i x σ H' hx ⟨v1,rfl,sH⟩
  obtain⟨z,hz,rfl⟩:=strs_at hx;have nz:=hn z (mem_of_getElem? hz);refine⟨_,rfl,_,rfl,.inl ⟨z,rfl,j6 nz⟩,fun H2 s2=>⟨_,rfl,?_⟩⟩;rw[show nmV (.str z)=true from nz];refine zK ?_;exact⟨_,rfl,sH.trans s2⟩
 ·rintro σ H' ⟨v1,rfl,sH⟩
  exact q _ sH
theorem zjH:([Str.ofString "parameter"]:List Str).Nodup:=by decide +kernel
theorem jH:zr ["parameters","bars","seen","name"] ["parameters","bars"] (zi zaH):=⟨rfl,rfl,rfl,by decide +kernel,rfl,by decide +kernel,by decide +kernel⟩
theorem zfX{gd:FuncData}(F:Fun K "refuse_twice" "refuse_twice" zaH f fd) (T:za7 w K mg G sg) (PP:Pcs K m c) (GB:zD P w K mg base CX0 1 m.fB gd ["self"] (uz K m bnL)) (bB:zM K gd ["self"] []):zD P w K mg base CX0 2 f fd ["parameters","bars"] (zko c):=by
 refine F.ok jH (fun vs H Q E h=>?_) (fun cdv A outer s H vs Q E hr h=>?_)
 ·obtain⟨a,b,ps,rows,bars,rfl,_⟩:=h
  rfl
 obtain⟨a,b,ps,rows,bars,rfl,ha,hp,hok,l1,hb,l2,nd,q⟩:=h;have hC:∀C,Cs5 c C->Cls K C/\yS K C "by_name" m.fB:=fun C ⟨k,hk,e⟩=>by rw[e];exact⟨(PP k hk).cl,(PP k hk).mB⟩
 refine⟨_,zf (zu (i:=2) jH.nd rfl (Or.inl rfl) (zcJ zeP rfl T.set (by decide +kernel:bootBuiltins "set"=some (.type "set"))))
  (ze (xq PassesOwn.never rfl (yE (zx xx (xn [] ["parameter"] [none] rfl ⟨rfl,rfl,rfl,rfl⟩ (yE (pv 0)) (zY 0) rfl rfl rfl
    (fun pins fp s H C=>⟨zl (i:=0) zjH rfl (Or.inl rfl) (.inr rfl),yX (yk (xW (pv 0) hC GB hr bB zW)),zaR (K:=K) rfl (pv 0) rfl⟩)) (cTy yl T.lst PyProof.Rows.boot_list (ac (pv 1) zc)))) (zl (i:=3) jH.nd rfl (Or.inl rfl))
   (zf (zH (zk jY (pv 3) (pv 2) (by with_unfolding_all rfl)) (ze vP) zv)
   (ze (zI (zht (pv 2) (pv 3) ⟨rfl,rfl,rfl,rfl⟩)))))),?_⟩
 refine⟨rfl,fun se hse=>?_⟩;have s1:zo H (upd H se (vq P w se (fun _=>false) 0)):=zb hse _;have g1:upd H se (vq P w se (fun _=>false) 0) se=some (vq P w se (fun _=>false) 0):=za;show wn _ _ _ _ (upd H se (vq P w se (fun _=>false) 0));generalize upd H se (vq P w se (fun _=>false) 0)=H1 at s1 g1 |-;have ha1:=s1 _ _ ha;have hp1:=xP s1 hp;refine⟨_,rfl,a,rfl,⟨_,SqL.of ha1⟩,fun D hD=>?_⟩;refine ve (K:=K) (xs:=ps.map V.ref) (fun i ys H'=>zo H1 H'/\H' D=some (.lst ys)/\ys=(nms (rows.take i)).map V.str) ⟨zb hD _,za,rfl⟩ (fun i ys H' h=>SqL.of (h.1 _ _ ha1)) ?_ ?_
 ·rintro i x ys H' hlt hx ⟨sH,hDy,ey⟩
  obtain⟨pa,hpa,rfl⟩:=xa hx;obtain⟨r,hr',dx,hdx⟩:=yg hp1 hpa;have rok:=hok r (mem_of_getElem? hr');have C:=PP r.k rok.1;have nl:ys.length<=i:=by
   rw[ey,length_map];unfold nms;rw[length_map];refine le_trans (length_filter_le _ _) ?_;rw[length_take];omega
  have hd2:=sH _ _ hdx;refine⟨_,rfl,pa,_,dx,_,rfl,⟨r.k,rok.1,rfl⟩,hd2,vA (by decide +kernel) (by decide +kernel) (by decide +kernel),pa,dx,_,_,_,_,rfl,C,hd2,_,rfl,?_⟩
  rw[uK r.k rok.1];have tk:=zhV hr';refine⟨fun e=>?_,fun e=>?_⟩
  ·rw[e,if_pos rfl] at tk
   refine⟨_,rfl,pa,_,dx,_,_,rfl,hd2,C.cl,C.nN,xR,?_⟩;refine lcN.mk hlt (zZ (by rw[length_map,hp.length];omega)) hDy nl ⟨fun b u e=>?_,za,?_⟩
   ·rw[zh (zd e hD)]
    exact sH b u e
   ·rw[ey,tk,map_append]
    rfl
  ·rw[e,if_neg Bool.false_ne_true,append_nil] at tk
   exact lcS.mk hlt ⟨sH,hDy,by rw[ey,tk]⟩
 rintro ys H2 ⟨s2,hDy,ey⟩;have ey:ys=(nms rows).map V.str:=by
  rw[ey,length_map,hp.length,take_length]
 subst ey;have hb2:=s2 _ _ (s1 _ _ hb);refine⟨_,rfl,b,_,rfl,.inl (SqL.of hb2),fun l hl=>?_⟩;have s3:=zb hl (.lst (bars.map V.str));have g3:upd H2 l (.lst (bars.map V.str)) l=some (.lst (bars.map V.str)):=za;generalize upd H2 l (.lst (bars.map V.str))=H3 at s3 g3 |-;have ln:(nms rows).length<=500:=by
  unfold nms;rw[length_map];exact le_trans (length_filter_le _ _) l1
 refine⟨D,l,_,_,rfl,rfl,s3 _ _ hDy,g3,zZ (by rw[length_map,length_map];omega),fun l4 hl4=>?_⟩
 rw[<- map_append];have s4:=zb hl4 (.lst ((nms rows++bars).map V.str));have g4:upd H3 l4 (.lst ((nms rows++bars).map V.str)) l4=some (.lst ((nms rows++bars).map V.str)):=za;have nse:l4≠se:=fun z=>by
  rw[z] at hl4;rw[s3 _ _ (s2 _ _ g1)] at hl4;cases hl4
 generalize upd H3 l4 (.lst ((nms rows++bars).map V.str))=H4 at s4 g4 |-;have sA:zo H1 H4:=s2.trans (s3.trans s4);have gse:=sA _ _ g1;refine⟨l4,rfl,⟨_,SqL.of g4⟩,uN (K:=K) (a:=l4) (xs:=(nms rows++bars).map V.str) (fun i σ H'=>∃(S:Str->Bool) (n:Nat) (v3:Option V),σ=[some (.ref a),some (.ref b),some (.ref se),v3]/\H' se=some (vq P w se S n)/\(∀z,S z=decide (z∈(nms rows++bars).take i))/\n<=i/\(∀b' u,H4 b'=some u->b'≠se->H' b'=some u))
  ⟨_,0,_,rfl,gse,fun z=>by simp,le_refl _,fun b' u e _=>e⟩ (fun i σ H' _ ⟨_,_,_,_,_,_,_,k⟩=>SqL.of (k _ _ g4 nse)) ?_ ?_⟩
 ·rintro i x σ H' hx ⟨S,n,v3,rfl,hS,hSz,hn,k⟩
  obtain⟨z,hz,rfl⟩:=strs_at hx;have hi:i<(nms rows++bars).length:=(List.getElem?_eq_some_iff.mp hz).1;have ez:(nms rows++bars)[i]=z:=by rw[getElem?_eq_getElem hi] at hz;exact Option.some.inj hz
  have nz:S z=false:=by
   rw[hSz,decide_eq_false_iff_not];intro hm;obtain⟨j,hj,ej⟩:=List.mem_take_iff_getElem.mp hm
   have:=List.pairwise_iff_getElem.mp nd j i (by omega) hi (by omega)
   exact this (ej.trans ez.symm)
  refine⟨_,rfl,_,rfl,se,S,n,z,rfl,rfl,hS,_,rfl,?_⟩;rw[nz];refine zK ?_;refine⟨_,rfl,se,S,n,rfl,hS,_,rfl,S,n,z,rfl,hS,?_,?_⟩
  ·rw[length_append] at hi
   show n+1<4096;omega
  ·refine⟨_,_,_,rfl,za,fun y=>?_,?_,fun b' u e ne=>?_⟩
   ·rw[hSz y,take_succ_eq_append_getElem hi,ez]
    simp [mem_append]
   ·rw[nz]
    show n+1<=i+1;omega
   ·rw[zh ne]
    exact k b' u e ne
 ·rintro σ H' ⟨S,n,v3,rfl,hS,hSz,hn,k⟩
  refine q _ fun b' u e=>k b' u (sA _ _ (s1 _ _ e)) fun z=>?_;rw[z,hse] at e;cases e
end
def SX(f:Addr) (H H':Hp):Prop:=∀b u,H b=some u->b≠f->H' b=some u
theorem SX.same{f:Addr}{H H1 H2:Hp}(x:SX f H H1) (s:zo H1 H2):SX f H H2:=fun b u e n=>s b u (x b u e n)
theorem SX.upd{f:Addr}{H H1:Hp}{o:HO}(x:SX f H H1):SX f H (upd H1 f o):=fun b u e n=>by rw[zh n];exact x b u e n
theorem SX.refl{f:Addr}{H:Hp}:SX f H H:=fun _ _ e _=>e
theorem wY(f:Str) (v:V):∀fs:List (Str×V),(zX f v fs).length<=fs.length+1
 | []=>le_refl _
 | (g,x)::r=>by
  show(if g=f then (g,v)::r else (g,x)::zX f v r).length<=_
  split
  ·simp
  ·have:=wY f v r
   simp only[length_cons];omega
def Pre(fs:List (Str×V)):Prop:=fs.length<=50/\∀m,m∉zgT->fs.lookup m=none
structure FC(K:Frag) (CF:Addr):Prop where
 cl:Cls K CF
 n1:xy K CF "row"
 n2:xy K CF "bar_names"
 n3:xy K CF "place_count"
 n4:xy K CF "tail_number"
 n5:xy K CF "bag_number"
 n6:xy K CF "doors"
def zfd(c:C5) (CF:Addr):Sp:=fun vs H Q _=>∃(f a b dx:Addr) (fs:List (Str×V)) (ps:List Addr) (rows:List Rw) (bars:List Str),vs=[.ref f,.ref a,.ref b]/\H f=some (.ins CF dx fs)/\Pre fs/\H a=some (.lst (ps.map V.ref))/\Paired (PAt c H) ps rows/\(∀r∈rows,r.ok)/\rows.length<=500/\H b=some (.lst (bars.map V.str))/\
 ∀H',SX f H H'->qp c CF H H' f rows bars->(∃dx' fs',H' f=some (.ins CF dx' fs')/\fs'.length<=fs.length+6)->Q .non H'
theorem zhs{rows:List Rw}{i:Nat}{r:Rw}(h:rows[i]?=some r):plN (rows.take (i+1))=plN (rows.take i)+(if xl r.k=true then 1 else 0):=by
 have hi:i<rows.length:=(List.getElem?_eq_some_iff.mp h).1;have e:rows[i]=r:=by rw[getElem?_eq_getElem hi] at h;exact Option.some.inj h
 unfold plN;rw[take_succ_eq_append_getElem hi,filter_append,length_append,e];cases hb:xl r.k <;> simp [hb]
theorem zai:∀(rows:List Rw) (i:Nat) (acc:List (Key×V)),(yM i acc rows).length<=acc.length+rows.length
 | [],_,_=>le_refl _
 | r::rs,i,acc=>by
  have h:=zai rs (i+1) (if zR r.k=true then zV acc (.inr r.z) (.int i) else acc)
  have h2:(if zR r.k=true then zV acc (.inr r.z) (.int i) else acc).length<=acc.length+1:=by
   split
   ·exact yV acc _ _
   ·omega
  show(yM (i+1) _ rs).length<=acc.length+(rs.length+1);omega
theorem ji{r:Rw}:∀(rows:List Rw) (j i:Nat) (acc:List (Key×V)),rows[i]?=some r->yM j acc (rows.take (i+1))=(if zR r.k=true then zV (yM j acc (rows.take i)) (.inr r.z) (.int (j+i:Nat)) else yM j acc (rows.take i))
 | [],_,_,_,h=>by simp at h
 | r0::rs,j,0,acc,h=>by
  have e:r0=r:=by simpa using h
  subst e;show(if zR r0.k=true then zV acc (.inr r0.z) (.int j) else acc)=_
  rfl
 | r0::rs,j,i+1,acc,h=>by
  have:=ji rs (j+1) i (if zR r0.k=true then zV acc (.inr r0.z) (.int j) else acc) (by simpa using h)
  show yM (j+1) _ (rs.take (i+1))=_;rw[this,show j+1+i=j+(i+1) by omega]
  rfl
section
variable {P:Program}{w:World}{K:Frag}{mg:Str->Option Value}{base:Heap}{f G sg CF:Addr}{fd:FuncData}{c:C5}{m:MA}
theorem PAt.ne{H:Hp}{p f CF dx:Addr}{r:Rw}{fs:List (Str×V)}(h:PAt c H p r) (e:H f=some (.ins CF dx fs)) (n:fs.lookup ("word" : Str)=none):p≠f:=fun z=>by
 obtain⟨d,h⟩:=h;rw[z,e] at h;injection h with h
 injection h with h1 h2 h3
 rw[h3,xD] at n;cases n
theorem uE{H H':Hp}{f CF dx:Addr}{fs:List (Str×V)}(e:H f=some (.ins CF dx fs)) (n:fs.lookup ("word" : Str)=none) (x:SX f H H') {ps:List Addr}{rows:List Rw}(h:Paired (PAt c H) ps rows):Paired (PAt c H') ps rows:=
 Paired.imp' (fun _ _ z=>by
  have ne:=z.ne e n;obtain⟨d,q⟩:=z;exact⟨d,x _ _ q ne⟩) h
theorem zkT:([Str.ofString "at",Str.ofString "parameter"]:List Str).Nodup:=by decide +kernel
theorem zi5:zr ["self","parameters","bars"] ["self","parameters","bars"] (zi zfx):=⟨rfl,rfl,rfl,by decide +kernel,rfl,by decide +kernel,by decide +kernel⟩
theorem zhN{g:Addr}{gd gp gb:FuncData}(F:Fun K "keep" "Form.keep" zfx f fd) (T:za7 w K mg G sg) (PP:Pcs K m c) (FK:FC K CF) (cW:zG P w K mg base 1 "number_of_word" g gd ["parameters","word"] (zkr c))
  (GP:zD P w K mg base CX0 1 m.fP gp ["self"] (uz K m bpL)) (bP:zM K gp ["self"] []) (GB:zD P w K mg base CX0 1 m.fB gb ["self"] (uz K m bnL)) (bB:zM K gb ["self"] []):zD P w K mg base CX0 2 f fd ["self","parameters","bars"] (zfd c CF):=by
 refine F.ok zi5 (fun vs H Q E h=>?_) (fun cdv A outer s H vs Q E hr h=>?_)
 ·obtain⟨f,a,b,dx,fs,ps,rows,bars,rfl,_⟩:=h
  rfl
 obtain⟨f,a,b,dx,fs,ps,rows,bars,rfl,hf,⟨pl,pn⟩,ha,hp,hok,l5,hb,q⟩:=h;have hP:∀C,Cs5 c C->Cls K C/\yS K C "by_place" m.fP:=fun C ⟨k,hk,e⟩=>by rw[e];exact⟨(PP k hk).cl,(PP k hk).mP⟩
 have hB:∀C,Cs5 c C->Cls K C/\yS K C "by_name" m.fB:=fun C ⟨k,hk,e⟩=>by rw[e];exact⟨(PP k hk).cl,(PP k hk).mB⟩
 have nw:fs.lookup ("word" : Str)=none:=pn _ (by decide +kernel)
 refine⟨_,zf (wZ (pv 0) (cTy yl T.lst PyProof.Rows.boot_list (ac (pv 1) zc)) rfl)
  (zf (wZ (pv 0) (cTy yl T.lst PyProof.Rows.boot_list (ac (pv 2) zc)) rfl)
  (zf (wZ (pv 0) (cB zw T.len PySem.boot_len (ac (xn [] ["parameter"] [none] rfl ⟨rfl,rfl,rfl,rfl⟩ (yE (ym (pv 0) rfl)) (zY 0) rfl rfl rfl
    (fun pins fp s H C=>⟨zl (i:=0) zjH rfl (Or.inl rfl) (.inr rfl),yX (yk (xW (pv 0) hP GP hr bP zW)),pv 0⟩)) zc)) rfl)
  (zf (wZ (pv 0) (cF cW hr (ac (ym (pv 0) rfl) (ac zj zc))) rfl)
  (zf (wZ (pv 0) (cF cW hr (ac (ym (pv 0) rfl) (ac zj zc))) rfl)
  (ze (wZ (pv 0) (zkF [] ["at","parameter"] [none,none] rfl ⟨rfl,rfl,rfl,rfl⟩ (yH rfl T.en (ac (ym (pv 0) rfl) zc)) (yG (K:=K) (n:=2) 0 1) rfl rfl rfl
    (fun pins fp s H C=>⟨yi rfl (zp (zl (i:=0) zkT rfl (Or.inl rfl) (.inr rfl)) (zp (zl (i:=1) zkT rfl (Or.inl rfl) (.inr rfl)) zS)),yX (yk (xW (pv 1) hB GB hr bB zW)),zaR (K:=K) rfl (pv 1) rfl,pv 0⟩)) rfl)))))),?_⟩
 refine⟨_,rfl,a,_,rfl,.inl (SqL.of ha),fun l1 hl1=>?_⟩;have s1:=zb hl1 (.lst (ps.map V.ref));refine⟨_,rfl,f,CF,dx,fs,rfl,s1 _ _ hf,FK.cl,FK.n1,(by omega),?_⟩
 have x1:SX f H (upd (upd H l1 (.lst (ps.map V.ref))) f (.ins CF dx (zX "row" (.ref l1) fs))):=(SX.refl.same s1).upd;have f1:upd (upd H l1 (.lst (ps.map V.ref))) f (.ins CF dx (zX "row" (.ref l1) fs)) f=some (.ins CF dx (zX "row" (.ref l1) fs)):=za;have e1:upd (upd H l1 (.lst (ps.map V.ref))) f (.ins CF dx (zX "row" (.ref l1) fs)) l1=some (.lst (ps.map V.ref)):=by
  rw[zh (fun z=>by rw[z,hf] at hl1;cases hl1),za]
 have p1:=wY "row" (.ref l1) fs;have r1:(zX "row" (.ref l1) fs).lookup ("row" : Str)=some (.ref l1):=by rw[zn,if_pos rfl]
 show wn _ _ _ _ (upd (upd H l1 (.lst (ps.map V.ref))) f (.ins CF dx (zX "row" (.ref l1) fs)));generalize upd (upd H l1 (.lst (ps.map V.ref))) f (.ins CF dx (zX "row" (.ref l1) fs))=H1 at x1 f1 e1 |-;have nbf:b≠f:=xE hb hf (by intro z;cases z)
 refine⟨_,rfl,b,_,rfl,.inl (SqL.of (x1 _ _ hb nbf)),fun l2 hl2=>?_⟩;have s2:=zb hl2 (.lst (bars.map V.str));have hlb:H l2=none:=by
  cases e:H l2 with
  | none=>rfl
  | some u=>exact absurd (x1 _ _ e (fun z=>by rw[z,f1] at hl2;cases hl2)) (by rw[hl2];intro z;cases z)
 refine⟨_,rfl,f,CF,dx,_,rfl,s2 _ _ f1,FK.cl,FK.n2,(by omega),?_⟩
 have x2:SX f H (upd (upd H1 l2 (.lst (bars.map V.str))) f (.ins CF dx (zX "bar_names" (.ref l2) (zX "row" (.ref l1) fs)))):=(x1.same s2).upd;have f2:upd (upd H1 l2 (.lst (bars.map V.str))) f (.ins CF dx (zX "bar_names" (.ref l2) (zX "row" (.ref l1) fs))) f=some (.ins CF dx (zX "bar_names" (.ref l2) (zX "row" (.ref l1) fs))):=za;have g2:upd (upd H1 l2 (.lst (bars.map V.str))) f (.ins CF dx (zX "bar_names" (.ref l2) (zX "row" (.ref l1) fs))) l2=some (.lst (bars.map V.str)):=by
  rw[zh (fun z=>by rw[z,f1] at hl2;cases hl2),za]
 have e2:upd (upd H1 l2 (.lst (bars.map V.str))) f (.ins CF dx (zX "bar_names" (.ref l2) (zX "row" (.ref l1) fs))) l1=some (.lst (ps.map V.ref)):=by
  rw[zh (xE e1 f1 (by intro z;cases z)),s2 _ _ e1]
 have p2:=wY "bar_names" (.ref l2) (zX "row" (.ref l1) fs);have r2:(zX "bar_names" (.ref l2) (zX "row" (.ref l1) fs)).lookup ("row" : Str)=some (.ref l1):=by rw[zn,if_neg (by decide +kernel)];exact r1
 show wn _ _ _ _ (upd (upd H1 l2 (.lst (bars.map V.str))) f (.ins CF dx (zX "bar_names" (.ref l2) (zX "row" (.ref l1) fs))));generalize hfs2:zX "bar_names" (.ref l2) (zX "row" (.ref l1) fs)=fs2 at f2 e2 g2 p2 r2 x2 |-;generalize upd (upd H1 l2 (.lst (bars.map V.str))) f (.ins CF dx fs2)=H2 at x2 f2 e2 g2 |-;have hp2:=uE hf nw x2 hp;refine⟨_,rfl,f,CF,dx,_,_,rfl,f2,FK.cl,FK.n1,r2,l1,rfl,⟨_,SqL.of e2⟩,fun D hD=>?_⟩;refine ve (K:=K) (xs:=ps.map V.ref) (fun i ys H'=>zo H2 H'/\H' D=some (.lst ys)/\ys.length=plN (rows.take i)) ⟨zb hD _,za,rfl⟩ (fun i ys H' h=>SqL.of (h.1 _ _ e2)) ?_ ?_
 ·rintro i x ys H' hlt hx ⟨sH,hDy,ey⟩
  obtain⟨pa,hpa,rfl⟩:=xa hx;obtain⟨r,hr',dx',hdx⟩:=yg hp2 hpa;have rok:=hok r (mem_of_getElem? hr');have C:=PP r.k rok.1;have nl:ys.length<=i:=by
   rw[ey];unfold plN;refine le_trans (length_filter_le _ _) ?_;rw[length_take];omega
  have hd2:=sH _ _ hdx;refine⟨_,rfl,pa,_,dx',_,rfl,⟨r.k,rok.1,rfl⟩,hd2,vA (by decide +kernel) (by decide +kernel) (by decide +kernel),pa,dx',_,_,_,_,rfl,C,hd2,_,rfl,?_⟩
  rw[zgw r.k rok.1];have tk:=zhs hr';refine⟨fun e=>?_,fun e=>?_⟩
  ·rw[e,if_pos rfl] at tk
   refine⟨_,rfl,lcN.mk hlt (zZ (by rw[length_map,hp.length];omega)) hDy nl ⟨fun b u e=>?_,za,?_⟩⟩
   ·rw[zh (zd e hD)]
    exact sH b u e
   ·rw[length_append,ey,tk]
    rfl
  ·rw[e,if_neg Bool.false_ne_true] at tk
   exact lcS.mk hlt ⟨sH,hDy,by rw[ey,tk];rfl⟩
 rintro ys H3 ⟨s3,hDy,ey⟩;rw[length_map,hp.length,take_length] at ey;refine⟨D,_,rfl,.inl (SqL.of hDy),?_⟩;rw[ey];have x3:=x2.same s3;refine⟨_,rfl,f,CF,dx,_,rfl,s3 _ _ f2,FK.cl,FK.n3,(by omega),?_⟩
 have f3:upd H3 f (.ins CF dx (zX "place_count" (.int (plN rows:Nat)) fs2)) f=some (.ins CF dx (zX "place_count" (.int (plN rows:Nat)) fs2)):=za;have x4:SX f H (upd H3 f (.ins CF dx (zX "place_count" (.int (plN rows:Nat)) fs2))):=x3.upd;have e4:upd H3 f (.ins CF dx (zX "place_count" (.int (plN rows:Nat)) fs2)) l1=some (.lst (ps.map V.ref)):=by rw[zh (xE e2 f2 (by intro z;cases z))];exact s3 _ _ e2
 have g4:upd H3 f (.ins CF dx (zX "place_count" (.int (plN rows:Nat)) fs2)) l2=some (.lst (bars.map V.str)):=by rw[zh (xE g2 f2 (by intro z;cases z))];exact s3 _ _ g2
 have p3:=wY "place_count" (.int (plN rows:Nat)) fs2;have r3:(zX "place_count" (.int (plN rows:Nat)) fs2).lookup ("row" : Str)=some (.ref l1):=by rw[zn,if_neg (by decide +kernel)];exact r2
 show wn _ _ _ _ (upd H3 f (.ins CF dx (zX "place_count" (.int (plN rows:Nat)) fs2)));generalize hfs3:zX "place_count" (.int (plN rows:Nat)) fs2=fs3 at f3 x4 e4 g4 p3 r3 |-;generalize upd H3 f (.ins CF dx fs3)=H4 at x4 f3 e4 g4 |-;refine⟨_,rfl,f,CF,dx,_,_,rfl,f3,FK.cl,FK.n1,r3,l1,ps,rows,2,rfl,by decide,e4,uE hf nw x4 hp,hok,fun H5 s5=>?_⟩
 refine⟨_,rfl,f,CF,dx,_,rfl,s5 _ _ f3,FK.cl,FK.n4,(by omega),?_⟩
 have f5:upd H5 f (.ins CF dx (zX "tail_number" (ww (zm 2 0 rows)) fs3)) f=some (.ins CF dx (zX "tail_number" (ww (zm 2 0 rows)) fs3)):=za;have x5:SX f H (upd H5 f (.ins CF dx (zX "tail_number" (ww (zm 2 0 rows)) fs3))):=(x4.same s5).upd;have e5:upd H5 f (.ins CF dx (zX "tail_number" (ww (zm 2 0 rows)) fs3)) l1=some (.lst (ps.map V.ref)):=by rw[zh (xE e4 f3 (by intro z;cases z))];exact s5 _ _ e4
 have g5:upd H5 f (.ins CF dx (zX "tail_number" (ww (zm 2 0 rows)) fs3)) l2=some (.lst (bars.map V.str)):=by rw[zh (xE g4 f3 (by intro z;cases z))];exact s5 _ _ g4
 have p4:=wY "tail_number" (ww (zm 2 0 rows)) fs3;have r4:(zX "tail_number" (ww (zm 2 0 rows)) fs3).lookup ("row" : Str)=some (.ref l1):=by rw[zn,if_neg (by decide +kernel)];exact r3
 show wn _ _ _ _ (upd H5 f (.ins CF dx (zX "tail_number" (ww (zm 2 0 rows)) fs3)));generalize hfs4:zX "tail_number" (ww (zm 2 0 rows)) fs3=fs4 at f5 x5 e5 g5 p4 r4 |-;generalize upd H5 f (.ins CF dx fs4)=H6 at x5 f5 e5 g5 |-;refine⟨_,rfl,f,CF,dx,_,_,rfl,f5,FK.cl,FK.n1,r4,l1,ps,rows,4,rfl,by decide,e5,uE hf nw x5 hp,hok,fun H7 s7=>?_⟩
 refine⟨_,rfl,f,CF,dx,_,rfl,s7 _ _ f5,FK.cl,FK.n5,(by omega),?_⟩
 have f7:upd H7 f (.ins CF dx (zX "bag_number" (ww (zm 4 0 rows)) fs4)) f=some (.ins CF dx (zX "bag_number" (ww (zm 4 0 rows)) fs4)):=za;have x7:SX f H (upd H7 f (.ins CF dx (zX "bag_number" (ww (zm 4 0 rows)) fs4))):=(x5.same s7).upd;have e7:upd H7 f (.ins CF dx (zX "bag_number" (ww (zm 4 0 rows)) fs4)) l1=some (.lst (ps.map V.ref)):=by rw[zh (xE e5 f5 (by intro z;cases z))];exact s7 _ _ e5
 have g7:upd H7 f (.ins CF dx (zX "bag_number" (ww (zm 4 0 rows)) fs4)) l2=some (.lst (bars.map V.str)):=by rw[zh (xE g5 f5 (by intro z;cases z))];exact s7 _ _ g5
 have p5:=wY "bag_number" (ww (zm 4 0 rows)) fs4;have r5:(zX "bag_number" (ww (zm 4 0 rows)) fs4).lookup ("row" : Str)=some (.ref l1):=by rw[zn,if_neg (by decide +kernel)];exact r4
 generalize hfs5:zX "bag_number" (ww (zm 4 0 rows)) fs4=fs5 at f7 x7 e7 g7 p5 r5 |-;generalize upd H7 f (.ins CF dx fs5)=H8 at x7 f7 e7 g7 |-;have hp8:=uE hf nw x7 hp;refine⟨_,rfl,f,CF,dx,_,_,rfl,f7,FK.cl,FK.n1,r5,l1,rfl,⟨_,SqL.of e7⟩,fun D2 hD2=>?_⟩;refine zib (K:=K) (xs:=ps.map V.ref) (fun i ys H'=>zo H8 H'/\H' D2=some (.dK ys)/\ys=yM 0 [] (rows.take i)) ⟨zb hD2 _,za,rfl⟩ (fun i ys H' h=>SqL.of (h.1 _ _ e7)) ?_ ?_
 ·rintro i x p ys H' hlt hx ⟨sH,hDy,ey⟩ hpn
  obtain⟨pa,hpa,rfl⟩:=xa hx;obtain⟨r,hr',dx',hdx⟩:=yg hp8 hpa;have rok:=hok r (mem_of_getElem? hr');have C:=PP r.k rok.1;have sp:=zb hpn (.tup [.int (i:Nat),.ref pa]);have hd2:=sp _ _ (sH _ _ hdx);have hDp:upd H' p (.tup [.int (i:Nat),.ref pa]) D2=some (.dK ys):=by rw[zh (zd hDy hpn)];exact hDy
  have nl:ys.length<=i:=by
   rw[ey];refine le_trans (zai _ _ _) ?_;rw[length_take];show 0+_<=i;omega
  refine⟨p,_,rfl,SqT.of za,rfl,_,_,rfl,_,_,rfl,rfl,?_⟩;refine⟨_,rfl,pa,_,dx',_,rfl,⟨r.k,rok.1,rfl⟩,hd2,vA (by decide +kernel) (by decide +kernel) (by decide +kernel),pa,dx',_,_,_,_,rfl,C,hd2,_,rfl,?_⟩
  rw[uK r.k rok.1];have tk:=ji rows 0 i [] hr';refine⟨fun e=>?_,fun e=>?_⟩
  ·rw[e,if_pos rfl] at tk
   refine⟨_,rfl,pa,_,dx',_,_,rfl,hd2,C.cl,C.nN,xR,_,rfl,dcN.mk (.inr r.z) hlt rfl (zZ (by rw[length_map,hp.length];omega)) hDp nl ⟨fun b u e=>?_,za,?_⟩⟩
   ·rw[zh (zd e hD2)]
    exact sp _ _ (sH b u e)
   ·rw[tk,<- ey,Nat.zero_add]
  ·rw[e,if_neg Bool.false_ne_true] at tk
   exact dcS.mk hlt ⟨sH.trans sp,hDp,by rw[ey,tk]⟩
 rintro ys H9 ⟨s9,hDy,ey⟩;rw[length_map,hp.length,take_length] at ey;refine⟨_,rfl,f,CF,dx,_,rfl,s9 _ _ f7,FK.cl,FK.n6,(by omega),?_⟩
 have nf:∀{x:Addr}{o:HO},H9 x=some o->(∀C d g,o≠.ins C d g)->upd H9 f (.ins CF dx (zX "doors" (.ref D2) fs5)) x=some o:=fun {x o} e n=>by
  rw[zh (xE e (s9 _ _ f7) (by intro z;exact n _ _ _ z))]
  exact e
 refine q _ (x7.same s9).upd ⟨dx,_,l1,l2,D2,ps,za,?_,nf (s9 _ _ e7) (by intro _ _ _ z;cases z),uE hf nw (x7.same s9).upd hp,nf (s9 _ _ g7) (by intro _ _ _ z;cases z),nf (by rw[hDy,ey]) (by intro _ _ _ z;cases z),hl1,hlb⟩ ⟨dx,_,za,le_trans (wY _ _ _) (by omega)⟩
 rw[<- hfs5,<- hfs4,<- hfs3,<- hfs2];refine⟨?_,?_,?_,?_,?_,?_,fun mm hm=>?_⟩
 ·rw[zn,if_neg (by decide +kernel),zn,if_neg (by decide +kernel),zn,if_neg (by decide +kernel),zn,if_neg (by decide +kernel),zn,if_neg (by decide +kernel),zn,if_pos rfl]
 ·rw[zn,if_neg (by decide +kernel),zn,if_neg (by decide +kernel),zn,if_neg (by decide +kernel),zn,if_neg (by decide +kernel),zn,if_pos rfl]
 ·rw[zn,if_neg (by decide +kernel),zn,if_neg (by decide +kernel),zn,if_neg (by decide +kernel),zn,if_pos rfl]
 ·rw[zn,if_neg (by decide +kernel),zn,if_neg (by decide +kernel),zn,if_pos rfl]
 ·rw[zn,if_neg (by decide +kernel),zn,if_pos rfl]
 ·rw[zn,if_pos rfl]
 ·have h':∀a∈zgT,¬mm=a:=fun a ha e=>hm (e ▸ ha)
  rw[zn,if_neg (h' _ (by decide +kernel)),zn,if_neg (h' _ (by decide +kernel)),zn,if_neg (h' _ (by decide +kernel)),zn,if_neg (h' _ (by decide +kernel)),zn,if_neg (h' _ (by decide +kernel)),zn,if_neg (h' _ (by decide +kernel))]
  exact pn mm hm
end
def zks(c:C5) (CF:Addr):Sp:=fun vs H Q _=>∃(f a dx:Addr) (bv:V) (ps:List Addr) (rows:List Rw) (bars:List Str),vs=[.ref f,.ref a,bv]/\H f=some (.ins CF dx [])/\H a=some (.lst (ps.map V.ref))/\Paired (PAt c H) ps rows/\((bv=.non/\bars=[])\/∃b,bv=.ref b/\H b=some (.lst (bars.map V.str)))/\yN rows bars/\
 ∀H',SX f H H'->qp c CF H H' f rows bars->(∃dx' fs',H' f=some (.ins CF dx' fs')/\fs'.length<=6)->Q .non H'
def uc(c:C5) (CF:Addr):Sp:=fun vs H Q _=>∃(f:Addr) (rows:List Rw) (bars:List Str),vs=[.ref f]/\xr c CF H f rows bars/\∀(l:Addr) (ps:List Addr) (H':Hp),zo H H'->H l=none->H' l=some (.lst (ps.map V.ref))->Paired (PAt c H') ps rows->Q (.ref l) H'
def zaC(c:C5) (CF:Addr):Sp:=fun vs H Q _=>∃(f:Addr) (rows:List Rw) (bars:List Str),vs=[.ref f]/\xr c CF H f rows bars/\∀(l:Addr) (H':Hp),zo H H'->H l=none->H' l=some (.lst (bars.map V.str))->Q (.ref l) H'
def wH(c:C5) (CF:Addr):Sp:=fun vs H Q _=>∃(f:Addr) (rows:List Rw) (bars:List Str),vs=[.ref f]/\xr c CF H f rows bars/\Q (.int (plN rows:Nat)) H
def wE(c:C5) (CF:Addr) (kk:Nat):Sp:=fun vs H Q _=>∃(f:Addr) (rows:List Rw) (bars:List Str),vs=[.ref f]/\xr c CF H f rows bars/\Q (ww (zm kk 0 rows)) H
def zdt(c:C5) (CF:Addr):Sp:=fun vs H Q _=>∃(f:Addr) (z:Str) (rows:List Rw) (bars:List Str),vs=[.ref f,.str z]/\xr c CF H f rows bars/\Q ((zF (yM 0 [] rows) (.inr z)).getD .non) H
def TAt(H:Hp) (u:Addr) (r:Rw):Prop:=H u=some (.tup (rv r))
def zaB(c:C5) (CF:Addr):Sp:=fun vs H Q _=>∃(f:Addr) (rows:List Rw) (bars:List Str),vs=[.ref f]/\(∀r∈rows,r.ok)/\rows.length<=500/\xr c CF H f rows bars/\∀(t l1 l2:Addr) (us:List Addr) (H':Hp),zo H H'->H l1=none->H l2=none->l1≠l2->H' t=some (.tup [.ref l1,.ref l2])->
 H' l1=some (.lst (us.map V.ref))->Paired (TAt H') us rows->H' l2=some (.lst (bars.map V.str))->Q (.ref t) H'
theorem zP{H H':Hp}{us:List Addr}{rows:List Rw}(s:zo H H') (h:Paired (TAt H) us rows):Paired (TAt H') us rows:=Paired.imp' (fun _ _ z=>s _ _ z) h
section
variable {P:Program}{w:World}{K:Frag}{mg:Str->Option Value}{base:Heap}{f G sg CF:Addr}{fd:FuncData}{c:C5}{m:MA}
theorem zdB:zr ["self","parameters","bars","names"] ["self","parameters","bars"] (zi zcD):=⟨rfl,rfl,rfl,by decide +kernel,rfl,by decide +kernel,by decide +kernel⟩
theorem zge{ds:List Value}{g1 g2 g3 g4 g5:Addr}{e1 e2 e3 e4 e5:FuncData}(F:qx K "__init__" "Form.__init__" zcD f fd ds) (FK:FC K CF) (mK:yS K CF "keep" g5)
  (cM:zG P w K mg base 1 "refuse_too_many" g1 e1 ["parameters","bars"] (ze9 K)) (cO:zG P w K mg base 1 "refuse_bad_order" g2 e2 ["parameters"] (zit c)) (cB':zG P w K mg base 2 "refuse_bars_without_name" g3 e3 ["bars"] zkp) (cT:zG P w K mg base 2 "refuse_twice" g4 e4 ["parameters","bars"] (zko c))
  (GK:zD P w K mg base CX0 2 g5 e5 ["self","parameters","bars"] (zfd c CF)) (bK:zM K e5 ["self","parameters","bars"] []):zD P w K mg base CX0 3 f fd ["self","parameters","bars"] (zks c CF):=by
 refine F.ok zdB (fun vs H Q E h=>?_) (fun cdv A outer s H vs Q E hr h=>?_)
 ·obtain⟨f,a,dx,bv,ps,rows,bars,rfl,_⟩:=h
  rfl
 obtain⟨f,a,dx,bv,ps,rows,bars,rfl,hf,ha,hp,hb,V',q⟩:=h;have hr1:yo 1 _:=hr.mono (by decide)
 refine⟨_,zf (zu (i:=3) zdB.nd rfl (Or.inl rfl) (vB (yL (wb (pv 2))) (zO zc) (pv 2)))
  (zf (zI (cF cM hr1 (ac (pv 1) (ac (pv 3) zc))))
  (zf (zI (cF cO hr1 (ac (pv 1) zc)))
  (zf (zI (cF cB' hr (ac (pv 3) zc)))
  (zf (zI (cF cT hr (ac (pv 1) (ac (pv 3) zc))))
  (ze (zI (zaQ (pv 0) FK.cl mK GK hr bK .nil zW (ac (pv 1) (ac (pv 3) zc))))))))),?_⟩
 try dsimp only
 refine yv (fun σ' H'=>∃b,σ'=[some (.ref f),some (.ref a),some bv,some (.ref b)]/\zo H H'/\H' b=some (.lst (bars.map V.str))) ?_ (fun key=>?_);rotate_left
 ·rcases hb with ⟨rfl,rfl⟩|⟨b,rfl,hb⟩
  ·refine⟨_,rfl,_,rfl,?_⟩
   refine dT rfl ?_;refine⟨zz0,fun l hl=>?_⟩;exact key _ _ ⟨l,rfl,zb hl _,za⟩
  ·refine⟨_,rfl,_,rfl,?_⟩
   refine dF (by intro z;cases z) ?_
   exact⟨_,rfl,key _ _ ⟨b,rfl,zo.refl _,hb⟩⟩
 rintro σ1 H1 ⟨b,rfl,s1,hb1⟩;have ha1:=s1 _ _ ha;refine⟨_,rfl,_,rfl,a,b,_,_,rfl,SqL.of ha1,SqL.of hb1,(by rw[length_map,hp.length];exact V'.l24),(by rw[length_map];exact V'.l60),?_⟩
 refine⟨_,rfl,a,ps,rows,rfl,ha1,xP s1 hp,V'.ok,V'.ord,fun H2 s2=>?_⟩;refine⟨_,rfl,b,bars,rfl,s2 _ _ hb1,V'.bn,fun H3 s3=>?_⟩;have s13:=s1.trans (s2.trans s3);refine⟨_,rfl,_,rfl,a,b,ps,rows,bars,rfl,s13 _ _ ha,xP s13 hp,V'.ok,le_trans V'.l24 (by decide),s3 _ _ (s2 _ _ hb1),le_trans V'.l60 (by decide),V'.nd,fun H4 s4=>?_⟩
 have s14:=s13.trans s4;refine⟨_,rfl,f,dx,_,rfl,s14 _ _ hf,rfl,_,rfl,_,rfl,f,a,b,dx,[],ps,rows,bars,rfl,s14 _ _ hf,⟨by decide,fun _ _=>rfl⟩,s14 _ _ ha,xP s14 hp,V'.ok,le_trans V'.l24 (by decide),s4 _ _ (s3 _ _ (s2 _ _ hb1)),fun H5 x5 F5 L5=>?_⟩
 exact q _ (fun b' u e n=>x5 b' u (s14 _ _ e) n) (F5.of s14) L5
theorem zhj:zr ["self"] ["self"] (zi zcC):=⟨rfl,rfl,rfl,by decide +kernel,rfl,by decide +kernel,by decide +kernel⟩
theorem zgd(F:Fun K "parameters" "Form.parameters" zcC f fd) (T:za7 w K mg G sg) (FK:FC K CF):zD P w K mg base CX0 1 f fd ["self"] (uc c CF):=by
 refine F.ok zhj (fun vs H Q E h=>?_) (fun cdv A outer s H vs Q E hr h=>?_)
 ·obtain⟨f,rows,bars,rfl,_⟩:=h
  rfl
 obtain⟨f,rows,bars,rfl,⟨dx,fs,lr,lb,ld,ps,h1,h2,h3,h4,h5,h6⟩,q⟩:=h;refine⟨_,ze (zq (cTy yl T.lst PyProof.Rows.boot_list (ac (ym (pv 0) rfl) zc))),?_⟩;refine⟨_,rfl,f,CF,dx,_,_,rfl,h1,FK.cl,FK.n1,h2.row,lr,_,rfl,.inl (SqL.of h3),fun l hl=>?_⟩;have s1:=zb hl (.lst (ps.map V.ref));exact q l ps _ s1 hl za (xP s1 h4)
theorem zhk:zr ["self"] ["self"] (zi zcE):=⟨rfl,rfl,rfl,by decide +kernel,rfl,by decide +kernel,by decide +kernel⟩
theorem zgf(F:Fun K "bars" "Form.bars" zcE f fd) (T:za7 w K mg G sg) (FK:FC K CF):zD P w K mg base CX0 1 f fd ["self"] (zaC c CF):=by
 refine F.ok zhk (fun vs H Q E h=>?_) (fun cdv A outer s H vs Q E hr h=>?_)
 ·obtain⟨f,rows,bars,rfl,_⟩:=h
  rfl
 obtain⟨f,rows,bars,rfl,⟨dx,fs,lr,lb,ld,ps,h1,h2,h3,h4,h5,h6⟩,q⟩:=h;refine⟨_,ze (zq (cTy yl T.lst PyProof.Rows.boot_list (ac (ym (pv 0) rfl) zc))),?_⟩;refine⟨_,rfl,f,CF,dx,_,_,rfl,h1,FK.cl,FK.n2,h2.bn,lb,_,rfl,.inl (SqL.of h5),fun l hl=>?_⟩;exact q l _ (zb hl _) hl za
theorem zec:zr ["self"] ["self"] (zi jN):=⟨rfl,rfl,rfl,by decide +kernel,rfl,by decide +kernel,by decide +kernel⟩
theorem zcP(F:Fun K "places" "Form.places" jN f fd) (FK:FC K CF):zD P w K mg base CX0 1 f fd ["self"] (wH c CF):=by
 refine F.ok zec (fun vs H Q E h=>?_) (fun cdv A outer s H vs Q E hr h=>?_)
 ·obtain⟨f,rows,bars,rfl,_⟩:=h
  rfl
 obtain⟨f,rows,bars,rfl,⟨dx,fs,lr,lb,ld,ps,h1,h2,h3,h4,h5,h6⟩,q⟩:=h;exact⟨_,ze (zq (ym (pv 0) rfl)),_,rfl,f,CF,dx,_,_,rfl,h1,FK.cl,FK.n3,h2.pc,q⟩
theorem zhi:zr ["self"] ["self"] (zi zcB):=⟨rfl,rfl,rfl,by decide +kernel,rfl,by decide +kernel,by decide +kernel⟩
theorem zgc(F:Fun K "tail" "Form.tail" zcB f fd) (FK:FC K CF):zD P w K mg base CX0 1 f fd ["self"] (wE c CF 2):=by
 refine F.ok zhi (fun vs H Q E h=>?_) (fun cdv A outer s H vs Q E hr h=>?_)
 ·obtain⟨f,rows,bars,rfl,_⟩:=h
  rfl
 obtain⟨f,rows,bars,rfl,⟨dx,fs,lr,lb,ld,ps,h1,h2,h3,h4,h5,h6⟩,q⟩:=h;exact⟨_,ze (zq (ym (pv 0) rfl)),_,rfl,f,CF,dx,_,_,rfl,h1,FK.cl,FK.n4,h2.tn,q⟩
theorem zi8:zr ["self"] ["self"] (zi zfB):=⟨rfl,rfl,rfl,by decide +kernel,rfl,by decide +kernel,by decide +kernel⟩
theorem zhR(F:Fun K "bag" "Form.bag" zfB f fd) (FK:FC K CF):zD P w K mg base CX0 1 f fd ["self"] (wE c CF 4):=by
 refine F.ok zi8 (fun vs H Q E h=>?_) (fun cdv A outer s H vs Q E hr h=>?_)
 ·obtain⟨f,rows,bars,rfl,_⟩:=h
  rfl
 obtain⟨f,rows,bars,rfl,⟨dx,fs,lr,lb,ld,ps,h1,h2,h3,h4,h5,h6⟩,q⟩:=h;exact⟨_,ze (zq (ym (pv 0) rfl)),_,rfl,f,CF,dx,_,_,rfl,h1,FK.cl,FK.n5,h2.bg,q⟩
theorem zi7:zr ["self","name"] ["self","name"] (zi zfA):=⟨rfl,rfl,rfl,by decide +kernel,rfl,by decide +kernel,by decide +kernel⟩
theorem zhQ(F:Fun K "number_of" "Form.number_of" zfA f fd) (FK:FC K CF):zD P w K mg base CX0 1 f fd ["self","name"] (zdt c CF):=by
 refine F.ok zi7 (fun vs H Q E h=>?_) (fun cdv A outer s H vs Q E hr h=>?_)
 ·obtain⟨f,z,rows,bars,rfl,_⟩:=h
  rfl
 obtain⟨f,z,rows,bars,rfl,⟨dx,fs,lr,lb,ld,ps,h1,h2,h3,h4,h5,h6⟩,q⟩:=h;refine⟨_,ze (zq (jT (jh hr) (ym (pv 0) rfl) (pv 1) ⟨rfl,rfl,rfl,rfl⟩)),?_⟩;refine⟨_,rfl,f,CF,dx,_,_,rfl,h1,FK.cl,FK.n6,h2.dr,ld,rfl,?_,_,rfl,_,.inl ⟨_,.inr z,.inl h6,rfl,rfl⟩,q⟩;exact .inl ⟨_,.inl h6⟩
theorem zhh:zr ["self"] ["self"] (zi zcA):=⟨rfl,rfl,rfl,by decide +kernel,rfl,by decide +kernel,by decide +kernel⟩
theorem zgb{gd:FuncData}(F:Fun K "told" "Form.told" zcA f fd) (T:za7 w K mg G sg) (FK:FC K CF) (PP:Pcs K m c) (GO:zD P w K mg base CX0 2 m.fO gd ["self"] (zcg K m)) (bO:zM K gd ["self"] []):zD P w K mg base CX0 3 f fd ["self"] (zaB c CF):=by
 refine F.ok zhh (fun vs H Q E h=>?_) (fun cdv A outer s H vs Q E hr h=>?_)
 ·obtain⟨f,rows,bars,rfl,_⟩:=h
  rfl
 obtain⟨f,rows,bars,rfl,hok,l5,⟨dx,fs,lr,lb,ld,ps,h1,h2,h3,h4,h5,h6⟩,q⟩:=h;have hO:∀C,Cs5 c C->Cls K C/\yS K C "told" m.fO:=fun C ⟨k,hk,e⟩=>by rw[e];exact⟨(PP k hk).cl,(PP k hk).mO⟩
 refine⟨_,ze (zq (zC (ac (xn [] ["parameter"] [none] rfl ⟨rfl,rfl,rfl,rfl⟩ (yE (ym (pv 0) rfl)) (zY 0) rfl rfl rfl
   (fun pins fp s H C=>⟨zl (i:=0) zjH rfl (Or.inl rfl) (.inr rfl),yO,xW (pv 0) hO GO hr bO zW⟩)) (ac (cTy yl T.lst PyProof.Rows.boot_list (ac (ym (pv 0) rfl) zc)) zc)))),?_⟩
 refine⟨_,rfl,f,CF,dx,_,_,rfl,h1,FK.cl,FK.n1,h2.row,lr,rfl,⟨_,SqL.of h3⟩,fun D hD=>?_⟩;refine ve (K:=K) (xs:=ps.map V.ref) (fun i ys H'=>zo H H'/\H' D=some (.lst ys)/\∃us,ys=us.map V.ref/\Paired (TAt H') us (rows.take i)) ⟨zb hD _,za,[],rfl,.nil⟩ (fun i ys H' h=>SqL.of (h.1 _ _ h3)) ?_ ?_
 ·rintro i x ys H' hlt hx ⟨sH,hDy,us,ey,pu⟩
  obtain⟨pa,hpa,rfl⟩:=xa hx;obtain⟨r,hr',dx',hdx⟩:=yg h4 hpa;have rok:=hok r (mem_of_getElem? hr');have C:=PP r.k rok.1;have hd2:=sH _ _ hdx;have hi:i<rows.length:=(List.getElem?_eq_some_iff.mp hr').1;have er:rows[i]=r:=by rw[getElem?_eq_getElem hi] at hr';exact Option.some.inj hr'
  refine⟨fun _=>?_,fun e=>Bool.noConfusion e⟩;refine⟨_,rfl,pa,_,dx',_,rfl,⟨r.k,rok.1,rfl⟩,hd2,vA (by decide +kernel) (by decide +kernel) (by decide +kernel),pa,dx',_,r.k,.str r.z,r.b,rfl,rok.1,C,hd2,fun u H2 s2 hu2=>?_⟩
  have nl:ys.length<=i:=by
   rw[ey,length_map,pu.length,length_take];omega
  have nDu:u≠D:=fun z=>by
   rw[z,s2 _ _ hDy] at hu2;cases hu2
  refine lcN.mk hlt (zZ (by rw[length_map,h4.length];omega)) (s2 _ _ hDy) nl ⟨fun b u' e=>?_,za,us++[u],by rw[ey,map_append];rfl,?_⟩
  ·rw[zh (zd e hD)]
   exact s2 _ _ (sH b u' e)
  ·rw[take_succ_eq_append_getElem hi,er]
   refine Paired.snoc (Paired.imp' (fun v r' z=>?_) pu) ?_
   ·have z2:H2 v=some (.tup (rv r')):=s2 _ _ z
    show upd H2 D _ v=some (.tup (rv r'));rw[zh (fun e=>by rw[e,s2 _ _ hDy] at z2;cases z2)]
    exact z2
   ·show upd H2 D _ u=some (.tup (rv r))
    rw[zh nDu];exact hu2
 rintro ys H2 ⟨s2,hDy,us,rfl,pu⟩;rw[length_map,h4.length,take_length] at pu;refine⟨_,rfl,f,CF,dx,_,_,rfl,s2 _ _ h1,FK.cl,FK.n2,h2.bn,lb,_,rfl,.inl (SqL.of (s2 _ _ h5)),fun l2 hl2=>?_⟩;have s3:=zb hl2 (.lst (bars.map V.str));refine⟨zz2,fun t ht=>?_⟩;have s4:=zb ht (.tup [.ref D,.ref l2]);exact q t D l2 us _ (s2.trans (s3.trans s4)) hD (s2.free hl2) (zd hDy hl2) za (s4 _ _ (s3 _ _ hDy)) (zP (s3.trans s4) pu) (s4 _ _ za)
end
end K51
namespace L2
open PySem PySem.Spec PyProof.Rows
section
variable {X:Cx}{pins:List (Addr×Obj)}{σ : St}{H:Hp}{s:Shared}
theorem Inv.freeze(I:Inv X pins σ H s) {l:Addr}{kvs:List (Key×V)}(hl:H l=some (.dK kvs)):∃o,s.heap.get? l=some o/\Inv X pins σ (upd H l (.frz o (.dK kvs))) s:=by
 obtain⟨hz,hy,vs,r,o,es,ep,ho,c⟩:=id (I.hok l _ hl);refine⟨o,ho,⟨I.ok,I.os,I.bare,⟨I.base.keep,I.base.slot,fun b u e n x=>?_,I.base.there,fun b xs e=>?_,fun b u v e=>?_,fun b ps e=>?_⟩,I.loc,I.cell,?_,fun x c e=>?_,fun p hp'=>?_,fun b u e=>?_,I.len⟩⟩
 ·have e1:=I.base.free b u e n x
  rw[zh (zd hl e1).symm];exact e1
 ·have e1:=I.base.tups b xs e
  rw[zh (xE e1 hl (by intro z;cases z))];exact e1
 ·have e1:=I.base.frzs b u v e
  rw[zh (xE e1 hl (by intro z;cases z))];exact e1
 ·obtain⟨more,e1⟩:=I.base.tbls b ps e
  exact⟨more,by rw[zh (xE e1 hl (by intro z;cases z))];exact e1⟩
 ·rw[zh (zd hl I.free).symm];exact I.free
 ·rw[zh (zd hl (I.freeC x c e)).symm];exact I.freeC x c e
 ·obtain⟨q1,q2,q3⟩:=I.pin p hp'
  exact⟨q1,by rw[zh (zd hl q2).symm];exact q2,q3⟩
 ·have ho':∀c,∀b,H b=some (.own c)->upd H l (.frz o (.dK kvs)) b=some (.own c):=fun c b q=>by rw[zh (xE q hl (by intro z;cases z))];exact q
  have ht':∀b xs,H b=some (.tup xs)->upd H l (.frz o (.dK kvs)) b=some (.tup xs):=fun b xs q=>by rw[zh (xE q hl (by intro z;cases z))];exact q
  by_cases hb:b=l
  ·subst hb;rw[za] at e;cases e
   exact⟨ho,(I.hok b _ hl).stay (fun _ _ _ q=>q) (ho' b) ht'⟩
  ·rw[zh hb] at e
   exact(I.hok b u e).stay (fun _ _ _ q=>q) (ho' b) ht'
def zlo(te:TE):TE:=fun σ H Q=>te σ H fun x H1=>∃l kvs,x=.ref l/\H1 l=some (.dK kvs)/\∀o,Q x (upd H1 l (.frz o (.dK kvs)))
theorem zjt{e:Expr}{te:TE}(h:PE X e te):PE X e (zlo te):=by
 refine⟨?_⟩;intro pins s σ H Q I hw;refine thn (h pins s σ H _ I hw) fun v s1 ⟨x,H1,I1,r1,l,kvs,ex,hl,q⟩=>?_;obtain⟨o,_,I2⟩:=I1.freeze hl;exact⟨x,_,I2,r1,q o⟩
end
theorem zho{k:Key}{u:Value}(h:qc k u=true):zL (kV k) u:=by
 rcases yx h with ⟨i,t,rfl,rfl⟩|⟨x,t,rfl,rfl⟩
 ·exact⟨t,rfl⟩
 ·exact⟨t,rfl⟩
def Itd(d:Addr) (o:Obj) (kvs:List (Key×V)):It:=
 ⟨fun i H=>H d=some (.frz o (.dK kvs))/\i<kvs.length,fun i H x H'=>∃(p:Addr) (k:Key) (v:V),x=.ref p/\H p=none/\kvs[i]?=some (k,v)/\H'=upd H p (.tup [kV k,v]),fun i H=>H d=some (.frz o (.dK kvs))/\kvs.length<=i⟩
theorem zgF{X:Cx}{pins:List (Addr×Obj)}{σ : St}{H:Hp}{s:Shared}{d:Addr}{o:Obj}{kvs:List (Key×V)}{es:Array DictEntry}{ep:Nat}(I:Inv X pins σ H s) (hd:H d=some (.frz o (.dK kvs))) (ho:o.data=.dict es ep) :
  (d==sysModules)=false/\∃vs,KV kvs vs/\s.heap.DictAt (z9 X.prog X.w) d vs ep:=by
 obtain⟨e,hz,hy,vs,r,o',es',ep',ho',c1,c2,c3⟩:=id (I.hok d _ hd);rw[e] at ho';cases ho';rw[ho] at c2;cases c2;exact⟨hy,vs,r,o,es,e,c1,ho,c3⟩
theorem vY:entryFor table "dict_itemiterator.__iter__"=some Builtin.«dict_keyiterator.__iter__»:=entryFor_alias (id':="dict_keyiterator.__iter__") (by kernel_rfl) (by first|rfl|decide +kernel|(unfold String.splitOn;simp +decide [String.splitOnAux])) (by decide +kernel) (by kernel_rfl)
theorem vp{P:Program}{w:World}{A:Around}{E:Value->Shared->Prop}{s:Shared}{it d:Addr}{i n ep:Nat}{ok ov:Value}{Q:Value->Shared->Prop}(he:IsItemIter s.heap it d i n ep ok ov) (h:Q (.ref it) s):wpAny (model P w) A (pyIter (.ref it)) Q E s:=by
 have hT:s.TypeIs (.ref it) "dict_itemiterator":=⟨_,he,rfl⟩;refine wpAny_pyIter_slot hT F.slot_dict_itemiterator_iter (wpAny_call_entry F.slot_dict_itemiterator_iter hT vY ?_ (F.args_dict_itemiterator_iter_1 _));show wpAny _ _ (ret (.ref it)) _ _ s;exact wpAny_pure ⟨_,rfl,"dict_itemiterator",_,hT,F.slot_dict_itemiterator_next.lookup,h⟩
theorem zce{P:Program}{w:World}{K:Frag}{elts:List Expr}{x1:Nat}{tpos:Pos}(d it:Addr) (o:Obj) (kvs:List (Key×V)) (es:Array DictEntry) (ep:Nat) (ho:o.data=.dict es ep) :
  za8 P w K (.Tuple elts x1 tpos) (Itd d o kvs) [it] it (fun i h=>∃ok ov,IsItemIter h it d i kvs.length ep ok ov) where
 mem:=by simp
 obj:=fun i h st b hb=>by
  have e':b=it:=by simpa using hb
  subst e';obtain⟨ok,ov,hi⟩:=st;exact⟨_,hi,fun v q=>by cases q⟩
 keep:=fun i h h' st k=>by
  obtain⟨ok,ov,hi⟩:=st;exact⟨ok,ov,k it (by simp) _ hi⟩
 item:=by
  intro X hP hw hK hc i pins s σ H E I hf st hg;subst hP hw hK;obtain⟨f0,f1,f2,f3,f4,f5⟩:=hf it (by simp)
  obtain⟨ok,ov,hit⟩:=st;obtain⟨hd,hlt⟩:=hg;obtain⟨hy,vs,r,hm⟩:=zgF I hd ho;have hl:kvs.length=vs.length:=r.length;obtain⟨⟨k2,u⟩,hu,ek,ru⟩:=Paired.get r (getElem?_eq_getElem hlt);rw[hl] at hit;obtain⟨k,v,hkv⟩:∃k v,kvs[i]=(k,v):=⟨_,_,rfl⟩;have ek:k=k2:=by rw[hkv] at ek;exact ek
  have ru2:zL v u:=by rw[hkv] at ru;exact ru
  subst ek;refine wpAny_pyNext_items_item hit hm hu fun key h' hk2 he' htup hsz hkp=>?_;have rk:zL (kV k) key:=zho hk2;have I0:Inv X pins σ H { s with heap:=h' }:=I.turned (t':=s.toks) (it:=it) hkp f0 f1 f3 f4 f5
  have hfr:H s.heap.objs.size=none:=I.hok.fresh (le_refl _);have I1:Inv X pins σ (upd H s.heap.objs.size (.tup [kV k,v])) { s with heap:=h' }:=by
   have hok:HOk X.prog X.w (upd H s.heap.objs.size (.tup [kV k,v])) h':=fun b o q=>by
    by_cases hb:b=s.heap.objs.size
    ·subst hb
     rw[za] at q;cases q;exact⟨by show 2<=sizeLine;decide,[key,u],.cons rk (.cons ru2 .nil),⟨_,htup,rfl,_,rfl⟩⟩
    ·rw[zh hb] at q
     exact(I0.hok b o q).stay (fun _ _ _ z=>z) (fun c z=>by rw[zh (zd z hfr)];exact z) fun c xs' z=>by rw[zh (zd z hfr)];exact z
   refine I0.step (s:={ s with heap:=h' }) (g':=s.gens) (d':=s.drawn) (h':=h') (t':=s.toks) (ch:=[s.heap.objs.size]) (fun b hb=>?_) (fun b o _ _ _ e1 _=>e1) (fun b o _ _ _ e1 _=>⟨o.slots,e1⟩) (fun b o hb e1 n=>by rw[zh (fun z=>hb (by simp [z]))];exact n)
    (fun b o _ e1=>⟨o,e1⟩) (fun b xs' e1=>by rw[zh (zd e1 hfr)];exact e1) (fun b o' u' e1=>by rw[zh (zd e1 hfr)];exact e1) (fun b ps e1=>⟨#[],by rw[zh (zd e1 hfr),e1];simp⟩) (fun m hm=>hm) hok I0.bare
   have e':b=s.heap.objs.size:=by simpa using hb
   subst e';refine⟨.inr I.sz,fun z=>?_,fun y c h z=>?_,fun p hp' z=>?_⟩
   ·have:=I.lt;rw[<- z] at this;exact absurd this (lt_irrefl _)
   ·obtain⟨v',hv⟩:=I.cell y c h
    have:=hv.lt;rw[z] at this;exact absurd this (lt_irrefl _)
   ·have:=I.pin_lt hp';rw[z] at this;exact absurd this (lt_irrefl _)
  refine⟨_,rfl,wpAny_letOwnedTupleGo_items he' fun h2 he2 hs2=>?_⟩;have nis:s.heap.objs.size≠it:=fun z=>by
   have:=Heap.lt_size (show s.heap.get? it=some _ from hit)
   rw[<- z] at this;exact absurd this (lt_irrefl _)
  have I2:Inv X pins σ (upd H s.heap.objs.size (.tup [kV k,v])) { s with heap:=h2 }:=
   I1.turned (s:={ s with heap:=h' }) (t':=s.toks) (it:=it) (fun b o hb q=>(hs2.2 b hb).trans q) (by rw[zh nis.symm];exact f0) f1 f3 f4 f5
  refine⟨.ref s.heap.objs.size,_,I2,rfl,⟨_,k,v,rfl,hfr,by rw[getElem?_eq_getElem hlt,hkv],rfl⟩,⟨_,_,by rw[hl];exact he2⟩,fun b hb=>?_⟩
  have e':b=it:=by simpa using hb
  subst e';rw[zh nis.symm];exact f0
 done:=by
  intro X hP hw hK hc i pins s σ H E I hf st hg;subst hP hw hK;obtain⟨ok,ov,hit⟩:=st;obtain⟨f0,f1,f2,f3,f4,f5⟩:=hf it (by simp)
  obtain⟨hd,hle⟩:=hg;obtain⟨hy,vs,r,hm⟩:=zgF I hd ho;have hl:kvs.length=vs.length:=r.length;rw[hl] at hit;exact wpAny_pyNext_items_end (I.ok.hd hc) hit hm (getElem?_eq_none (by omega)) fun h' eb=>⟨rfl,I.turned (t':=s.toks) (fun b o hb e1=>eb b o hb e1) f0 f1 f3 f4 f5⟩
 self:=fun A i s Q E st h=>by
  obtain⟨ok,ov,hit⟩:=st;exact vp hit h
section
variable {X:Cx}{elts:List Expr}{x1:Nat}{tpos:Pos}
def zjR(te:TE):TI:=fun σ H R=>te σ H fun x H1=>∃d o kvs,x=.ref d/\H1 d=some (.frz o (.dK kvs))/\R (Itd d o kvs) H1
theorem zbv{l:Expr}{te:TE}{apos cpos:Pos}(hl:PE X l te) (hbase:attributeBase l "items" X.env (eval l X.env)=eval l X.env:=by rfl) (hline:(apos.endLine==cpos.line)=true:=by rfl) :
  PI X (.Tuple elts x1 tpos) (.Call (.Attribute l "items" apos) [] [] cpos) (zjR te):=by
 refine⟨?_⟩;intro pins s σ H R I h;refine wpAny_Call_method0_late hbase hline (thn (hl pins s σ H _ I h) fun v s1 ⟨x,H1,I1,r1,d,o,kvs,ex,hd,q⟩=>?_);subst ex;cases r1;obtain⟨e,hz,hy,vs,r,o',es,ep,ho',c1,c2,c3⟩:=id (I1.hok d _ hd);rw[e] at ho';cases ho';have hm:s1.heap.DictAt (z9 X.prog X.w) d vs ep:=⟨o,es,e,c1,c2,c3⟩;refine⟨"dict","dict.items",F.plainAttrs_dict,F.slot_dict_items,F.type_dict_items,⟨o,e,c1.1⟩,fun a ea=>by cases ea;exact⟨o,e,c1.2.1⟩,Calls.callWith_builtin rfl (PySem.evalArgs_none ?_)⟩
 refine call_meetsIn F.slot_dict_items ⟨o,e,c1.1⟩ F.entry_dict_items (F.args_dict_items_1 _) (meets_dict_items (z9 X.prog X.w) d hy) ⟨⟨vs,hm.dictOf⟩,?_⟩;show wpAny _ _ (pyIter (.ref s1.heap.objs.size)) _ _ _;have hl:kvs.length=vs.length:=r.length;refine wpAny_pyIter_items (knd:=z9 X.prog X.w) (d:=d) (kvs:=vs) (ep:=ep) ⟨_,Heap.get?_push_size _ rfl,rfl,rfl⟩ (hm.push _) ?_;have hk:∀b ob,s1.heap.get? b=some ob->((s1.heap.push { cls:=.type "dict_items",data:=.fields #[.ref d] }).push { cls:=.type "dict_itemiterator",data:=.fields #[.none,.bool false,.ref d,.int 0 0,.int vs.length 0,.int ep 0,.none,.none] }).get? b=some ob:=fun b ob q=>Heap.get?_push_of_some _ (Heap.get?_push_of_some _ q);have I2:=I1.kept (t':=s1.toks) hk;have hsz:(s1.heap.push { cls:=.type "dict_items",data:=.fields #[.ref d] }).objs.size=s1.heap.objs.size+1:=Heap.size_push ..;refine⟨(s1.heap.push { cls:=.type "dict_items",data:=.fields #[.ref d] }).objs.size,[(s1.heap.push { cls:=.type "dict_items",data:=.fields #[.ref d] }).objs.size],_,Itd d o kvs,H1,rfl,I2,zce d _ o kvs es ep c2,⟨.none,.none,?_⟩,fun b hb=>?_,q⟩
 ·rw[hl]
  exact Heap.get?_push_size (s1.heap.push { cls:=.type "dict_items",data:=.fields #[.ref d] }) (o:={ cls:=.type "dict_itemiterator",data:=.fields #[.none,.bool false,.ref d,.int 0 0,.int vs.length 0,.int ep 0,.none,.none] }) rfl
 ·have e':b=(s1.heap.push { cls:=.type "dict_items",data:=.fields #[.ref d] }).objs.size:=by simpa using hb
  subst e';rw[hsz];exact I1.fpOk (le_succ _) (I1.hok.fresh (le_succ _))
theorem zeH{d:Addr}{o:Obj}{kvs:List (Key×V)}{g:TG}{tb:TS}{D:jc}{σ : St}{H:Hp}(Pv:Nat->St->Hp->Prop) (h0:Pv 0 σ H) (hl:∀i σ H,i<=kvs.length->Pv i σ H->H d=some (.frz o (.dK kvs)))
  (hs:∀i k v p σ H,kvs[i]?=some (k,v)->Pv i σ H->H p=none->g (.ref p) σ (upd H p (.tup [kV k,v])) fun σ2 H2=>tb { D with nx:=Pv (i+1),ct:=Pv (i+1),bk:=D.nx } σ2 H2) (hd:∀σ H,Pv kvs.length σ H->D.nx σ H) :
  ∃W:Nat->Nat->St->Hp->Prop,(∃m,W 0 m σ H)/\∀i m σ H,W i m σ H->
   ((Itd d o kvs).stop i H/\D.nx σ H)\/((Itd d o kvs).go i H/\∃N:St->Hp->Prop,(∀σ' H',N σ' H'->∃m',m'<m/\W (i+1) m' σ' H')/\∀x H',(Itd d o kvs).yld i H x H'->g x σ H' fun σ2 H2=>tb { D with nx:=N,ct:=N,bk:=D.nx } σ2 H2):=by
 refine⟨fun i m σ H=>m=kvs.length - i/\i<=kvs.length/\Pv i σ H,⟨kvs.length,by simp,zero_le _,h0⟩,?_⟩
 rintro i m σ H ⟨rfl,hi,p⟩;have q:=hl i σ H hi p;by_cases hlt:i<kvs.length
 ·refine .inr ⟨⟨q,hlt⟩,Pv (i+1),fun σ' H' p'=>⟨kvs.length - (i+1),by omega,rfl,hlt,p'⟩,fun x H' y=>?_⟩
  obtain⟨pp,k,v,rfl,hp,y2,rfl⟩:=y;exact hs i k v pp σ H y2 p hp
 ·have e:i=kvs.length:=by omega
  subst e;exact .inl ⟨⟨q,le_refl _⟩,hd σ H p⟩
end
theorem zlv{X:Cx}{pins:List (Addr×Obj)}{σ : St}{H:Hp}{s:Shared}{A:Around}{a b:Addr}{xs ys:List V}(I:Inv X pins σ H s) (ha:SqT X.K H a xs) (hb:SqT X.K H b ys) (fx:xs.all xI=true) (fy:ys.all xI=true) (hu:A.units+8<cLine) :
  SeqAt.RcAt A s (.ref a) (.ref b) (eqT xs ys):=by
 obtain⟨ia,va,pa,_⟩:=I.tuple ha;obtain⟨ib,vb,pb,_⟩:=I.tuple hb;have la:ia.toArray.size=xs.length:=by rw[size_toArray];exact va.length.symm
 have lb:ib.toArray.size=ys.length:=by rw[size_toArray];exact vb.length.symm
 have:=SeqAt.RcAt.tuples (A:=A) (s:=s) (e:=fun j=>eqV (xs[j]?.getD .non) (ys[j]?.getD .non)) (show s.heap.IsTuple a ia.toArray from pa) (show s.heap.IsTuple b ib.toArray from pb) (by omega) (fun j h1 h2=>by
  have j1:j<ia.length:=by simpa using h1
  have j2:j<ib.length:=by simpa using h2
  have hxl:j<xs.length:=by rw[va.length];exact j1
  have hyl:j<ys.length:=by rw[vb.length];exact j2
  obtain⟨u',e1,e2⟩:=va.get (i:=j) (getElem?_eq_getElem hxl);obtain⟨v',e3,e4⟩:=vb.get (i:=j) (getElem?_eq_getElem hyl);rw[getElem?_eq_getElem j1] at e1;rw[getElem?_eq_getElem j2] at e3;cases e1;cases e3;have q:=zgI (A:=A.in1) (s:=s) e2 e4 (List.all_eq_true.mp fx _ (getElem_mem hxl)) (List.all_eq_true.mp fy _ (getElem_mem hyl));simpa [hxl,hyl] using q)
 rw[la,lb] at this;exact this
def zjo(K:Frag):R2:=fun x y H Q=>∃(a c:Addr) (xs ys:List V),x=.ref a/\y=.ref c/\SqT K H a xs/\SqT K H c ys/\xs.all xI=true/\ys.all xI=true/\Q (.bl (eqT xs ys)) H
theorem jZ{X:Cx}(hu:X.A.units+64<cLine):OpR X (compareOp .Eq) (zjo X.K):=by
 intro pins s σ H x y v u Q I rx ry h;obtain⟨a,c,xs,ys,rfl,rfl,ha,hc,fx,fy,q⟩:=h;cases rx;cases ry;exact zlv (A:=X.A) I ha hc fx fy (by omega) X.prog X.w X.xe _ ⟨.bl _,H,I,rfl,q⟩
end L2
namespace K51
open PySem L2 PyProof.Rows
inductive yZ where
 | one (t:Int)|row (ts:List Int)|named (n:Str) (t:Int)|book (ps:List (Str×Int))
def yQ(p:Str×Int):Dt:=.tup [.str p.1,.int p.2]
def wg:yZ->Dt
 | .one t=>.tup [.str "one",.int t]
 | .row ts=>.tup [.str "row",.lst (ts.map .int)]
 | .named n t=>.tup [.str "named",.str n,.int t]
 | .book ps=>.tup [.str "book",.lst (ps.map yQ)]
def itT:yZ->List Int
 | .one t=>[t]
 | .row ts=>ts
 | _=>[]
def itP:yZ->List (Str×Int)
 | .named n t=>[(n,t)]
 | .book ps=>ps
 | _=>[]
def yA(c:List yZ):List Int:=(c.map itT).flatten
def y4(c:List yZ):List (Str×Int):=(c.map itP).flatten
abbrev T':Addr->Prop:=fun _=>True
def Two(K:Frag) (H H':Hp) (p:Addr) (ts:List Int) (ps:List (Str×Int)):Prop:=
 ∃l1 l2 xs,H l1=none/\H l2=none/\l1≠l2/\H p=none/\H' p=some (.tup [.ref l1,.ref l2])/\H' l1=some (.lst (ts.map V.int))/\H' l2=some (.lst xs)/\Paired (zA K T' H' 1) xs (ps.map yQ)
def zfb(K:Frag):Sp:=fun vs H Q _=>∃(a:Addr) (c:List yZ) (xs:List V),vs=[.ref a]/\SqL K H a xs/\Paired (zA K T' H 3) xs (c.map wg)/\(yA c).length<=900/\(y4 c).length<=900/\
 ∀(p:Addr) (H':Hp),zo H H'->Two K H H' p (yA c) (y4 c)->Q (.ref p) H'
section
variable {P:Program}{w:World}{K:Frag}{mg:Str->Option Value}{base:Heap}{f:Addr}{fd:FuncData}
theorem zgQ(ns:List Int) (lo hi:Option Int):∃ms:List Int,wu (ns.map V.int) lo hi=ms.map V.int/\ms.length<=ns.length/\∀m∈ms,m∈ns:=by
 refine⟨(ns.drop (HT.sIx ns.length 0 lo)).take (HT.sIx ns.length ns.length hi - HT.sIx ns.length 0 lo),?_,?_,fun m hm=>List.mem_of_mem_drop (List.mem_of_mem_take hm)⟩
 ·unfold wu
  rw[length_map,map_take,map_drop]
 ·rw[length_take,length_drop]
  omega
end
section
variable {K:Frag}{ok:Addr->Prop}{H H':Hp}{n:Nat}{x:V}
theorem uC{i:Int}(h:zA K ok H n x (.int i)):x=.int i:=by
 have fl:jj x (.int i)->x=.int i:=fun h=>by
  cases x <;> first|exact h.elim|(have e:=(show _=_ from h);rw[e])
 cases n with
 | zero=>exact fl h
 | succ n=>
  rcases h with h|⟨_,_,_,_,e,_⟩|⟨_,_,_,_,e,_⟩
  ·exact fl h
  ·cases e
  ·cases e
theorem wL{z:Str}(h:zA K ok H n x (.str z)):x=.str z:=by
 have fl:jj x (.str z)->x=.str z:=fun h=>by
  cases x <;> first|exact h.elim|(have e:=(show _=_ from h);rw[e])
 cases n with
 | zero=>exact fl h
 | succ n=>
  rcases h with h|⟨_,_,_,_,e,_⟩|⟨_,_,_,_,e,_⟩
  ·exact fl h
  ·cases e
  ·cases e
theorem wK{ds:List Dt}(h:zA K ok H (n+1) x (.tup ds)):∃a xs,x=.ref a/\SqT K H a xs/\Paired (zA K ok H n) xs ds:=by
 rcases h with h|⟨a,xs,ds',e1,e2,e3,r⟩|⟨_,_,_,_,e,_⟩
 ·cases x <;> exact h.elim
 ·cases e2;exact⟨a,xs,e1,e3,r⟩
 ·cases e
theorem zbo{ds:List Dt}(h:zA K ok H (n+1) x (.lst ds)):∃a xs,x=.ref a/\ok a/\H a=some (.lst xs)/\Paired (zA K ok H n) xs ds:=by
 rcases h with h|⟨_,_,_,_,e,_⟩|⟨a,xs,ds',e1,e2,o,e3,r⟩
 ·cases x <;> exact h.elim
 ·cases e
 ·cases e2;exact⟨a,xs,e1,o,e3,r⟩
theorem qL:∀{ts:List Int}{xs:List V},Paired (zA K ok H n) xs (ts.map .int)->xs=ts.map V.int
 | [],_,r=>by cases r;rfl
 | t::ts,_,r=>by
  cases r with
  | cons h r=>rw[uC h,qL r];rfl
theorem wl:∀(ts:List Int),Paired (zA K ok H n) (ts.map V.int) (ts.map .int)
 | []=>.nil
 | t::ts=>.cons .int (wl ts)
theorem xh{α β : Type}{F : α->β->Prop}:∀{a c:List α}{b d:List β},Paired F a b->Paired F c d->Paired F (a++c) (b++d)
 | _,_,_,_,.nil,s=>s
 | _,_,_,_,.cons r t,s=>.cons r (xh t s)
theorem zgu{t:Int}(h:zA K ok H 3 x (wg (.one t))):∃a,x=.ref a/\SqT K H a [.str "one",.int t]:=by
 obtain⟨a,xs,rfl,hS,r⟩:=wK h;cases r with
 | cons h1 r=>cases r with
  | cons h2 r=>cases r;rw[wL h1,uC h2] at hS;exact⟨a,rfl,hS⟩
theorem zgt{ts:List Int}(h:zA K ok H 3 x (wg (.row ts))):∃a b,x=.ref a/\SqT K H a [.str "row",.ref b]/\ok b/\H b=some (.lst (ts.map V.int)):=by
 obtain⟨a,xs,rfl,hS,r⟩:=wK h;cases r with
 | cons h1 r=>cases r with
  | cons h2 r=>
   cases r;obtain⟨b,ys,rfl,o,hb,q⟩:=zbo h2;rw[wL h1] at hS;rw[qL q] at hb;exact⟨a,b,rfl,hS,o,hb⟩
theorem zc4{z:Str}{t:Int}(h:zA K ok H 3 x (wg (.named z t))):∃a,x=.ref a/\SqT K H a [.str "named",.str z,.int t]:=by
 obtain⟨a,xs,rfl,hS,r⟩:=wK h;cases r with
 | cons h1 r=>cases r with
  | cons h2 r=>cases r with
   | cons h3 r=>cases r;rw[wL h1,wL h2,uC h3] at hS;exact⟨a,rfl,hS⟩
theorem zeC{ps:List (Str×Int)}(h:zA K ok H 3 x (wg (.book ps))):∃a b ys,x=.ref a/\SqT K H a [.str "book",.ref b]/\ok b/\H b=some (.lst ys)/\Paired (zA K ok H 1) ys (ps.map yQ):=by
 obtain⟨a,xs,rfl,hS,r⟩:=wK h;cases r with
 | cons h1 r=>cases r with
  | cons h2 r=>
   cases r;obtain⟨b,ys,rfl,o,hb,q⟩:=zbo h2;rw[wL h1] at hS;exact⟨a,b,ys,rfl,hS,o,hb,q⟩
end
theorem zcZ(c:List yZ) (i:Nat) (it:yZ) (h:c[i]?=some it):yA (c.take (i+1))=yA (c.take i)++itT it:=by
 unfold yA;rw[take_add_one,h,map_append,flatten_append];simp
theorem zc0(c:List yZ) (i:Nat) (it:yZ) (h:c[i]?=some it):y4 (c.take (i+1))=y4 (c.take i)++itP it:=by
 unfold y4;rw[take_add_one,h,map_append,flatten_append];simp
theorem zbO(c:List yZ) (i:Nat):(yA (c.take i)).length<=(yA c).length:=by
 unfold yA
 conv=>rhs;rw[<- take_append_drop i c]
 rw[map_append,flatten_append,length_append];omega
theorem zbP(c:List yZ) (i:Nat):(y4 (c.take i)).length<=(y4 c).length:=by
 unfold y4
 conv=>rhs;rw[<- take_append_drop i c]
 rw[map_append,flatten_append,length_append];omega
theorem ne1:¬(V.str "row"=V.str "one"):=by decide +kernel
theorem ne2:¬(V.str "named"=V.str "one"):=by decide +kernel
theorem ne3:¬(V.str "book"=V.str "one"):=by decide +kernel
theorem ne4:¬(V.str "named"=V.str "row"):=by decide +kernel
theorem ne5:¬(V.str "book"=V.str "row"):=by decide +kernel
theorem ne6:¬(V.str "book"=V.str "named"):=by decide +kernel
section
variable {P:Program}{w:World}{K:Frag}{mg:Str->Option Value}{base:Heap}{f:Addr}{fd:FuncData}
theorem jI:zr ["call","things","pairs","item","word"] ["call"] (zi zfu):=⟨rfl,rfl,rfl,by decide +kernel,rfl,by decide +kernel,by decide +kernel⟩
theorem wM{H H2:Hp}{l:Addr}(s:zo H H2) (h:H l=none) (o:HO):zo H (upd H2 l o):=fun b u q=>by rw[zh (zd q h)];exact s b u q
theorem zhM(F:Fun K "laid" "laid" zfu f fd):zD P w K mg base CX0 1 f fd ["call"] (zfb K):=by
 refine F.ok jI (fun vs H Q E h=>?_) (fun cdv A outer s H vs Q E hr h=>?_)
 ·obtain⟨a,c,xs,rfl,_⟩:=h
  rfl
 obtain⟨a,c,xs,rfl,hS,hc,hT,hP,q⟩:=h;refine⟨_,zf (zu (i:=1) jI.nd rfl (Or.inl rfl) (zO zc)) (zf (zu (i:=2) jI.nd rfl (Or.inl rfl) (zO zc))
  (zf (xq PassesOwn.never rfl (yE (pv 0)) (zl (i:=3) jI.nd rfl (Or.inl rfl))
   (zf (zu (i:=4) jI.nd rfl (Or.inl rfl) (zB zy (pv 3) zg (fun _ _=>rfl)))
   (ze (zH (zk z7 (pv 4) zj (zt _)) (ze (zI (y3 PySem.F.plainAttrs_list PySem.F.slot_list_append PySem.F.type_list_append zQ (pv 1) (ac (zB zy (pv 3) zg (fun _ _=>rfl)) zc))))
    (ze (zH (zk z7 (pv 4) zj (zt _)) (ze (zI (y3 PySem.F.plainAttrs_list PySem.F.slot_list_extend PySem.F.type_list_extend vT (pv 1) (ac (zB zy (pv 3) zg (fun _ _=>rfl)) zc))))
     (ze (zH (zk z7 (pv 4) zj (zt _)) (ze (zI (y3 PySem.F.plainAttrs_list PySem.F.slot_list_append PySem.F.type_list_append zQ (pv 2) (ac (zC (ac (zB zy (pv 3) zg (fun _ _=>rfl)) (ac (zB zy (pv 3) zg (fun _ _=>rfl)) zc))) zc))))
      (ze (zI (y3 PySem.F.plainAttrs_list PySem.F.slot_list_extend PySem.F.type_list_extend vT (pv 2) (ac (zB zy (pv 3) zg (fun _ _=>rfl)) zc))))))))))))
  (ze (zq (zC (ac (pv 1) (ac (pv 2) zc))))))),?_⟩
 refine⟨zz0,fun l1 h1=>?_⟩;refine⟨zz0,fun l2 h2=>?_⟩;have n12:l1≠l2:=zd za h2;have f2:H l2=none:=(zb h1 _).free h2;have s0:zo H (upd (upd H l1 (.lst [])) l2 (.lst [])):=(zb h1 _).trans (zb h2 _);refine⟨_,rfl,a,rfl,⟨_,s0.seq hS⟩,uN (K:=K) (a:=a) (xs:=xs) (fun i σ H2=>∃v3 v4 ys,σ=[some (.ref a),some (.ref l1),some (.ref l2),v3,v4]/\zo H H2/\H2 l1=some (.lst ((yA (c.take i)).map V.int))/\H2 l2=some (.lst ys)/\Paired (zA K T' H2 1) ys ((y4 (c.take i)).map yQ))
  ⟨_,_,[],rfl,s0,by rw[zh n12,za];rfl,za,.nil⟩ (fun i σ H2 _ ⟨_,_,_,_,s2,_⟩=>s2.seq hS) ?_ ?_⟩
 ·rintro i y σ H2 hi ⟨v3,v4,ys,rfl,s2,g1,g2,gp⟩
  obtain⟨d,hd,hy⟩:=Paired.get hc hi;obtain⟨it,hit,rfl⟩:∃it,c[i]?=some it/\wg it=d:=by
   rw[getElem?_map] at hd;cases e:c[i]? with
   | none=>rw[e] at hd;cases hd
   | some it=>rw[e] at hd;exact⟨it,rfl,Option.some.inj hd⟩
  have hy2:=hy.same s2;have eT:=zcZ c i it hit;have eP:=zc0 c i it hit;have lT:=zbO c i;have lP:=zbP c i;have lT1:=zbO c (i+1);have lP1:=zbP c (i+1);have lys:ys.length=(y4 (c.take i)).length:=by rw[gp.length,length_map]
  have sT:∀{H3:Hp}{o:HO}{l:Addr},H3 l=none\/(∃zs,H3 l=some (.lst zs))->∀{b zs},SqT K H3 b zs->SqT K (upd H3 l o) b zs:=fun {H3 o l} hl {b zs} hz=>by
   rcases hz with (z|⟨u,z⟩)|z
   ·refine .inl (.inl ?_)
    have:b≠l:=fun e=>by
     subst e;rcases hl with e|⟨_,e⟩
     ·rw[e] at z;cases z
     ·rw[e] at z;cases z
    rw[zh this];exact z
   ·refine .inl (.inr ⟨u,?_⟩)
    have:b≠l:=fun e=>by
     subst e;rcases hl with e|⟨_,e⟩
     ·rw[e] at z;cases z
     ·rw[e] at z;cases z
    rw[zh this];exact z
   ·exact .inr z
  have keepP:∀{H3:Hp}{o:HO}{l:Addr}{zs:List V}{ps:List (Str×Int)},H3 l=none\/(∃zs,H3 l=some (.lst zs))->Paired (zA K T' H3 1) zs (ps.map yQ)->Paired (zA K T' (upd H3 l o) 1) zs (ps.map yQ):=by
   intro H3 o l zs ps hl r;induction ps generalizing zs with
   | nil=>cases r;exact .nil
   | cons p ps ih=>
    cases r with
    | cons h r=>
     refine .cons ?_ (ih r);obtain⟨b,ws,rfl,hS',r'⟩:=wK h;exact .tup (sT hl hS') (Paired.imp' (fun _ _ z=>z) r')
  cases it with
  | one t=>
   obtain⟨b,rfl,hb⟩:=zgu hy2;refine⟨_,rfl,b,_,_,.str "one",rfl,rfl,hb,rfl,?_⟩;refine⟨_,rfl,rfl,_,rfl,?_⟩;refine dT rfl ?_;refine⟨_,rfl,.inl ⟨rfl,_,SqL.of g1⟩,_,rfl,b,_,_,.int t,rfl,rfl,hb,rfl,l1,_,_,rfl,rfl,g1,?_,?_⟩
   ·rw[length_map];exact zE (by omega)
   ·refine⟨_,_,ys,rfl,wM s2 h1 _,?_,?_,?_⟩
    ·rw[za,eT,map_append];rfl
    ·rw[zh n12.symm];exact g2
    ·rw[eP];show Paired _ _ ((y4 (c.take i)++[]).map yQ);rw[append_nil];exact keepP (.inr ⟨_,g1⟩) gp
  | row ts=>
   obtain⟨b,bl,rfl,hb,_,hbl⟩:=zgt hy2;refine⟨_,rfl,b,_,_,.str "row",rfl,rfl,hb,rfl,?_⟩;refine⟨_,rfl,rfl,_,rfl,?_⟩;refine dF ne1 ?_;refine⟨_,rfl,rfl,_,rfl,?_⟩;refine dT rfl ?_;refine⟨_,rfl,.inl ⟨rfl,_,SqL.of g1⟩,_,rfl,b,_,_,.ref bl,rfl,rfl,hb,rfl,l1,bl,_,_,rfl,rfl,g1,hbl,?_,?_⟩
   ·have e1:(yA (c.take (i+1))).length=(yA (c.take i)).length+ts.length:=by rw[eT,length_append];rfl
    rw[length_map,length_map];exact zZ (by omega)
   ·refine⟨_,_,ys,rfl,wM s2 h1 _,?_,?_,?_⟩
    ·rw[za,eT,map_append];rfl
    ·rw[zh n12.symm];exact g2
    ·rw[eP];show Paired _ _ ((y4 (c.take i)++[]).map yQ);rw[append_nil];exact keepP (.inr ⟨_,g1⟩) gp
  | named z t=>
   obtain⟨b,rfl,hb⟩:=zc4 hy2;refine⟨_,rfl,b,_,_,.str "named",rfl,rfl,hb,rfl,?_⟩;refine⟨_,rfl,rfl,_,rfl,?_⟩;refine dF ne2 ?_;refine⟨_,rfl,rfl,_,rfl,?_⟩;refine dF ne4 ?_;refine⟨_,rfl,rfl,_,rfl,?_⟩;refine dT rfl ?_;refine⟨_,rfl,.inl ⟨rfl,_,SqL.of g2⟩,_,rfl,b,_,_,.str z,rfl,rfl,hb,rfl,_,rfl,b,_,_,.int t,rfl,rfl,hb,rfl,zz2,fun p hp=>?_⟩;have np2:l2≠p:=zd g2 hp;have np1:l1≠p:=zd g1 hp;have fp:H p=none:=s2.free hp;refine⟨l2,_,_,rfl,rfl,(by rw[zh np2];exact g2),?_,?_⟩
   ·rw[lys];exact zE (by omega)
   ·refine⟨_,_,ys++[.ref p],rfl,wM (wM s2 fp _) f2 _,?_,za,?_⟩
    ·rw[zh n12,zh np1,g1,eT];show _=some (HO.lst ((yA (c.take i)++[]).map V.int));rw[append_nil]
    ·rw[eP,map_append]
     refine xh (keepP (.inr ⟨_,by rw[zh np2];exact g2⟩) (keepP (.inl hp) gp)) (.cons (.tup (xs:=[.str z,.int t]) (SqT.of ?_) (.cons .str (.cons .int .nil))) .nil)
     rw[zh np2.symm,za]
  | book ps=>
   obtain⟨b,bl,zs,rfl,hb,_,hbl,hz⟩:=zeC hy2;refine⟨_,rfl,b,_,_,.str "book",rfl,rfl,hb,rfl,?_⟩;refine⟨_,rfl,rfl,_,rfl,?_⟩;refine dF ne3 ?_;refine⟨_,rfl,rfl,_,rfl,?_⟩;refine dF ne5 ?_;refine⟨_,rfl,rfl,_,rfl,?_⟩;refine dF ne6 ?_;have lz:zs.length=ps.length:=by rw[hz.length,length_map]
   refine⟨_,rfl,.inl ⟨rfl,_,SqL.of g2⟩,_,rfl,b,_,_,.ref bl,rfl,rfl,hb,rfl,l2,bl,_,_,rfl,rfl,g2,hbl,?_,?_⟩
   ·have e1:(y4 (c.take (i+1))).length=(y4 (c.take i)).length+ps.length:=by rw[eP,length_append];rfl
    rw[lys,lz];exact zZ (by omega)
   ·refine⟨_,_,ys++zs,rfl,wM s2 f2 _,?_,za,?_⟩
    ·rw[zh n12,g1,eT];show _=some (HO.lst ((yA (c.take i)++[]).map V.int));rw[append_nil]
    ·rw[eP,map_append]
     exact xh (keepP (.inr ⟨_,g2⟩) gp) (keepP (.inr ⟨_,g2⟩) hz)
 ·rintro σ H2 ⟨v3,v4,ys,rfl,s2,g1,g2,gp⟩
  refine⟨_,rfl,_,rfl,zz2,fun p hp=>?_⟩;have hl:xs.length=c.length:=by rw[hc.length,length_map]
  rw[hl,take_length] at g1 gp;refine q p _ (s2.trans (zb hp _)) ⟨l1,l2,ys,h1,f2,n12,s2.free hp,za,?_,?_,Paired.imp' (fun _ _ z=>z.same (zb hp _)) gp⟩
  ·rw[zh (zd g1 hp)];exact g1
  ·rw[zh (zd g2 hp)];exact g2
end
theorem wp{K:Frag}{ok:Addr->Prop}{H H':Hp}{zs:List V}{ps:List (Str×Int)}(s:zo H H') (r:Paired (zA K ok H 1) zs (ps.map yQ)):Paired (zA K ok H' 1) zs (ps.map yQ):=Paired.imp' (fun _ _ z=>z.same s) r
def plain(ts:List Int) (ps:List (Str×Int)):List yZ:=ts.map .one++ps.map fun p=>.named p.1 p.2
theorem zbz{ps:List (Str×Int)}{i:Nat}{d:Dt}(h:(ps.map yQ)[i]?=some d):∃p,ps[i]?=some p/\yQ p=d:=by
 rw[getElem?_map] at h;cases e:ps[i]? with
 | none=>rw[e] at h;cases h
 | some it=>rw[e] at h;exact⟨it,rfl,Option.some.inj h⟩
theorem vS{K:Frag}{ok:Addr->Prop}{H:Hp}{n:Nat}{x:V}{p:Str×Int}(h:zA K ok H (n+1) x (yQ p)):∃b,x=.ref b/\SqT K H b [.str p.1,.int p.2]:=by
 obtain⟨a,xs,rfl,hS,r⟩:=wK h;cases r with
 | cons h1 r=>cases r with
  | cons h2 r=>cases r;rw[wL h1,uC h2] at hS;exact⟨a,rfl,hS⟩
theorem zc3{K:Frag}{ok:Addr->Prop}{n:Nat}{H H':Hp}{zs:List V}{c:List yZ}(s:zo H H') (r:Paired (zA K ok H n) zs (c.map wg)):Paired (zA K ok H' n) zs (c.map wg):=Paired.imp' (fun _ _ z=>z.same s) r
section
variable {P:Program}{w:World}{K:Frag}{mg:Str->Option Value}{base:Heap}{f:Addr}{fd:FuncData}
end
theorem zex(c:List yZ) (it:yZ):yA (c++[it])=yA c++itT it:=by unfold yA;simp
theorem zey(c:List yZ) (it:yZ):y4 (c++[it])=y4 c++itP it:=by unfold y4;simp
theorem wW{K:Frag}{ok ok':Addr->Prop}{H:Hp}(hk:∀b,ok b->H b≠none->ok' b) {n:Nat}{x:V}{d:Dt}(h:zA K ok H n x d):zA K ok' H n x d:=
 h.frame (fun a xs z=>z) fun a xs oa z=>⟨hk a oa (by rw[z];intro q;cases q),z⟩
theorem vg{A B:Prop}{b:Bool}(h:b=true) (a:A):if b=true then A else B:=by rw[h];exact yY a
theorem vf{A B:Prop}{b:Bool}(h:b=false) (a:B):if b=true then A else B:=by rw[h];exact zK a
section
variable {P:Program}{w:World}{K:Frag}{mg:Str->Option Value}{base:Heap}{f:Addr}{fd:FuncData}
section
variable {H H':Hp}{p l1 l2 l:Addr}{ys:List V}{ts:List Int}{ps:List (Str×Int)}{o:HO}
end
end
def z5(c:List yZ):List Str:=(y4 c).map (·.1)
def zay(K:Frag):Sp:=fun vs H Q _=>∃(a:Addr) (c:List yZ) (xs:List V),vs=[.ref a]/\SqL K H a xs/\Paired (zA K T' H 3) xs (c.map wg)/\(yA c).length<=900/\(y4 c).length<=900/\
 ∀(p l:Addr) (H':Hp),zo H H'->H l=none->H' p=some (.tup [.int ((yA c).length:Nat),.ref l])->H' l=some (.lst ((z5 c).map V.str))->Q (.ref p) H'
def vX:Nat->List (Key×V)->List Str->List (Key×V)
 | _,acc,[]=>acc
 | i,acc,z::zs=>vX (i+1) (if (zF acc (.inr z)).isSome=true then acc else zV acc (.inr z) (.int i)) zs
theorem zac{z:Str}:∀(zs:List Str) (j i:Nat) (acc:List (Key×V)),zs[i]?=some z->vX j acc (zs.take (i+1))=(if (zF (vX j acc (zs.take i)) (.inr z)).isSome=true then vX j acc (zs.take i) else zV (vX j acc (zs.take i)) (.inr z) (.int (j+i:Nat)))
 | [],_,_,_,h=>by simp at h
 | y::ys,j,0,acc,h=>by
  have e:y=z:=by simpa using h
  subst e;rfl
 | y::ys,j,i+1,acc,h=>by
  have:=zac ys (j+1) i (if (zF acc (.inr y)).isSome=true then acc else zV acc (.inr y) (.int j)) (by simpa using h)
  show vX (j+1) _ (ys.take (i+1))=_;rw[this,show j+1+i=j+(i+1) by omega]
  rfl
theorem zbV:∀(zs:List Str) (i:Nat) (acc:List (Key×V)),(vX i acc zs).length<=acc.length+zs.length
 | [],_,_=>le_refl _
 | z::zs,i,acc=>by
  have h:=zbV zs (i+1) (if (zF acc (.inr z)).isSome=true then acc else zV acc (.inr z) (.int i))
  have h2:(if (zF acc (.inr z)).isSome=true then acc else zV acc (.inr z) (.int i)).length<=acc.length+1:=by
   split
   ·omega
   ·exact yV acc _ _
  show(vX (i+1) _ zs).length<=acc.length+(zs.length+1);omega
def jF:Sp:=fun vs H Q _=>∃(a:Addr) (zs:List Str),vs=[.ref a]/\H a=some (.lst (zs.map V.str))/\zs.length<=900/\∀(l:Addr) (o:Obj) (H':Hp),zo H H'->H l=none->H' l=some (.frz o (.dK (vX 0 [] zs)))->Q (.ref l) H'
section
variable {P:Program}{w:World}{K:Frag}{mg:Str->Option Value}{base:Heap}{f CF:Addr}{fd:FuncData}{c:C5}{m:MA}
theorem zkP:([Str.ofString "name",Str.ofString "thing"]:List Str).Nodup:=by decide +kernel
theorem zaF:zr ["call","things","pairs"] ["call"] (zi zcp):=⟨rfl,rfl,rfl,by decide +kernel,rfl,by decide +kernel,by decide +kernel⟩
theorem zf0{g:Addr}{gd:FuncData}(F:Fun K "shape" "shape" zcp f fd) (hlen:mg "len"=none) (cL:zG P w K mg base 1 "laid" g gd ["call"] (zfb K)):zD P w K mg base CX0 2 f fd ["call"] (zay K):=by
 refine F.ok zaF (fun vs H Q E h=>?_) (fun cdv A outer s H vs Q E hr h=>?_)
 ·obtain⟨a,c,xs,rfl,_⟩:=h
  rfl
 obtain⟨a,c,xs,rfl,hS,hc,lT,lP,q⟩:=h;refine⟨_,zf (xN (cF cL hr (ac (pv 0) zc)) (yi rfl (zp (zl (i:=1) zaF.nd rfl (Or.inl rfl)) (zp (zl (i:=2) zaF.nd rfl (Or.inl rfl)) zS))))
  (ze (zq (zC (ac (cB zw hlen PySem.boot_len (ac (pv 1) zc)) (ac (xn [] ["name","thing"] [none,none] rfl ⟨rfl,rfl,rfl,rfl⟩ (yE (pv 2)) (yG (K:=K) (n:=2) 0 1) rfl rfl rfl
   (fun pins fp s H C=>⟨yi rfl (zp (zl (i:=0) zkP rfl (Or.inl rfl) (.inr rfl)) (zp (zl (i:=1) zkP rfl (Or.inl rfl) (.inr rfl)) zS)),yO,pv 0⟩)) zc))))),?_⟩
 refine⟨_,rfl,a,c,xs,rfl,hS,hc,lT,lP,fun p H1 s1 two=>?_⟩;obtain⟨l1,l2,ys,n1,n2,n12,np,ep,e1,e2,gp⟩:=two;refine⟨p,_,rfl,SqT.of ep,rfl,_,_,rfl,_,_,rfl,rfl,?_⟩;refine⟨_,rfl,l1,_,rfl,.inl (SqL.of e1),_,rfl,l2,rfl,⟨_,SqL.of e2⟩,fun D hD=>?_⟩;have lys:ys.length=(y4 c).length:=by rw[gp.length,length_map]
 refine ve (K:=K) (xs:=ys) (fun i zs H'=>zo H1 H'/\H' D=some (.lst zs)/\zs=((z5 c).take i).map V.str) ⟨zb hD _,za,rfl⟩ (fun i zs H' h=>SqL.of (h.1 _ _ e2)) ?_ ?_
 ·rintro i x zs H' hlt hx ⟨sH,hDy,ez⟩
  obtain⟨d,hd,hy⟩:=Paired.get gp hx;obtain⟨pr',hpr,rfl⟩:=zbz hd;obtain⟨b,rfl,hb⟩:=vS (hy.same sH);refine⟨b,_,rfl,hb,rfl,_,_,rfl,_,_,rfl,rfl,fun _=>⟨_,rfl,?_⟩,fun e=>Bool.noConfusion e⟩;have hi:i<(z5 c).length:=by unfold z5;rw[length_map];omega
  have en:(z5 c)[i]=pr'.1:=by
   have:(z5 c)[i]?=some pr'.1:=by unfold z5;rw[getElem?_map,hpr];rfl
   rw[getElem?_eq_getElem hi] at this;exact Option.some.inj this
  refine lcN.mk hlt (zZ (by omega)) hDy (by rw[ez,length_map,length_take];omega) ⟨fun b' u e=>?_,za,?_⟩
  ·rw[zh (zd e hD)]
   exact sH b' u e
  ·rw[ez,take_succ_eq_append_getElem hi,en,map_append]
   rfl
 rintro zs H2 ⟨s2,hDy,ez⟩;have hz:zs=(z5 c).map V.str:=by
  rw[ez,take_of_length_le (by unfold z5;rw[length_map];omega)]
 subst hz;refine⟨zz2,fun t ht=>?_⟩;have s3:=zb ht (.tup [.int ((yA c).map V.int).length,.ref D]);refine q t D _ (s1.trans (s2.trans s3)) (s1.free hD) (by rw[za,length_map]) (s3 _ _ hDy)
theorem uB:zr ["names","firsts","number","name"] ["names"] (zi zaL):=⟨rfl,rfl,rfl,by decide +kernel,rfl,by decide +kernel,by decide +kernel⟩
theorem zer(F:Fun K "first_numbers" "first_numbers" zaL f fd) (hen:mg "enumerate"=none):zD P w K mg base CX0 1 f fd ["names"] jF:=by
 refine F.ok uB (fun vs H Q E h=>?_) (fun cdv A outer s H vs Q E hr h=>?_)
 ·obtain⟨a,zs,rfl,_⟩:=h
  rfl
 obtain⟨a,zs,rfl,ha,lz,q⟩:=h;have hu1:=jh hr;refine⟨_,zf (zu (i:=1) uB.nd rfl (Or.inl rfl) zbx)
  (zf (xq PassesOwn.never rfl (yH rfl hen (ac (pv 0) zc)) (yi rfl (zp (zl (i:=2) uB.nd rfl (Or.inl rfl)) (zp (zl (i:=3) uB.nd rfl (Or.inl rfl)) zS)))
   (ze (zH (yL (zek hu1 (pv 3) (pv 1))) (ze (jr hu1 (pv 1) (pv 3) (pv 2) rfl)) zv)))
  (ze (zq (zjt (pv 1))))),?_⟩
 intro sd hsd;have s1:=zb hsd (.dK []);have e1:upd H sd (.dK []) sd=some (.dK []):=za;show wn _ _ _ _ (upd H sd (.dK []));generalize upd H sd (.dK [])=H1 at s1 e1 |-;refine⟨_,rfl,a,rfl,⟨_,SqL.of (s1 _ _ ha)⟩,xY (K:=K) (a:=a) (xs:=zs.map V.str) (fun i σ H'=>∃(v2 v3:Option V),σ=[some (.ref a),some (.ref sd),v2,v3]/\zo H H'/\H' sd=some (.dK (vX 0 [] (zs.take i))))
  ⟨_,_,rfl,s1,e1⟩ (fun i σ H' _ ⟨_,_,_,sH,_⟩=>SqL.of (sH _ _ ha)) ?_ ?_⟩
 ·rintro i x p σ H' hx ⟨v2,v3,rfl,sH,hd⟩ hpn
  obtain⟨z,hz,rfl⟩:=strs_at hx;have sp:=zb hpn (.tup [.int (i:Nat),.str z]);have hd2:=sp _ _ hd;have tk:=zac zs 0 i [] hz;rw[Nat.zero_add] at tk;have hi:i<zs.length:=(List.getElem?_eq_some_iff.mp hz).1;refine⟨p,_,rfl,SqT.of za,rfl,_,_,rfl,_,_,rfl,rfl,?_⟩;refine⟨_,rfl,_,rfl,sd,_,rfl,.inl ⟨_,.inr z,.inl hd2,rfl,rfl⟩,_,rfl,?_⟩;refine zaY (fun ne=>?_) (fun ne=>?_)
  ·have ns:¬(zF (vX 0 [] (zs.take i)) (.inr z)).isSome=true:=by
    intro e;rw[e] at ne;cases ne
   rw[if_neg ns] at tk;have ln:=zbV (zs.take i) 0 [];refine⟨_,rfl,_,rfl,_,rfl,sd,_,rfl,.inl ⟨_,.inr z,hd2,rfl,zE (by rw[length_take] at ln;simp at ln;omega),rfl⟩,?_⟩
   refine⟨_,_,rfl,fun b' u e=>?_,by rw[za,tk]⟩
   rw[zh (zd e hsd)];exact sp _ _ (sH _ _ e)
  ·have ns:(zF (vX 0 [] (zs.take i)) (.inr z)).isSome=true:=by
    cases e:(zF (vX 0 [] (zs.take i)) (.inr z)).isSome with
    | true=>rfl
    | false=>exact absurd (by rw[e];rfl) ne
   rw[if_pos ns] at tk;exact⟨_,_,rfl,sH.trans sp,by rw[tk];exact hd2⟩
 ·rintro σ H' ⟨v2,v3,rfl,sH,hd⟩
  rw[length_map,take_length] at hd;refine⟨_,rfl,sd,_,rfl,hd,fun o=>?_⟩;refine q sd o _ (fun b' u e=>?_) hsd za;rw[zh (zd e hsd)];exact sH _ _ e
end
def MA1(H:Hp) (u:Addr) (m:Str×Nat):Prop:=H u=some (.tup [.str m.1,.int (m.2:Nat)])
def wT(H:Hp) (us:List Addr) (ms:List (Str×Nat)):Prop:=Paired (MA1 H) us ms
theorem wT.same{H H':Hp}{us:List Addr}{ms:List (Str×Nat)}(h:wT H us ms) (s:zo H H'):wT H' us ms:=Paired.imp' (fun _ _ z=>s _ _ z) h
theorem wT.upd{H:Hp}{us:List Addr}{ms:List (Str×Nat)}{D:Addr}{ys:List V}{o:HO}(h:wT H us ms) (hD:H D=some (.lst ys)):wT (upd H D o) us ms:=Paired.imp' (fun u m z=>by
 show L2.upd H D o u=_;rw[zh (fun e=>by rw[e] at z;rw[MA1,hD] at z;cases z)]
 exact z) h
theorem wT.snoc{H:Hp}{us:List Addr}{ms:List (Str×Nat)}{u:Addr}{m:Str×Nat}(h:wT H us ms) (hu:MA1 H u m):wT H (us++[u]) (ms++[m]):=Paired.snoc h hu
def zb9(H H':Hp) (l:Addr) (ms:List (Str×Nat)):Prop:=∃us:List Addr,H l=none/\H' l=some (.lst (us.map V.ref))/\wT H' us ms
def wA(rows:List Rw) (many:Nat):List (Str×Nat):=if (zm 2 0 rows).isSome=true then [] else (List.range (many - plN rows)).map fun i=>((("over" : Str),plN rows+i):Str×Nat)
def zds(c:C5) (CF:Addr):Sp:=fun vs H Q _=>∃(f:Addr) (many:Nat) (rows:List Rw) (bars:List Str),vs=[.ref f,.int (many:Nat)]/\many<=900/\rows.length<=500/\xr c CF H f rows bars/\∀(l:Addr) (H':Hp),zo H H'->zb9 H H' l (wA rows many)->Q (.ref l) H'
def uf(r:Rw) (i many:Nat) (fk:List (Key×V)):List V:=
 if xl r.k=true/\i<many then [.str "place",.int (i:Nat)] else if zR r.k=true/\(zF fk (.inr r.z)).isSome=true then [.str "name",(zF fk (.inr r.z)).getD .non] else [.str "free"]
def zdm(fk:List (Key×V)):Prop:=∀k v,zF fk k=some v->xI v=true
def zch(c:C5):Sp:=fun vs H Q _=>∃(p d:Addr) (i many:Nat) (r:Rw) (fk:List (Key×V)),vs=[.ref p,.int (i:Nat),.int (many:Nat),.ref d]/\PAt c H p r/\r.ok/\Rd H d (.dK fk)/\∀(u:Addr) (H':Hp),zo H H'->H' u=some (.tup (uf r i many fk))->Q (.ref u) H'
def yc(r:Rw) (i many:Nat) (fk:List (Key×V)):Bool:=!fr r.k r.b&&L2.eqT (uf r i many fk) [.str "free"]
def wf(many:Nat) (fk:List (Key×V)):Nat->List Rw->List (Str×Nat)
 | _,[]=>[]
 | i,r::rs=>(if yc r i many fk=true then [(("lacking" : Str),i)] else [])++wf many fk (i+1) rs
theorem qb{many:Nat}{fk:List (Key×V)}{r:Rw}:∀(rows:List Rw) (j i:Nat),rows[i]?=some r->wf many fk j (rows.take (i+1))=wf many fk j (rows.take i)++(if yc r (j+i) many fk=true then [(("lacking" : Str),j+i)] else [])
 | [],_,_,h=>by simp at h
 | y::ys,j,0,h=>by
  have e:y=r:=by simpa using h
  subst e;show(_++[])=[]++_;rw[append_nil,nil_append];rfl
 | y::ys,j,i+1,h=>by
  have:=qb (many:=many) (fk:=fk) ys (j+1) i (by simpa using h)
  show _++wf many fk (j+1) (ys.take (i+1))=_;rw[this,show j+1+i=j+(i+1) by omega,<- append_assoc]
  rfl
theorem uZ(many:Nat) (fk:List (Key×V)):∀(rows:List Rw) (i:Nat),(wf many fk i rows).length<=rows.length
 | [],_=>le_refl _
 | r::rs,i=>by
  have:=uZ many fk rs (i+1)
  show(_++wf many fk (i+1) rs).length<=rs.length+1;rw[length_append];split
  ·rw[length_singleton];omega
  ·rw[length_nil];omega
theorem zen{r:Rw}{i many:Nat}{fk:List (Key×V)}(h:zdm fk):(uf r i many fk).all xI=true:=by
 unfold uf;split
 ·rfl
 ·split
  next h2=>
   obtain⟨v,hv⟩:=Option.isSome_iff_exists.mp h2.2;rw[hv];show(true&&(xI v&&true))=true;rw[h _ _ hv];rfl
  ·rfl
def zdu(c:C5) (CF:Addr):Sp:=fun vs H Q _=>∃(f d:Addr) (many:Nat) (rows:List Rw) (bars:List Str) (fk:List (Key×V)),vs=[.ref f,.int (many:Nat),.ref d]/\rows.length<=500/\(∀r∈rows,r.ok)/\xr c CF H f rows bars/\Rd H d (.dK fk)/\zdm fk/\∀(l:Addr) (H':Hp),zo H H'->zb9 H H' l (wf many fk 0 rows)->Q (.ref l) H'
theorem zo.rd{H H':Hp}{a:Addr}{u:HO}(s:zo H H') (h:Rd H a u):Rd H' a u:=h.elim (fun e=>.inl (s _ _ e)) fun⟨o,e⟩=>.inr ⟨o,s _ _ e⟩
section
variable {P:Program}{w:World}{K:Frag}{mg:Str->Option Value}{base:Heap}{f CF:Addr}{fd:FuncData}{c:C5}{m:MA}
theorem zkN:([Str.ofString "number"]:List Str).Nodup:=by decide +kernel
theorem zhe:zr ["form","many"] ["form","many"] (zi zcv):=⟨rfl,rfl,rfl,by decide +kernel,rfl,by decide +kernel,by decide +kernel⟩
theorem zf4{gT gP:Addr}{eT eP:FuncData}(F:Fun K "overs" "overs" zcv f fd) (hran:mg "range"=none) (FK:FC K CF) (mT:yS K CF "tail" gT) (GT:zD P w K mg base CX0 1 gT eT ["self"] (wE c CF 2)) (bT:zM K eT ["self"] []) (mP:yS K CF "places" gP) (GP:zD P w K mg base CX0 1 gP eP ["self"] (wH c CF)) (bP:zM K eP ["self"] []) :
  zD P w K mg base CX0 2 f fd ["form","many"] (zds c CF):=by
 refine F.ok zhe (fun vs H Q E h=>?_) (fun cdv A outer s H vs Q E hr h=>?_)
 ·obtain⟨f,many,rows,bars,rfl,_⟩:=h
  rfl
 obtain⟨f,many,rows,bars,rfl,lm,l5,hF,q⟩:=h;refine⟨_,zf (zH (yL (uD (zU (pv 0) FK.cl mT GT hr bT .nil zW))) (ze (zq (zO zc))) zv)
  (ze (zq (xn [] ["number"] [none] rfl ⟨rfl,rfl,rfl,rfl⟩ (zei rfl hran (ac (zU (pv 0) FK.cl mP GP hr bP .nil zW) (ac (pv 1) zc))) (zY 0) rfl rfl rfl
   (fun pins fp s H C=>⟨zl (i:=0) zkN rfl (Or.inl rfl) (.inr rfl),yO,zC (ac zj (ac (pv 0) zc))⟩)))),?_⟩
 obtain⟨dx,fs,lr,lb,ld,ps,h1,h2,h3,h4,h5,h6⟩:=id hF;have nmT:fs.lookup ("tail" : Str)=none:=h2.no _ (by decide +kernel)
 have nmP:fs.lookup ("places" : Str)=none:=h2.no _ (by decide +kernel)
 refine⟨_,rfl,f,dx,fs,rfl,h1,nmT,f,rows,bars,rfl,hF,?_⟩;refine⟨_,rfl,?_⟩;cases e:zm 2 0 rows with
 | some i=>
  have ef:wA rows many=[]:=by unfold wA;rw[e];rfl
  have ne:(!decide (ww (some i)=V.non))=true:=rfl;rw[if_pos ne];refine⟨zz0,fun l hl=>?_⟩;exact q l _ (zb hl _) ⟨[],hl,za,by rw[ef];exact .nil⟩
 | none=>
  have ef:wA rows many=(List.range (many - plN rows)).map fun i=>((("over" : Str),plN rows+i):Str×Nat):=by unfold wA;rw[e];rfl
  refine zK ?_;have lp:plN rows<=500:=le_trans (length_filter_le _ _) l5;refine⟨_,rfl,f,dx,fs,rfl,h1,nmP,f,rows,bars,rfl,hF,_,rfl,(plN rows:Nat),(many:Nat),rfl,⟨by omega,by omega,by omega,by omega⟩,fun D hD=>?_⟩
  have en:((many:Int) - (plN rows:Int)).toNat=many - plN rows:=by omega
  refine wR (n:=((many:Int) - (plN rows:Int)).toNat) (fun i ys H'=>∃us,ys=us.map V.ref/\zo H H'/\H' D=some (.lst ys)/\wT H' us ((List.range i).map fun i=>((("over" : Str),plN rows+i):Str×Nat))) ⟨[],rfl,zb hD _,za,.nil⟩ ?_ ?_
  ·rintro i ys H' hi ⟨us,rfl,sH,hDy,hm⟩
   have lu:us.length=i:=by rw[hm.length,length_map,length_range]
   refine⟨fun _=>?_,fun e=>Bool.noConfusion e⟩;refine⟨_,rfl,zz2,fun t ht=>?_⟩;have s2:=zb ht (.tup [.str "over",.int ((plN rows:Int)+(i:Int))]);have hDy2:=s2 _ _ hDy;refine lcN.mk hi (zZ (by omega)) hDy2 (by rw[length_map,lu];exact le_refl _) ⟨us++[t],by rw[map_append];rfl,fun b' u' e'=>?_,za,?_⟩
   ·rw[zh (zd e' hD)]
    exact s2 _ _ (sH _ _ e')
   ·rw[range_succ,map_append]
    have hu:MA1 (upd H' t (.tup [.str "over",.int ((plN rows:Int)+(i:Int))])) t ("over",plN rows+i):=by
     show upd H' t _ t=_;rw[za];rfl
    exact((hm.same s2).snoc hu).upd hDy2
  ·rintro ys H' ⟨us,rfl,sH,hDy,hm⟩
   rw[en,<- ef] at hm;exact q D H' sH ⟨us,hD,hDy,hm⟩
theorem zi4:zr ["parameter","number","many","firsts"] ["parameter","number","many","firsts"] (zi zfs):=⟨rfl,rfl,rfl,by decide +kernel,rfl,by decide +kernel,by decide +kernel⟩
theorem zhI{gp gb:FuncData}(F:Fun K "one_entry" "one_entry" zfs f fd) (PP:Pcs K m c) (GP:zD P w K mg base CX0 1 m.fP gp ["self"] (uz K m bpL)) (bP:zM K gp ["self"] []) (GB:zD P w K mg base CX0 1 m.fB gb ["self"] (uz K m bnL)) (bB:zM K gb ["self"] []) :
  zD P w K mg base CX0 2 f fd ["parameter","number","many","firsts"] (zch c):=by
 refine F.ok zi4 (fun vs H Q E h=>?_) (fun cdv A outer s H vs Q E hr h=>?_)
 ·obtain⟨p,d,i,many,r,fk,rfl,_⟩:=h
  rfl
 obtain⟨p,d,i,many,r,fk,rfl,⟨dx,hp⟩,rok,hd,q⟩:=h;have hu1:=jh hr;have C:=PP r.k rok.1;refine⟨_,zf (zH (PW.pt (yw (yk (zU (pv 0) C.cl C.mP GP hr bP .nil zW)) (yd (zk jX (pv 1) (pv 2) (zt _))))) (ze (zq (zC (ac zj (ac (pv 1) zc))))) zv)
  (zf (zH (PW.pt (yw (yk (zU (pv 0) C.cl C.mB GB hr bB .nil zW)) (yd (yL (zcK hu1 (ym (pv 0) rfl) (pv 3)))))) (ze (zq (zC (ac zj (ac (vR hu1 (pv 3) (ym (pv 0) rfl) (fun _ _=>rfl)) zc))))) zv)
  (ze (zq (zC (ac zj zc))))),?_⟩
 have nP:(pr r).lookup ("by_place" : Str)=none:=vA (by decide +kernel) (by decide +kernel) (by decide +kernel)
 have nB:(pr r).lookup ("by_name" : Str)=none:=vA (by decide +kernel) (by decide +kernel) (by decide +kernel)
 try dsimp only
 refine yv (fun σ' H'=>σ'=[some (.ref p),some (.int (i:Nat)),some (.int (many:Nat)),some (.ref d)]/\H'=H/\¬(xl r.k=true/\i<many)) ?_ (fun key=>?_);rotate_left
 ·refine⟨_,rfl,p,dx,_,rfl,hp,nP,p,dx,_,_,_,_,rfl,C,hp,_,rfl,?_⟩
  rw[zgw r.k rok.1];cases eb:xl r.k with
  | false=>
   refine zK ?_;refine zK ?_;exact key _ _ ⟨rfl,rfl,by rw[eb];exact fun z=>Bool.noConfusion z.1⟩
  | true=>
   refine yY ?_;refine⟨_,rfl,_,rfl,_,_,rfl,rfl,_,rfl,?_⟩;refine zaY (fun c1=>?_) (fun c1=>?_)
   ·have hlt:i<many:=by
     have:=of_decide_eq_true c1
     omega
    refine⟨_,rfl,zz2,fun t ht=>?_⟩;exact q t _ (zb ht _) (by rw[za];unfold uf;rw[if_pos ⟨eb,hlt⟩])
   ·have hlt:¬i<many:=fun h=>c1 (decide_eq_true (by show(i:Int)<(many:Int);omega))
    exact key _ _ ⟨rfl,rfl,fun z=>hlt z.2⟩
 rintro σ1 H1 ⟨rfl,rfl,nn⟩;have e1:uf r i many fk=(if zR r.k=true/\(zF fk (.inr r.z)).isSome=true then [.str "name",(zF fk (.inr r.z)).getD .non] else [.str "free"]):=by unfold uf;rw[if_neg nn]
 try dsimp only
 refine yv (fun σ' H'=>σ'=[some (.ref p),some (.int (i:Nat)),some (.int (many:Nat)),some (.ref d)]/\H'=H1/\¬(zR r.k=true/\(zF fk (.inr r.z)).isSome=true)) ?_ (fun key=>?_);rotate_left
 ·refine⟨_,rfl,p,dx,_,rfl,hp,nB,p,dx,_,_,_,_,rfl,C,hp,_,rfl,?_⟩
  rw[uK r.k rok.1];cases eb:zR r.k with
  | false=>
   refine zK ?_;refine zK ?_;exact key _ _ ⟨rfl,rfl,by rw[eb];exact fun z=>Bool.noConfusion z.1⟩
  | true=>
   refine yY ?_;refine⟨_,rfl,p,_,dx,_,_,rfl,hp,C.cl,C.nN,xR,_,rfl,d,_,rfl,.inl ⟨fk,.inr r.z,hd,rfl,rfl⟩,_,rfl,?_⟩;refine zaY (fun c1=>?_) (fun c1=>?_)
   ·obtain⟨v,hv⟩:=Option.isSome_iff_exists.mp c1
    refine⟨_,rfl,_,rfl,p,_,dx,_,_,rfl,hp,C.cl,C.nN,xR,d,v,rfl,.inl ⟨fk,.inr r.z,hd,rfl,hv.symm⟩,zz2,fun t ht=>?_⟩;exact q t _ (zb ht _) (by rw[za,e1,if_pos ⟨eb,c1⟩,hv];rfl)
   ·exact key _ _ ⟨rfl,rfl,fun z=>c1 z.2⟩
 rintro σ2 H2 ⟨rfl,rfl,nn2⟩;refine⟨zz1,fun t ht=>?_⟩;exact q t _ (zb ht _) (by rw[za,e1,if_neg nn2])
theorem jq:zr ["form","many","firsts","found","number","parameter"] ["form","many","firsts"] (zi zfv):=⟨rfl,rfl,rfl,by decide +kernel,rfl,by decide +kernel,by decide +kernel⟩
theorem zf7{g gP:Addr}{gd gf eP:FuncData}(F:Fun K "lackings" "lackings" zfv f fd) (hen:mg "enumerate"=none) (PP:Pcs K m c) (FK:FC K CF) (mP:yS K CF "parameters" gP) (GP:zD P w K mg base CX0 1 gP eP ["self"] (uc c CF)) (bP:zM K eP ["self"] [])
  (GF:zD P w K mg base CX0 1 m.fF gf ["self"] (zaA K m)) (bF:zM K gf ["self"] []) (cE1:zG P w K mg base 2 "one_entry" g gd ["parameter","number","many","firsts"] (zch c)):zD P w K mg base CX0 3 f fd ["form","many","firsts"] (zdu c CF):=by
 refine F.ok jq (fun vs H Q E h=>?_) (fun cdv A outer s H vs Q E hr h=>?_)
 ·obtain⟨f,d,many,rows,bars,fk,rfl,_⟩:=h
  rfl
 obtain⟨f,d,many,rows,bars,fk,rfl,l5,hok,hF,hd,hfl,q⟩:=h;have hr1:yo 1 _:=hr.mono (by decide)
 have hU:=hr.units;have hO:∀C,Cs5 c C->Cls K C/\yS K C "free" m.fF:=fun C ⟨k,hk,e⟩=>by rw[e];exact⟨(PP k hk).cl,(PP k hk).mF⟩
 refine⟨_,zf (zu (i:=3) jq.nd rfl (Or.inl rfl) (zO zc))
  (zf (xq PassesOwn.never rfl (yH rfl hen (ac (zU (pv 0) FK.cl mP GP hr1 bP .nil zW) zc)) (yi rfl (zp (zl (i:=4) jq.nd rfl (Or.inl rfl)) (zp (zl (i:=5) jq.nd rfl (Or.inl rfl)) zS)))
   (ze (zH (PW.pt (yw (xf (yk (xW (pv 5) hO GF hr1 bF zW))) (yd (zk (jZ hU) (cF cE1 hr (ac (pv 5) (ac (pv 4) (ac (pv 1) (ac (pv 2) zc))))) (zC (ac zj zc)) (zt _)))))
    (ze (zI (y3 PySem.F.plainAttrs_list PySem.F.slot_list_append PySem.F.type_list_append zQ (pv 3) (ac (zC (ac zj (ac (pv 4) zc))) zc)))) zv)))
  (ze (zq (pv 3)))),?_⟩
 refine⟨zz0,fun l hl=>?_⟩;have s1:=zb hl (.lst []);have e1:upd H l (.lst []) l=some (.lst []):=za;show wn _ _ _ _ (upd H l (.lst []));generalize upd H l (.lst [])=H1 at s1 e1 |-;obtain⟨dx,fs,lr,lb,ld,ps0,h1,h2,h3,h4,h5,h6⟩:=id hF;have nmP:fs.lookup ("parameters" : Str)=none:=h2.no _ (by decide +kernel)
 refine⟨_,rfl,f,dx,fs,rfl,s1 _ _ h1,nmP,f,rows,bars,rfl,hF.same s1,fun lp ps H2 s2 np ep hps=>?_⟩;have e2:=s2 _ _ e1;have nlp:lp≠l:=Ne.symm (zd e1 np);have nd:∀{b:Addr}{u:HO},H b=some u->b≠l:=fun e=>zd e hl;have s12:=s1.trans s2;have sHl:∀{H':Hp},(∀b u,H2 b=some u->b≠l->H' b=some u)->zo H H':=fun k b u e=>k b u (s12 _ _ e) (nd e);refine⟨lp,rfl,⟨_,SqL.of ep⟩,xY (K:=K) (a:=lp) (xs:=ps.map V.ref) (fun i σ H'=>∃(us:List Addr) (v4 v5:Option V),σ=[some (.ref f),some (.int (many:Nat)),some (.ref d),some (.ref l),v4,v5]/\(∀b u,H2 b=some u->b≠l->H' b=some u)/\H' l=some (.lst (us.map V.ref))/\wT H' us (wf many fk 0 (rows.take i)))
  ⟨[],_,_,rfl,fun _ _ e _=>e,e2,.nil⟩ (fun i σ H' _ ⟨_,_,_,_,sH,_⟩=>SqL.of (sH _ _ ep nlp)) ?_ ?_⟩
 ·rintro i x p σ H' hx ⟨us,v4,v5,rfl,sH,hl',hm⟩ hpn
  obtain⟨pa,hpa,rfl⟩:=xa hx;obtain⟨r,hr',dx',hdx⟩:=yg hps hpa;have rok:=hok r (mem_of_getElem? hr');have C:=PP r.k rok.1;have hi:i<rows.length:=(List.getElem?_eq_some_iff.mp hr').1;have npa:pa≠l:=xE hdx e2 (by intro z;cases z)
  have tk:=qb (many:=many) (fk:=fk) rows 0 i hr';rw[Nat.zero_add] at tk;have sp:=zb hpn (.tup [.int (i:Nat),.ref pa]);have lu:us.length<=i:=by
   rw[hm.length];refine le_trans (uZ _ _ _ _) ?_;rw[length_take];omega
  have sH1:∀b u,H2 b=some u->b≠l->upd H' p (.tup [.int (i:Nat),.ref pa]) b=some u:=fun b u e n=>sp _ _ (sH b u e n);have hl1:=sp _ _ hl';have hm1:=hm.same sp;refine⟨p,_,rfl,SqT.of za,rfl,_,_,rfl,_,_,rfl,rfl,?_⟩;generalize upd H' p (.tup [.int (i:Nat),.ref pa])=H3 at sH1 hl1 hm1 |-;have hd3:=sH1 _ _ hdx npa;refine⟨_,rfl,pa,_,dx',_,rfl,⟨r.k,rok.1,rfl⟩,hd3,vA (by decide +kernel) (by decide +kernel) (by decide +kernel),pa,dx',_,_,_,_,rfl,C,hd3,_,rfl,?_⟩
  cases ef:fr r.k r.b with
  | true=>
   have il:yc r i many fk=false:=by unfold yc;rw[ef];rfl
   rw[il,if_neg Bool.false_ne_true,append_nil] at tk;refine zK ?_;refine zK ?_;exact⟨us,_,_,rfl,sH1,hl1,by rw[tk];exact hm1⟩
  | false=>
   refine yY ?_;refine⟨_,rfl,_,rfl,_,rfl,_,rfl,pa,d,i,many,r,fk,rfl,⟨dx',hd3⟩,rok,zo.rd (sHl sH1) hd,fun u H4 s4 e4=>?_⟩;refine⟨zz1,fun t ht=>?_⟩;have s5:=zb ht (.tup [.str "free"]);refine⟨u,t,_,_,rfl,rfl,SqT.of (s5 _ _ e4),SqT.of za,zen hfl,rfl,_,rfl,?_⟩;have s45:=s4.trans s5;have il:yc r i many fk=L2.eqT (uf r i many fk) [.str "free"]:=by unfold yc;rw[ef];rfl
   rw[<- il];generalize upd H4 t (.tup [.str "free"])=H5 at s5 s45 |-;have hl5:=s45 _ _ hl1;have sH5:∀b u,H2 b=some u->b≠l->H5 b=some u:=fun b u e n=>s45 _ _ (sH1 b u e n);refine zaY (fun c1=>?_) (fun c1=>?_)
   ·rw[c1,if_pos rfl] at tk
    refine⟨_,rfl,.inl ⟨rfl,_,SqL.of hl5⟩,_,rfl,zz2,fun t2 ht2=>?_⟩;have s6:=zb ht2 (.tup [.str "lacking",.int (i:Nat)]);have hl6:=s6 _ _ hl5;have hu2:MA1 (upd H5 t2 (.tup [.str "lacking",.int (i:Nat)])) t2 ("lacking",i):=by
     show upd H5 t2 _ t2=_;rw[za]
    refine⟨l,_,.ref t2,rfl,rfl,hl6,zE (by rw[length_map];omega),?_⟩
    refine⟨us++[t2],_,_,rfl,fun b u e n=>?_,by rw[za,map_append];rfl,?_⟩
    ·rw[zh n]
     exact s6 _ _ (sH5 b u e n)
    ·rw[tk]
     exact(((hm1.same s45).same s6).snoc hu2).upd hl6
   ·have c2:yc r i many fk=false:=by
     cases e:yc r i many fk with
     | false=>rfl
     | true=>exact absurd e c1
    rw[c2,if_neg Bool.false_ne_true,append_nil] at tk;exact⟨us,_,_,rfl,sH5,hl5,by rw[tk];exact hm1.same s45⟩
 ·rintro σ H' ⟨us,v4,v5,rfl,sH,hl',hm⟩
  rw[length_map,hps.length,take_length] at hm;exact⟨_,rfl,q l H' (sHl sH) ⟨us,hl,hl',hm⟩⟩
end
def fpF:Nat->List (Str×Nat)->List Str->List (Str×Nat)
 | _,acc,[]=>acc
 | i,acc,z::zs=>fpF (i+1) (if (acc.any fun p=>decide (p.1=z))=true then acc else acc++[(z,i)]) zs
def kvP(fp:List (Str×Nat)):List (Key×V):=fp.map fun p=>(.inr p.1,.int (p.2:Nat))
theorem wB(fp:List (Str×Nat)) (z:Str):(zF (kvP fp) (.inr z)).isSome=fp.any fun p=>decide (p.1=z):=by
 rw[<- wm];unfold kvP;rw[List.any_map]
 congr 1
 funext p
 show decide ((Sum.inr p.1:Key)=Sum.inr z)=decide (p.1=z);exact zgr _ _
theorem zc7:∀(zs:List Str) (i:Nat) (acc:List (Str×Nat)),vX i (kvP acc) zs=kvP (fpF i acc zs)
 | [],_,_=>rfl
 | z::zs,i,acc=>by
  show vX (i+1) (if (zF (kvP acc) (.inr z)).isSome=true then kvP acc else zV (kvP acc) (.inr z) (.int i)) zs=kvP (fpF (i+1) (if (acc.any fun p=>decide (p.1=z))=true then acc else acc++[(z,i)]) zs)
  rw[wB];cases e:acc.any fun p=>decide (p.1=z) with
  | true=>exact zc7 zs (i+1) acc
  | false=>
   have e2:zV (kvP acc) (.inr z) (.int (i:Nat))=kvP (acc++[(z,i)]):=by
    unfold zV;rw[wm,wB,e,if_neg Bool.false_ne_true];unfold kvP;rw[map_append];rfl
   rw[if_neg Bool.false_ne_true,if_neg Bool.false_ne_true,e2];exact zc7 zs (i+1) _
theorem jv{fp:List (Str×Nat)}{k:Key}{v:V}(h:zF (kvP fp) k=some v):∃(z:Str) (j:Nat),k=.inr z/\v=.int (j:Nat)/\(z,j)∈fp:=by
 unfold zF at h;cases e:(kvP fp).find? fun kv=>decide (kv.1=k) with
 | none=>rw[e] at h;cases h
 | some kv=>
  rw[e] at h;have hm:=List.mem_of_find?_eq_some e;have hk:=List.find?_some e;unfold kvP at hm;obtain⟨p,hp,rfl⟩:=List.mem_map.mp hm;exact⟨p.1,p.2,(of_decide_eq_true hk).symm,(Option.some.inj h).symm,hp⟩
theorem zh5(fp:List (Str×Nat)):zdm (kvP fp):=fun k v h=>by
 obtain⟨z,j,_,rfl,_⟩:=jv h;rfl
theorem zdR{z:Str}:∀(zs:List Str) (i:Nat) (acc:List (Str×Nat)),(acc.any fun p=>decide (p.1=z))=true->((fpF i acc zs).any fun p=>decide (p.1=z))=true
 | [],_,_,h=>h
 | y::ys,i,acc,h=>by
  show((fpF (i+1) _ ys).any _)=true;refine zdR ys (i+1) _ ?_;split
  ·exact h
  ·rw[any_append,h];rfl
theorem zc8{z:Str}:∀(zs:List Str) (i:Nat) (acc:List (Str×Nat)),z∈zs->((fpF i acc zs).any fun p=>decide (p.1=z))=true
 | [],_,_,h=>by cases h
 | y::ys,i,acc,h=>by
  show((fpF (i+1) _ ys).any _)=true;rcases List.mem_cons.mp h with rfl|h
  ·refine zdR ys (i+1) _ ?_
   split
   next e=>exact e
   ·rw[any_append]
    simp
  ·exact zc8 ys (i+1) _ h
def fpZ(zs:List Str):List (Str×Nat):=fpF 0 [] zs
theorem ziI(zs:List Str):vX 0 [] zs=kvP (fpZ zs):=zc7 zs 0 []
def uP(fk:List (Key×V)):Nat->List Str->List (Str×Nat)
 | _,[]=>[]
 | i,z::zs=>(if zF fk (.inr z)=some (.int (i:Nat)) then [] else [(("doubled" : Str),i)])++uP fk (i+1) zs
theorem zaj{fk:List (Key×V)}{z:Str}:∀(zs:List Str) (j i:Nat),zs[i]?=some z->uP fk j (zs.take (i+1))=uP fk j (zs.take i)++(if zF fk (.inr z)=some (.int (j+i:Nat)) then [] else [(("doubled" : Str),j+i)])
 | [],_,_,h=>by simp at h
 | y::ys,j,0,h=>by
  have e:y=z:=by simpa using h
  subst e;show(_++[])=[]++_;rw[append_nil,nil_append];rfl
 | y::ys,j,i+1,h=>by
  have:=zaj (fk:=fk) ys (j+1) i (by simpa using h)
  show _++uP fk (j+1) (ys.take (i+1))=_;rw[this,show j+1+i=j+(i+1) by omega,<- append_assoc]
  rfl
theorem qk(fk:List (Key×V)):∀(zs:List Str) (i:Nat),(uP fk i zs).length<=zs.length
 | [],_=>le_refl _
 | r::rs,i=>by
  have:=qk fk rs (i+1)
  show(_++uP fk (i+1) rs).length<=rs.length+1;rw[length_append];split
  ·rw[length_nil];omega
  ·rw[length_singleton];omega
def yu(rows:List Rw) (bars:List Str) (many:Nat) (z:Str):Option Str:=
 if z∈bars then some "barred" else match lastD' z rows with
  | none=>if (zm 4 0 rows).isSome=true then none else some "strange"
  | some l=>if l<plN rows/\l<many then some "again" else none
where lastD' (z:Str) (rows:List Rw):Option Nat:=match zF (yM 0 [] rows) (.inr z) with
 | some (.int i)=>some i.toNat
 | _=>none
def ub(rows:List Rw) (bars:List Str) (many:Nat) (fp:List (Str×Nat)):List (Str×Nat):=fp.filterMap fun p=>(yu rows bars many p.1).map fun wd=>(wd,p.2)
def wQ(rows:List Rw) (bars:List Str) (many:Nat) (zs:List Str):List (Str×Nat):=uP (kvP (fpZ zs)) 0 zs++wA rows many++ub rows bars many (fpZ zs)++wf many (kvP (fpZ zs)) 0 rows
def ziq(c:C5) (CF:Addr):Sp:=fun vs H Q _=>∃(f d:Addr) (o:Obj) (many:Nat) (rows:List Rw) (bars:List Str) (fp:List (Str×Nat)),vs=[.ref f,.int (many:Nat),.ref d]/\rows.length<=500/\bars.length<=500/\fp.length<=900/\xr c CF H f rows bars/\H d=some (.frz o (.dK (kvP fp)))/\∀(l:Addr) (H':Hp),zo H H'->zb9 H H' l (ub rows bars many fp)->Q (.ref l) H'
def zfa(c:C5) (CF:Addr):Sp:=fun vs H Q _=>∃(f a:Addr) (many:Nat) (rows:List Rw) (bars zs:List Str),vs=[.ref f,.int (many:Nat),.ref a]/\rows.length<=500/\bars.length<=500/\many<=900/\zs.length<=900/\(∀r∈rows,r.ok)/\xr c CF H f rows bars/\H a=some (.lst (zs.map V.str))/\∀(l:Addr) (H':Hp),zo H H'->zb9 H H' l (wQ rows bars many zs)->Q (.ref l) H'
theorem za1:∀(zs:List Str) (i:Nat) (acc:List (Str×Nat)),(fpF i acc zs).length<=acc.length+zs.length
 | [],_,_=>le_refl _
 | z::zs,i,acc=>by
  have h:=za1 zs (i+1) (if (acc.any fun p=>decide (p.1=z))=true then acc else acc++[(z,i)])
  have h2:(if (acc.any fun p=>decide (p.1=z))=true then acc else acc++[(z,i)]).length<=acc.length+1:=by
   split
   ·omega
   ·rw[length_append];exact le_refl _
  show(fpF (i+1) _ zs).length<=acc.length+(zs.length+1);omega
theorem wT.app{H:Hp}{us vs:List Addr}{ms ns:List (Str×Nat)}(h:wT H us ms) (h':wT H vs ns):wT H (us++vs) (ms++ns):=xh h h'
section
variable {P:Program}{w:World}{K:Frag}{mg:Str->Option Value}{base:Heap}{f CF:Addr}{fd:FuncData}{c:C5}{m:MA}
theorem zkS:([Str.ofString "number",Str.ofString "name",Str.ofString "firsts"]:List Str).Nodup:=by decide +kernel
theorem zfk:zr ["form","many","names","firsts","doubled"] ["form","many","names"] (zi zjh):=⟨rfl,rfl,rfl,by decide +kernel,rfl,by decide +kernel,by decide +kernel⟩
theorem zjB{g1 g2 g3 g4:Addr}{d1 d2 d3 d4:FuncData}(F:Fun K "misfits_of" "misfits_of" zjh f fd) (hen:mg "enumerate"=none) (c1:zG P w K mg base 1 "first_numbers" g1 d1 ["names"] jF) (c2:zG P w K mg base 2 "overs" g2 d2 ["form","many"] (zds c CF)) (c3:zG P w K mg base 2 "unwelcomes" g3 d3 ["form","many","firsts"] (ziq c CF)) (c4:zG P w K mg base 3 "lackings" g4 d4 ["form","many","firsts"] (zdu c CF)) :
  zD P w K mg base CX0 4 f fd ["form","many","names"] (zfa c CF):=by
 refine F.ok zfk (fun vs H Q E h=>?_) (fun cdv A outer s H vs Q E hr h=>?_)
 ·obtain⟨f,a,many,rows,bars,zs,rfl,_⟩:=h
  rfl
 obtain⟨f,a,many,rows,bars,zs,rfl,l5,lb5,lm,lz,hok,hF,ha,q⟩:=h;have hr1:yo 1 _:=hr.mono (by decide)
 have hr2:yo 2 _:=hr.mono (by decide)
 have hu1:=jh hr;refine⟨_,zf (zu (i:=3) zfk.nd rfl (Or.inr rfl) (cF c1 hr1 (ac (pv 2) zc)))
  (zf (je (i:=4) ["firsts"] ["number","name","firsts"] [none,none,some 3] zfk.nd rfl (Or.inl rfl) rfl ⟨rfl,rfl,rfl,rfl⟩ (yH rfl hen (ac (pv 2) zc)) (yG (K:=K) (n:=2) 0 1) rfl rfl rfl
   (fun pins fp s H C=>⟨yi rfl (zp (zl (i:=0) zkS rfl (Or.inl rfl) (.inr rfl)) (zp (zl (i:=1) zkS rfl (Or.inl rfl) (.inr rfl)) zS)),yX (zk zbD (vR hu1 (pv 2) (pv 1) (fun _ _=>rfl)) (pv 0) (zt _)),zC (ac zj (ac (pv 0) zc))⟩))
  (ze (zq (zx xx (zx xx (zx xx (pv 4) (cF c2 hr2 (ac (pv 0) (ac (pv 1) zc)))) (cF c3 hr2 (ac (pv 0) (ac (pv 1) (ac (pv 3) zc))))) (cF c4 hr (ac (pv 0) (ac (pv 1) (ac (pv 3) zc)))))))),?_⟩
 refine⟨_,rfl,a,zs,rfl,ha,lz,fun d o H1 s1 hd0 hd1=>?_⟩;rw[ziI] at hd1;have lfp:(fpZ zs).length<=900:=by
  have:=za1 zs 0 []
  show(fpF 0 [] zs).length<=900;simp at this;omega
 generalize hfp:fpZ zs=fp at hd1 lfp;refine⟨_,rfl,a,rfl,⟨_,SqL.of (s1 _ _ ha)⟩,fun D hD=>?_⟩;refine ju (K:=K) (xs:=zs.map V.str) (fun i ys H'=>∃us,ys=us.map V.ref/\zo H1 H'/\H' D=some (.lst ys)/\wT H' us (uP (kvP fp) 0 (zs.take i))) ⟨[],rfl,zb hD _,za,.nil⟩ (fun i ys H' ⟨_,_,h,_⟩=>SqL.of (h _ _ (s1 _ _ ha))) ?_ ?_
 ·rintro i x p ys H' hlt hx ⟨us,rfl,sH,hDy,hm⟩ hpn
  obtain⟨z,hz,rfl⟩:=strs_at hx;have hi:i<zs.length:=(List.getElem?_eq_some_iff.mp hz).1;have tk:=zaj (fk:=kvP fp) zs 0 i hz;rw[Nat.zero_add] at tk;have sp:=zb hpn (.tup [.int (i:Nat),.str z]);have lu:us.length<=i:=by
   rw[hm.length];refine le_trans (qk _ _ _) ?_;rw[length_take];omega
  have hsome:(zF (kvP fp) (.inr z)).isSome=true:=by
   rw[wB,<- hfp];exact zc8 zs 0 [] (mem_of_getElem? hz)
  obtain⟨v,hv⟩:=Option.isSome_iff_exists.mp hsome;obtain⟨_,j,_,rfl,_⟩:=jv hv;have hd2:=sp _ _ (sH _ _ hd1);have hDy2:=sp _ _ hDy;have hm2:=hm.same sp;refine⟨p,_,rfl,SqT.of za,rfl,_,_,rfl,_,_,rfl,rfl,?_⟩;have sA:=sH.trans sp;generalize upd H' p (.tup [.int (i:Nat),.str z])=H3 at sp hd2 hDy2 hm2 sA |-;refine⟨_,rfl,_,rfl,d,_,rfl,.inl ⟨_,.inr z,.inr ⟨o,hd2⟩,rfl,hv.symm⟩,_,rfl,rfl,_,rfl,?_⟩;by_cases ej:j=i
  ·subst ej
   rw[if_pos hv,append_nil] at tk;have ed:(!decide (V.int (j:Nat)=V.int (j:Nat)))=false:=by rw[decide_eq_true rfl];rfl
   rw[ed];exact⟨fun e=>Bool.noConfusion e,fun _=>lcS.mk hlt ⟨us,rfl,sA,hDy2,by rw[tk];exact hm2⟩⟩
  ·have nv:¬zF (kvP fp) (.inr z)=some (.int (i:Nat)):=fun e=>by
    rw[hv] at e
    have:=V.int.inj (Option.some.inj e)
    omega
   rw[if_neg nv] at tk;have ed:(!decide (V.int (j:Nat)=V.int (i:Nat)))=true:=by
    rw[decide_eq_false (fun e=>by have:=V.int.inj e;omega)]
    rfl
   rw[ed];refine⟨fun _=>?_,fun e=>Bool.noConfusion e⟩;refine⟨_,rfl,zz2,fun t ht=>?_⟩;have s4:=zb ht (.tup [.str "doubled",.int (i:Nat)]);have hDy4:=s4 _ _ hDy2;have hu:MA1 (upd H3 t (.tup [.str "doubled",.int (i:Nat)])) t ("doubled",i):=by
    show upd H3 t _ t=_;rw[za]
   refine lcN.mk hlt (zZ (by rw[length_map];omega)) hDy4 (by rw[length_map];exact lu) ⟨us++[t],by rw[map_append];rfl,fun b' u' e'=>?_,za,?_⟩
   ·rw[zh (zd e' hD)]
    exact s4 _ _ (sA _ _ e')
   ·rw[tk]
    exact((hm2.same s4).snoc hu).upd hDy4
 rintro ys H2 ⟨us,rfl,s2,hDy,hm⟩;rw[length_map,take_length] at hm;have s12:=s1.trans s2;have lov:(wA rows many).length<=900:=by
  unfold wA;split
  ·exact zero_le _
  ·rw[length_map,length_range];omega
 have lun:(ub rows bars many fp).length<=900:=by
  unfold ub;exact le_trans (List.length_filterMap_le _ _) lfp
 have lla:=uZ many (kvP fp) rows 0;have ldb:=qk (kvP fp) zs 0;have big : 4000<=sizeLine:=by decide
 refine⟨_,rfl,_,rfl,_,rfl,f,many,rows,bars,rfl,lm,l5,hF.same s12,fun l3 H3 s3 ⟨us3,n3,e3,m3⟩=>?_⟩;have lu0:=hm.length;have lu3:=m3.length;refine⟨D,l3,_,_,rfl,rfl,s3 _ _ hDy,e3,(by simp only[length_map];omega),fun p4 hp4=>?_⟩
 rw[<- map_append];have u4:=zb hp4 (.lst ((us++us3).map V.ref));have e4:upd H3 p4 (.lst ((us++us3).map V.ref)) p4=some (.lst ((us++us3).map V.ref)):=za;have m4:wT (upd H3 p4 (.lst ((us++us3).map V.ref))) (us++us3) _:=((hm.same s3).app m3).same u4;generalize upd H3 p4 (.lst ((us++us3).map V.ref))=H4 at u4 e4 m4 |-;have s24:=s2.trans (s3.trans u4);have s14:=s1.trans s24;refine⟨_,rfl,_,rfl,_,rfl,f,d,o,many,rows,bars,fp,rfl,l5,lb5,lfp,hF.same s14,s24 _ _ hd1,fun l5' H5 s5 ⟨us5,n5,e5,m5⟩=>?_⟩;have lu5:=m5.length;refine⟨p4,l5',_,_,rfl,rfl,s5 _ _ e4,e5,(by simp only[length_map,length_append];omega),fun p6 hp6=>?_⟩
 rw[<- map_append];have u6:=zb hp6 (.lst ((us++us3++us5).map V.ref));have e6:upd H5 p6 (.lst ((us++us3++us5).map V.ref)) p6=some (.lst ((us++us3++us5).map V.ref)):=za;have m6:wT (upd H5 p6 (.lst ((us++us3++us5).map V.ref))) (us++us3++us5) _:=((m4.same s5).app m5).same u6;generalize upd H5 p6 (.lst ((us++us3++us5).map V.ref))=H6 at u6 e6 m6 |-;have s26:=s24.trans (s5.trans u6);have s16:=s1.trans s26;refine⟨_,rfl,_,rfl,_,rfl,f,d,many,rows,bars,kvP fp,rfl,l5,hok,hF.same s16,.inr ⟨o,s26 _ _ hd1⟩,zh5 fp,fun l7 H7 s7 ⟨us7,n7,e7,m7⟩=>?_⟩;have lu7:=m7.length;refine⟨p6,l7,_,_,rfl,rfl,s7 _ _ e6,e7,(by simp only[length_map,length_append];omega),fun p8 hp8=>?_⟩
 rw[<- map_append];have u8:=zb hp8 (.lst ((us++us3++us5++us7).map V.ref));refine q p8 _ (s16.trans (s7.trans u8)) ⟨us++us3++us5++us7,(s16.trans s7).free hp8,za,?_⟩;unfold wQ;rw[hfp];exact((m6.same s7).app m7).same u8
end
end K51
namespace L2
open PySem PySem.Spec PyProof.Rows
def seen(val:Nat->Str) (T:Str->Bool):Nat->Nat->Str->Bool
 | _,0,z=>T z
 | i,k+1,z=>seen val (fun y=>T y||decide (y=val i)) (i+1) k z
section
variable {P:Program}{w:World}{A:Around}{R:Result->Shared->Prop}{I:Addr}{fp wr:List Addr}{G:Array GenState->Array GenState->Prop}{n:Nat}{Pr:Nat->Value->Prop}{Sg:Nat->Shared->Prop}
theorem jB(W:WalksS P w A.in1 I fp wr G n Pr Sg) (a:Addr) (ha:a∉fp) (val:Nat->Str) (hv:∀i v,Pr i v->∃t,v=.str (val i) t) (hb:n+1<scanBound) :
  ∀(k i:Nat) (s:Shared) (T:Str->Bool) (c:Nat),n - i=k->i<=n->Sg i s->c<=i->s.heap.SetOf (strKind P w) a T c->
   (∀s' c',Moved (a::wr) G s s'->c'<=n->s'.heap.SetOf (strKind P w) a (seen val T i k) c'->R (.ok (.ret .none)) s')->
   codeAny (model P w) A (.builtin "set.update.loop" ⟨[.ref a,.ref I],[]⟩) R s
 | 0,i,s,T,c,hk,hi,hg,hc,hT,hR=>by
  have hw:a∉wr:=fun z=>ha (W.sub _ z);have ei:i=n:=by omega
  subst ei;refine codeAny_builtin PyProof.Rows.F.entry_set_update_loop ?_;rw[Around.under_plainId PyProof.Rows.F.plain_set_update_loop _];show wpAny _ A.in1 (pyNext (.ref I) >>= _) _ _ _;refine wpAny_bind (W.done s _ _ hg fun s' hm=>?_);show wpAny _ A.in1 (ret Value.none) _ _ _;refine wpAny_pure (hR s' c (hm.mono fun b z=>mem_cons_of_mem _ z) hc ?_);obtain⟨ob,es,ep,t,h1,h2⟩:=hT;exact⟨ob,es,ep,t,hm.heap a _ hw h1,h2⟩
 | k+1,i,s,T,c,hk,hi,hg,hc,hT,hR=>by
  have hw:a∉wr:=fun z=>ha (W.sub _ z);have hlt:i<n:=by omega
  refine codeAny_builtin PyProof.Rows.F.entry_set_update_loop ?_;rw[Around.under_plainId PyProof.Rows.F.plain_set_update_loop _];show wpAny _ A.in1 (pyNext (.ref I) >>= _) _ _ _;refine wpAny_bind (W.item i s _ _ hlt hg fun v s' hP hg' hm=>?_);obtain⟨t,rfl⟩:=hv i v hP;have hT':s'.heap.SetOf (strKind P w) a T c:=by
   obtain⟨ob,es,ep,tb,h1,h2⟩:=hT;exact⟨ob,es,ep,tb,hm.heap a _ hw h1,h2⟩
  show wpAny _ A.in1 (holding [Value.str (val i) t] (setAdd a (.str (val i) t)) >>= _) _ _ s';refine wpAny_bind (wpAny_holding ?_);unfold setAdd;refine wpAny_holding ?_;refine wpAny_bind ((strKind P w).pyHash (k:=val i) (strKind_is _ _ _ _) ?_);refine wpAny_setAddHashed_of (knd:=strKind P w) (s:={ s' with toks:=s'.toks+1 }) (strKind_is _ _ _ _) rfl hT' (by omega) fun h' hsb h3=>?_
  refine wpAny_pure ⟨plainId_quiet PyProof.Rows.F.plain_set_update_loop _,jB W a ha val hv hb k (i+1) _ _ _ (by omega) hlt (W.frame _ s' _ _ hg' (le_succ _) fun b hb' o e=>?_) (by split <;> omega) h3 fun s2 c2 hm2 hc2 h4=>?_⟩
  ·have:b≠a:=fun z=>ha (z ▸ hb')
   rw[hsb.2 b this];exact e
  ·refine hR s2 c2 (Moved.trans W.gtrans ((hm.mono fun b z=>mem_cons_of_mem _ z).then_heap (le_succ _) fun b o hb' e=>?_) hm2) hc2 h4
   have:b≠a:=fun z=>hb' (z ▸ mem_cons_self)
   rw[hsb.2 b this];exact e
end
abbrev jG(led:Bool):Obj:={ cls:=.type "set",dict:=none,data:=.set #[] 0 (.fresh 0 0 led) }
set_option maxHeartbeats 8000000 in
theorem zdf{P:Program}{w:World}{A:Around}{E:Value->Shared->Prop}{s:Shared}{l:Addr}{items:Array Value}{zs:List Str}{Q:Value->Shared->Prop}
  (hh:A.handled=none) (hl:s.heap.IsList l items) (hv:∀(i:Nat) (v:Value),items[i]?=some v->∃t,v=.str (zs.getD i "") t) (hb:items.size+1<scanBound)
  (h:∀(h':Heap) (tk c:Nat),h'.SetOf (strKind P w) s.heap.objs.size (seen (fun i=>zs.getD i "") (fun _=>false) 0 items.size) c->(∀b o,b<s.heap.objs.size->s.heap.get? b=some o->h'.get? b=some o)->Q (.ref s.heap.objs.size) { s with heap:=h',toks:=tk }) :
  wpAny (model P w) A (call (.type "set") [.ref l]) Q E s:=by
 obtain⟨mc,mt,mro⟩:=PySem.F.called_set.mro;have q1:=PySem.F.called_set.made;have q2:=PySem.F.called_set.sub;have q3:=PySem.F.called_set.notType;have q4:=PySem.F.called_set.canCreate;have q5:=PySem.F.typeCall_set_1 (.ref l);refine wpAny_call (codeAny_of_tree ?_);show wpAny _ _ (callAny (.type "set") _) _ _ _;refine wpAny_pure ⟨Code.quiet_builtin _ (by decide +kernel),codeAny_builtin PySem.F.entry_type_call ?_⟩;rw[Around.under_plain (weight_type_call_type "set" [.ref l] []) rfl]
 repeat (any_goals first|assumption|wp_step)
 refine codeAny_mono (code_set_new_1 (.ref l) (E:=E) (Q₁:=fun obj s₁=>∃led:Bool,obj=.ref s.heap.objs.size/\s₁={ s with heap:=s.heap.push (jG led) }) fun led=>⟨led,rfl,rfl⟩) fun r s₁ hr=>?_
 rcases r with e|(_|_|_|obj)
 ·exact hr
 ·exact hr.elim
 ·exact hr.elim
 ·exact hr.elim
 ·obtain⟨led,rfl,rfl⟩:=hr
  have hS:(s.heap.push (jG led)).get? s.heap.objs.size=some (jG led):=Heap.get?_push_size _ rfl;have hT:Shared.TypeIs { s with heap:=s.heap.push (jG led) } (.ref s.heap.objs.size) "set":=⟨_,hS,rfl⟩
  have q6:=PySem.F.called_set.init.lookup;have q7:=PySem.F.called_set.init.bind (.ref s.heap.objs.size)
  repeat (any_goals first|assumption|wp_step)
  refine codeAny_mono (codeAny_call_builtin (R:=wants (fun r s₂=>r=.none/\∃h' tk c,s₂={ s with heap:=h',toks:=tk }/\h'.SetOf (strKind P w) s.heap.objs.size (seen (fun i=>zs.getD i "") (fun _=>false) 0 items.size) c/\∀b o,b<s.heap.objs.size->s.heap.get? b=some o->h'.get? b=some o) E) PySem.F.called_set.init.plain PySem.F.entry_set_init (check_set_init_1 hT ?_)) fun r₂ s₂ hr₂=>?_
  ·obtain⟨ol,hol,hcl,nl,hdl⟩:=id hl
   obtain⟨ocls,odict,odata,oslots⟩:=ol;simp only at hcl hdl;subst hcl hdl;have hol':(s.heap.push (jG led)).get? l=_:=Heap.get?_push_of_some (jG led) hol;have t1:=PySem.F.sub_list_set;have t2:=PySem.F.sub_list_frozenset;have t3:(Value.type "list"==Value.type "dict")=false:=by decide
   have hl1:(s.heap.push (jG led)).IsList l items:=⟨_,hol',rfl,nl,rfl⟩;have hlS:l<s.heap.objs.size:=Heap.lt_size hol;unfold Builtin.«set.__init__» noKeywords Builtin.Frozenset.updateFrom;generalize hq:pyIter=pit
   wp_walk
   subst hq;refine wpAny_pyIter_list hl1 (wpAny_bind (wpAny_runValue ?_));have hz:(s.heap.push (jG led)).objs.size=s.heap.objs.size+1:=Heap.size_push ..;have n1:l≠(s.heap.push (jG led)).objs.size:=by rw[hz];exact ne_of_lt (Nat.lt_succ_of_lt hlS)
   have n2:∀b:Addr,b<s.heap.objs.size->b∉[s.heap.objs.size,(s.heap.push (jG led)).objs.size]:=fun b hb' z=>by
    rw[hz] at z;rcases List.mem_cons.mp z with e|e
    ·exact ne_of_lt hb' e
    ·exact ne_of_lt (Nat.lt_succ_of_lt hb') (List.mem_singleton.mp e)
   have n3:s.heap.objs.size∉[(s.heap.push (jG led)).objs.size,l]:=fun z=>by
    rw[hz] at z;rcases List.mem_cons.mp z with e|e
    ·exact ne_of_lt (lt_succ_self _) e
    ·exact ne_of_gt hlS (List.mem_singleton.mp e)
   refine jB ((Walks.list (by simp [hh]) _ l n1 items).toS) s.heap.objs.size n3 (fun i=>zs.getD i "") hv hb items.size 0 _ (fun _=>false) 0 (by omega) (zero_le _) ⟨⟨_,Heap.get?_push_size _ rfl,rfl,rfl⟩,hl1.push _⟩ (le_refl _) ?_ ?_
   ·exact(PyProof.Rows.setObjOf_fresh (knd:=strKind P w) led).setOf (Heap.get?_push_of_some _ hS) (by unfold scanBound;omega)
   ·rintro⟨h',g',d',tk',os'⟩ c' hm hc' hS'
    have e1:g'=s.gens:=hm.gens;have e2:d'=s.drawn:=hm.drawn;have e3:os'=s.os:=hm.os;subst e1 e2 e3;show wpAny _ _ _ _ _ _;refine wpAny_pure ?_;show wpAny _ _ (ret Value.none) _ _ _;refine wpAny_pure ⟨rfl,h',tk',c',rfl,hS',fun b o hb' e=>hm.heap b o (n2 b hb') (Heap.get?_push_of_some _ (Heap.get?_push_of_some _ e))⟩
  ·rcases r₂ with e|(_|_|_|ob2)
   ·exact hr₂
   ·exact hr₂.elim
   ·exact hr₂.elim
   ·exact hr₂.elim
   ·obtain⟨rfl,h',tk,c',rfl,hS',hk'⟩:=hr₂
    repeat (any_goals first|assumption|wp_step)
    exact h _ _ _ hS' hk'
theorem zbk(val:Nat->Str) (z:Str):∀(k i:Nat) (T:Str->Bool),seen val T i k z=true ↔ (T z=true\/∃j,j<k/\z=val (i+j))
 | 0,i,T=>⟨fun h=>.inl h,fun h=>h.elim id fun⟨j,hj,_⟩=>absurd hj (Nat.not_lt_zero _)⟩
 | k+1,i,T=>by
  show seen val (fun y=>T y||decide (y=val i)) (i+1) k z=true ↔ _
  rw[zbk val z k (i+1)];simp only[Bool.or_eq_true,decide_eq_true_eq];constructor
  ·rintro ((h|h)|⟨j,hj,e⟩)
   ·exact .inl h
   ·exact .inr ⟨0,by omega,h⟩
   ·exact .inr ⟨j+1,by omega,by rw[show i+(j+1)=i+1+j by omega];exact e⟩
  ·rintro (h|⟨j,hj,e⟩)
   ·exact .inl (.inl h)
   ·cases j with
    | zero=>exact .inl (.inr e)
    | succ j=>exact .inr ⟨j,by omega,by rw[show i+1+j=i+(j+1) by omega];exact e⟩
theorem zfg(zs:List Str) (z:Str):seen (fun i=>zs.getD i "") (fun _=>false) 0 zs.length z=decide (z∈zs):=by
 rw[Bool.eq_iff_iff,zbk,decide_eq_true_eq];constructor
 ·rintro (h|⟨j,hj,e⟩)
  ·cases h
  ·rw[e,Nat.zero_add]
   show zs.getD j ""∈zs;rw[getD_eq_getElem?_getD,getElem?_eq_getElem hj];exact getElem_mem hj
 ·intro h
  obtain⟨j,hj,e⟩:=List.mem_iff_getElem.mp h;refine .inr ⟨j,hj,?_⟩;rw[Nat.zero_add];show z=zs.getD j "";rw[getD_eq_getElem?_getD,getElem?_eq_getElem hj];exact e.symm
theorem zJ.strs_at:∀{zs:List Str}{us:List Value},zJ (zs.map V.str) us->∀(i:Nat) (v:Value),us[i]?=some v->∃t,v=.str (zs.getD i "") t
 | [],_,.nil,i,v,h=>by simp at h
 | z::zs,_,.cons r t,0,v,h=>by
  obtain⟨tk,e⟩:=r
  have:v=.str z tk:=by rw[<- e];simpa using h.symm
  exact⟨tk,this⟩
 | z::zs,_,.cons r t,i+1,v,h=>zJ.strs_at t i v (by simpa using h)
theorem zeO{X:Cx}(hc:X.calm=true):xv X (.type "set") (fun xs H Q=>∃(p:Addr) (zs:List Str),xs=[.ref p]/\SqL X.K H p (zs.map V.str)/\zs.length<=900/\∀(l:Addr) (n:Nat),H l=none->Q (.ref l) (upd H l (vq X.prog X.w l (fun z=>decide (z∈zs)) n))):=by
 intro pins s σ H xs us Q I r h;obtain⟨p,zs,rfl,hS,lz,q⟩:=h;obtain⟨u,rfl,ru⟩:=vt r;cases ru;obtain⟨its,rv,hp,hz⟩:=I.list hS;have hl:its.length=zs.length:=by rw[<- rv.length,length_map]
 have hb:its.toArray.size+1<scanBound:=by
  rw[size_toArray,hl];have : 1000<scanBound:=by unfold scanBound;decide
  omega
 refine zdf (I.ok.hd hc) hp.isList (fun i v e=>rv.strs_at i v (by simpa using e)) hb fun h' tk c hS' hk=>?_
 have hsz:its.toArray.size=zs.length:=by rw[size_toArray,hl]
 rw[hsz] at hS';have eS:seen (fun i=>zs.getD i "") (fun _=>false) 0 zs.length=fun z=>decide (z∈zs):=funext (zfg zs);rw[eS] at hS';refine⟨.ref s.heap.objs.size,_,I.laid (t':=tk) (fun b ob e=>hk b ob (Heap.lt_size e) e) (le_refl _) (zaE hS'),rfl,q _ c (I.hok.fresh (le_refl _))⟩
end L2
namespace K51
open PySem L2 PyProof.Rows
theorem zdb:∀(rows:List Rw) (i:Nat) (acc:List (Key×V)) (k:Key) (v:V),(∀k v,zF acc k=some v->∃j:Nat,v=.int (j:Nat))->zF (yM i acc rows) k=some v->∃j:Nat,v=.int (j:Nat)
 | [],_,acc,k,v,h,e=>h k v e
 | r::rs,i,acc,k,v,h,e=>by
  refine zdb rs (i+1) _ k v (fun k v e=>?_) e;split at e
  ·rw[xt] at e
   split at e
   ·exact⟨i,(Option.some.inj e).symm⟩
   ·exact h k v e
  ·exact h k v e
theorem zd3{rows:List Rw}{bars:List Str}{many:Nat}{fp:List (Str×Nat)}{i:Nat}{p:Str×Nat}(h:fp[i]?=some p):ub rows bars many (fp.take (i+1))=ub rows bars many (fp.take i)++(match yu rows bars many p.1 with|some wd=>[(wd,p.2)]|none=>[]):=by
 unfold ub;rw[take_add_one,h,List.filterMap_append]
 congr 1
 show List.filterMap _ [p]=_;rw[filterMap_cons,List.filterMap_nil];cases yu rows bars many p.1 <;> rfl
theorem ze0(rows:List Rw) (bars:List Str) (many:Nat) (fp:List (Str×Nat)):(ub rows bars many fp).length<=fp.length:=List.length_filterMap_le _ _
section
variable {P:Program}{w:World}{K:Frag}{mg:Str->Option Value}{base:Heap}{f CF:Addr}{fd:FuncData}{c:C5}{m:MA}
theorem qJ:zr ["form","many","firsts","barred","found","name","number","leads_to"] ["form","many","firsts"] (zi zjc):=⟨rfl,rfl,rfl,by decide +kernel,rfl,by decide +kernel,by decide +kernel⟩
theorem zjx{gB gN gG gP:Addr}{eB eN eG eP:FuncData}(F:Fun K "unwelcomes" "unwelcomes" zjc f fd) (hset:mg "set"=none) (FK:FC K CF) (mB:yS K CF "bars" gB) (GB:zD P w K mg base CX0 1 gB eB ["self"] (zaC c CF)) (bB:zM K eB ["self"] []) (mN:yS K CF "number_of" gN) (GN:zD P w K mg base CX0 1 gN eN ["self","name"] (zdt c CF)) (bN:zM K eN ["self","name"] [])
  (mG:yS K CF "bag" gG) (GG:zD P w K mg base CX0 1 gG eG ["self"] (wE c CF 4)) (bG:zM K eG ["self"] []) (mP:yS K CF "places" gP) (GP:zD P w K mg base CX0 1 gP eP ["self"] (wH c CF)) (bP:zM K eP ["self"] []) :
  zD P w K mg base CX0 2 f fd ["form","many","firsts"] (ziq c CF):=by
 refine F.ok qJ (fun vs H Q E h=>?_) (fun cdv A outer s H vs Q E hr h=>?_)
 ·obtain⟨f,d,o,many,rows,bars,fp,rfl,_⟩:=h
  rfl
 obtain⟨f,d,o,many,rows,bars,fp,rfl,l5,lb5,lfp,hF,hd,q⟩:=h;refine⟨_,zf (zu (i:=3) qJ.nd rfl (Or.inl rfl) (cTy (zeO rfl) hset PyProof.Rows.boot_set (ac (zU (pv 0) FK.cl mB GB hr bB .nil zW) zc)))
  (zf (zu (i:=4) qJ.nd rfl (Or.inl rfl) (zO zc))
  (zf (xq PassesOwn.never rfl (zbv (pv 2)) (yi rfl (zp (zl (i:=5) qJ.nd rfl (Or.inl rfl)) (zp (zl (i:=6) qJ.nd rfl (Or.inl rfl)) zS)))
   (zf (zu (i:=7) qJ.nd rfl (Or.inl rfl) (zaQ (pv 0) FK.cl mN GN hr bN .nil zW (ac (pv 5) zc)))
   (ze (zH (zk jY (pv 5) (pv 3) (by with_unfolding_all rfl)) (ze (zI (y3 PySem.F.plainAttrs_list PySem.F.slot_list_append PySem.F.type_list_append zQ (pv 4) (ac (zC (ac zj (ac (pv 6) zc))) zc))))
    (ze (zH (yL (wb (pv 7))) (ze (zH (yL (wb (zU (pv 0) FK.cl mG GG hr bG .nil zW))) (ze (zI (y3 PySem.F.plainAttrs_list PySem.F.slot_list_append PySem.F.type_list_append zQ (pv 4) (ac (zC (ac zj (ac (pv 6) zc))) zc)))) zv))
     (ze (zH (PW.pt (yw (zk jX (pv 7) (zU (pv 0) FK.cl mP GP hr bP .nil zW) (zt _)) (yd (zk jX (pv 7) (pv 1) (zt _))))) (ze (zI (y3 PySem.F.plainAttrs_list PySem.F.slot_list_append PySem.F.type_list_append zQ (pv 4) (ac (zC (ac zj (ac (pv 6) zc))) zc)))) zv))))))))
  (ze (zq (pv 4))))),?_⟩
 obtain⟨dx,fs,lr,lb,ld,ps0,h1,h2,h3,h4,h5,h6⟩:=id hF;have nmB:fs.lookup ("bars" : Str)=none:=h2.no _ (by decide +kernel)
 have nmN:fs.lookup ("number_of" : Str)=none:=h2.no _ (by decide +kernel)
 have nmG:fs.lookup ("bag" : Str)=none:=h2.no _ (by decide +kernel)
 have nmP:fs.lookup ("places" : Str)=none:=h2.no _ (by decide +kernel)
 refine⟨_,rfl,f,dx,fs,rfl,h1,nmB,f,rows,bars,rfl,hF,fun lb1 H1 s1 nb eb=>?_⟩;refine⟨lb1,bars,rfl,SqL.of eb,by omega,fun sS nS hS=>?_⟩
 have u2:=zb hS (vq P w sS (fun z=>decide (z∈bars)) nS);have e2:upd H1 sS (vq P w sS (fun z=>decide (z∈bars)) nS) sS=some (vq P w sS (fun z=>decide (z∈bars)) nS):=za;show wn _ _ _ _ (upd H1 sS (vq P w sS (fun z=>decide (z∈bars)) nS));generalize upd H1 sS (vq P w sS (fun z=>decide (z∈bars)) nS)=H2 at u2 e2 |-;refine⟨zz0,fun l hl=>?_⟩;have u3:=zb hl (.lst []);have e3:upd H2 l (.lst []) l=some (.lst []):=za;show wn _ _ _ _ (upd H2 l (.lst []));generalize upd H2 l (.lst [])=H3 at u3 e3 |-;have s2:=s1.trans u2;have s3:=s2.trans u3;have hlH:H l=none:=s2.free hl;have nl:∀{b:Addr}{u:HO},H2 b=some u->b≠l:=fun e=>zd e hl;have sHl:∀{H':Hp},(∀b u,H2 b=some u->H' b=some u)->zo H H':=fun k b u e=>k b u (s2 _ _ e);refine⟨_,rfl,d,o,kvP fp,rfl,s3 _ _ hd,zeH (d:=d) (o:=o) (kvs:=kvP fp) (fun i σ H'=>∃(us:List Addr) (v5 v6 v7:Option V),σ=[some (.ref f),some (.int (many:Nat)),some (.ref d),some (.ref sS),some (.ref l),v5,v6,v7]/\(∀b u,H2 b=some u->H' b=some u)/\H' l=some (.lst (us.map V.ref))/\wT H' us (ub rows bars many (fp.take i)))
  ⟨[],_,_,_,rfl,fun _ _ e=>u3 _ _ e,e3,.nil⟩ (fun i σ H' _ ⟨_,_,_,_,_,sH,_⟩=>sH _ _ (s2 _ _ hd)) ?_ ?_⟩
 ·rintro i k v p σ H' hk ⟨us,v5,v6,v7,rfl,sH,hl',hm⟩ hpn
  obtain⟨z,n,hz,rfl,rfl⟩:∃(z:Str) (n:Nat),fp[i]?=some (z,n)/\k=.inr z/\v=.int (n:Nat):=by
   unfold kvP at hk;rw[getElem?_map] at hk;cases e:fp[i]? with
   | none=>rw[e] at hk;cases hk
   | some q=>rw[e] at hk;cases hk;exact⟨q.1,q.2,rfl,rfl,rfl⟩
  have tk:=zd3 (rows:=rows) (bars:=bars) (many:=many) hz;dsimp only at tk;have sp:=zb hpn (.tup [kV (.inr z),.int (n:Nat)]);have lu:us.length<=i:=by
   rw[hm.length];refine le_trans (ze0 _ _ _ _) ?_;rw[length_take];omega
  have hi:i<fp.length:=(List.getElem?_eq_some_iff.mp hz).1;have sH1:∀b u,H2 b=some u->upd H' p (.tup [kV (.inr z),.int (n:Nat)]) b=some u:=fun b u e=>sp _ _ (sH b u e);have hl1:=sp _ _ hl';have hm1:=hm.same sp;refine⟨p,_,rfl,SqT.of za,rfl,_,_,rfl,_,_,rfl,rfl,?_⟩;generalize upd H' p (.tup [kV (.inr z),.int (n:Nat)])=H4 at sH1 hl1 hm1 |-;have s4:=sHl sH1;refine⟨_,rfl,f,dx,fs,rfl,s4 _ _ h1,nmN,_,rfl,f,z,rows,bars,rfl,hF.same s4,?_⟩;refine⟨_,rfl,_,rfl,sS,_,_,z,rfl,rfl,sH1 _ _ e2,_,rfl,?_⟩;by_cases hz1:z∈bars
  ·refine dT hz1 ?_
   rw[show yu rows bars many z=some "barred" from if_pos hz1] at tk;refine⟨_,rfl,.inl ⟨rfl,_,SqL.of hl1⟩,_,rfl,zz2,fun t ht=>?_⟩;have s6:=zb ht (.tup [.str "barred",.int (n:Nat)]);have hl6:=s6 _ _ hl1;have hu2:MA1 (upd H4 t (.tup [.str "barred",.int (n:Nat)])) t ("barred",n):=by
    show upd H4 t _ t=_;rw[za]
   refine⟨l,_,.ref t,rfl,rfl,hl6,zE (by rw[length_map];omega),?_⟩
   refine⟨us++[t],_,_,_,rfl,fun b u e=>?_,by rw[za,map_append];rfl,?_⟩
   ·rw[zh (nl e)]
    exact s6 _ _ (sH1 b u e)
   ·rw[tk]
    exact((hm1.same s6).snoc hu2).upd hl6
  ·refine dF hz1 ?_
   have e0:yu rows bars many z=(match yu.lastD' z rows with|none=>if (zm 4 0 rows).isSome=true then none else some "strange"|some l=>if l<plN rows/\l<many then some "again" else none):=if_neg hz1
   cases ev:zF (yM 0 [] rows) (.inr z) with
   | none=>
    have e1:yu.lastD' z rows=none:=by unfold yu.lastD';rw[ev]
    rw[e1] at e0;refine⟨_,rfl,_,rfl,?_⟩;refine dT rfl ?_;refine⟨_,rfl,f,dx,fs,rfl,s4 _ _ h1,nmG,f,rows,bars,rfl,hF.same s4,_,rfl,?_⟩;cases eg:zm 4 0 rows with
    | none=>
     have e2':yu rows bars many z=some "strange":=by rw[e0,eg];rfl
     refine dT rfl ?_;rw[show yu rows bars many z=some "strange" from e2'] at tk;refine⟨_,rfl,.inl ⟨rfl,_,SqL.of hl1⟩,_,rfl,zz2,fun t ht=>?_⟩;have s6:=zb ht (.tup [.str "strange",.int (n:Nat)]);have hl6:=s6 _ _ hl1;have hu2:MA1 (upd H4 t (.tup [.str "strange",.int (n:Nat)])) t ("strange",n):=by
      show upd H4 t _ t=_;rw[za]
     refine⟨l,_,.ref t,rfl,rfl,hl6,zE (by rw[length_map];omega),?_⟩
     refine⟨us++[t],_,_,_,rfl,fun b u e=>?_,by rw[za,map_append];rfl,?_⟩
     ·rw[zh (nl e)]
      exact s6 _ _ (sH1 b u e)
     ·rw[tk]
      exact((hm1.same s6).snoc hu2).upd hl6
    | some j=>
     have e2':yu rows bars many z=none:=by rw[e0,eg];rfl
     refine dF (by intro z;cases z) ?_
     rw[show yu rows bars many z=none from e2',append_nil] at tk;exact⟨us,_,_,_,rfl,sH1,hl1,by rw[tk];exact hm1⟩
   | some v=>
    obtain⟨j,rfl⟩:=zdb rows 0 [] (.inr z) v (fun k v e=>by cases e) ev
    have e1:yu.lastD' z rows=some j:=by unfold yu.lastD';rw[ev];rfl
    rw[e1] at e0;refine⟨_,rfl,_,rfl,?_⟩;refine dF (by intro z;cases z) ?_
    refine⟨_,rfl,_,rfl,f,dx,fs,rfl,s4 _ _ h1,nmP,f,rows,bars,rfl,hF.same s4,_,_,rfl,rfl,_,rfl,?_⟩;by_cases hj1:j<plN rows
    ·refine vg (decide_eq_true (by show(j:Int)<(plN rows:Int);omega)) ?_
     refine⟨_,rfl,_,rfl,_,_,rfl,rfl,_,rfl,?_⟩;by_cases hj2:j<many
     ·have e2':yu rows bars many z=some "again":=by rw[e0];exact if_pos ⟨hj1,hj2⟩
      refine vg (decide_eq_true (by show(j:Int)<(many:Int);omega)) ?_
      rw[show yu rows bars many z=some "again" from e2'] at tk;refine⟨_,rfl,.inl ⟨rfl,_,SqL.of hl1⟩,_,rfl,zz2,fun t ht=>?_⟩;have s6:=zb ht (.tup [.str "again",.int (n:Nat)]);have hl6:=s6 _ _ hl1;have hu2:MA1 (upd H4 t (.tup [.str "again",.int (n:Nat)])) t ("again",n):=by
       show upd H4 t _ t=_;rw[za]
      refine⟨l,_,.ref t,rfl,rfl,hl6,zE (by rw[length_map];omega),?_⟩
      refine⟨us++[t],_,_,_,rfl,fun b u e=>?_,by rw[za,map_append];rfl,?_⟩
      ·rw[zh (nl e)]
       exact s6 _ _ (sH1 b u e)
      ·rw[tk]
       exact((hm1.same s6).snoc hu2).upd hl6
     ·have e2':yu rows bars many z=none:=by rw[e0];exact if_neg fun h=>hj2 h.2
      refine vf (decide_eq_false (by show ¬(j:Int)<(many:Int);omega)) ?_
      rw[show yu rows bars many z=none from e2',append_nil] at tk;exact⟨us,_,_,_,rfl,sH1,hl1,by rw[tk];exact hm1⟩
    ·have e2':yu rows bars many z=none:=by rw[e0];exact if_neg fun h=>hj1 h.1
     refine vf (decide_eq_false (by show ¬(j:Int)<(plN rows:Int);omega)) ?_
     refine zK ?_;rw[show yu rows bars many z=none from e2',append_nil] at tk;exact⟨us,_,_,_,rfl,sH1,hl1,by rw[tk];exact hm1⟩
 ·rintro σ H' ⟨us,v5,v6,v7,rfl,sH,hl',hm⟩
  have lk:(kvP fp).length=fp.length:=by unfold kvP;rw[length_map]
  rw[lk,take_length] at hm;exact⟨_,rfl,q l H' (sHl sH) ⟨us,hlH,hl',hm⟩⟩
end
def zdL(rows:List Rw) (bars:List Str) (c:List yZ):List (Str×Nat):=wQ rows bars (yA c).length (z5 c)
structure jd(K:Frag) (H:Hp) (a:Addr) (ct:List yZ):Prop where
 at_:∃xs,SqL K H a xs/\Paired (zA K T' H 3) xs (ct.map wg)
 lt:(yA ct).length<=900
 lp:(y4 ct).length<=900
structure vk(c:C5) (CF:Addr) (H:Hp) (f:Addr) (rows:List Rw) (bars:List Str):Prop where
 at_:xr c CF H f rows bars
 lr:rows.length<=500
 lb:bars.length<=500
 ok:∀r∈rows,r.ok
theorem vk.same{c:C5}{CF:Addr}{H H':Hp}{f:Addr}{rows:List Rw}{bars:List Str}(h:vk c CF H f rows bars) (s:zo H H'):vk c CF H' f rows bars:=⟨h.at_.same s,h.lr,h.lb,h.ok⟩
theorem jd.same{K:Frag}{H H':Hp}{a:Addr}{ct:List yZ}(h:jd K H a ct) (s:zo H H'):jd K H' a ct:=by
 obtain⟨⟨xs,h1,h2⟩,l1,l2⟩:=h;exact⟨⟨xs,s.seq h1,Paired.imp' (fun _ _ z=>z.same s) h2⟩,l1,l2⟩
def ziu(K:Frag) (c:C5) (CF:Addr):Sp:=fun vs H Q _=>∃(f a:Addr) (rows:List Rw) (bars:List Str) (ct:List yZ),vs=[.ref f,.ref a]/\vk c CF H f rows bars/\jd K H a ct/\∀(l:Addr) (H':Hp),zo H H'->zb9 H H' l (zdL rows bars ct)->Q (.ref l) H'
section
variable {P:Program}{w:World}{K:Frag}{mg:Str->Option Value}{base:Heap}{f CF:Addr}{fd:FuncData}{c:C5}{m:MA}
theorem zfj:zr ["form","call","many","names"] ["form","call"] (zi jL):=⟨rfl,rfl,rfl,by decide +kernel,rfl,by decide +kernel,by decide +kernel⟩
theorem zjD{g1 g2:Addr}{d1 d2:FuncData}(F:Fun K "misfits" "misfits" jL f fd) (c1:zG P w K mg base 2 "shape" g1 d1 ["call"] (zay K)) (c2:zG P w K mg base 4 "misfits_of" g2 d2 ["form","many","names"] (zfa c CF)):zD P w K mg base CX0 5 f fd ["form","call"] (ziu K c CF):=by
 refine F.ok zfj (fun vs H Q E h=>?_) (fun cdv A outer s H vs Q E hr h=>?_)
 ·obtain⟨f,a,rows,bars,ct,rfl,_⟩:=h
  rfl
 obtain⟨f,a,rows,bars,ct,rfl,hF,⟨⟨xs,hx,hc⟩,lt,lp⟩,q⟩:=h;have hr2:yo 2 _:=hr.mono (by decide)
 refine⟨_,zf (xN (cF c1 hr2 (ac (pv 1) zc)) (yi rfl (zp (zl (i:=2) zfj.nd rfl (Or.inl rfl)) (zp (zl (i:=3) zfj.nd rfl (Or.inl rfl)) zS))))
  (ze (zq (cF c2 hr (ac (pv 0) (ac (pv 2) (ac (pv 3) zc)))))),?_⟩
 refine⟨_,rfl,a,ct,xs,rfl,hx,hc,lt,lp,fun p l H1 s1 nl ep el=>?_⟩;refine⟨p,_,rfl,SqT.of ep,rfl,_,_,rfl,_,_,rfl,rfl,?_⟩;have hF1:=hF.same s1;have ln:(z5 ct).length<=900:=by unfold z5;rw[length_map];exact lp
 exact⟨_,rfl,_,rfl,_,rfl,f,l,(yA ct).length,rows,bars,z5 ct,rfl,hF.lr,hF.lb,lt,ln,hF.ok,hF1.at_,el,fun l2 H2 s2 ⟨us,n2,e2,m2⟩=>q l2 H2 (s1.trans s2) ⟨us,s1.free n2,e2,m2⟩⟩
end
end K51
namespace L2
open PySem PySem.Spec PyProof.Rows
section
variable {X:Cx}
end
def vh(n:Nat):List Int:=(List.range n).map fun (i:Nat)=>(i:Int)
theorem zJ.of_at{ts:List Int}:∀{us:List Value},us.length=ts.length->(∀(i:Nat) (v:Value),us[i]?=some v->∃t,v=Value.int (ts.getD i 0) t)->zJ (ts.map V.int) us:=by
 induction ts with
 | nil=>
  intro us hl _
  have:us=[]:=List.length_eq_zero_iff.mp hl
  subst this;exact .nil
 | cons t ts ih=>
  intro us hl h;cases us with
  | nil=>cases hl
  | cons u us=>
   obtain⟨k,e⟩:=h 0 u rfl;exact .cons ⟨k,e⟩ (ih (by simpa using hl) fun i v e=>h (i+1) v e)
section
variable {X:Cx}
theorem zgR:xv X (.type "range") (fun xs H Q=>∃n:Nat,xs=[.int (n:Nat)]/\∀p,H p=none->Q (.ref p) (upd H p (.rng 0 (n:Nat)))):=by
 intro pins s σ H xs us Q I r h;obtain⟨n,rfl,q⟩:=h;obtain⟨u,rfl,ru⟩:=vt r;obtain⟨t,rfl⟩:=ru;refine call_range_1 ?_;refine⟨.ref s.heap.objs.size,_,I.laid (o:=.rng 0 (n:Nat)) (fun b u e=>Heap.get?_push_of_some _ e) (le_refl _) ?_,rfl,q _ (I.hok.fresh (le_refl _))⟩;exact⟨_,_,_,Heap.get?_push_size _ rfl⟩
theorem zdg(hc:X.calm=true):xv X (.type "list") (fun xs H Q=>∃(p:Addr) (n:Nat),xs=[.ref p]/\H p=some (.rng 0 (n:Nat))/\n<=900/\∀l,H l=none->Q (.ref l) (upd H l (.lst ((vh n).map V.int)))):=by
 intro pins s σ H xs us Q I r h;obtain⟨p,n,rfl,hp,hn,q⟩:=h;obtain⟨u,rfl,ru⟩:=vt r;cases ru;obtain⟨t,u',v',e⟩:=I.hok p _ hp;refine call_list_range (n:=n) (I.ok.hd hc) e ?_ ?_ (by omega) fun h' tk acc c' hk he hacc=>?_
 ·exact small_one (by omega) (by omega) (by omega) (by omega)
 ·unfold Builtin.Range.rangeSize
  rw[if_pos (by decide)]
  split <;> omega
 ·have hl:acc.toList.length=(vh n).length:=by
   unfold vh;rw[length_map,length_range];simpa using hacc.1
  have hv:zJ ((vh n).map V.int) acc.toList:=zJ.of_at hl fun i v e=>by
   obtain⟨t,rfl⟩:=hacc.2 i v (by simpa using e)
   refine⟨t,?_⟩;have hi:i<n:=by
    have:=(List.getElem?_eq_some_iff.mp e).1
    rw[hl] at this;unfold vh at this;simpa using this
   have eg:(vh n).getD i 0=(i:Int):=by
    unfold vh;rw[getD_eq_getElem?_getD,getElem?_map,getElem?_range hi];rfl
   rw[eg];simp
  refine⟨.ref s.heap.objs.size,_,I.laid (t':=tk) (o:=.lst ((vh n).map V.int)) hk (le_refl _) ⟨?_,acc.toList,c',hv,by simpa using he⟩,rfl,q _ (I.hok.fresh (le_refl _))⟩
  unfold vh;rw[length_map,length_map,length_range];have : 1000<=sizeLine:=by decide
  omega
end
end L2
namespace L2
open PySem PySem.W PySem.Builtin PySem.Builtin.ObjectAttr PySem.Spec PyProof.Rows
section
variable {prog:Program}{w:World}{A:Around}{E:Value->Shared->Prop}{s:Shared}{K:Frag}{C f:Addr}{us:List Value}
end
section
variable {prog:Program}{w:World}{A:Around}{E:Value->Shared->Prop}{s:Shared}{K:Frag}{C x:Addr}{us:List Value}
end
end L2
namespace L2
open PySem PySem.W PySem.Builtin PySem.Builtin.ObjectAttr PySem.Builtin.Getset_descriptor PySem.Spec PyProof.Rows
section
variable {prog:Program}{w:World}{A:Around}{E:Value->Shared->Prop}{s:Shared}{K:Frag}{C D x dx:Addr}{us:List Value}
end
end L2
namespace L2
open PySem PySem.Spec PyProof.Rows
section
variable {X:Cx}{pins:List (Addr×Obj)}{σ : St}{H:Hp}{s:Shared}{x C t:Addr}{f:Str}{y:V}{u:Value}{A:Around}{E:Value->Shared->Prop}
end
section
variable {X:Cx}{o e value:Expr}{f:Str}{pos pos' tpos:Pos}{ta tv:TE}
end
section
variable {X:Cx}{CX:CXT}{k:Nat}{f C:Addr}{fd:FuncData}{ps:List Str}{sp:Sp}{E:XK}{x:Str}{p pos:Pos}{e:Expr}{es:List Expr}{t:TA}
end
def drop(H:Hp) (a:Addr):Hp:=fun b=>if b=a then none else H b
section
variable {X:Cx}{pins:List (Addr×Obj)}{σ : St}{H:Hp}{s:Shared}{ea C t:Addr}{od:Option Addr}{M:Model}{E:Value->Shared->Prop}
end
section
variable {X:Cx}{E:XK}{pos:Pos}{e:Expr}{te:TE}
end
section
variable {P:Program}{w:World}{K:Frag}{mg:Str->Option Value}{base:Heap}{N:List Str}{qual:Str}{scope:Scope}{f:Addr}{cd:Value}{A:Around}{outer:List Env}{s:Shared}{H:Hp}{E E':XK}
end
section
variable {X:Cx}{x:Str}{C:Addr}{B Bn newId nid initId inN:String}{bm bmN:List Value}{np pos:Pos}{e:Expr}{es:List Expr}{t:TA}
end
section
variable {X:Cx}{pins:List (Addr×Obj)}{σ : St}{H:Hp}{s:Shared}{M:Model}{A:Around}{E:Value->Shared->Prop}{i:Nat}{n:Str}{pos:Pos}
end
section
variable {X:Cx}{pins:List (Addr×Obj)}{σ : St}{H:Hp}{s:Shared}{ea:Addr}
variable {st b₀:Stmt}{suite:List Stmt}{c n:Str}{np hpos pos:Pos}{C:Addr}{i:Nat}{tb:XK->TS}{ts:TS}{ok:Value->Prop}
end
section
variable {X:Cx}{pins:List (Addr×Obj)}{σ : St}{e:Expr}{es:List Expr}{t:TA}{E:XK}{x:Str}{p pos:Pos}{k:Nat}{f C:Addr}{fd:FuncData}{ps:List Str}{sp:Sp}{dvs:List V}{ds:List Value}
end
section
variable {M:Model}{A:Around}{E:Value->Shared->Prop}{s:Shared}{base:Heap}{env:Env}{outer:List Env}{L e C t:Addr}{od:Option Addr}{tb0 head:Value}{hn:Bool}{Q:Unit->Shared->Prop}
end
section
variable {X:Cx}{pins:List (Addr×Obj)}{σ : St}{H H':Hp}{s s':Shared}{ea C t:Addr}{od:Option Addr}{M:Model}{E:Value->Shared->Prop}
end
section
variable {X:Cx}{pins:List (Addr×Obj)}{σ : St}{H H':Hp}{s s':Shared}{ea C t:Addr}{od:Option Addr}{M:Model}{A:Around}{E:Value->Shared->Prop}{h5:Heap}
end
section
variable {X:Cx}{E:XK}{pos:Pos}{e:Expr}{te:TE}
end
section
variable {P:Program}{w:World}{K:Frag}{mg:Str->Option Value}{base:Heap}{N:List Str}{qual:Str}{scope:Scope}{f:Addr}{cd:Value}{A:Around}{outer:List Env}{s:Shared}{H:Hp}{E E':XK}
end
section
variable {X:Cx}{k:Nat}{f:Addr}{fd:FuncData}{ps:List Str}{sp:Sp}{E:XK}{x:Str}{p pos:Pos}{e:Expr}{es:List Expr}{t:TA}
end
section
variable {X:Cx}{hs:List ExceptHandler}{th:HK}{c n:Str}{C':Addr}{i:Nat}{ts:TS}{b₀:Stmt}{suite:List Stmt}{np hpos:Pos}
end
section
variable {X:Cx}{st:Stmt}{h₀:ExceptHandler}{hs:List ExceptHandler}{pos:Pos}{tb:XK->TS}{th:HK}
end
section
variable {X:Cx}{pins:List (Addr×Obj)}{σ : St}{e:Expr}{es:List Expr}{te:TE}{t:TA}{E:XK}{x m:Str}{p pos apos:Pos}{k:Nat}{f C:Addr}{fd:FuncData}{ps:List Str}{sp:Sp}{dvs:List V}{ds:List Value}
end
section
variable {X:Cx}{pins:List (Addr×Obj)}{σ : St}{H:Hp}{s:Shared}{x C t:Addr}{f:Str}{A:Around}{E:Value->Shared->Prop}
end
section
variable {X:Cx}{e:Expr}{f:Str}{pos:Pos}{ta:TE}
end
end L2
namespace L2
open PySem PySem.Spec PyProof.Rows PySem.Builtin
section
variable {prog:Program}{w:World}{A:Around}{E:Value->Shared->Prop}{s:Shared}{it ea C t:Addr}{od:Option Addr}{tb:Value}{x left step:Int}{Q:Option Value->Shared->Prop}
end
end L2
namespace L2
open PySem PySem.Spec PyProof.Rows
structure zlc(ea:Addr) (P:Program) (w:World) (K:Frag) (tg:Expr) (J:It) (fp:List Addr) (it:Addr) (tn:Nat->Heap->Prop):Prop where
 mem:it∈fp
 obj:∀i h,tn i h->∀b∈fp,∃o,h.get? b=some o/\∀v,o.data≠.cell v
 keep:∀i h h',tn i h->(∀b∈fp,∀o,h.get? b=some o->h'.get? b=some o)->tn i h'
 item:∀(X:Cx),X.prog=P->X.w=w->X.K=K->X.A.handled=some (.ref ea)->∀(i:Nat) (pins:List (Addr×Obj)) (s:Shared) (σ : St) (H:Hp) (E:Value->Shared->Prop),Inv X pins σ H s->(∀b∈fp,vK X pins H b)->tn i s.heap->J.go i H->
  wpAny (model P w) X.A (pyNext (.ref it)) (fun r s1=>∃u,r=some u/\
   wpAny (model P w) X.A (letOwnedTupleGo tg (.ref it) u) (fun _ s2=>∃x H',Inv X pins σ H' s2/\zL x u/\J.yld i H x H'/\tn (i+1) s2.heap/\∀b∈fp,H' b=none) E s1) E s
 done:∀(X:Cx),X.prog=P->X.w=w->X.K=K->X.A.handled=some (.ref ea)->∀(i:Nat) (pins:List (Addr×Obj)) (s:Shared) (σ : St) (H:Hp) (E:Value->Shared->Prop),Inv X pins σ H s->(∀b∈fp,vK X pins H b)->tn i s.heap->J.stop i H->
  wpAny (model P w) X.A (pyNext (.ref it)) (fun r s1=>r=none/\Inv X pins σ H s1) E s
 self:∀(A:Around) (i:Nat) (s:Shared) (Q:Value->Shared->Prop) (E:Value->Shared->Prop),tn i s.heap->Q (.ref it) s->wpAny (model P w) A (pyIter (.ref it)) Q E s
def zmc(X:Cx) (ea:Addr) (pins:List (Addr×Obj)) (σ : St) (tg:Expr) (R:It->Hp->Prop) (itv:Value) (s2:Shared):Prop:=
 ∃(it:Addr) (fp:List Addr) (tn:Nat->Heap->Prop) (J:It) (H':Hp),itv=.ref it/\Inv X pins σ H' s2/\zlc ea X.prog X.w X.K tg J fp it tn/\tn 0 s2.heap/\(∀b∈fp,vK X pins H' b)/\R J H'
section
variable {X:Cx}{tg:Expr}
end
section
variable {X:Cx}{pins:List (Addr×Obj)}{σ : St}{s:Shared}{sc:Scope}{fr Nc:List Str}{caps:List (Option Nat)}{elt tg iter:Expr}{ifs:List Expr}{g:TG}{tt:TT}{te:TE}{ow:List Nat}{pos pos2:Pos}{E:Value->Shared->Prop}
end
section
variable {X:Cx}{hs:List ExceptHandler}{th:HK}{c n:Str}{C':Addr}{i:Nat}{ts:TS}{b₀:Stmt}{suite:List Stmt}{np hpos:Pos}
end
section
variable {X:Cx}
end
end L2
namespace L2
open PySem PySem.Spec PyProof.Rows PySem.Builtin
section
variable {prog:Program}{w:World}{A:Around}{E:Value->Shared->Prop}{s:Shared}{it l ea C t:Addr}{od:Option Addr}{tb:Value}{i:Nat}{items:Array Value}{Q:Option Value->Shared->Prop}
end
section
variable {X:Cx}{tg:Expr}
end
section
variable {X:Cx}{sc:Scope}{elt tg iter:Expr}{ifs:List Expr}{g:TG}{tt:TT}{te:TE}{ow:List Nat}{pos:Pos}
end
theorem zgp{d:Addr}{o:Obj}{kvs:List (Key×V)}{caps:List (Option Nat)}{g:TG}{tt:TT}{te:TE}{σ : St}{H1:Hp}{Q:VK}{D:Addr}(Pv:Nat->List V->Hp->Prop) (h0:Pv 0 [] (upd H1 D (.lst [])))
  (hl:∀i ys H,Pv i ys H->H d=some (.frz o (.dK kvs)))
  (hs:∀i k v p ys H,i<kvs.length->kvs[i]?=some (k,v)->Pv i ys H->H p=none->g (.ref p) (xk caps σ) (upd H p (.tup [kV k,v])) fun σ2 H2=>tt σ2 H2 fun ok H3=>(ok=true->te σ2 H3 (lcN kvs.length i D Pv ys))/\(ok=false->lcS kvs.length i Pv ys H3))
  (hd:∀ys H,Pv kvs.length ys H->Q (.ref D) H):LCr (Itd d o kvs) caps g tt te σ H1 Q D:=by
 refine⟨fun i m ys H=>m=kvs.length - i/\i<=kvs.length/\Pv i ys H,⟨kvs.length,by simp,zero_le _,h0⟩,?_⟩
 rintro i m ys H ⟨rfl,hi,p⟩;have q:=hl i ys H p;by_cases hlt:i<kvs.length
 ·refine .inr ⟨⟨q,hlt⟩,fun x H' y=>?_⟩
  obtain⟨pp,k,v,rfl,hp,y2,rfl⟩:=y;exact hs i k v pp ys H hlt y2 p hp
 ·have e:i=kvs.length:=by omega
  subst e;exact .inl ⟨⟨q,le_refl _⟩,hd ys H p⟩
def xi(a n:Nat):List Int:=(List.range n).map fun (i:Nat)=>((a+i:Nat):Int)
section
variable {X:Cx}
theorem zeQ:xv X (.type "range") (fun xs H Q=>∃a b:Nat,xs=[.int (a:Nat),.int (b:Nat)]/\∀p,H p=none->Q (.ref p) (upd H p (.rng (a:Nat) (b:Nat)))):=by
 intro pins s σ H xs us Q I r h;obtain⟨a,b,rfl,q⟩:=h;obtain⟨u,v,rfl,ru,rv⟩:=qC r;obtain⟨t,rfl⟩:=ru;obtain⟨t',rfl⟩:=rv;refine call_range_2 ?_;refine⟨.ref s.heap.objs.size,_,I.laid (o:=.rng (a:Nat) (b:Nat)) (fun b u e=>Heap.get?_push_of_some _ e) (le_refl _) ?_,rfl,q _ (I.hok.fresh (le_refl _))⟩;exact⟨_,_,_,Heap.get?_push_size _ rfl⟩
theorem zb8(hc:X.calm=true):xv X (.type "list") (fun xs H Q=>∃(p:Addr) (a b:Nat),xs=[.ref p]/\H p=some (.rng (a:Nat) (b:Nat))/\a<=900/\b<=900/\∀l,H l=none->Q (.ref l) (upd H l (.lst ((xi a (b - a)).map V.int)))):=by
 intro pins s σ H xs us Q I r h;obtain⟨p,a,b,rfl,hp,ha,hb,q⟩:=h;obtain⟨u,rfl,ru⟩:=vt r;cases ru;obtain⟨t,u',v',e⟩:=I.hok p _ hp;refine call_list_range (n:=b - a) (I.ok.hd hc) e ?_ ?_ (by omega) fun h' tk acc c' hk he hacc=>?_
 ·exact small_one (by omega) (by omega) (by omega) (by omega)
 ·rw[rangeSize_one]
  split <;> omega
 ·have hl:acc.toList.length=(xi a (b - a)).length:=by
   unfold xi;rw[length_map,length_range];simpa using hacc.1
  have hv:zJ ((xi a (b - a)).map V.int) acc.toList:=zJ.of_at hl fun i v e=>by
   obtain⟨t,rfl⟩:=hacc.2 i v (by simpa using e)
   refine⟨t,?_⟩;have hi:i<b - a:=by
    have:=(List.getElem?_eq_some_iff.mp e).1
    rw[hl] at this;unfold xi at this;simpa using this
   have eg:(xi a (b - a)).getD i 0=((a+i:Nat):Int):=by
    unfold xi;rw[getD_eq_getElem?_getD,getElem?_map,getElem?_range hi];rfl
   rw[eg]
   congr 1
   omega
  refine⟨.ref s.heap.objs.size,_,I.laid (t':=tk) (o:=.lst ((xi a (b - a)).map V.int)) hk (le_refl _) ⟨?_,acc.toList,c',hv,by simpa using he⟩,rfl,q _ (I.hok.fresh (le_refl _))⟩
  unfold xi;rw[length_map,length_map,length_range];have : 1000<=sizeLine:=by decide
  omega
end
end L2
namespace L2
open PySem PySem.Spec PyProof.Rows
section
variable {X:Cx}
end
section
variable {X:Cx}{hs:List ExceptHandler}{th:HK}{c n:Str}{C':Addr}{i:Nat}{ts:TS}{b₀:Stmt}{suite:List Stmt}{np hpos:Pos}
end
section
variable {P:Program}{w:World}{K:Frag}{mg:Str->Option Value}{base:Heap}
end
section
variable {X:Cx}{k:Nat}{f ea:Addr}{fd:FuncData}{ps:List Str}{sp:Addr->Sp}{x:Str}{p pos:Pos}{e:Expr}{es:List Expr}{t:TA}
end
theorem zea{K:Frag}{H3:Hp}{o:HO}{l b:Addr}{zs:List V}(hl:∃zs,H3 l=some (.lst zs)) (hz:SqT K H3 b zs):SqT K (upd H3 l o) b zs:=by
 obtain⟨ws,hl⟩:=hl;rcases hz with (z|⟨u,z⟩)|z
 ·refine .inl (.inl ?_)
  rw[zh (fun e=>by subst e;rw[hl] at z;cases z)]
  exact z
 ·refine .inl (.inr ⟨u,?_⟩)
  rw[zh (fun e=>by subst e;rw[hl] at z;cases z)]
  exact z
 ·exact .inr z
theorem xL{K:Frag}{ok ok':Addr->Prop}{H:Hp}{o:HO}{l:Addr}{zs:List V}(hl:H l=some (.lst zs)) (hk:∀b,ok b->ok' b/\b≠l) {n:Nat}{x:V}{d:Dt}(h:zA K ok H n x d):zA K ok' (upd H l o) n x d:=
 h.frame (fun a xs z=>zea ⟨_,hl⟩ z) fun a xs oa z=>⟨(hk a oa).1,by rw[zh (hk a oa).2];exact z⟩
theorem zgo{K:Frag}{lo:Int}{n m:Nat}{caps:List (Option Nat)}{g:TG}{tt:TT}{te:TE}{σ : St}{H1:Hp}{Q:VK}{D:Addr}(dt:Nat->Dt) (hD:H1 D=none) (hn:n<=1000)
  (hs:∀(i:Nat) (H:Hp) (Qf:VK) (Qs:Hp->Prop),i<n->zo H1 H->(∀v H',zo H H'->zA K (fun a=>H a=none) H' m v (dt i)->Qf v H')->
   g (.int (lo+i)) (xk caps σ) H fun σ2 H2=>tt σ2 H2 fun ok H3=>(ok=true->te σ2 H3 Qf)/\(ok=false->Qs H3))
  (hd:∀vs H,zo H1 H->H D=some (.lst vs)->Paired (zA K (fun a=>a≠D/\H1 a=none) H m) vs ((List.range n).map dt)->Q (.ref D) H):LCr (Itr lo n) caps g tt te σ H1 Q D:=by
 have sz : 1000<=sizeLine:=by decide
 refine wR (fun i ys H'=>zo H1 H'/\H' D=some (.lst ys)/\Paired (zA K (fun a=>a≠D/\H1 a=none) H' m) ys ((List.range i).map dt)) ⟨fun b u e=>by rw[zh (zd e hD)];exact e,za,.nil⟩ ?_ ?_
 ·rintro i ys H hi ⟨sH,hDy,hp⟩
  refine hs i H _ _ hi sH fun v H' s' hv=>?_;have ly:ys.length=i:=by rw[hp.length,length_map,length_range]
  refine lcN.mk hi (by omega) (s' _ _ hDy) (by omega) ⟨fun b u e=>?_,za,?_⟩
  ·rw[zh (zd e hD)]
   exact s' _ _ (sH _ _ e)
  ·rw[range_succ,map_append]
   refine Paired.snoc (Paired.imp' (fun _ _ z=>xL (s' _ _ hDy) (fun b o=>⟨o,o.1⟩) (z.same s')) hp) (xL (s' _ _ hDy) (fun b o=>?_) hv);have nb:b≠D:=fun e=>by subst e;rw[o] at hDy;cases hDy
   exact⟨⟨nb,sH.free o⟩,nb⟩
 ·rintro ys H ⟨sH,hDy,hp⟩
  exact hd ys H sH hDy hp
theorem zbN{K:Frag}{a:Addr}{xs:List V}{m:Nat}{caps:List (Option Nat)}{g:TG}{tt:TT}{te:TE}{σ : St}{H1:Hp}{Q:VK}{D:Addr}(dt:Nat->Dt) (hD:H1 D=none) (ha:SqL K H1 a xs) (hn:xs.length<=1000)
  (hs:∀(i:Nat) (x:V) (p:Addr) (H:Hp) (Qf:VK) (Qs:Hp->Prop),xs[i]?=some x->H p=none->zo H1 H->(∀v H',zo H H'->zA K (fun a=>H a=none) H' m v (dt i)->Qf v H')->
   g (.ref p) (xk caps σ) (upd H p (.tup [.int i,x])) fun σ2 H2=>tt σ2 H2 fun ok H3=>(ok=true->te σ2 H3 Qf)/\(ok=false->Qs H3))
  (hd:∀vs H,zo H1 H->H D=some (.lst vs)->Paired (zA K (fun a=>a≠D/\H1 a=none) H m) vs ((List.range xs.length).map dt)->Q (.ref D) H):LCr (Ite K a) caps g tt te σ H1 Q D:=by
 have sz : 1000<=sizeLine:=by decide
 refine ju (K:=K) (xs:=xs) (fun i ys H'=>zo H1 H'/\H' D=some (.lst ys)/\Paired (zA K (fun a=>a≠D/\H1 a=none) H' m) ys ((List.range i).map dt)) ⟨fun b u e=>by rw[zh (zd e hD)];exact e,za,.nil⟩ (fun i ys H h=>h.1.seq ha) ?_ ?_
 ·rintro i x p ys H hi hx ⟨sH,hDy,hp⟩ hpn
  refine hs i x p H _ _ hx hpn sH fun v H' s' hv=>?_;have ly:ys.length=i:=by rw[hp.length,length_map,length_range]
  refine lcN.mk hi (by omega) (s' _ _ hDy) (by omega) ⟨fun b u e=>?_,za,?_⟩
  ·rw[zh (zd e hD)]
   exact s' _ _ (sH _ _ e)
  ·rw[range_succ,map_append]
   refine Paired.snoc (Paired.imp' (fun _ _ z=>xL (s' _ _ hDy) (fun b o=>⟨o,o.1⟩) (z.same s')) hp) (xL (s' _ _ hDy) (fun b o=>?_) hv);have nb:b≠D:=fun e=>by subst e;rw[o] at hDy;cases hDy
   exact⟨⟨nb,sH.free o⟩,nb⟩
 ·rintro ys H ⟨sH,hDy,hp⟩
  exact hd ys H sH hDy hp
end L2
namespace K51
open PySem L2 PyProof.Rows
def vd(rows:List Rw) (p:Str×Nat):Bool:=(zF (yM 0 [] rows) (.inr p.1)).isNone
def vC(rows:List Rw) (fp:List (Str×Nat)):List Nat:=(fp.filter (vd rows)).map (·.2)
theorem zcS{rows:List Rw}{fp:List (Str×Nat)}{i:Nat}{p:Str×Nat}(h:fp[i]?=some p):vC rows (fp.take (i+1))=vC rows (fp.take i)++(if vd rows p=true then [p.2] else []):=by
 unfold vC;rw[take_add_one,h,filter_append,map_append]
 congr 1
 show List.map _ (List.filter _ [p])=_;rw[filter_cons,filter_nil];split <;> rfl
theorem zeu(rows:List Rw) (fp:List (Str×Nat)):(vC rows fp).length<=fp.length:=by
 unfold vC;rw[length_map];exact length_filter_le _ _
def vD:V->Dt
 | .int n=>.int n
 | .str z=>.str z
 | .bl b=>.bl b
 | _=>.non
def zbZ(rows:List Rw) (many:Nat) (fp:List (Str×Nat)) (i:Nat):Dt:=
 if zm 2 0 rows=some i then .tup [.str "places",.lst ((xi (plN rows) (many - plN rows)).map Dt.int)]
 else if zm 4 0 rows=some i then .tup [.str "names",.lst (((vC rows fp).map fun (j:Nat)=>(j:Int)).map Dt.int)]
 else match rows[i]? with
  | some r=>.tup ((uf r i many (kvP fp)).map vD)
  | none=>.non
theorem zfW{K:Frag}{ok:Addr->Prop}{H:Hp}{r:Rw}{i many:Nat}{fp:List (Str×Nat)}{n:Nat}:Paired (zA K ok H n) (uf r i many (kvP fp)) ((uf r i many (kvP fp)).map vD):=by
 unfold uf;split
 ·exact .cons .str (.cons .int .nil)
 ·split
  next h=>
   obtain⟨v,hv⟩:=Option.isSome_iff_exists.mp h.2;obtain⟨_,j,_,rfl,_⟩:=jv hv;rw[hv];exact .cons .str (.cons .int .nil)
  ·exact .cons .str .nil
def zdx(K:Frag) (c:C5) (CF:Addr):Sp:=fun vs H Q _=>∃(f d:Addr) (o:Obj) (i many:Nat) (rows:List Rw) (bars:List Str) (fp:List (Str×Nat)) (r:Rw),vs=[.ref f,.int (i:Nat),.int (many:Nat),.ref d]/\many<=900/\fp.length<=900/\rows.length<=500/\rows[i]?=some r/\r.ok/\xr c CF H f rows bars/\H d=some (.frz o (.dK (kvP fp)))/\∀(u:Addr) (H':Hp),zo H H'->zA K (fun a=>H a=none) H' 2 (.ref u) (zbZ rows many fp i)->Q (.ref u) H'
section
variable {P:Program}{w:World}{K:Frag}{mg:Str->Option Value}{base:Heap}{f CF:Addr}{fd:FuncData}{c:C5}{m:MA}
theorem zkR:([Str.ofString "name",Str.ofString "at",Str.ofString "form"]:List Str).Nodup:=by decide +kernel
theorem zhl:zr ["form","number","many","firsts"] ["form","number","many","firsts"] (zi zcF):=⟨rfl,rfl,rfl,by decide +kernel,rfl,by decide +kernel,by decide +kernel⟩
theorem zgg{gT gP gB gN gS g1:Addr}{eT eP eB eN eS e1:FuncData}(F:Fun K "entry" "entry" zcF f fd) (hran:mg "range"=none) (hlst:mg "list"=none) (FK:FC K CF) (mT:yS K CF "tail" gT) (GT:zD P w K mg base CX0 1 gT eT ["self"] (wE c CF 2)) (bT:zM K eT ["self"] []) (mP:yS K CF "places" gP) (GP:zD P w K mg base CX0 1 gP eP ["self"] (wH c CF)) (bP:zM K eP ["self"] [])
  (mB:yS K CF "bag" gB) (GB:zD P w K mg base CX0 1 gB eB ["self"] (wE c CF 4)) (bB:zM K eB ["self"] []) (mN:yS K CF "number_of" gN) (GN:zD P w K mg base CX0 1 gN eN ["self","name"] (zdt c CF)) (bN:zM K eN ["self","name"] []) (mS:yS K CF "parameters" gS) (GS:zD P w K mg base CX0 1 gS eS ["self"] (uc c CF)) (bS:zM K eS ["self"] [])
  (cE1:zG P w K mg base 2 "one_entry" g1 e1 ["parameter","number","many","firsts"] (zch c)):zD P w K mg base CX0 3 f fd ["form","number","many","firsts"] (zdx K c CF):=by
 refine F.ok zhl (fun vs H Q E h=>?_) (fun cdv A outer s H vs Q E hr h=>?_)
 ·obtain⟨f,d,o,i,many,rows,bars,fp,r,rfl,_⟩:=h
  rfl
 obtain⟨f,d,o,i,many,rows,bars,fp,r,rfl,lm,lf,l5,hri,rok,hF,hd,q⟩:=h;have hr1:yo 1 _:=hr.mono (by decide)
 refine⟨_,zf (zH (zk z7 (pv 1) (zU (pv 0) FK.cl mT GT hr1 bT .nil zW) (zt _)) (ze (zq (zC (ac zj (ac (cTy (zb8 rfl) hlst PyProof.Rows.boot_list (ac (cTy zeQ hran boot_range (ac (zU (pv 0) FK.cl mP GP hr1 bP .nil zW) (ac (pv 2) zc))) zc)) zc))))) zv)
  (zf (zH (zk z7 (pv 1) (zU (pv 0) FK.cl mB GB hr1 bB .nil zW) (zt _)) (ze (zq (zC (ac zj (ac (xn ["form"] ["name","at","form"] [none,none,some 0] rfl ⟨rfl,rfl,rfl,rfl⟩ (zbv (pv 3)) (yG (K:=K) (n:=2) 0 1) rfl rfl rfl
    (fun pins fp s H C=>⟨yi rfl (zp (zl (i:=0) zkR rfl (Or.inl rfl) (.inr rfl)) (zp (zl (i:=1) zkR rfl (Or.inl rfl) (.inr rfl)) zS)),yX (yL (wb (zaQ (pv 2) FK.cl mN GN hr1 bN .nil zW (ac (pv 0) zc)))),pv 1⟩)) zc))))) zv)
  (ze (zq (cF cE1 hr (ac (zB yF (zU (pv 0) FK.cl mS GS hr1 bS .nil zW) (pv 1) (fun _ _=>rfl)) (ac (pv 1) (ac (pv 2) (ac (pv 3) zc)))))))),?_⟩
 obtain⟨dx,fs,lr,lb,ld,ps0,h1,h2,h3,h4,h5,h6⟩:=id hF;have nmT:fs.lookup ("tail" : Str)=none:=h2.no _ (by decide +kernel)
 have nmP:fs.lookup ("places" : Str)=none:=h2.no _ (by decide +kernel)
 have nmB:fs.lookup ("bag" : Str)=none:=h2.no _ (by decide +kernel)
 have nmN:fs.lookup ("number_of" : Str)=none:=h2.no _ (by decide +kernel)
 have nmS:fs.lookup ("parameters" : Str)=none:=h2.no _ (by decide +kernel)
 have lp:plN rows<=500:=le_trans (length_filter_le _ _) l5
 try dsimp only
 refine yv (fun σ' H'=>σ'=[some (.ref f),some (.int (i:Nat)),some (.int (many:Nat)),some (.ref d)]/\H'=H/\zm 2 0 rows≠some i) ?_ (fun key=>?_);rotate_left
 ·refine⟨_,rfl,_,rfl,f,dx,fs,rfl,h1,nmT,f,rows,bars,rfl,hF,?_⟩
  cases hT:zm 2 0 rows with
  | none=>
   refine⟨rfl,_,rfl,?_⟩;refine dF (by intro z;cases z) ?_
   exact key _ _ ⟨rfl,rfl,by rw[hT];intro z;cases z⟩
  | some j=>
   refine⟨rfl,_,rfl,?_⟩;by_cases hij:i=j
   ·subst hij
    refine dT rfl ?_;refine⟨_,rfl,f,dx,fs,rfl,h1,nmP,f,rows,bars,rfl,hF,_,rfl,plN rows,many,rfl,fun p hp=>?_⟩;have s1:=zb hp (.rng (plN rows:Nat) (many:Nat));refine⟨p,plN rows,many,rfl,za,by omega,lm,fun l hl=>?_⟩
    have s2:=zb hl (.lst ((xi (plN rows) (many - plN rows)).map V.int));refine⟨by show 2<=sizeLine;decide,fun u hu=>?_⟩
    have s3:=zb hu (.tup [.str "places",.ref l]);refine q u _ (s1.trans (s2.trans s3)) ?_;unfold zbZ;rw[if_pos hT];exact .tup (SqT.of za) (.cons .str (.cons (.lst (s1.free hl) (s3 _ _ za) (wl _)) .nil))
   ·refine dF (fun z=>hij (by have:=V.int.inj z;omega)) ?_
    exact key _ _ ⟨rfl,rfl,by rw[hT];intro z;exact hij (Option.some.inj z).symm⟩
 rintro σ1 H1 ⟨rfl,rfl,nT⟩
 try dsimp only
 refine yv (fun σ' H'=>σ'=[some (.ref f),some (.int (i:Nat)),some (.int (many:Nat)),some (.ref d)]/\H'=H1/\zm 4 0 rows≠some i) ?_ (fun key=>?_);rotate_left
 ·refine⟨_,rfl,_,rfl,f,dx,fs,rfl,h1,nmB,f,rows,bars,rfl,hF,?_⟩
  cases hB:zm 4 0 rows with
  | none=>
   refine⟨rfl,_,rfl,?_⟩;refine dF (by intro z;cases z) ?_
   exact key _ _ ⟨rfl,rfl,by rw[hB];intro z;cases z⟩
  | some j=>
   refine⟨rfl,_,rfl,?_⟩;by_cases hij:i=j
   ·subst hij
    refine dT rfl ?_;refine⟨_,rfl,d,o,kvP fp,rfl,hd,fun D hD=>?_⟩;have lk:(kvP fp).length=fp.length:=by unfold kvP;rw[length_map]
    refine zgp (fun i ys H'=>zo H1 H'/\H' D=some (.lst ys)/\ys=((vC rows (fp.take i)).map fun (j:Nat)=>(j:Int)).map V.int) ⟨zb hD _,za,rfl⟩ (fun i ys H' h=>h.1 _ _ hd) ?_ ?_
    ·rintro k kk v p ys H' hlt hk ⟨sH,hDy,ey⟩ hpn
     obtain⟨z,n,hz,rfl,rfl⟩:∃(z:Str) (n:Nat),fp[k]?=some (z,n)/\kk=.inr z/\v=.int (n:Nat):=by
      unfold kvP at hk;rw[getElem?_map] at hk;cases e:fp[k]? with
      | none=>rw[e] at hk;cases hk
      | some q=>rw[e] at hk;cases hk;exact⟨q.1,q.2,rfl,rfl,rfl⟩
     have tk:=zcS (rows:=rows) hz;have sp:=zb hpn (.tup [kV (.inr z),.int (n:Nat)]);have sA:=sH.trans sp;have hDy2:=sp _ _ hDy;refine⟨p,_,rfl,SqT.of za,rfl,_,_,rfl,_,_,rfl,rfl,?_⟩;generalize upd H' p (.tup [kV (.inr z),.int (n:Nat)])=H2 at sp sA hDy2 |-;refine⟨_,rfl,f,dx,fs,rfl,sA _ _ h1,nmN,_,rfl,f,z,rows,bars,rfl,hF.same sA,_,rfl,?_⟩;have ly:ys.length<=k:=by
      rw[ey,length_map,length_map];refine le_trans (zeu _ _) ?_;rw[length_take];omega
     cases ev:zF (yM 0 [] rows) (.inr z) with
     | none=>
      rw[show vd rows (z,n)=true from by unfold vd;rw[ev];rfl,if_pos rfl] at tk
      refine⟨fun _=>?_,fun e=>?_⟩
      ·refine⟨_,rfl,lcN.mk hlt (zZ (by omega)) hDy2 ly ⟨fun b' u' e'=>?_,za,?_⟩⟩
       ·rw[zh (zd e' hD)]
        exact sA _ _ e'
       ·rw[ey,tk,map_append,map_append]
        rfl
      ·exact Bool.noConfusion e
     | some v'=>
      obtain⟨j,rfl⟩:=zdb rows 0 [] (.inr z) v' (fun k v e=>by cases e) ev
      rw[show vd rows (z,n)=false from by unfold vd;rw[ev];rfl,if_neg Bool.false_ne_true,append_nil] at tk
      refine⟨fun e=>?_,fun _=>?_⟩
      ·exact absurd (of_decide_eq_true e) (by intro z;cases z)
      ·exact lcS.mk hlt ⟨sA,hDy2,by rw[ey,tk]⟩
    ·rintro ys H' ⟨sH,hDy,ey⟩
     rw[lk,take_length] at ey;subst ey;refine⟨by show 2<=sizeLine;decide,fun u hu=>?_⟩
     have s3:=zb hu (.tup [.str "names",.ref D]);refine q u _ (sH.trans s3) ?_;unfold zbZ;rw[if_neg nT,if_pos hB];exact .tup (SqT.of za) (.cons .str (.cons (.lst hD (s3 _ _ hDy) (wl _)) .nil))
   ·refine dF (fun z=>hij (by have:=V.int.inj z;omega)) ?_
    exact key _ _ ⟨rfl,rfl,by rw[hB];intro z;exact hij (Option.some.inj z).symm⟩
 rintro σ2 H2 ⟨rfl,rfl,nB⟩;refine⟨_,rfl,f,dx,fs,rfl,h1,nmS,f,rows,bars,rfl,hF,fun lS ps H3 s3 nS eS hps=>?_⟩;have hi:i<rows.length:=(List.getElem?_eq_some_iff.mp hri).1;obtain⟨pa,hpa⟩:∃pa,ps[i]?=some pa:=⟨_,getElem?_eq_getElem (by rw[hps.length];exact hi)⟩
 obtain⟨r',hr',hdx⟩:=yg hps hpa;rw[hri] at hr';cases hr';refine⟨_,rfl,lS,_,_,.ref pa,rfl,rfl,SqL.of eS,yJ (by rw[getElem?_map,hpa];rfl),_,rfl,_,rfl,_,rfl,pa,d,i,many,r,kvP fp,rfl,hdx,rok,.inr ⟨o,s3 _ _ hd⟩,fun u H4 s4 hu=>?_⟩
 refine q u H4 (s3.trans s4) ?_;unfold zbZ;rw[if_neg nT,if_neg nB,hri];exact .tup (SqT.of hu) zfW
end
def zhx(rows:List Rw) (many:Nat) (zs:List Str):List Dt:=(List.range rows.length).map (zbZ rows many (fpZ zs))
def zkq:Sp:=fun _ _ _ _=>False
theorem zkJ{P:Program}{w:World}{K:Frag}{mg:Str->Option Value}{base:Heap}{CX:CXT}{k:Nat}{f:Addr}{fd:FuncData}{ps:List Str}:zD P w K mg base CX k f fd ps zkq:=⟨fun _ _ _ _ h=>h.elim,fun _ _ _ _ _ _ _ _ _ _ _ _ _ h=>h.elim⟩
def zdr(K:Frag) (c:C5) (CF:Addr):Sp:=fun vs H Q _=>∃(f a:Addr) (rows:List Rw) (bars:List Str) (ct:List yZ),vs=[.ref f,.ref a]/\vk c CF H f rows bars/\jd K H a ct/\zdL rows bars ct=[]/\
 (∀(l:Addr) (xs:List V) (H':Hp),zo H H'->H l=none->H' l=some (.lst xs)->Paired (zA K (fun a=>a≠l/\H a=none) H' 2) xs (zhx rows (yA ct).length (z5 ct))->Q (.ref l) H')
section
variable {P:Program}{w:World}{K:Frag}{mg:Str->Option Value}{base:Heap}{f CF:Addr}{fd:FuncData}{c:C5}{m:MA}
theorem zlL:([Str.ofString "at",Str.ofString "firsts",Str.ofString "form",Str.ofString "many"]:List Str).Nodup:=by decide +kernel
theorem wV:zr ["form","call","many","names","found","word","number","firsts"] ["form","call"] (zi zct):=⟨rfl,rfl,rfl,by decide +kernel,rfl,by decide +kernel,by decide +kernel⟩
theorem zf3{g1 g2 g3 g4 g5 gS:Addr}{d1 d2 d3 d4 d5 eS:FuncData}(F:Fun K "paper" "paper" zct f fd) (hran:mg "range"=none) (hlen:mg "len"=none) (FK:FC K CF) (c1:zG P w K mg base 2 "shape" g1 d1 ["call"] (zay K)) (c2:zG P w K mg base 4 "misfits_of" g2 d2 ["form","many","names"] (zfa c CF)) (c3:zG P w K mg base 1 "refuse" g3 d3 ["word","number"] zkq)
  (c4:zG P w K mg base 1 "first_numbers" g4 d4 ["names"] jF) (c5:zG P w K mg base 3 "entry" g5 d5 ["form","number","many","firsts"] (zdx K c CF)) (mS:yS K CF "parameters" gS) (GS:zD P w K mg base CX0 1 gS eS ["self"] (uc c CF)) (bS:zM K eS ["self"] []):zD P w K mg base CX0 5 f fd ["form","call"] (zdr K c CF):=by
 refine F.ok wV (fun vs H Q E h=>?_) (fun cdv A outer s H vs Q E hr h=>?_)
 ·obtain⟨f,a,rows,bars,ct,rfl,_⟩:=h
  rfl
 obtain⟨f,a,rows,bars,ct,rfl,hF,⟨⟨xs,hx,hc⟩,lt,lp⟩,em,q1⟩:=h;have hr1:yo 1 _:=hr.mono (by decide)
 have hr2:yo 2 _:=hr.mono (by decide)
 have hr3:yo 3 _:=hr.mono (by decide)
 refine⟨_,zf (xN (cF c1 hr2 (ac (pv 1) zc)) (yi rfl (zp (zl (i:=2) wV.nd rfl (Or.inr rfl)) (zp (zl (i:=3) wV.nd rfl (Or.inl rfl)) zS))))
  (zf (zu (i:=4) wV.nd rfl (Or.inl rfl) (cF c2 hr (ac (pv 0) (ac (pv 2) (ac (pv 3) zc)))))
  (zf (zH (zfK (pv 4) (fun _=>rfl)) (zf (xN (zB yF (pv 4) zg (fun _ _=>rfl)) (yi rfl (zp (zl (i:=5) wV.nd rfl (Or.inl rfl)) (zp (zl (i:=6) wV.nd rfl (Or.inl rfl)) zS))))
   (ze (zI (cF c3 hr1 (ac (pv 5) (ac (pv 6) zc)))))) zv)
  (zf (zu (i:=7) wV.nd rfl (Or.inr rfl) (cF c4 hr1 (ac (pv 3) zc)))
  (ze (zq (xn ["many","form","firsts"] ["at","firsts","form","many"] [none,some 7,some 0,some 2] rfl ⟨rfl,rfl,rfl,rfl⟩ (xO rfl hran (ac (cB zw hlen PySem.boot_len (ac (zU (pv 0) FK.cl mS GS hr1 bS .nil zW) zc)) zc)) (zY 0) rfl rfl rfl
   (fun pins fp s H C=>⟨zl (i:=0) zlL rfl (Or.inl rfl) (.inr rfl),yO,cF c5 hr3 (ac (pv 2) (ac (pv 0) (ac (pv 3) (ac (pv 1) zc))))⟩))))))),?_⟩
 refine⟨_,rfl,a,ct,xs,rfl,hx,hc,lt,lp,fun p l H1 s1 nl ep el=>?_⟩;refine⟨p,_,rfl,SqT.of ep,rfl,_,_,rfl,_,_,rfl,rfl,?_⟩;have hF1:=hF.same s1;have ln:(z5 ct).length<=900:=by unfold z5;rw[length_map];exact lp
 refine⟨_,rfl,_,rfl,_,rfl,f,l,(yA ct).length,rows,bars,z5 ct,rfl,hF.lr,hF.lb,lt,ln,hF.ok,hF1.at_,el,fun l2 H2 s2 ⟨us,n2,e2,m2⟩=>?_⟩;have s12:=s1.trans s2;have hF2:=hF.same s12;refine⟨_,rfl,_,.inl ⟨_,SqL.of e2,rfl⟩,?_⟩;have em':wQ rows bars (yA ct).length (z5 ct)=[]:=em;rw[em'] at m2;cases m2;refine zK ?_;refine⟨_,rfl,l,z5 ct,rfl,s2 _ _ el,ln,fun d o H3 s3 nd hd=>?_⟩;rw[ziI] at hd;have s13:=s12.trans s3;have hF3:=hF.same s13;obtain⟨dx,fs,lr,lb,ld,ps0,h1,h2,h3,h4,h5,h6⟩:=id hF3.at_;have nmS:fs.lookup ("parameters" : Str)=none:=h2.no _ (by decide +kernel)
 refine⟨_,rfl,f,dx,fs,rfl,h1,nmS,f,rows,bars,rfl,hF3.at_,fun lS ps H4 s4 nS eS hps=>?_⟩;have lps:(ps.map V.ref).length=rows.length:=by rw[length_map];exact hps.length
 have s14:=s13.trans s4;have hF4:=hF.same s14;have hlr:=hF.lr;refine⟨lS,_,rfl,.inl (SqL.of eS),((ps.map V.ref).length:Nat),rfl,by omega,by omega,fun D hD=>?_⟩
 have lfp:(fpZ (z5 ct)).length<=900:=by
  have:=za1 (z5 ct) 0 []
  show(fpF 0 [] (z5 ct)).length<=900;simp at this;omega
 refine zgo (K:=K) (m:=2) (zbZ rows (yA ct).length (fpZ (z5 ct))) hD (by omega) (fun i H5 Qf Qs hi s5 qf=>?_) (fun vs H5 s5 hDv hp=>?_)
 ·have hi':i<rows.length:=by omega
  have hri:rows[i]?=some rows[i]:=getElem?_eq_getElem hi';refine⟨fun _=>?_,fun e=>Bool.noConfusion e⟩;refine⟨_,rfl,_,rfl,_,rfl,_,rfl,f,d,o,i,(yA ct).length,rows,bars,fpZ (z5 ct),rows[i],(by rw[Int.zero_add];rfl),lt,lfp,hF.lr,hri,hF.ok _ (getElem_mem hi'),(hF4.same s5).at_,s5 _ _ (s4 _ _ hd),fun u H6 s6 hs6=>qf _ _ s6 hs6⟩
 ·refine q1 D vs H5 (s14.trans s5) (s14.free hD) hDv ?_
  unfold zhx
  have:(((ps.map V.ref).length:Nat):Int).toNat=rows.length:=by omega
  rw[this] at hp;exact Paired.imp' (fun _ _ z=>wW (fun b o _=>⟨o.1,s14.free o.2⟩) z) hp
end
def zci(K:Frag):Sp:=fun vs H Q _=>∃(a:Addr) (ns:List Int) (k:Nat),vs=[.ref a,.int k]/\SqL K H a (ns.map V.int)/\ns.length<=63/\∀(n:Int) (H':Hp),zo H H'->(n∈ns\/n=0)->Q (.int n) H'
def xH(c k:Int):Int:=(c % 2147483647 * 48271+k * 104729+5) % 2147483629 * ((c % 2147483647 * 48271+k * 104729+5) % 2147483629) % 2147483587
def jD:Sp:=fun vs H Q _=>∃c k:Int,vs=[.int c,.int k]/\Q (.int (xH c k)) H
def xC(c k:Int):Int:=if xH c k % 2=0 then xH c k / 2 % 13 - 6 else (c * 982451653 ^ (5:Int).toNat+k) % (2 * 10 ^ (60:Int).toNat - 1) - 10 ^ (60:Int).toNat+1
def zax:Sp:=fun vs H Q _=>∃c k:Int,vs=[.int c,.int k]/\Builtin.Int.intBits c<=1048600/\Q (.int (xC c k)) H
def xg(c:Int) (k:Nat):Str:=Txt.slice "zyxwvut" none (some ((c / 26+(k:Int)) % 8))++(⟨#[97+((c+3 * (k:Int)) % 26).toNat]⟩:Str)
def ze8(K:Frag):Sp:=fun vs H Q _=>∃c:Int,vs=[.int c]/\∀(r:Addr) (H':Hp),zo H H'->H r=none->H' r=some (.lst (((List.range 26).map (xg c)).map V.str))->Q (.ref r) H'
theorem zj3:∀m,m<26->(Str.ofString "abcdefghijklmnopqrstuvwxyz").cps.toList[m]?=some (97+m):=by decide +kernel
theorem zcH:∀a,a<8->∀m,m<26->xX (Txt.slice "zyxwvut" none (some ((a:Nat):Int))++(⟨#[97+m]⟩:Str))=true:=by decide +kernel
theorem qQ(c:Int) (k:Nat):xX (xg c k)=true:=by
 have h0 : 0<=(c / 26+(k:Int)) % 8:=emod_nonneg _ (by decide)
 have h1:(c / 26+(k:Int)) % 8<8:=emod_lt_of_pos _ (by decide)
 have h2 : 0<=(c+3 * (k:Int)) % 26:=emod_nonneg _ (by decide)
 have h3:(c+3 * (k:Int)) % 26<26:=emod_lt_of_pos _ (by decide)
 obtain⟨a,ha⟩:=eq_ofNat_of_zero_le h0;unfold xg;rw[ha];exact zcH a (by omega) _ (by omega)
theorem qR(c:Int) (k:Nat):(xg c k).cps.toList.getLast?=some (97+((c+3 * (k:Int)) % 26).toNat):=by
 show((Txt.slice "zyxwvut" none (some ((c / 26+(k:Int)) % 8))).cps++#[97+((c+3 * (k:Int)) % 26).toNat]).toList.getLast?=_;rw[Array.toList_append];simp
theorem zfN{c:Int}{j k:Nat}(hj:j<26) (hk:k<26) (e:xg c j=xg c k):j=k:=by
 have h1:=qR c j;rw[e,qR c k] at h1;have h2:=Option.some.inj h1;have a0 : 0<=(c+3 * (j:Int)) % 26:=emod_nonneg _ (by decide)
 have a1 : 0<=(c+3 * (k:Int)) % 26:=emod_nonneg _ (by decide)
 omega
theorem zbJ{c:Int}(h:Builtin.Int.intBits c<=1048600):IntMulOk c ((982451653:Int) ^ (5:Int).toNat):=by
 have hb:Builtin.Int.intBits ((982451653:Int) ^ (5:Int).toNat)<=200:=by decide +kernel
 have h2:Builtin.Int.intTooBig (Builtin.Int.intBits c+Builtin.Int.intBits ((982451653:Int) ^ (5:Int).toNat))=false:=by
  unfold Builtin.Int.intTooBig bitsLine;exact decide_eq_false (by omega)
 unfold IntMulOk;rw[h2];simp
structure zgY(K:Frag) (mg:Str->Option Value):Prop where
 isi:mg "isinstance"=none
 str:mg "str"=none
 bool:mg "bool"=none
 int:mg "int"=none
 tuple:mg "tuple"=none
 list:mg "list"=none
 len:mg "len"=none
 range:mg "range"=none
 enumerate:mg "enumerate"=none
section
variable {P:Program}{w:World}{K:Frag}{mg:Str->Option Value}{base:Heap}{f:Addr}{fd:FuncData}
theorem zi9:zr ["_law_script","_law_at"] ["_law_script","_law_at"] (zi zfC):=⟨rfl,rfl,rfl,by decide +kernel,rfl,by decide +kernel,by decide +kernel⟩
theorem zhS(F:Fun K "_law_cell" "_law_cell" zfC f fd):zD P w K mg base CX0 1 f fd ["_law_script","_law_at"] (zci K):=by
 refine F.ok zi9 (fun vs H Q E h=>?_) (fun cdv A outer s H vs Q E hr h=>?_)
 ·obtain⟨a,ns,k,rfl,_⟩:=h
  rfl
 obtain⟨a,ns,k,rfl,hS,h63,q⟩:=h;refine⟨_,ze (zq (zB yF (zx xx (ye yC (pv 0) (yp (pv 1)) (yp (zx yz (pv 1) zg))) (zO (ac zg zc))) zg (fun _ _=>rfl))),?_⟩;obtain⟨ms,e1,e2,e3⟩:=zgQ ns (some (k:Int)) (some ((k:Int)+1));refine⟨_,rfl,_,rfl,_,rfl,_,rfl,_,_,rfl,rfl,_,rfl,a,_,rfl,hS,fun p hp=>?_⟩;rw[e1];refine⟨zz1,fun l hl=>?_⟩;have npl:p≠l:=zd za hl;refine⟨p,l,_,_,rfl,rfl,(by rw[zh npl,za]),za,?_,fun c hc=>?_⟩
 ·rw[length_map]
  show ms.length+1<=sizeLine;exact zZ (by omega)
 have s3:=(zb hp (.lst (ms.map V.int))).trans ((zb hl (.lst [.int 0])).trans (zb hc (.lst (ms.map V.int++[.int 0]))));cases ms with
 | nil=>exact⟨c,_,0,.int 0,rfl,rfl,SqL.of za,rfl,q 0 _ s3 (.inr rfl)⟩
 | cons m r=>exact⟨c,_,0,.int m,rfl,rfl,SqL.of za,yJ (j:=0) rfl,q m _ s3 (.inl (e3 m (by simp)))⟩
theorem zhg:zr ["_law_found"] ["_law_found"] (zi zcz):=⟨rfl,rfl,rfl,by decide +kernel,rfl,by decide +kernel,by decide +kernel⟩
theorem ziy:zr ["_law_cell_here","_law_k","_law_number"] ["_law_cell_here","_law_k"] (zi zjg):=⟨rfl,rfl,rfl,by decide +kernel,rfl,by decide +kernel,by decide +kernel⟩
theorem zjC(F:Fun K "_law_mix" "_law_mix" zjg f fd):zD P w K mg base CX0 1 f fd ["_law_cell_here","_law_k"] jD:=by
 refine F.ok ziy (fun vs H Q E h=>?_) (fun cdv A outer s H vs Q E hr h=>?_)
 ·obtain⟨c,k,rfl,_⟩:=h
  rfl
 obtain⟨c,k,rfl,q⟩:=h;refine⟨_,zf (zu (i:=2) ziy.nd rfl (Or.inl rfl) (zx yf (zx yz (zx yz (zx ue (zx yf (pv 0) zg) zg) (zx ue (pv 1) zg)) zg) zg))
  (ze (zq (zx yf (zx ue (pv 2) (pv 2)) zg))),?_⟩
 refine⟨_,rfl,_,_,rfl,rfl,(by show(0:Int)<2147483647;decide),_,_,rfl,rfl,.inr ⟨by decide,by decide⟩,_,rfl,_,_,rfl,rfl,.inr ⟨by decide,by decide⟩,_,_,rfl,rfl,_,_,rfl,rfl,_,_,rfl,rfl,(by show(0:Int)<2147483629;decide),?_⟩
 have h1 : 0<=(c % 2147483647 * 48271+k * 104729+5) % 2147483629:=emod_nonneg _ (by decide)
 have h2:(c % 2147483647 * 48271+k * 104729+5) % 2147483629<2147483629:=emod_lt_of_pos _ (by decide)
 exact⟨_,rfl,_,rfl,_,_,rfl,rfl,.inl ⟨by omega,by omega⟩,_,_,rfl,rfl,(by show(0:Int)<2147483587;decide),q⟩
theorem zdy:zr ["_law_cell_here","_law_k","_law_number"] ["_law_cell_here","_law_k"] (zi zcn):=⟨rfl,rfl,rfl,by decide +kernel,rfl,by decide +kernel,by decide +kernel⟩
theorem zfZ{g:Addr}{gd:FuncData}(F:Fun K "_law_thing" "_law_thing" zcn f fd) (cM:zG P w K mg base 1 "_law_mix" g gd ["_law_cell_here","_law_k"] jD):zD P w K mg base CX0 2 f fd ["_law_cell_here","_law_k"] zax:=by
 refine F.ok zdy (fun vs H Q E h=>?_) (fun cdv A outer s H vs Q E hr h=>?_)
 ·obtain⟨c,k,rfl,_⟩:=h
  rfl
 obtain⟨c,k,rfl,hb,q⟩:=h;refine⟨_,zf (zu (i:=2) zdy.nd rfl (Or.inl rfl) (cF cM hr (ac (pv 0) (ac (pv 1) zc))))
  (zf (zH (zk z7 (zx yf (pv 2) zg) zg (zt _)) (ze (zq (zx jW (zx yf (zx xS (pv 2) zg) zg) zg))) zv)
  (ze (zq (zx yz (zx jW (zx yf (zx yz (zx zhA (pv 0) (zx zcL zg zg)) (pv 1)) (zx jW (zx ue zg (zx zcL zg zg)) zg)) (zx zcL zg zg)) zg)))),?_⟩
 refine⟨_,rfl,_,rfl,c,k,rfl,?_⟩;refine⟨_,rfl,_,_,rfl,rfl,zp2,rfl,_,rfl,?_⟩;by_cases hm2:xH c k % 2=0
 ·refine dT (congrArg V.int hm2) ?_
  unfold xC at q;rw[if_pos hm2] at q;exact⟨_,rfl,_,_,rfl,rfl,⟨by decide,by decide⟩,_,_,rfl,rfl,(by show(0:Int)<13;decide),_,_,rfl,rfl,q⟩
 ·refine dF (fun e=>hm2 (V.int.inj e)) ?_
  unfold xC at q;rw[if_neg hm2] at q;have hm:IntMulOk c ((982451653:Int) ^ (5:Int).toNat):=zbJ hb;exact⟨_,rfl,_,_,rfl,rfl,⟨by decide,by decide,by decide⟩,_,_,rfl,rfl,hm,_,rfl,_,_,rfl,rfl,_,_,rfl,rfl,⟨by decide,by decide,by decide⟩,_,_,rfl,rfl,.inl ⟨by decide,by decide⟩,_,_,rfl,rfl,_,_,rfl,rfl,(by show(0:Int)<2 * 10 ^ Int.toNat 60 - 1;decide +kernel),_,_,rfl,rfl,⟨by decide,by decide,by decide⟩,_,_,rfl,rfl,_,_,rfl,rfl,q⟩
theorem zaG:zr ["_law_cell_here","_law_names","_law_k","_law_stem"] ["_law_cell_here"] (zi zfr):=⟨rfl,rfl,rfl,by decide +kernel,rfl,by decide +kernel,by decide +kernel⟩
theorem zhH(F:Fun K "_law_pool" "_law_pool" zfr f fd) (T:zgY K mg):zD P w K mg base CX0 1 f fd ["_law_cell_here"] (ze8 K):=by
 refine F.ok zaG (fun vs H Q E h=>?_) (fun cdv A outer s H vs Q E hr h=>?_)
 ·obtain⟨c,rfl,_⟩:=h
  rfl
 obtain⟨c,rfl,q⟩:=h;refine⟨_,zf (zu (i:=1) zaG.nd rfl (Or.inl rfl) (zO zc))
  (zf (xq PassesOwn.never rfl (xO rfl T.range (ac zg zc)) (zl (i:=2) zaG.nd rfl (Or.inl rfl))
   (zf (zu (i:=3) zaG.nd rfl (Or.inl rfl) (ye zi0 zj yD (yp (zx yf (zx yz (zx xS (pv 0) zg) (pv 2)) zg))))
   (ze (zI (y3 PySem.F.plainAttrs_list PySem.F.slot_list_append PySem.F.type_list_append zQ (pv 1) (ac (zx zcN (pv 3) (zB zjP zj (zx yf (zx yz (pv 0) (zx ue zg (pv 2))) zg) (fun _ _=>rfl))) zc))))))
  (ze (zq (pv 1)))),?_⟩
 refine⟨zz0,fun r hr0=>?_⟩;refine⟨26,rfl,by decide,by decide,zae (n:=26) (fun i σ H2=>∃v2 v3,σ=[some (.int c),some (.ref r),v2,v3]/\H2 r=some (.lst (((List.range i).map (xg c)).map V.str))/\zo H H2)
  ⟨_,_,rfl,za,zb hr0 _⟩ ?_ ?_⟩
 ·rintro i σ H2 hi ⟨v2,v3,rfl,g,sH⟩
  refine⟨_,rfl,_,_,rfl,rfl,⟨by decide,by decide⟩,_,rfl,_,_,rfl,rfl,_,_,rfl,rfl,zp8,_,rfl,_,rfl,(by decide +kernel),?_⟩
  have h0 : 0<=(c+3 * ((0:Int)+(i:Int))) % 26:=emod_nonneg _ (by decide)
  have h1:(c+3 * ((0:Int)+(i:Int))) % 26<26:=emod_lt_of_pos _ (by decide)
  have hch:atI (Str.ofString "abcdefghijklmnopqrstuvwxyz").cps.toList ((c+3 * ((0:Int)+(i:Int))) % 26)=some (97+((c+3 * ((0:Int)+(i:Int))) % 26).toNat):=by
   obtain⟨m,hm⟩:=eq_ofNat_of_zero_le h0;rw[hm];have hm2:m<26:=by omega
   exact yJ (zj3 m hm2)
  refine⟨_,rfl,.inl ⟨rfl,_,SqL.of g⟩,_,rfl,_,rfl,_,rfl,_,_,rfl,rfl,.inl ⟨by decide,by decide⟩,_,_,rfl,rfl,_,_,rfl,rfl,(by show(0:Int)<26;decide),_,_,_,rfl,rfl,(by decide +kernel),hch,?_⟩
  have hsl:=Txt.slice_le (Str.ofString "zyxwvut") none (some ((c / 26+(0+(i:Int))) % 8));have hs7:(Str.ofString "zyxwvut").length=7:=by decide +kernel
  refine⟨_,_,rfl,rfl,zZ (by rw[hs7] at hsl;show _+1<=1000;omega),r,_,_,rfl,rfl,g,(by rw[length_map,length_map,length_range];exact zE (by omega)),?_⟩
  refine⟨_,_,rfl,?_,wM sH hr0 _⟩;rw[za,range_succ,map_append,map_append];show _=some (HO.lst (_++[V.str (xg c i)]));unfold xg;rw[Int.zero_add]
 ·rintro σ H2 ⟨v2,v3,rfl,g,sH⟩
  exact⟨_,rfl,q r H2 sH hr0 g⟩
end
theorem zbC{l g:Nat}{r:Rw}{rs:List Rw}(hg:grp r.k=g) (hb:xK l g=false) (h:yn g rs=true):yn l (r::rs)=true:=by
 show(!xK l (grp r.k)&&yn (grp r.k) rs)=true;rw[hg,hb,h];rfl
theorem uF{g:Nat}(he:xK g g=false):∀(xs ys:List Rw) (l:Nat),xK l g=false->(∀r∈xs,grp r.k=g)->yn l ys=true->yn g ys=true->yn l (xs++ys)=true
 | [],_,_,_,_,h1,_=>h1
 | r::rs,ys,l,hb,hg,_,h2=>zbC (hg r mem_cons_self) hb (uF he rs ys g he (fun x hx=>hg x (mem_cons_of_mem _ hx)) h2 h2)
theorem zdI{g l:Nat}{xs ys:List Rw}(hl:xs.length<=1) (hb:xK l g=false) (hg:∀r∈xs,grp r.k=g) (h1:yn l ys=true) (h2:yn g ys=true):yn l (xs++ys)=true:=by
 match xs,hl with
 | [],_=>exact h1
 | [r],_=>exact zbC (hg r mem_cons_self) hb h2
theorem zhz{xs0 xs1 xs2 xs3:List Rw}(g0:∀r∈xs0,grp r.k=0) (g1:∀r∈xs1,grp r.k=1) (l1:xs1.length<=1) (g2:∀r∈xs2,grp r.k=2) (g3:∀r∈xs3,grp r.k=3) (l3:xs3.length<=1):yn 0 (xs0++(xs1++(xs2++xs3)))=true:=by
 have h3:∀l,l<=2->yn l xs3=true:=fun l hl=>by
  have:=zdI (g:=3) (l:=l) (ys:=[]) l3 (by match l,hl with|0,_=>rfl|1,_=>rfl|2,_=>rfl) g3 rfl rfl
  rwa [append_nil] at this
 have h2:∀l,l<=1->yn l (xs2++xs3)=true:=fun l hl=>uF (g:=2) rfl xs2 xs3 l (by match l,hl with|0,_=>rfl|1,_=>rfl) g2 (h3 l (by omega)) (h3 2 (by omega))
 have h1:yn 0 (xs1++(xs2++xs3))=true:=zdI (g:=1) l1 rfl g1 (h2 0 (by omega)) (h2 1 (by omega))
 exact uF (g:=0) rfl xs0 _ 0 rfl g0 h1 h1
theorem xT(a b:List Rw):nms (a++b)=nms a++nms b:=by unfold nms;rw[filter_append,map_append]
theorem uG(r:Rw):nms [r]=if zR r.k=true then [r.z] else []:=by
 unfold nms;cases h:zR r.k <;> simp [h]
theorem zjS{k:Nat}(hk:k<5) (h:zR k=true):grp k=0\/grp k=2:=by
 rcases lt5 hk with rfl|rfl|rfl|rfl|rfl <;> first|(exact .inl rfl)|(exact .inr rfl)|(cases h)
theorem zdJ{xs:List Rw}{g:Nat}(hg:∀r∈xs,r.ok/\grp r.k=g) (h:g % 2=1):nms xs=[]:=by
 unfold nms;rw[List.filter_eq_nil_iff.mpr (fun r hr e=>?_)]
 ·rfl
 ·obtain⟨ho,q⟩:=hg r hr
  rcases zjS ho.1 e with z|z <;> rw[z] at q <;> rw[<- q] at h <;> cases h
structure FS where
 (P T G B:List Rw) (L:List Str)
def FS.add(S:FS) (k:Nat) (z:Str) (b:Bool):FS:=match k with
 | 0=>{ S with P:=S.P++[⟨0,z,b⟩] }
 | 1=>{ S with P:=S.P++[⟨1,z,b⟩],L:=S.L++[z] }
 | 2=>{ S with T:=[⟨2,z,b⟩] }
 | 3=>{ S with G:=S.G++[⟨3,z,b⟩],L:=S.L++[z] }
 | _=>{ S with B:=[⟨4,z,b⟩] }
structure FM(i:Nat) (S:FS):Prop where
 okP:∀r∈S.P,r.ok/\grp r.k=0
 okT:∀r∈S.T,r.ok/\grp r.k=1
 okG:∀r∈S.G,r.ok/\grp r.k=2
 okB:∀r∈S.B,r.ok/\grp r.k=3
 lT:S.T.length<=1
 lB:S.B.length<=1
 nd:(nms S.P++nms S.G).Nodup
 sn:∀z∈nms S.P++nms S.G,z∈S.L
 ln:S.P.length+S.T.length+S.G.length+S.B.length<=i
 lL:S.L.length<=i
theorem j8{α : Type}{xs:List α}{y : α}{p : α->Prop}(h:∀x∈xs,p x) (hy:p y):∀x∈xs++[y],p x:=fun x hx=>by
 rcases List.mem_append.mp hx with hx|hx
 ·exact h x hx
 ·rw[List.mem_singleton.mp hx];exact hy
theorem FM.zero:FM 0 ⟨[],[],[],[],[]⟩:=by
 refine⟨?_,?_,?_,?_,?_,?_,?_,?_,?_,?_⟩ <;> first|exact(fun _ h=>nomatch h)|exact zero_le _|exact List.nodup_nil|exact le_refl _
theorem zgj{a b:List Str}{z:Str}(h:(a++b).Nodup) (hz:z∉a++b):(a++[z]++b).Nodup:=by
 have p:(a++[z]++b).Perm (z::(a++b)):=by
  rw[append_assoc];exact List.perm_middle
 exact p.nodup_iff.mpr (List.nodup_cons.mpr ⟨hz,h⟩)
theorem FM.add{i:Nat}{S:FS}{k:Nat}{z:Str}{b:Bool}(h:FM i S) (hk:k<5) (hz:xX z=true) (hn:zR k=true->z∉S.L):FM (i+1) (S.add k z b):=by
 have ln:=h.ln;have lL:=h.lL;have lT:=h.lT;have lB:=h.lB
 match k,hk with
 | 0,_=>
  have e:nms (S.P++[⟨0,z,b⟩])=nms S.P:=by rw[xT,uG];simp [zR]
  exact⟨j8 h.okP ⟨⟨lt_of_sub_eq_succ rfl,hz⟩,rfl⟩,h.okT,h.okG,h.okB,h.lT,h.lB,by show(nms (S.P++_)++nms S.G).Nodup;rw[e];exact h.nd,by show ∀y∈nms (S.P++_)++nms S.G,y∈S.L;rw[e];exact h.sn,
   by show(S.P++[_]).length+S.T.length+S.G.length+S.B.length<=i+1;rw[length_append,length_singleton];omega,le_succ_of_le h.lL⟩
 | 1,_=>
  have e:nms (S.P++[⟨1,z,b⟩])=nms S.P++[z]:=by rw[xT,uG];simp [zR]
  have nz:z∉nms S.P++nms S.G:=fun m=>hn rfl (h.sn z m);refine⟨j8 h.okP ⟨⟨lt_of_sub_eq_succ rfl,hz⟩,rfl⟩,h.okT,h.okG,h.okB,h.lT,h.lB,by show(nms (S.P++_)++nms S.G).Nodup;rw[e];exact zgj h.nd nz,?_,
   by show(S.P++[_]).length+S.T.length+S.G.length+S.B.length<=i+1;rw[length_append,length_singleton];omega,by show(S.L++[_]).length<=i+1;rw[length_append,length_singleton];omega⟩
  show ∀y∈nms (S.P++_)++nms S.G,y∈S.L++[z];rw[e];intro y hy;rw[mem_append,mem_append] at hy;rcases hy with (hy|hy)|hy
  ·exact mem_append_left _ (h.sn y (mem_append_left _ hy))
  ·exact mem_append_right _ hy
  ·exact mem_append_left _ (h.sn y (mem_append_right _ hy))
 | 2,_=>
  refine⟨h.okP,fun r hr=>?_,h.okG,h.okB,le_refl _,h.lB,h.nd,h.sn,?_,le_succ_of_le h.lL⟩
  ·rw[List.mem_singleton.mp hr];exact⟨⟨lt_of_sub_eq_succ rfl,hz⟩,rfl⟩
  ·show S.P.length+1+S.G.length+S.B.length<=i+1
   omega
 | 3,_=>
  have e:nms (S.G++[⟨3,z,b⟩])=nms S.G++[z]:=by rw[xT,uG];simp [zR]
  have nz:z∉nms S.P++nms S.G:=fun m=>hn rfl (h.sn z m);refine⟨h.okP,h.okT,j8 h.okG ⟨⟨lt_of_sub_eq_succ rfl,hz⟩,rfl⟩,h.okB,h.lT,h.lB,?_,?_,
   by show S.P.length+S.T.length+(S.G++[_]).length+S.B.length<=i+1;rw[length_append,length_singleton];omega,by show(S.L++[_]).length<=i+1;rw[length_append,length_singleton];omega⟩
  ·show(nms S.P++nms (S.G++_)).Nodup
   rw[e,<- append_assoc]
   have:=zgj (a:=nms S.P++nms S.G) (b:=[]) (z:=z) (by rw[append_nil];exact h.nd) (by rw[append_nil];exact nz)
   rwa [append_nil] at this
  ·show ∀y∈nms S.P++nms (S.G++_),y∈S.L++[z]
   rw[e];intro y hy;rw[mem_append,mem_append] at hy;rcases hy with hy|hy|hy
   ·exact mem_append_left _ (h.sn y (mem_append_left _ hy))
   ·exact mem_append_left _ (h.sn y (mem_append_right _ hy))
   ·exact mem_append_right _ hy
 | 4,_=>
  refine⟨h.okP,h.okT,h.okG,fun r hr=>?_,h.lT,le_refl _,h.nd,h.sn,?_,le_succ_of_le h.lL⟩
  ·rw[List.mem_singleton.mp hr];exact⟨⟨lt_of_sub_eq_succ rfl,hz⟩,rfl⟩
  ·show S.P.length+S.T.length+S.G.length+1<=i+1
   omega
def FS.rows(S:FS):List Rw:=S.P++S.T++S.G++S.B
theorem FM.valid{i:Nat}{S:FS}{bars:List Str}(h:FM i S) (hi:i<=24) (lb:bars.length<=60) (bn:∀z∈bars,xX z=true) (bd:bars.Nodup) (bl:∀z∈bars,z∉S.L):yN S.rows bars:=by
 have en:nms S.rows=nms S.P++nms S.G:=by
  unfold FS.rows;rw[xT,xT,xT,zdJ h.okT rfl,zdJ h.okB rfl,append_nil,append_nil]
 refine⟨fun r hr=>?_,?_,lb,?_,bn,?_⟩
 ·unfold FS.rows at hr
  rw[mem_append,mem_append,mem_append] at hr;rcases hr with ((hr|hr)|hr)|hr
  ·exact(h.okP r hr).1
  ·exact(h.okT r hr).1
  ·exact(h.okG r hr).1
  ·exact(h.okB r hr).1
 ·unfold FS.rows
  have:=h.ln
  simp only[length_append];omega
 ·unfold FS.rows
  rw[append_assoc,append_assoc];exact zhz (fun r hr=>(h.okP r hr).2) (fun r hr=>(h.okT r hr).2) h.lT (fun r hr=>(h.okG r hr).2) (fun r hr=>(h.okB r hr).2) h.lB
 ·rw[en]
  exact List.nodup_append.mpr ⟨h.nd,bd,fun x hx y hy e=>bl y hy (e ▸ h.sn x hx)⟩
theorem TAt.keep{H:Hp}{v D:Addr}{r:Rw}{o:HO}(h:TAt H v r) (hD:∀vs,H D≠some (.tup vs)):TAt (upd H D o) v r:=by
 show upd H D o v=_;rw[zh (fun e=>by subst e;exact hD _ h)]
 exact h
def v0(H:Hp) (l:Addr) (rows:List Rw):Prop:=∃us:List Addr,H l=some (.lst (us.map V.ref))/\Paired (TAt H) us rows
theorem v0.same{H H':Hp}{l:Addr}{rows:List Rw}(h:v0 H l rows) (s:zo H H'):v0 H' l rows:=let ⟨us,h1,h2⟩:=h;⟨us,s _ _ h1,zP s h2⟩
theorem v0.keep{H:Hp}{l D:Addr}{rows:List Rw}{o:HO}(h:v0 H l rows) (ne:l≠D) (hD:∀vs,H D≠some (.tup vs)):v0 (upd H D o) l rows:=
 let ⟨us,h1,h2⟩:=h
 ⟨us,by rw[zh ne];exact h1,Paired.imp' (fun _ _ z=>z.keep hD) h2⟩
theorem v0.snoc{H:Hp}{l u:Addr}{rows:List Rw}{r:Rw}{us:List Addr}(h1:H l=some (.lst (us.map V.ref))) (h2:Paired (TAt H) us rows) (hu:TAt H u r):v0 (upd H l (.lst (us.map V.ref++[.ref u]))) l (rows++[r]):=by
 have hD:∀vs,H l≠some (.tup vs):=fun vs e=>by rw[h1] at e;cases e
 refine⟨us++[u],by rw[za,map_append];rfl,Paired.snoc (Paired.imp' (fun _ _ z=>z.keep hD) h2) (hu.keep hD)⟩
def y6(ta ba:Addr):List (Key×V):=[(.inr "tail",.ref ta),(.inr "bag",.ref ba)]
theorem zjY(ta ba x:Addr):zV (y6 ta ba) (.inr "tail") (.ref x)=y6 x ba:=by
 have e:¬((Sum.inr (Str.ofString "bag"):Key)=Sum.inr (Str.ofString "tail")):=by decide +kernel
 unfold zV y6;simp [e]
theorem zjZ(ta ba x:Addr):zV (y6 ta ba) (.inr "bag") (.ref x)=y6 ta x:=by
 have e:¬((Sum.inr (Str.ofString "tail"):Key)=Sum.inr (Str.ofString "bag")):=by decide +kernel
 unfold zV y6;simp [e]
theorem zh6(ta ba:Addr):zF (y6 ta ba) (.inr "tail")=some (.ref ta):=by
 unfold zF y6;simp
theorem zh7(ta ba:Addr):zF (y6 ta ba) (.inr "bag")=some (.ref ba):=by
 have e:¬((Sum.inr (Str.ofString "tail"):Key)=Sum.inr (Str.ofString "bag")):=by decide +kernel
 unfold zF y6;simp [e]
structure FI(H H':Hp) (lp lt ll de:Addr) (S:FS):Prop where
 sm:zo H H'
 hp:v0 H' lp S.P
 ht:v0 H' lt S.G
 hl:H' ll=some (.lst (S.L.map V.str))
 he:∃ta ba,H' de=some (.dK (y6 ta ba))/\ta≠lp/\ta≠lt/\ta≠ll/\ba≠lp/\ba≠lt/\ba≠ll/\v0 H' ta S.T/\v0 H' ba S.B
 n1:lp≠lt
 n2:lp≠ll
 n3:lt≠ll
 m1:H lp=none
 m2:H lt=none
 m3:H ll=none
 m4:H de=none
section
variable {H H' H'':Hp}{lp lt ll de u:Addr}{S:FS}{r:Rw}{z:Str}{b:Bool}
theorem FI.same(h:FI H H' lp lt ll de S) (s:zo H' H''):FI H H'' lp lt ll de S:=by
 obtain⟨ta,ba,e1,e2,e3,e4,e5,e6,e7,e8,e9⟩:=h.he;exact⟨h.sm.trans s,h.hp.same s,h.ht.same s,s _ _ h.hl,⟨ta,ba,s _ _ e1,e2,e3,e4,e5,e6,e7,e8.same s,e9.same s⟩,h.n1,h.n2,h.n3,h.m1,h.m2,h.m3,h.m4⟩
theorem FI.smU(h:FI H H' lp lt ll de S) {l:Addr}(hl:H l=none) {o:HO}:zo H (upd H' l o):=fun b u e=>by rw[zh (zd e hl)];exact h.sm _ _ e
theorem FI.addL(h:FI H H' lp lt ll de S):FI H (upd H' ll (.lst (S.L.map V.str++[.str z]))) lp lt ll de { S with L:=S.L++[z] }:=by
 have hD:∀vs,H' ll≠some (.tup vs):=fun vs e=>by rw[h.hl] at e;cases e
 obtain⟨ta,ba,e1,e2,e3,e4,e5,e6,e7,e8,e9⟩:=h.he;have nd:de≠ll:=fun e=>by rw[e,h.hl] at e1;cases e1
 exact⟨h.smU h.m3,h.hp.keep h.n2 hD,h.ht.keep h.n3 hD,by rw[za,map_append];rfl,⟨ta,ba,by rw[zh nd];exact e1,e2,e3,e4,e5,e6,e7,e8.keep e4 hD,e9.keep e7 hD⟩,h.n1,h.n2,h.n3,h.m1,h.m2,h.m3,h.m4⟩
theorem FI.addP{us:List Addr}(h:FI H H' lp lt ll de S) (h1:H' lp=some (.lst (us.map V.ref))) (h2:Paired (TAt H') us S.P) (hu:TAt H' u r):FI H (upd H' lp (.lst (us.map V.ref++[.ref u]))) lp lt ll de { S with P:=S.P++[r] }:=by
 have hD:∀vs,H' lp≠some (.tup vs):=fun vs e=>by rw[h1] at e;cases e
 obtain⟨ta,ba,e1,e2,e3,e4,e5,e6,e7,e8,e9⟩:=h.he;have nd:de≠lp:=fun e=>by rw[e,h1] at e1;cases e1
 exact⟨h.smU h.m1,.snoc h1 h2 hu,h.ht.keep h.n1.symm hD,by rw[zh h.n2.symm];exact h.hl,⟨ta,ba,by rw[zh nd];exact e1,e2,e3,e4,e5,e6,e7,e8.keep e2 hD,e9.keep e5 hD⟩,h.n1,h.n2,h.n3,h.m1,h.m2,h.m3,h.m4⟩
theorem FI.addG{us:List Addr}(h:FI H H' lp lt ll de S) (h1:H' lt=some (.lst (us.map V.ref))) (h2:Paired (TAt H') us S.G) (hu:TAt H' u r):FI H (upd H' lt (.lst (us.map V.ref++[.ref u]))) lp lt ll de { S with G:=S.G++[r] }:=by
 have hD:∀vs,H' lt≠some (.tup vs):=fun vs e=>by rw[h1] at e;cases e
 obtain⟨ta,ba,e1,e2,e3,e4,e5,e6,e7,e8,e9⟩:=h.he;have nd:de≠lt:=fun e=>by rw[e,h1] at e1;cases e1
 exact⟨h.smU h.m2,h.hp.keep h.n1 hD,.snoc h1 h2 hu,by rw[zh h.n3.symm];exact h.hl,⟨ta,ba,by rw[zh nd];exact e1,e2,e3,e4,e5,e6,e7,e8.keep e3 hD,e9.keep e6 hD⟩,h.n1,h.n2,h.n3,h.m1,h.m2,h.m3,h.m4⟩
theorem FI.set{S':FS}{ta' ba':Addr}(h:FI H H' lp lt ll de S) (eP:S'.P=S.P) (eG:S'.G=S.G) (eL:S'.L=S.L) (n:ta'≠lp/\ta'≠lt/\ta'≠ll/\ba'≠lp/\ba'≠lt/\ba'≠ll) (hT:v0 H' ta' S'.T) (hB:v0 H' ba' S'.B):FI H (upd H' de (.dK (y6 ta' ba'))) lp lt ll de S':=by
 obtain⟨ta,ba,e1,e2,e3,e4,e5,e6,e7,e8,e9⟩:=h.he;have hD:∀vs,H' de≠some (.tup vs):=fun vs e=>by rw[e1] at e;cases e
 have nl:∀{l:Addr}{xs:List V},H' l=some (.lst xs)->l≠de:=fun e q=>by rw[q,e1] at e;cases e
 obtain⟨us1,p1,_⟩:=h.hp;obtain⟨us2,p2,_⟩:=h.ht;obtain⟨us3,p3,_⟩:=id hT;obtain⟨us4,p4,_⟩:=id hB;refine⟨h.smU h.m4,?_,?_,?_,⟨ta',ba',za,n.1,n.2.1,n.2.2.1,n.2.2.2.1,n.2.2.2.2.1,n.2.2.2.2.2,hT.keep (nl p3) hD,hB.keep (nl p4) hD⟩,h.n1,h.n2,h.n3,h.m1,h.m2,h.m3,h.m4⟩
 ·rw[eP];exact h.hp.keep (nl p1) hD
 ·rw[eG];exact h.ht.keep (nl p2) hD
 ·rw[eL,zh (nl h.hl)];exact h.hl
end
end K51
namespace L2
open PySem PySem.Spec PyProof.Rows
theorem zdM{n:Nat}(h:n<=1000):n<=sizeLine:=le_of_lt (zE h)
theorem vU{α : Type}{ys:List α}{i:Nat}{y : α}(keep : α->Bool) (hy:ys[i]?=some y):(ys.take (i+1)).filter keep=(ys.take i).filter keep++(if keep y=true then [y] else []):=by
 have hi:i<ys.length:=(List.getElem?_eq_some_iff.mp hy).1;have e:ys[i]=y:=(List.getElem?_eq_some_iff.mp hy).2;rw[take_succ_eq_append_getElem hi,filter_append,e,filter_cons];rfl
theorem zdT{α : Type}{ys:List α}{i:Nat}(keep : α->Bool):((ys.take i).filter keep).length<=i:=by
 have:=length_filter_le keep (ys.take i)
 rw[length_take] at this;omega
theorem zcY{α : Type}{K:Frag}{a:Addr}{xs:List V}{caps:List (Option Nat)}{g:TG}{tt:TT}{te:TE}{σ : L2.St}{H1:Hp}{Q:VK}{D:Addr}(ys:List α) (keep : α->Bool) (out : α->V) (hD:H1 D=none) (ha:SqL K H1 a xs) (hl:xs.length=ys.length) (hn:xs.length<=1000)
  (hs:∀(i:Nat) (x:V) (y : α) (H:Hp) (N:VK) (S:Hp->Prop),xs[i]?=some x->ys[i]?=some y->zo H1 H->(∀H',zo H H'->keep y=true->N (out y) H')->(∀H',zo H H'->keep y=false->S H')->g x (xk caps σ) H fun σ2 H2=>tt σ2 H2 fun ok H3=>(ok=true->te σ2 H3 N)/\(ok=false->S H3))
  (hd:∀H,zo H1 H->H D=some (.lst ((ys.filter keep).map out))->Q (.ref D) H):LCr (Itl K a) caps g tt te σ H1 Q D:=by
 refine ve (K:=K) (xs:=xs) (fun i zs H'=>zo H1 H'/\H' D=some (.lst zs)/\zs=((ys.take i).filter keep).map out) ⟨zb hD _,za,rfl⟩ (fun i zs H' h=>h.1.seq ha) ?_ ?_
 ·rintro i x zs H' hlt hx ⟨sH,hDy,ez⟩
  obtain⟨y,hy⟩:∃y,ys[i]?=some y:=⟨_,getElem?_eq_getElem (by omega)⟩
  refine hs i x y H' _ _ hx hy sH (fun H2 s2 hk=>?_) (fun H2 s2 hk=>?_)
  ·refine lcN.mk hlt (zdM hn) (s2 _ _ hDy) (by rw[ez,length_map];exact zdT _) ⟨fun b' u e=>?_,za,?_⟩
   ·rw[zh (zd e hD)]
    exact s2 _ _ (sH b' u e)
   ·rw[ez,vU keep hy,if_pos hk,map_append]
    rfl
  ·refine lcS.mk hlt ⟨sH.trans s2,s2 _ _ hDy,?_⟩
   rw[ez,vU keep hy,if_neg (by rw[hk];exact Bool.false_ne_true),append_nil]
 ·rintro zs H2 ⟨s2,hDy,ez⟩
  rw[take_of_length_le (by omega)] at ez
  rw[ez] at hDy;exact hd H2 s2 hDy
theorem jt{α : Type}{K:Frag}{a:Addr}{xs:List V}{caps:List (Option Nat)}{g:TG}{tt:TT}{te:TE}{σ : L2.St}{H1:Hp}{Q:VK}{D:Addr}(ys:List α) (keep : α->Bool) (out : α->V) (hD:H1 D=none) (ha:SqL K H1 a xs) (hl:xs.length=ys.length) (hn:xs.length<=1000)
  (hs:∀(i:Nat) (x:V) (y : α) (p:Addr) (H:Hp) (N:VK) (S:Hp->Prop),xs[i]?=some x->ys[i]?=some y->H p=none->zo H1 H->(∀H',zo H H'->keep y=true->N (out y) H')->(∀H',zo H H'->keep y=false->S H')->g (.ref p) (xk caps σ) (upd H p (.tup [.int i,x])) fun σ2 H2=>tt σ2 H2 fun ok H3=>(ok=true->te σ2 H3 N)/\(ok=false->S H3))
  (hd:∀H,zo H1 H->H D=some (.lst ((ys.filter keep).map out))->Q (.ref D) H):LCr (Ite K a) caps g tt te σ H1 Q D:=by
 refine ju (K:=K) (xs:=xs) (fun i zs H'=>zo H1 H'/\H' D=some (.lst zs)/\zs=((ys.take i).filter keep).map out) ⟨zb hD _,za,rfl⟩ (fun i zs H' h=>h.1.seq ha) ?_ ?_
 ·rintro i x p zs H' hlt hx ⟨sH,hDy,ez⟩ hp
  obtain⟨y,hy⟩:∃y,ys[i]?=some y:=⟨_,getElem?_eq_getElem (by omega)⟩
  refine hs i x y p H' _ _ hx hy hp sH (fun H2 s2 hk=>?_) (fun H2 s2 hk=>?_)
  ·refine lcN.mk hlt (zdM hn) (s2 _ _ hDy) (by rw[ez,length_map];exact zdT _) ⟨fun b' u e=>?_,za,?_⟩
   ·rw[zh (zd e hD)]
    exact s2 _ _ (sH b' u e)
   ·rw[ez,vU keep hy,if_pos hk,map_append]
    rfl
  ·refine lcS.mk hlt ⟨sH.trans s2,s2 _ _ hDy,?_⟩
   rw[ez,vU keep hy,if_neg (by rw[hk];exact Bool.false_ne_true),append_nil]
 ·rintro zs H2 ⟨s2,hDy,ez⟩
  rw[take_of_length_le (by omega)] at ez
  rw[ez] at hDy;exact hd H2 s2 hDy
end L2
namespace K51
open PySem L2 PyProof.Rows
structure jb(mg:Str->Option Value):Prop where
 len:mg "len"=none
 range:mg "range"=none
 min:mg "min"=none
 max:mg "max"=none
 en:mg "enumerate"=none
 list:mg "list"=none
 isi:mg "isinstance"=none
 bool:mg "bool"=none
 int:mg "int"=none
theorem vi{z:Str}:∀{zs:List Str},inV (.str z) (zs.map V.str)=decide (z∈zs)
 | []=>by simp [inV]
 | y::ys=>by
  have ih:=vi (z:=z) (zs:=ys);show(eqV (.str y) (.str z)||inV (.str z) (ys.map V.str))=_
  rw[ih]
  have:eqV (.str y) (.str z)=decide (z=y):=by
   show(y==z)=_;rw[Bool.eq_iff_iff,beq_iff_eq,decide_eq_true_eq];exact⟨Eq.symm,Eq.symm⟩
  rw[this];simp
theorem xZ:∀{zs:List Str},(zs.map V.str).all xI=true
 | []=>rfl
 | _::ys=>by
  show(true&&(ys.map V.str).all xI)=true;rw[xZ];rfl
def xV(c:Int):List Str:=(List.range 26).map (xg c)
theorem zfP{c:Int}{i:Nat}{z:Str}(h:(xV c)[i]?=some z):i<26/\z=xg c i:=by
 unfold xV at h;rw[getElem?_map] at h;by_cases hi:i<26
 ·rw[getElem?_range hi] at h
  exact⟨hi,(Option.some.inj h).symm⟩
 ·rw[getElem?_eq_none (by rw[length_range];omega)] at h
  cases h
theorem zeg{c:Int}{i:Nat}(h:i<26):(xV c)[i]?=some (xg c i):=by
 unfold xV;rw[getElem?_map,getElem?_range h];rfl
theorem wO(c:Int):(xV c).length=26:=by unfold xV;rw[length_map,length_range]
theorem zcI{c:Int}{z:Str}(h:z∈xV c):xX z=true:=by
 obtain⟨k,_,rfl⟩:=List.mem_map.mp h;exact qQ c k
theorem zfO(c:Int):(xV c).Nodup:=by
 unfold xV;refine List.pairwise_map.mpr (List.Pairwise.imp_of_mem ?_ List.nodup_range);intro a b ha hb ne e;exact ne (zfN (List.mem_range.mp ha) (List.mem_range.mp hb) e)
def kd8(n:Nat):Nat:=[1,0,1,3,3,2,4,1].getD n 0
theorem zjN(n:Nat):kd8 n<5:=by
 have h:∀n,n<8->kd8 n<5:=by decide
 by_cases hn:n<8
 ·exact h n hn
 ·unfold kd8
  rw[getD_eq_getElem?_getD,getElem?_eq_none (by simp;omega)]
  exact Nat.succ_pos _
theorem zjO:∀n,n<8->atI [V.str "both",.str "seat",.str "both",.str "tag",.str "tag",.str "tail",.str "bag",.str "both"] ((n:Nat):Int)=some (.str (kw (kd8 n))):=by decide +kernel
theorem zcT(ta ba:Addr):ui [] (y6 ta ba)=y6 ta ba:=by
 have e:¬((Sum.inr (Str.ofString "tail"):Key)=Sum.inr (Str.ofString "bag")):=by decide +kernel
 unfold ui y6;simp only[List.foldl_cons,List.foldl_nil];unfold zV;simp [e]
theorem TAt.same{H H':Hp}{u:Addr}{r:Rw}(h:TAt H u r) (s:zo H H'):TAt H' u r:=s _ _ h
def zfe(K:Frag):Sp:=fun vs H Q _=>∃(a pa:Addr) (ns:List Int) (i most:Nat) (c:Int),vs=[.ref a,.int (i:Nat),.ref pa,.int (most:Nat)]/\SqL K H a (ns.map V.int)/\ns.length<=63/\3<=most/\most<=24/\H pa=some (.lst ((xV c).map V.str))/\
 ∀(t la lb:Addr) (us:List Addr) (rows:List Rw) (bars:List Str) (H':Hp),zo H H'->H' t=some (.tup [.ref la,.ref lb])->H' la=some (.lst (us.map V.ref))->Paired (TAt H') us rows->H' lb=some (.lst (bars.map V.str))->yN rows bars->Q (.ref t) H'
section
variable {P:Program}{w:World}{K:Frag}{mg:Str->Option Value}{base:Heap}{f:Addr}{fd:FuncData}
theorem zkQ:([Str.ofString "_law_k",Str.ofString "_law_name",Str.ofString "_law_more",Str.ofString "_law_told_here"]:List Str).Nodup:=by decide +kernel
theorem x0:zr ["_law_script","_law_at","_law_pool_here","_law_most","_law_places","_law_tags","_law_ends","_law_told_here","_law_more","_law_k","_law_cell_here","_law_sort","_law_name","_law_bars"] ["_law_script","_law_at","_law_pool_here","_law_most"] (zi zfz):=⟨rfl,rfl,rfl,by decide +kernel,rfl,by decide +kernel,by decide +kernel⟩
theorem zhP{g1 g2:Addr}{d1 d2:FuncData}(F:Fun K "_law_form" "_law_form" zfz f fd) (U:jb mg) (cC:zG P w K mg base 1 "_law_cell" g1 d1 ["_law_script","_law_at"] (zci K)) (cM:zG P w K mg base 1 "_law_mix" g2 d2 ["_law_cell_here","_law_k"] jD):zD P w K mg base CX0 2 f fd ["_law_script","_law_at","_law_pool_here","_law_most"] (zfe K):=by
 refine F.ok x0 (fun vs H Q E h=>?_) (fun cdv A outer s H vs Q E hr h=>?_)
 ·obtain⟨a,pa,ns,i,most,c,rfl,_⟩:=h
  rfl
 obtain⟨a,pa,ns,at0,most,c,rfl,hS,h63,m3,m24,hpa,q⟩:=h;have hr1:yo 1 _:=hr;have hu1:=jh hr;refine⟨_,zf (zu (i:=4) x0.nd rfl (Or.inl rfl) (zO zc))
   (zf (zu (i:=5) x0.nd rfl (Or.inl rfl) (zO zc))
   (zf (zu (i:=6) x0.nd rfl (Or.inl rfl) (zhv (zbt zj (zO zc) (zbt zj (zO zc) zhr)) rfl rfl (by simp) (by decide)))
   (zf (zu (i:=7) x0.nd rfl (Or.inr rfl) (zO zc))
   (zf (zu (i:=8) x0.nd rfl (Or.inr rfl) (cF cC hr1 (ac (pv 0) (ac (zx yz (pv 1) zg) zc))))
   (zf (xq PassesOwn.never rfl (xO rfl U.range (ac (zx yf (cF cC hr1 (ac (pv 0) (ac (pv 1) zc))) (zx yz (pv 3) zg)) zc)) (zl (i:=9) x0.nd rfl (Or.inl rfl))
   (zf (zu (i:=10) x0.nd rfl (Or.inl rfl) (cF cM hr1 (ac (zx yz (pv 8) (zx ue (pv 9) (cF cC hr1 (ac (pv 0) (ac (zx yz (pv 1) zg) zc))))) (ac (pv 9) zc))))
   (zf (zu (i:=11) x0.nd rfl (Or.inl rfl) (zB yF (zO (ac zj (ac zj (ac zj (ac zj (ac zj (ac zj (ac zj (ac zj zc))))))))) (zx yf (pv 10) zg) (fun _ _=>rfl)))
   (zf (zu (i:=12) x0.nd rfl (Or.inl rfl) (zB yF (pv 2) (zx yf (zx xS (pv 10) zg) (cB (zal rfl) U.min boot_min (ac zg (ac (zx jW (pv 3) zg) zc)))) (fun _ _=>rfl)))
   (zf (zH (PW.pt (yw (zk yh (pv 11) (zO (ac zj (ac zj zc))) (by with_unfolding_all rfl)) (yd (zk yh (pv 12) (pv 7) (by with_unfolding_all rfl))))) (ze (zu (i:=11) x0.nd rfl (Or.inl rfl) zj)) zv)
   (zf (zH (zk yh (pv 11) (zO (ac zj (ac zj zc))) (by with_unfolding_all rfl)) (ze (zI (y3 PySem.F.plainAttrs_list PySem.F.slot_list_append PySem.F.type_list_append zQ (pv 7) (ac (pv 12) zc)))) zv)
   (ze (zH (zk z7 (pv 11) zj (zt _)) (ze (zI (y3 PySem.F.plainAttrs_list PySem.F.slot_list_append PySem.F.type_list_append zQ (pv 5) (ac (zC (ac zj (ac (pv 12) (ac (xb z7 (zx yf (zx xS (pv 10) zg) zg) zg (zt _)) zc)))) zc)))) (ze (zH (zk yh (pv 11) (zO (ac zj (ac zj zc))) (by with_unfolding_all rfl)) (ze (jr hu1 (pv 6) (pv 11) (zO (ac (zC (ac (pv 11) (ac (pv 12) zc))) zc)) rfl)) (ze (zI (y3 PySem.F.plainAttrs_list PySem.F.slot_list_append PySem.F.type_list_append zQ (pv 4) (ac (zC (ac (pv 11) (ac (pv 12) (ac (xb z7 (zx yf (zx xS (pv 10) zg) zg) zg (zt _)) zc)))) zc))))))))))))))
   (zf (je (i:=13) ["_law_told_here","_law_more"] ["_law_k","_law_name","_law_more","_law_told_here"] [none,none,some 8,some 7] x0.nd rfl (Or.inl rfl) rfl ⟨rfl,rfl,rfl,rfl⟩ (yH rfl U.en (ac (pv 2) zc)) (yG (K:=K) (n:=2) 0 1) rfl rfl rfl
   (fun pins fp s H C=>⟨yi rfl (zp (zl (i:=0) zkQ rfl (Or.inl rfl) (.inr rfl)) (zp (zl (i:=1) zkQ rfl (Or.inl rfl) (.inr rfl)) zS)),yX (PW.pt (yw (zk (r:=rIn K true) vc (pv 1) (pv 3) (by with_unfolding_all rfl)) (yd (zk z7 (zx yf (cF cM hr1 (ac (pv 2) (ac (zx yz (pv 0) zg) zc))) zg) zg (zt _))))),pv 1⟩))
   (ze (zq (zC (ac (zx xx (zx xx (zx xx (pv 4) (vR hu1 (pv 6) zj (fun _ _=>rfl))) (pv 5)) (vR hu1 (pv 6) zj (fun _ _=>rfl))) (ac (pv 13) zc))))))))))),?_⟩
 refine⟨zz0,fun lp hlp=>?_⟩;have s1:=zb hlp (.lst []);have g1:upd H lp (.lst []) lp=some (.lst []):=za;show wn _ _ _ _ (upd H lp (.lst []));generalize upd H lp (.lst [])=H1 at s1 g1 |-;refine⟨zz0,fun lt hlt=>?_⟩;have s2:=zb hlt (.lst []);have g2:upd H1 lt (.lst []) lt=some (.lst []):=za;show wn _ _ _ _ (upd H1 lt (.lst []));generalize upd H1 lt (.lst [])=H2 at s2 g2 |-;intro de hde;have s3:=zb hde (.dK []);have g3:upd H2 de (.dK []) de=some (.dK []):=za;generalize upd H2 de (.dK [])=H3 at s3 g3 |-;refine⟨zz0,fun ta hta=>?_⟩;have s4:=zb hta (.lst []);have g4:upd H3 ta (.lst []) ta=some (.lst []):=za;generalize upd H3 ta (.lst [])=H4 at s4 g4 |-;refine⟨zz0,fun ba hba=>?_⟩;have s5:=zb hba (.lst []);have g5:upd H4 ba (.lst []) ba=some (.lst []):=za;generalize upd H4 ba (.lst [])=H5 at s5 g5 |-;refine⟨s5 _ _ (s4 _ _ g3),y6 ta ba,rfl,(by show 2<=15;decide),?_⟩
 rw[zcT];have s5H:zo H H5:=s1.trans (s2.trans (s3.trans (s4.trans s5)));have v1:=s5 _ _ (s4 _ _ (s3 _ _ (s2 _ _ g1)));have v2:=s5 _ _ (s4 _ _ (s3 _ _ g2));have v4:=s5 _ _ g4;have v3:=s5 _ _ (s4 _ _ g3);have hdeH:H de=none:=(s1.trans s2).free hde;have nd:∀{l:Addr}{xs:List V},H5 l=some (.lst xs)->l≠de:=fun e z=>by rw[z,v3] at e;cases e
 have s6:∀b u,H b=some u->upd H5 de (.dK (y6 ta ba)) b=some u:=fun b u e=>by rw[zh (zd e hdeH)];exact s5H _ _ e
 have w1:upd H5 de (.dK (y6 ta ba)) lp=some (.lst []):=by rw[zh (nd v1)];exact v1
 have w2:upd H5 de (.dK (y6 ta ba)) lt=some (.lst []):=by rw[zh (nd v2)];exact v2
 have w4:upd H5 de (.dK (y6 ta ba)) ta=some (.lst []):=by rw[zh (nd v4)];exact v4
 have w5:upd H5 de (.dK (y6 ta ba)) ba=some (.lst []):=by rw[zh (nd g5)];exact g5
 have w3:upd H5 de (.dK (y6 ta ba)) de=some (.dK (y6 ta ba)):=za;show wn _ _ _ _ (upd H5 de (.dK (y6 ta ba)));generalize upd H5 de (.dK (y6 ta ba))=H6 at s6 w1 w2 w3 w4 w5 |-;refine⟨zz0,fun ll hll=>?_⟩;have s7:=zb hll (.lst []);have g7:upd H6 ll (.lst []) ll=some (.lst []):=za;show wn _ _ _ _ (upd H6 ll (.lst []));generalize upd H6 ll (.lst [])=H7 at s7 g7 |-;have I0:FI H H7 lp lt ll de ⟨[],[],[],[],[]⟩:=⟨fun b u e=>s7 _ _ (s6 b u e),⟨[],s7 _ _ w1,.nil⟩,⟨[],s7 _ _ w2,.nil⟩,g7,
  ⟨ta,ba,s7 _ _ w3,(zd (s3 _ _ (s2 _ _ g1)) hta).symm,(zd (s3 _ _ g2) hta).symm,zd w4 hll,(zd (s4 _ _ (s3 _ _ (s2 _ _ g1))) hba).symm,(zd (s4 _ _ (s3 _ _ g2)) hba).symm,zd w5 hll,⟨[],s7 _ _ w4,.nil⟩,⟨[],s7 _ _ w5,.nil⟩⟩,
  zd g1 hlt,zd w1 hll,zd w2 hll,hlp,s1.free hlt,zo.free (H':=H6) (fun b u e=>s6 b u e) hll,hdeH⟩
 refine⟨_,rfl,_,rfl,_,_,rfl,rfl,a,ns,at0+1,rfl,I0.sm.seq hS,h63,fun more H8 s8 _=>?_⟩;have I8:=I0.same s8;refine⟨_,rfl,_,rfl,a,ns,at0,rfl,I8.sm.seq hS,h63,fun c0 H9 s9 _=>?_⟩;have I9:=I8.same s9;have hm1:(0:Int)<(most:Int)+1:=by omega
 have b0 : 0<=c0 % ((most:Int)+1):=emod_nonneg _ (by omega)
 have b1:c0 % ((most:Int)+1)<(most:Int)+1:=emod_lt_of_pos _ hm1;refine⟨_,rfl,_,_,rfl,rfl,_,_,rfl,rfl,hm1,c0 % ((most:Int)+1),rfl,by omega,by omega,?_⟩
 clear I0 I8 s8 s9;generalize hn:(c0 % ((most:Int)+1)).toNat=n;have hn24:n<=most:=by omega
 refine zae (n:=n) (fun i σ H'=>∃(S:FS) (v9 v10 v11 v12 v13:Option V),σ=[some (.ref a),some (.int (at0:Nat)),some (.ref pa),some (.int (most:Nat)),some (.ref lp),some (.ref lt),some (.ref de),some (.ref ll),some (.int more),v9,v10,v11,v12,v13]/\FI H H' lp lt ll de S/\FM i S)
  ⟨⟨[],[],[],[],[]⟩,_,_,_,_,_,rfl,I9,FM.zero⟩ ?_ ?_
 ·rintro i σ H1 hi ⟨S,v9,v10,v11,v12,v13,rfl,I1,M1⟩
  have hi':i<n:=hi;refine⟨_,rfl,_,rfl,_,rfl,_,rfl,_,_,rfl,rfl,a,ns,at0+2,rfl,I1.sm.seq hS,h63,fun c2 H2 s2 _=>?_⟩;have I2:=I1.same s2;refine⟨_,_,rfl,rfl,.inl ⟨by omega,by omega⟩,_,_,rfl,rfl,_,rfl,_,_,rfl,?_⟩
  generalize xH (more+((0:Int)+(i:Int)) * c2) ((0:Int)+(i:Int))=mm;refine⟨(by show 8<=sizeLine;decide),fun l8 hl8=>?_⟩
  have s3:=zb hl8 (.lst [.str "both",.str "seat",.str "both",.str "tag",.str "tag",.str "tail",.str "bag",.str "both"]);have g3:upd H2 l8 (.lst [.str "both",.str "seat",.str "both",.str "tag",.str "tag",.str "tail",.str "bag",.str "both"]) l8=some (.lst [.str "both",.str "seat",.str "both",.str "tag",.str "tag",.str "tail",.str "bag",.str "both"]):=za;generalize upd H2 l8 (.lst [.str "both",.str "seat",.str "both",.str "tag",.str "tag",.str "tail",.str "bag",.str "both"])=H3 at s3 g3 |-;have I3:=I2.same s3;have e0 : 0<=mm % 8:=emod_nonneg _ (by decide)
  have e1:mm % 8<8:=emod_lt_of_pos _ (by decide)
  obtain⟨d,hd⟩:=eq_ofNat_of_zero_le e0;have hk0:=zjN d;refine⟨_,rfl,_,_,rfl,rfl,zp8,l8,_,_,.str (kw (kd8 d)),rfl,rfl,SqL.of g3,(by rw[hd];exact zjO d (by omega)),?_⟩
  obtain⟨dd,hdd,hd0,hd24⟩:∃dd:Int,dd=(if (most:Int) - 2<24 then (most:Int) - 2 else 24)/\0<dd/\dd<=24:=⟨_,rfl,by split <;> omega,by split <;> omega⟩
  have f0 : 0<=mm / 8 % dd:=emod_nonneg _ (by omega)
  have f1:mm / 8 % dd<dd:=emod_lt_of_pos _ hd0;obtain⟨j,hj⟩:=eq_ofNat_of_zero_le f0;have hj26:j<26:=by omega
  have hpa3:=I3.sm _ _ hpa;refine⟨_,rfl,_,rfl,_,_,rfl,rfl,⟨by decide,by decide⟩,_,rfl,_,_,rfl,rfl,_,_,rfl,_,_,rfl,rfl,(by rw[<- hdd];exact hd0),pa,_,_,.str (xg c j),rfl,rfl,SqL.of hpa3,(by rw[<- hdd,hj];exact yJ (by rw[getElem?_map,zeg hj26];rfl)),?_⟩
  have hz:=qQ c j;generalize xg c j=z at hz |-;generalize kd8 d=k0 at hk0 |-;clear e0 e1 hd f0 f1 hj hd0 hd24 hdd hj26 s2 s3 g3 hl8 I1 I2
  try dsimp only
  refine yv (fun σ' H'=>∃k:Nat,k<5/\σ'=[some (.ref a),some (.int (at0:Nat)),some (.ref pa),some (.int (most:Nat)),some (.ref lp),some (.ref lt),some (.ref de),some (.ref ll),some (.int more),some (.int ((0:Int)+(i:Int))),some (.int mm),some (.str (kw k)),some (.str z),v13]/\FI H H' lp lt ll de S/\(zR k=true->z∉S.L)) ?_ (fun key=>?_);rotate_left
  ·refine⟨_,rfl,zz2,fun l hl=>?_⟩
   have s4:=zb hl (.lst [.str "both",.str "tag"]);refine⟨l,_,rfl,.inl (SqL.of za),rfl,rfl,_,rfl,?_⟩;generalize upd H3 l (.lst [.str "both",.str "tag"])=H4 at s4 |-;have I4:=I3.same s4;cases en:zR k0 with
   | false=>
    refine vf (show inV (.str (kw k0)) [.str "both",.str "tag"]=false from (uK k0 hk0).trans en) ?_;refine zK ?_;exact key _ _ ⟨k0,hk0,rfl,I4,fun e=>by rw[en] at e;cases e⟩
   | true=>
    refine vg (show inV (.str (kw k0)) [.str "both",.str "tag"]=true from (uK k0 hk0).trans en) ?_;refine⟨_,rfl,_,rfl,ll,_,rfl,.inl (SqL.of I4.hl),rfl,xZ,_,rfl,?_⟩;by_cases hz1:z∈S.L
    ·refine vg (vi.trans (decide_eq_true hz1)) ?_
     exact key _ _ ⟨0,by decide,rfl,I4,fun e=>by cases e⟩
    ·refine vf (vi.trans (decide_eq_false hz1)) ?_
     exact key _ _ ⟨k0,hk0,rfl,I4,fun _=>hz1⟩
  clear I3;rintro σ4 H4 ⟨k,hk,rfl,I4,hn4⟩
  try dsimp only
  refine yv (fun σ' H'=>σ'=[some (.ref a),some (.int (at0:Nat)),some (.ref pa),some (.int (most:Nat)),some (.ref lp),some (.ref lt),some (.ref de),some (.ref ll),some (.int more),some (.int ((0:Int)+(i:Int))),some (.int mm),some (.str (kw k)),some (.str z),v13]/\FI H H' lp lt ll de (if zR k=true then { S with L:=S.L++[z] } else S)) ?_ (fun key=>?_)
  rotate_left
  ·refine⟨_,rfl,zz2,fun l hl=>?_⟩
   have s5:=zb hl (.lst [.str "both",.str "tag"]);refine⟨l,_,rfl,.inl (SqL.of za),rfl,rfl,_,rfl,?_⟩;generalize upd H4 l (.lst [.str "both",.str "tag"])=H5 at s5 |-;have I5:=I4.same s5;cases en:zR k with
   | false=>
    refine vf (show inV (.str (kw k)) [.str "both",.str "tag"]=false from (uK k hk).trans en) ?_;exact key _ _ ⟨rfl,by rw[en,if_neg Bool.false_ne_true];exact I5⟩
   | true=>
    refine vg (show inV (.str (kw k)) [.str "both",.str "tag"]=true from (uK k hk).trans en) ?_;have lL:=M1.lL;refine⟨_,rfl,.inl ⟨rfl,_,SqL.of I5.hl⟩,_,rfl,ll,_,_,rfl,rfl,I5.hl,zE (by rw[length_map];omega),?_⟩
    exact key _ _ ⟨rfl,by rw[en,if_pos rfl];exact I5.addL⟩
  clear I4;rintro σ5 H5 ⟨rfl,I5⟩;have lP:S.P.length<=24:=by have:=M1.ln;omega
  have lG:S.G.length<=24:=by have:=M1.ln;omega
  have nextM:=fun b=>M1.add (b:=b) hk hz hn4;rcases lt5 hk with rfl|rfl|rfl|rfl|rfl
  ·have I5:FI H H5 lp lt ll de S:=I5
   refine⟨_,rfl,rfl,_,rfl,?_⟩;refine dF (by decide +kernel) ?_
   refine⟨_,rfl,zz2,fun l hl=>?_⟩;have s6:=zb hl (.lst [.str "tail",.str "bag"]);refine⟨l,_,rfl,.inl (SqL.of za),rfl,rfl,_,rfl,?_⟩;generalize upd H5 l (.lst [.str "tail",.str "bag"])=H6 at s6 |-;have I6:=I5.same s6;refine vf (by decide +kernel) ?_
   obtain⟨us,h1,h2⟩:=I6.hp;have hlu:us.length<=24:=by rw[h2.length];exact lP
   refine⟨_,rfl,.inl ⟨rfl,_,SqL.of h1⟩,_,rfl,_,rfl,_,rfl,_,_,rfl,rfl,⟨by decide,by decide⟩,_,_,rfl,rfl,zp2,rfl,zz3,fun u hu=>?_⟩
   generalize decide (V.int (mm / 200 % 2)=V.int 1)=fb;have s7:=zb hu (.tup [.str "seat",.str z,.bl fb]);have tu:TAt (upd H6 u (.tup [.str "seat",.str z,.bl fb])) u ⟨0,z,fb⟩:=za;refine⟨lp,_,_,rfl,rfl,s7 _ _ h1,zE (by rw[length_map];omega),?_⟩
   exact⟨S.add 0 z fb,_,_,_,_,_,rfl,(I6.same s7).addP (s7 _ _ h1) (zP s7 h2) tu,nextM fb⟩
  ·have I5:FI H H5 lp lt ll de { S with L:=S.L++[z] }:=I5
   refine⟨_,rfl,rfl,_,rfl,?_⟩;refine dF (by decide +kernel) ?_
   refine⟨_,rfl,zz2,fun l hl=>?_⟩;have s6:=zb hl (.lst [.str "tail",.str "bag"]);refine⟨l,_,rfl,.inl (SqL.of za),rfl,rfl,_,rfl,?_⟩;generalize upd H5 l (.lst [.str "tail",.str "bag"])=H6 at s6 |-;have I6:=I5.same s6;refine vf (by decide +kernel) ?_
   obtain⟨us,h1,h2⟩:=I6.hp;have hlu:us.length<=24:=by rw[h2.length];exact lP
   refine⟨_,rfl,.inl ⟨rfl,_,SqL.of h1⟩,_,rfl,_,rfl,_,rfl,_,_,rfl,rfl,⟨by decide,by decide⟩,_,_,rfl,rfl,zp2,rfl,zz3,fun u hu=>?_⟩
   generalize decide (V.int (mm / 200 % 2)=V.int 1)=fb;have s7:=zb hu (.tup [.str "both",.str z,.bl fb]);have tu:TAt (upd H6 u (.tup [.str "both",.str z,.bl fb])) u ⟨1,z,fb⟩:=za;refine⟨lp,_,_,rfl,rfl,s7 _ _ h1,zE (by rw[length_map];omega),?_⟩
   exact⟨S.add 1 z fb,_,_,_,_,_,rfl,(I6.same s7).addP (s7 _ _ h1) (zP s7 h2) tu,nextM fb⟩
  ·have I5:FI H H5 lp lt ll de S:=I5
   refine⟨_,rfl,rfl,_,rfl,?_⟩;refine dF (by decide +kernel) ?_
   refine⟨_,rfl,zz2,fun l hl=>?_⟩;have s6:=zb hl (.lst [.str "tail",.str "bag"]);refine⟨l,_,rfl,.inl (SqL.of za),rfl,rfl,_,rfl,?_⟩;generalize upd H5 l (.lst [.str "tail",.str "bag"])=H6 at s6 |-;have I6:=I5.same s6;refine vg (by decide +kernel) ?_
   refine⟨_,rfl,_,rfl,zz2,fun u hu=>?_⟩;have s7:=zb hu (.tup [.str "tail",.str z]);have tu:TAt (upd H6 u (.tup [.str "tail",.str z])) u ⟨2,z,true⟩:=za;refine⟨zz1,fun ln hln=>?_⟩;have s8:=zb hln (.lst [.ref u]);have I8:=I6.same (s7.trans s8);obtain⟨ta',ba',e1,e2,e3,e4,e5,e6,e7,e8,e9⟩:=I8.he;obtain⟨us1,p1,_⟩:=(I6.same s7).hp;obtain⟨us2,p2,_⟩:=(I6.same s7).ht;have p3:=(I6.same s7).hl;refine⟨_,rfl,_,rfl,de,_,rfl,zcb.k (k:=Sum.inr "tail") e1 (by show 2<sizeLine;decide),?_⟩
   have hnew:v0 (upd (upd H6 u (.tup [.str "tail",.str z])) ln (.lst [.ref u])) ln [⟨2,z,true⟩]:=⟨[u],za,.cons (tu.same s8) .nil⟩;rw[zjY];exact⟨S.add 2 z true,_,_,_,_,_,rfl,I8.set (S':=S.add 2 z true) rfl rfl rfl ⟨(zd p1 hln).symm,(zd p2 hln).symm,(zd p3 hln).symm,e5,e6,e7⟩ hnew e9,nextM true⟩
  ·have I5:FI H H5 lp lt ll de { S with L:=S.L++[z] }:=I5
   refine⟨_,rfl,rfl,_,rfl,?_⟩;refine dT rfl ?_;have I6:=I5;have H6:=H5;obtain⟨us,h1,h2⟩:=I6.ht;have hlu:us.length<=24:=by rw[h2.length];exact lG
   refine⟨_,rfl,.inl ⟨rfl,_,SqL.of h1⟩,_,rfl,_,rfl,_,_,rfl,rfl,⟨by decide,by decide⟩,_,_,rfl,rfl,zp2,rfl,zz3,fun u hu=>?_⟩
   generalize decide (V.int (mm / 200 % 2)=V.int 1)=fb;have s7:=zb hu (.tup [.str "tag",.str z,.bl fb]);have tu:TAt (upd H5 u (.tup [.str "tag",.str z,.bl fb])) u ⟨3,z,fb⟩:=za;refine⟨lt,_,_,rfl,rfl,s7 _ _ h1,zE (by rw[length_map];omega),?_⟩
   exact⟨S.add 3 z fb,_,_,_,_,_,rfl,(I6.same s7).addG (s7 _ _ h1) (zP s7 h2) tu,nextM fb⟩
  ·have I5:FI H H5 lp lt ll de S:=I5
   refine⟨_,rfl,rfl,_,rfl,?_⟩;refine dF (by decide +kernel) ?_
   refine⟨_,rfl,zz2,fun l hl=>?_⟩;have s6:=zb hl (.lst [.str "tail",.str "bag"]);refine⟨l,_,rfl,.inl (SqL.of za),rfl,rfl,_,rfl,?_⟩;generalize upd H5 l (.lst [.str "tail",.str "bag"])=H6 at s6 |-;have I6:=I5.same s6;refine vg (by decide +kernel) ?_
   refine⟨_,rfl,_,rfl,zz2,fun u hu=>?_⟩;have s7:=zb hu (.tup [.str "bag",.str z]);have tu:TAt (upd H6 u (.tup [.str "bag",.str z])) u ⟨4,z,true⟩:=za;refine⟨zz1,fun ln hln=>?_⟩;have s8:=zb hln (.lst [.ref u]);have I8:=I6.same (s7.trans s8);obtain⟨ta',ba',e1,e2,e3,e4,e5,e6,e7,e8,e9⟩:=I8.he;obtain⟨us1,p1,_⟩:=(I6.same s7).hp;obtain⟨us2,p2,_⟩:=(I6.same s7).ht;have p3:=(I6.same s7).hl;refine⟨_,rfl,_,rfl,de,_,rfl,zcb.k (k:=Sum.inr "bag") e1 (by show 2<sizeLine;decide),?_⟩
   have hnew:v0 (upd (upd H6 u (.tup [.str "bag",.str z])) ln (.lst [.ref u])) ln [⟨4,z,true⟩]:=⟨[u],za,.cons (tu.same s8) .nil⟩;rw[zjZ];exact⟨S.add 4 z true,_,_,_,_,_,rfl,I8.set (S':=S.add 4 z true) rfl rfl rfl ⟨e2,e3,e4,(zd p1 hln).symm,(zd p2 hln).symm,(zd p3 hln).symm⟩ e8 hnew,nextM true⟩
 ·rintro σ H1 ⟨S,v9,v10,v11,v12,v13,rfl,I1,M1⟩
  have hpa1:=I1.sm _ _ hpa;refine⟨_,rfl,pa,rfl,⟨_,SqL.of hpa1⟩,fun D hD=>?_⟩;refine jt (K:=K) (xs:=(xV c).map V.str) ((List.range 26).map fun k=>(k,xg c k)) (fun p=>decide (p.2∉S.L)&&decide (xH more ((p.1:Int)+30) % 6=0)) (fun p=>V.str p.2) hD (SqL.of hpa1) (by rw[length_map,wO,length_map,length_range]) (by rw[length_map,wO];decide) ?_ ?_
  ·rintro k x y p H2 N Sk hx hy hp sH qN qS
   obtain⟨z,hz,rfl⟩:=strs_at hx;obtain⟨hk,rfl⟩:=zfP hz;rw[getElem?_map,getElem?_range hk] at hy;cases hy;have sp:=zb hp (.tup [.int (k:Nat),.str (xg c k)]);refine⟨p,_,rfl,SqT.of za,rfl,_,_,rfl,_,_,rfl,rfl,?_⟩;have I3:=(I1.same sH).same sp;generalize upd H2 p (.tup [.int (k:Nat),.str (xg c k)])=H3 at sp I3 |-;refine⟨_,rfl,_,rfl,ll,_,rfl,.inl (SqL.of I3.hl),rfl,xZ,_,rfl,?_⟩;by_cases hz1:xg c k∈S.L
   ·refine vf (by rw[if_pos rfl,vi,decide_eq_true hz1];rfl) ?_
    refine⟨fun e=>Bool.noConfusion e,fun _=>qS _ sp ?_⟩;show(decide (xg c k∉S.L)&&_)=false;rw[decide_eq_false (fun h=>h hz1)];rfl
   ·refine vg (by rw[if_pos rfl,vi,decide_eq_false hz1];rfl) ?_
    refine⟨_,rfl,_,rfl,_,_,rfl,rfl,_,_,rfl,_,_,rfl,rfl,(by show(0:Int)<6;decide),rfl,_,rfl,?_⟩
    refine⟨fun e=>⟨_,rfl,qN _ sp ?_⟩,fun e=>qS _ sp ?_⟩
    ·show(decide (xg c k∉S.L)&&decide (xH more ((k:Int)+30) % 6=0))=true
     rw[decide_eq_true hz1,Bool.true_and];exact decide_eq_true (V.int.inj (of_decide_eq_true e))
    ·show(decide (xg c k∉S.L)&&decide (xH more ((k:Int)+30) % 6=0))=false
     rw[decide_eq_true hz1,Bool.true_and];exact decide_eq_false fun h=>of_decide_eq_false e (congrArg V.int h)
  ·intro H2 s2 hDv
   obtain⟨bars,hbars⟩:∃bars:List Str,bars=((((List.range 26).map fun k=>(k,xg c k)).filter (fun p=>decide (p.2∉S.L)&&decide (xH more ((p.1:Int)+30) % 6=0))).map (·.2)):=⟨_,rfl⟩;have hDv:H2 D=some (.lst (bars.map V.str)):=by rw[hDv,hbars,map_map];rfl
   have sub:List.Sublist bars (xV c):=by
    rw[hbars]
    have:=(List.filter_sublist (l:=(List.range 26).map fun k=>(k,xg c k)) (p:=fun p=>decide (p.2∉S.L)&&decide (xH more ((p.1:Int)+30) % 6=0))).map (·.2)
    rw[map_map] at this;exact this
   have lb:bars.length<=60:=by
    have:=sub.length_le
    rw[wO] at this;omega
   have V1:yN S.rows bars:=M1.valid (by omega) lb (fun z hz=>zcI (sub.subset hz)) ((zfO c).sublist sub) (fun z hz=>by
    rw[hbars] at hz;obtain⟨p,hp,rfl⟩:=List.mem_map.mp hz
    have:=(List.mem_filter.mp hp).2
    rw[Bool.and_eq_true] at this;exact of_decide_eq_true this.1)
   clear hbars;have I2:=I1.same s2;obtain⟨us1,h11,h12⟩:=I2.hp;obtain⟨us3,h31,h32⟩:=I2.ht;obtain⟨ta',ba',e1,e2,e3,e4,e5,e6,e7,⟨us2,h21,h22⟩,⟨us4,h41,h42⟩⟩:=I2.he;have lP:=M1.ln;have l1:us1.length=S.P.length:=h12.length;have l2:us2.length=S.T.length:=h22.length;have l3:us3.length=S.G.length:=h32.length;have l4:us4.length=S.B.length:=h42.length;refine⟨_,rfl,_,rfl,de,.ref ta',rfl,.inl ⟨_,.inr "tail",.inl e1,rfl,(zh6 ta' ba').symm⟩,lp,ta',_,_,rfl,rfl,h11,h21,zZ (by rw[length_map,length_map];omega),fun x1 hx1=>?_⟩
   rw[<- map_append];have s3:=zb hx1 (.lst ((us1++us2).map V.ref));have g3:upd H2 x1 (.lst ((us1++us2).map V.ref)) x1=some (.lst ((us1++us2).map V.ref)):=za;generalize upd H2 x1 (.lst ((us1++us2).map V.ref))=H3 at s3 g3 |-;refine⟨_,rfl,x1,lt,_,_,rfl,rfl,g3,s3 _ _ h31,zZ (by rw[length_map,length_map,length_append];omega),fun x2 hx2=>?_⟩
   rw[<- map_append];have s4:=zb hx2 (.lst ((us1++us2++us3).map V.ref));have g4:upd H3 x2 (.lst ((us1++us2++us3).map V.ref)) x2=some (.lst ((us1++us2++us3).map V.ref)):=za;generalize upd H3 x2 (.lst ((us1++us2++us3).map V.ref))=H4 at s4 g4 |-;have s24:=s3.trans s4;refine⟨_,rfl,de,.ref ba',rfl,.inl ⟨_,.inr "bag",.inl (s24 _ _ e1),rfl,(zh7 ta' ba').symm⟩,x2,ba',_,_,rfl,rfl,g4,s24 _ _ h41,zZ (by rw[length_map,length_map,length_append,length_append];omega),fun x3 hx3=>?_⟩
   rw[<- map_append];have s5:=zb hx3 (.lst ((us1++us2++us3++us4).map V.ref));have g5:upd H4 x3 (.lst ((us1++us2++us3++us4).map V.ref)) x3=some (.lst ((us1++us2++us3++us4).map V.ref)):=za;generalize upd H4 x3 (.lst ((us1++us2++us3++us4).map V.ref))=H5 at s5 g5 |-;have s25:=s24.trans s5;refine⟨_,rfl,zz2,fun t ht=>?_⟩;have s6:=zb ht (.tup [.ref x3,.ref D]);have s26:=s25.trans s6;exact q t x3 D _ S.rows bars _ (I2.sm.trans s26) za (s6 _ _ g5) (zP s26 (xh (xh (xh h12 h22) h32) h42)) (s26 _ _ hDv) V1
end
section
variable {K:Frag}{c:C5}
def zkz(k:Nat) (z:Str) (b:Bool):List Dt:=match k with
 | 0=>[.str "seat",.str z,.bl b]|1=>[.str "both",.str z,.bl b]|2=>[.str "tail",.str z]|3=>[.str "tag",.str z,.bl b]|_=>[.str "bag",.str z]
theorem zfH{ok:Addr->Prop}{H:Hp}{n k:Nat}{z:Str}{b:Bool}(h:k<5):Paired (zA K ok H n) (jR k (.str z) b) (zkz k z b):=by
 rcases lt5 h with rfl|rfl|rfl|rfl|rfl
 ·exact .cons zA.str (.cons zA.str (.cons zA.bl .nil))
 ·exact .cons zA.str (.cons zA.str (.cons zA.bl .nil))
 ·exact .cons zA.str (.cons zA.str .nil)
 ·exact .cons zA.str (.cons zA.str (.cons zA.bl .nil))
 ·exact .cons zA.str (.cons zA.str .nil)
theorem TAt.upd{H:Hp}{v D:Addr}{r:Rw}{ys:List V}{o:HO}(h:TAt H v r) (hD:H D=some (.lst ys)):TAt (upd H D o) v r:=by
 show L2.upd H D o v=_;rw[zh (fun e=>by rw[e] at h;rw[TAt,hD] at h;cases h)]
 exact h
theorem PAt.upd{c:C5}{H:Hp}{v D:Addr}{r:Rw}{ys:List V}{o:HO}(h:PAt c H v r) (hD:H D=some (.lst ys)):PAt c (upd H D o) v r:=by
 obtain⟨dx,h⟩:=h;refine⟨dx,?_⟩;rw[zh (fun e=>by rw[e,hD] at h;cases h)]
 exact h
def ziz(rows:List Rw):List Dt:=rows.map fun r=>.tup (zkz r.k r.z r.b)
def ziL(bars:List Str):List Dt:=bars.map fun z=>.str z
end
section
variable {K:Frag}{ok:Addr->Prop}{H:Hp}{n:Nat}
theorem zee{us:List Addr}{rows:List Rw}(h:Paired (TAt H) us rows):(∀r∈rows,r.ok)->Paired (zA K ok H (n+1)) (us.map V.ref) (ziz rows):=by
 induction h with
 | nil=>intro _;exact .nil
 | cons r t ih=>exact fun hok=>.cons (zA.tup (SqT.of r) (zfH (hok _ mem_cons_self).1)) (ih fun r' h'=>hok r' (mem_cons_of_mem _ h'))
theorem qM:∀bars:List Str,Paired (zA K ok H n) (bars.map V.str) (ziL bars)
 | []=>.nil
 | z::zs=>.cons zA.str (qM zs)
theorem qK{t l1 l2:Addr}{us:List Addr}{rows:List Rw}{bars:List Str}(ht:H t=some (.tup [.ref l1,.ref l2])) (h1:H l1=some (.lst (us.map V.ref))) (hu:Paired (TAt H) us rows) (hok:∀r∈rows,r.ok) (h2:H l2=some (.lst (bars.map V.str))) :
  zA K (fun _=>True) H 3 (.ref t) (.tup [.lst (ziz rows),.lst (ziL bars)]):=
 zA.tup (SqT.of ht) (.cons (zA.lst True.intro h1 (zee hu hok)) (.cons (zA.lst True.intro h2 (qM bars)) .nil))
end
theorem zev:([Str.ofString "_law_one"]:List Str).Nodup:=by decide +kernel
end K51
namespace L2
open PySem PySem.Spec PyProof.Rows
def zkC:R2:=fun x y H Q=>∃(a c:Addr) (xs ys:List V),x=.ref a/\y=.ref c/\H a=some (.lst xs)/\H c=some (.lst ys)/\xs.length≠ys.length/\Q (.bl true) H
theorem wP{X:Cx}(hu:X.A.units<cLine):OpR X (compareOp .NotEq) zkC:=by
 intro pins s σ H x y v u Q I rx ry h;obtain⟨a,c,xs,ys,rfl,rfl,ha,hc,hn,q⟩:=h;cases rx;cases ry;obtain⟨its,r,pl,_⟩:=I.list (SqL.of ha);obtain⟨its2,r2,pl2,_⟩:=I.list (SqL.of hc);have e1:=r.length;have e2:=r2.length;exact SeqAt.RcNeAt.lists_lengths pl.isList pl2.isList (by simp only[size_toArray,bne_iff_ne];omega) hu X.prog X.w X.xe _ ⟨.bl true,H,I,rfl,q⟩
end L2
namespace K51
open PySem L2 PyProof.Rows
theorem y7{xs:List V}{n:Nat}:wu xs none (some (n:Int))=xs.take n:=by
 unfold wu;rw[HT.zlg,HT.zkx,drop_zero,Nat.sub_zero];by_cases h:n<=xs.length
 ·rw[Nat.min_eq_left h]
 ·rw[Nat.min_eq_right (by omega),take_of_length_le (le_refl _),take_of_length_le (by omega)]
theorem w6{α β : Type}{R : α->β->Prop}{a:List α}{c:List β}(h:Paired R a c):∀n,Paired R (a.take n) (c.take n):=by
 induction h with
 | nil=>intro n;rw[take_nil,take_nil];exact .nil
 | cons r _ ih=>
  intro n;cases n with
  | zero=>exact .nil
  | succ n=>exact .cons r (ih n)
theorem y8{xs:List V}{n:Nat}:wu xs (some (n:Int)) none=xs.drop n:=by
 unfold wu;rw[HT.zlg,HT.zkx];by_cases h:n<=xs.length
 ·rw[Nat.min_eq_left h]
  exact take_of_length_le (by rw[length_drop];exact le_refl _)
 ·rw[Nat.min_eq_right (by omega),List.drop_of_length_le (le_refl _),List.drop_of_length_le (by omega)]
  simp
theorem w9{α β : Type}{R : α->β->Prop}{a:List α}{c:List β}(h:Paired R a c):∀n,Paired R (a.drop n) (c.drop n):=by
 induction h with
 | nil=>intro n;rw[drop_nil,drop_nil];exact .nil
 | cons r t ih=>
  intro n;cases n with
  | zero=>exact .cons r t
  | succ n=>exact ih n
def yP(m:Int) (ts:List Int) (ps:List (Str×Int)):yZ×List Int×List (Str×Int):=
 if m % 4=0/\ts≠[] then (.one (ts.headD 0),ts.drop 1,ps)
 else if m % 4=1 then (.row (ts.take (m / 4 % 4).toNat),ts.drop (m / 4 % 4).toNat,ps)
 else if m % 4=2/\ps≠[] then (.named (ps.headD ("",0)).1 (ps.headD ("",0)).2,ts,ps.drop 1)
 else (.book (ps.take (m / 4 % 4).toNat),ts,ps.drop (m / 4 % 4).toNat)
def wq(cell:Int):Nat->List yZ->List Int->List (Str×Int)->List yZ×List Int×List (Str×Int)
 | 0,ct,ts,ps=>(ct,ts,ps)
 | n+1,ct,ts,ps=>if ts.length+ps.length>0 then wq cell n (ct++[(yP (xH cell ct.length) ts ps).1]) (yP (xH cell ct.length) ts ps).2.1 (yP (xH cell ct.length) ts ps).2.2 else (ct,ts,ps)
def zbc(r:List yZ×List Int×List (Str×Int)):List yZ:=
 if r.2.1.length+r.2.2.length>0 then r.1++[.row (r.2.1.take 30),.row (r.2.1.drop 30),.book (r.2.2.take 30),.book (r.2.2.drop 30)] else r.1
def vI(cell:Int) (ts:List Int) (ps:List (Str×Int)):List yZ:=zbc (wq cell 26 [] ts ps)
theorem zg6(m:Int) (ts:List Int) (ps:List (Str×Int)):itT (yP m ts ps).1++(yP m ts ps).2.1=ts:=by
 unfold yP;split
 next h=>
  cases ts with
  | nil=>exact absurd rfl h.2
  | cons t ts=>rfl
 ·split
  ·exact take_append_drop _ _
  ·split <;> rfl
theorem zg7(m:Int) (ts:List Int) (ps:List (Str×Int)):itP (yP m ts ps).1++(yP m ts ps).2.2=ps:=by
 unfold yP;split
 ·rfl
 ·split
  ·rfl
  ·split
   next h=>
    cases ps with
    | nil=>exact absurd rfl h.2
    | cons p ps=>rfl
   ·exact take_append_drop _ _
theorem j9(cell:Int):∀(n:Nat) (ct:List yZ) (ts:List Int) (ps:List (Str×Int)),yA (wq cell n ct ts ps).1++(wq cell n ct ts ps).2.1=yA ct++ts/\y4 (wq cell n ct ts ps).1++(wq cell n ct ts ps).2.2=y4 ct++ps
 | 0,_,_,_=>⟨rfl,rfl⟩
 | n+1,ct,ts,ps=>by
  unfold wq;split
  ·obtain⟨h1,h2⟩:=j9 cell n (ct++[(yP (xH cell ct.length) ts ps).1]) (yP (xH cell ct.length) ts ps).2.1 (yP (xH cell ct.length) ts ps).2.2
   rw[h1,h2,zex,zey,append_assoc,append_assoc,zg6,zg7];exact⟨rfl,rfl⟩
  ·exact⟨rfl,rfl⟩
theorem zbU(cell:Int) (ts:List Int) (ps:List (Str×Int)):yA (vI cell ts ps)=ts/\y4 (vI cell ts ps)=ps:=by
 obtain⟨h1,h2⟩:=j9 cell 26 [] ts ps;unfold vI zbc;generalize wq cell 26 [] ts ps=r at h1 h2;split
 ·refine⟨Eq.trans ?_ h1,Eq.trans ?_ h2⟩
  ·unfold yA
   simp [itT]
  ·unfold y4
   simp [itP]
 next h=>
  have e1:r.2.1=[]:=List.eq_nil_of_length_eq_zero (by omega)
  have e2:r.2.2=[]:=List.eq_nil_of_length_eq_zero (by omega)
  rw[e1,append_nil] at h1;rw[e2,append_nil] at h2;exact⟨h1,h2⟩
structure IV(K:Frag) (H0 H':Hp) (l a b:Addr) (vs ys:List V) (ct:List yZ) (ts:List Int) (ps:List (Str×Int)):Prop where
 sm:zo H0 H'
 hl:H' l=some (.lst vs)
 hv:Paired (zA K (fun x=>x≠l/\H0 x=none) H' 3) vs (ct.map wg)
 ha:H' a=some (.lst (ts.map V.int))
 hb:H' b=some (.lst ys)
 hy:Paired (zA K (fun x=>x≠l/\H0 x=none) H' 1) ys (ps.map yQ)
 na:a≠l
 nb:b≠l
 nl:H0 l=none
section
variable {K:Frag}{H0 H' H'':Hp}{l a b:Addr}{vs ys:List V}{ct:List yZ}{ts:List Int}{ps:List (Str×Int)}
theorem IV.same(h:IV K H0 H' l a b vs ys ct ts ps) (s:zo H' H''):IV K H0 H'' l a b vs ys ct ts ps:=
 ⟨h.sm.trans s,s _ _ h.hl,zc3 s h.hv,s _ _ h.ha,s _ _ h.hb,wp s h.hy,h.na,h.nb,h.nl⟩
theorem IV.push{x:V}{it:yZ}(h:IV K H0 H' l a b vs ys ct ts ps) (hx:zA K (fun x=>x≠l/\H0 x=none) H' 3 x (wg it)):IV K H0 (upd H' l (.lst (vs++[x]))) l a b (vs++[x]) ys (ct++[it]) ts ps:=by
 refine⟨fun b u e=>by rw[zh (zd e h.nl)];exact h.sm _ _ e,za,?_,by rw[zh h.na];exact h.ha,by rw[zh h.nb];exact h.hb,?_,h.na,h.nb,h.nl⟩
 ·rw[map_append]
  exact Paired.snoc (Paired.imp' (fun _ _ z=>xL h.hl (fun b o=>⟨o,o.1⟩) z) h.hv) (xL h.hl (fun b o=>⟨o,o.1⟩) hx)
 ·exact Paired.imp' (fun _ _ z=>xL h.hl (fun b o=>⟨o,o.1⟩) z) h.hy
theorem IV.setA{a':Addr}{ts':List Int}(h:IV K H0 H' l a b vs ys ct ts ps) (ha:H' a'=some (.lst (ts'.map V.int))) (n:a'≠l):IV K H0 H' l a' b vs ys ct ts' ps:=⟨h.sm,h.hl,h.hv,ha,h.hb,h.hy,n,h.nb,h.nl⟩
theorem IV.setB{b':Addr}{ys':List V}{ps':List (Str×Int)}(h:IV K H0 H' l a b vs ys ct ts ps) (hb:H' b'=some (.lst ys')) (hy:Paired (zA K (fun x=>x≠l/\H0 x=none) H' 1) ys' (ps'.map yQ)) (n:b'≠l):IV K H0 H' l a b' vs ys' ct ts ps':=⟨h.sm,h.hl,h.hv,h.ha,hb,hy,h.na,n,h.nl⟩
end
def itW(K:Frag) (H0:Hp) (cell:Int) (l:Addr) (R:List yZ×List Int×List (Str×Int)) (m:Nat) (σ : L2.St) (H':Hp):Prop:=
 ∃(a b:Addr) (vs ys:List V) (ct:List yZ) (ts:List Int) (ps:List (Str×Int)) (v4 v5:Option V),σ=[some (.ref a),some (.ref b),some (.int cell),some (.ref l),v4,v5]/\IV K H0 H' l a b vs ys ct ts ps/\ct.length+m=26/\wq cell m ct ts ps=R/\ts.length<=400/\ps.length<=400
def zdw(K:Frag):Sp:=fun vs H Q _=>∃(a b:Addr) (cell:Int) (ys:List V) (ts:List Int) (ps:List (Str×Int)),vs=[.ref a,.ref b,.int cell]/\H a=some (.lst (ts.map V.int))/\H b=some (.lst ys)/\Paired (zA K T' H 1) ys (ps.map yQ)/\ts.length<=400/\ps.length<=400/\
 ∀(l:Addr) (zs:List V) (H':Hp),zo H H'->H l=none->H' l=some (.lst zs)->Paired (zA K (fun x=>x≠l/\H x=none) H' 3) zs ((vI cell ts ps).map wg)->Q (.ref l) H'
section
variable {P:Program}{w:World}{K:Frag}{mg:Str->Option Value}{base:Heap}{f:Addr}{fd:FuncData}
theorem zel{ok ok':Addr->Prop}{H:Hp}{ys:List V}{ps:List (Str×Int)}(h:Paired (zA K ok H 1) ys (ps.map yQ)):Paired (zA K ok' H 1) ys (ps.map yQ):=by
 induction ps generalizing ys with
 | nil=>cases h;exact .nil
 | cons p ps ih=>
  cases h with
  | cons h r=>
   obtain⟨b,rfl,hb⟩:=vS h;exact .cons (.tup hb (.cons .str (.cons .int .nil))) (ih r)
theorem wk:zr ["_law_things","_law_pairs","_law_cell_here","_law_call","_law_number","_law_many"] ["_law_things","_law_pairs","_law_cell_here"] (zi zcy):=⟨rfl,rfl,rfl,by decide +kernel,rfl,by decide +kernel,by decide +kernel⟩
theorem zf9{g1:Addr}{d1:FuncData}(F:Fun K "_law_items" "_law_items" zcy f fd) (U:jb mg) (cM:zG P w K mg base 1 "_law_mix" g1 d1 ["_law_cell_here","_law_k"] jD):zD P w K mg base CX0 2 f fd ["_law_things","_law_pairs","_law_cell_here"] (zdw K):=by
 refine F.ok wk (fun vs H Q E h=>?_) (fun cdv A outer s H vs Q E hr h=>?_)
 ·obtain⟨a,b,cell,ys,ts,ps,rfl,_⟩:=h
  rfl
 obtain⟨a,b,cell,ys,ts,ps,rfl,ha,hb,hy,l1,l2,q⟩:=h;have hU:=hr.units;have hU0:=hr.units0;refine⟨_,zf (zu (i:=3) wk.nd rfl (Or.inl rfl) (zO zc))
   (zf (zfM PassesOwn.never (PW.pt (yw (zk jX (cB zw U.len PySem.boot_len (ac (pv 3) zc)) zg (zt _)) (yd (zk qT (zx yz (cB zw U.len PySem.boot_len (ac (pv 0) zc)) (cB zw U.len PySem.boot_len (ac (pv 1) zc))) zg (zt _))))) (zf (zu (i:=4) wk.nd rfl (Or.inl rfl) (cF cM hr (ac (pv 2) (ac (cB zw U.len PySem.boot_len (ac (pv 3) zc)) zc))))
   (zf (zu (i:=5) wk.nd rfl (Or.inl rfl) (zx yf (zx xS (pv 4) zg) zg))
   (ze (zH (PW.pt (yw (zk z7 (zx yf (pv 4) zg) zg (zt _)) (yd (zk (OpR.or (ud hU) (wP hU0)) (pv 0) (zO zc) (zt _))))) (zf (zI (y3 PySem.F.plainAttrs_list PySem.F.slot_list_append PySem.F.type_list_append zQ (pv 3) (ac (zC (ac zj (ac (zB yF (pv 0) zg (fun _ _=>rfl)) zc))) zc)))
   (ze (zu (i:=0) wk.nd rfl (Or.inl rfl) (ye yC (pv 0) (yp zg) yD))))
   (ze (zH (zk z7 (zx yf (pv 4) zg) zg (zt _)) (zf (zI (y3 PySem.F.plainAttrs_list PySem.F.slot_list_append PySem.F.type_list_append zQ (pv 3) (ac (zC (ac zj (ac (ye yC (pv 0) yD (yp (pv 5))) zc))) zc)))
   (ze (zu (i:=0) wk.nd rfl (Or.inl rfl) (ye yC (pv 0) (yp (pv 5)) yD))))
   (ze (zH (PW.pt (yw (zk z7 (zx yf (pv 4) zg) zg (zt _)) (yd (zk (OpR.or (ud hU) (wP hU0)) (pv 1) (zO zc) (zt _))))) (zf (zI (y3 PySem.F.plainAttrs_list PySem.F.slot_list_append PySem.F.type_list_append zQ (pv 3) (ac (zC (ac zj (ac (zB zy (zB yF (pv 1) zg (fun _ _=>rfl)) zg (fun _ _=>rfl)) (ac (zB zy (zB yF (pv 1) zg (fun _ _=>rfl)) zg (fun _ _=>rfl)) zc)))) zc)))
   (ze (zu (i:=1) wk.nd rfl (Or.inl rfl) (ye yC (pv 1) (yp zg) yD))))
   (zf (zI (y3 PySem.F.plainAttrs_list PySem.F.slot_list_append PySem.F.type_list_append zQ (pv 3) (ac (zC (ac zj (ac (ye yC (pv 1) yD (yp (pv 5))) zc))) zc)))
   (ze (zu (i:=1) wk.nd rfl (Or.inl rfl) (ye yC (pv 1) (yp (pv 5)) yD)))))))))))))
   (zf (zH (zk qT (zx yz (cB zw U.len PySem.boot_len (ac (pv 0) zc)) (cB zw U.len PySem.boot_len (ac (pv 1) zc))) zg (zt _)) (ze (zu (i:=3) wk.nd rfl (Or.inl rfl) (zx xx (pv 3) (zO (ac (zC (ac zj (ac (ye yC (pv 0) yD (yp zg)) zc))) (ac (zC (ac zj (ac (ye yC (pv 0) (yp zg) yD) zc))) (ac (zC (ac zj (ac (ye yC (pv 1) yD (yp zg)) zc))) (ac (zC (ac zj (ac (ye yC (pv 1) (yp zg) yD) zc))) zc)))))))) zv)
   (ze (zq (pv 3))))),?_⟩
 refine⟨zz0,fun l hl=>?_⟩;have s1:=zb hl (.lst []);have I0:IV K H (upd H l (.lst [])) l a b [] ys [] ts ps:=⟨s1,za,.nil,s1 _ _ ha,s1 _ _ hb,wp s1 (zel hy),zd ha hl,zd hb hl,hl⟩
 try dsimp only[yr]
 generalize upd H l (.lst [])=H1 at s1 I0 |-;refine yv (fun σ' H'=>∃(a b:Addr) (vs ys:List V) (ct:List yZ) (ts':List Int) (ps':List (Str×Int)) (v4 v5:Option V),σ'=[some (.ref a),some (.ref b),some (.int cell),some (.ref l),v4,v5]/\IV K H H' l a b vs ys ct ts' ps'/\wq cell 26 [] ts ps=(ct,ts',ps')/\ct.length<=26/\ts'.length<=400/\ps'.length<=400) ?_ (fun key=>?_);rotate_left
 ·refine⟨itW K H cell l (wq cell 26 [] ts ps),⟨26,a,b,[],ys,[],ts,ps,_,_,rfl,I0,rfl,rfl,l1,l2⟩,?_⟩
  clear I0 s1;rintro m σ H2 ⟨a',b',vs',ys',ct,ts',ps',v4,v5,rfl,I2,hm,hR,l1',l2'⟩;have lvs:vs'.length=ct.length:=by rw[I2.hv.length,length_map]
  have lys:ys'.length=ps'.length:=by rw[I2.hy.length,length_map]
  have fin:(m=0\/ts'.length+ps'.length=0)->wq cell 26 [] ts ps=(ct,ts',ps'):=fun h=>by
   rw[<- hR];cases m with
   | zero=>rfl
   | succ m=>
    show(if ts'.length+ps'.length>0 then _ else _)=_
    rw[if_neg (by rcases h with h|h <;> omega)]
  refine⟨_,rfl,l,_,rfl,.inl (SqL.of I2.hl),_,_,rfl,rfl,_,rfl,?_⟩;by_cases h26:vs'.length<26
  rotate_left
  ·refine dF (by show ¬(vs'.length:Int)<26;omega) ?_
   refine zK ?_;exact key _ _ ⟨a',b',vs',ys',ct,ts',ps',_,_,rfl,I2,fin (.inl (by omega)),by omega,l1',l2'⟩
  refine dT (by show(vs'.length:Int)<26;omega) ?_
  refine⟨_,rfl,a',_,rfl,.inl (SqL.of I2.ha),_,rfl,b',_,rfl,.inl (SqL.of I2.hb),_,_,rfl,rfl,_,_,rfl,rfl,_,rfl,?_⟩;by_cases h0:ts'.length+ps'.length>0
  rotate_left
  ·refine dF (by rw[length_map];show ¬(0:Int)<_;omega) ?_
   exact key _ _ ⟨a',b',vs',ys',ct,ts',ps',_,_,rfl,I2,fin (.inr (by omega)),by omega,l1',l2'⟩
  refine dT (by rw[length_map];show(0:Int)<_;omega) ?_
  obtain⟨m',rfl⟩:∃m',m=m'+1:=⟨m - 1,by omega⟩
  refine⟨itW K H cell l (wq cell 26 [] ts ps) m',fun σ' H' w=>⟨m',lt_succ_self _,w⟩,?_⟩;refine⟨_,rfl,_,rfl,l,_,rfl,.inl (SqL.of I2.hl),cell,_,rfl,?_⟩;rw[lvs];have hnext:wq cell m' (ct++[(yP (xH cell ct.length) ts' ps').1]) (yP (xH cell ct.length) ts' ps').2.1 (yP (xH cell ct.length) ts' ps').2.2=wq cell 26 [] ts ps:=by
   rw[<- hR];show _=(if ts'.length+ps'.length>0 then _ else _)
   rw[if_pos h0]
  generalize xH cell (ct.length:Int)=mm at hnext |-;refine⟨_,rfl,_,_,rfl,rfl,⟨by decide,by decide⟩,_,_,rfl,rfl,zp4,?_⟩
  have q0 : 0<=mm / 4 % 4:=emod_nonneg _ (by decide)
  have q1:mm / 4 % 4<4:=emod_lt_of_pos _ (by decide)
  have r0 : 0<=mm % 4:=emod_nonneg _ (by decide)
  have r1:mm % 4<4:=emod_lt_of_pos _ (by decide)
  dsimp only[yr];generalize hq:mm / 4 % 4=qq at q0 q1 |-;obtain⟨n,rfl⟩:=eq_ofNat_of_zero_le q0;refine⟨_,rfl,_,_,rfl,rfl,zp4,rfl,_,rfl,?_⟩;by_cases m0:mm % 4=0
  ·refine dT (congrArg V.int m0) ?_
   refine⟨_,rfl,zz0,fun e0 he0=>?_⟩;have s3:=zb he0 (.lst []);have g3:upd H2 e0 (.lst []) e0=some (.lst []):=za;generalize upd H2 e0 (.lst [])=H3 at s3 g3 |-;have I3:=I2.same s3;by_cases ht:ts'=[]
   ·refine .inl ⟨a',e0,0,.lst [],fun _=>True,fun _=>True,rfl,rfl,by decide,zA.lst True.intro I3.ha (by rw[ht];exact .nil),zA.lst True.intro g3 .nil,_,rfl,?_⟩
    refine zK ?_;refine⟨_,rfl,_,_,rfl,rfl,zp4,rfl,_,rfl,?_⟩;refine dF (fun e=>by have:=V.int.inj e;omega) ?_
    refine⟨_,rfl,_,_,rfl,rfl,zp4,rfl,_,rfl,?_⟩;refine dF (fun e=>by have:=V.int.inj e;omega) ?_
    refine zK ?_;have es:yP mm ts' ps'=(.book (ps'.take n),ts',ps'.drop n):=by unfold yP;rw[hq,toNat_natCast,if_neg (fun h=>h.2 ht),if_neg (by omega),if_neg (fun h=>by omega)]
    refine⟨_,rfl,.inl ⟨rfl,_,SqL.of I3.hl⟩,_,rfl,_,rfl,_,rfl,b',_,rfl,SqL.of I3.hb,fun p hp=>?_⟩;rw[y7];have r1:=zb hp (.lst (ys'.take n));have e1:upd H3 p (.lst (ys'.take n)) p=some (.lst (ys'.take n)):=za;have np:p≠l:=(zd I3.hl hp).symm;have np0:H p=none:=I3.sm.free hp;have J1:=I3.same r1;generalize upd H3 p (.lst (ys'.take n))=G1 at r1 e1 J1 |-;refine⟨zz2,fun u hu=>?_⟩;have r2:=zb hu (.tup [.str "book",.ref p]);have e2:upd G1 u (.tup [.str "book",.ref p]) u=some (.tup [.str "book",.ref p]):=za;have J2:=J1.same r2;have e3:=r2 _ _ e1;generalize upd G1 u (.tup [.str "book",.ref p])=G2 at r2 e2 J2 e3 |-;refine⟨l,_,_,rfl,rfl,J2.hl,zE (by omega),?_⟩
    have J3:=J2.push (x:=.ref u) (it:=.book (ps'.take n)) (.tup (SqT.of e2) (.cons .str (.cons (.lst ⟨np,np0⟩ e3 (by rw[map_take];exact w6 J2.hy n)) .nil)))
    show wn _ _ _ _ (upd G2 l (.lst (vs'++[.ref u])));generalize upd G2 l (.lst (vs'++[.ref u]))=G3 at J3 |-;refine⟨_,rfl,_,rfl,_,rfl,b',_,rfl,SqL.of J3.hb,fun p2 hp2=>?_⟩;rw[y8];have r4:=zb hp2 (.lst (ys'.drop n));have J4:=(J3.same r4).setB (b':=p2) (ys':=ys'.drop n) (ps':=ps'.drop n) za (by rw[map_drop];exact w9 (J3.same r4).hy n) (zd J3.hl hp2).symm
    exact⟨a',p2,_,_,_,ts',ps'.drop n,_,_,rfl,J4,by rw[length_append,length_singleton];omega,by rw[<- hnext,es],l1',by rw[length_drop];omega⟩
   ·have tne:(ts'.map V.int).length≠([]:List V).length:=fun e=>ht (List.eq_nil_of_length_eq_zero (by simpa using e))
    refine .inr ⟨a',e0,_,_,rfl,rfl,I3.ha,g3,tne,_,rfl,?_⟩;refine yY ?_;cases ts' with
    | nil=>exact absurd rfl ht
    | cons x ts'=>
    have es:yP mm (x::ts') ps'=(.one x,ts',ps'):=by unfold yP;rw[if_pos ⟨m0,ht⟩];rfl
    refine⟨_,rfl,.inl ⟨rfl,_,SqL.of I3.hl⟩,_,rfl,a',_,0,.int x,rfl,rfl,SqL.of I3.ha,yJ (j:=0) rfl,zz2,fun u hu=>?_⟩;have r2:=zb hu (.tup [.str "one",.int x]);have e2:upd H3 u (.tup [.str "one",.int x]) u=some (.tup [.str "one",.int x]):=za;have J2:=I3.same r2;generalize upd H3 u (.tup [.str "one",.int x])=G2 at r2 e2 J2 |-;refine⟨l,_,_,rfl,rfl,J2.hl,zE (by omega),?_⟩
    have J3:=J2.push (x:=.ref u) (it:=.one x) (.tup (SqT.of e2) (.cons .str (.cons .int .nil)));show wn _ _ _ _ (upd G2 l (.lst (vs'++[.ref u])));generalize upd G2 l (.lst (vs'++[.ref u]))=G3 at J3 |-;refine⟨_,rfl,_,rfl,a',_,rfl,SqL.of J3.ha,fun p2 hp2=>?_⟩;rw[show wu ((x::ts').map V.int) (some 1) none=ts'.map V.int from y8 (n:=1)];have r4:=zb hp2 (.lst (ts'.map V.int));have J4:=(J3.same r4).setA (a':=p2) (ts':=ts') za (zd J3.hl hp2).symm;exact⟨p2,b',_,_,_,ts',ps',_,_,rfl,J4,by rw[length_append,length_singleton];omega,by rw[<- hnext,es],by rw[length_cons] at l1';omega,l2'⟩
  refine dF (fun e=>m0 (V.int.inj e)) ?_;refine zK ?_;refine⟨_,rfl,_,_,rfl,rfl,zp4,rfl,_,rfl,?_⟩;by_cases m1:mm % 4=1
  ·refine dT (congrArg V.int m1) ?_
   have es:yP mm ts' ps'=(.row (ts'.take n),ts'.drop n,ps'):=by unfold yP;rw[hq,toNat_natCast,if_neg (fun h=>m0 h.1),if_pos m1]
   refine⟨_,rfl,.inl ⟨rfl,_,SqL.of I2.hl⟩,_,rfl,_,rfl,_,rfl,a',_,rfl,SqL.of I2.ha,fun p hp=>?_⟩;rw[y7,<- map_take];have r1:=zb hp (.lst ((ts'.take n).map V.int));have e1:upd H2 p (.lst ((ts'.take n).map V.int)) p=some (.lst ((ts'.take n).map V.int)):=za;have np:p≠l:=(zd I2.hl hp).symm;have np0:H p=none:=I2.sm.free hp;have J1:=I2.same r1;generalize upd H2 p (.lst ((ts'.take n).map V.int))=G1 at r1 e1 J1 |-;refine⟨zz2,fun u hu=>?_⟩;have r2:=zb hu (.tup [.str "row",.ref p]);have e2:upd G1 u (.tup [.str "row",.ref p]) u=some (.tup [.str "row",.ref p]):=za;have J2:=J1.same r2;have e3:=r2 _ _ e1;generalize upd G1 u (.tup [.str "row",.ref p])=G2 at r2 e2 J2 e3 |-;refine⟨l,_,_,rfl,rfl,J2.hl,zE (by omega),?_⟩
   have J3:=J2.push (x:=.ref u) (it:=.row (ts'.take n)) (.tup (SqT.of e2) (.cons .str (.cons (.lst ⟨np,np0⟩ e3 (wl _)) .nil)));show wn _ _ _ _ (upd G2 l (.lst (vs'++[.ref u])));generalize upd G2 l (.lst (vs'++[.ref u]))=G3 at J3 |-;refine⟨_,rfl,_,rfl,_,rfl,a',_,rfl,SqL.of J3.ha,fun p2 hp2=>?_⟩;rw[y8,<- map_drop];have r4:=zb hp2 (.lst ((ts'.drop n).map V.int));have J4:=(J3.same r4).setA (a':=p2) (ts':=ts'.drop n) za (zd J3.hl hp2).symm;exact⟨p2,b',_,_,_,ts'.drop n,ps',_,_,rfl,J4,by rw[length_append,length_singleton];omega,by rw[<- hnext,es],by rw[length_drop];omega,l2'⟩
  refine dF (fun e=>m1 (V.int.inj e)) ?_;refine⟨_,rfl,_,_,rfl,rfl,zp4,rfl,_,rfl,?_⟩;by_cases m2:mm % 4=2
  ·refine dT (congrArg V.int m2) ?_
   refine⟨_,rfl,zz0,fun e0 he0=>?_⟩;have s3:=zb he0 (.lst []);have g3:upd H2 e0 (.lst []) e0=some (.lst []):=za;generalize upd H2 e0 (.lst [])=H3 at s3 g3 |-;have I3:=I2.same s3;by_cases hp0:ps'=[]
   ·have hy0:ys'=[]:=List.eq_nil_of_length_eq_zero (by rw[lys,hp0];rfl)
    refine .inl ⟨b',e0,0,.lst [],fun _=>True,fun _=>True,rfl,rfl,by decide,zA.lst True.intro I3.hb (by rw[hy0];exact .nil),zA.lst True.intro g3 .nil,_,rfl,?_⟩
    refine zK ?_;have es:yP mm ts' ps'=(.book (ps'.take n),ts',ps'.drop n):=by unfold yP;rw[hq,toNat_natCast,if_neg (fun h=>m0 h.1),if_neg m1,if_neg (fun h=>h.2 hp0)]
    refine⟨_,rfl,.inl ⟨rfl,_,SqL.of I3.hl⟩,_,rfl,_,rfl,_,rfl,b',_,rfl,SqL.of I3.hb,fun p hp=>?_⟩;rw[y7];have r1:=zb hp (.lst (ys'.take n));have e1:upd H3 p (.lst (ys'.take n)) p=some (.lst (ys'.take n)):=za;have np:p≠l:=(zd I3.hl hp).symm;have np0:H p=none:=I3.sm.free hp;have J1:=I3.same r1;generalize upd H3 p (.lst (ys'.take n))=G1 at r1 e1 J1 |-;refine⟨zz2,fun u hu=>?_⟩;have r2:=zb hu (.tup [.str "book",.ref p]);have e2:upd G1 u (.tup [.str "book",.ref p]) u=some (.tup [.str "book",.ref p]):=za;have J2:=J1.same r2;have e3:=r2 _ _ e1;generalize upd G1 u (.tup [.str "book",.ref p])=G2 at r2 e2 J2 e3 |-;refine⟨l,_,_,rfl,rfl,J2.hl,zE (by omega),?_⟩
    have J3:=J2.push (x:=.ref u) (it:=.book (ps'.take n)) (.tup (SqT.of e2) (.cons .str (.cons (.lst ⟨np,np0⟩ e3 (by rw[map_take];exact w6 J2.hy n)) .nil)))
    show wn _ _ _ _ (upd G2 l (.lst (vs'++[.ref u])));generalize upd G2 l (.lst (vs'++[.ref u]))=G3 at J3 |-;refine⟨_,rfl,_,rfl,_,rfl,b',_,rfl,SqL.of J3.hb,fun p2 hp2=>?_⟩;rw[y8];have r4:=zb hp2 (.lst (ys'.drop n));have J4:=(J3.same r4).setB (b':=p2) (ys':=ys'.drop n) (ps':=ps'.drop n) za (by rw[map_drop];exact w9 (J3.same r4).hy n) (zd J3.hl hp2).symm
    exact⟨a',p2,_,_,_,ts',ps'.drop n,_,_,rfl,J4,by rw[length_append,length_singleton];omega,by rw[<- hnext,es],l1',by rw[length_drop];omega⟩
   ·have tne:ys'.length≠([]:List V).length:=fun e=>hp0 (List.eq_nil_of_length_eq_zero (by rw[<- lys];exact e))
    refine .inr ⟨b',e0,_,_,rfl,rfl,I3.hb,g3,tne,_,rfl,?_⟩;refine yY ?_;cases ps' with
    | nil=>exact absurd rfl hp0
    | cons x ps'=>
    have es:yP mm ts' (x::ps')=(.named x.1 x.2,ts',ps'):=by unfold yP;rw[if_neg (fun h=>m0 h.1),if_neg m1,if_pos ⟨m2,hp0⟩];rfl
    have hy3:=I3.hy;cases ys' with
    | nil=>cases hy3
    | cons y ys'=>
    cases hy3 with
    | cons hy1 hyr=>
    obtain⟨pb,rfl,hpb⟩:=vS hy1;refine⟨_,rfl,.inl ⟨rfl,_,SqL.of I3.hl⟩,_,rfl,b',_,0,.ref pb,rfl,rfl,SqL.of I3.hb,yJ (j:=0) rfl,pb,_,0,.str x.1,rfl,rfl,hpb,rfl,_,rfl,b',_,0,.ref pb,rfl,rfl,SqL.of I3.hb,yJ (j:=0) rfl,pb,_,1,.int x.2,rfl,rfl,hpb,rfl,zz3,fun u hu=>?_⟩;have r2:=zb hu (.tup [.str "named",.str x.1,.int x.2]);have e2:upd H3 u (.tup [.str "named",.str x.1,.int x.2]) u=some (.tup [.str "named",.str x.1,.int x.2]):=za;have J2:=I3.same r2;generalize upd H3 u (.tup [.str "named",.str x.1,.int x.2])=G2 at r2 e2 J2 |-;refine⟨l,_,_,rfl,rfl,J2.hl,zE (by omega),?_⟩
    have J3:=J2.push (x:=.ref u) (it:=.named x.1 x.2) (.tup (SqT.of e2) (.cons .str (.cons .str (.cons .int .nil))));show wn _ _ _ _ (upd G2 l (.lst (vs'++[.ref u])));generalize upd G2 l (.lst (vs'++[.ref u]))=G3 at J3 |-;refine⟨_,rfl,_,rfl,b',_,rfl,SqL.of J3.hb,fun p2 hp2=>?_⟩;rw[show wu (V.ref pb::ys') (some 1) none=ys' from y8 (n:=1)];have r4:=zb hp2 (.lst ys');have hy4:=(J3.same r4).hy;have J4:=(J3.same r4).setB (b':=p2) (ys':=ys') (ps':=ps') za (by cases hy4 with|cons _ r=>exact r) (zd J3.hl hp2).symm
    exact⟨a',p2,_,_,_,ts',ps',_,_,rfl,J4,by rw[length_append,length_singleton];omega,by rw[<- hnext,es],l1',by rw[length_cons] at l2';omega⟩
  refine dF (fun e=>m2 (V.int.inj e)) ?_;refine zK ?_;have es:yP mm ts' ps'=(.book (ps'.take n),ts',ps'.drop n):=by unfold yP;rw[hq,toNat_natCast,if_neg (fun h=>m0 h.1),if_neg m1,if_neg (fun h=>m2 h.1)]
  refine⟨_,rfl,.inl ⟨rfl,_,SqL.of I2.hl⟩,_,rfl,_,rfl,_,rfl,b',_,rfl,SqL.of I2.hb,fun p hp=>?_⟩;rw[y7];have r1:=zb hp (.lst (ys'.take n));have e1:upd H2 p (.lst (ys'.take n)) p=some (.lst (ys'.take n)):=za;have np:p≠l:=(zd I2.hl hp).symm;have np0:H p=none:=I2.sm.free hp;have J1:=I2.same r1;generalize upd H2 p (.lst (ys'.take n))=G1 at r1 e1 J1 |-;refine⟨zz2,fun u hu=>?_⟩;have r2:=zb hu (.tup [.str "book",.ref p]);have e2:upd G1 u (.tup [.str "book",.ref p]) u=some (.tup [.str "book",.ref p]):=za;have J2:=J1.same r2;have e3:=r2 _ _ e1;generalize upd G1 u (.tup [.str "book",.ref p])=G2 at r2 e2 J2 e3 |-;refine⟨l,_,_,rfl,rfl,J2.hl,zE (by omega),?_⟩
  have J3:=J2.push (x:=.ref u) (it:=.book (ps'.take n)) (.tup (SqT.of e2) (.cons .str (.cons (.lst ⟨np,np0⟩ e3 (by rw[map_take];exact w6 J2.hy n)) .nil)))
  show wn _ _ _ _ (upd G2 l (.lst (vs'++[.ref u])));generalize upd G2 l (.lst (vs'++[.ref u]))=G3 at J3 |-;refine⟨_,rfl,_,rfl,_,rfl,b',_,rfl,SqL.of J3.hb,fun p2 hp2=>?_⟩;rw[y8];have r4:=zb hp2 (.lst (ys'.drop n));have J4:=(J3.same r4).setB (b':=p2) (ys':=ys'.drop n) (ps':=ps'.drop n) za (by rw[map_drop];exact w9 (J3.same r4).hy n) (zd J3.hl hp2).symm
  exact⟨a',p2,_,_,_,ts',ps'.drop n,_,_,rfl,J4,by rw[length_append,length_singleton];omega,by rw[<- hnext,es],l1',by rw[length_drop];omega⟩
 rintro σ2 H2 ⟨a',b',vs',ys',ct,ts',ps',v4,v5,rfl,I2,hR,l26,l1',l2'⟩;have lvs:vs'.length=ct.length:=by rw[I2.hv.length,length_map]
 have lys:ys'.length=ps'.length:=by rw[I2.hy.length,length_map]
 have eI:vI cell ts ps=zbc (ct,ts',ps'):=by unfold vI;rw[hR]
 refine⟨_,rfl,a',_,rfl,.inl (SqL.of I2.ha),_,rfl,b',_,rfl,.inl (SqL.of I2.hb),_,_,rfl,rfl,_,_,rfl,rfl,_,rfl,?_⟩;by_cases h0:ts'.length+ps'.length>0
 rotate_left
 ·refine dF (by rw[length_map];show ¬(0:Int)<_;omega) ?_
  refine⟨_,rfl,q l vs' H2 I2.sm I2.nl I2.hl ?_⟩;rw[eI];unfold zbc;rw[if_neg h0];exact I2.hv
 refine dT (by rw[length_map];show(0:Int)<_;omega) ?_
 have c1:wu (ts'.map V.int) none (some 30)=(ts'.take 30).map V.int:=by rw[map_take];exact y7 (n:=30)
 have c2:wu (ts'.map V.int) (some 30) none=(ts'.drop 30).map V.int:=by rw[map_drop];exact y8 (n:=30)
 have c3:wu ys' none (some 30)=ys'.take 30:=y7 (n:=30);have c4:wu ys' (some 30) none=ys'.drop 30:=y8 (n:=30);refine⟨_,rfl,_,rfl,_,rfl,a',_,rfl,SqL.of I2.ha,fun p1 hp1=>?_⟩;rw[c1];have r1:=zb hp1 (.lst ((ts'.take 30).map V.int));have e1:upd H2 p1 (.lst ((ts'.take 30).map V.int)) p1=some (.lst ((ts'.take 30).map V.int)):=za;have n1:p1≠l/\H p1=none:=⟨(zd I2.hl hp1).symm,I2.sm.free hp1⟩;have I1a:=I2.same r1;generalize upd H2 p1 (.lst ((ts'.take 30).map V.int))=H1a at r1 e1 I1a |-;refine⟨zz2,fun u1 hu1=>?_⟩;have t1:=zb hu1 (.tup [.str "row",.ref p1]);have w1:upd H1a u1 (.tup [.str "row",.ref p1]) u1=some (.tup [.str "row",.ref p1]):=za;have e1:=t1 _ _ e1;have I1b:=I1a.same t1;generalize upd H1a u1 (.tup [.str "row",.ref p1])=H1b at t1 e1 w1 I1b |-;refine⟨_,rfl,_,rfl,a',_,rfl,SqL.of I1b.ha,fun p2 hp2=>?_⟩;rw[c2];have r2:=zb hp2 (.lst ((ts'.drop 30).map V.int));have e2:upd H1b p2 (.lst ((ts'.drop 30).map V.int)) p2=some (.lst ((ts'.drop 30).map V.int)):=za;have n2:p2≠l/\H p2=none:=⟨(zd I1b.hl hp2).symm,I1b.sm.free hp2⟩;have I2a:=I1b.same r2;generalize upd H1b p2 (.lst ((ts'.drop 30).map V.int))=H2a at r2 e2 I2a |-;refine⟨zz2,fun u2 hu2=>?_⟩;have t2:=zb hu2 (.tup [.str "row",.ref p2]);have w2:upd H2a u2 (.tup [.str "row",.ref p2]) u2=some (.tup [.str "row",.ref p2]):=za;have e2:=t2 _ _ e2;have I2b:=I2a.same t2;generalize upd H2a u2 (.tup [.str "row",.ref p2])=H2b at t2 e2 w2 I2b |-;refine⟨_,rfl,_,rfl,b',_,rfl,SqL.of I2b.hb,fun p3 hp3=>?_⟩;rw[c3];have r3:=zb hp3 (.lst (ys'.take 30));have e3:upd H2b p3 (.lst (ys'.take 30)) p3=some (.lst (ys'.take 30)):=za;have n3:p3≠l/\H p3=none:=⟨(zd I2b.hl hp3).symm,I2b.sm.free hp3⟩;have I3a:=I2b.same r3;generalize upd H2b p3 (.lst (ys'.take 30))=H3a at r3 e3 I3a |-;refine⟨zz2,fun u3 hu3=>?_⟩;have t3:=zb hu3 (.tup [.str "book",.ref p3]);have w3:upd H3a u3 (.tup [.str "book",.ref p3]) u3=some (.tup [.str "book",.ref p3]):=za;have e3:=t3 _ _ e3;have I3b:=I3a.same t3;generalize upd H3a u3 (.tup [.str "book",.ref p3])=H3b at t3 e3 w3 I3b |-;refine⟨_,rfl,_,rfl,b',_,rfl,SqL.of I3b.hb,fun p4 hp4=>?_⟩;rw[c4];have r4:=zb hp4 (.lst (ys'.drop 30));have e4:upd H3b p4 (.lst (ys'.drop 30)) p4=some (.lst (ys'.drop 30)):=za;have n4:p4≠l/\H p4=none:=⟨(zd I3b.hl hp4).symm,I3b.sm.free hp4⟩;have I4a:=I3b.same r4;generalize upd H3b p4 (.lst (ys'.drop 30))=H4a at r4 e4 I4a |-;refine⟨zz2,fun u4 hu4=>?_⟩;have t4:=zb hu4 (.tup [.str "book",.ref p4]);have w4:upd H4a u4 (.tup [.str "book",.ref p4]) u4=some (.tup [.str "book",.ref p4]):=za;have e4:=t4 _ _ e4;have I4b:=I4a.same t4;generalize upd H4a u4 (.tup [.str "book",.ref p4])=H4b at t4 e4 w4 I4b |-;have z4:zo H4b H4b:=zo.refl _;have z3:zo H3b H4b:=r4.trans t4;have z2:zo H2b H4b:=r3.trans (t3.trans z3);have z1:zo H1b H4b:=r2.trans (t2.trans z2);have hfour:Paired (zA K (fun x=>x≠l/\H x=none) H4b 3) [.ref u1,.ref u2,.ref u3,.ref u4] (([.row (ts'.take 30),.row (ts'.drop 30),.book (ps'.take 30),.book (ps'.drop 30)]:List yZ).map wg):=by
  refine .cons (.tup (SqT.of (z1 _ _ w1)) (.cons .str (.cons (.lst n1 (z1 _ _ e1) (wl _)) .nil))) (.cons (.tup (SqT.of (z2 _ _ w2)) (.cons .str (.cons (.lst n2 (z2 _ _ e2) (wl _)) .nil))) (.cons (.tup (SqT.of (z3 _ _ w3)) (.cons .str (.cons (.lst n3 (z3 _ _ e3) ?_) .nil))) (.cons (.tup (SqT.of w4) (.cons .str (.cons (.lst n4 e4 ?_) .nil))) .nil)))
  ·rw[map_take];exact w6 I4b.hy 30
  ·rw[map_drop];exact w9 I4b.hy 30
 refine⟨(by show 4<=sizeLine;decide),fun l4 hl4=>?_⟩
 have s5:=zb hl4 (.lst [.ref u1,.ref u2,.ref u3,.ref u4]);have g5:upd H4b l4 (.lst [.ref u1,.ref u2,.ref u3,.ref u4]) l4=some (.lst [.ref u1,.ref u2,.ref u3,.ref u4]):=za;have I5:=I4b.same s5;have hf5:=Paired.imp' (fun _ _ z=>zA.same s5 z) hfour;generalize upd H4b l4 (.lst [.ref u1,.ref u2,.ref u3,.ref u4])=H5 at s5 g5 I5 hf5 |-;refine⟨l,l4,_,_,rfl,rfl,I5.hl,g5,zZ (by show vs'.length+4<=1000;omega),fun r hr'=>?_⟩
 have s6:=zb hr' (.lst (vs'++[.ref u1,.ref u2,.ref u3,.ref u4]));refine⟨_,rfl,q r _ _ (I5.sm.trans s6) (I5.sm.free hr') za ?_⟩;rw[eI];unfold zbc;rw[if_pos h0];show Paired _ _ ((ct++_).map wg);rw[map_append];have nr:∀b,(b≠l/\H b=none)->H5 b≠none->b≠r/\H b=none:=fun b o e=>⟨fun z=>e (by rw[z];exact hr'),o.2⟩
 exact xh (Paired.imp' (fun _ _ z=>(wW nr z).same s6) I5.hv) (Paired.imp' (fun _ _ z=>(wW nr z).same s6) hf5)
end
def zgV(cell:Int):List Int:=(List.range (cell % 9).toNat).map fun (k:Nat)=>xC cell (k:Int)
def zdK(more:Int) (pool:List Str) (span:Nat) (k:Nat):Str:=pool.getD (xH more (k:Int) % (span:Int)).toNat ""
def uY(more:Int) (pool:List Str) (span:Nat):List Str:=(List.range (more % 8).toNat).map (zdK more pool span)
def zia(zs:List Str):List Str:=((zs.zipIdx).filter fun p=>decide (p.1∉zs.take p.2)).map (·.1)
def ug(more:Int) (pool:List Str) (span:Nat):List Str:=if more / 8 % 3=0 then zia (uY more pool span) else uY more pool span
def zeU(more:Int) (pool:List Str) (span:Nat):List (Str×Int):=(ug more pool span).zipIdx.map fun p=>(p.1,xC more (p.2:Int))
theorem uh(more:Int) (pool:List Str) (span:Nat):(uY more pool span).length<=7:=by
 unfold uY;rw[length_map,length_range];have h0 : 0<=more % 8:=emod_nonneg _ (by decide)
 have h1:more % 8<8:=emod_lt_of_pos _ (by decide)
 omega
theorem zgM(zs:List Str):(zia zs).length<=zs.length:=by
 unfold zia;rw[length_map];refine le_trans (length_filter_le _ _) ?_;rw[length_zipIdx];exact le_refl _
theorem j5(more:Int) (pool:List Str) (span:Nat):(ug more pool span).length<=7:=by
 unfold ug;split
 ·exact le_trans (zgM _) (uh _ _ _)
 ·exact uh _ _ _
theorem zgU(cell:Int):(zgV cell).length<=8:=by
 unfold zgV;rw[length_map,length_range];have h0 : 0<=cell % 9:=emod_nonneg _ (by decide)
 have h1:cell % 9<9:=emod_lt_of_pos _ (by decide)
 omega
theorem zgW(more:Int) (pool:List Str) (span:Nat):(zeU more pool span).length<=7:=by
 unfold zeU;rw[length_map,length_zipIdx];exact j5 _ _ _
def ziw(K:Frag):Sp:=fun vs H Q _=>∃(cell more:Int) (pa:Addr) (span:Nat) (pool:List Str),vs=[.int cell,.int more,.ref pa,.int (span:Nat)]/\H pa=some (.lst (pool.map V.str))/\0<span/\span<=pool.length/\Builtin.Int.intBits cell<=1048600/\Builtin.Int.intBits more<=1048600/\
 ∀(p:Addr) (H':Hp),zo H H'->Two K H H' p (zgV cell) (zeU more pool span)->Q (.ref p) H'
section
variable {P:Program}{w:World}{K:Frag}{mg:Str->Option Value}{base:Heap}{f:Addr}{fd:FuncData}
theorem zlP:([Str.ofString "_law_k",Str.ofString "_law_cell_here"]:List Str).Nodup:=by decide +kernel
theorem zlO:([Str.ofString "_law_k",Str.ofString "_law_more",Str.ofString "_law_pool_here",Str.ofString "_law_span"]:List Str).Nodup:=by decide +kernel
theorem zkW:([Str.ofString "_law_k",Str.ofString "_law_name",Str.ofString "_law_names"]:List Str).Nodup:=by decide +kernel
theorem zkV:([Str.ofString "_law_k",Str.ofString "_law_name",Str.ofString "_law_more"]:List Str).Nodup:=by decide +kernel
theorem zdC:zr ["_law_cell_here","_law_more","_law_pool_here","_law_span","_law_things","_law_names"] ["_law_cell_here","_law_more","_law_pool_here","_law_span"] (zi zjk):=⟨rfl,rfl,rfl,by decide +kernel,rfl,by decide +kernel,by decide +kernel⟩
theorem zjG{g1 g2:Addr}{d1 d2:FuncData}(F:Fun K "_law_any" "_law_any" zjk f fd) (U:jb mg) (cM:zG P w K mg base 1 "_law_mix" g1 d1 ["_law_cell_here","_law_k"] jD) (cT:zG P w K mg base 2 "_law_thing" g2 d2 ["_law_cell_here","_law_k"] zax):zD P w K mg base CX0 3 f fd ["_law_cell_here","_law_more","_law_pool_here","_law_span"] (ziw K):=by
 refine F.ok zdC (fun vs H Q E h=>?_) (fun cdv A outer s H vs Q E hr h=>?_)
 ·obtain⟨cell,more,pa,span,pool,rfl,_⟩:=h
  rfl
 obtain⟨cell,more,pa,span,pool,rfl,hpa,sp0,spl,b1,b2,q⟩:=h;have hr1:yo 1 _:=hr.mono (by decide)
 refine⟨_,zf (je (i:=4) ["_law_cell_here"] ["_law_k","_law_cell_here"] [none,some 0] zdC.nd rfl (Or.inl rfl) rfl ⟨rfl,rfl,rfl,rfl⟩ (xO rfl U.range (ac (zx yf (pv 0) zg) zc)) (zY 0) rfl rfl rfl
    (fun pins fp s H C=>⟨zl (i:=0) zlP rfl (Or.inl rfl) (.inr rfl),yO,cF cT hr (ac (pv 1) (ac (pv 0) zc))⟩))
  (zf (zu (i:=5) zdC.nd rfl (Or.inr rfl) (xn ["_law_span","_law_pool_here","_law_more"] ["_law_k","_law_more","_law_pool_here","_law_span"] [none,some 1,some 2,some 3] rfl ⟨rfl,rfl,rfl,rfl⟩ (xO rfl U.range (ac (zx yf (pv 1) zg) zc)) (zY 0) rfl rfl rfl
    (fun pins fp s H C=>⟨zl (i:=0) zlO rfl (Or.inl rfl) (.inr rfl),yO,zB (r:=zkD K) yF (pv 2) (zx yf (cF cM hr1 (ac (pv 1) (ac (pv 0) zc))) (pv 3)) (fun _ _=>rfl)⟩)))
  (zf (zH (zk z7 (zx yf (zx xS (pv 1) zg) zg) zg (zt _)) (ze (zu (i:=5) zdC.nd rfl (Or.inr rfl) (xn ["_law_names"] ["_law_k","_law_name","_law_names"] [none,none,some 5] rfl ⟨rfl,rfl,rfl,rfl⟩ (yH rfl U.en (ac (pv 5) zc)) (yG (K:=K) (n:=2) 0 1) rfl rfl rfl
    (fun pins fp s H C=>⟨yi rfl (zp (zl (i:=0) zkW rfl (Or.inl rfl) (.inr rfl)) (zp (zl (i:=1) zkW rfl (Or.inl rfl) (.inr rfl)) zS)),yX (zk (r:=rIn K true) vc (pv 1) (ye (r:=zkA K) yC (pv 2) yD (yp (pv 0))) (by with_unfolding_all rfl)),pv 1⟩)))) zv)
  (ze (zq (zC (ac (pv 4) (ac (xn ["_law_more"] ["_law_k","_law_name","_law_more"] [none,none,some 1] rfl ⟨rfl,rfl,rfl,rfl⟩ (yH rfl U.en (ac (pv 5) zc)) (yG (K:=K) (n:=2) 0 1) rfl rfl rfl
    (fun pins fp s H C=>⟨yi rfl (zp (zl (i:=0) zkV rfl (Or.inl rfl) (.inr rfl)) (zp (zl (i:=1) zkV rfl (Or.inl rfl) (.inr rfl)) zS)),yO,zC (ac (pv 1) (ac (cF cT hr (ac (pv 2) (ac (pv 0) zc))) zc))⟩)) zc))))))),?_⟩
 have c0 : 0<=cell % 9:=emod_nonneg _ (by decide)
 have c1:cell % 9<9:=emod_lt_of_pos _ (by decide)
 have m0 : 0<=more % 8:=emod_nonneg _ (by decide)
 have m1:more % 8<8:=emod_lt_of_pos _ (by decide)
 refine⟨_,rfl,_,_,rfl,rfl,(by show(0:Int)<9;decide),cell % 9,rfl,by omega,by omega,fun D1 hD1=>?_⟩
 refine wR (n:=(cell % 9).toNat) (fun i ys H'=>zo H H'/\H' D1=some (.lst ys)/\ys=((List.range i).map fun (k:Nat)=>xC cell (k:Int)).map V.int) ⟨zb hD1 _,za,rfl⟩ ?_ ?_
 ·rintro i ys H' hi ⟨sH,hDy,ey⟩
  refine⟨fun _=>?_,fun e=>Bool.noConfusion e⟩;refine⟨_,rfl,_,rfl,cell,_,rfl,b1,?_⟩;refine lcN.mk hi (zZ (by omega)) hDy (by rw[ey,length_map,length_map,length_range];exact le_refl _) ⟨fun b' u e=>by rw[zh (zd e hD1)];exact sH _ _ e,za,?_⟩
  rw[ey,range_succ,map_append,map_append,Int.zero_add];rfl
 rintro ys1 H1 ⟨s1,hD1v,ey1⟩;have hD1v:H1 D1=some (.lst ((zgV cell).map V.int)):=by rw[hD1v,ey1];rfl
 clear ey1;refine⟨_,rfl,_,_,rfl,rfl,zp8,more % 8,rfl,by omega,by omega,fun D2 hD2=>?_⟩
 have hpa1:=s1 _ _ hpa;refine wR (n:=(more % 8).toNat) (fun i ys H'=>zo H1 H'/\H' D2=some (.lst ys)/\ys=((List.range i).map (zdK more pool span)).map V.str) ⟨zb hD2 _,za,rfl⟩ ?_ ?_
 ·rintro i ys H' hi ⟨sH,hDy,ey⟩
  refine⟨fun _=>?_,fun e=>Bool.noConfusion e⟩;have d0 : 0<=xH more ((0:Int)+(i:Int)) % (span:Int):=emod_nonneg _ (by omega)
  have d1:xH more ((0:Int)+(i:Int)) % (span:Int)<(span:Int):=emod_lt_of_pos _ (by omega)
  obtain⟨j,hj⟩:=eq_ofNat_of_zero_le d0;have hjl:j<pool.length:=by omega
  have en:zdK more pool span i=pool[j]:=by
   unfold zdK;rw[Int.zero_add] at hj;rw[hj,toNat_natCast,getD_eq_getElem?_getD,getElem?_eq_getElem hjl];rfl
  refine⟨_,rfl,_,rfl,_,rfl,more,_,rfl,_,rfl,_,_,rfl,rfl,(by omega),pa,_,_,.str pool[j],rfl,rfl,SqL.of (sH _ _ hpa1),(by rw[hj];exact yJ (by rw[getElem?_map,getElem?_eq_getElem hjl];rfl)),?_⟩
  refine lcN.mk hi (zZ (by omega)) hDy (by rw[ey,length_map,length_map,length_range];exact le_refl _) ⟨fun b' u e=>by rw[zh (zd e hD2)];exact sH _ _ e,za,?_⟩
  rw[ey,range_succ,map_append,map_append,<- en];rfl
 rintro ys2 H2 ⟨s2,hD2v,ey2⟩;have hD2v:H2 D2=some (.lst ((uY more pool span).map V.str)):=by rw[hD2v,ey2];rfl
 clear ey2;have ln1:=uh more pool span;dsimp only[yr];refine yv (fun σ' H'=>∃D3,σ'=[some (.int cell),some (.int more),some (.ref pa),some (.int (span:Nat)),some (.ref D1),some (.ref D3)]/\zo H2 H'/\H1 D3=none/\H' D3=some (.lst ((ug more pool span).map V.str))) ?_ (fun key=>?_);rotate_left
 ·refine⟨_,rfl,_,_,rfl,rfl,⟨by decide,by decide⟩,_,_,rfl,rfl,(by show(0:Int)<3;decide),rfl,_,rfl,?_⟩
  by_cases h3:more / 8 % 3=0
  ·refine dT (congrArg V.int h3) ?_
   refine⟨_,rfl,D2,rfl,⟨_,SqL.of hD2v⟩,fun D3 hD3=>?_⟩;generalize hz:uY more pool span=zs at hD2v ln1;refine jt (K:=K) (xs:=zs.map V.str) zs.zipIdx (fun p=>decide (p.1∉zs.take p.2)) (fun p=>V.str p.1) hD3 (SqL.of hD2v) (by rw[length_map,length_zipIdx]) (by rw[length_map];omega) ?_ ?_
   ·rintro i x y p H' N S hx hy hp sH qN qS
    obtain⟨z,hz',rfl⟩:=strs_at hx;rw[getElem?_zipIdx,hz'] at hy;cases hy;have sp:=zb hp (.tup [.int (i:Nat),.str z]);have hD2':=sp _ _ (sH _ _ hD2v);refine⟨p,_,rfl,SqT.of za,rfl,_,_,rfl,_,_,rfl,rfl,?_⟩;generalize upd H' p (.tup [.int (i:Nat),.str z])=H3 at sp hD2' |-;refine⟨_,rfl,_,rfl,_,rfl,_,rfl,D2,_,rfl,SqL.of hD2',fun l hl=>?_⟩;rw[y7,<- map_take];have s4:=zb hl (.lst ((zs.take i).map V.str));refine⟨l,_,rfl,.inl (SqL.of za),rfl,xZ,_,rfl,?_⟩;have sp4:=sp.trans s4;generalize upd H3 l (.lst ((zs.take i).map V.str))=H4 at s4 sp4 |-;rw[if_pos rfl,vi];refine⟨fun e=>⟨_,rfl,qN _ sp4 ?_⟩,fun e=>qS _ sp4 ?_⟩
    ·show decide (z∉zs.take (0+i))=true
     rw[Nat.zero_add];rw[Bool.not_eq_true',decide_eq_false_iff_not] at e;exact decide_eq_true e
    ·show decide (z∉zs.take (0+i))=false
     rw[Nat.zero_add];rw[Bool.not_eq_false',decide_eq_true_eq] at e;exact decide_eq_false fun h=>h e
   ·intro H' sH hDv
    refine key _ _ ⟨D3,rfl,sH,s2.free hD3,?_⟩;rw[hDv];unfold ug;rw[if_pos h3,hz];unfold zia;rw[map_map];rfl
  ·refine dF (fun e=>h3 (V.int.inj e)) ?_
   refine key _ _ ⟨D2,rfl,zo.refl _,hD2,?_⟩;rw[hD2v];unfold ug;rw[if_neg h3]
 rintro σ3 H3 ⟨D3,rfl,s3,nD3,hD3v⟩;have ln2:=j5 more pool span;refine⟨_,rfl,_,rfl,D3,rfl,⟨_,SqL.of hD3v⟩,fun D4 hD4=>?_⟩;generalize hz:ug more pool span=zs at hD3v ln2;refine zbN (K:=K) (m:=1) (xs:=zs.map V.str) (fun i=>yQ (zs.getD i "",xC more (i:Int))) hD4 (SqL.of hD3v) (by rw[length_map];omega) (fun i x p H' Qf Qs hx hp sH qf=>?_) (fun vs H' sH hDv hp=>?_)
 ·obtain⟨z,hz',rfl⟩:=strs_at hx
  have sp:=zb hp (.tup [.int (i:Nat),.str z]);refine⟨p,_,rfl,SqT.of za,rfl,_,_,rfl,_,_,rfl,rfl,fun _=>?_,fun e=>Bool.noConfusion e⟩;generalize upd H' p (.tup [.int (i:Nat),.str z])=H4 at sp |-;refine⟨_,rfl,_,rfl,_,rfl,more,_,rfl,b2,zz2,fun u hu=>?_⟩;have s5:=zb hu (.tup [.str z,.int (xC more (i:Nat))]);refine qf _ _ (sp.trans s5) (.tup (SqT.of za) ?_);have ez:zs.getD i ""=z:=by rw[getD_eq_getElem?_getD,hz'];rfl
  rw[ez];exact .cons .str (.cons .int .nil)
 ·refine⟨zz2,fun t ht=>?_⟩
  have s5:=zb ht (.tup [.ref D1,.ref D4]);have s13:zo H1 H3:=s2.trans s3;have sA:zo H1 H':=s13.trans sH;have n14:D1≠D4:=zd (s13 _ _ hD1v) hD4;refine q t _ (s1.trans (sA.trans s5)) ⟨D1,D4,vs,hD1,s1.free (s13.free hD4),n14,s1.free (sA.free ht),za,s5 _ _ (sA _ _ hD1v),s5 _ _ hDv,?_⟩;have e:(zeU more pool span).map yQ=(List.range (zs.map V.str).length).map fun i=>yQ (zs.getD i "",xC more (i:Int)):=by
   unfold zeU;rw[hz,length_map];refine ext_getElem? fun i=>?_;rw[getElem?_map,getElem?_map,getElem?_map,getElem?_zipIdx];by_cases hi:i<zs.length
   ·rw[getElem?_range hi,getElem?_eq_getElem hi]
    show some (yQ (zs[i],xC more ((0+i:Nat):Int)))=some (yQ (zs.getD i "",_));rw[Nat.zero_add,getD_eq_getElem?_getD,getElem?_eq_getElem hi];rfl
   ·rw[getElem?_eq_none (by omega),getElem?_eq_none (by rw[length_range];omega)]
    rfl
  rw[e];exact Paired.imp' (fun _ _ z=>(wW (fun _ _ _=>True.intro) z).same s5) hp
end
end K51
namespace L2
open PySem PySem.Spec PyProof.Rows PySem.Builtin
section
variable {prog:Program}{w:World}{A:Around}{E:Value->Shared->Prop}{s:Shared}{it l ea C t:Addr}{od:Option Addr}{tb:Value}{i:Nat}{items:Array Value}{Q:Option Value->Shared->Prop}
end
section
variable {prog:Program}{w:World}{A:Around}{E:Value->Shared->Prop}{s:Shared}{ea C tt:Addr}{od:Option Addr}{tb:Value}
end
end L2
namespace L2
open PySem PySem.Spec PyProof.Rows
def zg0(lo c:Int) (n:Nat):It:=⟨fun i _=>i<n,fun i H x H'=>H'=H/\x=.int (lo+i * c),fun i _=>n<=i⟩
theorem zbb{P:Program}{w:World}{K:Frag}{tg:Expr}(it:Addr) (lo c:Int) (n:Nat):za8 P w K tg (zg0 lo c n) [it] it (fun i h=>IsRangeIter h it (lo+(i:Nat) * c) ((n:Int) - (i:Nat)) c) where
 mem:=by simp
 obj:=fun i h st b hb=>by
  have e:b=it:=by simpa using hb
  subst e;exact⟨_,st,fun v z=>by
   have z':Data.fields _=Data.cell v:=z;cases z'⟩
 keep:=fun i h h' st k=>k it (by simp) _ st
 item:=by
  intro X hP hw hK hc i pins s σ H E I hf st hg;subst hP hw hK;obtain⟨f0,f1,f2,f3,f4,f5⟩:=hf it (by simp)
  have W:=Walks.range (prog:=X.prog) (w:=X.w) (I.ok.hd hc) it lo c n;refine W.item i s _ _ hg st fun v h' tk hv st' kk=>?_;obtain⟨t,rfl⟩:=hv;have I1:Inv X pins σ H { s with heap:=h',toks:=tk }:=I.turned (fun b o hb e=>kk b o (by simpa using hb) e) f0 f1 f3 f4 f5
  exact⟨_,rfl,zdP (s:={ s with heap:=h',toks:=tk }) (n:="range_iterator") st' rfl rfl (by decide) ⟨.int (lo+i * c),H,I1,⟨t,rfl⟩,⟨rfl,rfl⟩,st',fun b hb=>(hf b hb).1⟩⟩
 done:=by
  intro X hP hw hK hc i pins s σ H E I hf st hg;subst hP hw hK;obtain⟨f0,f1,f2,f3,f4,f5⟩:=hf it (by simp)
  exact wpAny_pyNext_range_end (I.ok.hd hc) st (by have:n<=i:=hg;omega) fun h' eb=>⟨rfl,I.turned (t':=s.toks) (fun b o hb e=>eb b o hb e) f0 f1 f3 f4 f5⟩
 self:=fun _ _ _ _ _ st h=>wpAny_pyIter_rangeiter st h
def rsz(a b c:Nat):Nat:=if a<b then (b - a - 1) / c+1 else 0
theorem zfG{a b c:Nat}(hc : 0<c):Builtin.Range.rangeSize (a:Int) (b:Int) (c:Int)=(rsz a b c:Nat):=by
 unfold Builtin.Range.rangeSize rsz;rw[if_pos (by omega)]
 by_cases h:a<b
 ·rw[if_pos (by omega),if_pos h]
  have:(b:Int) - (a:Int) - 1=((b - a - 1:Nat):Int):=by omega
  rw[this];rfl
 ·rw[if_neg (by omega),if_neg h]
  rfl
theorem zjl{a b c:Nat}(hb:b<=1000):rsz a b c<=1001:=by
 unfold rsz;split
 ·have:=Nat.div_le_self (b - a - 1) c
  omega
 ·omega
theorem zbj{a b c:Nat}(ha:a<=1000) (hb:b<=1000) (hc : 0<c) (hc':c<=1000):Builtin.Range.small (a:Int) (b:Int) (c:Int)=true:=by
 unfold Builtin.Range.small;rw[zfG hc]
 have:=zjl (a:=a) (c:=c) hb
 simp only[Builtin.Range.rangeFitsLong,Bool.and_eq_true,Bool.or_eq_true,decide_eq_true_eq,beq_iff_eq,show(c:Int)>0 by omega,if_true]
 omega
section
variable {X:Cx}{tg:Expr}
def zk1(ta:TA):TI:=fun σ H R=>ta σ H fun vs H1=>∃a b c:Nat,vs=[.int (a:Nat),.int (b:Nat),.int (c:Nat)]/\a<=1000/\b<=1000/\0<c/\c<=1000/\R (zg0 (a:Nat) (c:Nat) (rsz a b c)) H1
theorem zeh{a b c:Expr}{ta:TA}{p pos:Pos}(hg:Gl X "range") (hm:X.mg "range"=none) (ha:PA X [a,b,c] ta) (hs:starEach [a,b,c] X.env=[(false,eval a X.env),(false,eval b X.env),(false,eval c X.env)]:=by rfl) (hs2:starEach [b,c] X.env=[(false,eval b X.env),(false,eval c X.env)]:=by rfl) :
  PI X tg (.Call (.Name "range" p) [a,b,c] [] pos) (zk1 ta):=by
 refine⟨?_⟩;intro pins s σ H R I h;refine Call_ (vG I hg hm boot_range (PyProof.Rows.callWith_type1 (thn (ha pos pins s σ H _ I h) fun us s1 ⟨vs,H1,I1,r1,q1⟩=>?_) (by rw[hs,hs2]) (by rw[hs2];rfl)))
 obtain⟨i,j,k,e,q1,q2,q3,q4,q⟩:=q1;subst e;cases r1 with
 | cons r rr=>
  cases rr with
  | cons r' rr=>
   cases rr with
   | cons r'' rr=>
    cases rr;obtain⟨t,rfl⟩:=r;obtain⟨t',rfl⟩:=r';obtain⟨t'',rfl⟩:=r'';refine call_range_3 (by omega) ?_ (Or.inl (PyProof.noPylong_small (by omega)))
    refine wpAny_pyIter_range (IsRange.new ..) (zbj q1 q2 q3 q4) ?_;have I2:Inv X pins σ H1 { s1 with heap:=s1.heap.push { cls:=.type "range",data:=.fields #[.int (i:Nat) t,.int (j:Nat) t',.int (k:Nat) t''] },toks:=s1.toks }:=I1.kept fun b o e=>Heap.get?_push_of_some _ e
    refine⟨(s1.heap.push { cls:=.type "range",data:=.fields #[.int (i:Nat) t,.int (j:Nat) t',.int (k:Nat) t''] }).objs.size,[(s1.heap.push { cls:=.type "range",data:=.fields #[.int (i:Nat) t,.int (j:Nat) t',.int (k:Nat) t''] }).objs.size],_,_,H1,rfl,
     I2.kept (t':=s1.toks) fun b o e=>Heap.get?_push_of_some _ e,zbb _ (i:Nat) (k:Nat) (rsz i j k),?_,fun b hb=>?_,q⟩
    ·have e1:(i:Int)+((0:Nat):Int) * (k:Int)=(i:Int):=by simp
     have e2:((rsz i j k:Nat):Int) - ((0:Nat):Int)=Builtin.Range.rangeSize (i:Int) (j:Int) (k:Int):=by rw[zfG q3];simp
     show IsRangeIter _ _ ((i:Int)+((0:Nat):Int) * (k:Int)) (((rsz i j k:Nat):Int) - ((0:Nat):Int)) (k:Int);rw[e1,e2];exact Heap.get?_push_size _ rfl
    ·have e:b=(s1.heap.push { cls:=.type "range",data:=.fields #[.int (i:Nat) t,.int (j:Nat) t',.int (k:Nat) t''] }).objs.size:=by simpa using hb
     subst e;exact I2.fpOk (le_refl _) (I2.hok.fresh (le_refl _))
end
theorem zda{lo c:Int}{n:Nat}{g:TG}{tb:TS}{D:jc}{σ : St}{H:Hp}(Pv:Nat->St->Hp->Prop) (h0:Pv 0 σ H)
  (hs:∀i σ H,i<n->Pv i σ H->g (.int (lo+i * c)) σ H fun σ2 H2=>tb { D with nx:=Pv (i+1),ct:=Pv (i+1),bk:=D.nx } σ2 H2) (hd:∀σ H,Pv n σ H->D.nx σ H) :
  ∃W:Nat->Nat->St->Hp->Prop,(∃m,W 0 m σ H)/\∀i m σ H,W i m σ H->
   ((zg0 lo c n).stop i H/\D.nx σ H)\/((zg0 lo c n).go i H/\∃N:St->Hp->Prop,(∀σ' H',N σ' H'->∃m',m'<m/\W (i+1) m' σ' H')/\∀x H',(zg0 lo c n).yld i H x H'->g x σ H' fun σ2 H2=>tb { D with nx:=N,ct:=N,bk:=D.nx } σ2 H2):=by
 refine⟨fun i m σ H=>m=n - i/\i<=n/\Pv i σ H,⟨n,by simp,zero_le _,h0⟩,?_⟩
 rintro i m σ H ⟨rfl,hi,p⟩;by_cases hlt:i<n
 ·refine .inr ⟨hlt,Pv (i+1),fun σ' H' p'=>⟨n - (i+1),by omega,rfl,hlt,p'⟩,fun x H' y=>?_⟩
  obtain⟨e,y⟩:=y;subst e y;exact hs i σ _ hlt p
 ·have e:i=n:=by omega
  subst e;exact .inl ⟨le_refl _,hd σ H p⟩
theorem zdo{α : Type}{R:Addr->α->Prop}{us:List Addr}{rows:List α}(h:Paired R us rows) (keep : α->Bool) (out : α->V):((us.zip rows).filter fun p=>keep p.2).map (fun p=>out p.2)=(rows.filter keep).map out:=by
 induction h with
 | nil=>rfl
 | cons r t ih=>
  rename_i u y us ys;rw[zip_cons_cons,filter_cons,filter_cons];cases hk:keep y with
  | true=>rw[if_pos rfl,if_pos rfl,map_cons,map_cons,ih]
  | false=>rw[if_neg Bool.false_ne_true,if_neg Bool.false_ne_true,ih]
theorem qa{α : Type}{K:Frag}{a:Addr}{us:List Addr}{rows:List α}{caps:List (Option Nat)}{g:TG}{tt:TT}{te:TE}{σ : L2.St}{H1:Hp}{Q:VK}{D:Addr}(R:Hp->Addr->α->Prop) (keep : α->Bool) (out:Addr->α->V) (hD:H1 D=none) (ha:H1 a=some (.lst (us.map V.ref))) (hu:Paired (R H1) us rows) (hn:rows.length<=1000)
  (hs:∀(i:Nat) (u:Addr) (y : α) (H:Hp) (N:VK) (S:Hp->Prop),us[i]?=some u->rows[i]?=some y->R H1 u y->zo H1 H->(∀H',zo H H'->keep y=true->N (out u y) H')->(∀H',zo H H'->keep y=false->S H')->g (.ref u) (xk caps σ) H fun σ2 H2=>tt σ2 H2 fun ok H3=>(ok=true->te σ2 H3 N)/\(ok=false->S H3))
  (hd:∀H,zo H1 H->H D=some (.lst (((us.zip rows).filter fun p=>keep p.2).map fun p=>out p.1 p.2))->Q (.ref D) H):LCr (Itl K a) caps g tt te σ H1 Q D:=by
 have hl:us.length=rows.length:=hu.length;have lz:(us.zip rows).length=rows.length:=by rw[List.length_zip,hl,Nat.min_self]
 refine zcY (K:=K) (xs:=us.map V.ref) (us.zip rows) (fun p=>keep p.2) (fun p=>out p.1 p.2) hD (SqL.of ha) (by rw[length_map,lz,hl]) (by rw[length_map,hl];exact hn) (fun i x y H N S hx hy sH n1 s1=>?_) hd
 have hi:i<rows.length:=by rw[<- lz];exact(List.getElem?_eq_some_iff.mp hy).1
 have e1:(us.zip rows)[i]?=some (us[i],rows[i]):=by
  rw[getElem?_eq_getElem (by omega),List.getElem_zip]
 rw[e1] at hy;cases hy;have hu1:us[i]?=some us[i]:=getElem?_eq_getElem (by omega)
 rw[getElem?_map,hu1] at hx;cases hx;obtain⟨d,hd',hr⟩:=Paired.get hu hu1;have e2:rows[i]?=some rows[i]:=getElem?_eq_getElem hi;rw[e2] at hd';cases hd';exact hs i us[i] rows[i] H N S hu1 e2 hr sH n1 s1
section
variable {X:Cx}{pins:List (Addr×Obj)}{σ : St}{e o:Expr}{es:List Expr}{ta:TE}{t:TA}{E:XK}{m:Str}{pos apos:Pos}{k:Nat}{f C:Addr}{fd:FuncData}{ps:List Str}{sp:Sp}
end
section
variable {X:Cx}{elts:List Expr}{x1:Nat}{tpos:Pos}
end
theorem ut{prog:Program}{w:World}{A:Around}{E:Value->Shared->Prop}{s:Shared}{b:Bool}{Q:Int->Shared->Prop}(h:Q (hashInt (if b then 1 else 0)) { s with toks:=s.toks+1 }) :
  wpAny (model prog w) A (pyHash (.bool b)) Q E s:=by
 have hr:=rawHash_range (if b then 1 else 0)
 have hT:s.TypeIs (.bool b) "bool":=rfl;unfold pyHash;have hv:[Value.bool b].any Value.onHeap=false:=rfl;refine wpAny_bind ?_;rw[cRoomFor,if_neg (by rw[hv];exact Bool.false_ne_true)];refine wpAny_pure ?_
 refine wpAny_bind (wpAny_specialOf hT PySem.F.slot_bool_hash.lookup ?_);show wpAny _ _ (if (some (Value.builtin "int.__hash__")==some Value.none)=true then _ else _) Q E s
 rw[if_neg (by rw[beq_builtin_none];exact Bool.false_ne_true)]
 refine wpAny_bind (wpAny_specialOf hT PySem.F.slot_bool_hash.lookup ?_);show wpAny _ _ (callSpecialIfBoundUnlessNone? (.bool b) "__hash__" _ >>= _) Q E s;refine wpAny_bind (wpAny_callSpecialIfBoundUnlessNone?_slot hT PySem.F.slot_bool_hash
  (wpAny_call_entry PySem.F.slot_bool_hash hT entry_int_hash
   (show wpAny _ _ (do ret (<- mkInt (rawHash (if b then 1 else 0)))) _ _ s from wpAny_ret_mkInt ?_) (args_int_hash _)))
 show wpAny _ _ (if (decide (-(2:Int) ^ 63<=rawHash (if b then 1 else 0))&&decide (rawHash (if b then 1 else 0)<2 ^ 63))=true then _ else _) Q E _
 rw[if_pos (by rw[decide_eq_true hr.1,decide_eq_true hr.2];rfl)]
 exact wpAny_pure h
abbrev SB:=Str ⊕ Bool
def sbV:SB->V
 | .inl x=>.str x
 | .inr b=>.bl b
def zkw:SB->Value->Bool
 | .inl x,.str y _=>y==x
 | .inr b,.bool c=>c==b
 | _,_=>false
theorem yW{k:SB}{v:Value}(h:zkw k v=true):(∃x t,k=.inl x/\v=.str x t)\/∃b,k=.inr b/\v=.bool b:=by
 cases k with
 | inl x=>
  cases v with
  | str y t=>
   have h':(y==x)=true:=h;exact .inl ⟨x,t,rfl,by rw[eq_of_beq h']⟩
  | _=>cases h
 | inr b=>
  cases v with
  | bool c=>
   have h':(c==b)=true:=h;exact .inr ⟨b,rfl,by rw[eq_of_beq h']⟩
  | _=>cases h
def sbH(w:World):SB->Int
 | .inl x=>hashStr w x
 | .inr b=>hashInt (if b then 1 else 0)
def xo(prog:Program) (w:World):PySem.KeyKind prog w SB where
 is:=zkw
 hash:=sbH w
 inj:=fun v a b ha hb=>by
  rcases yW ha with ⟨x,t,rfl,rfl⟩|⟨c,rfl,rfl⟩
  ·rcases yW hb with ⟨y,u,rfl,e⟩|⟨d,rfl,e⟩
   ·injection e with e1 _;rw[e1]
   ·exact nomatch e
  ·rcases yW hb with ⟨y,u,rfl,e⟩|⟨d,rfl,e⟩
   ·exact nomatch e
   ·injection e with e1;rw[e1]
 byValue:=fun k v h=>by
  rcases yW h with ⟨x,t,rfl,rfl⟩|⟨b,rfl,rfl⟩ <;> rfl
 pyHash:=fun hv h=>by
  rcases yW hv with ⟨x,t,rfl,rfl⟩|⟨b,rfl,rfl⟩
  ·exact wpAny_pyHash_str h
  ·exact ut h
 eqBool:=fun hu hv h=>by
  rcases yW hu with ⟨x,t,rfl,rfl⟩|⟨b,rfl,rfl⟩
  ·rcases yW hv with ⟨y,u,rfl,rfl⟩|⟨d,rfl,rfl⟩
   ·refine wpAny_eqBool_str ?_
    have e:decide ((Sum.inl x:SB)=Sum.inl y)=decide (x=y):=by simp
    rwa [e] at h
   ·refine SeqAt.EqAt.str_bool x t d _ _ _ _ ?_
    have e:decide ((Sum.inl x:SB)=Sum.inr d)=false:=decide_eq_false (fun q=>nomatch q)
    rwa [e] at h
  ·rcases yW hv with ⟨y,u,rfl,rfl⟩|⟨d,rfl,rfl⟩
   ·refine SeqAt.EqAt.bool_str b y u _ _ _ _ ?_
    have e:decide ((Sum.inr b:SB)=Sum.inl y)=false:=decide_eq_false (fun q=>nomatch q)
    rwa [e] at h
   ·refine SeqAt.EqAt.bool_bool b d _ _ _ _ ?_
    have e:decide ((Sum.inr b:SB)=Sum.inr d)=(b==d):=by cases b <;> cases d <;> decide
    rwa [e] at h
 «strs»:=fun k x t v h=>by
  rcases yW h with ⟨y,u,rfl,e⟩|⟨b,rfl,e⟩
  ·injection e with e1 _
   subst e1;cases v <;> rfl
  ·exact nomatch e
theorem zjb{P:Program}{w:World}{k:SB}{u:Value}(r:zL (sbV k) u):(xo P w).is k u=true:=by
 cases k with
 | inl x=>
  obtain⟨t,e⟩:=(show ∃t,u=Value.str x t from r);subst e;show(x==x)=true;exact beq_self_eq_true x
 | inr b=>
  have e:u=Value.bool b:=r;subst e;show(b==b)=true;exact beq_self_eq_true b
theorem zbn{P:Program}{w:World}:∀{ks:List SB}{us:List Value},zJ (ks.map sbV) us->ItemsAre (xo P w) ks us
 | [],_,r=>by rw[map_nil] at r;cases r;exact .nil
 | k::ks,_,r=>by
  rw[map_cons] at r;cases r with
  | cons h t=>exact .cons (zjb h) (zbn t)
theorem zcl{P:Program}{w:World}{H:Hp}{h:Heap}{a:Addr}{ks:List SB}(ok:HOk P w H h) (e:H a=some (.tup (ks.map sbV))):(tupleKind (xo P w)).is h ks a:=by
 obtain⟨_,its,r,o,h1,h2,n,h3⟩:=(show yy P w H h a (.tup (ks.map sbV)) from ok a _ e);exact⟨o,its.toArray,n,h1,h2,h3,by simpa using zbn r⟩
def dBφ (P:Program) (w:World) (a:Addr) (xs:List (List SB×Addr×Value)):Heap->Prop:=fun h=>∃o es ep,h.get? a=some o/\o.ExactDict/\o.data=.dict es ep/\es.toList=xs.map (entryOfKey (tupleKind (xo P w)))/\(xs.map (·.1)).Nodup
abbrev KB(H:Hp):List (List SB×V)->List (List SB×Addr×Value)->Prop:=Paired fun p q=>p.1=q.1/\H q.2.1=some (.tup (p.1.map sbV))/\zL p.2 q.2.2
def DB(P:Program) (w:World) (H:Hp) (a:Addr) (kvs:List (List SB×V)):Prop:=∃xs,H a=some (.ext (dBφ P w a xs))/\KB H kvs xs
theorem DB.same{P:Program}{w:World}{H H':Hp}{a:Addr}{kvs:List (List SB×V)}(h:DB P w H a kvs) (s:zo H H'):DB P w H' a kvs:=by
 obtain⟨xs,h1,h2⟩:=h;exact⟨xs,s _ _ h1,Paired.mapP h2 fun _ _ z=>⟨z.1,s _ _ z.2.1,z.2.2⟩⟩
theorem KB.val{H:Hp}{kvs:List (List SB×V)}{xs:List (List SB×Addr×Value)}(r:KB H kvs xs) (k:List SB):wS (zF kvs k) ((atKey xs k).map (·.2)):=by
 induction r with
 | nil=>exact True.intro
 | @cons p q ps qs h t ih=>
  obtain⟨h1,_,h2⟩:=h;by_cases e:p.1=k
  ·have e':q.1=k:=h1.symm.trans e
   have b:atKey (q::qs) k=some q.2:=by simp [atKey,find?_cons,e']
   rw[y0 e,b];exact h2
  ·have e':¬q.1=k:=fun z=>e (h1.trans z)
   have b:atKey (q::qs) k=atKey qs k:=by simp [atKey,find?_cons,e']
   rw[y1 e,b];exact ih
theorem KB.repl{H:Hp}{kvs:List (List SB×V)}{xs:List (List SB×Addr×Value)}(r:KB H kvs xs) (k:List SB) {y:V}{u:Value}(ry:zL y u) :
  KB H (kvs.map fun kv=>if kv.1=k then (kv.1,y) else kv) (xs.map (putAt k u)):=by
 induction r with
 | nil=>exact .nil
 | @cons p q ps qs h t ih=>
  rw[map_cons,map_cons];refine .cons ?_ ih;obtain⟨h1,h2,h3⟩:=h;unfold putAt;by_cases e:p.1=k
  ·rw[if_pos e,if_pos (h1.symm.trans e)];exact⟨h1,h2,ry⟩
  ·rw[if_neg e,if_neg (fun z=>e (h1.trans z))];exact⟨h1,h2,h3⟩
theorem KB.put{H:Hp}{kvs:List (List SB×V)}{xs:List (List SB×Addr×Value)}(r:KB H kvs xs) (k:List SB) {b:Addr}{y:V}{u:Value}(hb:H b=some (.tup (k.map sbV))) (ry:zL y u) :
  KB H (zV kvs k y) (storedH xs k b u):=by
 have e:(kvs.any fun kv=>decide (kv.1=k))=(atKey xs k).isSome:=by
  rw[wm,(r.val k).isSome_eq,isSome_map]
 unfold zV storedH;rw[e];by_cases q:(atKey xs k).isSome=true
 ·rw[if_pos q,if_pos q];exact r.repl k ry
 ·rw[if_neg q,if_neg q];exact Paired.snoc r ⟨rfl,hb,ry⟩
theorem KB.keys{P:Program}{w:World}{H:Hp}{h:Heap}(ok:HOk P w H h):∀{kvs:List (List SB×V)}{xs:List (List SB×Addr×Value)},KB H kvs xs->∀x∈xs,(tupleKind (xo P w)).is h x.1 x.2.1:=by
 intro kvs xs r;induction r with
 | nil=>intro x hx;exact nomatch hx
 | @cons p q ps qs hq t ih=>
  intro x hx;rcases List.mem_cons.mp hx with e|hx
  ·subst e
   exact zcl ok (by rw[<- hq.1];exact hq.2.1)
  ·exact ih x hx
theorem zla{P:Program}{w:World}{H:Hp}{h:Heap}{a:Addr}{xs:List (List SB×Addr×Value)}{kvs:List (List SB×V)}(ok:HOk P w H h) (e:H a=some (.ext (dBφ P w a xs))) (r:KB H kvs xs):h.DictOfH (tupleKind (xo P w)) a xs:=by
 obtain⟨⟨o,es,ep,h1,h2,h3,h4,h5⟩,_⟩:=(show yy P w H h a (.ext (dBφ P w a xs)) from ok a _ e);exact⟨o,es,ep,h1,h2,h3,h4,r.keys ok,h5⟩
theorem zez{prog:Program}{w:World}{A:Around}{E:Value->Shared->Prop}{s:Shared}{a:Addr}{o:Obj}{xs:Array Value}{k:Nat}{Q:Option Value->Shared->Prop}
  (hx:s.heap.get? a=some o) (hc:o.cls=.type "list") (hdat:o.data=.seq xs k) (hd:o.dict=none) (hA:A.handled=none)
  (h:∀h' tk,(∀b o,s.heap.get? b=some o->h'.get? b=some o)->Q none { s with heap:=h',toks:=tk }) :
  wpAny (model prog w) A (getAttr? (.ref a) "keys") Q E s:=by
 obtain⟨c,dct,dat,sl⟩:=o;simp only at hc hdat hd;subst hc hdat hd;obtain⟨hp,g,d,tk,os⟩:=s;have hT:∀tk',(⟨hp,g,d,tk',os⟩:Shared).TypeIs (.ref a) "list":=fun _=>⟨_,hx,rfl⟩;have f1:=sub_AttributeError;have f3:=F.slot_list_getattribute.lookup;have f4:=F.slot_list_getattribute.bind (.ref a);have f5:=am_list_getattr_none;have hmiss:typeLookup (.type "list") "keys"=pure none:=am_miss_of_fast (by decide +kernel)
 unfold getAttr? getAttrBy? getAttrBy
 repeat (any_goals (first|assumption|exact hT _|((with_reducible show wpAny _ _ (call (Value.builtin "list.__getattribute__") _ _) _ _ _);refine call_meets F.slot_list_getattribute (hT _) am_entry_list_getattribute (F.args_list_getattribute_2 _ _) (meets_getattribute_miss_list a xs k sl "keys" _ hmiss (by decide +kernel) (by decide +kernel)) ⟨hx,hA,fun h' tk' e hx'=>?_⟩)|wp_step))
 obtain⟨t',u',he⟩:=hx'.there;show wpAny _ _ (getattributeRaised _ _ _ _ _ _ _) _ _ _;unfold getattributeRaised
 repeat (any_goals (first|assumption|wp_step))
 exact h _ _ hx'.of.1
theorem zah:entryFor table "dict.update.loop"=some Builtin.«dict.update.loop»:=entryFor_of_tree (by kernel_rfl)
theorem vQ:plainId "dict.update.loop"=true:=by decide +kernel
abbrev PKA:=List SB×Addr×Value
def zgX(tk:Nat->PKA):Nat->Nat->List PKA->List PKA
 | _,0,xs=>xs
 | i,k+1,xs=>zgX tk (i+1) k (storedH xs (tk i).1 (tk i).2.1 (tk i).2.2)
theorem zbd(xs:List PKA) (k:List SB) (a:Addr) (v:Value):(storedH xs k a v).length<=xs.length+1:=by
 unfold storedH;split
 ·rw[length_map];omega
 ·rw[length_append,length_cons,length_nil];omega
def zca(P:Program) (w:World) (wr:List Addr) (Pr:Nat->Value->Prop) (tk:Nat->PKA) (h:Heap):Prop:=
 ∀i v,Pr i v->∃T o m,v=.ref T/\T∉wr/\h.get? T=some o/\o.cls=.type "tuple"/\o.data=.seq #[.ref (tk i).2.1,(tk i).2.2] m/\(tk i).2.1∉wr/\(tupleKind (xo P w)).is h (tk i).1 (tk i).2.1
theorem zca.keep{P:Program}{w:World}{wr:List Addr}{Pr:Nat->Value->Prop}{tk:Nat->PKA}{h h':Heap}(g:zca P w wr Pr tk h) (k:∀b o,b∉wr->h.get? b=some o->h'.get? b=some o):zca P w wr Pr tk h':=fun i v p=>by
 obtain⟨T,o,m,e,n1,h1,h2,h3,n2,o2,its,n,q1,q2,q3,q4⟩:=g i v p;exact⟨T,o,m,e,n1,k _ _ n1 h1,h2,h3,n2,o2,its,n,k _ _ n2 q1,q2,q3,q4⟩
section
variable {P:Program}{w:World}{A:Around}{R:Result->Shared->Prop}{I:Addr}{fp wr:List Addr}{G:Array GenState->Array GenState->Prop}{n:Nat}{Pr:Nat->Value->Prop}{Sg:Nat->Shared->Prop}
theorem jU(W:WalksS P w A.in1 I fp wr G n Pr Sg) (hu:A.units+2<cLine) (a:Addr) (ha:a∉fp) (tk:Nat->PKA) (hb:n<=sizeLine) :
  ∀(k i:Nat) (j:Int) (s:Shared) (xs:List PKA),n - i=k->i<=n->Sg i s->xs.length<=i->s.heap.DictOfH (tupleKind (xo P w)) a xs->zca P w (a::wr) Pr tk s.heap->(∀x∈xs,x.2.1∉a::wr)->(∀i,(tk i).2.1∉a::wr)->
   (∀s',Moved (a::wr) G s s'->s'.heap.DictOfH (tupleKind (xo P w)) a (zgX tk i k xs)->R (.ok (.ret .none)) s')->
   codeAny (model P w) A (.builtin "dict.update.loop" ⟨[.ref a,.ref I,rawInt j,.none],[]⟩) R s
 | 0,i,j,s,xs,hk,hi,hg,hc,hT,hgood,hx,htk,hR=>by
  have hw:a∉wr:=fun z=>ha (W.sub _ z);have ei:i=n:=by omega
  subst ei;refine codeAny_builtin zah ?_;rw[Around.under_plainId vQ _];show wpAny _ A.in1 (pyNext (.ref I) >>= _) _ _ _;refine wpAny_bind (W.done s _ _ hg fun s' hm=>?_);show wpAny _ A.in1 (Builtin.Dict.addKeywords a [] >>= fun _=>ret Value.none) _ _ _;refine wpAny_bind (wpAny_pure (wpAny_pure (hR s' (hm.mono fun b z=>mem_cons_of_mem _ z) ?_)));obtain⟨ob,es,ep,h1,h2,h3,h4,h5,h6⟩:=hT;refine⟨ob,es,ep,hm.heap a _ hw h1,h2,h3,h4,fun x hx'=>?_,h6⟩;obtain⟨o2,its,n,q1,q2⟩:=h5 x hx';exact⟨o2,its,n,hm.heap _ _ (fun z=>hx x hx' (mem_cons_of_mem _ z)) q1,q2⟩
 | k+1,i,j,s,xs,hk,hi,hg,hc,hT,hgood,hx,htk,hR=>by
  have hw:a∉wr:=fun z=>ha (W.sub _ z);have hlt:i<n:=by omega
  refine codeAny_builtin zah ?_;rw[Around.under_plainId vQ _];show wpAny _ A.in1 (pyNext (.ref I) >>= _) _ _ _;refine wpAny_bind (W.item i s _ _ hlt hg fun v s' hP hg' hm=>?_);have hgood':zca P w (a::wr) Pr tk s'.heap:=hgood.keep fun b o nb e=>hm.heap b o (fun z=>nb (mem_cons_of_mem _ z)) e;obtain⟨T,o,mm,rfl,nT,hTo,hTc,hTd,nk,hkey⟩:=hgood' i v hP;have hD':s'.heap.DictOfH (tupleKind (xo P w)) a xs:=by
   obtain⟨ob,es,ep,h1,h2,h3,h4,h5,h6⟩:=hT;refine⟨ob,es,ep,hm.heap a _ hw h1,h2,h3,h4,fun x hx'=>?_,h6⟩;obtain⟨o2,its,n,q1,q2⟩:=h5 x hx';exact⟨o2,its,n,hm.heap _ _ (fun z=>hx x hx' (mem_cons_of_mem _ z)) q1,q2⟩
  have hTT:s'.TypeIs (.ref T) "tuple":=⟨o,hTo,hTc⟩;show wpAny _ A.in1 (holding [Value.ref T] _ >>= _) _ _ s';refine wpAny_bind (wpAny_holding ?_);refine wpAny_bind (wpAny_tryCatch ?_);unfold Builtin.Dict.pairItems;refine wpAny_bind (wpAny_typeOf hTT ?_);rw[if_pos (by decide)]
  refine wpAny_bind (wpAny_seqItems hTo hTd (wpAny_pure ?_));show wpAny _ A.in1 (holding [Value.ref (tk i).2.1,(tk i).2.2] (dictSet a (.ref (tk i).2.1) (tk i).2.2)) _ _ s';refine wpAny_holding ?_;refine wpAny_dictSet_heap (knd:=tupleKind (xo P w)) (show A.in1.units<cLine by show A.units+1<cLine;omega) hkey hD' (fun h' hD2 hsb=>?_) (by omega)
  have hl2:=zbd xs (tk i).1 (tk i).2.1 (tk i).2.2;refine wpAny_pure ⟨plainId_quiet vQ _,jU W hu a ha tk hb k (i+1) (j+1) _ _ (by omega) hlt (W.frame _ s' _ _ hg' (le_add_right _ _) fun b hb' o e=>?_) (by omega) hD2 (hgood'.keep fun b o nb e=>?_) (fun x hx'=>?_) htk fun s2 hm2 h4=>?_⟩
  ·have:b≠a:=fun z=>ha (z ▸ hb')
   rw[hsb.2 b this];exact e
  ·have:b≠a:=fun z=>nb (z ▸ mem_cons_self)
   rw[hsb.2 b this];exact e
  ·unfold storedH at hx'
   split at hx'
   ·obtain⟨y,hy,rfl⟩:=List.mem_map.mp hx'
    unfold putAt;split
    ·exact hx y hy
    ·exact hx y hy
   ·rcases List.mem_append.mp hx' with hx'|hx'
    ·exact hx x hx'
    ·rw[List.mem_singleton.mp hx']
     exact htk i
  ·refine hR s2 (Moved.trans W.gtrans ((hm.mono fun b z=>mem_cons_of_mem _ z).then_heap (le_add_right _ _) fun b o hb' e=>?_) hm2) h4
   have:b≠a:=fun z=>hb' (z ▸ mem_cons_self)
   rw[hsb.2 b this];exact e
end
theorem jn{P:Program}{w:World}{A:Around}{E:Value->Shared->Prop}{s:Shared}{l:Addr}{items:List Value}{Q:Value->Shared->Prop}(tk:Nat->PKA)
  (hh:A.handled=none) (hu:A.units+3<cLine) (hl:PlainL s.heap l items.toArray) (hz:items.length<=sizeLine) (hS:sysModules<s.heap.objs.size)
  (hv:∀(i:Nat) (v:Value),items[i]?=some v->∃T o m,v=.ref T/\s.heap.get? T=some o/\o.cls=.type "tuple"/\o.data=.seq #[.ref (tk i).2.1,(tk i).2.2] m/\(tupleKind (xo P w)).is s.heap (tk i).1 (tk i).2.1) (htk:∀i,(tk i).2.1<s.heap.objs.size)
  (h:∀(h':Heap) (t:Nat),h'.DictOfH (tupleKind (xo P w)) s.heap.objs.size (zgX tk 0 items.length [])->(∀b o,s.heap.get? b=some o->h'.get? b=some o)->Q (.ref s.heap.objs.size) { s with heap:=h',toks:=t }) :
  wpAny (model P w) A (call (.type "dict") [.ref l]) Q E s:=by
 refine callType_codes (Q₁:=fun obj s₁=>obj=.ref s.heap.objs.size/\s₁={ s with heap:=s.heap.push { cls:=.type "dict",data:=.dict #[] } }) F.kt_called_dict (F.kt_typeCall_dict_1 _) F.entry_dict_init (kt_code_dict_new _ ⟨rfl,rfl⟩) ?_
 rintro obj s₁ ⟨rfl,rfl⟩;have hD:(s.heap.push { cls:=.type "dict",data:=.dict #[] }).DictOfH (tupleKind (xo P w)) s.heap.objs.size []:=⟨{ cls:=.type "dict",data:=.dict #[] },#[],_,Heap.get?_push_size _ rfl,⟨rfl,rfl,rfl⟩,rfl,rfl,(fun x hx=>by cases hx),List.nodup_nil⟩
 have hT:Shared.TypeIs { s with heap:=s.heap.push { cls:=.type "dict",data:=.dict #[] } } (.ref s.heap.objs.size) "dict":=⟨_,Heap.get?_push_size _ rfl,rfl⟩
 refine⟨hT,F.args_dict_init_2 _ _,?_⟩;obtain⟨ol,nl,hol,hcl,hdl,hdd⟩:=id hl;have hlt:l<s.heap.objs.size:=Heap.lt_size hol;have hol1:(s.heap.push { cls:=.type "dict",data:=.dict #[] }).get? l=some ol:=Heap.get?_push_of_some _ hol;unfold Builtin.«dict.__init__»;refine wpAny_bind ?_;unfold Builtin.Dict.selfAndRest;refine wpAny_bind (wpAny_notOrdered_dict hT ?_);show wpAny _ _ (pure (s.heap.objs.size,[Value.ref l])) _ _ _;refine wpAny_pure ?_;show wpAny _ _ (Builtin.Dict.updateFrom "dict.__init__" s.heap.objs.size (.ref l) [] .none) _ _ _;unfold Builtin.Dict.updateFrom;refine wpAny_bind (wpAny_typeOf (T:="list") ⟨ol,hol1,hcl⟩ ?_);rw[if_pos (by decide)]
 refine wpAny_bind (zez hol1 hcl hdd hdl (by simp [hh]) fun h1 t1 k1=>?_)
 rw[if_pos (show(none:Option Value).isNone=true from rfl)];refine wpAny_bind (wpAny_rule ?_);have hl1:h1.IsList l items.toArray:=⟨ol,k1 _ _ hol1,hcl,nl,hdd⟩;have hD1:h1.DictOfH (tupleKind (xo P w)) s.heap.objs.size []:=by
  obtain⟨ob,es,ep,q1,q2,q3,q4,q5,q6⟩:=hD;exact⟨ob,es,ep,k1 _ _ q1,q2,q3,q4,(fun x hx=>by cases hx),q6⟩
 have hz1:s.heap.objs.size<h1.objs.size:=Heap.lt_size (k1 _ _ (Heap.get?_push_size s.heap (o:={ cls:=.type "dict",data:=.dict #[] }) rfl));refine wpAny_bind (wpAny_pyIter_list hl1 ?_);have n1:l≠h1.objs.size:=ne_of_lt (lt_trans hlt hz1);have n3:s.heap.objs.size∉[h1.objs.size,l]:=fun z=>by
  rcases List.mem_cons.mp z with e|e
  ·exact ne_of_lt hz1 e
  ·exact ne_of_gt hlt (List.mem_singleton.mp e)
 have nw:∀b:Addr,b<s.heap.objs.size->b∉[s.heap.objs.size,h1.objs.size]:=fun b hb z=>by
  rcases List.mem_cons.mp z with e|e
  ·exact ne_of_lt hb e
  ·exact ne_of_lt (lt_trans hb hz1) (List.mem_singleton.mp e)
 refine wpAny_pure ⟨plainId_quiet vQ _,jU ((Walks.list (by simp [hh]) _ l n1 items.toArray).toS) (by show A.units+1+2<cLine;omega) s.heap.objs.size n3 tk (by simpa using hz) items.toArray.size 0 0 _ [] (by omega) (zero_le _) ⟨⟨_,Heap.get?_push_size _ rfl,rfl,rfl⟩,hl1.push _⟩ (le_refl _) ?_ ?_ (fun x hx=>by cases hx) (fun i=>nw _ (htk i)) ?_⟩
 ·obtain⟨ob,es,ep,q1,q2,q3,q4,q5,q6⟩:=hD1
  exact⟨ob,es,ep,Heap.get?_push_of_some _ q1,q2,q3,q4,(fun x hx=>by cases hx),q6⟩
 ·intro i v hp
  have kk:∀b o,s.heap.get? b=some o->(h1.push { cls:=.type "list_iterator",data:=.fields #[.ref l,.int 0 0] }).get? b=some o:=fun b o e=>Heap.get?_push_of_some _ (k1 _ _ (Heap.get?_push_of_some _ e));obtain⟨T,o,m,rfl,q1,q2,q3,o2,its,n,r1,r2,r3,r4⟩:=hv i v (by simpa using hp)
  exact⟨T,o,m,rfl,nw _ (Heap.lt_size q1),kk _ _ q1,q2,q3,nw _ (htk i),o2,its,n,kk _ _ r1,r2,r3,r4⟩
 ·rintro⟨h',g',d',tk',os'⟩ hm hS'
  have e1:g'=s.gens:=hm.gens;have e2:d'=s.drawn:=hm.drawn;have e3:os'=s.os:=hm.os;subst e1 e2 e3;rw[size_toArray] at hS';exact⟨rfl,h h' tk' hS' fun b o e=>hm.heap b o (nw b (Heap.lt_size e)) (Heap.get?_push_of_some _ (k1 _ _ (Heap.get?_push_of_some _ e)))⟩
abbrev PV:=List SB×Addr×V
def zb2:PKA:=([],0,.none)
def zbX(ps:List PV) (kvs:List (List SB×V)):List (List SB×V):=ps.foldl (fun kv p=>zV kv p.1 p.2.2) kvs
def zbY(qs:List PKA) (xs:List PKA):List PKA:=qs.foldl (fun xs q=>storedH xs q.1 q.2.1 q.2.2) xs
theorem zar:∀(wv pre:List PKA) (xs:List PKA),zgX (fun i=>(pre++wv).getD i zb2) pre.length wv.length xs=zbY wv xs
 | [],_,_=>rfl
 | q::qs,pre,xs=>by
  show zgX _ (pre.length+1) qs.length (storedH xs ((pre++q::qs).getD pre.length zb2).1 ((pre++q::qs).getD pre.length zb2).2.1 ((pre++q::qs).getD pre.length zb2).2.2)=_;have e:(pre++q::qs).getD pre.length zb2=q:=by
   rw[getD_eq_getElem?_getD,List.getElem?_append_right (le_refl _),Nat.sub_self];rfl
  rw[e];have ih:=zar qs (pre++[q]) (storedH xs q.1 q.2.1 q.2.2);rw[append_assoc,length_append] at ih;exact ih
def PQ(H:Hp) (p:PV) (q:PKA):Prop:=q.1=p.1/\q.2.1=p.2.1/\H p.2.1=some (.tup (p.1.map sbV))/\zL p.2.2 q.2.2
theorem KB.fold{H:Hp}:∀{ps:List PV}{qs:List PKA}{kvs:List (List SB×V)}{xs:List PKA},Paired (PQ H) ps qs->KB H kvs xs->KB H (zbX ps kvs) (zbY qs xs)
 | _,_,_,_,.nil,k=>k
 | p::ps,q::qs,kvs,xs,.cons h t,k=>by
  obtain⟨e1,e2,e3,e4⟩:=h;have k2:KB H (zV kvs p.1 p.2.2) (storedH xs q.1 q.2.1 q.2.2):=by
   rw[e1,e2];exact k.put p.1 e3 e4
  have k3:=KB.fold t k2;exact k3
def zgZ(H:Hp) (t:Addr) (p:PV):Prop:=H t=some (.tup [.ref p.2.1,p.2.2])/\H p.2.1=some (.tup (p.1.map sbV))
theorem zdh{X:Cx}(hc:X.calm=true) (hu:X.A.units+64<cLine):xv X (.type "dict") (fun xs H Q=>∃(l:Addr) (ts:List Addr) (ps:List PV),xs=[.ref l]/\H l=some (.lst (ts.map V.ref))/\Paired (zgZ H) ts ps/\∀(d:Addr) (o:HO),H d=none->DB X.prog X.w (upd H d o) d (zbX ps [])->Q (.ref d) (upd H d o)):=by
 intro pins s σ H xs us Q I r h;obtain⟨l,ts,ps,rfl,hl,hp,q⟩:=h;obtain⟨u,rfl,ru⟩:=vt r;cases ru;obtain⟨its,rv,hpl,hz⟩:=I.list (SqL.of hl);have eits:=qA rv;subst eits;obtain⟨qs,hqs,hob⟩:∃qs:List PKA,Paired (PQ H) ps qs/\∀(i:Nat) t,ts[i]?=some t->∃q o m,qs[i]?=some q/\s.heap.get? t=some o/\o.cls=.type "tuple"/\o.data=.seq #[.ref q.2.1,q.2.2] m/\(tupleKind (xo X.prog X.w)).is s.heap q.1 q.2.1:=by
  clear q hl hpl rv hz;induction hp with
  | nil=>exact⟨[],.nil,fun i t h=>by simp at h⟩
  | @cons t p ts ps h tl ih=>
   obtain⟨qs,h1,h2⟩:=ih;obtain⟨g1,g2⟩:=h;obtain⟨_,vs,rr,o,o1,o2,n,o3⟩:=(show yy X.prog X.w H s.heap t (.tup [.ref p.2.1,p.2.2]) from I.hok t _ g1);obtain⟨u1,u2,rfl,r1,r2⟩:=qC rr;have r1:u1=Value.ref p.2.1:=r1;subst r1;refine⟨(p.1,p.2.1,u2)::qs,.cons ⟨rfl,rfl,g2,r2⟩ h1,fun i t' ht=>?_⟩;cases i with
   | zero=>
    cases ht;exact⟨(p.1,p.2.1,u2),o,n,rfl,o1,o2,o3,zcl I.hok g2⟩
   | succ i=>
    obtain⟨q',o',m',e1,e2⟩:=h2 i t' (by simpa using ht)
    exact⟨q',o',m',by simpa using e1,e2⟩
 have lq:qs.length=ts.length:=by rw[<- hqs.length,hp.length]
 refine jn (items:=ts.map Value.ref) (fun i=>qs.getD i zb2) (I.ok.hd hc) (by omega) hpl (by rw[length_map];rw[length_map] at hz;exact hz) I.big (fun i v hv=>?_) (fun i=>?_) fun h' t hD hk=>?_
 ·rw[getElem?_map] at hv
  cases ht:ts[i]? with
  | none=>rw[ht] at hv;cases hv
  | some t=>
   rw[ht] at hv;cases hv;obtain⟨q',o,m,e1,e2,e3,e4,e5⟩:=hob i t ht;have e:qs.getD i zb2=q':=by rw[getD_eq_getElem?_getD,e1];rfl
   rw[e];exact⟨t,o,m,rfl,e2,e3,e4,e5⟩
 ·show(qs.getD i zb2).2.1<s.heap.objs.size
  cases e:qs[i]? with
  | none=>
   rw[getD_eq_getElem?_getD,e];exact Nat.lt_of_le_of_lt (zero_le _) I.big
  | some q'=>
   rw[getD_eq_getElem?_getD,e];have hi:i<ts.length:=by rw[<- lq];exact(List.getElem?_eq_some_iff.mp e).1
   obtain⟨q2,o,m,e1,_,_,_,o2,its',n,r1,_⟩:=hob i ts[i] (getElem?_eq_getElem hi);rw[e] at e1;cases e1;exact Heap.lt_size r1
 ·rw[length_map,<- lq] at hD
  have ef:=zar qs [] [];rw[nil_append,length_nil] at ef;rw[ef] at hD;have hfr:H s.heap.objs.size=none:=I.hok.fresh (le_refl _);have kb:KB H (zbX ps []) (zbY qs []):=KB.fold hqs .nil;obtain⟨ob,es,ep,h1,h2,h3,h4,h5,h6⟩:=hD;have hφ : dBφ X.prog X.w s.heap.objs.size (zbY qs []) h':=⟨ob,es,ep,h1,h2,h3,h4,h6⟩;refine⟨.ref s.heap.objs.size,_,I.laid (t':=t) (o:=.ext (dBφ X.prog X.w s.heap.objs.size (zbY qs []))) hk (le_refl _) ⟨hφ,⟨_,h1⟩,fun a b ha hab=>?_⟩,rfl,q _ _ hfr ⟨_,za,Paired.mapP kb fun _ _ z=>⟨z.1,by rw[zh (zd z.2.1 hfr)];exact z.2.1,z.2.2⟩⟩⟩
  obtain⟨ob',es',ep',g1,g2⟩:=ha;exact⟨ob',es',ep',hab _ g1,g2⟩
def ziV(P:Program) (w:World) (td ty:TE):TE:=fun σ H Q=>td σ H fun x H1=>ty σ H1 fun y H2=>∃(a b:Addr) (kvs:List (List SB×V)) (k:List SB) (v:V),x=.ref a/\y=.ref b/\DB P w H2 a kvs/\H2 b=some (.tup (k.map sbV))/\zF kvs k=some v/\Q v H2
theorem zfR{X:Cx}{P:Program}{w:World}{o i:Expr}{td ty:TE}{pos:Pos}(hP:X.prog=P) (hw:X.w=w) (hu:X.A.units+1<cLine) (ho:PE X o td) (hi:PE X i ty) (hs:zik i):PE X (.Subscript o i pos) (ziV P w td ty):=by
 subst hP;subst hw;refine⟨?_⟩;intro pins s σ H Q I h;refine zaw PySem.F.slot_dict_getitem.lookup hs (thn (ho pins s σ H _ I h) fun u s1 ⟨x,H1,I1,rx,q1⟩=>thn (hi pins s1 σ H1 _ I1 q1) fun iv s2 ⟨y,H2,I2,ry,a,b,kvs,k,v,ex,ey,db,eb,ev,q2⟩=>?_);subst ex;subst ey;obtain rfl:u=Value.ref a:=rx;obtain rfl:iv=Value.ref b:=ry;obtain⟨xs,e,kb⟩:=db;have dd:=zla I2.hok e kb;obtain⟨w',hw',rw'⟩:=wS.some_of (v:=v) (o:=(atKey xs k).map (·.2)) (by rw[<- ev];exact kb.val k)
 obtain⟨p,hp,hp2⟩:=Option.map_eq_some_iff.mp hw';refine⟨dd.typeIs,wpAny_getItem_heap (tupleKind_room_in1 hu) (zcl I2.hok eb) dd hp ?_⟩;rw[hp2];exact⟨v,H2,I2.tok _,rw',q2⟩
theorem zeI{ps:List PV}{R:List SB->V->Prop}:∀{kvs:List (List SB×V)},(∀p∈ps,R p.1 p.2.2)->(∀k v,zF kvs k=some v->R k v)->∀k,(k∈ps.map (·.1)\/(zF kvs k).isSome=true)->∃v,zF (zbX ps kvs) k=some v/\R k v:=by
 induction ps with
 | nil=>
  intro kvs _ h2 k hk;rcases hk with hk|hk
  ·cases hk
  ·obtain⟨v,hv⟩:=Option.isSome_iff_exists.mp hk
   exact⟨v,hv,h2 k v hv⟩
 | cons p ps ih=>
  intro kvs h1 h2 k hk;refine ih (kvs:=zV kvs p.1 p.2.2) (fun q hq=>h1 q (mem_cons_of_mem _ hq)) (fun k' v' hv=>?_) k ?_
  ·rw[xt] at hv
   by_cases e:k'=p.1
   ·rw[if_pos e] at hv
    cases hv;rw[e];exact h1 p mem_cons_self
   ·rw[if_neg e] at hv
    exact h2 k' v' hv
  ·by_cases e:k=p.1
   ·right
    rw[xt,if_pos e];rfl
   ·rcases hk with hk|hk
    ·rw[map_cons] at hk
     rcases List.mem_cons.mp hk with hk|hk
     ·exact absurd hk e
     ·exact .inl hk
    ·right
     rw[xt,if_neg e];exact hk
def zjn(n:Bool):R2:=fun x y H Q=>∃(a c:Addr) (xs:List V),x=.ref a/\y=.ref c/\H a=some (.lst xs)/\H c=some (.lst [])/\Q (.bl (n != xs.isEmpty)) H
theorem zbE{X:Cx}(hu:X.A.units+64<cLine):OpR X (compareOp .Eq) (zjn false):=by
 intro pins s σ H x y v u Q I rx ry h;obtain⟨a,c,xs,rfl,rfl,ha,hc,q⟩:=h;cases xs with
 | nil=>exact zcM hu pins s σ H _ _ v u Q I rx ry ⟨a,c,0,.lst [],fun _=>True,fun _=>True,rfl,rfl,by decide,zA.lst True.intro ha .nil,zA.lst True.intro hc .nil,q⟩
 | cons z zs=>exact zfV (by omega) pins s σ H _ _ v u Q I rx ry ⟨a,c,_,_,rfl,rfl,ha,hc,by simp,q⟩
theorem zdN{β : Type}{K:Frag}{a:Addr}{xs:List V}{bs:List β}{caps:List (Option Nat)}{g:TG}{tt:TT}{te:TE}{σ : L2.St}{H1:Hp}{Q:VK}{D:Addr}(R':Hp->Addr->β->Prop)
  (sR':∀{H H' v r},R' H v r->zo H H'->R' H' v r) (uR':∀{H v r D ys o},R' H v r->H D=some (.lst ys)->R' (upd H D o) v r)
  (ha:SqL K H1 a xs) (hl:xs.length=bs.length) (hn:bs.length<=500) (hD:H1 D=none)
  (hs:∀(i:Nat) x b H (Qf:VK) (Qs:Hp->Prop),xs[i]?=some x->bs[i]?=some b->zo H1 H->(∀v H',zo H H'->R' H' v b->Qf (.ref v) H')->
   g x (xk caps σ) H fun σ2 H2=>tt σ2 H2 fun ok H3=>(ok=true->te σ2 H3 Qf)/\(ok=false->Qs H3))
  (hd:∀vs H,zo H1 H->H D=some (.lst (vs.map V.ref))->Paired (R' H) vs bs->Q (.ref D) H):LCr (Itl K a) caps g tt te σ H1 Q D:=by
 refine ve (K:=K) (xs:=xs) (fun i ys H'=>∃vs,ys=vs.map V.ref/\zo H1 H'/\H' D=some (.lst ys)/\Paired (R' H') vs (bs.take i)) ⟨[],rfl,zb hD _,za,.nil⟩ (fun i ys H' ⟨_,_,h,_⟩=>h.seq ha) ?_ ?_
 ·rintro i x ys H' hlt hx ⟨vs,rfl,sH,hDy,fv⟩
  have hi:i<bs.length:=by omega
  have hb:bs[i]?=some bs[i]:=getElem?_eq_getElem hi;have nl:(vs.map V.ref).length<=i:=by
   rw[length_map,fv.length,length_take];omega
  refine hs i x _ H' _ _ hx hb sH (fun v H2 s2 r2=>?_);have s3:zo H1 (upd H2 D (.lst (vs.map V.ref++[.ref v]))):=fun b o z=>by
   rw[zh (zd z hD)];exact s2 _ _ (sH b o z)
  refine lcN.mk hlt (le_of_lt (zE (by omega))) (s2 _ _ hDy) nl ⟨vs++[v],by rw[map_append];rfl,s3,za,?_⟩
  rw[take_succ_eq_append_getElem hi];exact Paired.snoc (Paired.imp' (fun w r' z=>uR' (sR' z s2) (s2 _ _ hDy)) fv) (uR' r2 (s2 _ _ hDy))
 ·rintro ys H ⟨vs,rfl,sH,hDy,fv⟩
  rw[hl,take_length] at fv;exact hd vs H sH hDy fv
end L2
namespace K51
open PySem L2 PyProof.Rows
theorem zgA{k:Nat}(h:k<5):xl k=decide (grp k=0):=by rcases lt5 h with rfl|rfl|rfl|rfl|rfl <;> rfl
theorem zkG:∀(rows:List Rw) {l l':Nat},l'<=l->yn l rows=true->yn l' rows=true
 | [],_,_,_,_=>rfl
 | r::rs,l,l',hl,h=>by
  have h':(!xK l (grp r.k)&&yn (grp r.k) rs)=true:=h;show(!xK l' (grp r.k)&&yn (grp r.k) rs)=true;rw[Bool.and_eq_true,Bool.not_eq_true'] at h' |-;refine⟨?_,h'.2⟩;have hb:=h'.1;unfold xK at hb |-;simp only[Bool.or_eq_false_iff,decide_eq_false_iff_not,Bool.and_eq_false_iff,beq_eq_false_iff_ne] at hb |-;omega
theorem zbB:∀(rows:List Rw) {l:Nat},0<l->(∀r∈rows,r.ok)->yn l rows=true->∀r∈rows,xl r.k=false
 | [],_,_,_,_,r,hr=>by cases hr
 | x::xs,l,hl,hok,h,r,hr=>by
  have h':(!xK l (grp x.k)&&yn (grp x.k) xs)=true:=h;rw[Bool.and_eq_true,Bool.not_eq_true'] at h';have hb:=h'.1;unfold xK at hb;simp only[Bool.or_eq_false_iff,decide_eq_false_iff_not] at hb;have hg : 0<grp x.k:=by omega
  rcases List.mem_cons.mp hr with rfl|hr
  ·rw[zgA (hok _ mem_cons_self).1,decide_eq_false (by omega)]
  ·exact zbB xs hg (fun r hr=>hok r (mem_cons_of_mem _ hr)) h'.2 r hr
theorem zfQ{rows:List Rw}(h:∀r∈rows,xl r.k=false):plN rows=0:=by
 unfold plN;rw[List.length_eq_zero_iff,List.filter_eq_nil_iff];exact fun r hr=>by rw[h r hr];decide
theorem jC:∀rows:List Rw,(∀r∈rows,r.ok)->yn 0 rows=true->∃A B,rows=A++B/\A.length=plN rows/\(∀r∈A,grp r.k=0)/\yn 0 B=true
 | [],_,_=>⟨[],[],rfl,rfl,(fun r hr=>by cases hr),rfl⟩
 | r::rs,hok,h=>by
  have h':(!xK 0 (grp r.k)&&yn (grp r.k) rs)=true:=h;rw[Bool.and_eq_true,Bool.not_eq_true'] at h';by_cases hg:grp r.k=0
  ·have h2:=h'.2
   rw[hg] at h2;obtain⟨A,B,e,hl,hA,hB⟩:=jC rs (fun x hx=>hok x (mem_cons_of_mem _ hx)) h2;refine⟨r::A,B,by rw[e];rfl,?_,fun x hx=>?_,hB⟩
   ·have hp:xl r.k=true:=by rw[zgA (hok r mem_cons_self).1,hg];rfl
    unfold plN at hl |-;rw[filter_cons,if_pos hp,length_cons,length_cons,hl]
   ·rcases List.mem_cons.mp hx with rfl|hx
    ·exact hg
    ·exact hA x hx
  ·refine⟨[],r::rs,rfl,?_,(fun x hx=>by cases hx),h⟩
   rw[zfQ]
   ·rfl
   ·intro x hx
    rcases List.mem_cons.mp hx with rfl|hx
    ·rw[zgA (hok _ mem_cons_self).1,decide_eq_false hg]
    ·exact zbB rs (by omega) (fun x hx=>hok x (mem_cons_of_mem _ hx)) h'.2 x hx
theorem Paired.takeP{α β : Type}{R : α->β->Prop}:∀{xs:List α}{ys:List β}(n:Nat),Paired R xs ys->Paired R (xs.take n) (ys.take n)
 | _,_,0,_=>.nil
 | _,_,_+1,.nil=>.nil
 | _,_,n+1,.cons r t=>.cons r (Paired.takeP n t)
theorem Paired.dropP{α β : Type}{R : α->β->Prop}:∀{xs:List α}{ys:List β}(n:Nat),Paired R xs ys->Paired R (xs.drop n) (ys.drop n)
 | _,_,0,r=>r
 | _,_,_+1,.nil=>.nil
 | _,_,n+1,.cons _ t=>Paired.dropP n t
theorem Paired.appP{α β : Type}{R : α->β->Prop}:∀{xs xs':List α}{ys ys':List β},Paired R xs ys->Paired R xs' ys'->Paired R (xs++xs') (ys++ys')
 | _,_,_,_,.nil,s=>s
 | _,_,_,_,.cons r t,s=>.cons r (Paired.appP t s)
def zic(rows:List Rw) (r:Rw):List Rw:=rows.take (plN rows)++[r]++rows.drop (plN rows)
theorem zeJ{rows:List Rw}{bars:List Str}(V1:yN rows bars) {r:Rw}(hr:r∈rows) (hk:r.k=0) (h23:rows.length<=23):yN (zic rows r) bars:=by
 obtain⟨A,B,e,hl,hA,hB⟩:=jC rows V1.ok V1.ord;have ed:zic rows r=A++[r]++B:=by
  unfold zic;rw[<- hl,e,List.take_left',List.drop_left' rfl];rfl
 rw[ed];have hg:grp r.k=0:=by rw[hk];rfl
 refine⟨fun x hx=>?_,?_,V1.l60,?_,V1.bn,?_⟩
 ·rcases List.mem_append.mp hx with hx|hx
  ·rcases List.mem_append.mp hx with hx|hx
   ·exact V1.ok x (by rw[e];exact mem_append_left _ hx)
   ·rw[List.mem_singleton.mp hx];exact V1.ok r hr
  ·exact V1.ok x (by rw[e];exact mem_append_right _ hx)
 ·rw[e,length_append] at h23
  rw[length_append,length_append,length_cons,length_nil];omega
 ·refine uF (g:=0) rfl (A++[r]) B 0 rfl (fun x hx=>?_) hB hB
  rcases List.mem_append.mp hx with hx|hx
  ·exact hA x hx
  ·rw[List.mem_singleton.mp hx];exact hg
 ·have en:nms (A++[r]++B)=nms rows:=by
   rw[e,xT,xT,xT,uG,hk];simp [zR]
  rw[en];exact V1.nd
theorem zgv{k:Nat}(h:k<5):inV (.str (kw k)) [.str "seat",.str "both"]=xl k:=zgw k h
theorem zeW{R:Addr->Rw->Prop}:∀{us:List Addr}{rows:List Rw},Paired R us rows->∀(keep:Rw->Bool) (out:Addr->Rw->V),(((us.zip rows).filter fun p=>keep p.2).map fun p=>out p.1 p.2).length=(rows.filter keep).length
 | _,_,.nil,_,_=>rfl
 | _,_,.cons (a:=u) (b:=r) _ t,keep,out=>by
  have ih:=zeW t keep out;rw[length_map] at ih |-;rw[zip_cons_cons,filter_cons,filter_cons];cases h:keep r
  ·simpa [h] using ih
  ·simpa [h] using ih
theorem zgP{xs:List V}(h:xs≠[]):wu xs (some (-1)) none=[xs.getLast h]:=by
 unfold wu;rw[HT.zkx];have hl : 0<xs.length:=List.length_pos_iff.mpr h;have e:HT.sIx xs.length 0 (some (-1))=xs.length - 1:=by
  show(if (-1:Int)<0 then ((-1:Int)+(xs.length:Int)).toNat else min (-1:Int).toNat xs.length)=_
  rw[if_pos (by decide)]
  omega
 rw[e,drop_eq_getElem_cons (by omega),List.drop_of_length_le (by omega),List.getLast_eq_getElem]
 rw[show xs.length - (xs.length - 1)=1 by omega]
 rfl
def zfc:Sp:=fun vs H Q _=>∃(t la lb:Addr) (us:List Addr) (rows:List Rw) (bars:List Str),vs=[.ref t]/\H t=some (.tup [.ref la,.ref lb])/\H la=some (.lst (us.map V.ref))/\Paired (TAt H) us rows/\H lb=some (.lst (bars.map V.str))/\yN rows bars/\
 ∀(t' la':Addr) (us':List Addr) (rows':List Rw) (H':Hp),zo H H'->H' t'=some (.tup [.ref la',.ref lb])->H' la'=some (.lst (us'.map V.ref))->Paired (TAt H') us' rows'->yN rows' bars->Q (.ref t') H'
theorem zha:∀k:Nat,k<5->decide (V.str (kw k)=V.str "seat")=(k==0):=by decide +kernel
section
variable {P:Program}{w:World}{K:Frag}{mg:Str->Option Value}{base:Heap}{f CF N:Addr}{fd:FuncData}{c:C5}
theorem jJ:zr ["_law_told_here","_law_rows","_law_bars","_law_seats","_law_many"] ["_law_told_here"] (zi zfw):=⟨rfl,rfl,rfl,by decide +kernel,rfl,by decide +kernel,by decide +kernel⟩
theorem zhL(F:Fun K "_law_doubled" "_law_doubled" zfw f fd) (hlen:mg "len"=none):zD P w K mg base CX0 1 f fd ["_law_told_here"] zfc:=by
 refine F.ok jJ (fun vs H Q E h=>?_) (fun cdv A outer s H vs Q E hr h=>?_)
 ·obtain⟨t,la,lb,us,rows,bars,rfl,_⟩:=h
  rfl
 obtain⟨t,la,lb,us,rows,bars,rfl,ht,hla,hu,hlb,V1,q⟩:=h;have hU:=hr.units;have l24:=V1.l24;have lu:us.length=rows.length:=hu.length;refine⟨_,zf (xN (pv 0) (yi rfl (zp (zl (i:=1) jJ.nd rfl (Or.inl rfl)) (zp (zl (i:=2) jJ.nd rfl (Or.inl rfl)) zS))))
  (zf (je (i:=3) [] ["_law_one"] [none] jJ.nd rfl (Or.inl rfl) rfl ⟨rfl,rfl,rfl,rfl⟩ (yE (pv 1)) (zY 0) rfl rfl rfl
   (fun pins fp s H C=>⟨zl (i:=0) zev rfl (Or.inl rfl) (.inr rfl),yX (zk z7 (zB (r:=qu K) zy (pv 0) zg (fun _ _=>rfl)) zj (zt _)),pv 0⟩))
  (zf (zu (i:=4) jJ.nd rfl (Or.inl rfl) (cB zw hlen PySem.boot_len (ac (xn [] ["_law_one"] [none] rfl ⟨rfl,rfl,rfl,rfl⟩ (yE (pv 1)) (zY 0) rfl rfl rfl
   (fun pins fp s H C=>⟨zl (i:=0) zev rfl (Or.inl rfl) (.inr rfl),yX (zk (r:=rIn K false) yh (zB (r:=qu K) zy (pv 0) zg (fun _ _=>rfl)) (zO (ac zj (ac zj zc))) (by with_unfolding_all rfl)),pv 0⟩)) zc)))
  (zf (zH (PW.pt (wc (zk (zbE hU) (pv 3) (zO zc) (zt _)) (xM (zk qT (cB zw hlen PySem.boot_len (ac (pv 1) zc)) zg (zt _))))) (ze (zq (pv 0))) zv)
  (ze (zq (zC (ac (zx xx (zx xx (ye yC (pv 1) yD (yp (pv 4))) (ye yC (pv 3) (yp (zbw jA zg)) yD)) (ye yC (pv 1) (yp (pv 4)) yD)) (ac (pv 2) zc)))))))),?_⟩
 refine⟨_,rfl,t,_,rfl,SqT.of ht,rfl,_,_,rfl,_,_,rfl,rfl,?_⟩;refine⟨_,rfl,la,rfl,⟨_,SqL.of hla⟩,fun D1 hD1=>?_⟩;refine qa (K:=K) TAt (fun r=>r.k==0) (fun u _=>.ref u) hD1 hla hu (by omega) (fun i u r H' Nn S hu' hr' tr sH n1 s1=>?_) (fun H1 s1 hS1=>?_)
 ·have rk:=V1.ok r (mem_of_getElem? hr')
  refine⟨_,rfl,u,_,0,_,rfl,rfl,SqT.of (sH _ _ tr),qv rk.1,rfl,_,rfl,?_⟩;rw[zha _ rk.1];exact⟨fun e=>⟨_,rfl,n1 _ (zo.refl _) e⟩,fun e=>s1 _ (zo.refl _) e⟩
 have hla1:=s1 _ _ hla;have hu1:=zP s1 hu;refine⟨_,rfl,la,rfl,⟨_,SqL.of hla1⟩,fun D hD=>?_⟩;refine qa (K:=K) TAt (fun r=>xl r.k) (fun u _=>.ref u) hD hla1 hu1 (by omega) (fun i u r H' Nn S hu' hr' tr sH n1 s1=>?_) (fun H2 s2 hD1'=>?_)
 ·have rk:=V1.ok r (mem_of_getElem? hr')
  have tu:=sH _ _ tr;refine⟨_,rfl,u,_,0,_,rfl,rfl,SqT.of tu,qv rk.1,zz2,fun l hl=>?_⟩;have s2:=zb hl (.lst [.str "seat",.str "both"]);refine⟨l,_,rfl,.inl (SqL.of za),rfl,rfl,_,rfl,?_⟩;rw[if_neg Bool.false_ne_true,zgv rk.1];exact⟨fun e=>⟨_,rfl,n1 _ s2 e⟩,fun e=>s1 _ s2 e⟩
 obtain⟨ys,hys,hDy⟩:∃ys:List V,ys.length=plN rows/\H2 D=some (.lst ys):=⟨_,zeW hu1 (fun r=>xl r.k) (fun u _=>.ref u),hD1'⟩;refine⟨D,ys,rfl,.inl (SqL.of hDy),?_⟩;rw[hys];clear hys hDy hD1' ys;have s12:=s1.trans s2;have hS2:=s2 _ _ hS1;refine⟨_,rfl,zz0,fun l0 hl0=>?_⟩;have s3:=zb hl0 (.lst []);have g3:upd H2 l0 (.lst []) l0=some (.lst []):=za;show zjn false _ _ (upd H2 l0 (.lst [])) _;generalize upd H2 l0 (.lst [])=H3 at s3 g3 |-;have s13:=s12.trans s3;have ht3:=s13 _ _ ht;have hla3:=s13 _ _ hla;have hu3:=zP s13 hu;refine⟨D1,l0,_,rfl,rfl,s3 _ _ hS2,g3,_,rfl,?_⟩;generalize hzs:((us.zip rows).filter fun p=>p.2.k==0)=zs at hS2;cases hz:zs with
 | nil=>
  refine vg (by rfl) ?_
  refine yY ?_;exact⟨_,rfl,q t la us rows H3 s13 ht3 hla3 hu3 V1⟩
 | cons z0 zs0=>
  refine vf (by rfl) ?_
  refine⟨_,rfl,la,_,rfl,.inl (SqL.of hla3),_,_,rfl,rfl,_,rfl,?_⟩;by_cases h23:rows.length<=23
  rotate_left
  ·refine dT (by show((us.map V.ref).length:Int)>23;rw[length_map];omega) ?_
   exact⟨_,rfl,q t la us rows H3 s13 ht3 hla3 hu3 V1⟩
  refine dF (by show ¬((us.map V.ref).length:Int)>23;rw[length_map];omega) ?_
  rw[hz] at hzs hS2;have hne:(z0::zs0)≠[]:=List.cons_ne_nil _ _;have hmem:(z0::zs0).getLast hne∈(us.zip rows).filter fun p=>p.2.k==0:=by rw[hzs];exact List.getLast_mem hne
  generalize hlast:(z0::zs0).getLast hne=pr at hmem;obtain⟨u,r⟩:=pr;obtain⟨hm1,hm2⟩:=List.mem_filter.mp hmem;have hrm:r∈rows:=(of_mem_zip hm1).2;have hrk:r.k=0:=beq_iff_eq.mp hm2;obtain⟨j,hj,ej⟩:=List.getElem_of_mem hm1;have ej2:(us.zip rows)[j]?=some (u,r):=by rw[<- ej];exact getElem?_eq_getElem hj
  rw[List.getElem?_zip_eq_some] at ej2;have tur:TAt H3 u r:=by
   obtain⟨r2,hr2,tr2⟩:=yg hu3 ej2.1;rw[ej2.2] at hr2;cases hr2;exact tr2
  have elast:wu ((z0::zs0).map fun p=>V.ref p.1) (some (-1)) none=[V.ref u]:=by
   rw[zgP (by simp),List.getLast_map,hlast]
  have ln:plN rows<=24:=le_trans (length_filter_le _ _) l24;refine⟨_,rfl,_,rfl,_,rfl,la,_,rfl,SqL.of hla3,fun p4 hp4=>?_⟩;rw[y7,<- map_take];have s4:=zb hp4 (.lst ((us.take (plN rows)).map V.ref));have g4:upd H3 p4 (.lst ((us.take (plN rows)).map V.ref)) p4=some (.lst ((us.take (plN rows)).map V.ref)):=za;generalize upd H3 p4 (.lst ((us.take (plN rows)).map V.ref))=H4 at s4 g4 |-;refine⟨_,rfl,_,rfl,_,rfl,D1,_,rfl,SqL.of (s4 _ _ (s3 _ _ hS2)),fun p5 hp5=>?_⟩;rw[show wu ((z0::zs0).map fun p=>V.ref p.1) (some (-1)) none=[V.ref u] from elast];have s5:=zb hp5 (.lst [.ref u]);have g5:upd H4 p5 (.lst [.ref u]) p5=some (.lst [.ref u]):=za;generalize upd H4 p5 (.lst [.ref u])=H5 at s5 g5 |-;refine⟨p4,p5,_,_,rfl,rfl,s5 _ _ g4,g5,zZ (by rw[length_map,length_take];show min (plN rows) us.length+1<=1000;omega),fun p6 hp6=>?_⟩
  have s6:=zb hp6 (.lst ((us.take (plN rows)).map V.ref++[.ref u]));have g6:upd H5 p6 (.lst ((us.take (plN rows)).map V.ref++[.ref u])) p6=some (.lst ((us.take (plN rows)).map V.ref++[.ref u])):=za;generalize upd H5 p6 (.lst ((us.take (plN rows)).map V.ref++[.ref u]))=H6 at s6 g6 |-;have s36:=s4.trans (s5.trans s6);refine⟨_,rfl,_,rfl,_,rfl,la,_,rfl,SqL.of (s36 _ _ hla3),fun p7 hp7=>?_⟩;rw[y8,<- map_drop];have s7:=zb hp7 (.lst ((us.drop (plN rows)).map V.ref));have g7:upd H6 p7 (.lst ((us.drop (plN rows)).map V.ref)) p7=some (.lst ((us.drop (plN rows)).map V.ref)):=za;generalize upd H6 p7 (.lst ((us.drop (plN rows)).map V.ref))=H7 at s7 g7 |-;refine⟨p6,p7,_,_,rfl,rfl,s7 _ _ g6,g7,zZ (by rw[length_append,length_map,length_map,length_take,length_drop];show min (plN rows) us.length+1+(us.length - plN rows)<=1000;omega),fun p8 hp8=>?_⟩
  have s8:=zb hp8 (.lst ((us.take (plN rows)).map V.ref++[.ref u]++(us.drop (plN rows)).map V.ref));have g8:upd H7 p8 (.lst ((us.take (plN rows)).map V.ref++[.ref u]++(us.drop (plN rows)).map V.ref)) p8=some (.lst ((us.take (plN rows)++[u]++us.drop (plN rows)).map V.ref)):=by rw[za,map_append,map_append];rfl
  generalize upd H7 p8 (.lst ((us.take (plN rows)).map V.ref++[.ref u]++(us.drop (plN rows)).map V.ref))=H8 at s8 g8 |-;have s38:=s36.trans (s7.trans s8);refine⟨_,rfl,zz2,fun t9 ht9=>?_⟩;have s9:=zb ht9 (.tup [.ref p8,.ref lb]);have s39:=s38.trans s9;refine q t9 p8 _ (zic rows r) _ (s13.trans s39) za (s9 _ _ g8) ?_ (zeJ V1 hrm hrk h23);have hu9:=zP s39 hu3;exact Paired.appP (Paired.appP (Paired.takeP _ hu9) (.cons (s39 _ _ tur) .nil)) (Paired.dropP _ hu9)
end
def uU(r:Rw):List SB:=match r.k with
 | 0=>[.inl "seat",.inl r.z,.inr r.b]|1=>[.inl "both",.inl r.z,.inr r.b]|2=>[.inl "tail",.inl r.z]|3=>[.inl "tag",.inl r.z,.inr r.b]|_=>[.inl "bag",.inl r.z]
theorem zfJ{r:Rw}:(uU r).map sbV=rv r:=by
 obtain⟨k,z,b⟩:=r
 match k with
 | 0=>rfl
 | 1=>rfl
 | 2=>rfl
 | 3=>rfl
 | n+4=>rfl
theorem zkZ:∀i:Nat,i<5->∀j:Nat,j<5->kw i=kw j->i=j:=by decide +kernel
theorem zdE{r:Rw}:(uU r)[0]?=some (.inl (kw r.k)):=by
 obtain⟨k,z,b⟩:=r
 match k with
 | 0=>rfl
 | 1=>rfl
 | 2=>rfl
 | 3=>rfl
 | n+4=>rfl
theorem zdD{r:Rw}:(uU r)[1]?=some (.inl r.z):=by
 obtain⟨k,z,b⟩:=r
 match k with
 | 0=>rfl
 | 1=>rfl
 | 2=>rfl
 | 3=>rfl
 | n+4=>rfl
def sbB:Option SB->Bool
 | some (.inr b)=>b
 | _=>true
theorem zdF{r:Rw}:fr r.k r.b=sbB ((uU r)[2]?):=by
 obtain⟨k,z,b⟩:=r
 match k with
 | 0=>rfl
 | 1=>rfl
 | 2=>rfl
 | 3=>rfl
 | n+4=>rfl
theorem zfI{c:C5}{H:Hp}{p:Addr}{r r':Rw}(h:uU r=uU r') (o:r.ok) (o':r'.ok) (hp:PAt c H p r'):PAt c H p r:=by
 have e1:kw r.k=kw r'.k:=by
  have h1:=zdE (r:=r);rw[h,zdE] at h1;exact(Sum.inl.inj (Option.some.inj h1)).symm
 have e2:r.z=r'.z:=by
  have h1:=zdD (r:=r);rw[h,zdD] at h1;exact(Sum.inl.inj (Option.some.inj h1)).symm
 have e3:fr r.k r.b=fr r'.k r'.b:=by rw[zdF,zdF,h]
 have ek:=zkZ _ o.1 _ o'.1 e1;obtain⟨dx,hp⟩:=hp;exact⟨dx,by show H p=some (.ins (c.at r.k) dx (pf (kw r.k) (.str r.z) (fr r.k r.b)));rw[e3,e2,ek];exact hp⟩
def TP(c:C5) (H:Hp) (t:Addr) (r:Rw):Prop:=∃u p,H t=some (.tup [.ref u,.ref p])/\TAt H u r/\PAt c H p r
theorem TP.same{c:C5}{H H':Hp}{t:Addr}{r:Rw}(h:TP c H t r) (s:zo H H'):TP c H' t r:=by
 obtain⟨u,p,h1,h2,h3⟩:=h;exact⟨u,p,s _ _ h1,s _ _ h2,h3.same s⟩
theorem TP.upd{c:C5}{H:Hp}{t D:Addr}{r:Rw}{ys:List V}{o:HO}(h:TP c H t r) (hD:H D=some (.lst ys)):TP c (upd H D o) t r:=by
 obtain⟨u,p,h1,h2,h3⟩:=h;refine⟨u,p,?_,TAt.upd h2 hD,PAt.upd h3 hD⟩;rw[zh (xE h1 hD (by intro z;cases z))]
 exact h1
theorem zd7{c:C5}{H:Hp}{ts:List Addr}{rows:List Rw}(h:Paired (TP c H) ts rows):(∀r∈rows,r.ok)->∃ps:List PV,Paired (zgZ H) ts ps/\ps.map (·.1)=rows.map uU/\∀p∈ps,∃r pa,r.ok/\p.1=uU r/\p.2.2=.ref pa/\PAt c H pa r:=by
 induction h with
 | nil=>exact fun _=>⟨[],.nil,rfl,fun p hp=>by cases hp⟩
 | @cons t r ts rows hd tl ih=>
  intro hok;obtain⟨ps,h1,h2,h3⟩:=ih fun x hx=>hok x (mem_cons_of_mem _ hx);obtain⟨u,p,g1,g2,g3⟩:=hd;refine⟨(uU r,u,.ref p)::ps,.cons ⟨g1,by rw[zfJ];exact g2⟩ h1,by rw[map_cons,map_cons,h2],fun q hq=>?_⟩
  rcases List.mem_cons.mp hq with rfl|hq
  ·exact⟨r,p,hok r mem_cons_self,rfl,rfl,g3⟩
  ·exact h3 q hq
def zdv(c:C5) (CF:Addr):Sp:=fun vs H Q _=>∃(t la lb:Addr) (al:Bool) (us:List Addr) (rows:List Rw) (bars:List Str),vs=[.ref t,.bl al]/\H t=some (.tup [.ref la,.ref lb])/\H la=some (.lst (us.map V.ref))/\Paired (TAt H) us rows/\H lb=some (.lst (bars.map V.str))/\yN rows bars/\
 ∀(f:Addr) (H':Hp),zo H H'->vk c CF H' f rows bars->Q (.ref f) H'
section
variable {P:Program}{w:World}{K:Frag}{mg:Str->Option Value}{base:Heap}{f CF:Addr}{fd:FuncData}{c:C5}
theorem zkM:([Str.ofString "_law_one",Str.ofString "_law_alike",Str.ofString "_law_made_here"]:List Str).Nodup:=by decide +kernel
theorem zdA:zr ["_law_told_here","_law_alike","_law_made_here"] ["_law_told_here","_law_alike"] (zi zcx):=⟨rfl,rfl,rfl,by decide +kernel,rfl,by decide +kernel,by decide +kernel⟩
theorem zf6{gF g1:Addr}{eF e1:FuncData}(F:Fun K "_law_made" "_law_made" zcx f fd) (hdict:mg "dict"=none) (hlst:mg "list"=none) (mCF:mg "Form"=some (.ref CF)) (MF:Mk K CF gF) (GF:zD P w K mg base CX0 3 gF eF ["self","parameters","bars"] (zks c CF)) (bF:zM K eF ["self","parameters","bars"] []) (cP:zG P w K mg base 5 "parameter_of" g1 e1 ["told"] (zis K c)):zD P w K mg base CX0 6 f fd ["_law_told_here","_law_alike"] (zdv c CF):=by
 refine F.ok zdA (fun vs H Q E h=>?_) (fun cdv A outer s H vs Q E hr h=>?_)
 ·obtain⟨t,la,lb,al,us,rows,bars,rfl,_⟩:=h
  rfl
 obtain⟨t,la,lb,al,us,rows,bars,rfl,ht,hla,hu,hlb,V1,q⟩:=h;have hr4:yo 4 _:=hr.mono (by decide)
 have hU:=hr.units;have hu1:=jh hr;have lu:us.length=rows.length:=hu.length;have l24:=V1.l24;have l60:=V1.l60;refine⟨_,zf (zu (i:=2) zdA.nd rfl (Or.inr rfl) (cTy (zdh rfl hU) hdict PyProof.Rows.boot_dict (ac (xn [] ["_law_one"] [none] rfl ⟨rfl,rfl,rfl,rfl⟩ (yE (zB zy (pv 0) zg (fun _ _=>rfl))) (zY 0) rfl rfl rfl
   (fun pins fp s H C=>⟨zl (i:=0) zev rfl (Or.inl rfl) (.inr rfl),yO,zC (ac (pv 0) (ac (cF cP hr (ac (pv 0) zc)) zc))⟩)) zc)))
  (ze (zq (zdH MF GF hr4 rfl mCF bF .nil zW (ac (xn ["_law_made_here","_law_alike"] ["_law_one","_law_alike","_law_made_here"] [none,some 1,some 2] rfl ⟨rfl,rfl,rfl,rfl⟩ (yE (zB zy (pv 0) zg (fun _ _=>rfl))) (zY 0) rfl rfl rfl
   (fun pins fp s H C=>⟨zl (i:=0) zkM rfl (Or.inl rfl) (.inr rfl),yO,vB (yk (pv 1)) (zfR (P:=P) (w:=w) rfl rfl hu1 (pv 2) (pv 0) (fun _ _=>rfl)) (cF cP hr (ac (pv 0) zc))⟩)) (ac (cTy yl hlst PyProof.Rows.boot_list (ac (zB zy (pv 0) zg (fun _ _=>rfl)) zc)) zc))))),?_⟩
 refine⟨_,rfl,t,_,0,.ref la,rfl,rfl,SqT.of ht,rfl,la,rfl,⟨_,SqL.of hla⟩,fun D hD=>?_⟩;refine zdN (K:=K) (bs:=rows) (TP c) TP.same TP.upd (SqL.of hla) (by rw[length_map,lu]) (by omega) hD (fun i x r H' Qf Qs hx hr' sH qf=>?_) fun ts H1 s1 e1 p1=>?_
 ·obtain⟨u,hu',rfl⟩:=xa hx
  obtain⟨r2,hr2',tr⟩:=yg hu hu';rw[hr'] at hr2';cases hr2';have rk:=V1.ok r (mem_of_getElem? hr');refine⟨fun _=>?_,fun e=>Bool.noConfusion e⟩;refine⟨_,rfl,_,rfl,u,r.k,.str r.z,r.b,rfl,rk.1,sH _ _ tr,.inl ⟨r.z,rfl,j6 rk.2⟩,rk.2,fun p dx H2 s2 hp=>⟨zz2,fun t' ht'=>?_⟩⟩;have hp:PAt c H2 p r:=⟨dx,hp⟩;have s3:=zb ht' (.tup [.ref u,.ref p]);exact qf t' _ (s2.trans s3) ⟨u,p,za,(s2.trans s3) _ _ (sH _ _ tr),hp.same s3⟩
 obtain⟨ps,hps,ekeys,hvals⟩:=zd7 p1 V1.ok;refine⟨D,ts,ps,rfl,e1,hps,fun d o hd hdb=>?_⟩;have s2:=zb hd o;dsimp only[yr];generalize upd H1 d o=H2 at s2 hdb |-;have s12:=s1.trans s2;have hla2:=s12 _ _ hla;have hu2:=zP s12 hu;have hlook:∀r∈rows,∃pa,zF (zbX ps []) (uU r)=some (.ref pa)/\PAt c H2 pa r:=fun r hr'=>by
  obtain⟨v,hv,r',pa,ho',ek,ev,hp⟩:=zeI (ps:=ps) (R:=fun k v=>∃r pa,r.ok/\k=uU r/\v=.ref pa/\PAt c H2 pa r) (kvs:=[]) (fun p hp=>by
   obtain⟨r',pa,a1,a2,a3,a4⟩:=hvals p hp;exact⟨r',pa,a1,a2,a3,a4.same s2⟩) (fun k v h=>by cases h) (uU r) (.inl (by rw[ekeys];exact List.mem_map.mpr ⟨r,hr',rfl⟩))
  exact⟨pa,by rw[hv,ev],zfI ek (V1.ok r hr') ho' hp⟩
 refine⟨_,rfl,t,_,0,.ref la,rfl,rfl,SqT.of (s12 _ _ ht),rfl,la,rfl,⟨_,SqL.of hla2⟩,fun D3 hD3=>?_⟩;refine zdN (K:=K) (bs:=rows) (PAt c) PAt.same PAt.upd (SqL.of hla2) (by rw[length_map,lu]) (by omega) hD3 (fun i x r H' Qf Qs hx hr' sH qf=>?_) fun ps' H3 s3 e3 p3=>?_
 ·obtain⟨u,hu',rfl⟩:=xa hx
  obtain⟨r2,hr2',tr⟩:=yg hu2 hu';rw[hr'] at hr2';cases hr2';have hrm:=mem_of_getElem? hr';have rk:=V1.ok r hrm;refine⟨fun _=>?_,fun e=>Bool.noConfusion e⟩;refine⟨_,rfl,_,rfl,?_⟩;cases al with
  | true=>
   refine yY ?_;obtain⟨pa,hv,hp⟩:=hlook r hrm;exact⟨_,rfl,_,rfl,d,u,_,uU r,.ref pa,rfl,rfl,hdb.same sH,by rw[zfJ];exact sH _ _ tr,hv,qf pa H' (zo.refl _) (hp.same sH)⟩
  | false=>
   refine zK ?_;exact⟨_,rfl,u,r.k,.str r.z,r.b,rfl,rk.1,sH _ _ tr,.inl ⟨r.z,rfl,j6 rk.2⟩,rk.2,fun o dx H5 s5 ho=>qf o H5 s5 ⟨dx,ho⟩⟩
 have s13:=s12.trans s3;refine⟨_,rfl,t,_,1,.ref lb,rfl,rfl,SqT.of (s13 _ _ ht),rfl,lb,_,rfl,.inl (SqL.of (s13 _ _ hlb)),fun l2 hl2=>?_⟩;have s4:=zb hl2 (.lst (bars.map V.str));have g2:upd H3 l2 (.lst (bars.map V.str)) l2=some (.lst (bars.map V.str)):=za;generalize upd H3 l2 (.lst (bars.map V.str))=H4 at s4 g2 |-;intro x dx hx hdx hne;have smk:zo H4 (upd (upd H4 dx (.own x)) x (.ins CF dx [])):=xw hx hdx;have hx1:upd (upd H4 dx (.own x)) x (.ins CF dx []) x=some (.ins CF dx []):=za;generalize upd (upd H4 dx (.own x)) x (.ins CF dx [])=H5 at smk hx1 |-;have s14:=s13.trans s4;refine⟨x,D3,dx,.ref l2,ps',rows,bars,rfl,hx1,smk _ _ (s4 _ _ e3),xP (s4.trans smk) p3,.inr ⟨l2,rfl,smk _ _ g2⟩,V1,fun H6 sx F6 L6=>?_⟩;exact⟨rfl,q x H6 (fun b' u e=>sx b' u (smk _ _ (s14 _ _ e)) (zd (s14 _ _ e) hx)) ⟨F6.at,by omega,by omega,V1.ok⟩⟩
end
theorem zdp{κ : Type}[DecidableEq κ] {kvs:List (κ×V)}{k k' : κ}{v:V}:zF (zV kvs k v) k'=if k'=k then some v else zF kvs k':=xt kvs k k' v
theorem j4(r:Rw) (rs:List Rw):nms (r::rs)=(if zR r.k=true then [r.z] else [])++nms rs:=by
 have:=xT [r] rs
 rw[uG] at this;exact this
theorem uO{z:Str}:∀(rows:List Rw) (i:Nat) (acc:List (Key×V)),z∉nms rows->zF (yM i acc rows) (.inr z)=zF acc (.inr z)
 | [],_,_,_=>rfl
 | r::rs,i,acc,h=>by
  rw[j4] at h;have h2:z∉nms rs:=fun e=>h (mem_append_right _ e);show zF (yM (i+1) _ rs) (.inr z)=_;rw[uO rs (i+1) _ h2];split
  next e=>
   rw[zdp,if_neg];intro e2;rw[if_pos e] at h;exact h (by rw[Sum.inr.inj e2];exact mem_append_left _ (List.mem_singleton.mpr rfl))
  ·rfl
theorem wt{r:Rw}(hb:zR r.k=true):∀(rows:List Rw) (i j:Nat) (acc:List (Key×V)),rows[j]?=some r->(nms rows).Nodup->zF (yM i acc rows) (.inr r.z)=some (.int ((i+j:Nat):Int))
 | [],_,_,_,h,_=>by simp at h
 | y::ys,i,0,acc,h,nd=>by
  have e:y=r:=by simpa using h
  subst e;rw[j4,if_pos hb] at nd;have hz:y.z∉nms ys:=(List.nodup_cons.mp nd).1;show zF (yM (i+1) (if zR y.k=true then zV acc (.inr y.z) (.int i) else acc) ys) (.inr y.z)=_
  rw[uO ys (i+1) _ hz,if_pos hb,zdp,if_pos rfl];rfl
 | y::ys,i,j+1,acc,h,nd=>by
  rw[j4] at nd;have nd2:=(List.nodup_append.mp nd).2.1;show zF (yM (i+1) _ ys) (.inr r.z)=_;rw[wt hb ys (i+1) j _ (by simpa using h) nd2,show i+1+j=i+(j+1) by omega]
theorem zg2{a b:List (Str×Nat)}{z:Str}{v:V}(h:zF (kvP a) (.inr z)=some v):zF (kvP (a++b)) (.inr z)=some v:=by
 unfold zF at h |-;unfold kvP at h |-;rw[map_append,List.find?_append];cases e:(a.map fun p=>((Sum.inr p.1:Key),V.int (p.2:Nat))).find? fun kv=>decide (kv.1=.inr z) with
 | none=>rw[e] at h;cases h
 | some kv=>rw[e] at h;exact h
theorem zg1{a:List (Str×Nat)}{z:Str}{i:Nat}(h:(a.any fun p=>decide (p.1=z))=false):zF (kvP (a++[(z,i)])) (.inr z)=some (.int (i:Nat)):=by
 have e0:zF (kvP a) (.inr z)=none:=by
  rw[<- wB] at h;exact Option.not_isSome_iff_eq_none.mp (by rw[h];exact Bool.false_ne_true)
 unfold zF at e0 |-;unfold kvP at e0 |-;rw[map_append,List.find?_append];cases e:(a.map fun p=>((Sum.inr p.1:Key),V.int (p.2:Nat))).find? fun kv=>decide (kv.1=.inr z) with
 | none=>
  rw[Option.none_or,map_cons,find?_cons,decide_eq_true rfl];rfl
 | some kv=>rw[e] at e0;cases e0
theorem zas{z:Str}{v:V}:∀(zs:List Str) (i:Nat) (acc:List (Str×Nat)),zF (kvP acc) (.inr z)=some v->zF (kvP (fpF i acc zs)) (.inr z)=some v
 | [],_,_,h=>h
 | y::ys,i,acc,h=>by
  show zF (kvP (fpF (i+1) (if (acc.any fun p=>decide (p.1=y))=true then acc else acc++[(y,i)]) ys)) _=_
  split
  ·exact zas ys (i+1) acc h
  ·exact zas ys (i+1) _ (zg2 h)
theorem zih{acc:List (Str×Nat)}{z:Str}:(acc.any fun p=>decide (p.1=z))=decide (z∈acc.map (·.1)):=by
 rw[Bool.eq_iff_iff,List.any_eq_true,decide_eq_true_eq,List.mem_map];exact⟨fun⟨p,h1,h2⟩=>⟨p,h1,of_decide_eq_true h2⟩,fun⟨p,h1,h2⟩=>⟨p,h1,decide_eq_true h2⟩⟩
theorem zgi{rows:List Rw}{z:Str}(h:z∈nms rows):∃(l:Nat) (r:Rw),rows[l]?=some r/\zR r.k=true/\r.z=z:=by
 unfold nms at h;obtain⟨r,hr,rfl⟩:=List.mem_map.mp h;rw[List.mem_filter] at hr;obtain⟨l,hl⟩:=List.mem_iff_getElem?.mp hr.1;exact⟨l,r,hl,hr.2,rfl⟩
theorem zeY{rows:List Rw}{bars:List Str}{many:Nat}{z:Str}(h:z∉bars) (hk:z∉nms rows):yu rows bars many z=if (zm 4 0 rows).isSome=true then none else some ("strange" : Str):=by
 have hv:=uO (z:=z) rows 0 [] hk;have e1:yu.lastD' z rows=none:=by unfold yu.lastD';rw[hv];rfl
 unfold yu;rw[if_neg h,e1]
theorem zc9:∀(a b:List Str) (j:Nat) (acc:List (Str×Nat)),fpF j acc (a++b)=fpF (j+a.length) (fpF j acc a) b
 | [],_,_,_=>rfl
 | z::zs,b,j,acc=>by
  show fpF (j+1) _ (zs++b)=fpF (j+(zs.length+1)) (fpF (j+1) _ zs) b;rw[zc9 zs b (j+1),show j+1+zs.length=j+(zs.length+1) by omega]
theorem ziJ:∀(zs:List Str) (j:Nat) (acc:List (Str×Nat)),(∀p∈acc,p.2<j)->∀p∈fpF j acc zs,p.2<j+zs.length
 | [],_,_,h,p,hp=>h p hp
 | z::zs,j,acc,h,p,hp=>by
  have h2:=ziJ zs (j+1) _ (fun q hq=>?_) p hp
  ·rw[length_cons];omega
  ·split at hq
   ·have:=h q hq;omega
   ·rcases List.mem_append.mp hq with hq|hq
    ·have:=h q hq;omega
    ·rw[List.mem_singleton.mp hq];exact lt_succ_self _
theorem wU{zs:List Str}{i:Nat}{z:Str}(h:zs[i]?=some z):zs.take (i+1)=zs.take i++[z]:=by
 have hi:i<zs.length:=(List.getElem?_eq_some_iff.mp h).1;have e:zs[i]=z:=(List.getElem?_eq_some_iff.mp h).2;rw[take_succ_eq_append_getElem hi,e]
theorem zdQ{zs:List Str}{i:Nat}{z:Str}(h:zs[i]?=some z):fpF 0 [] (zs.take (i+1))=if ((fpF 0 [] (zs.take i)).any fun p=>decide (p.1=z))=true then fpF 0 [] (zs.take i) else fpF 0 [] (zs.take i)++[(z,i)]:=by
 have hi:i<zs.length:=(List.getElem?_eq_some_iff.mp h).1;rw[wU h,zc9];have el : 0+(zs.take i).length=i:=by rw[length_take];omega
 rw[el];rfl
theorem za2{zs:List Str}{i:Nat}{z:Str}(h:zs[i]?=some z):decide (zF (kvP (fpZ zs)) (.inr z)=some (.int (i:Nat)))=!((fpF 0 [] (zs.take i)).any fun p=>decide (p.1=z)):=by
 have hi:i<zs.length:=(List.getElem?_eq_some_iff.mp h).1;have e:fpZ zs=fpF (i+1) (fpF 0 [] (zs.take (i+1))) (zs.drop (i+1)):=by
  unfold fpZ
  conv=>lhs;rw[<- take_append_drop (i+1) zs,zc9]
  rw[show 0+(zs.take (i+1)).length=i+1 by rw[length_take];omega]
 cases hb:(fpF 0 [] (zs.take i)).any fun p=>decide (p.1=z) with
 | true=>
  have hs:(zF (kvP (fpF 0 [] (zs.take i))) (.inr z)).isSome=true:=by rw[wB];exact hb
  obtain⟨v,hv⟩:=Option.isSome_iff_exists.mp hs;obtain⟨z',j,ez,ev,hm⟩:=jv hv;have hj:=ziJ (zs.take i) 0 [] (fun p hp=>by cases hp) _ hm
  rw[length_take] at hj;have h2:=zdQ h;rw[hb,if_pos rfl] at h2;have h3:=zas (z:=z) (v:=v) (zs.drop (i+1)) (i+1) (fpF 0 [] (zs.take (i+1))) (by rw[h2];exact hv)
  rw[e,h3,ev];refine decide_eq_false fun e2=>?_
  have:(j:Int)=(i:Int):=V.int.inj (Option.some.inj e2)
  have hj':j<0+min i zs.length:=hj;omega
 | false=>
  have h2:=zdQ h;rw[hb,if_neg (by decide)] at h2
  have h3:=zas (z:=z) (v:=.int (i:Nat)) (zs.drop (i+1)) (i+1) (fpF 0 [] (zs.take (i+1))) (by rw[h2];exact zg1 hb)
  rw[e,h3];exact decide_eq_true rfl
def jz(rows:List Rw) (bars:List Str) (many:Nat) (z:Str):Str:=(yu rows bars many z).getD ""
theorem zeX{rows:List Rw}{bars:List Str}{many:Nat}{z:Str}(nd:(nms rows).Nodup) (h:z∉bars) {l:Nat}{r:Rw}(hl:rows[l]?=some r) (hb:zR r.k=true) (he:r.z=z):jz rows bars many z=if l<min many (plN rows) then "again" else "":=by
 have hv:=wt hb rows 0 l [] hl nd;rw[he] at hv;have e1:yu.lastD' z rows=some l:=by unfold yu.lastD';rw[hv,Nat.zero_add];rfl
 unfold jz yu;rw[if_neg h,e1];show(if l<plN rows/\l<many then some ("again" : Str) else none).getD ""=_
 by_cases hc:l<plN rows/\l<many
 ·rw[if_pos hc,if_pos (by omega)];rfl
 ·rw[if_neg hc,if_neg (by omega)];rfl
theorem qE{rows:List Rw}{bars:List Str}{many:Nat}{z:Str}:yu rows bars many z=if jz rows bars many z="" then none else some (jz rows bars many z):=by
 unfold jz;cases h:yu rows bars many z with
 | none=>rfl
 | some x=>
  have hx:x≠"":=by
   unfold yu at h;split at h
   ·cases h;decide +kernel
   ·split at h
    ·split at h
     ·cases h
     ·cases h;decide +kernel
    ·split at h
     ·cases h;decide +kernel
     ·cases h
  rw[if_neg (show ¬(some x).getD ""="" from hx)];rfl
theorem zdO{r:Rw}{i many:Nat}{fk:List (Key×V)}:yc r i many fk=(!fr r.k r.b&&!(xl r.k&&decide (i<many))&&!(zR r.k&&(zF fk (.inr r.z)).isSome)):=by
 unfold yc uf;by_cases h1:xl r.k=true/\i<many
 ·rw[if_pos h1,h1.1,decide_eq_true h1.2]
  have e:L2.eqT [.str "place",.int (i:Nat)] [.str "free"]=false:=rfl;rw[e];simp
 ·rw[if_neg h1]
  have hn:(xl r.k&&decide (i<many))=false:=by
   cases hp:xl r.k with
   | false=>rfl
   | true=>exact decide_eq_false fun h=>h1 ⟨hp,h⟩
  rw[hn];by_cases h2:zR r.k=true/\(zF fk (.inr r.z)).isSome=true
  ·rw[if_pos h2,h2.1,h2.2]
   have e:∀v,L2.eqT [.str "name",v] [.str "free"]=false:=fun v=>by unfold L2.eqT;simp
   rw[e];simp
  ·rw[if_neg h2]
   have hn2:(zR r.k&&(zF fk (.inr r.z)).isSome)=false:=by
    cases hp:zR r.k with
    | false=>rfl
    | true=>
     cases hq:(zF fk (.inr r.z)).isSome with
     | false=>rfl
     | true=>exact absurd ⟨hp,hq⟩ h2
   rw[hn2];have e:L2.eqT [.str "free"] [.str "free"]=true:=by unfold L2.eqT;simp [range_succ,eqV]
   rw[e];simp
theorem zbu{rows:List Rw}(hok:∀r∈rows,r.ok) (ho:yn 0 rows=true) {i:Nat}{r:Rw}(h:rows[i]?=some r):xl r.k=decide (i<plN rows):=by
 obtain⟨A,B,e,hl,hA,hB⟩:=jC rows hok ho;have hn:plN rows=plN A+plN B:=by
  unfold plN;rw[e,filter_append,length_append]
 have hA2:plN A=A.length:=by
  unfold plN;rw[List.filter_eq_self.mpr fun x hx=>?_];rw[zgA (hok x (by rw[e];exact mem_append_left _ hx)).1,hA x hx]
  rfl
 have hB2:plN B=0:=by omega
 have hB3:∀x∈B,xl x.k=false:=fun x hx=>by
  unfold plN at hB2;rw[List.length_eq_zero_iff,List.filter_eq_nil_iff] at hB2
  have:=hB2 x hx
  simpa using this
 by_cases hi:i<plN rows
 ·rw[decide_eq_true hi]
  rw[e,List.getElem?_append_left (by omega)] at h
  have hm:=mem_of_getElem? h;rw[zgA (hok r (by rw[e];exact mem_append_left _ hm)).1,hA r hm]
  rfl
 ·rw[decide_eq_false hi]
  rw[e,List.getElem?_append_right (by omega)] at h
  exact hB3 r (mem_of_getElem? h)
theorem uM{zs:List Str}{z:Str}:(zF (kvP (fpZ zs)) (.inr z)).isSome=decide (z∈zs):=by
 rw[wB,Bool.eq_iff_iff,decide_eq_true_eq];constructor
 ·intro h
  have key:∀(zs:List Str) (i:Nat) (acc:List (Str×Nat)),((fpF i acc zs).any fun p=>decide (p.1=z))=true->(acc.any fun p=>decide (p.1=z))=true\/z∈zs:=by
   intro zs;induction zs with
   | nil=>exact fun i acc h=>.inl h
   | cons y ys ih=>
    intro i acc h;rcases ih (i+1) _ h with h|h
    ·split at h
     ·exact .inl h
     ·rw[any_append,Bool.or_eq_true] at h
      rcases h with h|h
      ·exact .inl h
      ·right
       simp at h;rw[h];exact mem_cons_self
    ·exact .inr (mem_cons_of_mem _ h)
  rcases key zs 0 [] h with h|h
  ·simp at h
  ·exact h
 ·exact fun h=>zc8 zs 0 [] h
theorem zdS{zs:List Str}{z:Str}:z∈(fpZ zs).map (·.1) ↔ z∈zs:=by
 have h1:((fpZ zs).any fun p=>decide (p.1=z))=decide (z∈zs):=by rw[<- wB,uM]
 rw[zih,Bool.eq_iff_iff,decide_eq_true_eq,decide_eq_true_eq] at h1;exact h1
theorem zg3{rows:List Rw}{bars:List Str}{many:Nat}{zs:List Str}:ub rows bars many (fpZ zs)=[] ↔ ∀z∈zs,yu rows bars many z=none:=by
 unfold ub;rw[List.filterMap_eq_nil_iff];constructor
 ·intro h z hz
  obtain⟨p,hp,rfl⟩:=List.mem_map.mp (zdS.mpr hz)
  have:=h p hp
  rwa [Option.map_eq_none_iff] at this
 ·intro h p hp
  rw[Option.map_eq_none_iff];exact h _ (zdS.mp (List.mem_map.mpr ⟨p,hp,rfl⟩))
theorem qj{fk:List (Key×V)}:∀(zs:List Str) (i:Nat),uP fk i zs=[] ↔ ∀j z,zs[j]?=some z->zF fk (.inr z)=some (.int ((i+j:Nat):Int))
 | [],i=>by simp [uP]
 | y::ys,i=>by
  show(if zF fk (.inr y)=some (.int (i:Nat)) then [] else [(("doubled" : Str),i)])++uP fk (i+1) ys=[] ↔ _
  rw[List.append_eq_nil_iff,qj ys (i+1)];constructor
  ·rintro⟨h1,h2⟩ j z hj
   cases j with
   | zero=>
    have:y=z:=by simpa using hj
    subst this;split at h1
    next e=>exact e
    ·cases h1
   | succ j=>
    have:=h2 j z (by simpa using hj)
    rw[this]
    congr 3
    omega
  ·intro h
   refine⟨?_,fun j z hj=>?_⟩
   ·have h0:=h 0 y rfl
    rw[add_zero] at h0;rw[if_pos h0]
   ·have:=h (j+1) z (by simpa using hj)
    rw[this]
    congr 3
    omega
theorem fpT{zs:List Str}{z:Str}:((fpF 0 [] zs).any fun p=>decide (p.1=z))=decide (z∈zs):=by
 have:=uM (zs:=zs) (z:=z)
 rw[wB] at this;exact this
theorem zdY{zs:List Str}:uP (kvP (fpZ zs)) 0 zs=[] ↔ zs.Nodup:=by
 rw[qj,List.nodup_iff_pairwise_ne];constructor
 ·intro h
  rw[List.pairwise_iff_getElem];intro i j hi hj hij e;have h1:=za2 (zs:=zs) (i:=j) (z:=zs[j]) (getElem?_eq_getElem hj);have h2:=h j _ (getElem?_eq_getElem hj);rw[Nat.zero_add] at h2;rw[decide_eq_true h2,fpT] at h1;have hm:zs[j]∈zs.take j:=by
   rw[<- e];rw[List.mem_iff_getElem];exact⟨i,by rw[length_take];omega,by rw[getElem_take]⟩
  rw[decide_eq_true hm] at h1;cases h1
 ·intro h j z hj
  have h1:=za2 hj;rw[fpT] at h1;have hn:z∉zs.take j:=by
   intro hm;obtain⟨i,hi,e⟩:=List.mem_iff_getElem.mp hm;rw[length_take] at hi;rw[getElem_take] at e;have hjl:j<zs.length:=(List.getElem?_eq_some_iff.mp hj).1
   have:=(List.pairwise_iff_getElem.mp h) i j (by omega) hjl (by omega)
   rw[getElem?_eq_getElem hjl] at hj;exact this (e.trans (Option.some.inj hj).symm)
  rw[decide_eq_false hn] at h1;rw[Nat.zero_add];exact of_decide_eq_true h1
theorem zbA{rows:List Rw}{many:Nat}:wA rows many=[] ↔ ((zm 2 0 rows).isSome=true\/many<=plN rows):=by
 unfold wA;split
 next h=>simp [h]
 next h=>
  rw[List.map_eq_nil_iff,List.range_eq_nil];constructor
  ·intro e;right;omega
  ·rintro (e|e)
   ·exact absurd e h
   ·omega
theorem zaa{many:Nat}{fk:List (Key×V)}:∀(rows:List Rw) (i:Nat),wf many fk i rows=[] ↔ ∀j r,rows[j]?=some r->yc r (i+j) many fk=false
 | [],i=>by simp [wf]
 | y::ys,i=>by
  show(if yc y i many fk=true then [(("lacking" : Str),i)] else [])++wf many fk (i+1) ys=[] ↔ _
  rw[List.append_eq_nil_iff,zaa ys (i+1)];constructor
  ·rintro⟨h1,h2⟩ j z hj
   cases j with
   | zero=>
    have:y=z:=by simpa using hj
    subst this;split at h1
    ·cases h1
    next e=>exact Bool.eq_false_iff.mpr e
   | succ j=>
    have:=h2 j z (by simpa using hj)
    rw[show i+(j+1)=i+1+j by omega]
    exact this
  ·intro h
   refine⟨?_,fun j z hj=>?_⟩
   ·have:=h 0 y rfl
    rw[add_zero] at this;rw[if_neg (by rw[this];decide)]
   ·have:=h (j+1) z (by simpa using hj)
    rw[show i+1+j=i+(j+1) by omega]
    exact this
theorem uT{rows:List Rw}{i:Nat}{r:Rw}(h:rows[i]?=some r):rows.zipIdx[i]?=some (r,i):=by
 rw[getElem?_zipIdx,h];simp
theorem zcc{rows:List Rw}{y:Rw×Nat}(h:y∈rows.zipIdx):rows[y.2]?=some y.1:=by
 obtain⟨i,hi⟩:=List.mem_iff_getElem?.mp h;rw[getElem?_zipIdx] at hi;cases hr:rows[i]? with
 | none=>rw[hr] at hi;cases hi
 | some r=>
  rw[hr] at hi
  have:(r,0+i)=y:=Option.some.inj hi
  subst this;rw[Nat.zero_add];exact hr
def zdq:Sp:=fun vs H Q _=>∃(t la lb:Addr) (many more:Int) (us:List Addr) (rows:List Rw),vs=[.ref t,.int many,.int more]/\H t=some (.tup [.ref la,.ref lb])/\H la=some (.lst (us.map V.ref))/\Paired (TAt H) us rows/\(∀r∈rows,r.ok)/\rows.length<=24/\∀(l:Addr) (zs:List Str) (H':Hp),zo H H'->H l=none->H' l=some (.lst (zs.map V.str))->zs.length<=24->Q (.ref l) H'
theorem zie:∀k:Nat,k<5->decide (V.str (kw k)=V.str "both")=decide (k=1):=by decide +kernel
theorem ze4:∀k:Nat,k<5->decide (V.str (kw k)=V.str "tag")=decide (k=3):=by decide +kernel
theorem zkY{x:V}{k:Nat}{b:Bool}(h:k=1\/k=3):atI (jR k x b) 2=some (.bl b):=by rcases h with rfl|rfl <;> rfl
section
variable {P:Program}{w:World}{K:Frag}{mg:Str->Option Value}{base:Heap}{f CF:Addr}{fd:FuncData}{c:C5}
theorem jp:zr ["_law_told_here","_law_many","_law_more","_law_names","_law_at","_law_one"] ["_law_told_here","_law_many","_law_more"] (zi zcm):=⟨rfl,rfl,rfl,by decide +kernel,rfl,by decide +kernel,by decide +kernel⟩
theorem zfY{g1:Addr}{d1:FuncData}(F:Fun K "_law_told_names" "_law_told_names" zcm f fd) (hen:mg "enumerate"=none) (cM:zG P w K mg base 1 "_law_mix" g1 d1 ["_law_cell_here","_law_k"] jD):zD P w K mg base CX0 2 f fd ["_law_told_here","_law_many","_law_more"] zdq:=by
 refine F.ok jp (fun vs H Q E h=>?_) (fun cdv A outer s H vs Q E hr h=>?_)
 ·obtain⟨t,la,lb,many,more,us,rows,rfl,_⟩:=h
  rfl
 obtain⟨t,la,lb,many,more,us,rows,rfl,ht,hla,hu,hok,l24,q⟩:=h;refine⟨_,zf (zu (i:=3) jp.nd rfl (Or.inl rfl) (zO zc))
  (zf (xq PassesOwn.never rfl (yH rfl hen (ac (zB zy (pv 0) zg (fun _ _=>rfl)) zc)) (yi rfl (zp (zl (i:=4) jp.nd rfl (Or.inl rfl)) (zp (zl (i:=5) jp.nd rfl (Or.inl rfl)) zS)))
   (ze (zH (PW.pt (wc (PW.pt (yw (zk z7 (zB zy (pv 5) zg (fun _ _=>rfl)) zj (zt _)) (yd (zk ziD (pv 4) (pv 1) (zt _))))) (xM (zk z7 (zB zy (pv 5) zg (fun _ _=>rfl)) zj (zt _)))))
    (ze (zH (PW.pt (wc (xf (yk (zB zy (pv 5) zg (fun _ _=>rfl)))) (xM (zk z7 (zx yf (cF cM hr (ac (pv 2) (ac (pv 4) zc))) zg) zg (zt _)))))
     (ze (zI (y3 PySem.F.plainAttrs_list PySem.F.slot_list_append PySem.F.type_list_append zQ (pv 3) (ac (zB zy (pv 5) zg (fun _ _=>rfl)) zc)))) zv)) zv)))
  (ze (zq (pv 3)))),?_⟩
 refine⟨zz0,fun l hl=>?_⟩;have s1:=zb hl (.lst []);have g1:upd H l (.lst []) l=some (.lst []):=za;dsimp only[yr];generalize upd H l (.lst [])=H1 at s1 g1 |-;have lu:us.length=rows.length:=hu.length;refine⟨_,rfl,t,_,0,.ref la,rfl,rfl,SqT.of (s1 _ _ ht),rfl,la,rfl,⟨_,SqL.of (s1 _ _ hla)⟩,xY (K:=K) (a:=la) (xs:=us.map V.ref) (fun i σ H'=>∃(zs:List Str) (v4 v5:Option V),σ=[some (.ref t),some (.int many),some (.int more),some (.ref l),v4,v5]/\zo H H'/\H' l=some (.lst (zs.map V.str))/\zs.length<=i) ⟨[],_,_,rfl,s1,g1,le_refl _⟩ (fun i σ H' _ ⟨_,_,_,_,sH,_⟩=>SqL.of (sH _ _ hla)) ?_ ?_⟩
 ·rintro i x tn σ H2 hx ⟨zs,v4,v5,rfl,s2,e2,l2⟩ htn
  obtain⟨u,hu',rfl⟩:=xa hx;obtain⟨r,hr',tr⟩:=yg hu hu';have rk:=hok r (mem_of_getElem? hr');have hi:i<24:=by have:=(List.getElem?_eq_some_iff.mp hr').1;omega
  have sp:=zb htn (.tup [.int (i:Nat),.ref u]);refine⟨tn,_,rfl,SqT.of za,rfl,_,_,rfl,_,_,rfl,rfl,?_⟩;have s3:=s2.trans sp;have e3:=sp _ _ e2;generalize upd H2 tn (.tup [.int (i:Nat),.ref u])=H3 at sp s3 e3 |-;have tu:H3 u=some (.tup (jR r.k (.str r.z) r.b)):=s3 _ _ tr;have skip:∀H',zo H H'->H' l=some (.lst (zs.map V.str))->∃(zs':List Str) (v4 v5:Option V),[some (V.ref t),some (.int many),some (.int more),some (.ref l),some (.int (i:Nat)),some (.ref u)]=[some (V.ref t),some (.int many),some (.int more),some (.ref l),v4,v5]/\zo H H'/\H' l=some (.lst (zs'.map V.str))/\zs'.length<=i+1:=fun H' sH e=>⟨zs,_,_,rfl,sH,e,by omega⟩
  have add:∃(zs':List Str) (v4 v5:Option V),[some (V.ref t),some (.int many),some (.int more),some (.ref l),some (.int (i:Nat)),some (.ref u)]=[some (V.ref t),some (.int many),some (.int more),some (.ref l),v4,v5]/\zo H (upd H3 l (.lst (zs.map V.str++[.str r.z])))/\upd H3 l (.lst (zs.map V.str++[.str r.z])) l=some (.lst (zs'.map V.str))/\zs'.length<=i+1:=⟨zs++[r.z],_,_,rfl,fun b o e=>by rw[zh (zd e hl)];exact s3 _ _ e,by rw[za,map_append];rfl,by rw[length_append,length_singleton];omega⟩
  have lz:(zs.map V.str).length<sizeLine:=zE (by rw[length_map];omega)
  refine⟨_,rfl,u,_,0,_,rfl,rfl,SqT.of tu,qv rk.1,rfl,_,rfl,?_⟩;rw[zie r.k rk.1];by_cases k1:r.k=1
  ·refine dT k1 ?_
   refine⟨_,rfl,_,rfl,_,_,rfl,rfl,_,rfl,?_⟩;by_cases hm:many<=((i:Nat):Int)
   ·refine dT hm ?_
    refine⟨_,rfl,u,_,2,_,rfl,rfl,SqT.of tu,zkY (.inl k1),_,rfl,?_⟩;cases hb:r.b with
    | false=>
     refine yY ?_;exact⟨_,rfl,.inl ⟨rfl,_,SqL.of e3⟩,_,rfl,u,_,1,_,rfl,rfl,SqT.of tu,zgn,l,_,_,rfl,rfl,e3,lz,add⟩
    | true=>
     refine zK ?_;refine⟨_,rfl,_,rfl,more,_,rfl,_,_,rfl,rfl,zp2,rfl,_,rfl,?_⟩;by_cases h2:xH more ((i:Nat):Int) % 2=0
     ·refine dT (congrArg V.int h2) ?_
      exact⟨_,rfl,.inl ⟨rfl,_,SqL.of e3⟩,_,rfl,u,_,1,_,rfl,rfl,SqT.of tu,zgn,l,_,_,rfl,rfl,e3,lz,add⟩
     ·refine dF (fun e=>h2 (V.int.inj e)) ?_
      exact skip _ s3 e3
   ·refine dF hm ?_
    refine⟨_,rfl,u,_,0,_,rfl,rfl,SqT.of tu,qv rk.1,rfl,_,rfl,?_⟩;rw[ze4 r.k rk.1];refine dF (by omega) ?_
    exact skip _ s3 e3
  ·refine dF k1 ?_
   refine⟨_,rfl,u,_,0,_,rfl,rfl,SqT.of tu,qv rk.1,rfl,_,rfl,?_⟩;rw[ze4 r.k rk.1];by_cases k3:r.k=3
   ·refine dT k3 ?_
    refine⟨_,rfl,u,_,2,_,rfl,rfl,SqT.of tu,zkY (.inr k3),_,rfl,?_⟩;cases hb:r.b with
    | false=>
     refine yY ?_;exact⟨_,rfl,.inl ⟨rfl,_,SqL.of e3⟩,_,rfl,u,_,1,_,rfl,rfl,SqT.of tu,zgn,l,_,_,rfl,rfl,e3,lz,add⟩
    | true=>
     refine zK ?_;refine⟨_,rfl,_,rfl,more,_,rfl,_,_,rfl,rfl,zp2,rfl,_,rfl,?_⟩;by_cases h2:xH more ((i:Nat):Int) % 2=0
     ·refine dT (congrArg V.int h2) ?_
      exact⟨_,rfl,.inl ⟨rfl,_,SqL.of e3⟩,_,rfl,u,_,1,_,rfl,rfl,SqT.of tu,zgn,l,_,_,rfl,rfl,e3,lz,add⟩
     ·refine dF (fun e=>h2 (V.int.inj e)) ?_
      exact skip _ s3 e3
   ·refine dF k3 ?_
    exact skip _ s3 e3
 ·rintro σ H2 ⟨zs,v4,v5,rfl,s2,e2,l2⟩
  refine⟨_,rfl,q l zs H2 s2 hl e2 ?_⟩;rw[length_map] at l2;omega
end
end K51
namespace L2
open PySem PySem.Spec PyProof.Rows
section
variable {X:Cx}
theorem qo(bt:Nat->Nat->Bool):∀k,argBest bt k<=k
 | 0=>le_refl _
 | k+1=>by
  unfold argBest;split
  ·exact le_refl _
  ·exact le_succ_of_le (qo bt k)
theorem zeR(hc:X.calm=true):xv X (.builtin "max") (fun xs H Q=>∃(p:Addr) (ns:List Int),xs=[.ref p]/\SqL X.K H p (ns.map V.int)/\ns≠[]/\∀m∈ns,Q (.int m) H):=by
 intro pins s σ H xs us Q I r h;obtain⟨p,ns,rfl,hS,hne,q⟩:=h;obtain⟨u,rfl,ru⟩:=vt r;cases ru;obtain⟨its,rv,hp,hz⟩:=I.list hS;have hlen:its.length=ns.length:=by rw[<- rv.length,length_map]
 have hlt:p<s.heap.objs.size:=by obtain⟨_,e,_⟩:=hp.isList;exact Heap.lt_size e
 have hpne:p≠s.heap.objs.size:=ne_of_lt hlt;have hn0 : 0<ns.length:=List.length_pos_iff.mpr hne;have hval:∀(i:Nat) (v:Value),its.toArray[i]?=some v->∃t,v=.int (ns.getD i 0) t:=fun i v hP=>by
  have hv:its[i]?=some v:=by simpa using hP
  have hi:i<ns.length:=by rw[<- hlen];exact(List.getElem?_eq_some_iff.mp hv).1
  obtain⟨u',e1,t,e2⟩:=rv.get (i:=i) (x:=V.int ns[i]) (by rw[getElem?_map,getElem?_eq_getElem hi];rfl)
  rw[hv] at e1;cases e1;refine⟨t,?_⟩;rw[e2,getD_eq_getElem?_getD,getElem?_eq_getElem hi];rfl
 refine call_max_walk (wpAny_pyIter_list hp.isList ?_);refine⟨s.heap.objs.size,_,_,_,_,_,_,rfl,Walks.list (A:=X.A.in1) (I.ok.hd hc) s.heap.objs.size p hpne its.toArray,⟨⟨_,Heap.get?_push_size _ rfl,rfl,rfl⟩,hp.isList.push _⟩,fun b hb=>?_,by rw[size_toArray,hlen];exact hn0,CmpOf.ints_gt (fun i=>ns.getD i 0) hval,fun v h' tk hP hk=>?_⟩
 ·show b<(s.heap.push _).objs.size
  rw[Heap.size_push];rcases List.mem_cons.mp hb with rfl|hb
  ·exact lt_succ_self _
  ·rcases List.mem_cons.mp hb with rfl|hb
   ·exact Nat.lt_succ_of_lt hlt
   ·cases hb
 ·obtain⟨t,rfl⟩:=hval _ _ hP
  have hb:=qo (fun i j=>decide (ns.getD i 0>ns.getD j 0)) (its.toArray.size - 1);generalize argBest (fun i j=>decide (ns.getD i 0>ns.getD j 0)) (its.toArray.size - 1)=k at hb hP |-;rw[size_toArray,hlen] at hb;have hkl:k<ns.length:=by omega
  refine⟨.int (ns.getD k 0),H,I.kept (old_kept hk),⟨t,rfl⟩,q _ ?_⟩;rw[getD_eq_getElem?_getD,getElem?_eq_getElem hkl];exact getElem_mem hkl
end
end L2
namespace K51
open PySem L2 PyProof.Rows
theorem zdo{α : Type}{R:Addr->α->Prop}{us:List Addr}{ms:List α}(h:Paired R us ms) (g : α->V):(((us.zip ms).filter fun _=>true).map fun p=>g p.2)=ms.map g:=by
 induction h with
 | nil=>rfl
 | cons r t ih=>
  rw[zip_cons_cons,filter_cons,if_pos rfl,map_cons,map_cons,ih]
def qI(K:Frag):Sp:=fun vs H Q _=>∃(t la lb pa:Addr) (cell more:Int) (us:List Addr) (rows:List Rw) (bars pool:List Str),vs=[.ref t,.ref pa,.int cell,.int more]/\H t=some (.tup [.ref la,.ref lb])/\H la=some (.lst (us.map V.ref))/\Paired (TAt H) us rows/\H lb=some (.lst (bars.map V.str))/\yN rows bars/\H pa=some (.lst (pool.map V.str))/\pool.length=26/\Builtin.Int.intBits cell<=1048600/\Builtin.Int.intBits more<=1048600/\
 ∀(p l1 l2:Addr) (ts:List Int) (ys:List V) (ps:List (Str×Int)) (H':Hp),zo H H'->H' p=some (.tup [.ref l1,.ref l2])->H' l1=some (.lst (ts.map V.int))->H' l2=some (.lst ys)->Paired (zA K T' H' 1) ys (ps.map yQ)->ts.length<=60->ps.length<=60->Q (.ref p) H'
theorem zff{α : Type}(ys:List α) (keep : α->Bool) (g : α->Str):∃zs:List Str,((ys.filter keep).map fun y=>V.str (g y))=zs.map V.str/\zs.length<=ys.length:=⟨(ys.filter keep).map g,by rw[map_map];rfl,by rw[length_map];exact length_filter_le _ _⟩
theorem za9{R:Addr->Rw->Prop}:∀{us:List Addr}{rows:List Rw},Paired R us rows->∀(keep:Rw->Bool),∃us':List Addr,(((us.zip rows).filter fun p=>keep p.2).map fun p=>V.ref p.1)=us'.map V.ref/\Paired R us' (rows.filter keep)
 | _,_,.nil,_=>⟨[],rfl,.nil⟩
 | _,_,.cons (a:=u) (b:=r) h t,keep=>by
  obtain⟨us',e,p⟩:=za9 t keep;cases hk:keep r
  ·refine⟨us',?_,?_⟩
   ·rw[zip_cons_cons,filter_cons,if_neg (by rw[hk];decide)];exact e
   ·rw[filter_cons,if_neg (by rw[hk];decide)];exact p
  ·refine⟨u::us',?_,?_⟩
   ·rw[zip_cons_cons,filter_cons,if_pos hk,map_cons,e];rfl
   ·rw[filter_cons,if_pos hk];exact .cons h p
theorem zfh:∀k:Nat,k<5->decide (V.str (kw k)=V.str "seat")=decide (k=0):=by decide +kernel
theorem zkX{x:V}{k:Nat}{b:Bool}(h:k=0):atI (jR k x b) 2=some (.bl b):=by subst h;rfl
section
variable {P:Program}{w:World}{K:Frag}{mg:Str->Option Value}{base:Heap}{f CF:Addr}{fd:FuncData}{c:C5}
theorem zkU:([Str.ofString "_law_at",Str.ofString "_law_one"]:List Str).Nodup:=by decide +kernel
theorem zgk:([Str.ofString "_law_k",Str.ofString "_law_name",Str.ofString "_law_more",Str.ofString "_law_shut"]:List Str).Nodup:=by decide +kernel
theorem zlN:([Str.ofString "_law_k",Str.ofString "_law_cell_here"]:List Str).Nodup:=by decide +kernel
theorem ziF:([Str.ofString "_law_k",Str.ofString "_law_name",Str.ofString "_law_more"]:List Str).Nodup:=by decide +kernel
theorem vm:zr ["_law_told_here","_law_pool_here","_law_cell_here","_law_more","_law_sorts","_law_places","_law_low","_law_many","_law_names","_law_shut","_law_turn","_law_things"] ["_law_told_here","_law_pool_here","_law_cell_here","_law_more"] (zi jM):=⟨rfl,rfl,rfl,by decide +kernel,rfl,by decide +kernel,by decide +kernel⟩
theorem zcQ{g1 g2 g3:Addr}{d1 d2 d3:FuncData}(F:Fun K "_law_fitting" "_law_fitting" jM f fd) (U:jb mg) (cM:zG P w K mg base 1 "_law_mix" g1 d1 ["_law_cell_here","_law_k"] jD) (cT:zG P w K mg base 2 "_law_thing" g2 d2 ["_law_cell_here","_law_k"] zax) (cN:zG P w K mg base 2 "_law_told_names" g3 d3 ["_law_told_here","_law_many","_law_more"] zdq):zD P w K mg base CX0 3 f fd ["_law_told_here","_law_pool_here","_law_cell_here","_law_more"] (qI K):=by
 refine F.ok vm (fun vs H Q E h=>?_) (fun cdv A outer s H vs Q E hr h=>?_)
 ·obtain⟨t,la,lb,pa,cell,more,us,rows,bars,pool,rfl,_⟩:=h
  rfl
 obtain⟨t,la,lb,pa,cell,more,us,rows,bars,pool,rfl,ht,hla,hu,hlb,V1,hpa,l26,b1,b2,q⟩:=h;have hr1:yo 1 _:=hr.mono (by decide)
 have l24:=V1.l24;have hok:=V1.ok;refine⟨_,zf (je (i:=4) [] ["_law_one"] [none] vm.nd rfl (Or.inl rfl) rfl ⟨rfl,rfl,rfl,rfl⟩ (yE (zB zy (pv 0) zg (fun _ _=>rfl))) (zY 0) rfl rfl rfl
   (fun pins fp s H C=>⟨zl (i:=0) zev rfl (Or.inl rfl) (.inr rfl),yO,zB (r:=qu K) zy (pv 0) zg (fun _ _=>rfl)⟩))
  (zf (je (i:=5) [] ["_law_one"] [none] vm.nd rfl (Or.inl rfl) rfl ⟨rfl,rfl,rfl,rfl⟩ (yE (zB zy (pv 0) zg (fun _ _=>rfl))) (zY 0) rfl rfl rfl
   (fun pins fp s H C=>⟨zl (i:=0) zev rfl (Or.inl rfl) (.inr rfl),yX (zk (r:=rIn K false) yh (zB (r:=qu K) zy (pv 0) zg (fun _ _=>rfl)) (zO (ac zj (ac zj zc))) (by with_unfolding_all rfl)),pv 0⟩))
  (zf (zu (i:=6) vm.nd rfl (Or.inl rfl) (cB (zeR rfl) U.max boot_max (ac (zx xx (zO (ac zg zc)) (xn [] ["_law_at","_law_one"] [none,none] rfl ⟨rfl,rfl,rfl,rfl⟩ (yH rfl U.en (ac (pv 5) zc)) (yG (K:=K) (n:=2) 0 1) rfl rfl rfl
   (fun pins fp s H C=>⟨yi rfl (zp (zl (i:=0) zkU rfl (Or.inl rfl) (.inr rfl)) (zp (zl (i:=1) zkU rfl (Or.inl rfl) (.inr rfl)) zS)),yX (PW.pt (yw (zk z7 (zB (r:=qu K) zy (pv 1) zg (fun _ _=>rfl)) zj (zt _)) (yd (xf (yk (zB (r:=qu K) zy (pv 1) zg (fun _ _=>rfl))))))),zx yz (pv 0) zg⟩))) zc)))
  (zf (zu (i:=7) vm.nd rfl (Or.inl rfl) (zx yz (pv 6) (zx yf (pv 2) (zx yz (zx jW (cB zw U.len PySem.boot_len (ac (pv 5) zc)) (pv 6)) zg))))
  (zf (zu (i:=8) vm.nd rfl (Or.inl rfl) (cF cN hr (ac (pv 0) (ac (pv 7) (ac (pv 3) zc)))))
  (zf (zH (PW.pt (yw (zk yh zj (pv 4) (by with_unfolding_all rfl)) (yd (zk z7 (pv 7) (cB zw U.len PySem.boot_len (ac (pv 5) zc)) (zt _))))) (ze (zu (i:=7) vm.nd rfl (Or.inl rfl) (zx yz (pv 7) (zx yf (zx xS (pv 2) zg) zg)))) zv)
  (zf (zH (zk yh zj (pv 4) (by with_unfolding_all rfl))
   (zf (zu (i:=9) vm.nd rfl (Or.inr rfl) (zx xx (xn [] ["_law_one"] [none] rfl ⟨rfl,rfl,rfl,rfl⟩ (yE (zB zy (pv 0) zg (fun _ _=>rfl))) (zY 0) rfl rfl rfl
    (fun pins fp s H C=>⟨zl (i:=0) zev rfl (Or.inl rfl) (.inr rfl),yX (zk (r:=rIn K false) yh (zB (r:=qu K) zy (pv 0) zg (fun _ _=>rfl)) (zO (ac zj (ac zj zc))) (by with_unfolding_all rfl)),zB (r:=qu K) zy (pv 0) zg (fun _ _=>rfl)⟩)) (zB zy (pv 0) zg (fun _ _=>rfl))))
   (ze (zu (i:=8) vm.nd rfl (Or.inl rfl) (zx xx (pv 8) (xn ["_law_shut","_law_more"] ["_law_k","_law_name","_law_more","_law_shut"] [none,none,some 3,some 9] rfl ⟨rfl,rfl,rfl,rfl⟩ (yH rfl U.en (ac (pv 1) zc)) (yG (K:=K) (n:=2) 0 1) rfl rfl rfl
    (fun pins fp s H C=>⟨yi rfl (zp (zl (i:=0) zgk rfl (Or.inl rfl) (.inr rfl)) (zp (zl (i:=1) zgk rfl (Or.inl rfl) (.inr rfl)) zS)),yX (PW.pt (yw (zk (r:=rIn K true) vc (pv 1) (pv 3) (by with_unfolding_all rfl)) (yd (zk z7 (zx yf (cF cM hr1 (ac (pv 2) (ac (zx yz (pv 0) zg) zc))) zg) zg (zt _))))),pv 1⟩)))))) zv)
  (zf (zu (i:=10) vm.nd rfl (Or.inl rfl) (zx yf (pv 3) (zx yz (cB zw U.len PySem.boot_len (ac (pv 8) zc)) zg)))
  (zf (zu (i:=8) vm.nd rfl (Or.inl rfl) (zx xx (ye yC (pv 8) (yp (pv 10)) yD) (ye yC (pv 8) yD (yp (pv 10)))))
  (zf (je (i:=11) ["_law_cell_here"] ["_law_k","_law_cell_here"] [none,some 2] vm.nd rfl (Or.inl rfl) rfl ⟨rfl,rfl,rfl,rfl⟩ (xO rfl U.range (ac (pv 7) zc)) (zY 0) rfl rfl rfl
   (fun pins fp s H C=>⟨zl (i:=0) zlN rfl (Or.inl rfl) (.inr rfl),yO,cF cT hr (ac (pv 1) (ac (pv 0) zc))⟩))
  (ze (zq (zC (ac (pv 11) (ac (xn ["_law_more"] ["_law_k","_law_name","_law_more"] [none,none,some 3] rfl ⟨rfl,rfl,rfl,rfl⟩ (yH rfl U.en (ac (pv 8) zc)) (yG (K:=K) (n:=2) 0 1) rfl rfl rfl
   (fun pins fp s H C=>⟨yi rfl (zp (zl (i:=0) ziF rfl (Or.inl rfl) (.inr rfl)) (zp (zl (i:=1) ziF rfl (Or.inl rfl) (.inr rfl)) zS)),yO,zC (ac (pv 1) (ac (cF cT hr (ac (pv 2) (ac (pv 0) zc))) zc))⟩)) zc)))))))))))))),?_⟩
 refine⟨_,rfl,t,_,0,.ref la,rfl,rfl,SqT.of ht,rfl,la,rfl,⟨_,SqL.of hla⟩,fun Ds hDs=>?_⟩;refine qa (K:=K) TAt (fun _=>true) (fun _ r=>.str (kw r.k)) hDs hla hu (by omega) (fun i u r H' Nn S hu' hr' tr sH n1 s1'=>?_) (fun H1 s1 hDs1=>?_)
 ·have rk:=hok r (mem_of_getElem? hr')
  refine⟨fun _=>?_,fun e=>Bool.noConfusion e⟩;exact⟨_,rfl,u,_,0,_,rfl,rfl,SqT.of (sH _ _ tr),qv rk.1,n1 _ (zo.refl _) rfl⟩
 obtain⟨so,hso,hDs1⟩:∃so:List Str,so=so/\H1 Ds=some (.lst (so.map V.str)):=⟨rows.map fun r=>kw r.k,rfl,by rw[hDs1,zdo hu (fun r=>V.str (kw r.k)),map_map];rfl⟩
 clear hso;refine⟨_,rfl,t,_,0,.ref la,rfl,rfl,SqT.of (s1 _ _ ht),rfl,la,rfl,⟨_,SqL.of (s1 _ _ hla)⟩,fun Dp hDp=>?_⟩;refine qa (K:=K) TAt (fun r=>xl r.k) (fun u _=>.ref u) hDp (s1 _ _ hla) (zP s1 hu) (by omega) (fun i u r H' Nn S hu' hr' tr sH n1 s1'=>?_) (fun H2 s2 hDp2=>?_)
 ·have rk:=hok r (mem_of_getElem? hr')
  have tu:=sH _ _ tr;refine⟨_,rfl,u,_,0,_,rfl,rfl,SqT.of tu,qv rk.1,zz2,fun l hl=>?_⟩;have s2:=zb hl (.lst [.str "seat",.str "both"]);refine⟨l,_,rfl,.inl (SqL.of za),rfl,rfl,_,rfl,?_⟩;rw[if_neg Bool.false_ne_true,zgv rk.1];exact⟨fun e=>⟨_,rfl,n1 _ s2 e⟩,fun e=>s1' _ s2 e⟩
 have s02:=s1.trans s2;obtain⟨up,eup,hup⟩:=za9 (zP s02 hu) (fun r=>xl r.k);rw[eup] at hDp2;have lup:up.length<=24:=by rw[hup.length];exact le_trans (length_filter_le _ _) l24
 have okp:∀r∈rows.filter (fun r=>xl r.k),r.ok:=fun r h=>hok r (List.mem_filter.mp h).1;generalize rows.filter (fun r=>xl r.k)=rp at hup okp;refine⟨zz1,fun l0 hl0=>?_⟩;have s3:=zb hl0 (.lst [.int 0]);have e3:upd H2 l0 (.lst [.int 0]) l0=some (.lst [.int 0]):=za;have s03:=s02.trans s3;have hDp3:=s3 _ _ hDp2;have hup3:=zP s3 hup;generalize upd H2 l0 (.lst [.int 0])=H3 at s3 e3 s03 hDp3 hup3 |-;refine⟨_,rfl,Dp,rfl,⟨_,SqL.of hDp3⟩,fun Dl hDl=>?_⟩;refine jt (K:=K) (xs:=up.map V.ref) rp.zipIdx (fun y=>decide (y.1.k=0)&&!y.1.b) (fun y=>V.int ((y.2:Nat)+1)) hDl (SqL.of hDp3) (by rw[length_map,hup3.length,length_zipIdx]) (by rw[length_map];omega) (fun i x y p H' Nn S hx hy hp sH n1 ss1=>?_) (fun H4 s4 hDl4=>?_)
 ·obtain⟨u,hu',rfl⟩:=xa hx
  obtain⟨r,hr',tr⟩:=yg hup3 hu';rw[getElem?_zipIdx,hr'] at hy;have hy:(r,0+i)=y:=Option.some.inj hy;subst hy;rw[Nat.zero_add] at n1 ss1;have rk:=okp r (mem_of_getElem? hr');have sp:=zb hp (.tup [.int (i:Nat),.ref u]);refine⟨p,_,rfl,SqT.of za,rfl,_,_,rfl,_,_,rfl,rfl,?_⟩;have tu:upd H' p (.tup [.int (i:Nat),.ref u]) u=some (.tup (jR r.k (.str r.z) r.b)):=sp _ _ (sH _ _ tr);generalize upd H' p (.tup [.int (i:Nat),.ref u])=H5 at sp tu |-;refine⟨_,rfl,u,_,0,_,rfl,rfl,SqT.of tu,qv rk.1,rfl,_,rfl,?_⟩;rw[zfh r.k rk.1];by_cases hk:r.k=0
  ·refine dT hk ?_
   refine⟨_,rfl,u,_,2,_,rfl,rfl,SqT.of tu,zkX hk,_,rfl,?_⟩;have ek:(decide (r.k=0)&&!r.b)=!r.b:=by rw[decide_eq_true hk,Bool.true_and]
   exact⟨fun e=>⟨_,rfl,_,_,rfl,rfl,n1 _ sp (by show(decide (r.k=0)&&!r.b)=true;rw[ek];exact e)⟩,fun e=>ss1 _ sp (by show(decide (r.k=0)&&!r.b)=false;rw[ek];exact e)⟩
  ·refine dF hk ?_
   exact⟨fun e=>Bool.noConfusion e,fun _=>ss1 _ sp (by show(decide (r.k=0)&&!r.b)=false;rw[decide_eq_false hk,Bool.false_and])⟩
 obtain⟨ns,ens,hns,lns⟩:∃ns:List Int,((rp.zipIdx.filter fun y=>decide (y.1.k=0)&&!y.1.b).map fun y=>V.int ((y.2:Nat)+1))=ns.map V.int/\(∀n∈ns,0<=n/\n<=(up.length:Int))/\ns.length<=24:=by
  refine⟨(rp.zipIdx.filter fun y=>decide (y.1.k=0)&&!y.1.b).map fun y=>(((y.2:Nat)+1:Int)),by rw[map_map];rfl,fun n hn=>?_,?_⟩
  ·obtain⟨y,hy,rfl⟩:=List.mem_map.mp hn
   have:=(List.mem_zipIdx' (List.mem_filter.mp hy).1).1
   have h2:=hup.length;omega
  ·rw[length_map]
   refine le_trans (length_filter_le _ _) ?_;rw[length_zipIdx,<- hup.length];exact lup
 rw[ens] at hDl4;refine⟨l0,Dl,_,_,rfl,rfl,s4 _ _ e3,hDl4,zZ (by rw[length_map];show 1+ns.length<=1000;omega),fun lm hlm=>?_⟩
 have s5:=zb hlm (.lst ([.int 0]++ns.map V.int));have e5:upd H4 lm (.lst ([.int 0]++ns.map V.int)) lm=some (.lst ((0::ns).map V.int)):=za;generalize upd H4 lm (.lst ([.int 0]++ns.map V.int))=H5 at s5 e5 |-;refine⟨lm,0::ns,rfl,SqL.of e5,List.cons_ne_nil _ _,fun low hlow=>?_⟩;have hlw : 0<=low/\low<=(up.length:Int):=by
  rcases List.mem_cons.mp hlow with rfl|h
  ·exact⟨by decide,by omega⟩
  ·exact hns low h
 have s35:=s4.trans s5;have s05:=s03.trans s35;have hDp5:=s35 _ _ hDp3;have hDs5:=(s2.trans (s3.trans s35)) _ _ hDs1;clear hlow hns lns ens hDl4 e5 e3 hDp3 hup3 hup okp;refine⟨_,rfl,_,rfl,_,rfl,Dp,_,rfl,.inl (SqL.of hDp5),_,rfl,_,_,rfl,rfl,_,_,rfl,rfl,_,_,rfl,rfl,?_,_,_,rfl,rfl,?_⟩
 ·rw[length_map]
  omega
 obtain⟨M,hM,hM0,hM1⟩:∃M:Int,M=low+cell % (((up.map V.ref).length:Int) - low+1)/\0<=M/\M<=24:=by
  refine⟨_,rfl,?_,?_⟩
  all_goals
   rw[length_map];have h0:=emod_nonneg cell (show(up.length:Int) - low+1≠0 by omega)
   have h1:=emod_lt_of_pos cell (show 0<(up.length:Int) - low+1 by omega)
   omega
 refine⟨_,rfl,_,rfl,_,rfl,t,la,lb,M,more,us,rows,(by rw[hM];rfl),s05 _ _ ht,s05 _ _ hla,zP s05 hu,hok,l24,fun ln zs H6 s6 nln hln lz=>?_⟩
 have s06:=s05.trans s6;have hDp6:=s6 _ _ hDp5;have hDs6:=s6 _ _ hDs5;dsimp only[yr];refine yv (fun σ' H'=>∃M':Int,σ'=[some (.ref t),some (.ref pa),some (.int cell),some (.int more),some (.ref Ds),some (.ref Dp),some (.int low),some (.int M'),some (.ref ln),none,none,none]/\H'=H6/\0<=M'/\M'<=40) ?_ (fun key=>?_);rotate_left
 ·refine⟨_,rfl,Ds,_,rfl,.inl (SqL.of hDs6),rfl,xZ,_,rfl,?_⟩
  refine zaY (fun _=>?_) (fun _=>?_)
  ·refine⟨_,rfl,_,rfl,Dp,_,rfl,.inl (SqL.of hDp6),rfl,_,rfl,?_⟩
   refine zaY (fun _=>?_) (fun _=>?_)
   ·refine⟨_,rfl,_,rfl,_,_,rfl,rfl,⟨by decide,by decide⟩,_,_,rfl,rfl,(by show(0:Int)<7;decide),_,_,rfl,rfl,?_⟩
    exact key _ _ ⟨M+cell / 30 % 7,by rw[hM];rfl,rfl,by omega,by omega⟩
   ·exact key _ _ ⟨M,by rw[hM];rfl,rfl,by omega,by omega⟩
  ·exact key _ _ ⟨M,by rw[hM];rfl,rfl,by omega,by omega⟩
 clear hM hM0 hM1;rintro σ7 H7 ⟨M',rfl,rfl,hM0,hM1⟩;refine yv (fun σ' H'=>∃(ln':Addr) (zs':List Str) (v9:Option V),σ'=[some (.ref t),some (.ref pa),some (.int cell),some (.int more),some (.ref Ds),some (.ref Dp),some (.int low),some (.int M'),some (.ref ln'),v9,none,none]/\zo H7 H'/\H' ln'=some (.lst (zs'.map V.str))/\zs'.length<=60) ?_ (fun key=>?_);rotate_left
 ·refine⟨_,rfl,Ds,_,rfl,.inl (SqL.of hDs6),rfl,xZ,_,rfl,?_⟩
  refine zaY (fun _=>?_) (fun _=>?_)
  ·refine⟨_,rfl,t,_,0,.ref la,rfl,rfl,SqT.of (s06 _ _ ht),rfl,la,rfl,⟨_,SqL.of (s06 _ _ hla)⟩,fun Db hDb=>?_⟩
   refine qa (K:=K) TAt (fun r=>zR r.k) (fun _ r=>.str r.z) hDb (s06 _ _ hla) (zP s06 hu) (by omega) (fun i u r H' Nn S hu' hr' tr sH n1 s1'=>?_) (fun H8 s8 hDb8=>?_)
   ·have rk:=hok r (mem_of_getElem? hr')
    have tu:=sH _ _ tr;refine⟨_,rfl,u,_,0,_,rfl,rfl,SqT.of tu,qv rk.1,zz2,fun l hl=>?_⟩;have s2':=zb hl (.lst [.str "both",.str "tag"]);have tu2:=s2' _ _ tu;refine⟨l,_,rfl,.inl (SqL.of za),rfl,rfl,_,rfl,?_⟩;rw[if_neg Bool.false_ne_true,show inV (V.str (kw r.k)) [.str "both",.str "tag"]=zR r.k from uK r.k rk.1];exact⟨fun e=>⟨_,rfl,u,_,1,_,rfl,rfl,SqT.of tu2,zgn,n1 _ s2' e⟩,fun e=>s1' _ s2' e⟩
   obtain⟨nb,enb,lnb⟩:∃nb:List Str,H8 Db=some (.lst (nb.map V.str))/\nb.length<=24:=by
    have hz:∀{us:List Addr}{rows:List Rw},Paired (TAt H7) us rows->∃nb:List Str,(((us.zip rows).filter fun p=>zR p.2.k).map fun p=>V.str p.2.z)=nb.map V.str/\nb.length<=rows.length:=by
     intro us rows h;induction h with
     | nil=>exact⟨[],rfl,le_refl _⟩
     | @cons u r us rows _ _ ih=>
      obtain⟨nb,e,l⟩:=ih;cases hk:zR r.k
      ·exact⟨nb,by rw[zip_cons_cons,filter_cons,if_neg (by rw[hk];decide)];exact e,by rw[length_cons];omega⟩
      ·exact⟨r.z::nb,by rw[zip_cons_cons,filter_cons,if_pos hk,map_cons,e];rfl,by rw[length_cons,length_cons];omega⟩
    obtain⟨nb,e,l⟩:=hz (zP s06 hu);exact⟨nb,by rw[hDb8,e],by omega⟩
   have s08:=s06.trans s8;have l60:=V1.l60;refine⟨_,rfl,t,_,1,.ref lb,rfl,rfl,SqT.of (s08 _ _ ht),rfl,Db,lb,_,_,rfl,rfl,enb,s08 _ _ hlb,zZ (by rw[length_map,length_map];omega),fun lsh hlsh=>?_⟩
   have s9:=zb hlsh (.lst (nb.map V.str++bars.map V.str));have e9:upd H8 lsh (.lst (nb.map V.str++bars.map V.str)) lsh=some (.lst ((nb++bars).map V.str)):=by rw[za,map_append]
   dsimp only[yr];generalize upd H8 lsh (.lst (nb.map V.str++bars.map V.str))=H9 at s9 e9 |-;generalize nb++bars=sh at e9;have s79:=s8.trans s9;have s09:=s06.trans s79;refine⟨_,rfl,_,rfl,pa,rfl,⟨_,SqL.of (s09 _ _ hpa)⟩,fun Dn hDn=>?_⟩;refine jt (K:=K) (xs:=pool.map V.str) pool.zipIdx (fun y=>decide (y.1∉sh)&&decide (xH more ((y.2:Int)+50) % 5=0)) (fun y=>V.str y.1) hDn (SqL.of (s09 _ _ hpa)) (by rw[length_map,length_zipIdx]) (by rw[length_map];omega) (fun i x y p H' Nn S hx hy hp sH n1 ss1=>?_) (fun H10 s10 hDn10=>?_)
   ·obtain⟨z,hz,rfl⟩:=strs_at hx
    rw[getElem?_zipIdx,hz] at hy;have hy:(z,0+i)=y:=Option.some.inj hy;subst hy;rw[Nat.zero_add] at n1 ss1;have sp:=zb hp (.tup [.int (i:Nat),.str z]);refine⟨p,_,rfl,SqT.of za,rfl,_,_,rfl,_,_,rfl,rfl,?_⟩;have esh:=sp _ _ (sH _ _ e9);generalize upd H' p (.tup [.int (i:Nat),.str z])=H11 at sp esh |-;refine⟨_,rfl,_,rfl,lsh,_,rfl,.inl (SqL.of esh),rfl,xZ,_,rfl,?_⟩;by_cases hz1:z∈sh
    ·refine vf (by rw[if_pos rfl,vi,decide_eq_true hz1];rfl) ?_
     refine⟨fun e=>Bool.noConfusion e,fun _=>ss1 _ sp ?_⟩;show(decide (z∉sh)&&_)=false;rw[decide_eq_false (fun h=>h hz1)];rfl
    ·refine vg (by rw[if_pos rfl,vi,decide_eq_false hz1];rfl) ?_
     refine⟨_,rfl,_,rfl,_,_,rfl,rfl,_,_,rfl,_,_,rfl,rfl,(by show(0:Int)<5;decide),rfl,_,rfl,?_⟩
     refine⟨fun e=>⟨_,rfl,n1 _ sp ?_⟩,fun e=>ss1 _ sp ?_⟩
     ·show(decide (z∉sh)&&decide (xH more ((i:Int)+50) % 5=0))=true
      rw[decide_eq_true hz1,Bool.true_and];exact decide_eq_true (V.int.inj (of_decide_eq_true e))
     ·show(decide (z∉sh)&&decide (xH more ((i:Int)+50) % 5=0))=false
      rw[decide_eq_true hz1,Bool.true_and];exact decide_eq_false fun h=>of_decide_eq_false e (congrArg V.int h)
   obtain⟨np,enp,lnp⟩:=zff pool.zipIdx (fun y=>decide (y.1∉sh)&&decide (xH more ((y.2:Int)+50) % 5=0)) (fun y=>y.1);rw[enp] at hDn10;rw[length_zipIdx] at lnp;have s710:=s79.trans s10;refine⟨ln,Dn,_,_,rfl,rfl,s710 _ _ hln,hDn10,zZ (by rw[length_map,length_map];omega),fun l2 hl2=>?_⟩
   have s11:=zb hl2 (.lst (zs.map V.str++np.map V.str));exact key _ _ ⟨l2,zs++np,_,rfl,s710.trans s11,by rw[za,map_append],by rw[length_append];omega⟩
  ·exact key _ _ ⟨ln,zs,_,rfl,zo.refl _,hln,by omega⟩
 clear hln lz nln zs;rintro σ8 H8 ⟨ln',zs',v9,rfl,s8,hln',lz'⟩;have s08:=s06.trans s8;refine⟨_,rfl,_,rfl,ln',_,rfl,.inl (SqL.of hln'),_,_,rfl,rfl,_,_,rfl,rfl,(by show(0:Int)<((zs'.map V.str).length:Int)+1;omega),?_⟩
 have j0 : 0<=more % (((zs'.map V.str).length:Int)+1):=emod_nonneg _ (by omega)
 obtain⟨j,hj⟩:=eq_ofNat_of_zero_le j0;refine⟨_,rfl,_,rfl,_,rfl,ln',_,rfl,SqL.of hln',fun p1 hp1=>?_⟩;rw[show wu (zs'.map V.str) (some (more % (((zs'.map V.str).length:Int)+1))) none=(zs'.drop j).map V.str by rw[hj];exact(y8).trans (map_drop ..).symm]
 have s9:=zb hp1 (.lst ((zs'.drop j).map V.str));have e9:upd H8 p1 (.lst ((zs'.drop j).map V.str)) p1=some (.lst ((zs'.drop j).map V.str)):=za;generalize upd H8 p1 (.lst ((zs'.drop j).map V.str))=H9 at s9 e9 |-;refine⟨_,rfl,_,rfl,_,rfl,ln',_,rfl,SqL.of (s9 _ _ hln'),fun p2 hp2=>?_⟩;rw[show wu (zs'.map V.str) none (some (more % (((zs'.map V.str).length:Int)+1)))=(zs'.take j).map V.str by rw[hj];exact(y7).trans (map_take ..).symm]
 have s10:=zb hp2 (.lst ((zs'.take j).map V.str));have e10:upd H9 p2 (.lst ((zs'.take j).map V.str)) p2=some (.lst ((zs'.take j).map V.str)):=za;generalize upd H9 p2 (.lst ((zs'.take j).map V.str))=H10 at s10 e10 |-;refine⟨p1,p2,_,_,rfl,rfl,s10 _ _ e9,e10,zZ (by rw[length_map,length_map,length_drop,length_take];omega),fun l3 hl3=>?_⟩
 have s11:=zb hl3 (.lst ((zs'.drop j).map V.str++(zs'.take j).map V.str));have e11:upd H10 l3 (.lst ((zs'.drop j).map V.str++(zs'.take j).map V.str)) l3=some (.lst ((zs'.drop j++zs'.take j).map V.str)):=by rw[za,map_append]
 have lz:(zs'.drop j++zs'.take j).length<=60:=by rw[length_append,length_drop,length_take];omega
 dsimp only[yr];generalize upd H10 l3 (.lst ((zs'.drop j).map V.str++(zs'.take j).map V.str))=H11 at s11 e11 |-;generalize zs'.drop j++zs'.take j=zz at e11 lz;have s011:=s08.trans (s9.trans (s10.trans s11));refine⟨_,rfl,M',rfl,by omega,by omega,fun D1 hD1=>?_⟩
 refine wR (n:=M'.toNat) (fun i ys H'=>zo H11 H'/\H' D1=some (.lst ys)/\∃ts:List Int,ys=ts.map V.int/\ts.length<=i) ⟨zb hD1 _,za,[],rfl,le_refl _⟩ ?_ ?_
 ·rintro i ys H' hi ⟨sH,hDy,ts,ey1,ey⟩
  refine⟨fun _=>?_,fun e=>Bool.noConfusion e⟩;refine⟨_,rfl,_,rfl,cell,_,rfl,b1,?_⟩;exact lcN.mk hi (zZ (by omega)) hDy (by rw[ey1,length_map];exact ey) ⟨fun b' u e=>by rw[zh (zd e hD1)];exact sH _ _ e,za,ts++[xC cell ((0:Int)+(i:Int))],by rw[ey1,map_append];rfl,by rw[length_append,length_singleton];omega⟩
 rintro ys1 H12 ⟨s12,hD12,ts,rfl,lts⟩;have e12:=s12 _ _ e11;refine⟨_,rfl,_,rfl,l3,rfl,⟨_,SqL.of e12⟩,fun D2 hD2=>?_⟩;refine zbN (K:=K) (m:=1) (xs:=zz.map V.str) (fun k=>yQ (zz.getD k "",xC more (k:Int))) hD2 (SqL.of e12) (by rw[length_map];omega) (fun k x pt H' Qf Qs hx hp sH qf=>?_) (fun vs2 H13 s13 hD2v hp2=>?_)
 ·obtain⟨z,hz,rfl⟩:=strs_at hx
  have sp:=zb hp (.tup [.int (k:Nat),.str z]);refine⟨pt,_,rfl,SqT.of za,rfl,_,_,rfl,_,_,rfl,rfl,fun _=>?_,fun e=>Bool.noConfusion e⟩;generalize upd H' pt (.tup [.int (k:Nat),.str z])=H4' at sp |-;refine⟨_,rfl,_,rfl,_,rfl,more,_,rfl,b2,zz2,fun u hu=>?_⟩;have s5:=zb hu (.tup [.str z,.int (xC more (k:Nat))]);refine qf _ _ (sp.trans s5) (.tup (SqT.of za) ?_);rw[show zz.getD k ""=z by rw[getD_eq_getElem?_getD,hz];rfl]
  exact .cons .str (.cons .int .nil)
 refine⟨zz2,fun tt htt=>?_⟩;have s14:=zb htt (.tup [.ref D1,.ref D2]);refine q tt D1 D2 ts vs2 ((List.range (zz.map V.str).length).map fun k=>(zz.getD k "",xC more (k:Int))) _ (s011.trans (s12.trans (s13.trans s14))) za (s14 _ _ (s13 _ _ hD12)) (s14 _ _ hD2v) ?_ (by omega) (by rw[length_map,length_range,length_map];exact lz)
 rw[map_map];exact Paired.imp' (fun _ _ z=>(wW (fun _ _ _=>True.intro) z).same s14) hp2
end
inductive En where
 | one (wd:Str) (n:Nat)
 | many (wd:Str) (ns:List Nat)
 | free
def yj(ns:List Nat):List Int:=ns.map fun (j:Nat)=>(j:Int)
def enD:En->Dt
 | .one wd n=>.tup [.str wd,.int (n:Nat)]
 | .many wd ns=>.tup [.str wd,.lst ((yj ns).map Dt.int)]
 | .free=>.tup [.str "free"]
def qy(K:Frag) (ok:Addr->Prop) (H:Hp) (x:V):En->Prop
 | .one wd n=>∃u,x=.ref u/\SqT K H u [.str wd,.int (n:Nat)]
 | .many wd ns=>∃u l,x=.ref u/\SqT K H u [.str wd,.ref l]/\ok l/\H l=some (.lst ((yj ns).map V.int))
 | .free=>∃u,x=.ref u/\SqT K H u [.str "free"]
theorem qy.same{K:Frag}{ok:Addr->Prop}{H H':Hp}{x:V}{e:En}(h:qy K ok H x e) (s:zo H H'):qy K ok H' x e:=by
 cases e with
 | one wd n=>obtain⟨u,e,h⟩:=h;exact⟨u,e,s.sqT h⟩
 | many wd ns=>obtain⟨u,l,e,h,o,hl⟩:=h;exact⟨u,l,e,s.sqT h,o,s _ _ hl⟩
 | free=>obtain⟨u,e,h⟩:=h;exact⟨u,e,s.sqT h⟩
theorem qy.weak{K:Frag}{ok ok':Addr->Prop}{H:Hp}{x:V}{e:En}(h:qy K ok H x e) (o:∀a,ok a->ok' a):qy K ok' H x e:=by
 cases e with
 | one wd n=>exact h
 | many wd ns=>obtain⟨u,l,e,h,ol,hl⟩:=h;exact⟨u,l,e,h,o _ ol,hl⟩
 | free=>exact h
def plL(rows:List Rw) (M:Nat):List Nat:=(List.range (M - plN rows)).map fun i=>plN rows+i
def enF(rows:List Rw) (M:Nat) (zs:List Str) (i:Nat):En:=
 if zm 2 0 rows=some i then .many "places" (plL rows M)
 else if zm 4 0 rows=some i then .many "names" (vC rows (fpZ zs))
 else match rows[i]? with
  | some r=>if xl r.k=true/\i<M then .one "place" i else if zR r.k=true/\r.z∈zs then .one "name" (zs.findIdx fun y=>decide (y=r.z)) else .free
  | none=>.free
theorem zbW:∀(zs:List Str) (i:Nat) (acc:List (Str×Nat)),(∀z∈zs,(acc.any fun p=>decide (p.1=z))=false)->zs.Nodup->fpF i acc zs=acc++zs.zipIdx i
 | [],_,acc,_,_=>by
  show acc=acc++[];rw[append_nil]
 | z::zs,i,acc,h,nd=>by
  show fpF (i+1) _ zs=_;rw[h z mem_cons_self,if_neg Bool.false_ne_true,zbW zs (i+1) _ (fun y hy=>?_) (List.nodup_cons.mp nd).2,append_assoc]
  ·rfl
  ·rw[any_append,h y (mem_cons_of_mem _ hy),Bool.false_or]
   have:z≠y:=fun e=>(List.nodup_cons.mp nd).1 (e ▸ hy)
   simp [this]
theorem zad{zs:List Str}(h:zs.Nodup):fpZ zs=zs.zipIdx:=by
 unfold fpZ;rw[zbW zs 0 [] (fun _ _=>rfl) h];rfl
theorem zgy{zs:List Str}{z:Str}(h:z∈zs):zs[zs.findIdx fun y=>decide (y=z)]?=some z:=by
 have hl:(zs.findIdx fun y=>decide (y=z))<zs.length:=List.findIdx_lt_length_of_exists ⟨z,h,decide_eq_true rfl⟩;rw[getElem?_eq_getElem hl]
 have:=List.findIdx_getElem (p:=fun y=>decide (y=z)) (xs:=zs) (w:=hl)
 rw[of_decide_eq_true this]
theorem qU{zs:List Str}(h:zs.Nodup) {i j:Nat}{z:Str}(hi:zs[i]?=some z) (hj:zs[j]?=some z):i=j:=by
 have li:=(List.getElem?_eq_some_iff.mp hi).1;have lj:=(List.getElem?_eq_some_iff.mp hj).1;have e:zs[i]=zs[j]:=by rw[(List.getElem?_eq_some_iff.mp hi).2,(List.getElem?_eq_some_iff.mp hj).2]
 have hp:=List.pairwise_iff_getElem.mp (List.nodup_iff_pairwise_ne.mp h);rcases Nat.lt_trichotomy i j with h1|h1|h1
 ·exact absurd e (hp i j li lj h1)
 ·exact h1
 ·exact absurd e.symm (hp j i lj li h1)
theorem zjX{rows:List Rw}{M:Nat}{zs:List Str}{i:Nat}(hi:i<rows.length) (nd:zs.Nodup):zbZ rows M (fpZ zs) i=enD (enF rows M zs i):=by
 unfold zbZ enF;split
 ·show Dt.tup [.str "places",.lst ((L2.xi (plN rows) (M - plN rows)).map Dt.int)]=Dt.tup [.str "places",.lst ((yj (plL rows M)).map Dt.int)]
  unfold yj plL L2.xi;simp only[map_map];rfl
 ·split
  ·rfl
  ·rw[getElem?_eq_getElem hi]
   show Dt.tup ((uf rows[i] i M (kvP (fpZ zs))).map vD)=enD (if xl rows[i].k=true/\i<M then .one "place" i else if zR rows[i].k=true/\rows[i].z∈zs then .one "name" (zs.findIdx fun y=>decide (y=rows[i].z)) else .free)
   unfold uf;by_cases h1:xl rows[i].k=true/\i<M
   ·rw[if_pos h1,if_pos h1];rfl
   ·rw[if_neg h1,if_neg h1]
    by_cases h2:zR rows[i].k=true/\rows[i].z∈zs
    ·have h3:zR rows[i].k=true/\(zF (kvP (fpZ zs)) (.inr rows[i].z)).isSome=true:=⟨h2.1,by rw[uM];exact decide_eq_true h2.2⟩
     rw[if_pos h3,if_pos h2];have hv:=(qj zs 0).mp (zdY.mpr nd) _ _ (zgy h2.2);rw[hv,Nat.zero_add];rfl
    ·have h3:¬(zR rows[i].k=true/\(zF (kvP (fpZ zs)) (.inr rows[i].z)).isSome=true):=fun h=>h2 ⟨h.1,by have:=h.2;rw[uM] at this;exact of_decide_eq_true this⟩
     rw[if_neg h3,if_neg h2];rfl
theorem zgs{rows:List Rw}{bars:List Str}(V1:yN rows bars) {p:Str×Nat}:vd rows p=true ↔ p.1∉nms rows:=by
 unfold vd;constructor
 ·intro h hm
  obtain⟨l,r,hl,hb,he⟩:=zgi hm
  have:=wt hb rows 0 l [] hl (List.nodup_append.mp V1.nd).1
  rw[he] at this;rw[this] at h;cases h
 ·intro h
  rw[uO rows 0 [] h];rfl
theorem zfU:∀(rs:List Rw) {l:Nat},yn l rs=true->∀x∈rs,l<=grp x.k
 | [],_,_,x,hx=>by cases hx
 | y::ys,l,h,x,hx=>by
  have h':(!xK l (grp y.k)&&yn (grp y.k) ys)=true:=h;rw[Bool.and_eq_true,Bool.not_eq_true'] at h';have hb:l<=grp y.k:=by
   have:=h'.1
   unfold xK at this;rw[Bool.or_eq_false_iff,decide_eq_false_iff_not] at this;omega
  rcases List.mem_cons.mp hx with rfl|hx
  ·exact hb
  ·have:=zfU ys h'.2 x hx
   omega
theorem zju(rs:List Rw) {l:Nat}(hl:l=1\/l=3) (h:yn l rs=true) (x:Rw) (hx:x∈rs):l<grp x.k:=by
 cases rs with
 | nil=>cases hx
 | cons y ys=>
  have h':(!xK l (grp y.k)&&yn (grp y.k) ys)=true:=h;rw[Bool.and_eq_true,Bool.not_eq_true'] at h';have hb:l<grp y.k:=by
   have:=h'.1
   unfold xK at this;rw[Bool.or_eq_false_iff,decide_eq_false_iff_not] at this;have h2:grp y.k≠l:=fun e=>by
    have h3:=this.2;rw[e] at h3;rcases hl with rfl|rfl
    ·exact absurd h3 (by decide)
    ·exact absurd h3 (by decide)
   omega
  rcases List.mem_cons.mp hx with rfl|hx
  ·exact hb
  ·have:=zfU ys h'.2 x hx
   omega
theorem vJ{kk:Nat}(hk:kk=2\/kk=4):∀(rows:List Rw) (i l j:Nat) {r:Rw},yn l rows=true->rows[j]?=some r->r.k=kk->zm kk i rows=some (i+j)
 | [],_,_,_,_,_,h,_=>by simp at h
 | y::ys,i,l,j,r,ho,hj,hr=>by
  have h':(!xK l (grp y.k)&&yn (grp y.k) ys)=true:=ho;rw[Bool.and_eq_true] at h';show(if y.k=kk then some i else zm kk (i+1) ys)=_
  cases j with
  | zero=>
   have:y=r:=by simpa using hj
   subst this;rw[if_pos hr];rfl
  | succ j=>
   have hj':ys[j]?=some r:=by simpa using hj
   rw[if_neg,vJ hk ys (i+1) _ j h'.2 hj' hr]
   ·congr 1;omega
   ·intro e
    have hg:grp y.k=1\/grp y.k=3:=by rw[e];rcases hk with rfl|rfl <;> decide
    have:=zju ys hg h'.2 r (mem_of_getElem? hj')
    rw[e,hr] at this;omega
theorem xj{kk:Nat}:∀(rows:List Rw) (i j:Nat),zm kk i rows=some j->∃m r,j=i+m/\rows[m]?=some r/\r.k=kk
 | [],_,_,h=>by cases h
 | y::ys,i,j,h=>by
  have h:(if y.k=kk then some i else zm kk (i+1) ys)=some j:=h
  split at h
  next e=>cases h;exact⟨0,y,rfl,rfl,e⟩
  ·obtain⟨m,r,h1,h2,h3⟩:=xj ys (i+1) j h
   exact⟨m+1,r,by omega,by simpa using h2,h3⟩
theorem zh8{rows:List Rw}{bars:List Str}(V1:yN rows bars) {M:Nat}{zs:List Str}{i:Nat}{r:Rw}(hr:rows[i]?=some r) (h:r.k=2):enF rows M zs i=.many "places" (plL rows M):=by
 unfold enF
 have:=vJ (.inl rfl) rows 0 0 i V1.ord hr h
 rw[Nat.zero_add] at this;rw[if_pos this]
theorem zj0{rows:List Rw}{bars:List Str}(V1:yN rows bars) {M:Nat}{zs:List Str}{i:Nat}{r:Rw}(hr:rows[i]?=some r) (h:r.k=4):enF rows M zs i=.many "names" (vC rows (fpZ zs)):=by
 unfold enF
 have:=vJ (.inr rfl) rows 0 0 i V1.ord hr h
 rw[Nat.zero_add] at this;have n2:¬zm 2 0 rows=some i:=fun e=>by
  obtain⟨m,r',h1,h2,h3⟩:=xj rows 0 i e;rw[Nat.zero_add] at h1;subst h1;rw[hr] at h2;cases h2;omega
 rw[if_neg n2,if_pos this]
theorem zgK{rows:List Rw}{M:Nat}{zs:List Str}{i:Nat}{r:Rw}(hr:rows[i]?=some r) (h2:r.k≠2) (h4:r.k≠4):enF rows M zs i=if xl r.k=true/\i<M then .one "place" i else if zR r.k=true/\r.z∈zs then .one "name" (zs.findIdx fun y=>decide (y=r.z)) else .free:=by
 unfold enF;have n:∀kk,r.k≠kk->¬zm kk 0 rows=some i:=fun kk hk e=>by
  obtain⟨m,r',e1,e2,e3⟩:=xj rows 0 i e;rw[Nat.zero_add] at e1;subst e1;rw[hr] at e2;cases e2;exact hk e3
 rw[if_neg (n 2 h2),if_neg (n 4 h4),hr]
inductive Mv where
 | take (q:Nat)|gather (q:Nat)|fin|door (z:Str) (q:Nat)|bar (z:Str)|names (o:Option Nat)|need (q:Nat)|free (q:Nat)
def mvV:Mv->List V
 | .take q=>[.str "take",.int (q:Nat)]
 | .gather q=>[.str "gather",.int (q:Nat)]
 | .fin=>[.str "end"]
 | .door z q=>[.str "door",.str z,.int (q:Nat)]
 | .bar z=>[.str "bar",.str z]
 | .names none=>[.str "names"]
 | .names (some q)=>[.str "names",.int (q:Nat)]
 | .need q=>[.str "need",.int (q:Nat)]
 | .free q=>[.str "free",.int (q:Nat)]
def zdk(K:Frag) (H:Hp) (u:Addr) (m:Mv):Prop:=SqT K H u (mvV m)
def zdj(n:Nat):Mv->Prop
 | .take q=>q<n|.gather q=>q<n|.fin=>True|.door _ q=>q<n|.bar _=>True
 | .names none=>True|.names (some q)=>q<n|.need q=>q<n|.free q=>q<n
def noE(es:List (Option En)) (q:Nat):Bool:=match es[q]? with|some none=>true|_=>false
abbrev yB:=List (Key×V)
def xJ(d:yB) (z:Str):Bool:=decide ((zF d (.inr z)).getD .non=V.str "shut")
def vN:V->Nat
 | .int p=>p.toNat
 | _=>0
def thF(d:yB) (q:Option Nat):Nat->List Str->List (Option En)->List Nat->List Nat->Option (Str×Nat)×List (Option En)×List Nat×List Nat
 | _,[],es,us,gs=>(none,es,us,gs)
 | j,z::zs,es,us,gs=>
  if j∈us then thF d q (j+1) zs es us gs
  else if xJ d z=true then (some ("barred",j),es,us,gs)
  else match zF d (.inr z) with
   | some v=>if noE es (vN v)=true then thF d q (j+1) zs (es.set (vN v) (some (.one "name" j))) (us++[j]) gs else (some ("again",j),es,us,gs)
   | none=>match q with
    | some b=>if noE es b=true\/gs≠[] then thF d q (j+1) zs (es.set b (some (.many "names" (gs++[j])))) (us++[j]) (gs++[j]) else (some ("strange",j),es,us,gs)
    | none=>(some ("strange",j),es,us,gs)
def qF(q:Option Nat) (es:List (Option En)):List (Option En):=match q with
 | some b=>if noE es b=true then es.set b (some (.many "names" [])) else es
 | none=>es
def xm(d:yB) (q:Option Nat) (zs:List Str) (es:List (Option En)) (us:List Nat):Option (Str×Nat)×List (Option En)×List Nat:=
 match thF d q 0 zs es us [] with
 | (none,es',us',_)=>(none,qF q es',us')
 | (some r,es',us',_)=>(some r,es',us')
def stF:Mv->List (Option En)->List Nat->Option (Str×Nat)×List (Option En)×List Nat
 | .fin,es,l=>match l with|[]=>(none,es,l)|x::_=>(some ("over",x),es,l)
 | .need q,es,l=>if noE es q=true then (some ("lacking",q),es,l) else (none,es,l)
 | .take q,es,l=>if noE es q=true then (match l with|[]=>(none,es,l)|x::xs=>(none,es.set q (some (.one "place" x)),xs)) else (none,es,l)
 | .gather q,es,l=>if noE es q=true then (none,es.set q (some (.many "places" l)),[]) else (none,es,l)
 | .free q,es,l=>if noE es q=true then (none,es.set q (some .free),l) else (none,es,l)
 | _,es,l=>(none,es,l)
def yK:List Mv->List Str->yB->List (Option En)->List Nat->List Nat->Sum (Str×Nat) (List (Option En))
 | [],_,_,es,_,_=>.inr es
 | m::ms,zs,d,es,us,l=>match m with
  | .door z q=>if xJ d z=true then yK ms zs d es us l else yK ms zs (zV d (.inr z) (.int (q:Nat))) es us l
  | .bar z=>yK ms zs (zV d (.inr z) (.str "shut")) es us l
  | .names o=>match xm d o zs es us with
   | (some r,_,_)=>.inl r
   | (none,es',us')=>yK ms zs d es' us' l
  | m=>match stF m es l with
   | (some r,_,_)=>.inl r
   | (none,es',l')=>yK ms zs d es' us l'
def okL(L:List Addr):Addr->Prop:=fun a=>a∉L
def EnO(K:Frag) (ok:Addr->Prop) (H:Hp) (x:V):Option En->Prop
 | none=>x=.non
 | some e=>qy K ok H x e
theorem EnO.same{K:Frag}{ok:Addr->Prop}{H H':Hp}{x:V}{o:Option En}(h:EnO K ok H x o) (s:zo H H'):EnO K ok H' x o:=by
 cases o with
 | none=>exact h
 | some e=>exact qy.same h s
theorem EnO.weak{K:Frag}{ok ok':Addr->Prop}{H:Hp}{x:V}{o:Option En}(h:EnO K ok H x o) (w:∀a,ok a->ok' a):EnO K ok' H x o:=by
 cases o with
 | none=>exact h
 | some e=>exact qy.weak h w
theorem EnO.more{K:Frag}{L:List Addr}{H:Hp}{x:V}{g:Addr}{o:Option En}(h:EnO K (okL L) H x o) (hg:H g=none):EnO K (okL (g::L)) H x o:=by
 cases o with
 | none=>exact h
 | some e=>
  cases e with
  | one wd n=>exact h
  | many wd ns=>
   obtain⟨u,l,e,h1,h2,h3⟩:=h;refine⟨u,l,e,h1,fun hm=>?_,h3⟩;rcases List.mem_cons.mp hm with rfl|hm
   ·rw[hg] at h3;cases h3
   ·exact h2 hm
  | free=>exact h
theorem wx{K:Frag}{H:Hp}{u l:Addr}{vs ys zs:List V}(h:SqT K H u vs) (hl:H l=some (.lst ys)):SqT K (upd H l (.lst zs)) u vs:=by
 rcases h with (h|⟨o,h⟩)|h
 ·exact .inl (.inl (by rw[zh (fun e=>by rw[e,hl] at h;cases h)];exact h))
 ·exact .inl (.inr ⟨o,by rw[zh (fun e=>by rw[e,hl] at h;cases h)];exact h⟩)
 ·exact .inr h
theorem EnO.put{K:Frag}{L:List Addr}{H:Hp}{x:V}{g:Addr}{o:Option En}{ys zs:List V}(h:EnO K (okL L) H x o) (hg:H g=some (.lst ys)) (hL:g∈L):EnO K (okL L) (upd H g (.lst zs)) x o:=by
 cases o with
 | none=>exact h
 | some e=>
  cases e with
  | one wd n=>obtain⟨u,e,h1⟩:=h;exact⟨u,e,wx h1 hg⟩
  | many wd ns=>
   obtain⟨u,l,e,h1,h2,h3⟩:=h;have nl:l≠g:=fun e'=>h2 (by rw[e'];exact hL)
   exact⟨u,l,e,wx h1 hg,h2,by rw[zh nl];exact h3⟩
  | free=>obtain⟨u,e,h1⟩:=h;exact⟨u,e,wx h1 hg⟩
def yT(K:Frag) (L:List Addr) (H:Hp) (le:Addr) (es:List (Option En)):Prop:=∃xs,H le=some (.lst xs)/\Paired (EnO K (okL L) H) xs es
theorem yT.same{K:Frag}{L:List Addr}{H H':Hp}{le:Addr}{es:List (Option En)}(h:yT K L H le es) (s:zo H H'):yT K L H' le es:=by
 obtain⟨xs,h1,h2⟩:=h;exact⟨xs,s _ _ h1,Paired.imp' (fun _ _ z=>EnO.same z s) h2⟩
theorem yT.put{K:Frag}{L:List Addr}{H:Hp}{le g:Addr}{es:List (Option En)}{ys zs:List V}(h:yT K L H le es) (hg:H g=some (.lst ys)) (hL:g∈L) (ne:le≠g):yT K L (upd H g (.lst zs)) le es:=by
 obtain⟨xs,h1,h2⟩:=h;exact⟨xs,by rw[zh ne];exact h1,Paired.imp' (fun _ _ z=>EnO.put z hg hL) h2⟩
theorem jV{α β : Type}{F : α->β->Prop}{a : α}{b : β}(h:F a b):∀{l₁:List α}{l₂:List β}(i:Nat),Paired F l₁ l₂->Paired F (l₁.set i a) (l₂.set i b)
 | _,_,_,.nil=>.nil
 | _,_,0,.cons _ t=>.cons h t
 | _,_,i+1,.cons x t=>.cons x (jV h i t)
theorem yT.set{K:Frag}{L:List Addr}{H:Hp}{le:Addr}{es:List (Option En)}{xs:List V}{q:Nat}{x:V}{o:Option En}(h1:H le=some (.lst xs)) (h2:Paired (EnO K (okL L) H) xs es) (hx:EnO K (okL L) H x o) (hL:le∈L):yT K L (upd H le (.lst (xs.set q x))) le (es.set q o):=
 ⟨_,za,jV (EnO.put hx h1 hL) q (Paired.imp' (fun _ _ z=>EnO.put z h1 hL) h2)⟩
theorem qg{K:Frag}{ok:Addr->Prop}{H:Hp}{xs:List V}{es:List (Option En)}(h:Paired (EnO K ok H) xs es) {q:Nat}(hq:q<es.length):∃x,xs[q]?=some x/\(decide (x=.non)=noE es q):=by
 obtain⟨x,hx⟩:∃x,xs[q]?=some x:=⟨_,getElem?_eq_getElem (by rw[h.length];exact hq)⟩
 obtain⟨o,ho,hE⟩:=Paired.get h hx;refine⟨x,hx,?_⟩;unfold noE;rw[ho];cases o with
 | none=>exact decide_eq_true hE
 | some e=>
  refine decide_eq_false ?_;rintro rfl;cases e with
  | one wd n=>obtain⟨u,e,_⟩:=hE;cases e
  | many wd ns=>obtain⟨u,l,e,_⟩:=hE;cases e
  | free=>obtain⟨u,e,_⟩:=hE;cases e
def DOk(n:Nat) (d:yB):Prop:=∀k v,zF d k=some v->v=.str "shut"\/∃p:Nat,v=.int (p:Nat)/\p<n
theorem wC{n i:Nat}(h:i<n):ixN n (i:Int)=some i:=by
 unfold ixN;rw[if_pos (by omega),if_pos (by omega)]
 rfl
theorem vE(a b:List Nat):yj (a++b)=yj a++yj b:=by unfold yj;rw[map_append]
theorem xF(ns:List Nat):(yj ns).length=ns.length:=by unfold yj;rw[length_map]
theorem zgx{i:Nat}:∀{L:List Nat},inV (.int (i:Nat)) ((yj L).map V.int)=decide (i∈L)
 | []=>by simp [inV,yj]
 | y::ys=>by
  have ih:=zgx (i:=i) (L:=ys);unfold yj inV at ih |-;rw[map_cons,map_cons,any_cons,ih,Bool.eq_iff_iff];simp only[Bool.or_eq_true,decide_eq_true_eq,List.mem_cons];refine or_congr_left ?_;unfold eqV;constructor
  ·intro h
   have:((y:Nat):Int)=((i:Nat):Int):=by simpa using h
   omega
  ·rintro rfl
   simp
theorem zgG{L:List Nat}:((yj L).map V.int).all xI=true:=by
 rw[all_eq_true];intro x hx;obtain⟨n,_,rfl⟩:=List.mem_map.mp hx;rfl
def SX2(a b:Addr) (H H':Hp):Prop:=∀c o,H c=some o->c≠a->c≠b->H' c=some o
theorem SX2.trans{a b:Addr}{H H1 H2:Hp}(x:SX2 a b H H1) (y:SX2 a b H1 H2):SX2 a b H H2:=fun c o e n m=>y c o (x c o e n m) n m
theorem SX2.of{a b:Addr}{H H':Hp}(s:zo H H'):SX2 a b H H':=fun c o e _ _=>s c o e
theorem SX2.refl{a b:Addr}{H:Hp}:SX2 a b H H:=fun _ _ e _ _=>e
theorem SX2.l{a b:Addr}{H H':Hp}{v:HO}(x:SX2 a b H H'):SX2 a b H (upd H' a v):=fun c o e n m=>by rw[zh n];exact x c o e n m
theorem SX2.r{a b:Addr}{H H':Hp}{v:HO}(x:SX2 a b H H'):SX2 a b H (upd H' b v):=fun c o e n m=>by rw[zh m];exact x c o e n m
def zj5(H:Hp) (v:V):Option (Str×Nat)->Prop
 | none=>v=.non
 | some r=>∃u,v=.ref u/\H u=some (.tup [.str r.1,.int (r.2:Nat)])
def qV:Option Nat->V
 | none=>.non
 | some q=>.int (q:Nat)
def qH(K:Frag):Sp:=fun vs H Q _=>∃(le ln lu ld:Addr) (q:Option Nat) (L:List Addr) (es:List (Option En)) (zs:List Str) (us:List Nat) (d:yB),vs=[.ref le,.ref ln,.ref lu,.ref ld,qV q]/\yT K L H le es/\le∈L/\lu∈L/\(∀a∈L,∃o,H a=some o)/\le≠lu/\H lu=some (.lst ((yj us).map V.int))/\H ln=some (.lst (zs.map V.str))/\ln≠le/\ln≠lu/\H ld=some (.dK d)/\DOk es.length d/\(∀b,q=some b->b<es.length)/\zs.length<=100/\us.length<=800/\
 ∀(v:V) (H':Hp),SX2 le lu H H'->yT K L H' le (xm d q zs es us).2.1->H' lu=some (.lst ((yj (xm d q zs es us).2.2).map V.int))->zj5 H' v (xm d q zs es us).1->Q v H'
theorem jo{d:yB}{q:Option Nat}:∀(zs:List Str) (j:Nat) (es:List (Option En)) (us gs:List Nat),(thF d q j zs es us gs).2.1.length=es.length
 | [],_,_,_,_=>rfl
 | z::zs,j,es,us,gs=>by
  unfold thF;split
  ·exact jo zs _ _ _ _
  ·split
   ·rfl
   ·split
    ·split
     ·rw[jo zs,length_set]
     ·rfl
    ·split
     ·split
      ·rw[jo zs,length_set]
      ·rfl
     ·rfl
theorem ux{d:yB}{q:Option Nat}:∀(zs:List Str) (j:Nat) (es:List (Option En)) (us gs:List Nat),(thF d q j zs es us gs).2.2.1.length<=us.length+zs.length
 | [],_,_,_,_=>le_refl _
 | z::zs,j,es,us,gs=>by
  unfold thF;rw[length_cons];split
  ·have:=ux (d:=d) (q:=q) zs (j+1) es us gs;omega
  ·split
   ·exact le_add_right _ _
   ·split
    ·split
     ·refine le_trans (ux zs _ _ _ _) ?_
      rw[length_append,length_singleton];omega
     ·exact le_add_right _ _
    ·split
     ·split
      ·refine le_trans (ux zs _ _ _ _) ?_
       rw[length_append,length_singleton];omega
      ·exact le_add_right _ _
     ·exact le_add_right _ _
theorem zcf{d:yB}{q:Option Nat}{zs:List Str}{es:List (Option En)}{us:List Nat}:(xm d q zs es us).2.2.length<=us.length+zs.length:=by
 have:=ux (d:=d) (q:=q) zs 0 es us []
 unfold xm;split
 next e=>rw[e] at this;exact this
 next e=>rw[e] at this;exact this
theorem zd8{d:yB}{q:Option Nat}{zs:List Str}{es:List (Option En)}{us:List Nat}:(xm d q zs es us).2.1.length=es.length:=by
 have:=jo (d:=d) (q:=q) zs 0 es us []
 unfold xm;split
 next e=>
  rw[e] at this;show(qF q _).length=_;unfold qF;split
  ·split
   ·rw[length_set];exact this
   ·exact this
  ·exact this
 next e=>rw[e] at this;exact this
theorem zeM{n:Nat}{d:yB}(h:DOk n d) {z:Str}:xJ d z=false->∀v,zF d (.inr z)=some v->∃p:Nat,v=.int (p:Nat)/\p<n:=by
 intro hs v hv;rcases h _ _ hv with rfl|hp
 ·unfold xJ at hs
  rw[hv] at hs;exact absurd rfl (of_decide_eq_false hs)
 ·exact hp
section
variable {P:Program}{w:World}{K:Frag}{mg:Str->Option Value}{base:Heap}{f:Addr}{fd:FuncData}
structure TI(K:Frag) (L:List Addr) (H H':Hp) (le lu lg:Addr) (es:List (Option En)) (us gs:List Nat) (d:yB):Prop where
 x:SX2 le lu H H'
 e:yT K (lg::L) H' le es
 u:H' lu=some (.lst ((yj us).map V.int))
 g:H' lg=some (.lst ((yj gs).map V.int))
 ng:H lg=none
theorem vO:zr ["_law_entries","_law_names","_law_used","_law_doors","_law_q","_law_gathered","_law_j","_law_name"] ["_law_entries","_law_names","_law_used","_law_doors","_law_q"] (zi jK):=⟨rfl,rfl,rfl,by decide +kernel,rfl,by decide +kernel,by decide +kernel⟩
theorem zcO(F:Fun K "_law_through" "_law_through" jK f fd) (U:jb mg):zD P w K mg base CX0 1 f fd ["_law_entries","_law_names","_law_used","_law_doors","_law_q"] (qH K):=by
 refine F.ok vO (fun vs H Q E h=>?_) (fun cdv A outer s H vs Q E hr h=>?_)
 ·obtain⟨le,ln,lu,ld,q,L,es,zs,us,d,rfl,_⟩:=h
  rfl
 obtain⟨le,ln,lu,ld,q,L,es,zs,us,d,rfl,hE,leL,luL,hL,neu,hlu,hln,nle,nlu,hld,hD,hq,lz,lus,Qk⟩:=h;have hU:=hr.units;have hU0:=hr.units0;have hu1:=jh hr;refine⟨_,zf (zu (i:=5) vO.nd rfl (Or.inl rfl) (zO zc))
  (zf (xq PassesOwn.never rfl (yH rfl U.en (ac (pv 1) zc)) (yi rfl (zp (zl (i:=6) vO.nd rfl (Or.inl rfl)) (zp (zl (i:=7) vO.nd rfl (Or.inl rfl)) zS)))
   (zf (zH (zk yh (pv 6) (pv 2) (by with_unfolding_all rfl)) (ze zbs) zv)
   (zf (zH (zk z7 (jT hu1 (pv 3) (pv 7) ⟨rfl,rfl,rfl,rfl⟩) zj (zt _)) (ze (zq (zC (ac zj (ac (pv 6) zc))))) zv)
   (zf (zH (PW.pt (yw (yL (zcK hu1 (pv 7) (pv 3))) (yd (yL (uD (zB yF (pv 0) (vR hu1 (pv 3) (pv 7) (fun _ _=>rfl)) (fun _ _=>rfl))))))) (ze (zq (zC (ac zj (ac (pv 6) zc))))) zv)
   (zf (zH (yL (zcK hu1 (pv 7) (pv 3))) (ze (xN (zC (ac zj (ac (pv 6) zc))) (uW (pv 0) (vR hu1 (pv 3) (pv 7) (fun _ _=>rfl)) wI)))
    (ze (zH (PW.pt (yw (yL (uD (pv 4))) (yd (PW.pt (wc (yL (wb (zB yF (pv 0) (pv 4) (fun _ _=>rfl)))) (xM (zk (OpR.or (ud hU) (wP hU0)) (pv 5) (zO zc) (zt _))))))))
     (zf (zI (y3 PySem.F.plainAttrs_list PySem.F.slot_list_append PySem.F.type_list_append zQ (pv 5) (ac (pv 6) zc)))
     (ze (xN (zC (ac zj (ac (cTy yl U.list PyProof.Rows.boot_list (ac (pv 5) zc)) zc))) (uW (pv 0) (pv 4) wI))))
     (ze (zq (zC (ac zj (ac (pv 6) zc))))))))
   (ze (zI (y3 PySem.F.plainAttrs_list PySem.F.slot_list_append PySem.F.type_list_append zQ (pv 2) (ac (pv 6) zc)))))))))
  (zf (zH (PW.pt (yw (yL (uD (pv 4))) (yd (yL (wb (zB yF (pv 0) (pv 4) (fun _ _=>rfl))))))) (ze (xN (zC (ac zj (ac (zO zc) zc))) (uW (pv 0) (pv 4) wI))) zv)
  (ze (zq uX)))),?_⟩
 obtain⟨ae,hae⟩:=hL le leL;have nld:ld≠le:=fun e=>by obtain⟨xs,h1,_⟩:=hE;rw[<- e,hld] at h1;cases h1
 have nldu:ld≠lu:=fun e=>by rw[<- e,hld] at hlu;cases hlu
 refine⟨zz0,fun lg hlg=>?_⟩;have s1:=zb hlg (.lst []);have g1:upd H lg (.lst []) lg=some (.lst ((yj []).map V.int)):=za;have nge:lg≠le:=fun e=>by rw[e,hae] at hlg;cases hlg
 have ngu:lg≠lu:=fun e=>by rw[e,hlu] at hlg;cases hlg
 have T0:TI K L H (upd H lg (.lst [])) le lu lg es us [] d:=by
  refine⟨SX2.of s1,?_,s1 _ _ hlu,g1,hlg⟩;obtain⟨xs,h1,h2⟩:=hE;exact⟨xs,s1 _ _ h1,Paired.imp' (fun _ _ z=>(EnO.more z hlg).same s1) h2⟩
 dsimp only[yr];generalize upd H lg (.lst [])=H1 at s1 g1 T0 |-;clear s1 g1 hE hlu;have back:∀{H':Hp}{es':List (Option En)},yT K (lg::L) H' le es'->yT K L H' le es':=fun {H' es'} h=>by
  obtain⟨xs,h1,h2⟩:=h;exact⟨xs,h1,Paired.imp' (fun _ _ z=>EnO.weak z fun a ha hm=>ha (mem_cons_of_mem _ hm)) h2⟩
 have stop:∀{H':Hp}{es':List (Option En)}{us' gs':List Nat}{wd:Str}{j:Nat},TI K L H H' le lu lg es' us' gs' d->thF d q 0 zs es us []=(some (wd,j),es',us',gs')->∀u,H' u=none->Q (.ref u) (upd H' u (.tup [.str wd,.int (j:Nat)])):=fun {H' es' us' gs' wd j} T e u hu=>by
  have s2:=zb hu (.tup [.str wd,.int (j:Nat)]);have ea:xm d q zs es us=(some (wd,j),es',us'):=by unfold xm;rw[e]
  refine Qk _ _ (T.x.trans (SX2.of s2)) ?_ ?_ ?_
  ·rw[ea];exact back (T.e.same s2)
  ·rw[ea];exact s2 _ _ T.u
  ·rw[ea];exact⟨u,rfl,za⟩
 have hR0:thF d q 0 zs es us []=thF d q 0 (zs.drop 0) es us []:=rfl;have fin0:∀{es':List (Option En)}{us' gs':List Nat},thF d q 0 zs es us []=(none,es',us',gs')->xm d q zs es us=(none,qF q es',us'):=fun {es' us' gs'} e=>by unfold xm;rw[e]
 generalize thF d q 0 zs es us []=R at stop hR0 fin0;refine yv (fun σ' H'=>∃(es':List (Option En)) (us' gs':List Nat) (v6 v7:Option V),σ'=[some (.ref le),some (.ref ln),some (.ref lu),some (.ref ld),some (qV q),some (.ref lg),v6,v7]/\TI K L H H' le lu lg es' us' gs' d/\R=(none,es',us',gs')/\es'.length=es.length) ?_ (fun key=>?_);rotate_left
 ·refine⟨_,rfl,ln,rfl,⟨_,SqL.of (T0.x _ _ hln nle nlu)⟩,xY (K:=K) (a:=ln) (xs:=zs.map V.str) (fun i σ H'=>∃(es':List (Option En)) (us' gs':List Nat) (v6 v7:Option V),σ=[some (.ref le),some (.ref ln),some (.ref lu),some (.ref ld),some (qV q),some (.ref lg),v6,v7]/\TI K L H H' le lu lg es' us' gs' d/\R=thF d q i (zs.drop i) es' us' gs'/\es'.length=es.length/\us'.length<=800+i/\gs'.length<=i) ⟨es,us,[],_,_,rfl,T0,hR0,rfl,by omega,le_refl _⟩ (fun i σ H' _ ⟨_,_,_,_,_,_,T,_⟩=>SqL.of (T.x _ _ hln nle nlu)) ?_ ?_⟩
  ·rintro i x tn σ H2 hx ⟨es',us',gs',v6,v7,rfl,T,eF,lE,lU,lG⟩ htn
   obtain⟨z,hz,rfl⟩:=strs_at hx;have hi:i<zs.length:=(List.getElem?_eq_some_iff.mp hz).1;have ed:zs.drop i=z::zs.drop (i+1):=by
    rw[drop_eq_getElem_cons hi]
    congr 1
    exact(List.getElem?_eq_some_iff.mp hz).2
   rw[ed] at eF;have sp:=zb htn (.tup [.int (i:Nat),.str z]);refine⟨tn,_,rfl,SqT.of za,rfl,_,_,rfl,_,_,rfl,rfl,?_⟩;have T:TI K L H (upd H2 tn (.tup [.int (i:Nat),.str z])) le lu lg es' us' gs' d:=⟨T.x.trans (SX2.of sp),T.e.same sp,sp _ _ T.u,sp _ _ T.g,T.ng⟩;generalize upd H2 tn (.tup [.int (i:Nat),.str z])=H3 at sp T |-;have hld3:H3 ld=some (.dK d):=T.x _ _ hld nld nldu;have dg:vL H3 ld (.str z) (zF d (.inr z)):=vL.k (k:=.inr z) hld3;unfold thF at eF;refine⟨_,rfl,_,rfl,lu,_,rfl,.inl (SqL.of T.u),rfl,zgG,_,rfl,?_⟩;rw[if_neg Bool.false_ne_true,zgx];by_cases hu:i∈us'
   ·rw[if_pos hu] at eF
    refine dT hu ?_;exact⟨es',us',gs',_,_,rfl,T,eF,lE,by omega,by omega⟩
   rw[if_neg hu] at eF;refine dF hu ?_;refine⟨_,rfl,ld,rfl,.inl ⟨d,.inl hld3⟩,_,rfl,_,dg,?_,_,rfl,?_⟩
   ·cases hv:zF d (.inr z) with
    | none=>rfl
    | some v=>
     rcases hD _ _ hv with rfl|⟨p,rfl,_⟩
     ·rfl
     ·rfl
   by_cases hs:xJ d z=true
   ·rw[if_pos hs] at eF
    refine dT (of_decide_eq_true hs) ?_;exact⟨_,rfl,zz2,stop T eF⟩
   have hs:xJ d z=false:=by simpa using hs
   rw[hs,if_neg Bool.false_ne_true] at eF;refine dF (of_decide_eq_false hs) ?_;obtain⟨xs,hxs,hps⟩:=T.e;refine⟨_,rfl,_,rfl,ld,_,rfl,dg,_,rfl,?_⟩;cases hv:zF d (.inr z) with
   | some v=>
    obtain⟨p,rfl,hp⟩:=zeM hD hs v hv;rw[hv] at eF dg;have eF:R=if noE es' p=true then thF d q (i+1) (zs.drop (i+1)) (es'.set p (some (.one "name" i))) (us'++[i]) gs' else (some ("again",i),es',us',gs'):=by
     have:vN (.int (p:Nat))=p:=by show((p:Nat):Int).toNat=p;omega
     rw[<- this];exact eF
    obtain⟨x,hx',hxn⟩:=qg hps (q:=p) (by omega)
    refine yY ?_;refine⟨_,rfl,_,rfl,_,rfl,ld,_,rfl,dg,le,_,_,x,rfl,rfl,SqL.of hxs,yJ hx',_,rfl,?_⟩;by_cases hn:noE es' p=true
    ·rw[if_pos hn] at eF
     refine vf (by rw[hxn,hn];rfl) ?_
     refine⟨_,rfl,_,rfl,ld,_,rfl,dg,_,rfl,?_⟩;refine yY ?_;refine⟨_,rfl,zz2,fun u hu'=>?_⟩;have s4:=zb hu' (.tup [.str "name",.int (i:Nat)]);have e4:EnO K (okL (lg::L)) (upd H3 u (.tup [.str "name",.int (i:Nat)])) (.ref u) (some (.one "name" i)):=⟨u,rfl,SqT.of za⟩;have T4x:=T.x.trans (SX2.of (a:=le) (b:=lu) s4);have hxs4:=s4 _ _ hxs;have hps4:=Paired.imp' (fun _ _ z=>EnO.same z s4) hps;have u4:=s4 _ _ T.u;have g4:=s4 _ _ T.g;have dg4:vL (upd H3 u (.tup [.str "name",.int (i:Nat)])) ld (.str z) (some (.int (p:Nat))):=by
      have:=vL.k (k:=.inr z) (s4 _ _ hld3)
      rw[hv] at this;exact this
     generalize upd H3 u (.tup [.str "name",.int (i:Nat)])=H4 at s4 e4 T4x hxs4 hps4 u4 g4 dg4 |-;refine⟨_,rfl,_,rfl,_,rfl,ld,_,rfl,dg4,le,xs,_,p,rfl,rfl,hxs4,wC (by rw[hps.length];omega),?_⟩
     have T5:TI K L H (upd H4 le (.lst (xs.set p (.ref u)))) le lu lg (es'.set p (some (.one "name" i))) us' gs' d:=⟨T4x.l,yT.set hxs4 hps4 e4 (mem_cons_of_mem _ leL),by rw[zh (Ne.symm neu)];exact u4,by rw[zh nge];exact g4,T.ng⟩
     generalize upd H4 le (.lst (xs.set p (.ref u)))=H5 at T5 |-;refine⟨_,rfl,.inl ⟨rfl,_,SqL.of T5.u⟩,_,rfl,lu,_,_,rfl,rfl,T5.u,zE (by rw[length_map,xF];omega),?_⟩
     refine⟨_,us'++[i],gs',_,_,rfl,⟨T5.x.r,yT.put T5.e T5.u (mem_cons_of_mem _ luL) neu,by rw[za,vE,map_append];rfl,by rw[zh ngu];exact T5.g,T5.ng⟩,eF,by rw[length_set];exact lE,by rw[length_append,length_singleton];omega,by omega⟩
    ·rw[if_neg hn] at eF
     refine vg (by rw[hxn];simpa using hn) ?_
     exact⟨_,rfl,zz2,stop T eF⟩
   | none=>
    rw[hv] at eF dg;refine zK ?_;refine⟨_,rfl,_,rfl,ld,_,rfl,dg,_,rfl,?_⟩;refine zK ?_;refine⟨_,rfl,_,rfl,?_⟩;cases hq':q with
    | none=>
     rw[hq'] at eF;refine zK ?_;refine zK ?_;exact⟨_,rfl,zz2,stop T eF⟩
    | some b=>
     have hb:=hq b hq';obtain⟨x,hx',hxn⟩:=qg hps (q:=b) (by omega)
     refine yY ?_;refine⟨_,rfl,_,rfl,le,_,_,x,rfl,rfl,SqL.of hxs,yJ hx',_,rfl,?_⟩;have eF':R=if noE es' b=true\/gs'≠[] then thF d q (i+1) (zs.drop (i+1)) (es'.set b (some (.many "names" (gs'++[i])))) (us'++[i]) (gs'++[i]) else (some ("strange",i),es',us',gs'):=by
      rw[hq'] at eF |-;exact eF
     by_cases hn:noE es' b=true
     ·rw[if_pos (.inl hn)] at eF'
      refine vg (by rw[hxn];exact hn) ?_
      refine yY ?_;refine⟨_,rfl,.inl ⟨rfl,_,SqL.of T.g⟩,_,rfl,lg,_,_,rfl,rfl,T.g,zE (by rw[length_map,xF];omega),?_⟩
      have Tg:TI K L H (upd H3 lg (.lst ((yj gs').map V.int++[.int (i:Nat)]))) le lu lg es' us' (gs'++[i]) d:=⟨fun c o e n m=>by rw[zh (zd e T.ng)];exact T.x c o e n m,yT.put T.e T.g mem_cons_self (Ne.symm nge),by rw[zh (Ne.symm ngu)];exact T.u,by rw[za,vE,map_append];rfl,T.ng⟩
      generalize upd H3 lg (.lst ((yj gs').map V.int++[.int (i:Nat)]))=H8 at Tg |-;refine⟨_,rfl,lg,_,rfl,.inl (SqL.of Tg.g),fun l9 hl9=>?_⟩;have s9:=zb hl9 (.lst ((yj (gs'++[i])).map V.int));have e9:upd H8 l9 (.lst ((yj (gs'++[i])).map V.int)) l9=some (.lst ((yj (gs'++[i])).map V.int)):=za;have n9:okL (lg::L) l9:=fun hm=>by
       rcases List.mem_cons.mp hm with rfl|hm
       ·rw[Tg.g] at hl9;cases hl9
       ·obtain⟨o,ho⟩:=hL l9 hm
        by_cases h1:l9=le
        ·obtain⟨xs9,h9,_⟩:=Tg.e;rw[h1,h9] at hl9;cases hl9
        ·by_cases h2:l9=lu
         ·rw[h2,Tg.u] at hl9;cases hl9
         ·rw[Tg.x _ _ ho h1 h2] at hl9;cases hl9
      have T9:TI K L H (upd H8 l9 (.lst ((yj (gs'++[i])).map V.int))) le lu lg es' us' (gs'++[i]) d:=⟨Tg.x.trans (SX2.of s9),Tg.e.same s9,s9 _ _ Tg.u,s9 _ _ Tg.g,Tg.ng⟩;generalize upd H8 l9 (.lst ((yj (gs'++[i])).map V.int))=H9 at s9 e9 T9 |-;refine⟨zz2,fun u hu'=>?_⟩;have s10:=zb hu' (.tup [.str "names",.ref l9]);have e10:EnO K (okL (lg::L)) (upd H9 u (.tup [.str "names",.ref l9])) (.ref u) (some (.many "names" (gs'++[i]))):=⟨u,l9,rfl,SqT.of za,n9,s10 _ _ e9⟩;have T10:TI K L H (upd H9 u (.tup [.str "names",.ref l9])) le lu lg es' us' (gs'++[i]) d:=⟨T9.x.trans (SX2.of s10),T9.e.same s10,s10 _ _ T9.u,s10 _ _ T9.g,T9.ng⟩;generalize upd H9 u (.tup [.str "names",.ref l9])=H10 at s10 e10 T10 |-;obtain⟨xs10,hxs10,hps10⟩:=T10.e;refine⟨_,rfl,_,rfl,le,xs10,_,b,rfl,rfl,hxs10,wC (by rw[hps10.length];omega),?_⟩
      have T11:TI K L H (upd H10 le (.lst (xs10.set b (.ref u)))) le lu lg (es'.set b (some (.many "names" (gs'++[i])))) us' (gs'++[i]) d:=⟨T10.x.l,yT.set hxs10 hps10 e10 (mem_cons_of_mem _ leL),by rw[zh (Ne.symm neu)];exact T10.u,by rw[zh nge];exact T10.g,T10.ng⟩
      generalize upd H10 le (.lst (xs10.set b (.ref u)))=H11 at T11 |-;refine⟨_,rfl,.inl ⟨rfl,_,SqL.of T11.u⟩,_,rfl,lu,_,_,rfl,rfl,T11.u,zE (by rw[length_map,xF];omega),?_⟩
      exact⟨_,us'++[i],gs'++[i],_,_,rfl,⟨T11.x.r,yT.put T11.e T11.u (mem_cons_of_mem _ luL) neu,by rw[za,vE,map_append];rfl,by rw[zh ngu];exact T11.g,T11.ng⟩,(by rw[hq'] at eF';exact eF'),by rw[length_set];exact lE,by rw[length_append,length_singleton];omega,by rw[length_append,length_singleton];omega⟩
     ·refine vf (by rw[hxn];simpa using hn) ?_
      refine⟨_,rfl,zz0,fun l0 hl0=>?_⟩;have s7:=zb hl0 (.lst []);by_cases hg:gs'=[]
      ·rw[if_neg (by rintro (h|h);exact hn h;exact h hg)] at eF'
       subst hg;refine .inl ⟨lg,l0,0,.lst [],fun _=>True,fun _=>True,rfl,rfl,by decide,.lst True.intro (s7 _ _ T.g) .nil,.lst True.intro za .nil,_,rfl,?_⟩
       refine zK ?_;exact⟨_,rfl,zz2,stop ⟨T.x.trans (SX2.of s7),T.e.same s7,s7 _ _ T.u,s7 _ _ T.g,T.ng⟩ eF'⟩
      ·rw[if_pos (.inr hg)] at eF'
       refine .inr ⟨lg,l0,_,_,rfl,rfl,s7 _ _ T.g,za,by rw[length_map,xF];simpa using hg,_,rfl,?_⟩
       refine yY ?_;have T7:TI K L H (upd H3 l0 (.lst [])) le lu lg es' us' gs' d:=⟨T.x.trans (SX2.of s7),T.e.same s7,s7 _ _ T.u,s7 _ _ T.g,T.ng⟩;generalize upd H3 l0 (.lst [])=H7 at s7 T7 |-;refine⟨_,rfl,.inl ⟨rfl,_,SqL.of T7.g⟩,_,rfl,lg,_,_,rfl,rfl,T7.g,zE (by rw[length_map,xF];omega),?_⟩
       have Tg:TI K L H (upd H7 lg (.lst ((yj gs').map V.int++[.int (i:Nat)]))) le lu lg es' us' (gs'++[i]) d:=⟨fun c o e n m=>by rw[zh (zd e T7.ng)];exact T7.x c o e n m,yT.put T7.e T7.g mem_cons_self (Ne.symm nge),by rw[zh (Ne.symm ngu)];exact T7.u,by rw[za,vE,map_append];rfl,T7.ng⟩
       generalize upd H7 lg (.lst ((yj gs').map V.int++[.int (i:Nat)]))=H8 at Tg |-;refine⟨_,rfl,lg,_,rfl,.inl (SqL.of Tg.g),fun l9 hl9=>?_⟩;have s9:=zb hl9 (.lst ((yj (gs'++[i])).map V.int));have e9:upd H8 l9 (.lst ((yj (gs'++[i])).map V.int)) l9=some (.lst ((yj (gs'++[i])).map V.int)):=za;have n9:okL (lg::L) l9:=fun hm=>by
        rcases List.mem_cons.mp hm with rfl|hm
        ·rw[Tg.g] at hl9;cases hl9
        ·obtain⟨o,ho⟩:=hL l9 hm
         by_cases h1:l9=le
         ·obtain⟨xs9,h9,_⟩:=Tg.e;rw[h1,h9] at hl9;cases hl9
         ·by_cases h2:l9=lu
          ·rw[h2,Tg.u] at hl9;cases hl9
          ·rw[Tg.x _ _ ho h1 h2] at hl9;cases hl9
       have T9:TI K L H (upd H8 l9 (.lst ((yj (gs'++[i])).map V.int))) le lu lg es' us' (gs'++[i]) d:=⟨Tg.x.trans (SX2.of s9),Tg.e.same s9,s9 _ _ Tg.u,s9 _ _ Tg.g,Tg.ng⟩;generalize upd H8 l9 (.lst ((yj (gs'++[i])).map V.int))=H9 at s9 e9 T9 |-;refine⟨zz2,fun u hu'=>?_⟩;have s10:=zb hu' (.tup [.str "names",.ref l9]);have e10:EnO K (okL (lg::L)) (upd H9 u (.tup [.str "names",.ref l9])) (.ref u) (some (.many "names" (gs'++[i]))):=⟨u,l9,rfl,SqT.of za,n9,s10 _ _ e9⟩;have T10:TI K L H (upd H9 u (.tup [.str "names",.ref l9])) le lu lg es' us' (gs'++[i]) d:=⟨T9.x.trans (SX2.of s10),T9.e.same s10,s10 _ _ T9.u,s10 _ _ T9.g,T9.ng⟩;generalize upd H9 u (.tup [.str "names",.ref l9])=H10 at s10 e10 T10 |-;obtain⟨xs10,hxs10,hps10⟩:=T10.e;refine⟨_,rfl,_,rfl,le,xs10,_,b,rfl,rfl,hxs10,wC (by rw[hps10.length];omega),?_⟩
       have T11:TI K L H (upd H10 le (.lst (xs10.set b (.ref u)))) le lu lg (es'.set b (some (.many "names" (gs'++[i])))) us' (gs'++[i]) d:=⟨T10.x.l,yT.set hxs10 hps10 e10 (mem_cons_of_mem _ leL),by rw[zh (Ne.symm neu)];exact T10.u,by rw[zh nge];exact T10.g,T10.ng⟩
       generalize upd H10 le (.lst (xs10.set b (.ref u)))=H11 at T11 |-;refine⟨_,rfl,.inl ⟨rfl,_,SqL.of T11.u⟩,_,rfl,lu,_,_,rfl,rfl,T11.u,zE (by rw[length_map,xF];omega),?_⟩
       exact⟨_,us'++[i],gs'++[i],_,_,rfl,⟨T11.x.r,yT.put T11.e T11.u (mem_cons_of_mem _ luL) neu,by rw[za,vE,map_append];rfl,by rw[zh ngu];exact T11.g,T11.ng⟩,(by rw[hq'] at eF';exact eF'),by rw[length_set];exact lE,by rw[length_append,length_singleton];omega,by rw[length_append,length_singleton];omega⟩
  ·rintro σ H2 ⟨es',us',gs',v6,v7,rfl,T,eF,lE,lU,lG⟩
   rw[length_map,drop_length] at eF;exact key _ _ ⟨es',us',gs',_,_,rfl,T,eF,lE⟩
 rintro σ2 H2 ⟨es',us',gs',v6,v7,rfl,T,eF,lE⟩;have ea:=fin0 eF;refine⟨_,rfl,_,rfl,?_⟩;cases hq':q with
 | none=>
  refine zK ?_;refine zK ?_;refine Qk _ _ T.x ?_ ?_ ?_
  ·rw[ea,hq'];exact back T.e
  ·rw[ea];exact T.u
  ·rw[ea];exact rfl
 | some b=>
  have hb:=hq b hq';obtain⟨xs,hxs,hps⟩:=T.e;obtain⟨x,hx',hxn⟩:=qg hps (q:=b) (by omega)
  refine yY ?_;refine⟨_,rfl,_,rfl,le,_,_,x,rfl,rfl,SqL.of hxs,yJ hx',_,rfl,?_⟩;by_cases hn:noE es' b=true
  ·refine vg (by rw[hxn];exact hn) ?_
   refine⟨zz0,fun l9 hl9=>?_⟩;have s9:=zb hl9 (.lst []);have e9:upd H2 l9 (.lst []) l9=some (.lst ((yj []).map V.int)):=za;have n9:okL (lg::L) l9:=fun hm=>by
    rcases List.mem_cons.mp hm with rfl|hm
    ·rw[T.g] at hl9;cases hl9
    ·obtain⟨o,ho⟩:=hL l9 hm
     by_cases h1:l9=le
     ·rw[h1,hxs] at hl9;cases hl9
     ·by_cases h2:l9=lu
      ·rw[h2,T.u] at hl9;cases hl9
      ·rw[T.x _ _ ho h1 h2] at hl9;cases hl9
   have hxs9:=s9 _ _ hxs;have hps9:=Paired.imp' (fun _ _ z=>EnO.same z s9) hps;have u9:=s9 _ _ T.u;have x9:=T.x.trans (SX2.of (a:=le) (b:=lu) s9);generalize upd H2 l9 (.lst [])=H9 at s9 e9 hxs9 hps9 u9 x9 |-;refine⟨zz2,fun u hu'=>?_⟩;have s10:=zb hu' (.tup [.str "names",.ref l9]);have e10:EnO K (okL (lg::L)) (upd H9 u (.tup [.str "names",.ref l9])) (.ref u) (some (.many "names" [])):=⟨u,l9,rfl,SqT.of za,n9,s10 _ _ e9⟩;have hxs10:=s10 _ _ hxs9;have hps10:=Paired.imp' (fun _ _ z=>EnO.same z s10) hps9;have u10:=s10 _ _ u9;have x10:=x9.trans (SX2.of (a:=le) (b:=lu) s10);generalize upd H9 u (.tup [.str "names",.ref l9])=H10 at s10 e10 hxs10 hps10 u10 x10 |-;refine⟨_,rfl,_,rfl,le,xs,_,b,rfl,rfl,hxs10,wC (by rw[hps.length];omega),?_⟩
   refine Qk _ _ x10.l ?_ ?_ ?_
   ·rw[ea,hq']
    show yT K L _ le (if noE es' b=true then es'.set b (some (.many "names" [])) else es')
    rw[if_pos hn];exact back (yT.set hxs10 hps10 e10 (mem_cons_of_mem _ leL))
   ·rw[ea,zh (Ne.symm neu)];exact u10
   ·rw[ea];exact rfl
  ·refine vf (by rw[hxn];simpa using hn) ?_
   refine Qk _ _ T.x ?_ ?_ ?_
   ·rw[ea,hq']
    show yT K L _ le (if noE es' b=true then es'.set b (some (.many "names" [])) else es')
    rw[if_neg hn];exact back ⟨xs,hxs,hps⟩
   ·rw[ea];exact T.u
   ·rw[ea];exact rfl
end
def zaZ:Mv->Prop
 | .fin=>True|.need _=>True|.take _=>True|.gather _=>True|.free _=>True|_=>False
def mvW:Mv->Str
 | .take _=>"take"|.gather _=>"gather"|.fin=>"end"|.door _ _=>"door"|.bar _=>"bar"|.names _=>"names"|.need _=>"need"|.free _=>"free"
theorem zhW(m:Mv):atI (mvV m) 0=some (.str (mvW m)):=by
 cases m <;> try rfl
 rename_i o;cases o <;> rfl
theorem y9{a b:Str}(h:a≠b):¬(V.str a=V.str b):=fun e=>h (V.str.inj e)
theorem zlQ:∀m:Mv,∃v,atI (mvV m) (-1)=some v:=by
 intro m;cases m <;> try exact⟨_,rfl⟩
 rename_i o;cases o <;> exact⟨_,rfl⟩
def ze7(K:Frag):Sp:=fun vs H Q _=>∃(le um ll:Addr) (m:Mv) (L:List Addr) (es:List (Option En)) (l:List Nat),vs=[.ref le,.ref um,.ref ll]/\zdk K H um m/\zaZ m/\zdj es.length m/\yT K L H le es/\le∈L/\ll∈L/\(∀a∈L,∃o,H a=some o)/\le≠ll/\H ll=some (.lst ((yj l).map V.int))/\l.length<=100/\
 ∀(v:V) (H':Hp),SX2 le ll H H'->yT K L H' le (stF m es l).2.1->H' ll=some (.lst ((yj (stF m es l).2.2).map V.int))->zj5 H' v (stF m es l).1->Q v H'
section
variable {P:Program}{w:World}{K:Frag}{mg:Str->Option Value}{base:Heap}{f:Addr}{fd:FuncData}
theorem zfi:zr ["_law_entries","_law_move","_law_left","_law_q"] ["_law_entries","_law_move","_law_left"] (zi zfp):=⟨rfl,rfl,rfl,by decide +kernel,rfl,by decide +kernel,by decide +kernel⟩
theorem zhF(F:Fun K "_law_step" "_law_step" zfp f fd) (U:jb mg):zD P w K mg base CX0 1 f fd ["_law_entries","_law_move","_law_left"] (ze7 K):=by
 refine F.ok zfi (fun vs H Q E h=>?_) (fun cdv A outer s H vs Q E hr h=>?_)
 ·obtain⟨le,um,ll,m,L,es,l,rfl,_⟩:=h
  rfl
 obtain⟨le,um,ll,m,L,es,l,rfl,hm,hst,hmo,hE,leL,llL,hL,nel,hll,lll,Qk⟩:=h;have hU:=hr.units;have hU0:=hr.units0;refine⟨_,zf (zu (i:=3) zfi.nd rfl (Or.inl rfl) (zB zy (pv 1) (zbw jA zg) (fun _ _=>rfl)))
  (zf (zH (PW.pt (yw (zk z7 (zB zy (pv 1) zg (fun _ _=>rfl)) zj (zt _)) (yd (zk (OpR.or (ud hU) (wP hU0)) (pv 2) (zO zc) (zt _))))) (ze (zq (zC (ac zj (ac (zB yF (pv 2) zg (fun _ _=>rfl)) zc))))) zv)
  (zf (zH (PW.pt (yw (zk z7 (zB zy (pv 1) zg (fun _ _=>rfl)) zj (zt _)) (yd (yL (wb (zB yF (pv 0) (pv 3) (fun _ _=>rfl))))))) (ze (zq (zC (ac zj (ac (pv 3) zc))))) zv)
  (zf (zH (PW.pt (yw (zk z7 (zB zy (pv 1) zg (fun _ _=>rfl)) zj (zt _)) (yw (yL (wb (zB yF (pv 0) (pv 3) (fun _ _=>rfl)))) (yd (zk (OpR.or (ud hU) (wP hU0)) (pv 2) (zO zc) (zt _)))))) (ze (xN (zC (ac zj (ac (y3 PySem.F.plainAttrs_list PySem.F.slot_list_pop PySem.F.type_list_pop zgl (pv 2) (ac zg zc)) zc))) (uW (pv 0) (pv 3) wI))) zv)
  (zf (zH (PW.pt (yw (zk z7 (zB zy (pv 1) zg (fun _ _=>rfl)) zj (zt _)) (yd (yL (wb (zB yF (pv 0) (pv 3) (fun _ _=>rfl))))))) (zf (xN (zC (ac zj (ac (cTy yl U.list PyProof.Rows.boot_list (ac (pv 2) zc)) zc))) (uW (pv 0) (pv 3) wI)) (ze (zI (zfT PySem.F.plainAttrs_list PySem.F.slot_list_clear PySem.F.type_list_clear zbK (pv 2))))) zv)
  (zf (zH (PW.pt (yw (zk z7 (zB zy (pv 1) zg (fun _ _=>rfl)) zj (zt _)) (yd (yL (wb (zB yF (pv 0) (pv 3) (fun _ _=>rfl))))))) (ze (xN (zC (ac zj zc)) (uW (pv 0) (pv 3) wI))) zv)
  (ze (zq uX))))))),?_⟩
 have hmT:SqT K H um (mvV m):=hm;obtain⟨xs,hxs,hps⟩:=id hE;have mv0:=zhW m;obtain⟨vl,hvl⟩:=zlQ m;refine⟨_,rfl,_,rfl,um,_,_,vl,rfl,rfl,hmT,hvl,?_⟩;have freshL:∀{H':Hp},SX2 le ll H H'->(∃o,H' le=some o)->(∃o,H' ll=some o)->∀{a:Addr},H' a=none->okL L a:=fun {H'} x h1 h2 {a} ha hm=>by
  obtain⟨o,ho⟩:=hL a hm;by_cases e1:a=le
  ·obtain⟨o,h1⟩:=h1;rw[e1,h1] at ha;cases ha
  ·by_cases e2:a=ll
   ·obtain⟨o,h2⟩:=h2;rw[e2,h2] at ha;cases ha
   ·rw[x _ _ ho e1 e2] at ha;cases ha
 have done:∀{H':Hp},SX2 le ll H H'->yT K L H' le (stF m es l).2.1->H' ll=some (.lst ((yj (stF m es l).2.2).map V.int))->(stF m es l).1=none->Q .non H':=fun x e1 e2 e3=>Qk _ _ x e1 e2 (by rw[e3];exact rfl)
 cases m with
 | door z q=>exact hst.elim
 | bar z=>exact hst.elim
 | names o=>exact hst.elim
 | fin=>
  refine⟨_,rfl,um,_,0,_,rfl,rfl,hmT,mv0,rfl,_,rfl,?_⟩;refine dT rfl ?_;refine⟨_,rfl,zz0,fun l0 hl0=>?_⟩;have s1:=zb hl0 (.lst []);cases l with
  | nil=>
   refine .inl ⟨ll,l0,0,.lst [],fun _=>True,fun _=>True,rfl,rfl,by decide,.lst True.intro (s1 _ _ hll) .nil,.lst True.intro za .nil,_,rfl,?_⟩
   refine zK ?_;have hm1:=s1.sqT hmT;have e1:=hE.same s1;have l1:=s1 _ _ hll;generalize upd H l0 (.lst [])=H1 at s1 hm1 e1 l1 |-;refine⟨_,rfl,um,_,0,_,rfl,rfl,hm1,mv0,rfl,_,rfl,?_⟩;refine dF (y9 (by decide +kernel)) ?_
   refine zK ?_;refine⟨_,rfl,um,_,0,_,rfl,rfl,hm1,mv0,rfl,_,rfl,?_⟩;refine dF (y9 (by decide +kernel)) ?_
   refine zK ?_;refine⟨_,rfl,um,_,0,_,rfl,rfl,hm1,mv0,rfl,_,rfl,?_⟩;refine dF (y9 (by decide +kernel)) ?_
   refine zK ?_;refine⟨_,rfl,um,_,0,_,rfl,rfl,hm1,mv0,rfl,_,rfl,?_⟩;refine dF (y9 (by decide +kernel)) ?_
   refine zK ?_;exact done (SX2.of s1) e1 l1 rfl
  | cons y ys=>
   refine .inr ⟨ll,l0,_,_,rfl,rfl,s1 _ _ hll,za,by rw[length_map,xF];exact Nat.succ_ne_zero _,_,rfl,?_⟩
   refine yY ?_;refine⟨_,rfl,ll,_,0,.int (y:Nat),rfl,rfl,SqL.of (s1 _ _ hll),yJ (j:=0) rfl,zz2,fun u hu=>?_⟩;have s2:=zb hu (.tup [.str "over",.int (y:Nat)]);have s12:=s1.trans s2;exact Qk _ _ (SX2.of s12) (hE.same s12) (s12 _ _ hll) ⟨u,rfl,za⟩
 | need q=>
  cases hvl;have mv0:atI (mvV (.need q)) 0=some (.str "need"):=mv0;have hq:q<es.length:=hmo;obtain⟨x,hx',hxn⟩:=qg hps hq;refine⟨_,rfl,um,_,0,_,rfl,rfl,hmT,mv0,rfl,_,rfl,?_⟩;refine dF (y9 (by decide +kernel)) ?_
  refine zK ?_;refine⟨_,rfl,um,_,0,_,rfl,rfl,hmT,mv0,rfl,_,rfl,?_⟩;refine dT rfl ?_;refine⟨_,rfl,_,rfl,le,_,_,x,rfl,rfl,SqL.of hxs,yJ hx',_,rfl,?_⟩;by_cases hn:noE es q=true
  ·have ef:stF (.need q) es l=(some (("lacking" : Str),q),es,l):=if_pos hn
   rw[ef] at Qk;refine vg (by rw[hxn];exact hn) ?_
   refine⟨_,rfl,zz2,fun u hu=>?_⟩;have s2:=zb hu (.tup [.str "lacking",.int (q:Nat)]);exact Qk _ _ (SX2.of s2) (hE.same s2) (s2 _ _ hll) ⟨u,rfl,za⟩
  ·have ef:stF (.need q) es l=(none,es,l):=if_neg hn
   rw[ef] at done;refine vf (by rw[hxn];simpa using hn) ?_
   refine⟨_,rfl,um,_,0,_,rfl,rfl,hmT,mv0,rfl,_,rfl,?_⟩;refine dF (y9 (by decide +kernel)) ?_
   refine zK ?_;refine⟨_,rfl,um,_,0,_,rfl,rfl,hmT,mv0,rfl,_,rfl,?_⟩;refine dF (y9 (by decide +kernel)) ?_
   refine zK ?_;refine⟨_,rfl,um,_,0,_,rfl,rfl,hmT,mv0,rfl,_,rfl,?_⟩;refine dF (y9 (by decide +kernel)) ?_
   refine zK ?_;exact done SX2.refl hE hll rfl
 | take q=>
  cases hvl;have mv0:atI (mvV (.take q)) 0=some (.str "take"):=mv0;have hq:q<es.length:=hmo;obtain⟨x,hx',hxn⟩:=qg hps hq;refine⟨_,rfl,um,_,0,_,rfl,rfl,hmT,mv0,rfl,_,rfl,?_⟩;refine dF (y9 (by decide +kernel)) ?_
  refine zK ?_;refine⟨_,rfl,um,_,0,_,rfl,rfl,hmT,mv0,rfl,_,rfl,?_⟩;refine dF (y9 (by decide +kernel)) ?_
  refine zK ?_;refine⟨_,rfl,um,_,0,_,rfl,rfl,hmT,mv0,rfl,_,rfl,?_⟩;refine dT rfl ?_;refine⟨_,rfl,_,rfl,le,_,_,x,rfl,rfl,SqL.of hxs,yJ hx',_,rfl,?_⟩;have wv:∀{H':Hp},SX2 le ll H H'->SqT K H' um (mvV (.take q))->yT K L H' le (stF (.take q) es l).2.1->H' ll=some (.lst ((yj (stF (.take q) es l).2.2).map V.int))->(stF (.take q) es l).1=none->∃x1,V.ref um=x1/\True:=fun _ _ _ _ _=>⟨_,rfl,trivial⟩;clear wv;by_cases hn:noE es q=true
  ·refine vg (by rw[hxn];exact hn) ?_
   refine⟨_,rfl,zz0,fun l0 hl0=>?_⟩;have s1:=zb hl0 (.lst []);cases l with
   | nil=>
    have ef:stF (.take q) es []=(none,es,[]):=if_pos hn;rw[ef] at done;refine .inl ⟨ll,l0,0,.lst [],fun _=>True,fun _=>True,rfl,rfl,by decide,.lst True.intro (s1 _ _ hll) .nil,.lst True.intro za .nil,_,rfl,?_⟩
    refine zK ?_;have hm1:=s1.sqT hmT;have e1:=hE.same s1;have l1:=s1 _ _ hll;generalize upd H l0 (.lst [])=H1 at s1 hm1 e1 l1 |-;refine⟨_,rfl,um,_,0,_,rfl,rfl,hm1,mv0,rfl,_,rfl,?_⟩;refine dF (y9 (by decide +kernel)) ?_
    refine zK ?_;refine⟨_,rfl,um,_,0,_,rfl,rfl,hm1,mv0,rfl,_,rfl,?_⟩;refine dF (y9 (by decide +kernel)) ?_
    refine zK ?_;exact done (SX2.of s1) e1 l1 rfl
   | cons y ys=>
    have ef:stF (.take q) es (y::ys)=(none,es.set q (some (.one "place" y)),ys):=if_pos hn;rw[ef] at done;refine .inr ⟨ll,l0,_,_,rfl,rfl,s1 _ _ hll,za,by rw[length_map,xF];exact Nat.succ_ne_zero _,_,rfl,?_⟩
    refine yY ?_;have l1:=s1 _ _ hll;have hxs1:=s1 _ _ hxs;have hps1:=Paired.imp' (fun _ _ z=>EnO.same z s1) hps;have hm1:=s1.sqT hmT;have x1:SX2 le ll H (upd H l0 (.lst [])):=SX2.of s1;generalize upd H l0 (.lst [])=H1 at s1 l1 hxs1 hps1 hm1 x1 |-;refine⟨_,rfl,.inl ⟨rfl,_,SqL.of l1⟩,ll,_,0,0,.int (y:Nat),rfl,rfl,l1,by decide,by decide,(zaX (wC (i:=0) (by rw[length_map,xF];exact Nat.succ_pos _))).1,rfl,?_⟩
    have l2:upd H1 ll (.lst (((yj (y::ys)).map V.int).eraseIdx 0)) ll=some (.lst ((yj ys).map V.int)):=za;have hxs2:upd H1 ll (.lst (((yj (y::ys)).map V.int).eraseIdx 0)) le=some (.lst xs):=by rw[zh nel];exact hxs1
    have hps2:Paired (EnO K (okL L) (upd H1 ll (.lst (((yj (y::ys)).map V.int).eraseIdx 0)))) xs es:=Paired.imp' (fun _ _ z=>EnO.put z l1 llL) hps1;have hm2:SqT K (upd H1 ll (.lst (((yj (y::ys)).map V.int).eraseIdx 0))) um (mvV (.take q)):=wx hm1 l1;have x2:=x1.r (v:=.lst (((yj (y::ys)).map V.int).eraseIdx 0));generalize upd H1 ll (.lst (((yj (y::ys)).map V.int).eraseIdx 0))=H2 at l2 hxs2 hps2 hm2 x2 |-;refine⟨zz2,fun u hu=>?_⟩;have s3:=zb hu (.tup [.str "place",.int (y:Nat)]);have e3:EnO K (okL L) (upd H2 u (.tup [.str "place",.int (y:Nat)])) (.ref u) (some (.one "place" y)):=⟨u,rfl,SqT.of za⟩;have hxs3:=s3 _ _ hxs2;have hps3:=Paired.imp' (fun _ _ z=>EnO.same z s3) hps2;have l3:=s3 _ _ l2;have hm3:=s3.sqT hm2;have x3:=x2.trans (SX2.of (a:=le) (b:=ll) s3);generalize upd H2 u (.tup [.str "place",.int (y:Nat)])=H3 at s3 e3 hxs3 hps3 l3 hm3 x3 |-;refine⟨_,rfl,_,rfl,le,xs,_,q,rfl,rfl,hxs3,wC (by rw[hps.length];exact hq),?_⟩
    have E4:yT K L (upd H3 le (.lst (xs.set q (.ref u)))) le (es.set q (some (.one "place" y))):=yT.set hxs3 hps3 e3 leL;have l4:upd H3 le (.lst (xs.set q (.ref u))) ll=some (.lst ((yj ys).map V.int)):=by rw[zh (Ne.symm nel)];exact l3
    have hm4:SqT K (upd H3 le (.lst (xs.set q (.ref u)))) um (mvV (.take q)):=wx hm3 hxs3;have x4:=x3.l (v:=.lst (xs.set q (.ref u)));generalize upd H3 le (.lst (xs.set q (.ref u)))=H4 at E4 l4 hm4 x4 |-;refine⟨_,rfl,um,_,0,_,rfl,rfl,hm4,mv0,rfl,_,rfl,?_⟩;refine dF (y9 (by decide +kernel)) ?_
    refine zK ?_;refine⟨_,rfl,um,_,0,_,rfl,rfl,hm4,mv0,rfl,_,rfl,?_⟩;refine dF (y9 (by decide +kernel)) ?_
    refine zK ?_;exact done x4 E4 l4 rfl
  ·have ef:stF (.take q) es l=(none,es,l):=if_neg hn
   rw[ef] at done;refine vf (by rw[hxn];simpa using hn) ?_
   refine zK ?_;refine⟨_,rfl,um,_,0,_,rfl,rfl,hmT,mv0,rfl,_,rfl,?_⟩;refine dF (y9 (by decide +kernel)) ?_
   refine zK ?_;refine⟨_,rfl,um,_,0,_,rfl,rfl,hmT,mv0,rfl,_,rfl,?_⟩;refine dF (y9 (by decide +kernel)) ?_
   refine zK ?_;exact done SX2.refl hE hll rfl
 | gather q=>
  cases hvl;have mv0:atI (mvV (.gather q)) 0=some (.str "gather"):=mv0;have hq:q<es.length:=hmo;obtain⟨x,hx',hxn⟩:=qg hps hq;refine⟨_,rfl,um,_,0,_,rfl,rfl,hmT,mv0,rfl,_,rfl,?_⟩;refine dF (y9 (by decide +kernel)) ?_
  refine zK ?_;refine⟨_,rfl,um,_,0,_,rfl,rfl,hmT,mv0,rfl,_,rfl,?_⟩;refine dF (y9 (by decide +kernel)) ?_
  refine zK ?_;refine⟨_,rfl,um,_,0,_,rfl,rfl,hmT,mv0,rfl,_,rfl,?_⟩;refine dF (y9 (by decide +kernel)) ?_
  refine zK ?_;refine⟨_,rfl,um,_,0,_,rfl,rfl,hmT,mv0,rfl,_,rfl,?_⟩;refine dT rfl ?_;refine⟨_,rfl,_,rfl,le,_,_,x,rfl,rfl,SqL.of hxs,yJ hx',_,rfl,?_⟩;by_cases hn:noE es q=true
  ·have ef:stF (.gather q) es l=(none,es.set q (some (.many "places" l)),[]):=if_pos hn
   rw[ef] at done;refine vg (by rw[hxn];exact hn) ?_
   refine⟨_,rfl,ll,_,rfl,.inl (SqL.of hll),fun l9 hl9=>?_⟩;have s1:=zb hl9 (.lst ((yj l).map V.int));have e1:upd H l9 (.lst ((yj l).map V.int)) l9=some (.lst ((yj l).map V.int)):=za;have n1:okL L l9:=freshL SX2.refl ⟨_,hxs⟩ ⟨_,hll⟩ hl9;generalize upd H l9 (.lst ((yj l).map V.int))=H1 at s1 e1 |-;refine⟨zz2,fun u hu=>?_⟩;have s2:=zb hu (.tup [.str "places",.ref l9]);have e2:EnO K (okL L) (upd H1 u (.tup [.str "places",.ref l9])) (.ref u) (some (.many "places" l)):=⟨u,l9,rfl,SqT.of za,n1,s2 _ _ e1⟩;have s12:=s1.trans s2;have hxs2:=s12 _ _ hxs;have hps2:=Paired.imp' (fun _ _ z=>EnO.same z s12) hps;have l2:=s12 _ _ hll;have hm2:=s12.sqT hmT;have x2:SX2 le ll H (upd H1 u (.tup [.str "places",.ref l9])):=SX2.of s12;generalize upd H1 u (.tup [.str "places",.ref l9])=H2 at s2 s12 e2 hxs2 hps2 l2 hm2 x2 |-;refine⟨_,rfl,_,rfl,le,xs,_,q,rfl,rfl,hxs2,wC (by rw[hps.length];exact hq),?_⟩
   have E4:yT K L (upd H2 le (.lst (xs.set q (.ref u)))) le (es.set q (some (.many "places" l))):=yT.set hxs2 hps2 e2 leL;have l4:upd H2 le (.lst (xs.set q (.ref u))) ll=some (.lst ((yj l).map V.int)):=by rw[zh (Ne.symm nel)];exact l2
   have hm4:SqT K (upd H2 le (.lst (xs.set q (.ref u)))) um (mvV (.gather q)):=wx hm2 hxs2;have x4:=x2.l (v:=.lst (xs.set q (.ref u)));generalize upd H2 le (.lst (xs.set q (.ref u)))=H4 at E4 l4 hm4 x4 |-;refine⟨_,rfl,.inl ⟨rfl,_,SqL.of l4⟩,ll,_,rfl,rfl,l4,?_⟩;have E5:yT K L (upd H4 ll (.lst [])) le (es.set q (some (.many "places" l))):=yT.put E4 l4 llL nel;have l5:upd H4 ll (.lst []) ll=some (.lst ((yj []).map V.int)):=za;have hm5:SqT K (upd H4 ll (.lst [])) um (mvV (.gather q)):=wx hm4 l4;have x5:=x4.r (v:=.lst []);generalize upd H4 ll (.lst [])=H5 at E5 l5 hm5 x5 |-;refine⟨_,rfl,um,_,0,_,rfl,rfl,hm5,mv0,rfl,_,rfl,?_⟩;refine dF (y9 (by decide +kernel)) ?_
   refine zK ?_;exact done x5 E5 l5 rfl
  ·have ef:stF (.gather q) es l=(none,es,l):=if_neg hn
   rw[ef] at done;refine vf (by rw[hxn];simpa using hn) ?_
   refine⟨_,rfl,um,_,0,_,rfl,rfl,hmT,mv0,rfl,_,rfl,?_⟩;refine dF (y9 (by decide +kernel)) ?_
   refine zK ?_;exact done SX2.refl hE hll rfl
 | free q=>
  cases hvl;have mv0:atI (mvV (.free q)) 0=some (.str "free"):=mv0;have hq:q<es.length:=hmo;obtain⟨x,hx',hxn⟩:=qg hps hq;refine⟨_,rfl,um,_,0,_,rfl,rfl,hmT,mv0,rfl,_,rfl,?_⟩;refine dF (y9 (by decide +kernel)) ?_
  refine zK ?_;refine⟨_,rfl,um,_,0,_,rfl,rfl,hmT,mv0,rfl,_,rfl,?_⟩;refine dF (y9 (by decide +kernel)) ?_
  refine zK ?_;refine⟨_,rfl,um,_,0,_,rfl,rfl,hmT,mv0,rfl,_,rfl,?_⟩;refine dF (y9 (by decide +kernel)) ?_
  refine zK ?_;refine⟨_,rfl,um,_,0,_,rfl,rfl,hmT,mv0,rfl,_,rfl,?_⟩;refine dF (y9 (by decide +kernel)) ?_
  refine zK ?_;refine⟨_,rfl,um,_,0,_,rfl,rfl,hmT,mv0,rfl,_,rfl,?_⟩;refine dT rfl ?_;refine⟨_,rfl,_,rfl,le,_,_,x,rfl,rfl,SqL.of hxs,yJ hx',_,rfl,?_⟩;by_cases hn:noE es q=true
  ·have ef:stF (.free q) es l=(none,es.set q (some .free),l):=if_pos hn
   rw[ef] at done;refine vg (by rw[hxn];exact hn) ?_
   refine⟨zz1,fun u hu=>?_⟩;have s2:=zb hu (.tup [.str "free"]);have e2:EnO K (okL L) (upd H u (.tup [.str "free"])) (.ref u) (some .free):=⟨u,rfl,SqT.of za⟩;have hxs2:=s2 _ _ hxs;have hps2:=Paired.imp' (fun _ _ z=>EnO.same z s2) hps;have l2:=s2 _ _ hll;have x2:SX2 le ll H (upd H u (.tup [.str "free"])):=SX2.of s2;generalize upd H u (.tup [.str "free"])=H2 at s2 e2 hxs2 hps2 l2 x2 |-;refine⟨_,rfl,_,rfl,le,xs,_,q,rfl,rfl,hxs2,wC (by rw[hps.length];exact hq),?_⟩
   exact done x2.l (yT.set hxs2 hps2 e2 leL) (by rw[zh (Ne.symm nel)];exact l2) rfl
  ·have ef:stF (.free q) es l=(none,es,l):=if_neg hn
   rw[ef] at done;refine vf (by rw[hxn];simpa using hn) ?_
   exact done SX2.refl hE hll rfl
end
end K51
namespace L2
open PySem PyProof.Rows
def ziN(X:Cx) (ss:List Stmt):TS:=fun D σ H=>∃t,PSs X ss t/\t D σ H
theorem zaO{X:Cx}{ss:List Stmt}:PSs X ss (ziN X ss):=⟨fun pins s σ H D I ⟨_,p,h⟩=>p pins s σ H D I h⟩
theorem yt{X:Cx}{st:Stmt}{wv:List Stmt}{t:TS}{D:L2.jc}{σ : L2.St}{H:Hp}(p:PS X st t) (h:wn t (ziN X wv) D σ H):ziN X (st::wv) D σ H:=⟨_,zf p zaO,h⟩
end L2
namespace K51
open PySem L2 PyProof.Rows
def uJ:Mv->Bool
 | .names _=>true
 | _=>false
def zd0(K:Frag) (H:Hp) (p:Addr):Sum (Str×Nat) (List (Option En))->Prop
 | .inl r=>∃u,H p=some (.tup [.str "refused",.ref u])/\H u=some (.tup [.str r.1,.int (r.2:Nat)])
 | .inr es=>∃le L,H p=some (.tup [.str "told",.ref le])/\yT K L H le es
def NoD(zs:List Str) (k:Nat):Prop:=∀i y,i<k->zs[i]?=some y->y∉zs.take i
def zhn(n:Nat) (ms:List Mv) (c:Nat) (zs:List Str):Sum (Str×Nat) (List (Option En)):=yK ms zs [] (List.replicate n none) [] (List.range c)
def zir(K:Frag):Sp:=fun vs H Q _=>∃(n c:Nat) (lm ln:Addr) (us:List Addr) (ms:List Mv) (zs:List Str),vs=[.int (n:Nat),.ref lm,.int (c:Nat),.ref ln]/\H lm=some (.lst (us.map V.ref))/\Paired (zdk K H) us ms/\(∀m∈ms,zdj n m)/\H ln=some (.lst (zs.map V.str))/\n<=100/\c<=100/\zs.length<=100/\ms.length<=800/\(ms.filter uJ).length<=8/\
 (∀j z,zs[j]?=some z->z∈zs.take j->NoD zs j->∀(p:Addr) (H':Hp),zo H H'->zd0 K H' p (.inl ("doubled",j))->Q (.ref p) H')/\
 (NoD zs zs.length->∀(p:Addr) (H':Hp),zo H H'->zd0 K H' p (zhn n ms c zs)->Q (.ref p) H')
structure MI(K:Frag) (H H':Hp) (le ll lu ld:Addr) (d:yB) (es:List (Option En)) (us l:List Nat):Prop where
 s:zo H H'
 e:yT K [le,lu,ll] H' le es
 u:H' lu=some (.lst ((yj us).map V.int))
 l:H' ll=some (.lst ((yj l).map V.int))
 d:H' ld=some (.dK d)
theorem MI.same{K:Frag}{H H' H2:Hp}{le ll lu ld:Addr}{d:yB}{es:List (Option En)}{us l:List Nat}(h:MI K H H' le ll lu ld d es us l) (s:zo H' H2):MI K H H2 le ll lu ld d es us l:=⟨h.s.trans s,h.e.same s,s _ _ h.u,s _ _ h.l,s _ _ h.d⟩
theorem MI.all{K:Frag}{H H':Hp}{le ll lu ld:Addr}{d:yB}{es:List (Option En)}{us l:List Nat}(h:MI K H H' le ll lu ld d es us l):∀a∈[le,lu,ll],∃o,H' a=some o:=fun a ha=>by
 obtain⟨xs,h1,_⟩:=h.e;rcases List.mem_cons.mp ha with rfl|ha
 ·exact⟨_,h1⟩
 ·rcases List.mem_cons.mp ha with rfl|ha
  ·exact⟨_,h.u⟩
  ·rw[List.mem_singleton.mp ha];exact⟨_,h.l⟩
theorem yT.dict{K:Frag}{L:List Addr}{H:Hp}{le ld:Addr}{es:List (Option En)}{d d':yB}(h:yT K L H le es) (hd:H ld=some (.dK d)):yT K L (upd H ld (.dK d')) le es:=by
 obtain⟨xs,h1,h2⟩:=h;have sq:∀{u:Addr}{vs:List V},SqT K H u vs->SqT K (upd H ld (.dK d')) u vs:=fun {u vs} h=>by
  rcases h with (h|⟨o,h⟩)|h
  ·exact .inl (.inl (by rw[zh (fun e=>by rw[e,hd] at h;cases h)];exact h))
  ·exact .inl (.inr ⟨o,by rw[zh (fun e=>by rw[e,hd] at h;cases h)];exact h⟩)
  ·exact .inr h
 refine⟨xs,by rw[zh (fun e=>by rw[e,hd] at h1;cases h1)];exact h1,Paired.imp' (fun x o z=>?_) h2⟩
 cases o with
 | none=>exact z
 | some e=>
  cases e with
  | one wd n=>obtain⟨u,e,h1⟩:=z;exact⟨u,e,sq h1⟩
  | many wd ns=>
   obtain⟨u,l,e,h1,h2,h3⟩:=z;exact⟨u,l,e,sq h1,h2,by rw[zh (fun e=>by rw[e,hd] at h3;cases h3)];exact h3⟩
  | free=>obtain⟨u,e,h1⟩:=z;exact⟨u,e,sq h1⟩
theorem zg8{m:Mv}{es:List (Option En)}{l:List Nat}:(stF m es l).2.1.length=es.length/\(stF m es l).2.2.length<=l.length:=by
 cases m with
 | fin=>cases l <;> exact⟨rfl,le_refl _⟩
 | need q=>
  by_cases hn:noE es q=true
  ·have e:stF (.need q) es l=(some (("lacking" : Str),q),es,l):=if_pos hn
   rw[e];exact⟨rfl,le_refl _⟩
  ·have e:stF (.need q) es l=(none,es,l):=if_neg hn
   rw[e];exact⟨rfl,le_refl _⟩
 | take q=>
  by_cases hn:noE es q=true
  ·cases l with
   | nil=>
    have e:stF (.take q) es []=(none,es,[]):=if_pos hn;rw[e];exact⟨rfl,le_refl _⟩
   | cons x xs=>
    have e:stF (.take q) es (x::xs)=(none,es.set q (some (.one "place" x)),xs):=if_pos hn;rw[e];exact⟨length_set,le_succ _⟩
  ·have e:stF (.take q) es l=(none,es,l):=if_neg hn
   rw[e];exact⟨rfl,le_refl _⟩
 | gather q=>
  by_cases hn:noE es q=true
  ·have e:stF (.gather q) es l=(none,es.set q (some (.many "places" l)),[]):=if_pos hn
   rw[e];exact⟨length_set,zero_le _⟩
  ·have e:stF (.gather q) es l=(none,es,l):=if_neg hn
   rw[e];exact⟨rfl,le_refl _⟩
 | free q=>
  by_cases hn:noE es q=true
  ·have e:stF (.free q) es l=(none,es.set q (some .free),l):=if_pos hn
   rw[e];exact⟨length_set,le_refl _⟩
  ·have e:stF (.free q) es l=(none,es,l):=if_neg hn
   rw[e];exact⟨rfl,le_refl _⟩
 | door z q=>exact⟨rfl,le_refl _⟩
 | bar z=>exact⟨rfl,le_refl _⟩
 | names o=>exact⟨rfl,le_refl _⟩
theorem wN{m:Mv}(h:zaZ m) {ms:List Mv}{zs:List Str}{d:yB}{es:List (Option En)}{us l:List Nat}:yK (m::ms) zs d es us l=match stF m es l with
   | (some r,_,_)=>.inl r
   | (none,es',l')=>yK ms zs d es' us l':=by
 cases m with
 | door z q=>exact h.elim
 | bar z=>exact h.elim
 | names o=>exact h.elim
 | fin=>rfl
 | need q=>rfl
 | take q=>rfl
 | gather q=>rfl
 | free q=>rfl
theorem zd9{m:Mv}(h:zaZ m):mvW m≠"door"/\mvW m≠"bar"/\mvW m≠"names":=by
 cases m with
 | door z q=>exact h.elim
 | bar z=>exact h.elim
 | names o=>exact h.elim
 | fin=>exact⟨by decide +kernel,by decide +kernel,by decide +kernel⟩
 | need q=>exact⟨(by show("need" : Str)≠"door";decide +kernel),(by show("need" : Str)≠"bar";decide +kernel),(by show("need" : Str)≠"names";decide +kernel)⟩
 | take q=>exact⟨(by show("take" : Str)≠"door";decide +kernel),(by show("take" : Str)≠"bar";decide +kernel),(by show("take" : Str)≠"names";decide +kernel)⟩
 | gather q=>exact⟨(by show("gather" : Str)≠"door";decide +kernel),(by show("gather" : Str)≠"bar";decide +kernel),(by show("gather" : Str)≠"names";decide +kernel)⟩
 | free q=>exact⟨(by show("free" : Str)≠"door";decide +kernel),(by show("free" : Str)≠"bar";decide +kernel),(by show("free" : Str)≠"names";decide +kernel)⟩
theorem zbq:∀n:Nat,(List.replicate n [V.non]).flatten=List.replicate n V.non
 | 0=>rfl
 | n+1=>by rw[replicate_succ,flatten_cons,zbq n,replicate_succ];rfl
theorem jS{K:Frag}{ok:Addr->Prop}{H:Hp}:∀n:Nat,Paired (EnO K ok H) (List.replicate n V.non) (List.replicate n none)
 | 0=>.nil
 | n+1=>by rw[replicate_succ,replicate_succ];exact .cons rfl (jS n)
theorem DOk.put{n:Nat}{d:yB}(h:DOk n d) {k:Key}{v:V}(hv:v=.str "shut"\/∃p:Nat,v=.int (p:Nat)/\p<n):DOk n (zV d k v):=fun k' v' e=>by
 rw[xt] at e;split at e
 ·cases e;exact hv
 ·exact h k' v' e
section
variable {P:Program}{w:World}{K:Frag}{mg:Str->Option Value}{base:Heap}{f:Addr}{fd:FuncData}
theorem vw:zr ["_law_many","_law_moves","_law_count","_law_names","_law_entries","_law_left","_law_used","_law_doors","_law_j","_law_name","_law_move","_law_wrong"] ["_law_many","_law_moves","_law_count","_law_names"] (zi zje):=⟨rfl,rfl,rfl,by decide +kernel,rfl,by decide +kernel,by decide +kernel⟩
theorem zjz{g1 g2:Addr}{d1 d2:FuncData}(F:Fun K "_law_run" "_law_run" zje f fd) (U:jb mg) (cTh:zG P w K mg base 1 "_law_through" g1 d1 ["_law_entries","_law_names","_law_used","_law_doors","_law_q"] (qH K)) (cSt:zG P w K mg base 1 "_law_step" g2 d2 ["_law_entries","_law_move","_law_left"] (ze7 K)):zD P w K mg base CX0 2 f fd ["_law_many","_law_moves","_law_count","_law_names"] (zir K):=by
 refine F.ok vw (fun vs H Q E h=>?_) (fun cdv A outer s H vs Q E hr h=>?_)
 ·obtain⟨n,c,lm,ln,us,ms,zs,rfl,_⟩:=h
  rfl
 obtain⟨n,c,lm,ln,us,ms,zs,rfl,hlm,hms,hmo,hln,bn,bc,bz,bm,bN,q1,q2⟩:=h;have hU:=hr.units;have hu1:=jh hr;refine yt (zu (i:=4) vw.nd rfl (Or.inl rfl) (zx zjv (zO (ac uX zc)) (pv 0))) ?_;refine⟨zz1,fun l0 hl0=>?_⟩;have s0:=zb hl0 (.lst [.non]);have e0:upd H l0 (.lst [.non]) l0=some (.lst [.non]):=za;generalize upd H l0 (.lst [.non])=H0 at s0 e0 |-;refine⟨_,rfl,l0,(n:Nat),_,rfl,rfl,e0,by omega,by omega,zZ (by show 1 * ((n:Nat):Int).toNat<=1000;omega),fun le hle=>?_⟩
 have en:(List.replicate ((n:Nat):Int).toNat [V.non]).flatten=List.replicate n V.non:=by rw[show((n:Nat):Int).toNat=n by omega,zbq]
 rw[en];have s1:=s0.trans (zb hle (.lst (List.replicate n V.non)));have e1:upd H0 le (.lst (List.replicate n V.non)) le=some (.lst (List.replicate n V.non)):=za;have nle:H le=none:=s0.free hle;dsimp only[yr];generalize upd H0 le (.lst (List.replicate n V.non))=H1 at s1 e1 |-;refine yt (zu (i:=5) vw.nd rfl (Or.inl rfl) (cTy (zdg rfl) U.list PyProof.Rows.boot_list (ac (cTy zgR U.range PyProof.Rows.boot_range (ac (pv 2) zc)) zc))) ?_;refine⟨_,rfl,c,rfl,fun r hr'=>?_⟩;have sr:=zb hr' (.rng 0 (c:Nat));refine⟨r,c,rfl,za,by omega,fun ll hll=>?_⟩
 have s2:=zb hll (.lst ((L2.vh c).map V.int));have e2:upd (upd H1 r (.rng 0 (c:Nat))) ll (.lst ((L2.vh c).map V.int)) ll=some (.lst ((yj (List.range c)).map V.int)):=za;have s12:=sr.trans s2;have nll:H ll=none:=(s1.trans sr).free hll;have nel:le≠ll:=fun e=>by rw[<- e,sr _ _ e1] at hll;cases hll
 dsimp only[yr];generalize upd (upd H1 r (.rng 0 (c:Nat))) ll (.lst ((L2.vh c).map V.int))=H2 at s2 e2 s12 |-;refine yt (zu (i:=6) vw.nd rfl (Or.inl rfl) (zO zc)) ?_;refine⟨zz0,fun lu hlu=>?_⟩;have s3:=zb hlu (.lst []);have e3:upd H2 lu (.lst []) lu=some (.lst ((yj []).map V.int)):=za;have nlu:H lu=none:=(s1.trans s12).free hlu;have neu:le≠lu:=fun e=>by rw[<- e,s12 _ _ e1] at hlu;cases hlu
 have nlul:lu≠ll:=fun e=>by rw[e,e2] at hlu;cases hlu
 dsimp only[yr];generalize upd H2 lu (.lst [])=H3 at s3 e3 |-;refine yt (zu (i:=7) vw.nd rfl (Or.inl rfl) zbx) ?_;intro ld hld;have s4:=zb hld (.dK []);have e4:upd H3 ld (.dK []) ld=some (.dK []):=za;have nld:H ld=none:=(s1.trans (s12.trans s3)).free hld;have s14:=s12.trans (s3.trans s4);have M0:MI K H (upd H3 ld (.dK [])) le ll lu ld [] (List.replicate n none) [] (List.range c):=⟨s1.trans s14,⟨_,s14 _ _ e1,jS n⟩,s4 _ _ e3,(s3.trans s4) _ _ e2,e4⟩;dsimp only[yr];generalize upd H3 ld (.dK [])=H4 at s4 e4 s14 M0 |-;clear e0 e1 e2 e3 e4 s0 s1 s2 s3 s4 s12 s14 sr hle hll hlu hld hl0 hr' en;refine yt (xq PassesOwn.never rfl (yH rfl U.en (ac (pv 3) zc)) (yi rfl (zp (zl (i:=8) vw.nd rfl (Or.inl rfl)) (zp (zl (i:=9) vw.nd rfl (Or.inl rfl)) zS)))
   (ze (zH (zk yh (pv 9) (ye yC (pv 3) yD (yp (pv 8))) (by with_unfolding_all rfl)) (ze (zq (zC (ac zj (ac (zC (ac zj (ac (pv 8) zc))) zc))))) zv))) ?_
 refine yv (fun σ' H'=>∃(v8 v9:Option V),σ'=[some (.int (n:Nat)),some (.ref lm),some (.int (c:Nat)),some (.ref ln),some (.ref le),some (.ref ll),some (.ref lu),some (.ref ld),v8,v9,none,none]/\MI K H H' le ll lu ld [] (List.replicate n none) [] (List.range c)/\NoD zs zs.length) ?_ (fun key=>?_);rotate_left
 ·refine⟨_,rfl,ln,rfl,⟨_,SqL.of (M0.s _ _ hln)⟩,xY (K:=K) (a:=ln) (xs:=zs.map V.str) (fun i σ H'=>∃(v8 v9:Option V),σ=[some (.int (n:Nat)),some (.ref lm),some (.int (c:Nat)),some (.ref ln),some (.ref le),some (.ref ll),some (.ref lu),some (.ref ld),v8,v9,none,none]/\MI K H H' le ll lu ld [] (List.replicate n none) [] (List.range c)/\NoD zs i) ⟨_,_,rfl,M0,fun i y hi=>absurd hi (by omega)⟩ (fun i σ H' _ ⟨_,_,_,M,_⟩=>SqL.of (M.s _ _ hln)) ?_ ?_⟩
  ·rintro i x tn σ H5 hx ⟨v8,v9,rfl,M,nd⟩ htn
   obtain⟨z,hz,rfl⟩:=strs_at hx;have sp:=zb htn (.tup [.int (i:Nat),.str z]);refine⟨tn,_,rfl,SqT.of za,rfl,_,_,rfl,_,_,rfl,rfl,?_⟩;have M:=M.same sp;generalize upd H5 tn (.tup [.int (i:Nat),.str z])=H6 at sp M |-;refine⟨_,rfl,_,rfl,_,rfl,_,rfl,ln,_,rfl,SqL.of (M.s _ _ hln),fun p hp=>?_⟩;rw[show wu (zs.map V.str) none (some (i:Int))=(zs.take i).map V.str from (y7).trans (map_take ..).symm];have s7:=zb hp (.lst ((zs.take i).map V.str));have e7:upd H6 p (.lst ((zs.take i).map V.str)) p=some (.lst ((zs.take i).map V.str)):=za;have M:=M.same s7;generalize upd H6 p (.lst ((zs.take i).map V.str))=H7 at s7 e7 M |-;refine⟨p,_,rfl,.inl (SqL.of e7),rfl,xZ,_,rfl,?_⟩;rw[if_neg Bool.false_ne_true,vi];by_cases hd:z∈zs.take i
   ·refine dT hd ?_
    refine⟨_,rfl,zz2,fun u hu=>?_⟩;have s8:=zb hu (.tup [.str "doubled",.int (i:Nat)]);refine⟨zz2,fun t ht=>?_⟩;have s9:=zb ht (.tup [.str "refused",.ref u]);exact q1 i z hz hd nd t _ (M.s.trans (s8.trans s9)) ⟨u,za,s9 _ _ za⟩
   ·refine dF hd ?_
    refine⟨_,_,rfl,M,fun k y hk hy=>?_⟩;by_cases hki:k=i
    ·subst hki
     rw[hz] at hy;cases hy;exact hd
    ·exact nd k y (by omega) hy
  ·rintro σ H5 ⟨v8,v9,rfl,M,nd⟩
   rw[length_map] at nd;exact key _ _ ⟨_,_,rfl,M,nd⟩
 clear M0;rintro σ5 H5 ⟨v8,v9,rfl,M0,nd⟩;have q2:=q2 nd;generalize hR:zhn n ms c zs=R at q2;have hR:R=yK (ms.drop 0) zs [] (List.replicate n none) [] (List.range c):=hR.symm;refine yt (xq PassesOwn.never rfl (yE (pv 1)) (zl (i:=10) vw.nd rfl (Or.inl rfl)) zaO) ?_;refine⟨_,rfl,lm,rfl,⟨_,SqL.of (M0.s _ _ hlm)⟩,uN (K:=K) (a:=lm) (xs:=us.map V.ref) (fun i σ H'=>∃(d:yB) (es:List (Option En)) (us' l:List Nat) (v10 v11:Option V),σ=[some (.int (n:Nat)),some (.ref lm),some (.int (c:Nat)),some (.ref ln),some (.ref le),some (.ref ll),some (.ref lu),some (.ref ld),v8,v9,v10,v11]/\MI K H H' le ll lu ld d es us' l/\R=yK (ms.drop i) zs d es us' l/\es.length=n/\DOk n d/\d.length<=i/\l.length<=100/\us'.length+100 * ((ms.drop i).filter uJ).length<=800) ⟨[],_,[],_,_,_,rfl,M0,hR,List.length_replicate,(fun k v e=>by cases e),le_refl _,by rw[length_range];exact bc,by rw[drop_zero];show 0+_<=_;omega⟩ (fun i σ H' _ ⟨_,_,_,_,_,_,_,M,_⟩=>SqL.of (M.s _ _ hlm)) ?_ ?_⟩
 ·rintro i x σ H6 hx ⟨d,es,us',l,v10,v11,rfl,M,eR,lE,hD,lD,lL,lU⟩
  obtain⟨um,hum,rfl⟩:=xa hx;obtain⟨m,hm,hmu⟩:=yg hms hum;have hi:i<ms.length:=(List.getElem?_eq_some_iff.mp hm).1;have ed:ms.drop i=m::ms.drop (i+1):=by
   rw[drop_eq_getElem_cons hi]
   congr 1
   exact(List.getElem?_eq_some_iff.mp hm).2
  rw[ed] at eR lU;have hmok:=hmo m (mem_of_getElem? hm);have hmu6:zdk K H6 um m:=M.s.sqT hmu;have hmT:SqT K H6 um (mvV m):=hmu6;have mv0:=zhW m;have nleu:ld≠le:=fun e=>by obtain⟨xs,h1,_⟩:=M.e;rw[<- e,M.d] at h1;cases h1
  have nldu:ld≠lu:=fun e=>by have:=M.u;rw[<- e,M.d] at this;cases this
  have nldl:ld≠ll:=fun e=>by have:=M.l;rw[<- e,M.d] at this;cases this
  have put:∀(k:Key) (v:V),MI K H (upd H6 ld (.dK (zV d k v))) le ll lu ld (zV d k v) es us' l:=fun k v=>⟨fun b o e=>by rw[zh (zd e nld)];exact M.s _ _ e,yT.dict M.e M.d,by rw[zh (Ne.symm nldu)];exact M.u,by rw[zh (Ne.symm nldl)];exact M.l,za⟩
  dsimp only[yr];refine yt (zu (i:=11) vw.nd rfl (Or.inl rfl) uX) ?_;refine yv (fun σ' H'=>σ'=[some (.int (n:Nat)),some (.ref lm),some (.int (c:Nat)),some (.ref ln),some (.ref le),some (.ref ll),some (.ref lu),some (.ref ld),v8,v9,some (.ref um),some .non]/\H'=H6) ?_ (fun key=>key _ _ ⟨rfl,rfl⟩);rintro σ7 H7 ⟨rfl,rfl⟩;refine yt (zH (PW.pt (yw (zk z7 (zB zy (pv 10) zg (fun _ _=>rfl)) zj (zt _)) (yd (zk zbD (jT hu1 (pv 7) (zB zy (pv 10) zg (fun _ _=>rfl)) ⟨rfl,rfl,rfl,rfl⟩) zj (zt _)))))
     (ze (jr hu1 (pv 7) (zB zy (pv 10) zg (fun _ _=>rfl)) (zB zy (pv 10) zg (fun _ _=>rfl)) rfl))
     (ze (zH (zk z7 (zB zy (pv 10) zg (fun _ _=>rfl)) zj (zt _)) (ze (jr hu1 (pv 7) (zB zy (pv 10) zg (fun _ _=>rfl)) zj rfl))
      (ze (zH (zk z7 (zB zy (pv 10) zg (fun _ _=>rfl)) zj (zt _)) (ze (zu (i:=11) vw.nd rfl (Or.inl rfl) (cF cTh hr (ac (pv 4) (ac (pv 3) (ac (pv 6) (ac (pv 7) (ac (zB zy (zx zhB (pv 10) (zC (ac uX zc))) zg (fun _ _=>rfl)) zc))))))))
       (ze (zH (zk zbD (zB zy (pv 10) zg (fun _ _=>rfl)) zj (zt _)) (ze (zu (i:=11) vw.nd rfl (Or.inl rfl) (cF cSt hr (ac (pv 4) (ac (pv 10) (ac (pv 5) zc)))))) zv))))))) ?_
  refine yv (fun σ' H'=>∃(d:yB) (es:List (Option En)) (us' l:List Nat) (v:V) (r:Option (Str×Nat)),σ'=[some (.int (n:Nat)),some (.ref lm),some (.int (c:Nat)),some (.ref ln),some (.ref le),some (.ref ll),some (.ref lu),some (.ref ld),v8,v9,some (.ref um),some v]/\MI K H H' le ll lu ld d es us' l/\zj5 H' v r/\(∀w,r=some w->R=.inl w)/\(r=none->R=yK (ms.drop (i+1)) zs d es us' l)/\es.length=n/\DOk n d/\d.length<=i+1/\l.length<=100/\us'.length+100 * ((ms.drop (i+1)).filter uJ).length<=800) ?_ (fun key=>?_);rotate_left
  ·have lU':us'.length+100 * ((ms.drop (i+1)).filter uJ).length<=800:=by
    rw[filter_cons] at lU;split at lU
    ·rw[length_cons] at lU;omega
    ·exact lU
   by_cases hst:zaZ m
   ·obtain⟨w1,w2,w3⟩:=zd9 hst
    refine⟨_,rfl,um,_,0,_,rfl,rfl,hmT,mv0,rfl,_,rfl,?_⟩;refine dF (y9 w1) ?_;refine zK ?_;refine⟨_,rfl,um,_,0,_,rfl,rfl,hmT,mv0,rfl,_,rfl,?_⟩;refine dF (y9 w2) ?_;refine⟨_,rfl,um,_,0,_,rfl,rfl,hmT,mv0,rfl,_,rfl,?_⟩;refine dF (y9 w3) ?_;refine⟨_,rfl,um,_,0,_,rfl,rfl,hmT,mv0,rfl,_,rfl,?_⟩;refine vg (by rw[decide_eq_false (y9 w1)];rfl) ?_
    refine⟨_,rfl,_,rfl,_,rfl,le,um,ll,m,[le,lu,ll],es,l,rfl,hmu6,hst,by rw[lE];exact hmok,M.e,by simp,by simp,M.all,nel,M.l,lL,fun v H8 x8 e8 l8 r8=>?_⟩
    obtain⟨k1,k2⟩:=zg8 (m:=m) (es:=es) (l:=l);rw[wN hst] at eR;have M8:MI K H H8 le ll lu ld d (stF m es l).2.1 us' (stF m es l).2.2:=⟨fun b o e=>x8 _ _ (M.s _ _ e) (zd e nle) (zd e nll),e8,x8 _ _ M.u (Ne.symm neu) nlul,l8,x8 _ _ M.d nleu nldl⟩;generalize stF m es l=T at eR e8 l8 r8 k1 k2 M8;obtain⟨o,es2,l2⟩:=T;have k2:l2.length<=l.length:=k2;refine key _ _ ⟨d,es2,us',l2,v,o,rfl,M8,r8,fun w hw=>?_,fun hn=>?_,by rw[<- lE];exact k1,hD,by omega,by omega,lU'⟩
    ·have hw:o=some w:=hw
     subst hw;exact eR
    ·have hn:o=none:=hn
     subst hn;exact eR
   ·cases m with
    | fin=>exact absurd True.intro hst
    | need q=>exact absurd True.intro hst
    | take q=>exact absurd True.intro hst
    | gather q=>exact absurd True.intro hst
    | free q=>exact absurd True.intro hst
    | door z q=>
     have hq:q<n:=hmok;refine⟨_,rfl,um,_,0,_,rfl,rfl,hmT,rfl,rfl,_,rfl,?_⟩;refine dT rfl ?_;have dg:vL H7 ld (.str z) (zF d (.inr z)):=vL.k (k:=.inr z) M.d;refine⟨_,rfl,ld,rfl,.inl ⟨d,.inl M.d⟩,_,rfl,um,_,1,_,rfl,rfl,hmT,rfl,_,dg,?_,_,rfl,?_⟩
     ·cases hv:zF d (.inr z) with
      | none=>rfl
      | some v=>
       rcases hD _ _ hv with rfl|⟨p,rfl,_⟩
       ·rfl
       ·rfl
     by_cases hs:xJ d z=true
     ·have eR:R=yK (ms.drop (i+1)) zs d es us' l:=by rw[eR];exact if_pos hs
      refine vf (by rw[show decide ((zF d (.inr z)).getD .non=V.str "shut")=true from hs];rfl) ?_
      refine⟨_,rfl,um,_,0,_,rfl,rfl,hmT,rfl,rfl,_,rfl,?_⟩;refine dF (y9 (by decide +kernel)) ?_
      refine⟨_,rfl,um,_,0,_,rfl,rfl,hmT,rfl,rfl,_,rfl,?_⟩;refine dF (y9 (by decide +kernel)) ?_
      refine⟨_,rfl,um,_,0,_,rfl,rfl,hmT,rfl,rfl,_,rfl,?_⟩;refine zK ?_;exact key _ _ ⟨d,es,us',l,.non,none,rfl,M,rfl,(fun w hw=>by cases hw),fun _=>eR,lE,hD,by omega,lL,lU'⟩
     ·have eR:R=yK (ms.drop (i+1)) zs (zV d (.inr z) (.int (q:Nat))) es us' l:=by rw[eR];exact if_neg hs
      have hs:xJ d z=false:=by simpa using hs
      refine vg (by rw[show decide ((zF d (.inr z)).getD .non=V.str "shut")=false from hs];rfl) ?_
      refine⟨_,rfl,um,_,2,_,rfl,rfl,hmT,rfl,_,rfl,_,rfl,um,_,1,_,rfl,rfl,hmT,rfl,ld,_,rfl,zcb.k (k:=.inr z) M.d (zE (by omega)),?_⟩
      have:=yV d (.inr z) (.int (q:Nat))
      exact key _ _ ⟨_,es,us',l,.non,none,rfl,put _ _,rfl,(fun w hw=>by cases hw),fun _=>eR,lE,hD.put (.inr ⟨q,rfl,hq⟩),by omega,lL,lU'⟩
    | bar z=>
     refine⟨_,rfl,um,_,0,_,rfl,rfl,hmT,rfl,rfl,_,rfl,?_⟩;refine dF (y9 (by decide +kernel)) ?_
     refine zK ?_;refine⟨_,rfl,um,_,0,_,rfl,rfl,hmT,rfl,rfl,_,rfl,?_⟩;refine dT rfl ?_;refine⟨_,rfl,_,rfl,um,_,1,_,rfl,rfl,hmT,rfl,ld,_,rfl,zcb.k (k:=.inr z) M.d (zE (by omega)),?_⟩
     have:=yV d (.inr z) (.str "shut")
     exact key _ _ ⟨_,es,us',l,.non,none,rfl,put _ _,rfl,(fun w hw=>by cases hw),fun _=>eR,lE,hD.put (.inl rfl),by omega,lL,lU'⟩
    | names o=>
     have mv0':atI (mvV (.names o)) 0=some (.str "names"):=mv0;refine⟨_,rfl,um,_,0,_,rfl,rfl,hmT,mv0',rfl,_,rfl,?_⟩;refine dF (y9 (by decide +kernel)) ?_
     refine zK ?_;refine⟨_,rfl,um,_,0,_,rfl,rfl,hmT,mv0',rfl,_,rfl,?_⟩;refine dF (y9 (by decide +kernel)) ?_
     refine⟨_,rfl,um,_,0,_,rfl,rfl,hmT,mv0',rfl,_,rfl,?_⟩;refine dT rfl ?_;refine⟨_,rfl,_,rfl,_,rfl,_,rfl,_,rfl,zz1,fun p1 hp1=>?_⟩;have t1:=zb hp1 (.tup [.non]);have f1:upd H7 p1 (.tup [.non]) p1=some (.tup [.non]):=za;have hmT1:=t1.sqT hmT;have M1:=M.same t1;generalize upd H7 p1 (.tup [.non])=H8 at t1 f1 hmT1 M1 |-;have lmv:(mvV (.names o)).length<=2/\mvV (.names o)≠[]:=by
      cases o
      ·exact⟨(by show 1<=2;decide),(by intro h;cases h)⟩
      ·exact⟨le_refl 2,(by intro h;cases h)⟩
     refine⟨um,p1,_,_,rfl,rfl,hmT1,SqT.of f1,lmv.2,zZ (by show(mvV (.names o)).length+1<=1000;omega),(fun h=>by cases h),fun _ p2 hp2=>?_⟩
     have t2:=zb hp2 (.tup (mvV (.names o)++[.non]));have f2:upd H8 p2 (.tup (mvV (.names o)++[.non])) p2=some (.tup (mvV (.names o)++[.non])):=za;have M2:=M1.same t2;generalize upd H8 p2 (.tup (mvV (.names o)++[.non]))=H9 at t2 f2 M2 |-;have hqo:atI (mvV (.names o)++[.non]) 1=some (qV o):=by cases o <;> rfl
     refine⟨p2,_,1,_,rfl,rfl,SqT.of f2,hqo,?_⟩;have hob:∀b,o=some b->b<es.length:=fun b hb=>by subst hb;rw[lE];exact hmok
     have hlnM:H9 ln=some (.lst (zs.map V.str)):=M2.s _ _ hln;refine⟨le,ln,lu,ld,o,[le,lu,ll],es,zs,us',d,rfl,M2.e,by simp,by simp,M2.all,neu,M2.u,hlnM,(fun e=>by rw[e,nle] at hln;cases hln),(fun e=>by rw[e,nlu] at hln;cases hln),M2.d,by rw[lE];exact hD,hob,bz,by omega,fun v H10 x10 e10 u10 r10=>?_⟩
     have k1:=zd8 (d:=d) (q:=o) (zs:=zs) (es:=es) (us:=us');have k2:=zcf (d:=d) (q:=o) (zs:=zs) (es:=es) (us:=us');have eR:R=(match xm d o zs es us' with|(some r,_,_)=>.inl r|(none,es',us'')=>yK (ms.drop (i+1)) zs d es' us'' l):=eR
     have M10:MI K H H10 le ll lu ld d (xm d o zs es us').2.1 (xm d o zs es us').2.2 l:=⟨fun b o' e=>x10 _ _ (M2.s _ _ e) (zd e nle) (zd e nlu),e10,u10,x10 _ _ M2.l (Ne.symm nel) (Ne.symm nlul),x10 _ _ M2.d nleu nldu⟩;have lU2:us'.length+100+100 * ((ms.drop (i+1)).filter uJ).length<=800:=by
      rw[filter_cons,if_pos (show uJ (.names o)=true from rfl),length_cons] at lU;omega
     generalize xm d o zs es us'=T at eR e10 u10 r10 k1 k2 M10;obtain⟨ro,es2,us2⟩:=T;have k2:us2.length<=us'.length+zs.length:=k2;refine key _ _ ⟨d,es2,us2,l,v,ro,rfl,M10,r10,fun w hw=>?_,fun hn=>?_,by rw[<- lE];exact k1,hD,by omega,lL,by omega⟩
     ·have hw:ro=some w:=hw
      subst hw;exact eR
     ·have hn:ro=none:=hn
      subst hn;exact eR
  rintro σ8 H8 ⟨d2,es2,us2,l2,v,r,rfl,M2,r2,hr1',hr2',lE2,hD2,lD2,lL2,lU2⟩;refine⟨_,ze (zH (yL (uD (pv 11))) (ze (zq (zC (ac zj (ac (pv 11) zc))))) zv),?_⟩;refine⟨_,rfl,_,rfl,?_⟩;cases r with
  | none=>
   have r2:v=.non:=r2;subst r2;refine zK ?_;exact⟨d2,es2,us2,l2,_,_,rfl,M2,hr2' rfl,lE2,hD2,lD2,lL2,lU2⟩
  | some w=>
   obtain⟨u,rfl,hu⟩:=r2;refine yY ?_;refine⟨_,rfl,zz2,fun t ht=>?_⟩;have s9:=zb ht (.tup [.str "refused",.ref u]);refine q2 t _ (M2.s.trans s9) ?_;rw[hr1' w rfl];exact⟨u,za,s9 _ _ hu⟩
 ·rintro σ H6 ⟨d,es,us',l,v10,v11,rfl,M,eR,lE,hD,lD,lL,lU⟩
  rw[length_map,hms.length,drop_length] at eR;have eR:R=.inr es:=eR;refine⟨_,ze (zq (zC (ac zj (ac (pv 4) zc)))),?_⟩;refine⟨_,rfl,zz2,fun t ht=>?_⟩;have s9:=zb ht (.tup [.str "told",.ref le]);refine q2 t _ (M.s.trans s9) ?_;rw[eR];exact⟨le,[le,lu,ll],za,M.e.same s9⟩
end
def MvX(K:Frag) (H:Hp) (x:V) (m:Mv):Prop:=∃u,x=.ref u/\zdk K H u m
theorem MvX.same{K:Frag}{H H':Hp}{x:V}{m:Mv}(h:MvX K H x m) (s:zo H H'):MvX K H' x m:=by
 obtain⟨u,e,h⟩:=h;exact⟨u,e,s.sqT h⟩
theorem MvX.put{K:Frag}{H:Hp}{x:V}{m:Mv}{l:Addr}{ys zs:List V}(h:MvX K H x m) (hl:H l=some (.lst ys)):MvX K (upd H l (.lst zs)) x m:=by
 obtain⟨u,e,h⟩:=h;exact⟨u,e,wx h hl⟩
theorem yR{K:Frag}{H H':Hp}{xs:List V}{ms:List Mv}(s:zo H H') (h:Paired (MvX K H) xs ms):Paired (MvX K H') xs ms:=Paired.imp' (fun _ _ z=>MvX.same z s) h
theorem xG{K:Frag}{H:Hp}{xs:List V}{ms:List Mv}{l:Addr}{ys zs:List V}(h:Paired (MvX K H) xs ms) (hl:H l=some (.lst ys)):Paired (MvX K (upd H l (.lst zs))) xs ms:=Paired.imp' (fun _ _ z=>MvX.put z hl) h
theorem zbI{K:Frag}{H:Hp}:∀{xs:List V}{ms:List Mv},Paired (MvX K H) xs ms->∃us:List Addr,xs=us.map V.ref/\Paired (zdk K H) us ms
 | _,_,.nil=>⟨[],rfl,.nil⟩
 | _,_,.cons h t=>by
  obtain⟨us,e,p⟩:=zbI t;obtain⟨u,rfl,hu⟩:=h;exact⟨u::us,by rw[e];rfl,.cons hu p⟩
theorem yU{α β : Type}{F : α->β->Prop}{a a':List α}{b b':List β}(h:Paired F a b) (h':Paired F a' b'):Paired F (a++a') (b++b'):=by
 induction h with
 | nil=>exact h'
 | cons x _ ih=>exact .cons x ih
def jm(rows:List Rw):Mv:=match zm 2 0 rows with|none=>.fin|some q=>.gather q
def wa(rows:List Rw):List Mv:=(List.range (plN rows)).map Mv.take++[jm rows]
def tk1(k:Nat):Bool:=k==0||k==1||k==3
def wj(rows:List Rw):List Mv:=(rows.zipIdx.filter fun y=>zR y.1.k).map fun y=>Mv.door y.1.z y.2
def vo(rows:List Rw):List Mv:=(rows.zipIdx.filter fun y=>tk1 y.1.k).map fun y=>if fr y.1.k y.1.b=true then Mv.free y.2 else Mv.need y.2
def wD(rows:List Rw) (bars:List Str):List Mv:=wa rows++bars.map Mv.bar++wj rows++[.names (zm 4 0 rows)]++vo rows
theorem zk0:∀k:Nat,k<5->inV (.str (kw k)) otL=tk1 k:=by decide +kernel
def zbf(K:Frag) (c:C5) (CF:Addr):Sp:=fun vs H Q _=>∃(f:Addr) (rows:List Rw) (bars:List Str),vs=[.ref f]/\vk c CF H f rows bars/\rows.length<=24/\∀(l:Addr) (xs:List V) (H':Hp),zo H H'->H l=none->H' l=some (.lst xs)->Paired (MvX K H') xs (wa rows)->Q (.ref l) H'
def zbi(K:Frag) (c:C5) (CF:Addr):Sp:=fun vs H Q _=>∃(f:Addr) (rows:List Rw) (bars:List Str),vs=[.ref f]/\vk c CF H f rows bars/\rows.length<=24/\bars.length<=60/\∀(p l:Addr) (xs:List V) (H':Hp),zo H H'->H l=none->H' p=some (.tup [.int (rows.length:Nat),.ref l])->H' l=some (.lst xs)->Paired (MvX K H') xs (wD rows bars)->Q (.ref p) H'
theorem qz{rows:List Rw}{i:Nat}{r:Rw}(h:rows[i]?=some r):rows.zipIdx.take (i+1)=rows.zipIdx.take i++[(r,i)]:=by
 have h:=uT h;have hi':=(List.getElem?_eq_some_iff.mp h).1;rw[take_succ_eq_append_getElem hi',(List.getElem?_eq_some_iff.mp h).2]
section
variable {P:Program}{w:World}{K:Frag}{mg:Str->Option Value}{base:Heap}{f CF:Addr}{fd:FuncData}{c:C5}{m:MA}
theorem ndQ:([Str.ofString "q"]:List Str).Nodup:=by decide +kernel
theorem zkO:([Str.ofString "name"]:List Str).Nodup:=by decide +kernel
theorem zkL:([Str.ofString "q",Str.ofString "one"]:List Str).Nodup:=by decide +kernel
theorem zbm:zr ["form","moves"] ["form"] (zi zaJ):=⟨rfl,rfl,rfl,by decide +kernel,rfl,by decide +kernel,by decide +kernel⟩
theorem zeo{gT gP:Addr}{eT eP:FuncData}(F:Fun K "place_moves" "place_moves" zaJ f fd) (hran:mg "range"=none) (FK:FC K CF) (mT:yS K CF "tail" gT) (GT:zD P w K mg base CX0 1 gT eT ["self"] (wE c CF 2)) (bT:zM K eT ["self"] []) (mP:yS K CF "places" gP) (GP:zD P w K mg base CX0 1 gP eP ["self"] (wH c CF)) (bP:zM K eP ["self"] []):zD P w K mg base CX0 2 f fd ["form"] (zbf K c CF):=by
 refine F.ok zbm (fun vs H Q E h=>?_) (fun cdv A outer s H vs Q E hr h=>?_)
 ·obtain⟨f,rows,bars,rfl,_⟩:=h
  rfl
 obtain⟨f,rows,bars,rfl,hF,l24,q⟩:=h;refine⟨_,zf (je (i:=1) [] ["q"] [none] zbm.nd rfl (Or.inl rfl) rfl ⟨rfl,rfl,rfl,rfl⟩ (xO rfl hran (ac (zU (pv 0) FK.cl mP GP hr bP .nil zW) zc)) (zY 0) rfl rfl rfl
   (fun pins fp s H C=>⟨zl (i:=0) ndQ rfl (Or.inl rfl) (.inr rfl),yO,zC (ac zj (ac (pv 0) zc))⟩))
  (zf (zI (y3 PySem.F.plainAttrs_list PySem.F.slot_list_append PySem.F.type_list_append zQ (pv 1) (ac (vB (yL (wb (zU (pv 0) FK.cl mT GT hr bT .nil zW))) (zC (ac zj zc)) (zC (ac zj (ac (zU (pv 0) FK.cl mT GT hr bT .nil zW) zc)))) zc)))
  (ze (zq (pv 1)))),?_⟩
 obtain⟨dx,fs,lr,lb,ld,ps0,h1,h2,h3,h4,h5,h6⟩:=id hF.at_;have nmT:fs.lookup ("tail" : Str)=none:=h2.no _ (by decide +kernel)
 have nmP:fs.lookup ("places" : Str)=none:=h2.no _ (by decide +kernel)
 have lp:plN rows<=24:=le_trans (length_filter_le _ _) l24;refine⟨_,rfl,f,dx,fs,rfl,h1,nmP,f,rows,bars,rfl,hF.at_,(plN rows:Nat),rfl,by omega,by omega,fun D hD=>?_⟩
 rw[show((plN rows:Nat):Int).toNat=plN rows by omega]
 refine wR (n:=plN rows) (fun i ys H'=>zo H H'/\H' D=some (.lst ys)/\Paired (MvX K H') ys ((List.range i).map Mv.take)) ⟨zb hD _,za,.nil⟩ ?_ ?_
 ·rintro i ys H' hi ⟨sH,hDy,pY⟩
  refine⟨fun _=>?_,fun e=>Bool.noConfusion e⟩;refine⟨_,rfl,zz2,fun u hu=>?_⟩;have s2:=zb hu (.tup [.str "take",.int ((0:Int)+(i:Int))]);have t2:MvX K (upd H' u (.tup [.str "take",.int ((0:Int)+(i:Int))])) (.ref u) (.take i):=⟨u,rfl,SqT.of (by rw[za,Int.zero_add];rfl)⟩
  have ly:ys.length=i:=by rw[pY.length,length_map,length_range]
  refine lcN.mk hi (zZ (by omega)) (s2 _ _ hDy) (le_of_eq ly) ⟨fun b o e=>by rw[zh (zd e hD)];exact s2 _ _ (sH _ _ e),za,?_⟩
  rw[range_succ,map_append];exact yU (xG (yR s2 pY) (s2 _ _ hDy)) (.cons (t2.put (s2 _ _ hDy)) .nil)
 rintro ys H1 ⟨s1,hD1,p1⟩;have ly:ys.length<=24:=by rw[p1.length,length_map,length_range];exact lp
 have fin:∀{H2:Hp}{u:Addr},zo H1 H2->MvX K H2 (.ref u) (jm rows)->Q (.ref D) (upd H2 D (.lst (ys++[.ref u]))):=fun {H2 u} s2 hu=>by
  refine q D (ys++[.ref u]) _ (fun b o e=>by rw[zh (zd e hD)];exact s2 _ _ (s1 _ _ e)) hD za ?_
  exact yU (xG (yR s2 p1) (s2 _ _ hD1)) (.cons (hu.put (s2 _ _ hD1)) .nil)
 refine⟨_,rfl,.inl ⟨rfl,_,SqL.of hD1⟩,_,rfl,f,dx,fs,rfl,s1 _ _ h1,nmT,f,rows,bars,rfl,(hF.same s1).at_,?_⟩;cases hT:zm 2 0 rows with
 | none=>
  refine⟨_,rfl,?_⟩;refine yY ?_;refine⟨zz1,fun u hu=>?_⟩;have s2:=zb hu (.tup [.str "end"]);refine⟨D,_,_,rfl,rfl,s2 _ _ hD1,zE (by omega),?_⟩
  exact⟨_,rfl,fin s2 ⟨u,rfl,SqT.of (by unfold jm;rw[hT];exact za)⟩⟩
 | some t=>
  refine⟨_,rfl,?_⟩;refine zK ?_;refine⟨_,rfl,f,dx,fs,rfl,s1 _ _ h1,nmT,f,rows,bars,rfl,(hF.same s1).at_,?_⟩;rw[hT];refine⟨zz2,fun u hu=>?_⟩;have s2:=zb hu (.tup [.str "gather",.int (t:Nat)]);refine⟨D,_,_,rfl,rfl,s2 _ _ hD1,zE (by omega),?_⟩
  exact⟨_,rfl,fin s2 ⟨u,rfl,SqT.of (by unfold jm;rw[hT];exact za)⟩⟩
theorem vy:zr ["form","parameters","moves","q","one"] ["form"] (zi zaN):=⟨rfl,rfl,rfl,by decide +kernel,rfl,by decide +kernel,by decide +kernel⟩
theorem zes{g1 gS gB gG:Addr}{d1 eS eB eG gb gf go:FuncData}(F:Fun K "binder" "binder" zaN f fd) (U:jb mg) (PP:Pcs K m c) (FK:FC K CF) (cPM:zG P w K mg base 2 "place_moves" g1 d1 ["form"] (zbf K c CF)) (mS:yS K CF "parameters" gS) (GS:zD P w K mg base CX0 1 gS eS ["self"] (uc c CF)) (bS:zM K eS ["self"] []) (mB:yS K CF "bars" gB) (GB:zD P w K mg base CX0 1 gB eB ["self"] (zaC c CF)) (bB:zM K eB ["self"] []) (mG:yS K CF "bag" gG) (GG:zD P w K mg base CX0 1 gG eG ["self"] (wE c CF 4)) (bG:zM K eG ["self"] [])
  (GN:zD P w K mg base CX0 1 m.fB gb ["self"] (uz K m bnL)) (bN:zM K gb ["self"] []) (GF:zD P w K mg base CX0 1 m.fF gf ["self"] (zaA K m)) (bF:zM K gf ["self"] []) (GO:zD P w K mg base CX0 1 m.fT go ["self"] (uz K m otL)) (bO:zM K go ["self"] []):zD P w K mg base CX0 3 f fd ["form"] (zbi K c CF):=by
 refine F.ok vy (fun vs H Q E h=>?_) (fun cdv A outer s H vs Q E hr h=>?_)
 ·obtain⟨f,rows,bars,rfl,_⟩:=h
  rfl
 obtain⟨f,rows,bars,rfl,hF,l24,l60,q⟩:=h;have hr1:yo 1 _:=hr.mono (by decide)
 have hCN:∀C,Cs5 c C->Cls K C/\yS K C "by_name" m.fB:=fun C ⟨k,hk,e⟩=>by rw[e];exact⟨(PP k hk).cl,(PP k hk).mB⟩
 have hCF:∀C,Cs5 c C->Cls K C/\yS K C "free" m.fF:=fun C ⟨k,hk,e⟩=>by rw[e];exact⟨(PP k hk).cl,(PP k hk).mF⟩
 have hCO:∀C,Cs5 c C->Cls K C/\yS K C "takes_one" m.fT:=fun C ⟨k,hk,e⟩=>by rw[e];exact⟨(PP k hk).cl,(PP k hk).mT⟩
 refine⟨_,zf (zu (i:=1) vy.nd rfl (Or.inl rfl) (zU (pv 0) FK.cl mS GS hr1 bS .nil zW))
  (zf (zu (i:=2) vy.nd rfl (Or.inl rfl) (cF cPM hr (ac (pv 0) zc)))
  (zf (zI (y3 PySem.F.plainAttrs_list PySem.F.slot_list_extend PySem.F.type_list_extend vT (pv 2) (ac (xn [] ["name"] [none] rfl ⟨rfl,rfl,rfl,rfl⟩ (yE (zU (pv 0) FK.cl mB GB hr1 bB .nil zW)) (zY 0) rfl rfl rfl
   (fun pins fp s H C=>⟨zl (i:=0) zkO rfl (Or.inl rfl) (.inr rfl),yO,zC (ac zj (ac (pv 0) zc))⟩)) zc)))
  (zf (zI (y3 PySem.F.plainAttrs_list PySem.F.slot_list_extend PySem.F.type_list_extend vT (pv 2) (ac (xn [] ["q","one"] [none,none] rfl ⟨rfl,rfl,rfl,rfl⟩ (yH rfl U.en (ac (pv 1) zc)) (yG (K:=K) (n:=2) 0 1) rfl rfl rfl
   (fun pins fp s H C=>⟨yi rfl (zp (zl (i:=0) zkL rfl (Or.inl rfl) (.inr rfl)) (zp (zl (i:=1) zkL rfl (Or.inl rfl) (.inr rfl)) zS)),yX (yk (xW (pv 1) hCN GN hr1 bN zW)),zC (ac zj (ac (zaR (K:=K) rfl (pv 1) rfl) (ac (pv 0) zc)))⟩)) zc)))
  (zf (zI (y3 PySem.F.plainAttrs_list PySem.F.slot_list_append PySem.F.type_list_append zQ (pv 2) (ac (vB (yL (wb (zU (pv 0) FK.cl mG GG hr1 bG .nil zW))) (zC (ac zj zc)) (zC (ac zj (ac (zU (pv 0) FK.cl mG GG hr1 bG .nil zW) zc)))) zc)))
  (zf (xq PassesOwn.never rfl (yH rfl U.en (ac (pv 1) zc)) (yi rfl (zp (zl (i:=3) vy.nd rfl (Or.inl rfl)) (zp (zl (i:=4) vy.nd rfl (Or.inl rfl)) zS)))
   (ze (zH (yk (xW (pv 4) hCO GO hr1 bO zW)) (ze (zI (y3 PySem.F.plainAttrs_list PySem.F.slot_list_append PySem.F.type_list_append zQ (pv 2) (ac (vB (yk (xW (pv 4) hCF GF hr1 bF zW)) (zC (ac zj (ac (pv 3) zc))) (zC (ac zj (ac (pv 3) zc)))) zc)))) zv)))
  (ze (zq (zC (ac (cB zw U.len PySem.boot_len (ac (pv 1) zc)) (ac (pv 2) zc)))))))))),?_⟩
 obtain⟨dx,fs,lr,lb,ld,ps0,h1,h2,h3,h4,h5,h6⟩:=id hF.at_;have nmS:fs.lookup ("parameters" : Str)=none:=h2.no _ (by decide +kernel)
 have nmB:fs.lookup ("bars" : Str)=none:=h2.no _ (by decide +kernel)
 have nmG:fs.lookup ("bag" : Str)=none:=h2.no _ (by decide +kernel)
 have hok:=hF.ok;refine⟨_,rfl,f,dx,fs,rfl,h1,nmS,f,rows,bars,rfl,hF.at_,fun lS ps H1 s1 nS eS hps=>?_⟩;refine⟨_,rfl,f,rows,bars,rfl,hF.same s1,l24,fun lm xs0 H2 s2 nlm elm p0=>?_⟩;have s02:=s1.trans s2;have nH:H lm=none:=s1.free nlm;have eS2:=s2 _ _ eS;have hps2:Paired (PAt c H2) ps rows:=Paired.imp' (fun _ _ ⟨d,z⟩=>⟨d,s2 _ _ z⟩) hps;have nSm:lS≠lm:=zd eS nlm;have lx0:xs0.length<=25:=by
  rw[p0.length];unfold wa;rw[length_append,length_map,length_range]
  have:plN rows<=rows.length:=length_filter_le _ _
  show plN rows+1<=25;omega
 dsimp only[yr];refine⟨_,rfl,.inl ⟨rfl,_,SqL.of elm⟩,_,rfl,f,dx,fs,rfl,s02 _ _ h1,nmB,f,rows,bars,rfl,(hF.same s02).at_,fun lB H3 s3 _ eB=>?_⟩;refine⟨lB,rfl,⟨_,SqL.of eB⟩,fun D hD=>?_⟩;refine ve (K:=K) (xs:=bars.map V.str) (fun i ys H'=>zo H3 H'/\H' D=some (.lst ys)/\Paired (MvX K H') ys ((bars.take i).map Mv.bar)) ⟨zb hD _,za,.nil⟩ (fun i ys H' h=>SqL.of (h.1 _ _ eB)) ?_ ?_
 ·rintro i x ys H' hi hx ⟨sH,hDy,pY⟩
  obtain⟨z,hz,rfl⟩:=strs_at hx;refine⟨fun _=>?_,fun e=>Bool.noConfusion e⟩;refine⟨_,rfl,zz2,fun u hu=>?_⟩;have t:=zb hu (.tup [.str "bar",.str z]);have t2:MvX K (upd H' u (.tup [.str "bar",.str z])) (.ref u) (.bar z):=⟨u,rfl,SqT.of za⟩;have ly:ys.length<=i:=by rw[pY.length,length_map,length_take];omega
  refine lcN.mk hi (zZ (by rw[length_map];omega)) (t _ _ hDy) ly ⟨fun b o e=>by rw[zh (zd e hD)];exact t _ _ (sH _ _ e),za,?_⟩
  rw[wU hz,map_append];exact yU (xG (yR t pY) (t _ _ hDy)) (.cons (t2.put (t _ _ hDy)) .nil)
 rintro xs1 H4 ⟨s4,eD4,p1⟩;rw[length_map,take_length] at p1;have s24:=s3.trans s4;have elm4:=s24 _ _ elm;have lx1:xs1.length<=60:=by rw[p1.length,length_map];exact l60
 refine⟨lm,D,_,_,rfl,rfl,elm4,eD4,zZ (by omega),?_⟩
 have p01:Paired (MvX K (upd H4 lm (.lst (xs0++xs1)))) (xs0++xs1) (wa rows++bars.map Mv.bar):=yU (xG (yR s24 p0) elm4) (xG p1 elm4);have x4:∀b o,H2 b=some o->b≠lm->upd H4 lm (.lst (xs0++xs1)) b=some o:=fun b o e n=>by rw[zh n];exact s24 _ _ e
 have e4:upd H4 lm (.lst (xs0++xs1)) lm=some (.lst (xs0++xs1)):=za;generalize upd H4 lm (.lst (xs0++xs1))=H5 at p01 x4 e4 |-;have npm:∀{H':Hp}{b:Addr}{r:Rw},PAt c H2 b r->b≠lm:=fun {H' b r} ⟨d,z⟩=>xE z elm (by intro h;cases h)
 have eS5:=x4 _ _ eS2 nSm;have hps5:Paired (PAt c H5) ps rows:=Paired.imp' (fun b r z=>by obtain⟨d,z'⟩:=z;exact⟨d,x4 _ _ z' (npm (H':=H) ⟨d,z'⟩)⟩) hps2
 have lps:ps.length=rows.length:=hps.length;refine⟨_,rfl,.inl ⟨rfl,_,SqL.of e4⟩,_,rfl,lS,rfl,⟨_,SqL.of eS5⟩,fun D2 hD2=>?_⟩;refine ju (K:=K) (xs:=ps.map V.ref) (fun i ys H'=>zo H5 H'/\H' D2=some (.lst ys)/\Paired (MvX K H') ys (((rows.zipIdx.take i).filter fun y=>zR y.1.k).map fun y=>Mv.door y.1.z y.2)) ⟨zb hD2 _,za,.nil⟩ (fun i ys H' h=>SqL.of (h.1 _ _ eS5)) ?_ ?_
 ·rintro i x p ys H' hi hx ⟨sH,hDy,pY⟩ hpn
  obtain⟨pa,hpa,rfl⟩:=xa hx;obtain⟨r,hr',dx',hdx⟩:=yg hps5 hpa;have rok:=hok r (mem_of_getElem? hr');have C:=PP r.k rok.1;have sp:=zb hpn (.tup [.int (i:Nat),.ref pa]);refine⟨p,_,rfl,SqT.of za,rfl,_,_,rfl,_,_,rfl,rfl,?_⟩;have hd2:upd H' p (.tup [.int (i:Nat),.ref pa]) pa=_:=(sH.trans sp) _ _ hdx;have hDy2:=sp _ _ hDy;have pY2:=yR sp pY;have sH2:=sH.trans sp;generalize upd H' p (.tup [.int (i:Nat),.ref pa])=H6 at sp hd2 hDy2 pY2 sH2 |-;refine⟨_,rfl,pa,_,dx',_,rfl,⟨r.k,rok.1,rfl⟩,hd2,vA (by decide +kernel) (by decide +kernel) (by decide +kernel),pa,dx',_,_,_,_,rfl,C,hd2,_,rfl,?_⟩
  rw[uK r.k rok.1];have tk:=qz hr';have ly:ys.length<=i:=by
   rw[pY.length,length_map];refine le_trans (length_filter_le _ _) ?_;rw[length_take];omega
  refine⟨fun e=>?_,fun e=>?_⟩
  ·refine⟨_,rfl,pa,_,dx',_,_,rfl,hd2,C.cl,C.nN,xR,_,rfl,zz3,fun u hu=>?_⟩
   have t:=zb hu (.tup [.str "door",.str r.z,.int (i:Nat)]);have t2:MvX K (upd H6 u (.tup [.str "door",.str r.z,.int (i:Nat)])) (.ref u) (.door r.z i):=⟨u,rfl,SqT.of za⟩;refine lcN.mk hi (zZ (by rw[length_map];omega)) (t _ _ hDy2) ly ⟨fun b o e=>by rw[zh (zd e hD2)];exact t _ _ (sH2 _ _ e),za,?_⟩
   rw[tk,filter_append,filter_cons,show zR ((r,i):Rw×Nat).1.k=true from e,if_pos rfl,filter_nil,map_append];exact yU (xG (yR t pY2) (t _ _ hDy2)) (.cons (t2.put (t _ _ hDy2)) .nil)
  ·refine lcS.mk hi ⟨sH2,hDy2,?_⟩
   rw[tk,filter_append,filter_cons,show zR ((r,i):Rw×Nat).1.k=false from e,if_neg Bool.false_ne_true,filter_nil,append_nil];exact pY2
 rintro xs2 H6 ⟨s6,eD6,p2⟩;have p2:Paired (MvX K H6) xs2 (wj rows):=by
  rw[length_map,lps,show rows.length=rows.zipIdx.length by rw[length_zipIdx],take_length] at p2
  exact p2
 have elm6:=s6 _ _ e4;have lx2:xs2.length<=24:=by
  rw[p2.length];unfold wj;rw[length_map];refine le_trans (length_filter_le _ _) ?_;rw[length_zipIdx];exact l24
 refine⟨lm,D2,_,_,rfl,rfl,elm6,eD6,zZ (by rw[length_append];omega),?_⟩
 have p012:Paired (MvX K (upd H6 lm (.lst (xs0++xs1++xs2)))) (xs0++xs1++xs2) (wa rows++bars.map Mv.bar++wj rows):=yU (xG (yR s6 p01) elm6) (xG p2 elm6);have x6:∀b o,H2 b=some o->b≠lm->upd H6 lm (.lst (xs0++xs1++xs2)) b=some o:=fun b o e n=>by rw[zh n];exact s6 _ _ (x4 b o e n)
 have e6:upd H6 lm (.lst (xs0++xs1++xs2)) lm=some (.lst (xs0++xs1++xs2)):=za;have l012:(xs0++xs1++xs2).length<=110:=by rw[length_append,length_append];omega
 generalize upd H6 lm (.lst (xs0++xs1++xs2))=H7 at p012 x6 e6 |-;generalize xs0++xs1++xs2=xs3 at p012 e6 l012;have nfm:∀{b:Addr}{o:HO},H b=some o->b≠lm:=fun e=>zd e nH;have s07:zo H H7:=fun b o e=>x6 _ _ (s02 _ _ e) (nfm e);dsimp only;refine yv (fun σ' H'=>∃(xs4:List V),σ'=[some (.ref f),some (.ref lS),some (.ref lm),none,none]/\(∀b o,H2 b=some o->b≠lm->H' b=some o)/\H' lm=some (.lst xs4)/\Paired (MvX K H') xs4 (wa rows++bars.map Mv.bar++wj rows++[.names (zm 4 0 rows)])/\xs4.length<=111) ?_ (fun key=>?_);rotate_left
 ·refine⟨_,rfl,.inl ⟨rfl,_,SqL.of e6⟩,_,rfl,f,dx,fs,rfl,s07 _ _ h1,nmG,f,rows,bars,rfl,(hF.same s07).at_,?_⟩
  have fin:∀{u:Addr}{H8:Hp},zo H7 H8->MvX K H8 (.ref u) (.names (zm 4 0 rows))->∃(xs4:List V),[some (V.ref f),some (V.ref lS),some (V.ref lm),none,none]=[some (V.ref f),some (V.ref lS),some (V.ref lm),none,none]/\(∀b o,H2 b=some o->b≠lm->upd H8 lm (.lst (xs3++[.ref u])) b=some o)/\upd H8 lm (.lst (xs3++[.ref u])) lm=some (.lst xs4)/\Paired (MvX K (upd H8 lm (.lst (xs3++[.ref u])))) xs4 (wa rows++bars.map Mv.bar++wj rows++[.names (zm 4 0 rows)])/\xs4.length<=111:=fun {u H8} s8 hu=>by
   refine⟨xs3++[.ref u],rfl,fun b o e n=>by rw[zh n];exact s8 _ _ (x6 b o e n),za,?_,by rw[length_append,length_singleton];omega⟩
   exact yU (xG (yR s8 p012) (s8 _ _ e6)) (.cons (hu.put (s8 _ _ e6)) .nil)
  cases hT:zm 4 0 rows with
  | none=>
   rw[hT] at fin key;refine⟨_,rfl,?_⟩;refine yY ?_;refine⟨zz1,fun u hu=>?_⟩;have t:=zb hu (.tup [.str "names"]);refine⟨lm,_,_,rfl,rfl,t _ _ e6,zE (by omega),?_⟩
   exact key _ _ (fin t ⟨u,rfl,SqT.of za⟩)
  | some b=>
   rw[hT] at fin key;refine⟨_,rfl,?_⟩;refine zK ?_;refine⟨_,rfl,f,dx,fs,rfl,s07 _ _ h1,nmG,f,rows,bars,rfl,(hF.same s07).at_,?_⟩;rw[hT];refine⟨zz2,fun u hu=>?_⟩;have t:=zb hu (.tup [.str "names",.int (b:Nat)]);refine⟨lm,_,_,rfl,rfl,t _ _ e6,zE (by omega),?_⟩
   exact key _ _ (fin t ⟨u,rfl,SqT.of za⟩)
 clear p012 x6 e6 l012 s07 p01 x4 e4 eS5 hps5;rintro σ8 H8 ⟨xs4,rfl,x8,e8,p8,l8⟩;have eS8:=x8 _ _ eS2 nSm;have hps8:Paired (PAt c H8) ps rows:=Paired.imp' (fun b r z=>by obtain⟨d,z'⟩:=z;exact⟨d,x8 _ _ z' (npm (H':=H) ⟨d,z'⟩)⟩) hps2
 generalize hms4:wa rows++bars.map Mv.bar++wj rows++[.names (zm 4 0 rows)]=ms4 at p8;refine⟨_,rfl,lS,rfl,⟨_,SqL.of eS8⟩,xY (K:=K) (a:=lS) (xs:=ps.map V.ref) (fun i σ H'=>∃(xs5:List V) (v3 v4:Option V),σ=[some (.ref f),some (.ref lS),some (.ref lm),v3,v4]/\(∀b o,H8 b=some o->b≠lm->H' b=some o)/\H' lm=some (.lst xs5)/\Paired (MvX K H') xs5 (ms4++(((rows.zipIdx.take i).filter fun y=>tk1 y.1.k).map fun y=>if fr y.1.k y.1.b=true then Mv.free y.2 else Mv.need y.2))/\xs5.length<=111+i) ⟨xs4,_,_,rfl,fun _ _ e _=>e,e8,(by rw[List.take_zero];show Paired _ _ (ms4++[]);rw[append_nil];exact p8),by omega⟩ (fun i σ H' _ ⟨_,_,_,_,sH,_⟩=>SqL.of (sH _ _ eS8 nSm)) ?_ ?_⟩
 ·rintro i x p σ H' hx ⟨xs5,v3,v4,rfl,sH,hl',pY,lY⟩ hpn
  obtain⟨pa,hpa,rfl⟩:=xa hx;obtain⟨r,hr',dx',hdx⟩:=yg hps8 hpa;have rok:=hok r (mem_of_getElem? hr');have C:=PP r.k rok.1;have hi:i<rows.length:=(List.getElem?_eq_some_iff.mp hr').1;have npa:pa≠lm:=xE hdx e8 (by intro z;cases z)
  have sp:=zb hpn (.tup [.int (i:Nat),.ref pa]);refine⟨p,_,rfl,SqT.of za,rfl,_,_,rfl,_,_,rfl,rfl,?_⟩;have hd2:upd H' p (.tup [.int (i:Nat),.ref pa]) pa=_:=sp _ _ (sH _ _ hdx npa);have hl2:=sp _ _ hl';have pY2:=yR sp pY;have sH2:∀b o,H8 b=some o->b≠lm->upd H' p (.tup [.int (i:Nat),.ref pa]) b=some o:=fun b o e n=>sp _ _ (sH b o e n);generalize upd H' p (.tup [.int (i:Nat),.ref pa])=H9 at sp hd2 hl2 pY2 sH2 |-;have tk:=qz hr';refine⟨_,rfl,pa,_,dx',_,rfl,⟨r.k,rok.1,rfl⟩,hd2,vA (by decide +kernel) (by decide +kernel) (by decide +kernel),pa,dx',_,_,_,_,rfl,C,hd2,_,rfl,?_⟩
  rw[zk0 r.k rok.1];cases ht:tk1 r.k with
  | false=>
   refine zK ?_;refine⟨xs5,_,_,rfl,sH2,hl2,?_,by omega⟩
   rw[tk,filter_append,filter_cons,show tk1 ((r,i):Rw×Nat).1.k=false from ht,if_neg Bool.false_ne_true,filter_nil,append_nil];exact pY2
  | true=>
   refine yY ?_;refine⟨_,rfl,.inl ⟨rfl,_,SqL.of hl2⟩,_,rfl,pa,_,dx',_,rfl,⟨r.k,rok.1,rfl⟩,hd2,vA (by decide +kernel) (by decide +kernel) (by decide +kernel),pa,dx',_,_,_,_,rfl,C,hd2,_,rfl,?_⟩
   have fin:∀{u:Addr}{H10:Hp},zo H9 H10->MvX K H10 (.ref u) (if fr r.k r.b=true then Mv.free i else Mv.need i)->∃(xs6:List V) (v3 v4:Option V),[some (V.ref f),some (V.ref lS),some (V.ref lm),some (V.int (i:Nat)),some (V.ref pa)]=[some (V.ref f),some (V.ref lS),some (V.ref lm),v3,v4]/\(∀b o,H8 b=some o->b≠lm->upd H10 lm (.lst (xs5++[.ref u])) b=some o)/\upd H10 lm (.lst (xs5++[.ref u])) lm=some (.lst xs6)/\Paired (MvX K (upd H10 lm (.lst (xs5++[.ref u])))) xs6 (ms4++(((rows.zipIdx.take (i+1)).filter fun y=>tk1 y.1.k).map fun y=>if fr y.1.k y.1.b=true then Mv.free y.2 else Mv.need y.2))/\xs6.length<=111+(i+1):=fun {u H10} s10 hu=>by
    refine⟨xs5++[.ref u],_,_,rfl,fun b o e n=>by rw[zh n];exact s10 _ _ (sH2 b o e n),za,?_,by rw[length_append,length_singleton];omega⟩
    rw[tk,filter_append,filter_cons,show tk1 ((r,i):Rw×Nat).1.k=true from ht,if_pos rfl,filter_nil,map_append,<- append_assoc];exact yU (xG (yR s10 pY2) (s10 _ _ hl2)) (.cons (hu.put (s10 _ _ hl2)) .nil)
   cases hf:fr r.k r.b with
   | true=>
    rw[hf,if_pos rfl] at fin;refine yY ?_;refine⟨_,rfl,zz2,fun u hu=>?_⟩;have t:=zb hu (.tup [.str "free",.int (i:Nat)]);refine⟨lm,_,_,rfl,rfl,t _ _ hl2,zE (by omega),?_⟩
    exact fin t ⟨u,rfl,SqT.of za⟩
   | false=>
    rw[hf,if_neg Bool.false_ne_true] at fin;refine zK ?_;refine⟨_,rfl,zz2,fun u hu=>?_⟩;have t:=zb hu (.tup [.str "need",.int (i:Nat)]);refine⟨lm,_,_,rfl,rfl,t _ _ hl2,zE (by omega),?_⟩
    exact fin t ⟨u,rfl,SqT.of za⟩
 ·rintro σ H9 ⟨xs5,v3,v4,rfl,sH,hl',pY,lY⟩
  rw[length_map,lps,show rows.length=rows.zipIdx.length by rw[length_zipIdx],take_length] at pY
  have eS9:=sH _ _ eS8 nSm;refine⟨_,rfl,lS,_,rfl,.inl (SqL.of eS9),_,rfl,zz2,fun t ht=>?_⟩;rw[length_map,lps];have t9:=zb ht (.tup [.int (rows.length:Nat),.ref lm]);exact q t lm xs5 _ (fun b o e=>t9 _ _ (sH _ _ (x8 _ _ (s02 _ _ e) (nfm e)) (nfm e))) nH za (t9 _ _ hl') (by rw[<- hms4] at pY;exact yR t9 pY)
end
def esG(N:Nat) (g:Nat->Option En):List (Option En):=(List.range N).map g
theorem uq{N:Nat}{g:Nat->Option En}{q:Nat}(h:q<N):noE (esG N g) q=(g q).isNone:=by
 unfold noE esG;rw[getElem?_map,getElem?_range h];show(match some (g q) with|some none=>true|_=>false)=_
 cases g q <;> rfl
theorem yI{N:Nat}{g g':Nat->Option En}(h:∀i,i<N->g i=g' i):esG N g=esG N g':=by
 unfold esG;exact List.map_congr_left fun i hi=>h i (List.mem_range.mp hi)
theorem vV{N:Nat}{g:Nat->Option En}{q:Nat}{o:Option En}:(esG N g).set q o=esG N fun i=>if i=q then o else g i:=by
 unfold esG;refine ext_getElem? fun i=>?_;rw[List.getElem?_set,getElem?_map,getElem?_map,length_map,length_range];by_cases hi:i<N
 ·rw[getElem?_range hi]
  by_cases e:q=i
  ·subst e
   rw[if_pos rfl,if_pos hi];show some o=some (if q=q then o else g q)
   rw[if_pos rfl]
  ·rw[if_neg e]
   show some (g i)=some (if i=q then o else g i)
   rw[if_neg (fun h=>e h.symm)]
 ·rw[getElem?_eq_none (show(List.range N).length<=i by rw[length_range];omega)]
  by_cases e:q=i
  ·subst e
   rw[if_pos rfl,if_neg hi];rfl
  ·rw[if_neg e];rfl
section
variable {zs:List Str}{us l:List Nat}{d:yB}
def gP(n a:Nat) (i:Nat):Option En:=if i<a/\i<n then some (.one "place" i) else none
theorem jP{n p N:Nat}(hp:p<=N) (R:List Mv):∀k a,a+k=p->yK ((List.range' a k).map Mv.take++R) zs d (esG N (gP n a)) us ((List.range n).drop (min a n))=yK R zs d (esG N (gP n p)) us ((List.range n).drop (min p n))
 | 0,a,h=>by
  have:a=p:=by omega
  subst this;rfl
 | k+1,a,h=>by
  rw[range'_succ,map_cons,cons_append,wN (m:=.take a) True.intro];have hn:noE (esG N (gP n a)) a=true:=by
   rw[uq (by omega)]
   unfold gP;rw[if_neg (by omega)];rfl
  by_cases ha:a<n
  ·have el:(List.range n).drop (min a n)=a::(List.range n).drop (min (a+1) n):=by
    rw[show min a n=a by omega,show min (a+1) n=a+1 by omega,drop_eq_getElem_cons (by rw[length_range];exact ha),List.getElem_range]
   have e:stF (.take a) (esG N (gP n a)) ((List.range n).drop (min a n))=(none,(esG N (gP n a)).set a (some (.one "place" a)),(List.range n).drop (min (a+1) n)):=by rw[el];exact if_pos hn
   rw[e,vV];rw[<- jP hp R k (a+1) (by omega)]
   show yK _ zs d _ us _=_
   congr 1
   refine yI fun i hi=>?_;unfold gP;by_cases hia:i=a
   ·subst hia;rw[if_pos rfl,if_pos ⟨by omega,ha⟩]
   ·rw[if_neg hia]
    by_cases hc:i<a/\i<n
    ·rw[if_pos hc,if_pos ⟨by omega,hc.2⟩]
    ·rw[if_neg hc,if_neg (fun h=>hc ⟨by omega,h.2⟩)]
  ·have el:(List.range n).drop (min a n)=[]:=List.drop_eq_nil_of_le (by rw[length_range];omega)
   have e:stF (.take a) (esG N (gP n a)) ((List.range n).drop (min a n))=(none,esG N (gP n a),(List.range n).drop (min (a+1) n)):=by
    rw[el,show(List.range n).drop (min (a+1) n)=[] from List.drop_eq_nil_of_le (by rw[length_range];omega)];exact if_pos hn
   rw[e];rw[<- jP hp R k (a+1) (by omega)]
   show yK _ zs d _ us _=_
   congr 1
   refine yI fun i hi=>?_;unfold gP;by_cases hc:i<a/\i<n
   ·rw[if_pos hc,if_pos ⟨by omega,hc.2⟩]
   ·rw[if_neg hc,if_neg (fun h=>hc ⟨by omega,h.2⟩)]
theorem zh9{rows:List Rw}{n:Nat}:(List.range n).drop (min (plN rows) n)=plL rows n:=by
 unfold plL;refine ext_getElem? fun i=>?_;rw[List.getElem?_drop,getElem?_map];by_cases h:min (plN rows) n+i<n
 ·rw[getElem?_range h,getElem?_range (by omega)]
  show some (min (plN rows) n+i)=some (plN rows+i)
  congr 1
  omega
 ·rw[getElem?_eq_none (by rw[length_range];omega),getElem?_eq_none (by rw[length_range];omega)];rfl
theorem zbp(R:List Mv) {es:List (Option En)}:∀(bars:List Str) (d:yB),yK (bars.map Mv.bar++R) zs d es us l=yK R zs (bars.foldl (fun d z=>zV d (.inr z) (.str "shut")) d) es us l
 | [],_=>rfl
 | z::bars,d=>by
  rw[map_cons,cons_append];show yK (bars.map Mv.bar++R) zs (zV d (.inr z) (.str "shut")) es us l=_;rw[zbp R bars];rfl
theorem uu{z:Str}:∀(bars:List Str) (d:yB),zF (bars.foldl (fun d z=>zV d (.inr z) (.str "shut")) d) (.inr z)=if z∈bars then some (.str "shut") else zF d (.inr z)
 | [],d=>by rw[if_neg List.not_mem_nil];rfl
 | y::bars,d=>by
  show zF (bars.foldl _ (zV d (.inr y) (.str "shut"))) (.inr z)=_;rw[uu bars,xt];by_cases h:z∈bars
  ·rw[if_pos h,if_pos (mem_cons_of_mem _ h)]
  ·rw[if_neg h]
   by_cases e:z=y
   ·subst e;rw[if_pos rfl,if_pos mem_cons_self]
   ·rw[if_neg (fun h'=>e (Sum.inr.inj h')),if_neg (fun h'=>(List.mem_cons.mp h').elim e h)]
theorem qP(R:List Mv) {es:List (Option En)}:∀(ys:List (Rw×Nat)) (d:yB),(∀y∈ys,xJ d y.1.z=false)->yK ((ys.map fun y=>Mv.door y.1.z y.2)++R) zs d es us l=yK R zs (ys.foldl (fun d y=>zV d (.inr y.1.z) (.int (y.2:Nat))) d) es us l
 | [],_,_=>rfl
 | y::ys,d,h=>by
  rw[map_cons,cons_append];show(if xJ d y.1.z=true then yK ((ys.map fun y=>Mv.door y.1.z y.2)++R) zs d es us l else yK ((ys.map fun y=>Mv.door y.1.z y.2)++R) zs (zV d (.inr y.1.z) (.int (y.2:Nat))) es us l)=_
  rw[h y mem_cons_self,if_neg Bool.false_ne_true,qP R ys]
  ·rfl
  ·intro y' hy'
   have:=h y' (mem_cons_of_mem _ hy')
   unfold xJ at this |-;rw[xt];by_cases e:(Sum.inr y'.1.z:Key)=.inr y.1.z
   ·rw[if_pos e];exact decide_eq_false (by intro h;cases h)
   ·rw[if_neg e];exact this
theorem vM{z:Str}:∀(ys:List (Rw×Nat)) (d:yB),(ys.map fun y=>y.1.z).Nodup->zF (ys.foldl (fun d y=>zV d (.inr y.1.z) (.int (y.2:Nat))) d) (.inr z)=match ys.find? (fun y=>decide (y.1.z=z)) with|some y=>some (.int (y.2:Nat))|none=>zF d (.inr z)
 | [],_,_=>rfl
 | y::ys,d,nd=>by
  show zF (ys.foldl _ (zV d (.inr y.1.z) (.int (y.2:Nat)))) (.inr z)=_;rw[map_cons,List.nodup_cons] at nd;rw[vM ys _ nd.2,find?_cons];by_cases e:y.1.z=z
  ·rw[decide_eq_true e]
   have hn:ys.find? (fun y=>decide (y.1.z=z))=none:=by
    rw[find?_eq_none];intro y' hy' he;exact nd.1 (List.mem_map.mpr ⟨y',hy',(of_decide_eq_true he).trans e.symm⟩)
   rw[hn];show zF (zV d (.inr y.1.z) (.int (y.2:Nat))) (.inr z)=some (.int (y.2:Nat));rw[xt,if_pos (by rw[e])]
  ·rw[decide_eq_false e]
   cases ys.find? (fun y=>decide (y.1.z=z)) with
   | some y'=>rfl
   | none=>
    show zF (zV d (.inr y.1.z) (.int (y.2:Nat))) (.inr z)=zF d (.inr z);rw[xt,if_neg (fun h=>e (Sum.inr.inj h).symm)]
end
structure zd1(rows:List Rw) (bars:List Str) (D:yB):Prop where
 b:∀z,z∈bars->zF D (.inr z)=some (.str "shut")
 d:∀z i r,rows[i]?=some r->zR r.k=true->r.z=z->zF D (.inr z)=some (.int (i:Nat))
 n:∀z,z∉bars->z∉nms rows->zF D (.inr z)=none
theorem zfE{rows:List Rw}{bars:List Str}(V1:yN rows bars) {zs:List Str}{es:List (Option En)}{us l:List Nat}(R:List Mv):∃D,zd1 rows bars D/\yK (bars.map Mv.bar++(wj rows++R)) zs [] es us l=yK R zs D es us l:=by
 have e1:((rows.zipIdx.filter fun y=>zR y.1.k).map fun y=>y.1.z)=nms rows:=by
  unfold nms
  conv=>rhs;rw[<- List.zipIdx_map_fst 0 rows]
  rw[List.filter_map,map_map];rfl
 have nd:=List.nodup_append.mp V1.nd;refine⟨(rows.zipIdx.filter fun y=>zR y.1.k).foldl (fun d y=>zV d (.inr y.1.z) (.int (y.2:Nat))) (bars.foldl (fun d z=>zV d (.inr z) (.str "shut")) []),⟨fun z hz=>?_,fun z i r hr hb he=>?_,fun z hz hn=>?_⟩,?_⟩
 ·rw[vM _ _ (by rw[e1];exact nd.1)]
  have:(rows.zipIdx.filter fun y=>zR y.1.k).find? (fun y=>decide (y.1.z=z))=none:=by
   rw[find?_eq_none];intro y hy h;exact nd.2.2 z (by rw[<- e1];exact List.mem_map.mpr ⟨y,hy,of_decide_eq_true h⟩) z hz rfl
  rw[this];show zF (bars.foldl (fun d z=>zV d (.inr z) (.str "shut")) ([]:yB)) (.inr z)=_;rw[uu,if_pos hz]
 ·rw[vM _ _ (by rw[e1];exact nd.1)]
  have hm:(r,i)∈rows.zipIdx.filter fun y=>zR y.1.k:=List.mem_filter.mpr ⟨mem_of_getElem? (uT hr),hb⟩;cases hf:(rows.zipIdx.filter fun y=>zR y.1.k).find? (fun y=>decide (y.1.z=z)) with
  | none=>
   rw[find?_eq_none] at hf;exact absurd (decide_eq_true he) (hf _ hm)
  | some y=>
   have h1:y.1.z=z:=of_decide_eq_true (p:=y.1.z=z) (List.find?_some (p:=fun y:Rw×Nat=>decide (y.1.z=z)) hf);have h2:=List.mem_filter.mp (List.mem_of_find?_eq_some hf);have d1:=wt hb rows 0 i [] hr nd.1;have d2:=wt h2.2 rows 0 y.2 [] (zcc h2.1) nd.1;rw[he] at d1;rw[h1,d1] at d2
   have:=V.int.inj (Option.some.inj d2)
   show some (V.int (y.2:Nat))=_
   congr 2
   omega
 ·rw[vM _ _ (by rw[e1];exact nd.1)]
  have:(rows.zipIdx.filter fun y=>zR y.1.k).find? (fun y=>decide (y.1.z=z))=none:=by
   rw[find?_eq_none];intro y hy h;exact hn (by rw[<- e1];exact List.mem_map.mpr ⟨y,hy,of_decide_eq_true h⟩)
  rw[this];show zF (bars.foldl (fun d z=>zV d (.inr z) (.str "shut")) ([]:yB)) (.inr z)=_;rw[uu,if_neg hz];rfl
 ·rw[zbp]
  unfold wj;rw[qP];intro y hy;unfold xJ;rw[uu,if_neg]
  ·exact decide_eq_false (by intro h;cases h)
  ·intro h
   exact nd.2.2 y.1.z (by rw[<- e1];exact List.mem_map.mpr ⟨y,hy,rfl⟩) y.1.z h rfl
def gT(rows:List Rw) (n i:Nat):Option En:=if zm 2 0 rows=some i then some (.many "places" (plL rows n)) else gP n (plN rows) i
def gkL(rows:List Rw) (zs:List Str) (k:Nat):List Nat:=(List.range k).filter fun j=>decide (zs.getD j ""∉nms rows)
def gR(rows:List Rw) (zs:List Str) (k i:Nat):Option En:=match rows[i]? with
 | some r=>if zR r.k=true/\r.z∈zs.take k then some (.one "name" (zs.findIdx fun y=>decide (y=r.z))) else none
 | none=>none
def gN(rows:List Rw) (n:Nat) (zs:List Str) (k i:Nat):Option En:=match gT rows n i with
 | some e=>some e
 | none=>if zm 4 0 rows=some i then (if gkL rows zs k=[] then none else some (.many "names" (gkL rows zs k))) else gR rows zs k i
def gE(rows:List Rw) (n:Nat) (zs:List Str) (i:Nat):Option En:=match gT rows n i with
 | some e=>some e
 | none=>if zm 4 0 rows=some i then some (.many "names" (gkL rows zs zs.length)) else gR rows zs zs.length i
theorem uL{zs:List Str}{k:Nat}{z:Str}(h:zs[k]?=some z):zs.getD k ""=z:=by
 rw[getD_eq_getElem?_getD,h];rfl
theorem jx{rows:List Rw}{zs:List Str}{k:Nat}:gkL rows zs (k+1)=gkL rows zs k++(if zs.getD k ""∈nms rows then [] else [k]):=by
 unfold gkL;rw[range_succ,filter_append,filter_cons,filter_nil];by_cases h:zs.getD k ""∈nms rows
 ·rw[if_pos h,if_neg (by simpa using h)]
 ·rw[if_neg h,if_pos (decide_eq_true h)]
theorem xA{rows:List Rw}{i kk:Nat}{r:Rw}(hr:rows[i]?=some r) (h:r.k≠kk):¬zm kk 0 rows=some i:=fun e=>by
 obtain⟨m,r',e1,e2,e3⟩:=xj rows 0 i e;rw[Nat.zero_add] at e1;subst e1;rw[hr] at e2;cases e2;exact h e3
section
variable {rows:List Rw}{bars zs:List Str}{n:Nat}{D:yB}
theorem zh2(V1:yN rows bars) (nd:zs.Nodup) {k i:Nat}{z:Str}{r:Rw}(hk:zs[k]?=some z) (hr:rows[i]?=some r) (hb:zR r.k=true) (he:r.z=z):(gN rows n zs k i).isNone=!decide (i<min n (plN rows))/\(¬i<min n (plN rows)->∀j,(if j=i then some (.one "name" k) else gN rows n zs k j)=gN rows n zs (k+1) j):=by
 have hm:z∈nms rows:=by
  unfold nms;exact List.mem_map.mpr ⟨r,List.mem_filter.mpr ⟨mem_of_getElem? hr,hb⟩,he⟩
 have k2:r.k≠2:=fun e=>by rw[e] at hb;cases hb
 have k4:r.k≠4:=fun e=>by rw[e] at hb;cases hb
 have hT:gT rows n i=gP n (plN rows) i:=if_neg (xA hr k2);have hz:z∉zs.take k:=fun h=>by
  obtain⟨a,ha,e⟩:=List.mem_iff_getElem.mp h;rw[length_take] at ha;rw[getElem_take] at e;have hkl:=(List.getElem?_eq_some_iff.mp hk).1
  have:=qU nd (i:=a) (j:=k) (z:=z) (by rw[getElem?_eq_getElem (by omega),e]) hk
  omega
 have hgk:gkL rows zs (k+1)=gkL rows zs k:=by rw[jx,uL hk,if_pos hm,append_nil]
 have hcur:gR rows zs k i=none:=by
  unfold gR;rw[hr];show(if zR r.k=true/\r.z∈zs.take k then _ else none)=none
  rw[if_neg (fun h=>hz (he ▸ h.2))]
 have hidx:(zs.findIdx fun y=>decide (y=r.z))=k:=qU nd (zgy (by rw[he];exact mem_of_getElem? hk)) (by rw[hk,he])
 have htk:=wU hk;constructor
 ·unfold gN
  rw[hT];unfold gP;by_cases hc:i<plN rows/\i<n
  ·rw[if_pos hc,decide_eq_true (show i<min n (plN rows) by omega)];rfl
  ·rw[if_neg hc,decide_eq_false (show ¬i<min n (plN rows) by omega)]
   show(if zm 4 0 rows=some i then _ else gR rows zs k i:Option En).isNone=_
   rw[if_neg (xA hr k4),hcur];rfl
 ·intro hlt j
  by_cases hj:j=i
  ·subst hj
   rw[if_pos rfl];unfold gN;rw[hT];unfold gP;rw[if_neg (by omega)]
   show _=(if zm 4 0 rows=some j then _ else gR rows zs (k+1) j:Option En)
   rw[if_neg (xA hr k4)];unfold gR;rw[hr];show _=(if zR r.k=true/\r.z∈zs.take (k+1) then some (.one "name" (zs.findIdx fun y=>decide (y=r.z))) else none:Option En)
   rw[if_pos ⟨hb,by rw[htk,he];exact mem_append_right _ (List.mem_singleton.mpr rfl)⟩,hidx]
  ·rw[if_neg hj]
   unfold gN;rw[hgk];cases gT rows n j with
   | some e=>rfl
   | none=>
    show(if zm 4 0 rows=some j then _ else gR rows zs k j:Option En)=(if zm 4 0 rows=some j then _ else gR rows zs (k+1) j:Option En)
    split
    ·rfl
    ·unfold gR
     cases hrj:rows[j]? with
     | none=>rfl
     | some r'=>
      show(if zR r'.k=true/\r'.z∈zs.take k then _ else none:Option En)=(if zR r'.k=true/\r'.z∈zs.take (k+1) then _ else none:Option En)
      by_cases hb':zR r'.k=true/\r'.z∈zs.take k
      ·rw[if_pos hb',if_pos ⟨hb'.1,by rw[htk];exact mem_append_left _ hb'.2⟩]
      ·rw[if_neg hb',if_neg]
       rintro⟨h1,h2⟩;rw[htk] at h2;rcases List.mem_append.mp h2 with h2|h2
       ·exact hb' ⟨h1,h2⟩
       ·have hz':=List.mem_singleton.mp h2
        have d1:=wt hb rows 0 i [] hr (List.nodup_append.mp V1.nd).1;have d2:=wt h1 rows 0 j [] hrj (List.nodup_append.mp V1.nd).1;rw[he] at d1;rw[hz',d1] at d2
        have:=V.int.inj (Option.some.inj d2)
        omega
theorem zjU(V1:yN rows bars) {k b:Nat}{z:Str}(hk:zs[k]?=some z) (hm:z∉nms rows) (hb:zm 4 0 rows=some b):((gN rows n zs k b).isNone=true\/gkL rows zs k≠[])/\∀j,(if j=b then some (.many "names" (gkL rows zs k++[k])) else gN rows n zs k j)=gN rows n zs (k+1) j:=by
 obtain⟨m,r,e1,hr,hk4⟩:=xj rows 0 b hb;rw[Nat.zero_add] at e1;subst e1;have hT:gT rows n b=none:=by
  unfold gT;rw[if_neg (xA hr (by omega))]
  unfold gP
  have:=zbu V1.ok V1.ord hr
  rw[hk4] at this;have hnp:¬b<plN rows:=of_decide_eq_false this.symm;rw[if_neg (by omega)]
 have hgk:gkL rows zs (k+1)=gkL rows zs k++[k]:=by rw[jx,uL hk,if_neg hm]
 have htk:=wU hk;constructor
 ·by_cases hg:gkL rows zs k=[]
  ·left
   unfold gN;rw[hT];show(if zm 4 0 rows=some b then (if gkL rows zs k=[] then none else _) else _:Option En).isNone=true
   rw[if_pos hb,if_pos hg];rfl
  ·exact .inr hg
 ·intro j
  by_cases hj:j=b
  ·subst hj
   rw[if_pos rfl];unfold gN;rw[hT];show _=(if zm 4 0 rows=some j then (if gkL rows zs (k+1)=[] then none else some (.many "names" (gkL rows zs (k+1)))) else _:Option En)
   rw[if_pos hb,hgk,if_neg (by simp)]
  ·rw[if_neg hj]
   unfold gN;cases gT rows n j with
   | some e=>rfl
   | none=>
    show(if zm 4 0 rows=some j then _ else gR rows zs k j:Option En)=(if zm 4 0 rows=some j then _ else gR rows zs (k+1) j:Option En)
    have hne:¬zm 4 0 rows=some j:=fun e=>by rw[hb] at e;exact hj (Option.some.inj e).symm
    rw[if_neg hne,if_neg hne];unfold gR;cases hrj:rows[j]? with
    | none=>rfl
    | some r'=>
     show(if zR r'.k=true/\r'.z∈zs.take k then _ else none:Option En)=(if zR r'.k=true/\r'.z∈zs.take (k+1) then _ else none:Option En)
     by_cases hb':zR r'.k=true/\r'.z∈zs.take k
     ·rw[if_pos hb',if_pos ⟨hb'.1,by rw[htk];exact mem_append_left _ hb'.2⟩]
     ·rw[if_neg hb',if_neg]
      rintro⟨h1,h2⟩;rw[htk] at h2;rcases List.mem_append.mp h2 with h2|h2
      ·exact hb' ⟨h1,h2⟩
      ·refine hm ?_
       unfold nms;exact List.mem_map.mpr ⟨r',List.mem_filter.mpr ⟨mem_of_getElem? hrj,h1⟩,List.mem_singleton.mp h2⟩
theorem ze3{d:yB}{q:Option Nat}{j:Nat}{z:Str}{zs:List Str}{es:List (Option En)}{us gs:List Nat}:thF d q j (z::zs) es us gs=if j∈us then thF d q (j+1) zs es us gs
  else if xJ d z=true then (some ("barred",j),es,us,gs)
  else match zF d (.inr z) with
   | some v=>if noE es (vN v)=true then thF d q (j+1) zs (es.set (vN v) (some (.one "name" j))) (us++[j]) gs else (some ("again",j),es,us,gs)
   | none=>match q with
    | some b=>if noE es b=true\/gs≠[] then thF d q (j+1) zs (es.set b (some (.many "names" (gs++[j])))) (us++[j]) (gs++[j]) else (some ("strange",j),es,us,gs)
    | none=>(some ("strange",j),es,us,gs):=rfl
theorem zau(V1:yN rows bars) (nd:zs.Nodup) (hD:zd1 rows bars D):∀m k,k+m=zs.length->
  ((∀j z,k<=j->zs[j]?=some z->yu rows bars n z=none)->thF D (zm 4 0 rows) k (zs.drop k) (esG rows.length (gN rows n zs k)) (List.range k) (gkL rows zs k)=(none,esG rows.length (gN rows n zs zs.length),List.range zs.length,gkL rows zs zs.length))/\
  (∀j z wd,k<=j->zs[j]?=some z->yu rows bars n z=some wd->(∀i y,k<=i->i<j->zs[i]?=some y->yu rows bars n y=none)->(thF D (zm 4 0 rows) k (zs.drop k) (esG rows.length (gN rows n zs k)) (List.range k) (gkL rows zs k)).1=some (wd,j))
 | 0,k,h=>by
  have hk:k=zs.length:=by omega
  subst hk;refine⟨fun _=>by rw[drop_length];rfl,fun j z wd hj hz=>?_⟩
  have:=(List.getElem?_eq_some_iff.mp hz).1
  omega
 | m+1,k,h=>by
  have hkl:k<zs.length:=by omega
  obtain⟨ihA,ihB⟩:=zau V1 nd hD m (k+1) (by omega)
  have hk:zs[k]?=some zs[k]:=getElem?_eq_getElem hkl;have ed:zs.drop k=zs[k]::zs.drop (k+1):=drop_eq_getElem_cons hkl;generalize zs[k]=z at hk ed;have nk:k∉List.range k:=by simp
  have nms0:=(List.nodup_append.mp V1.nd).1;have step:(∃wd,yu rows bars n z=some wd/\(thF D (zm 4 0 rows) k (zs.drop k) (esG rows.length (gN rows n zs k)) (List.range k) (gkL rows zs k)).1=some (wd,k))\/(yu rows bars n z=none/\thF D (zm 4 0 rows) k (zs.drop k) (esG rows.length (gN rows n zs k)) (List.range k) (gkL rows zs k)=thF D (zm 4 0 rows) (k+1) (zs.drop (k+1)) (esG rows.length (gN rows n zs (k+1))) (List.range (k+1)) (gkL rows zs (k+1))):=by
   rw[ed];rw[ze3,if_neg nk];by_cases hb:z∈bars
   ·left
    refine⟨"barred",if_pos hb,?_⟩
    have:xJ D z=true:=by unfold xJ;rw[hD.b z hb];rfl
    rw[this,if_pos rfl]
   ·by_cases hm:z∈nms rows
    ·obtain⟨i,r,hr,hbn,he⟩:=zgi hm
     have hv:=hD.d z i r hr hbn he;have hs:xJ D z=false:=by unfold xJ;rw[hv];exact decide_eq_false (by intro h;cases h)
     rw[hs,if_neg Bool.false_ne_true,hv];have hi:i<rows.length:=(List.getElem?_eq_some_iff.mp hr).1;obtain⟨g1,g2⟩:=zh2 (n:=n) V1 nd hk hr hbn he;have hvn:vN (.int (i:Nat))=i:=by show((i:Nat):Int).toNat=i;omega
     have hw:=zeX (many:=n) nms0 hb hr hbn he;show _\/(_/\(if noE (esG rows.length (gN rows n zs k)) (vN (.int (i:Nat)))=true then _ else _)=_)
     rw[hvn,uq hi,g1];by_cases hlt:i<min n (plN rows)
     ·left
      refine⟨"again",?_,?_⟩
      ·rw[qE,hw,if_pos hlt];rfl
      ·show((if noE (esG rows.length (gN rows n zs k)) (vN (.int (i:Nat)))=true then _ else _):Option (Str×Nat)×List (Option En)×List Nat×List Nat).1=_
       rw[hvn,uq hi,g1,decide_eq_true hlt,if_neg (by decide)]
     ·right
      refine⟨?_,?_⟩
      ·rw[qE,hw,if_neg hlt];rfl
      ·rw[decide_eq_false hlt,if_pos (show(!false)=true from rfl),vV,yI (g':=gN rows n zs (k+1)) (fun j _=>g2 hlt j),range_succ]
       have hgk:gkL rows zs (k+1)=gkL rows zs k:=by rw[jx,uL hk,if_pos hm,append_nil]
       rw[hgk]
    ·have hv:=hD.n z hb hm
     have hs:xJ D z=false:=by unfold xJ;rw[hv];exact decide_eq_false (by intro h;cases h)
     rw[hs,if_neg Bool.false_ne_true,hv];cases hbag:zm 4 0 rows with
     | none=>
      left;refine⟨"strange",?_,rfl⟩;rw[zeY hb hm,hbag];rfl
     | some b=>
      right;refine⟨by rw[zeY hb hm,hbag];rfl,?_⟩
      obtain⟨g1,g2⟩:=zjU (n:=n) V1 hk hm hbag;have hbl:b<rows.length:=by
       obtain⟨m',r,e1,hr,_⟩:=xj rows 0 b hbag
       have:=(List.getElem?_eq_some_iff.mp hr).1
       omega
      show(if noE (esG rows.length (gN rows n zs k)) b=true\/gkL rows zs k≠[] then _ else _)=_
      rw[uq hbl,if_pos g1,vV,yI (g':=gN rows n zs (k+1)) (fun j _=>g2 j),range_succ];have hgk:gkL rows zs (k+1)=gkL rows zs k++[k]:=by rw[jx,uL hk,if_neg hm]
      rw[hgk]
  refine⟨fun hall=>?_,fun j z' wd hj hz hw hbefore=>?_⟩
  ·rcases step with ⟨wd,h1,_⟩|⟨h1,h2⟩
   ·rw[hall k z (le_refl _) hk] at h1;cases h1
   ·rw[h2]
    exact ihA fun j y hj hy=>hall j y (by omega) hy
  ·rcases step with ⟨wd',h1,h2⟩|⟨h1,h2⟩
   ·by_cases hjk:j=k
    ·subst hjk
     rw[hk] at hz;cases hz;rw[h1] at hw;cases hw;exact h2
    ·have:=hbefore k z (le_refl _) (by omega) hk
     rw[h1] at this;cases this
   ·by_cases hjk:j=k
    ·subst hjk
     rw[hk] at hz;cases hz;rw[h1] at hw;cases hw
    ·rw[h2]
     exact ihB j z' wd (by omega) hz hw fun i y hi hij hy=>hbefore i y (by omega) hij hy
end
theorem ziH{P:Nat->Prop}:∀n,P n->∃j,P j/\j<=n/\∀i,i<j->¬P i
 | 0,h=>⟨0,h,le_refl _,fun i hi=>absurd hi (by omega)⟩
 | n+1,h=>by
  by_cases hc:∃m,m<=n/\P m
  ·obtain⟨m,hm,hp⟩:=hc
   have key:∀b m,m<=b->P m->∃j,P j/\j<=m/\∀i,i<j->¬P i:=by
    intro b;induction b with
    | zero=>
     intro m hm hp
     have:m=0:=by omega
     subst this;exact⟨0,hp,le_refl _,fun i hi=>absurd hi (by omega)⟩
    | succ b ih=>
     intro m hm hp;by_cases hq:∃i,i<m/\P i
     ·obtain⟨i,hi,hpi⟩:=hq
      obtain⟨j,h1,h2,h3⟩:=ih i (by omega) hpi
      exact⟨j,h1,by omega,h3⟩
     ·exact⟨m,hp,le_refl _,fun i hi hpi=>hq ⟨i,hi,hpi⟩⟩
   obtain⟨j,h1,h2,h3⟩:=key m m (le_refl _) hp;exact⟨j,h1,by omega,h3⟩
  ·exact⟨n+1,h,le_refl _,fun i hi hp=>hc ⟨i,by omega,hp⟩⟩
section
variable {rows:List Rw}{bars zs:List Str}{n:Nat}{D:yB}
theorem gN0:∀i,gN rows n zs 0 i=gT rows n i:=fun i=>by
 unfold gN;cases gT rows n i with
 | some e=>rfl
 | none=>
  show(if zm 4 0 rows=some i then (if gkL rows zs 0=[] then none else _) else gR rows zs 0 i:Option En)=none
  rw[if_pos (show gkL rows zs 0=[] from rfl)]
  have:gR rows zs 0 i=none:=by
   unfold gR;cases rows[i]? with
   | none=>rfl
   | some r=>exact if_neg (fun h=>by rw[List.take_zero] at h;exact absurd h.2 List.not_mem_nil)
  rw[this];split <;> rfl
theorem zka(V1:yN rows bars) (nd:zs.Nodup) (hD:zd1 rows bars D) (hall:∀z∈zs,yu rows bars n z=none):xm D (zm 4 0 rows) zs (esG rows.length (gT rows n)) []=(none,esG rows.length (gE rows n zs),List.range zs.length):=by
 have h:=(zau V1 nd hD zs.length 0 (by omega)).1 (fun j z _ hz=>hall z (mem_of_getElem? hz))
 rw[drop_zero,yI (g':=gT rows n) (fun i _=>gN0 i)] at h;have h:thF D (zm 4 0 rows) 0 zs (esG rows.length (gT rows n)) [] []=(none,esG rows.length (gN rows n zs zs.length),List.range zs.length,gkL rows zs zs.length):=h;unfold xm;rw[h];show(none,qF (zm 4 0 rows) (esG rows.length (gN rows n zs zs.length)),List.range zs.length)=_
 congr 2
 unfold qF;cases hb:zm 4 0 rows with
 | none=>
  refine yI fun i _=>?_;unfold gN gE;cases gT rows n i with
  | some e=>rfl
  | none=>rw[hb];rfl
 | some b=>
  obtain⟨m,r,e1,hr,hk4⟩:=xj rows 0 b hb;rw[Nat.zero_add] at e1;subst e1;have hbl:=(List.getElem?_eq_some_iff.mp hr).1;have hT:gT rows n b=none:=by
   unfold gT;rw[if_neg (xA hr (by omega))]
   unfold gP
   have:=zbu V1.ok V1.ord hr
   rw[hk4] at this;have hnp:¬b<plN rows:=of_decide_eq_false this.symm;rw[if_neg (by omega)]
  show(if noE (esG rows.length (gN rows n zs zs.length)) b=true then (esG rows.length (gN rows n zs zs.length)).set b (some (.many "names" [])) else esG rows.length (gN rows n zs zs.length))=_
  rw[uq hbl];have hgb:gN rows n zs zs.length b=if gkL rows zs zs.length=[] then none else some (.many "names" (gkL rows zs zs.length)):=by
   unfold gN;rw[hT];exact if_pos hb
  have oth:∀i,i≠b->gN rows n zs zs.length i=gE rows n zs i:=fun i hi=>by
   unfold gN gE;cases gT rows n i with
   | some e=>rfl
   | none=>
    have:¬zm 4 0 rows=some i:=fun e=>by rw[hb] at e;exact hi (Option.some.inj e).symm
    show(if zm 4 0 rows=some i then _ else gR rows zs zs.length i:Option En)=(if zm 4 0 rows=some i then _ else gR rows zs zs.length i:Option En)
    rw[if_neg this,if_neg this]
  have hEb:gE rows n zs b=some (.many "names" (gkL rows zs zs.length)):=by
   unfold gE;rw[hT];exact if_pos hb
  by_cases hg:gkL rows zs zs.length=[]
  ·rw[hgb,if_pos hg,if_pos (show(none:Option En).isNone=true from rfl),vV]
   refine yI fun i _=>?_;by_cases hi:i=b
   ·subst hi;rw[if_pos rfl,hEb,hg]
   ·rw[if_neg hi];exact oth i hi
  ·rw[hgb,if_neg hg,if_neg (by simp)]
   refine yI fun i _=>?_;by_cases hi:i=b
   ·subst hi;rw[hEb,hgb,if_neg hg]
   ·exact oth i hi
theorem ziQ(V1:yN rows bars) (nd:zs.Nodup) (hD:zd1 rows bars D) {j:Nat}{z wd:Str}(hz:zs[j]?=some z) (hw:yu rows bars n z=some wd) (hbefore:∀i y,i<j->zs[i]?=some y->yu rows bars n y=none):(xm D (zm 4 0 rows) zs (esG rows.length (gT rows n)) []).1=some (wd,j):=by
 have h:=(zau (n:=n) V1 nd hD zs.length 0 (by omega)).2 j z wd (zero_le _) hz hw (fun i y _ hi hy=>hbefore i y hi hy)
 rw[drop_zero,yI (g':=gT rows n) (fun i _=>gN0 i)] at h;have h:(thF D (zm 4 0 rows) 0 zs (esG rows.length (gT rows n)) [] []).1=some (wd,j):=h;unfold xm;generalize thF D (zm 4 0 rows) 0 zs (esG rows.length (gT rows n)) [] []=T at h;obtain⟨o,es,us,gs⟩:=T;have h:o=some (wd,j):=h;subst h;rfl
def gF(rows:List Rw) (n:Nat) (zs:List Str) (k i:Nat):Option En:=match gE rows n zs i with
 | some e=>some e
 | none=>match rows[i]? with
  | some r=>if i<k/\tk1 r.k=true then some .free else none
  | none=>none
theorem zgC(V1:yN rows bars) {i:Nat}{r:Rw}(hr:rows[i]?=some r) (h2:r.k≠2) (h4:r.k≠4):gE rows n zs i=if xl r.k=true/\i<n then some (.one "place" i) else if zR r.k=true/\r.z∈zs then some (.one "name" (zs.findIdx fun y=>decide (y=r.z))) else none:=by
 have hp:=zbu V1.ok V1.ord hr;unfold gE gT;rw[if_neg (xA hr h2)];unfold gP;by_cases hc:xl r.k=true/\i<n
 ·have hi:i<plN rows:=of_decide_eq_true (hp.symm.trans hc.1)
  rw[if_pos hc,if_pos ⟨hi,hc.2⟩]
 ·rw[if_neg hc,if_neg (fun h=>hc ⟨by rw[hp];exact decide_eq_true h.1,h.2⟩)]
  show(if zm 4 0 rows=some i then _ else gR rows zs zs.length i:Option En)=_
  rw[if_neg (xA hr h4)];unfold gR;rw[hr,take_length]
theorem ziP{r:Rw}(hk:r.k<5):tk1 r.k=true ↔ r.k≠2/\r.k≠4:=by
 have:∀k,k<5->(tk1 k=true ↔ k≠2/\k≠4):=by decide +kernel
 exact this _ hk
theorem zjI(V1:yN rows bars) {i:Nat}{r:Rw}(hr:rows[i]?=some r) (ht:tk1 r.k=true):yc r i n (kvP (fpZ zs))=(!fr r.k r.b&&(gE rows n zs i).isNone):=by
 have hk:=(ziP (V1.ok r (mem_of_getElem? hr)).1).mp ht;rw[zgC V1 hr hk.1 hk.2,zdO,uM];by_cases h1:xl r.k=true/\i<n
 ·rw[if_pos h1,h1.1,decide_eq_true h1.2]
  cases fr r.k r.b <;> rfl
 ·have e1:(xl r.k&&decide (i<n))=false:=by
   cases h:xl r.k with
   | false=>rfl
   | true=>exact decide_eq_false fun h'=>h1 ⟨h,h'⟩
  rw[if_neg h1,e1];by_cases h2:zR r.k=true/\r.z∈zs
  ·rw[if_pos h2,h2.1,decide_eq_true h2.2]
   cases fr r.k r.b <;> rfl
  ·have e2:(zR r.k&&decide (r.z∈zs))=false:=by
    cases h:zR r.k with
    | false=>rfl
    | true=>exact decide_eq_false fun h'=>h2 ⟨h,h'⟩
   rw[if_neg h2,e2];cases fr r.k r.b <;> rfl
theorem zhY(V1:yN rows bars) {i:Nat}{r:Rw}(hr:rows[i]?=some r) (hl:yc r i n (kvP (fpZ zs))=true):tk1 r.k=true:=by
 rw[ziP (V1.ok r (mem_of_getElem? hr)).1];rw[zdO] at hl;constructor
 ·intro e;rw[e] at hl;cases hl
 ·intro e;rw[e] at hl;cases hl
def xu(rows:List Rw) (k:Nat):List Mv:=((rows.zipIdx.drop k).filter fun y=>tk1 y.1.k).map fun y=>if fr y.1.k y.1.b=true then Mv.free y.2 else Mv.need y.2
theorem qO(V1:yN rows bars) {us l:List Nat}:∀m k,k+m=rows.length->
  ((∀j r,k<=j->rows[j]?=some r->yc r j n (kvP (fpZ zs))=false)->yK (xu rows k) zs D (esG rows.length (gF rows n zs k)) us l=.inr (esG rows.length (gF rows n zs rows.length)))/\
  (∀j r,k<=j->rows[j]?=some r->yc r j n (kvP (fpZ zs))=true->(∀i r',k<=i->i<j->rows[i]?=some r'->yc r' i n (kvP (fpZ zs))=false)->yK (xu rows k) zs D (esG rows.length (gF rows n zs k)) us l=.inl ("lacking",j))
 | 0,k,h=>by
  have hk:k=rows.length:=by omega
  subst hk;refine⟨fun _=>?_,fun j r hj hr=>?_⟩
  ·unfold xu
   rw[List.drop_eq_nil_of_le (by rw[length_zipIdx];exact le_refl _)];rfl
  ·have:=(List.getElem?_eq_some_iff.mp hr).1
   omega
 | m+1,k,h=>by
  have hkl:k<rows.length:=by omega
  obtain⟨ihA,ihB⟩:=qO V1 (us:=us) (l:=l) m (k+1) (by omega)
  have hr:rows[k]?=some rows[k]:=getElem?_eq_getElem hkl;generalize rows[k]=r at hr;have hz:=uT hr;have ed:rows.zipIdx.drop k=(r,k)::rows.zipIdx.drop (k+1):=by
   have hl:k<rows.zipIdx.length:=(List.getElem?_eq_some_iff.mp hz).1;rw[drop_eq_getElem_cons hl,(List.getElem?_eq_some_iff.mp hz).2]
  have en:xu rows k=(if tk1 r.k=true then [if fr r.k r.b=true then Mv.free k else Mv.need k] else [])++xu rows (k+1):=by
   unfold xu;rw[ed,filter_cons];by_cases ht:tk1 r.k=true
   ·rw[if_pos ht,if_pos ht];rfl
   ·rw[if_neg ht,if_neg ht];rfl
  have gk:∀i,gF rows n zs k i=if i=k/\gE rows n zs k=none then none else gF rows n zs (k+1) i:=fun i=>by
   unfold gF;by_cases hi:i=k
   ·subst hi
    cases he:gE rows n zs i with
    | some e=>rw[if_neg (by rintro⟨_,h⟩;cases h)]
    | none=>
     rw[if_pos ⟨rfl,rfl⟩,hr];exact if_neg (by omega)
   ·rw[if_neg (fun h=>hi h.1)]
    cases gE rows n zs i with
    | some e=>rfl
    | none=>
     cases rows[i]? with
     | none=>rfl
     | some r'=>
      show(if i<k/\tk1 r'.k=true then some En.free else none)=(if i<k+1/\tk1 r'.k=true then some En.free else none)
      by_cases hc:i<k/\tk1 r'.k=true
      ·rw[if_pos hc,if_pos ⟨by omega,hc.2⟩]
      ·rw[if_neg hc,if_neg (fun h=>hc ⟨by omega,h.2⟩)]
  have hno:noE (esG rows.length (gF rows n zs k)) k=(gE rows n zs k).isNone:=by
   rw[uq hkl,gk k];cases he:gE rows n zs k with
   | none=>rw[if_pos ⟨rfl,rfl⟩];first|done|rfl
   | some e=>
    rw[if_neg (by rintro⟨_,h⟩;cases h)]
    unfold gF;rw[he];first|done|rfl
  have step:(yc r k n (kvP (fpZ zs))=true/\yK (xu rows k) zs D (esG rows.length (gF rows n zs k)) us l=.inl ("lacking",k))\/(yc r k n (kvP (fpZ zs))=false/\yK (xu rows k) zs D (esG rows.length (gF rows n zs k)) us l=yK (xu rows (k+1)) zs D (esG rows.length (gF rows n zs (k+1))) us l):=by
   rw[en];by_cases ht:tk1 r.k=true
   ·rw[if_pos ht]
    have hl:=zjI (n:=n) (zs:=zs) V1 hr ht;by_cases hf:fr r.k r.b=true
    ·right
     refine⟨by rw[hl,hf];rfl,?_⟩
     rw[if_pos hf,singleton_append,wN (m:=.free k) True.intro];by_cases hg:gE rows n zs k=none
     ·have e:stF (.free k) (esG rows.length (gF rows n zs k)) l=(none,(esG rows.length (gF rows n zs k)).set k (some .free),l):=if_pos (by rw[hno,hg];rfl)
      rw[e,vV];show yK _ zs D _ us l=_
      congr 1
      refine yI fun i _=>?_;by_cases hi:i=k
      ·subst hi
       rw[if_pos rfl];unfold gF;rw[hg,hr];exact(if_pos ⟨by omega,ht⟩).symm
      ·rw[if_neg hi,gk i,if_neg (fun h=>hi h.1)]
     ·have e:stF (.free k) (esG rows.length (gF rows n zs k)) l=(none,esG rows.length (gF rows n zs k),l):=if_neg (by rw[hno];cases h:gE rows n zs k with|none=>exact absurd h hg|some e=>simp)
      rw[e];show yK _ zs D _ us l=_
      congr 1
      refine yI fun i _=>?_;rw[gk i,if_neg (fun h=>hg h.2)]
    ·have hf':fr r.k r.b=false:=by simpa using hf
     rw[if_neg hf,singleton_append,wN (m:=.need k) True.intro,hl,hf'];by_cases hg:gE rows n zs k=none
     ·left
      refine⟨by rw[hg];rfl,?_⟩
      have e:stF (.need k) (esG rows.length (gF rows n zs k)) l=(some (("lacking" : Str),k),esG rows.length (gF rows n zs k),l):=if_pos (by rw[hno,hg];rfl)
      rw[e]
     ·right
      have hn:(gE rows n zs k).isNone=false:=by cases h:gE rows n zs k with|none=>exact absurd h hg|some e=>rfl
      refine⟨by rw[hn];rfl,?_⟩
      have e:stF (.need k) (esG rows.length (gF rows n zs k)) l=(none,esG rows.length (gF rows n zs k),l):=if_neg (by rw[hno,hn];decide)
      rw[e];show yK _ zs D _ us l=_
      congr 1
      refine yI fun i _=>?_;rw[gk i,if_neg (fun h=>hg h.2)]
   ·rw[if_neg ht,nil_append]
    right;refine⟨?_,?_⟩
    ·cases hl:yc r k n (kvP (fpZ zs)) with
     | false=>rfl
     | true=>exact absurd (zhY V1 hr hl) ht
    ·congr 1
     refine yI fun i _=>?_;rw[gk i];by_cases hc:i=k/\gE rows n zs k=none
     ·rw[if_pos hc]
      unfold gF;rw[hc.1,hc.2,hr];exact(if_neg (fun h=>ht h.2)).symm
     ·rw[if_neg hc]
  refine⟨fun hall=>?_,fun j r' hj hr' hl hbefore=>?_⟩
  ·rcases step with ⟨h1,_⟩|⟨_,h2⟩
   ·rw[hall k r (le_refl _) hr] at h1;cases h1
   ·rw[h2]
    exact ihA fun j r' hj=>hall j r' (by omega)
  ·rcases step with ⟨h1,h2⟩|⟨h1,h2⟩
   ·by_cases hjk:j=k
    ·subst hjk;exact h2
    ·have:=hbefore k r (le_refl _) (by omega) hr
     rw[h1] at this;cases this
   ·by_cases hjk:j=k
    ·subst hjk
     rw[hr] at hr';cases hr';rw[h1] at hl;cases hl
    ·rw[h2]
     exact ihB j r' (by omega) hr' hl fun i r'' hi=>hbefore i r'' (by omega)
theorem zd2(zs:List Str):zs.zipIdx=(List.range zs.length).map fun j=>(zs.getD j "",j):=by
 refine ext_getElem? fun i=>?_;rw[getElem?_zipIdx,getElem?_map];by_cases h:i<zs.length
 ·rw[getElem?_eq_getElem h,getElem?_range h]
  show some (zs[i],0+i)=some (zs.getD i "",i);rw[uL (getElem?_eq_getElem h),Nat.zero_add]
 ·rw[getElem?_eq_none (by omega),getElem?_eq_none (by rw[length_range];omega)];rfl
theorem zjV(V1:yN rows bars) (nd:zs.Nodup):gkL rows zs zs.length=vC rows (fpZ zs):=by
 unfold gkL vC;rw[zad nd,zd2,List.filter_map,map_map];rw[show((fun p:Str×Nat=>p.2) ∘ fun j=>(zs.getD j "",j))=id from rfl,List.map_id];refine List.filter_congr fun j _=>?_;show decide (zs.getD j ""∉nms rows)=vd rows (zs.getD j "",j);rw[Bool.eq_iff_iff,decide_eq_true_eq,zgs V1]
theorem zjW(V1:yN rows bars) (nd:zs.Nodup) (hall:∀j r,rows[j]?=some r->yc r j n (kvP (fpZ zs))=false):∀i,i<rows.length->gF rows n zs rows.length i=some (enF rows n zs i):=fun i hi=>by
 have hr:rows[i]?=some rows[i]:=getElem?_eq_getElem hi;generalize rows[i]=r at hr;have rk:=V1.ok r (mem_of_getElem? hr);have hp:=zbu V1.ok V1.ord hr;by_cases h2:r.k=2
 ·have hf:=vJ (.inl rfl) rows 0 0 i V1.ord hr h2
  rw[Nat.zero_add] at hf;rw[zh8 V1 hr h2];unfold gF gE gT;rw[if_pos hf]
 ·by_cases h4:r.k=4
  ·have hf:=vJ (.inr rfl) rows 0 0 i V1.ord hr h4
   rw[Nat.zero_add] at hf;rw[zj0 V1 hr h4,<- zjV V1 nd];rw[h4] at hp;have hnp:¬i<plN rows:=of_decide_eq_false hp.symm;unfold gF gE gT gP;rw[if_neg (xA hr h2),if_neg (fun h=>hnp h.1)];show(match (if zm 4 0 rows=some i then some (.many "names" (gkL rows zs zs.length)) else gR rows zs zs.length i:Option En) with|some e=>some e|none=>_)=_
   rw[if_pos hf]
  ·rw[zgK hr h2 h4]
   unfold gF;rw[zgC V1 hr h2 h4];by_cases c1:xl r.k=true/\i<n
   ·rw[if_pos c1,if_pos c1]
   ·rw[if_neg c1,if_neg c1]
    by_cases c2:zR r.k=true/\r.z∈zs
    ·rw[if_pos c2,if_pos c2]
    ·rw[if_neg c2,if_neg c2,hr]
     exact if_pos ⟨hi,(ziP rk.1).mpr ⟨h2,h4⟩⟩
theorem zeZ(nd:zs.Nodup) {j:Nat}{z wd:Str}(hz:zs[j]?=some z) (hw:yu rows bars n z=some wd) (hb:∀i y,i<j->zs[i]?=some y->yu rows bars n y=none):∃t,ub rows bars n (fpZ zs)=(wd,j)::t:=by
 unfold ub;rw[zad nd];have hj:=(List.getElem?_eq_some_iff.mp hz).1;have hzz:zs.zipIdx[j]?=some (z,j):=by rw[getElem?_zipIdx,hz];simp
 have hl:j<zs.zipIdx.length:=(List.getElem?_eq_some_iff.mp hzz).1;rw[<- take_append_drop j zs.zipIdx,drop_eq_getElem_cons hl,(List.getElem?_eq_some_iff.mp hzz).2,List.filterMap_append];have h0:(zs.zipIdx.take j).filterMap (fun p=>(yu rows bars n p.1).map fun wd=>(wd,p.2))=[]:=by
  rw[List.filterMap_eq_nil_iff];intro p hp;obtain⟨i,hi,e⟩:=List.mem_iff_getElem.mp hp;rw[length_take] at hi;rw[getElem_take] at e;have hzi:zs[i]?=some p.1:=by
   have:zs.zipIdx[i]?=some p:=by rw[getElem?_eq_getElem (by omega),e]
   rw[getElem?_zipIdx] at this;cases h:zs[i]? with
   | none=>rw[h] at this;cases this
   | some y=>
    rw[h] at this
    have:=Option.some.inj this
    rw[<- this]
  rw[hb i p.1 (by omega) hzi];rfl
 rw[h0,nil_append,filterMap_cons];rw[show yu rows bars n (z,j).1=some wd from hw];exact⟨_,rfl⟩
theorem qZ{fk:List (Key×V)}:∀(rows:List Rw) (i j:Nat) {r:Rw},rows[j]?=some r->yc r (i+j) n fk=true->(∀a r',a<j->rows[a]?=some r'->yc r' (i+a) n fk=false)->∃t,wf n fk i rows=(("lacking" : Str),i+j)::t
 | [],_,_,_,h,_,_=>by simp at h
 | y::ys,i,j,r,hj,hl,hb=>by
  show ∃t,(if yc y i n fk=true then [(("lacking" : Str),i)] else [])++wf n fk (i+1) ys=_
  cases j with
  | zero=>
   have:y=r:=by simpa using hj
   subst this;rw[add_zero] at hl;rw[if_pos hl];exact⟨_,rfl⟩
  | succ j=>
   have h0:=hb 0 y (by omega) rfl
   rw[add_zero] at h0;rw[h0,if_neg Bool.false_ne_true,nil_append];obtain⟨t,ht⟩:=qZ ys (i+1) j (by simpa using hj) (by rw[show i+1+j=i+(j+1) by omega];exact hl) (fun a r' ha hr'=>by
    have:=hb (a+1) r' (by omega) (by simpa using hr')
    rw[show i+1+a=i+(a+1) by omega];exact this)
   exact⟨t,by rw[ht,show i+1+j=i+(j+1) by omega]⟩
theorem zcG(V1:yN rows bars) (nd:zs.Nodup):zhn rows.length (wD rows bars) n zs=match wQ rows bars n zs with
  | []=>.inr ((List.range rows.length).map fun i=>some (enF rows n zs i))
  | m::_=>.inl m:=by
 have hpl:plN rows<=rows.length:=length_filter_le _ _;have e0:List.replicate rows.length (none:Option En)=esG rows.length (gP n 0):=by
  unfold esG;refine ext_getElem? fun i=>?_;rw[getElem?_map];by_cases h:i<rows.length
  ·rw[getElem?_range h,List.getElem?_replicate_of_lt h]
   show some none=some (gP n 0 i);unfold gP;rw[if_neg (by omega)]
  ·rw[getElem?_eq_none (by rw[List.length_replicate];omega),getElem?_eq_none (by rw[length_range];omega)];rfl
 unfold zhn wD wa;rw[e0,List.range_eq_range',append_assoc,append_assoc,append_assoc,append_assoc];have h1:=jP (zs:=zs) (d:=[]) (us:=[]) (n:=n) hpl ([jm rows]++(bars.map Mv.bar++(wj rows++([.names (zm 4 0 rows)]++vo rows)))) (plN rows) 0 (by omega)
 rw[show min 0 n=0 by omega,drop_zero] at h1
 rw[h1,zh9,singleton_append];have hmiss:wQ rows bars n zs=wA rows n++(ub rows bars n (fpZ zs)++wf n (kvP (fpZ zs)) 0 rows):=by
  unfold wQ;rw[zdY.mpr nd,nil_append,append_assoc]
 have tail:∀l,yK (jm rows::(bars.map Mv.bar++(wj rows++([.names (zm 4 0 rows)]++vo rows)))) zs [] (esG rows.length (gP n (plN rows))) [] (plL rows n)=.inl l\/True:=fun _=>.inr trivial;clear tail;have wv:∀l,yK (bars.map Mv.bar++(wj rows++([.names (zm 4 0 rows)]++vo rows))) zs [] (esG rows.length (gT rows n)) [] l=match ub rows bars n (fpZ zs)++wf n (kvP (fpZ zs)) 0 rows with
  | []=>.inr ((List.range rows.length).map fun i=>some (enF rows n zs i))
  | m::_=>.inl m:=fun l=>by
  obtain⟨D,hD,hrun⟩:=zfE V1 (zs:=zs) (es:=esG rows.length (gT rows n)) (us:=[]) (l:=l) ([.names (zm 4 0 rows)]++vo rows);rw[hrun,singleton_append];show(match xm D (zm 4 0 rows) zs (esG rows.length (gT rows n)) [] with|(some r,_,_)=>Sum.inl r|(none,es',us')=>yK (vo rows) zs D es' us' l)=_
  by_cases hall:∀z∈zs,yu rows bars n z=none
  ·rw[zka V1 nd hD hall,zg3.mpr hall,nil_append]
   show yK (vo rows) zs D (esG rows.length (gE rows n zs)) (List.range zs.length) l=_;have eg:esG rows.length (gE rows n zs)=esG rows.length (gF rows n zs 0):=yI fun i _=>by
    unfold gF;cases gE rows n zs i with
    | some e=>rfl
    | none=>
     cases rows[i]? with
     | none=>rfl
     | some r=>exact(if_neg (by omega)).symm
   rw[eg,show vo rows=xu rows 0 from rfl];obtain⟨hA,hB⟩:=qO (D:=D) (n:=n) (zs:=zs) V1 (us:=List.range zs.length) (l:=l) rows.length 0 (by omega)
   by_cases hlk:∀j r,rows[j]?=some r->yc r j n (kvP (fpZ zs))=false
   ·rw[hA (fun j r _=>hlk j r),(zaa rows 0).mpr (fun j r hj=>by rw[Nat.zero_add];exact hlk j r hj)]
    show Sum.inr _=Sum.inr _
    congr 1
    exact yI fun i hi=>zjW V1 nd hlk i hi
   ·have:∃j,∃r,rows[j]?=some r/\yc r j n (kvP (fpZ zs))=true:=by
     refine Classical.byContradiction fun hc=>hlk fun j r hj=>?_;cases h:yc r j n (kvP (fpZ zs)) with
     | false=>rfl
     | true=>exact absurd ⟨j,r,hj,h⟩ hc
    obtain⟨j0,hj0⟩:=this;obtain⟨j,⟨r,hr,hl⟩,_,hmin⟩:=ziH (P:=fun j=>∃r,rows[j]?=some r/\yc r j n (kvP (fpZ zs))=true) j0 hj0;have hbef:∀i r',i<j->rows[i]?=some r'->yc r' i n (kvP (fpZ zs))=false:=fun i r' hi hr'=>by
     cases h:yc r' i n (kvP (fpZ zs)) with
     | false=>rfl
     | true=>exact absurd ⟨r',hr',h⟩ (hmin i hi)
    rw[hB j r (zero_le _) hr hl (fun i r' _ hi hr'=>hbef i r' hi hr')];obtain⟨t,ht⟩:=qZ (n:=n) (fk:=kvP (fpZ zs)) rows 0 j hr (by rw[Nat.zero_add];exact hl) (fun a r' ha hr'=>by rw[Nat.zero_add];exact hbef a r' ha hr')
    rw[ht,Nat.zero_add]
  ·have:∃j:Nat,∃z wd,zs[j]?=some z/\yu rows bars n z=some wd:=by
    refine Classical.byContradiction fun hc=>hall fun z hz=>?_;obtain⟨j,hj⟩:=List.mem_iff_getElem?.mp hz;cases h:yu rows bars n z with
    | none=>rfl
    | some wd=>exact absurd ⟨j,z,wd,hj,h⟩ hc
   obtain⟨j0,hj0⟩:=this;obtain⟨j,⟨z,wd,hz,hw⟩,_,hmin⟩:=ziH (P:=fun j=>∃z wd,zs[j]?=some z/\yu rows bars n z=some wd) j0 hj0;have hbef:∀i y,i<j->zs[i]?=some y->yu rows bars n y=none:=fun i y hi hy=>by
    cases h:yu rows bars n y with
    | none=>rfl
    | some wd'=>exact absurd ⟨y,wd',hy,h⟩ (hmin i hi)
   have hb:=ziQ V1 nd hD hz hw hbef;generalize xm D (zm 4 0 rows) zs (esG rows.length (gT rows n)) []=T at hb;obtain⟨o,es,us⟩:=T;have hb:o=some (wd,j):=hb;subst hb;obtain⟨t,ht⟩:=zeZ nd hz hw hbef;rw[ht];rfl
 rw[hmiss];cases hT:zm 2 0 rows with
 | some t=>
  have ht:wA rows n=[]:=zbA.mpr (.inl (by rw[hT];rfl))
  rw[ht,nil_append,<- wv []];have hem:jm rows=.gather t:=by unfold jm;rw[hT]
  obtain⟨m,r,e1,hr,hk2⟩:=xj rows 0 t hT;rw[Nat.zero_add] at e1;subst e1;have htl:=(List.getElem?_eq_some_iff.mp hr).1;have hp:=zbu V1.ok V1.ord hr;rw[hk2] at hp;have hnp:¬t<plN rows:=of_decide_eq_false hp.symm;rw[hem,wN (m:=.gather t) True.intro];have e:stF (.gather t) (esG rows.length (gP n (plN rows))) (plL rows n)=(none,(esG rows.length (gP n (plN rows))).set t (some (.many "places" (plL rows n))),[]):=if_pos (by
   rw[uq htl];unfold gP;rw[if_neg (fun h=>hnp h.1)];rfl)
  rw[e,vV];show yK _ zs [] _ [] []=yK _ zs [] _ [] []
  congr 1
  refine yI fun i _=>?_;unfold gT;rw[hT];by_cases hi:i=t
  ·subst hi;rw[if_pos rfl,if_pos rfl]
  ·rw[if_neg hi,if_neg (fun h=>hi (Option.some.inj h).symm)]
 | none=>
  have hem:jm rows=.fin:=by unfold jm;rw[hT]
  rw[hem,wN (m:=.fin) True.intro];by_cases hn:n<=plN rows
  ·have el:plL rows n=[]:=by unfold plL;rw[show n - plN rows=0 by omega];rfl
   rw[zbA.mpr (.inr hn),nil_append,el,<- wv []];show yK _ zs [] _ [] []=yK _ zs [] _ [] []
   congr 1
   refine yI fun i _=>?_;unfold gT;rw[hT,if_neg (by intro h;cases h)]
  ·have el:plL rows n=plN rows::(List.range' 1 (n - plN rows - 1)).map fun i=>plN rows+i:=by
    unfold plL;rw[List.range_eq_range',show n - plN rows=(n - plN rows - 1)+1 by omega,range'_succ,map_cons];rfl
   have eo:∃t,wA rows n=(("over" : Str),plN rows)::t:=by
    unfold wA;rw[hT,if_neg (by decide),List.range_eq_range',show n - plN rows=(n - plN rows - 1)+1 by omega,range'_succ,map_cons]
    exact⟨_,rfl⟩
   obtain⟨t,ht⟩:=eo;rw[el,ht];rfl
theorem zgO{j:Nat}{z:Str}(hz:zs[j]?=some z) (hd:z∈zs.take j) (hb:NoD zs j):∃t,wQ rows bars n zs=(("doubled" : Str),j)::t:=by
 have key:∀(ys:List Str) (i j:Nat) {z:Str},ys[j]?=some z->zF (kvP (fpZ zs)) (.inr z)≠some (.int ((i+j:Nat):Int))->(∀a y,a<j->ys[a]?=some y->zF (kvP (fpZ zs)) (.inr y)=some (.int ((i+a:Nat):Int)))->∃t,uP (kvP (fpZ zs)) i ys=(("doubled" : Str),i+j)::t:=by
  intro ys;induction ys with
  | nil=>intro i j z h;simp at h
  | cons y ys ih=>
   intro i j z hj hne hbef;show ∃t,(if zF (kvP (fpZ zs)) (.inr y)=some (.int (i:Nat)) then [] else [(("doubled" : Str),i)])++uP (kvP (fpZ zs)) (i+1) ys=_
   cases j with
   | zero=>
    have:y=z:=by simpa using hj
    subst this;rw[add_zero] at hne;rw[if_neg hne];exact⟨_,rfl⟩
   | succ j=>
    have h0:=hbef 0 y (by omega) rfl
    rw[add_zero] at h0;rw[if_pos h0,nil_append];obtain⟨t,ht⟩:=ih (i+1) j (by simpa using hj) (by rw[show i+1+j=i+(j+1) by omega];exact hne) (fun a y' ha hy'=>by
     have:=hbef (a+1) y' (by omega) (by simpa using hy')
     rw[show i+1+a=i+(a+1) by omega];exact this)
    exact⟨t,by rw[ht,show i+1+j=i+(j+1) by omega]⟩
 have hne:zF (kvP (fpZ zs)) (.inr z)≠some (.int ((0+j:Nat):Int)):=fun e=>by
  rw[Nat.zero_add] at e
  have:=za2 hz
  rw[decide_eq_true e,fpT,decide_eq_true hd] at this;cases this
 obtain⟨t,ht⟩:=key zs 0 j hz hne (fun a y ha hy=>by
  have:=za2 hy
  rw[fpT,decide_eq_false (hb a y ha hy)] at this;rw[Nat.zero_add];exact of_decide_eq_true this)
 unfold wQ;rw[ht,Nat.zero_add];exact⟨_,rfl⟩
theorem qW(h:NoD zs zs.length):zs.Nodup:=by
 rw[List.nodup_iff_pairwise_ne,List.pairwise_iff_getElem];intro i j hi hj hij e;refine h j zs[j] hj (getElem?_eq_getElem hj) ?_;rw[<- e,List.mem_iff_getElem];exact⟨i,by rw[length_take];omega,by rw[getElem_take]⟩
end
def jE:Sp:=fun vs H Q _=>∃i:Int,vs=[.int i]/\Q (.bl true) H
def zbh(K:Frag):Sp:=fun vs H Q _=>∃(u:Addr) (n:Nat) (m:Mv),vs=[.ref u,.int (n:Nat)]/\zdk K H u m/\zdj n m/\∀H',zo H H'->Q (.bl true) H'
def ziv(K:Frag):Sp:=fun vs H Q _=>∃(p l t la lb:Addr) (n:Nat) (xs ya yb:List V) (ms:List Mv),vs=[.ref p,.ref t]/\H p=some (.tup [.int (n:Nat),.ref l])/\H l=some (.lst xs)/\Paired (MvX K H) xs ms/\(∀m∈ms,zdj n m)/\H t=some (.tup [.ref la,.ref lb])/\H la=some (.lst ya)/\H lb=some (.lst yb)/\ya.length=n/\ms.length<=3 * n+yb.length+2/\n<=100/\yb.length<=100/\∀H',zo H H'->Q (.bl true) H'
def zkI:Mv->Option (Str×Nat)
 | .take q=>some ("take",q)|.gather q=>some ("gather",q)|.names (some q)=>some ("names",q)|.need q=>some ("need",q)|.free q=>some ("free",q)
 | _=>none
theorem zjw{m:Mv}{wd:Str}{q n:Nat}(h:zkI m=some (wd,q)) (ho:zdj n m):mvV m=[.str wd,.int (q:Nat)]/\q<n/\inV (.str wd) [.str "take",.str "gather",.str "names",.str "need",.str "free"]=true/\wd≠"bar"/\wd≠"door":=by
 cases m with
 | take p=>cases h;exact⟨rfl,ho,by decide +kernel,by decide +kernel,by decide +kernel⟩
 | gather p=>cases h;exact⟨rfl,ho,by decide +kernel,by decide +kernel,by decide +kernel⟩
 | fin=>cases h
 | door z p=>cases h
 | bar z=>cases h
 | names o=>
  cases o with
  | none=>cases h
  | some p=>cases h;exact⟨rfl,ho,by decide +kernel,by decide +kernel,by decide +kernel⟩
 | need p=>cases h;exact⟨rfl,ho,by decide +kernel,by decide +kernel,by decide +kernel⟩
 | free p=>cases h;exact⟨rfl,ho,by decide +kernel,by decide +kernel,by decide +kernel⟩
section
variable {P:Program}{w:World}{K:Frag}{mg:Str->Option Value}{base:Heap}{f CF:Addr}{fd:FuncData}{c:C5}
theorem zga(F:Fun K "_law_is_int" "_law_is_int" zcz f fd) (T:zgY K mg):zD P w K mg base CX0 1 f fd ["_law_found"] jE:=by
 refine F.ok zhg (fun vs H Q E h=>?_) (fun cdv A outer s H vs Q E hr h=>?_)
 ·obtain⟨i,rfl,_⟩:=h
  rfl
 obtain⟨i,rfl,q⟩:=h;refine⟨_,ze (zq (zaS (zjs (cB xB T.isi boot_isinstance (ac (pv 0) (ac (wz (v:=.ty "bool") rfl T.bool PyProof.Rows.boot_bool rfl) zc)))) (zaP (cB xB T.isi boot_isinstance (ac (pv 0) (ac (wz (v:=.ty "int") rfl T.int PyProof.Rows.boot_int rfl) zc)))))),?_⟩;refine⟨_,rfl,_,_,_,_,rfl,.int i,zbR K,_,rfl,_,rfl,?_⟩;refine yY ?_;exact⟨_,rfl,_,_,_,_,rfl,.int i,zc2 K,q⟩
theorem zfl:zr ["_law_move","_law_many"] ["_law_move","_law_many"] (zi zaK):=⟨rfl,rfl,rfl,by decide +kernel,rfl,by decide +kernel,by decide +kernel⟩
theorem zeq{g1:Addr}{d1:FuncData}(F:Fun K "_law_is_move" "_law_is_move" zaK f fd) (U:jb mg) (T:zgY K mg) (cI:zG P w K mg base 1 "_law_is_int" g1 d1 ["_law_found"] jE):zD P w K mg base CX0 2 f fd ["_law_move","_law_many"] (zbh K):=by
 refine F.ok zfl (fun vs H Q E h=>?_) (fun cdv A outer s H vs Q E hr h=>?_)
 ·obtain⟨u,n,m,rfl,_⟩:=h
  rfl
 obtain⟨u,n,m,rfl,hm,ho,q⟩:=h;have hU:=hr.units;refine⟨_,zf (zH (PW.pt (wc (xf (yk (cB uQ T.isi boot_isinstance (ac (pv 0) (ac (wz (v:=.ty "tuple") rfl T.tuple PyProof.Rows.boot_tuple rfl) zc))))) (xM (zk jX (cB zw U.len PySem.boot_len (ac (pv 0) zc)) zg (zt _))))) (ze (zq vn)) zv)
  (zf (zH (PW.pt (wc (zk (jZ hU) (pv 0) (zC (ac zj zc)) (zt _)) (xM (zk (jZ hU) (pv 0) (zC (ac zj zc)) (zt _))))) (ze (zq vn)) zv)
  (zf (zH (zk z7 (zB zy (pv 0) zg (fun _ _=>rfl)) zj (zt _)) (ze (zq (zaS (xb z7 (cB zw U.len PySem.boot_len (ac (pv 0) zc)) zg (zt _)) (zaP (cB xB T.isi boot_isinstance (ac (zB zy (pv 0) zg (fun _ _=>rfl)) (ac (wz (v:=.ty "str") rfl T.str PyProof.Rows.boot_str rfl) zc))))))) zv)
  (zf (zH (PW.pt (wc (xf (yk (cF cI hr (ac (zB zy (pv 0) (zbw jA zg) (fun _ _=>rfl)) zc)))) (wc (zk jX (zB zy (pv 0) (zbw jA zg) (fun _ _=>rfl)) zg (zt _)) (xM (zk ziD (zB zy (pv 0) (zbw jA zg) (fun _ _=>rfl)) (pv 1) (zt _)))))) (ze (zq vn)) zv)
  (zf (zH (zk z7 (zB zy (pv 0) zg (fun _ _=>rfl)) zj (zt _)) (ze (zq (zaS (xb z7 (cB zw U.len PySem.boot_len (ac (pv 0) zc)) zg (zt _)) (zaP (cB xB T.isi boot_isinstance (ac (zB zy (pv 0) zg (fun _ _=>rfl)) (ac (wz (v:=.ty "str") rfl T.str PyProof.Rows.boot_str rfl) zc))))))) zv)
  (ze (zq (zaS (xb z7 (cB zw U.len PySem.boot_len (ac (pv 0) zc)) zg (zt _)) (zaP (xb yh (zB zy (pv 0) zg (fun _ _=>rfl)) (zO (ac zj (ac zj (ac zj (ac zj (ac zj zc)))))) (by with_unfolding_all rfl)))))))))),?_⟩
 refine⟨_,rfl,u,_,_,_,rfl,hm,vH K,_,rfl,?_⟩;refine zK ?_;refine⟨_,rfl,u,_,rfl,.inr hm,_,_,rfl,rfl,_,rfl,?_⟩;have ge1:¬(((mvV m).length:Nat):Int)<1:=by
  have : 1<=(mvV m).length:=by
   cases m with
   | names o=>cases o <;> (show 1<=List.length _;simp only[mvV,length_cons,length_nil];omega)
   | _=>show 1<=List.length _;simp only[mvV,length_cons,length_nil];omega
  omega
 refine dF ge1 ?_;have fl:(mvV m).all xI=true:=by
  cases m with
  | names o=>cases o <;> rfl
  | _=>rfl
 refine⟨_,rfl,zz1,fun t1 ht1=>?_⟩;have s1:=zb ht1 (.tup [.str "end"]);refine⟨u,t1,_,_,rfl,rfl,s1.sqT hm,SqT.of za,fl,rfl,_,rfl,?_⟩;have hm1:=s1.sqT hm;generalize upd H t1 (.tup [.str "end"])=H1 at s1 hm1 |-;by_cases hf:m=.fin
 ·subst hf
  rw[show L2.eqT (mvV .fin) [.str "end"]=true by decide +kernel]
  refine yY ?_;exact q _ s1
 have e1:L2.eqT (mvV m) [.str "end"]=false:=by
  cases m with
  | fin=>exact absurd rfl hf
  | names o=>cases o <;> (first|rfl|decide +kernel)
  | _=>first|rfl|(unfold L2.eqT mvV;simp)
 rw[e1];refine zK ?_;refine⟨_,rfl,zz1,fun t2 ht2=>?_⟩;have s2:=zb ht2 (.tup [.str "names"]);refine⟨u,t2,_,_,rfl,rfl,s2.sqT hm1,SqT.of za,fl,rfl,_,rfl,?_⟩;have hm2:=s2.sqT hm1;have s02:=s1.trans s2;generalize upd H1 t2 (.tup [.str "names"])=H2 at s2 hm2 s02 |-;by_cases hn:m=.names none
 ·subst hn
  rw[show L2.eqT (mvV (.names none)) [.str "names"]=true by decide +kernel]
  refine yY ?_;exact q _ s02
 have e2:L2.eqT (mvV m) [.str "names"]=false:=by
  cases m with
  | fin=>exact absurd rfl hf
  | names o=>
   cases o with
   | none=>exact absurd rfl hn
   | some b=>unfold L2.eqT mvV;simp
  | _=>first|rfl|(unfold L2.eqT mvV;simp)
 rw[e2];refine zK ?_;refine⟨_,rfl,u,_,0,_,rfl,rfl,hm2,zhW m,rfl,_,rfl,?_⟩;cases hone:zkI m with
 | some pq=>
  obtain⟨wd,p⟩:=pq;obtain⟨ev,hp,hin,nb,nd⟩:=zjw hone ho;have ew:mvW m=wd:=by
   have:=zhW m
   rw[ev] at this;exact(V.str.inj (Option.some.inj this)).symm
  rw[ew];refine dF (y9 nb) ?_;rw[ev] at hm2;refine⟨_,rfl,_,rfl,u,_,_,_,rfl,rfl,hm2,rfl,_,rfl,_,rfl,?_⟩;refine zK ?_;refine⟨_,rfl,_,rfl,u,_,_,_,rfl,rfl,hm2,rfl,_,_,rfl,rfl,_,rfl,?_⟩;refine dF (by omega) ?_
  refine⟨_,rfl,_,rfl,u,_,_,_,rfl,rfl,hm2,rfl,_,rfl,_,_,rfl,rfl,_,rfl,?_⟩;refine dF (by omega) ?_
  refine⟨_,rfl,u,_,0,_,rfl,rfl,hm2,rfl,rfl,_,rfl,?_⟩;refine dF (y9 nd) ?_;refine⟨_,rfl,u,_,rfl,.inr hm2,rfl,_,rfl,?_⟩;refine yY ?_;refine⟨_,rfl,u,_,0,_,rfl,rfl,hm2,rfl,(by show 5<=sizeLine;decide),fun l hl=>?_⟩
  have s3:=zb hl (.lst [.str "take",.str "gather",.str "names",.str "need",.str "free"]);refine⟨l,_,rfl,.inl (SqL.of za),rfl,rfl,?_⟩;rw[hin];exact q _ (s02.trans s3)
 | none=>
  cases m with
  | take q=>cases hone
  | gather q=>cases hone
  | need q=>cases hone
  | free q=>cases hone
  | fin=>exact absurd rfl hf
  | names o=>
   cases o with
   | none=>exact absurd rfl hn
   | some b=>cases hone
  | bar z=>
   refine dT rfl ?_;refine⟨_,rfl,u,_,rfl,.inr hm2,rfl,_,rfl,?_⟩;refine yY ?_;exact⟨_,rfl,u,_,1,_,rfl,rfl,hm2,rfl,_,_,_,_,rfl,.str z,ul K,q _ s02⟩
  | door z p=>
   refine dF (y9 (by show("door" : Str)≠"bar";decide +kernel)) ?_
   have hp:p<n:=ho;refine⟨_,rfl,_,rfl,u,_,_,_,rfl,rfl,hm2,rfl,_,rfl,_,rfl,?_⟩;refine zK ?_;refine⟨_,rfl,_,rfl,u,_,_,_,rfl,rfl,hm2,rfl,_,_,rfl,rfl,_,rfl,?_⟩;refine dF (by omega) ?_
   refine⟨_,rfl,_,rfl,u,_,_,_,rfl,rfl,hm2,rfl,_,rfl,_,_,rfl,rfl,_,rfl,?_⟩;refine dF (by omega) ?_
   refine⟨_,rfl,u,_,0,_,rfl,rfl,hm2,rfl,rfl,_,rfl,?_⟩;refine dT rfl ?_;refine⟨_,rfl,u,_,rfl,.inr hm2,rfl,_,rfl,?_⟩;refine yY ?_;exact⟨_,rfl,u,_,1,_,rfl,rfl,hm2,rfl,_,_,_,_,rfl,.str z,ul K,q _ s02⟩
theorem zlM:([Str.ofString "_law_move",Str.ofString "_law_found"]:List Str).Nodup:=by decide +kernel
theorem zhf:zr ["_law_found","_law_told_here"] ["_law_found","_law_told_here"] (zi zcw):=⟨rfl,rfl,rfl,by decide +kernel,rfl,by decide +kernel,by decide +kernel⟩
theorem zf8{g1 g2:Addr}{d1 d2:FuncData}(F:Fun K "_law_told" "_law_told" zcw f fd) (U:jb mg) (T:zgY K mg) (cI:zG P w K mg base 1 "_law_is_int" g1 d1 ["_law_found"] jE) (cM:zG P w K mg base 2 "_law_is_move" g2 d2 ["_law_move","_law_many"] (zbh K)):zD P w K mg base CX0 3 f fd ["_law_found","_law_told_here"] (ziv K):=by
 refine F.ok zhf (fun vs H Q E h=>?_) (fun cdv A outer s H vs Q E hr h=>?_)
 ·obtain⟨p,l,t,la,lb,n,xs,ya,yb,ms,rfl,_⟩:=h
  rfl
 obtain⟨p,l,t,la,lb,n,xs,ya,yb,ms,rfl,hp,hl,hx,ho,ht,hla,hlb,ln,lm,n100,b100,q⟩:=h;have hU:=hr.units;have hr1:yo 1 _:=hr.mono (by decide)
 have lx:=hx.length;refine⟨_,zf (zH (PW.pt (wc (xf (yk (cB uQ T.isi boot_isinstance (ac (pv 0) (ac (wz (v:=.ty "tuple") rfl T.tuple PyProof.Rows.boot_tuple rfl) zc))))) (wc (zk zbD (cB zw U.len PySem.boot_len (ac (pv 0) zc)) zg (zt _)) (wc (xf (yk (cF cI hr1 (ac (zB zy (pv 0) zg (fun _ _=>rfl)) zc)))) (xM (zk zbD (zB zy (pv 0) zg (fun _ _=>rfl)) (cB zw U.len PySem.boot_len (ac (zB zy (pv 1) zg (fun _ _=>rfl)) zc)) (zt _))))))) (ze (zq vn)) zv)
  (zf (zH (PW.pt (wc (xf (yk (cB xB T.isi boot_isinstance (ac (zB zy (pv 0) zg (fun _ _=>rfl)) (ac (wz (v:=.ty "list") rfl T.list PyProof.Rows.boot_list rfl) zc))))) (xM (zk qT (cB zw U.len PySem.boot_len (ac (zB zy (pv 0) zg (fun _ _=>rfl)) zc)) (zx yz (zx yz (zx ue zg (cB zw U.len PySem.boot_len (ac (zB zy (pv 1) zg (fun _ _=>rfl)) zc))) (cB zw U.len PySem.boot_len (ac (zB zy (pv 1) zg (fun _ _=>rfl)) zc))) zg) (zt _))))) (ze (zq vn)) zv)
  (ze (zq (xb (zbE hU) (xn ["_law_found"] ["_law_move","_law_found"] [none,some 0] rfl ⟨rfl,rfl,rfl,rfl⟩ (yE (zB zy (pv 0) zg (fun _ _=>rfl))) (zY 0) rfl rfl rfl
    (fun pins fp s H C=>⟨zl (i:=0) zlM rfl (Or.inl rfl) (.inr rfl),yX (xf (yk (cF cM hr (ac (pv 0) (ac (zB (r:=qu K) zy (pv 1) zg (fun _ _=>rfl)) zc))))),pv 0⟩)) (zO zc) (zt _))))),?_⟩
 have hpT:=SqT.of (K:=K) hp;have htT:=SqT.of (K:=K) ht;refine⟨_,rfl,p,_,_,_,rfl,hpT,vH K,_,rfl,?_⟩;refine zK ?_;refine⟨_,rfl,p,_,rfl,.inr hpT,rfl,_,rfl,?_⟩;refine zK ?_;refine⟨_,rfl,p,_,_,_,rfl,rfl,hpT,rfl,_,rfl,_,rfl,?_⟩;refine zK ?_;refine⟨_,rfl,p,_,_,_,rfl,rfl,hpT,rfl,_,rfl,t,_,_,_,rfl,rfl,htT,rfl,la,_,rfl,.inl (SqL.of hla),rfl,_,rfl,?_⟩;refine vf (by rw[ln,decide_eq_true rfl];rfl) ?_
 refine⟨_,rfl,p,_,_,_,rfl,rfl,hpT,rfl,_,_,_,_,rfl,.lst hl,zaV K,_,rfl,?_⟩;refine zK ?_;refine⟨_,rfl,p,_,_,_,rfl,rfl,hpT,rfl,l,_,rfl,.inl (SqL.of hl),_,rfl,t,_,_,_,rfl,rfl,htT,rfl,la,_,rfl,.inl (SqL.of hla),_,_,rfl,rfl,.inl ⟨by decide,by decide⟩,_,rfl,t,_,_,_,rfl,rfl,htT,rfl,lb,_,rfl,.inl (SqL.of hlb),_,_,rfl,rfl,_,_,rfl,rfl,_,_,rfl,rfl,_,rfl,?_⟩
 refine dF (by rw[ln];omega) ?_
 refine⟨_,rfl,p,_,_,_,rfl,rfl,hpT,rfl,l,rfl,⟨_,SqL.of hl⟩,fun D hD=>?_⟩;refine zcY (K:=K) (xs:=xs) ms (fun _=>false) (fun _=>V.non) hD (SqL.of hl) lx (by omega) (fun j x y H' Nn S hx' hy sH nn1 ss1=>?_) (fun H2 s2 hD2=>?_)
 ·obtain⟨y',hy',u,rfl,hu⟩:=Paired.get hx hx'
  rw[hy] at hy';cases hy';refine⟨_,rfl,_,rfl,p,_,_,_,rfl,rfl,sH.sqT hpT,rfl,u,n,y,rfl,sH.sqT hu,ho y (mem_of_getElem? hy),fun H3 s3=>⟨_,rfl,?_⟩⟩;exact⟨fun e=>Bool.noConfusion e,fun _=>ss1 _ s3 rfl⟩
 rw[List.filter_eq_nil_iff.mpr (fun _ _=>by decide)] at hD2
 refine⟨zz0,fun l0 hl0=>?_⟩;have s3:=zb hl0 (.lst []);have g3:upd H2 l0 (.lst []) l0=some (.lst []):=za;show zjn false _ _ (upd H2 l0 (.lst [])) _;generalize upd H2 l0 (.lst [])=H3 at s3 g3 |-;exact⟨D,l0,_,rfl,rfl,s3 _ _ hD2,g3,q _ (s2.trans s3)⟩
end
theorem uo{kk:Nat}:∀{rows:List Rw}{i b:Nat},zm kk i rows=some b->b<i+rows.length
 | [],_,_,h=>by cases h
 | r::rs,i,b,h=>by
  unfold zm at h;split at h
  ·cases h;rw[length_cons];omega
  ·have:=uo h;rw[length_cons];omega
theorem qm{rows:List Rw}{bars:List Str}:∀m∈wD rows bars,zdj rows.length m:=by
 intro m hm;have hpl:plN rows<=rows.length:=length_filter_le _ _;unfold wD wa wj vo at hm;rcases List.mem_append.mp hm with hm|hm
 ·rcases List.mem_append.mp hm with hm|hm
  ·rcases List.mem_append.mp hm with hm|hm
   ·rcases List.mem_append.mp hm with hm|hm
    ·rcases List.mem_append.mp hm with hm|hm
     ·obtain⟨q,hq,rfl⟩:=List.mem_map.mp hm
      have:=List.mem_range.mp hq
      exact lt_of_lt_of_le this hpl
     ·rw[List.mem_singleton.mp hm]
      unfold jm;split
      ·exact True.intro
      ·rename_i q hq
       have:=uo hq
       rw[Nat.zero_add] at this;exact this
    ·obtain⟨z,_,rfl⟩:=List.mem_map.mp hm
     exact True.intro
   ·obtain⟨y,hy,rfl⟩:=List.mem_map.mp hm
    have:=List.snd_lt_of_mem_zipIdx (List.mem_filter.mp hy).1
    exact this
  ·rw[List.mem_singleton.mp hm]
   cases hq:zm 4 0 rows with
   | none=>exact True.intro
   | some q=>
    have:=uo hq
    rw[Nat.zero_add] at this;exact this
 ·obtain⟨y,hy,rfl⟩:=List.mem_map.mp hm
  have:=List.snd_lt_of_mem_zipIdx (List.mem_filter.mp hy).1
  show zdj rows.length (if _ then _ else _)
  split
  ·exact this
  ·exact this
theorem zam{rows:List Rw}{bars:List Str}:(wD rows bars).length<=3 * rows.length+bars.length+2:=by
 have hpl:plN rows<=rows.length:=length_filter_le _ _;have h1:(wj rows).length<=rows.length:=by
  unfold wj;rw[length_map];exact le_trans (length_filter_le _ _) (by rw[length_zipIdx];exact le_refl _)
 have h2:(vo rows).length<=rows.length:=by
  unfold vo;rw[length_map];exact le_trans (length_filter_le _ _) (by rw[length_zipIdx];exact le_refl _)
 unfold wD wa;rw[length_append,length_append,length_append,length_append,length_append,length_map,length_map,length_range,length_singleton,length_singleton];omega
theorem zgS{rows:List Rw}{bars:List Str}:((wD rows bars).filter uJ).length<=8:=by
 unfold wD wa wj vo;rw[filter_append,filter_append,filter_append,filter_append,filter_append];have e1:((List.range (plN rows)).map Mv.take).filter uJ=[]:=List.filter_eq_nil_iff.mpr fun m hm=>by
  obtain⟨_,_,rfl⟩:=List.mem_map.mp hm;exact Bool.false_ne_true
 have e2:(bars.map Mv.bar).filter uJ=[]:=List.filter_eq_nil_iff.mpr fun m hm=>by
  obtain⟨_,_,rfl⟩:=List.mem_map.mp hm;exact Bool.false_ne_true
 have e3:((rows.zipIdx.filter fun y=>zR y.1.k).map fun y=>Mv.door y.1.z y.2).filter uJ=[]:=List.filter_eq_nil_iff.mpr fun m hm=>by
  obtain⟨_,_,rfl⟩:=List.mem_map.mp hm;exact Bool.false_ne_true
 have e4:((rows.zipIdx.filter fun y=>tk1 y.1.k).map fun y=>if fr y.1.k y.1.b=true then Mv.free y.2 else Mv.need y.2).filter uJ=[]:=List.filter_eq_nil_iff.mpr fun m hm=>by
  obtain⟨y,_,rfl⟩:=List.mem_map.mp hm;show ¬uJ (if _ then _ else _)=true
  split <;> exact Bool.false_ne_true
 rw[e1,e2,e3,e4,length_append,length_append,length_append,length_append,length_append,length_nil];have h1:=length_filter_le uJ [jm rows];have h2:=length_filter_le uJ [Mv.names (zm 4 0 rows)];rw[length_singleton] at h1 h2;omega
theorem j3{K:Frag}{H:Hp}{n:Nat}:∀(zs:List Int),Paired (zA K T' H n) (zs.map V.int) (zs.map Dt.int)
 | []=>.nil
 | z::zs=>.cons .int (j3 zs)
theorem zk8{K:Frag}{ok:Addr->Prop}{H:Hp}{x:V}{e:En}(h:qy K ok H x e):zA K T' H 2 x (enD e):=by
 cases e with
 | one wd n=>obtain⟨u,rfl,h⟩:=h;exact zA.tup h (.cons zA.str (.cons zA.int .nil))
 | many wd ns=>obtain⟨u,l,rfl,h,_,hl⟩:=h;exact zA.tup h (.cons zA.str (.cons (zA.lst True.intro hl (j3 _)) .nil))
 | free=>obtain⟨u,rfl,h⟩:=h;exact zA.tup h (.cons zA.str .nil)
theorem zgJ{K:Frag}{ok:Addr->Prop}{H:Hp}{g:Nat->En}:∀{l:List Nat}{xs:List V},Paired (EnO K ok H) xs (l.map fun i=>some (g i))->Paired (zA K T' H 2) xs (l.map fun i=>enD (g i))
 | [],_,h=>by cases h;exact .nil
 | _::l,_,h=>by
  cases h with
  | cons h1 h2=>exact .cons (zk8 h1) (zgJ h2)
def zbg(K:Frag) (c:C5) (CF:Addr):Sp:=fun vs H Q _=>∃(fo lm lt lp:Addr) (cell:Int) (us:List Addr) (rows:List Rw) (bars:List Str) (ts:List Int) (ys:List V) (ps:List (Str×Int)),vs=[.ref fo,.ref lm,.ref lt,.ref lp,.int cell]/\vk c CF H fo rows bars/\yN rows bars/\H lm=some (.lst (us.map V.ref))/\Paired (zdk K H) us (wD rows bars)/\H lt=some (.lst (ts.map V.int))/\H lp=some (.lst ys)/\Paired (zA K T' H 1) ys (ps.map yQ)/\ts.length<=60/\ps.length<=60/\∀H',zo H H'->Q (.bl true) H'
section
variable {P:Program}{w:World}{K:Frag}{mg:Str->Option Value}{base:Heap}{f CF:Addr}{fd:FuncData}{c:C5}
theorem ziE:([Str.ofString "_law_name",Str.ofString "_law_thing_here"]:List Str).Nodup:=by decide +kernel
theorem uA:zr ["_law_form_here","_law_moves","_law_things","_law_pairs","_law_cell_here","_law_call","_law_run_here","_law_wrong"] ["_law_form_here","_law_moves","_law_things","_law_pairs","_law_cell_here"] (zi zcq):=⟨rfl,rfl,rfl,by decide +kernel,rfl,by decide +kernel,by decide +kernel⟩
theorem zep{g1 g2 g3 g4 gS:Addr}{d1 d2 d3 d4 eS:FuncData}(F:Fun K "_law_right" "_law_right" zcq f fd) (U:jb mg) (FK:FC K CF) (cI:zG P w K mg base 2 "_law_items" g1 d1 ["_law_things","_law_pairs","_law_cell_here"] (zdw K)) (cR:zG P w K mg base 2 "_law_run" g2 d2 ["_law_many","_law_moves","_law_count","_law_names"] (zir K)) (cMi:zG P w K mg base 5 "misfits" g3 d3 ["form","call"] (ziu K c CF)) (cPa:zG P w K mg base 5 "paper" g4 d4 ["form","call"] (zdr K c CF))
  (mS:yS K CF "parameters" gS) (GS:zD P w K mg base CX0 1 gS eS ["self"] (uc c CF)) (bS:zM K eS ["self"] []):zD P w K mg base CX0 6 f fd ["_law_form_here","_law_moves","_law_things","_law_pairs","_law_cell_here"] (zbg K c CF):=by
 refine F.ok uA (fun vs H Q E h=>?_) (fun cdv A outer s H vs Q E hr h=>?_)
 ·obtain⟨fo,lm,lt,lp,cell,us,rows,bars,ts,ys,ps,rfl,_⟩:=h
  rfl
 obtain⟨fo,lm,lt,lp,cell,us,rows,bars,ts,ys,ps,rfl,hF,V1,hlm,hmv,hlt,hlp,hys,b1,b2,q⟩:=h;have hr1:yo 1 _:=hr.mono (by decide)
 have hr2:yo 2 _:=hr.mono (by decide)
 have hU:=hr.units;have hU0:=hr.units0;have l24:=V1.l24;have l60:=V1.l60;have lys:ys.length=ps.length:=by rw[hys.length,length_map]
 refine⟨_,zf (zu (i:=5) uA.nd rfl (Or.inl rfl) (cF cI hr2 (ac (pv 2) (ac (pv 3) (ac (pv 4) zc)))))
  (zf (zu (i:=6) uA.nd rfl (Or.inl rfl) (cF cR hr2 (ac (cB zw U.len PySem.boot_len (ac (zU (pv 0) FK.cl mS GS hr1 bS .nil zW) zc)) (ac (pv 1) (ac (cB zw U.len PySem.boot_len (ac (pv 2) zc)) (ac (xn [] ["_law_name","_law_thing_here"] [none,none] rfl ⟨rfl,rfl,rfl,rfl⟩ (yE (pv 3)) (yG (K:=K) (n:=2) 0 1) rfl rfl rfl
   (fun pins fp s H C=>⟨yi rfl (zp (zl (i:=0) ziE rfl (Or.inl rfl) (.inr rfl)) (zp (zl (i:=1) ziE rfl (Or.inl rfl) (.inr rfl)) zS)),yO,pv 0⟩)) zc))))))
  (zf (zu (i:=7) uA.nd rfl (Or.inl rfl) (cF cMi hr (ac (pv 0) (ac (pv 5) zc))))
  (zf (zH (zk (OpR.or (ud hU) (wP hU0)) (pv 7) (zO zc) (zt _)) (ze (zq (xb (zcM hU) (pv 6) (zC (ac zj (ac (zB yF (pv 7) zg (fun _ _=>rfl)) zc))) (zt _)))) zv)
  (ze (zq (xb (zcM hU) (pv 6) (zC (ac zj (ac (cF cPa hr (ac (pv 0) (ac (pv 5) zc))) zc))) (zt _))))))),?_⟩
 refine⟨_,rfl,_,rfl,_,rfl,lt,lp,cell,ys,ts,ps,rfl,hlt,hlp,hys,by omega,by omega,fun lc zs H1 s1 nlc hlc hzs=>?_⟩
 obtain⟨cT1,cP1⟩:=zbU cell ts ps;have hzs:Paired (zA K T' H1 3) zs ((vI cell ts ps).map wg):=Paired.imp' (fun _ _ z=>wW (fun _ _ _=>True.intro) z) hzs;generalize vI cell ts ps=ct at cT1 cP1 hzs;have cN1:z5 ct=ps.map (·.1):=by unfold z5;rw[cP1]
 have em:zdL rows bars ct=wQ rows bars ts.length (ps.map (·.1)):=by unfold zdL;rw[cT1,cN1]
 have Ch:jd K H1 lc ct:=⟨⟨zs,SqL.of hlc,hzs⟩,by rw[cT1];omega,by rw[cP1];omega⟩
 dsimp only[yr];have F1:=hF.same s1;obtain⟨dx,fs,lr,lb',ld,pps,h1,h2,h3,h4,h5,h6⟩:=id F1.at_;refine⟨_,rfl,fo,dx,fs,rfl,h1,h2.no _ (by decide +kernel),fo,rows,bars,rfl,F1.at_,fun lP pas H2 s2 _ hlP hpas=>?_⟩
 refine⟨lP,_,rfl,.inl (SqL.of hlP),_,rfl,_,rfl,lt,_,rfl,.inl (SqL.of (s2 _ _ (s1 _ _ hlt))),_,rfl,lp,rfl,⟨_,SqL.of (s2 _ _ (s1 _ _ hlp))⟩,fun D hD=>?_⟩;have s02:=s1.trans s2;have hps2:Paired (zA K T' H2 1) ys (ps.map yQ):=wp s02 hys;refine zcY (K:=K) (xs:=ys) ps (fun _=>true) (fun p=>V.str p.1) hD (SqL.of (s02 _ _ hlp)) (by omega) (by omega) (fun j x y H' Nn S hx hy sH nn1 ss1=>?_) (fun H3 s3 hD3=>?_)
 ·obtain⟨d,hd,hyy⟩:=Paired.get hps2 hx
  obtain⟨pr',hpr,rfl⟩:=zbz hd;rw[hpr] at hy;cases hy;obtain⟨b,rfl,hb⟩:=vS (hyy.same sH);refine⟨b,_,rfl,hb,rfl,_,_,rfl,_,_,rfl,rfl,fun _=>?_,fun e=>Bool.noConfusion e⟩;exact⟨_,rfl,nn1 _ (zo.refl _) rfl⟩
 have hD3:H3 D=some (.lst ((ps.map (·.1)).map V.str)):=by
  rw[hD3,List.filter_eq_self.mpr (fun _ _=>rfl),map_map];rfl
 generalize hzs':ps.map (·.1)=zz at hD3 em cN1;have lzz:zz.length=ps.length:=by rw[<- hzs',length_map]
 have s03:=s02.trans s3;have s13:=s2.trans s3;have lpas:(pas.map V.ref).length=rows.length:=by rw[length_map,hpas.length]
 rw[lpas,length_map];have dn:=fun {j:Nat}{z:Str} hz hd hb=>zgO (rows:=rows) (bars:=bars) (n:=ts.length) (zs:=zz) (j:=j) (z:=z) hz hd hb;refine(fun (key:∀(p:Addr) (H4:Hp),zo H3 H4->((wQ rows bars ts.length zz=[]/\zz.Nodup/\zd0 K H4 p (.inr ((List.range rows.length).map fun i=>some (enF rows ts.length zz i))))\/(∃m t,wQ rows bars ts.length zz=m::t/\zd0 K H4 p (.inl m)))->_)=>⟨rows.length,ts.length,lm,D,us,wD rows bars,zz,rfl,s03 _ _ hlm,Paired.imp' (fun _ _ z=>s03.sqT z) hmv,qm,hD3,by omega,by omega,by omega,le_trans zam (by omega),zgS,(fun j z hz hd hb p H4 s4 hR=>key p H4 s4 (by obtain⟨t,ht⟩:=dn hz hd hb;exact .inr ⟨_,t,ht,hR⟩)),(fun nd p H4 s4 hR=>key p H4 s4 (by
   rw[zcG V1 (qW nd)] at hR;cases hm:wQ rows bars ts.length zz with
   | nil=>rw[hm] at hR;exact .inl ⟨rfl,qW nd,hR⟩
   | cons m t=>rw[hm] at hR;exact .inr ⟨m,t,rfl,hR⟩))⟩) ?_
 intro p H4 s4 hR;dsimp only[yr];have s14:=s13.trans s4;have s04:=s1.trans s14;refine⟨_,rfl,_,rfl,fo,lc,rows,bars,ct,rfl,hF.same s04,Ch.same s14,fun lw H5 s5 hw=>?_⟩;obtain⟨uw,nlw,elw,huw⟩:=hw;rw[em] at huw;have s15:=s14.trans s5;have s05:=s04.trans s5;refine⟨_,rfl,zz0,fun l0 hl0=>?_⟩;have s6:=zb hl0 (.lst []);rcases hR with ⟨h0,hnd,le,L,ep,xs,exs,hxs⟩|⟨m,t,h0,u,ep,eu⟩
 ·rw[h0] at huw
  cases huw;refine .inl ⟨lw,l0,0,.lst [],fun _=>True,fun _=>True,rfl,rfl,by decide,.lst True.intro (s6 _ _ elw) .nil,.lst True.intro za .nil,_,rfl,?_⟩
  refine zK ?_;generalize upd H5 l0 (.lst [])=H6 at s6 |-;have s46:=s5.trans s6;refine⟨_,rfl,_,rfl,_,rfl,fo,lc,rows,bars,ct,rfl,hF.same (s04.trans s46),Ch.same (s14.trans s46),by rw[em];exact h0,fun lf xp H7 s7 nlf hlf hxp=>?_⟩
  have s47:=s46.trans s7;refine⟨zz2,fun tp htp=>?_⟩;have s8:=zb htp (.tup [.str "told",.ref lf]);have s48:=s47.trans s8;have e8:upd H7 tp (.tup [.str "told",.ref lf]) tp=some (.tup [.str "told",.ref lf]):=za;generalize upd H7 tp (.tup [.str "told",.ref lf])=H8 at s8 s48 e8 |-;have hxs8:=zgJ (Paired.imp' (fun _ _ z=>EnO.same z s48) hxs);have hxp8:Paired (zA K T' H8 2) xp ((List.range rows.length).map fun i=>enD (enF rows ts.length zz i)):=by
   rw[cT1,cN1] at hxp;have e:zhx rows ts.length zz=(List.range rows.length).map fun i=>enD (enF rows ts.length zz i):=by
    unfold zhx;exact List.map_congr_left fun i hi=>zjX (List.mem_range.mp hi) hnd
   rw[e] at hxp;exact Paired.imp' (fun _ _ z=>wW (fun _ _ _=>True.intro) (zA.same s8 z)) hxp
  exact⟨p,tp,3,.tup [.str "told",.lst _],fun _=>True,fun _=>True,rfl,rfl,by decide,zA.tup (SqT.of (s48 _ _ ep)) (.cons zA.str (.cons (zA.lst True.intro (s48 _ _ exs) hxs8) .nil)),zA.tup (SqT.of e8) (.cons zA.str (.cons (zA.lst True.intro (s8 _ _ hlf) hxp8) .nil)),q _ (s04.trans s48)⟩
 ·rw[h0] at huw
  cases huw with
  | @cons v _ uw' _ hv hrest=>
   refine .inr ⟨lw,l0,_,_,rfl,rfl,s6 _ _ elw,za,by rw[map_cons,length_cons];exact Nat.succ_ne_zero _,_,rfl,?_⟩
   refine yY ?_;have elw6:=s6 _ _ elw;generalize upd H5 l0 (.lst [])=H6 at s6 elw6 |-;refine⟨_,rfl,_,rfl,lw,_,0,.ref v,rfl,rfl,SqL.of elw6,yJ (j:=0) rfl,zz2,fun tp htp=>?_⟩;have s7:=zb htp (.tup [.str "refused",.ref v]);have e7:upd H6 tp (.tup [.str "refused",.ref v]) tp=some (.tup [.str "refused",.ref v]):=za;generalize upd H6 tp (.tup [.str "refused",.ref v])=H7 at s7 e7 |-;have s57:=s6.trans s7;have s47:=s5.trans s57;exact⟨p,tp,1,.tup [.str "refused",.tup [.str m.1,.int (m.2:Nat)]],fun _=>True,fun _=>True,rfl,rfl,by decide,zA.tup (SqT.of (s47 _ _ ep)) (.cons zA.str (.cons (zA.tup (SqT.of (s47 _ _ eu)) (.cons zA.str (.cons zA.int .nil))) .nil)),zA.tup (SqT.of e7) (.cons zA.str (.cons (zA.tup (SqT.of (s57 _ _ hv)) (.cons zA.str (.cons zA.int .nil))) .nil)),q _ (s04.trans s47)⟩
end
def zaz(K:Frag):Sp:=fun vs H Q _=>∃(a:Addr) (ns:List Int),vs=[.ref a]/\SqL K H a (ns.map V.int)/\ns.length<=63/\(∀m∈ns,Builtin.Int.intBits m<=1048576)/\∀H',Q (.bl true) H'
section
variable {P:Program}{w:World}{K:Frag}{mg:Str->Option Value}{base:Heap}{f CF:Addr}{fd:FuncData}{c:C5}
theorem xU:zr ["_law_script","_law_pool_here","_law_most","_law_told_here","_law_alike","_law_form_here","_law_found","_law_moves","_law_k","_law_cell_here","_law_more","_law_things","_law_pairs","_law_others","_law_named"] ["_law_script"] (zi zji):=⟨rfl,rfl,rfl,by decide +kernel,rfl,by decide +kernel,by decide +kernel⟩
theorem zjE{f1 f2 f3 f4 f5 f6 f7 f8 f9 f10 gT:Addr}{e1 e2 e3 e4 e5 e6 e7 e8 e9 e10 eT:FuncData}(F:Fun K "law" "law" zji f fd) (U:jb mg) (cC:zG P w K mg base 1 "_law_cell" f1 e1 ["_law_script","_law_at"] (zci K)) (cPo:zG P w K mg base 1 "_law_pool" f2 e2 ["_law_cell_here"] (ze8 K)) (cFo:zG P w K mg base 2 "_law_form" f3 e3 ["_law_script","_law_at","_law_pool_here","_law_most"] (zfe K)) (cD:zG P w K mg base 1 "_law_doubled" f4 e4 ["_law_told_here"] zfc) (cMa:zG P w K mg base 6 "_law_made" f5 e5 ["_law_told_here","_law_alike"] (zdv c CF))
  (cFi:zG P w K mg base 3 "_law_fitting" f6 e6 ["_law_told_here","_law_pool_here","_law_cell_here","_law_more"] (qI K)) (cA:zG P w K mg base 3 "_law_any" f7 e7 ["_law_cell_here","_law_more","_law_pool_here","_law_span"] (ziw K)) (cB':zG P w K mg base 3 "binder" f8 e8 ["form"] (zbi K c CF)) (cTd:zG P w K mg base 3 "_law_told" f9 e9 ["_law_found","_law_told_here"] (ziv K)) (cR:zG P w K mg base 6 "_law_right" f10 e10 ["_law_form_here","_law_moves","_law_things","_law_pairs","_law_cell_here"] (zbg K c CF))
  (FK:FC K CF) (mT:yS K CF "told" gT) (GT:zD P w K mg base CX0 3 gT eT ["self"] (zaB c CF)) (bT:zM K eT ["self"] []) :
  zD P w K mg base CX0 8 f fd ["_law_script"] (zaz K):=by
 refine F.ok xU (fun vs H Q E h=>?_) (fun cdv A outer s H vs Q E hr h=>?_)
 ·obtain⟨a,ns,rfl,_⟩:=h
  rfl
 obtain⟨sa,ns,rfl,hS,h63,hbit,q⟩:=h;have hr1:yo 1 _:=hr.mono (by decide)
 have hr2:yo 2 _:=hr.mono (by decide)
 have hr3:yo 3 _:=hr.mono (by decide)
 have hr6:yo 6 _:=hr.mono (by decide)
 have hU:=hr.units;have bz:∀{n:Int},(n∈ns\/n=0)->Builtin.Int.intBits n<=1048600:=fun {n} h=>by
  rcases h with h|h
  ·exact le_trans (hbit n h) (by decide)
  ·rw[h];decide
 refine yt (zu (i:=1) xU.nd rfl (Or.inl rfl) (cF cPo hr1 (ac (cF cC hr1 (ac (pv 0) (ac zg zc))) zc))) ?_;refine⟨_,rfl,sa,ns,3,rfl,hS,h63,fun c3 H1 s1 _=>?_⟩;refine⟨c3,rfl,fun pa H2 s2 np hpa=>?_⟩;have s02:=s1.trans s2;have hpa:H2 pa=some (.lst ((xV c3).map V.str)):=hpa;dsimp only[yr];refine yt (zu (i:=2) xU.nd rfl (Or.inl rfl) zg) ?_;refine yv (fun σ' H'=>σ'=[some (.ref sa),some (.ref pa),some (.int (12:Nat)),none,none,none,none,none,none,none,none,none,none,none,none]/\H'=H2) ?_ (fun key=>key _ _ ⟨rfl,rfl⟩);rintro σ0 H0 ⟨rfl,rfl⟩;refine yt (zH (zk z7 (zx yf (cF cC hr1 (ac (pv 0) (ac zg zc))) zg) zg (zt _)) (ze (zu (i:=2) xU.nd rfl (Or.inl rfl) zg)) zv) ?_;refine yv (fun σ' H'=>∃most:Nat,σ'=[some (.ref sa),some (.ref pa),some (.int (most:Nat)),none,none,none,none,none,none,none,none,none,none,none,none]/\zo H0 H'/\3<=most/\most<=24) ?_ (fun key=>?_);rotate_left
 ·refine⟨_,rfl,sa,ns,3,rfl,s02.seq hS,h63,fun c3' H3 s3 _=>?_⟩
  refine⟨_,_,rfl,rfl,zp8,rfl,_,rfl,?_⟩;refine zaY (fun _=>?_) (fun _=>?_)
  ·exact key _ _ ⟨24,rfl,s3,by decide,by decide⟩
  ·exact key _ _ ⟨12,rfl,s3,by decide,by decide⟩
 rintro σ3 H3 ⟨most,rfl,s3,m3,m24⟩;have s03:=s02.trans s3;refine yt (zu (i:=3) xU.nd rfl (Or.inl rfl) (cF cFo hr2 (ac (pv 0) (ac zg (ac (pv 1) (ac (pv 2) zc)))))) ?_;refine⟨_,rfl,_,rfl,_,rfl,sa,pa,ns,0,most,c3,rfl,s03.seq hS,h63,m3,m24,s3 _ _ hpa,fun t1 la1 lb1 us1 rows1 bars1 H4 s4 ht1 hla1 hu1 hlb1 V1=>?_⟩;have s04:=s03.trans s4;have hpa4:=s4 _ _ (s3 _ _ hpa);dsimp only[yr];refine yt (zu (i:=4) xU.nd rfl (Or.inl rfl) (xb z7 (zx yf (zx xS (cF cC hr1 (ac (pv 0) (ac zg zc))) zg) zg) zg (zt _))) ?_;refine⟨_,rfl,sa,ns,3,rfl,s04.seq hS,h63,fun c4 H5 s5 _=>?_⟩;refine⟨_,_,rfl,rfl,⟨by decide,by decide⟩,_,_,rfl,rfl,(by show(0:Int)<3;decide),rfl,?_⟩
 have s05:=s04.trans s5;have hpa5:=s5 _ _ hpa4;dsimp only[yr];generalize decide (V.int (c4 / 8 % 3)=V.int 1)=al;refine yt (zH (yk (pv 4)) (ze (zu (i:=3) xU.nd rfl (Or.inl rfl) (cF cD hr1 (ac (pv 3) zc)))) zv) ?_;refine yv (fun σ' H'=>∃(t la lb:Addr) (us:List Addr) (rows:List Rw) (bars:List Str),σ'=[some (.ref sa),some (.ref pa),some (.int (most:Nat)),some (.ref t),some (.bl al),none,none,none,none,none,none,none,none,none,none]/\zo H5 H'/\H' t=some (.tup [.ref la,.ref lb])/\H' la=some (.lst (us.map V.ref))/\Paired (TAt H') us rows/\H' lb=some (.lst (bars.map V.str))/\yN rows bars) ?_ (fun key=>?_);rotate_left
 ·refine⟨_,rfl,_,rfl,?_⟩
  cases al with
  | false=>
   refine zK ?_;exact key _ _ ⟨t1,la1,lb1,us1,rows1,bars1,rfl,zo.refl _,s5 _ _ ht1,s5 _ _ hla1,zP s5 hu1,s5 _ _ hlb1,V1⟩
  | true=>
   refine yY ?_;refine⟨_,rfl,t1,la1,lb1,us1,_,_,rfl,s5 _ _ ht1,s5 _ _ hla1,zP s5 hu1,s5 _ _ hlb1,V1,fun t' la' us' rows' H' s' e1 e2 e3 V'=>?_⟩;exact key _ _ ⟨t',la',lb1,us',rows',bars1,rfl,s',e1,e2,e3,s' _ _ (s5 _ _ hlb1),V'⟩
 rintro σ6 H6 ⟨t,la,lb,us,rows,bars,rfl,s6,ht,hla,hu,hlb,V2⟩;have s06:=s05.trans s6;have hpa6:=s6 _ _ hpa5;clear ht1 hla1 hu1 hlb1 V1;refine yt (zu (i:=5) xU.nd rfl (Or.inl rfl) (cF cMa hr6 (ac (pv 3) (ac (pv 4) zc)))) ?_;refine⟨_,rfl,_,rfl,t,la,lb,al,us,rows,bars,rfl,ht,hla,hu,hlb,V2,fun fo H7 s7 F7=>?_⟩;have s07:=s06.trans s7;have ht:=s7 _ _ ht;have hla:=s7 _ _ hla;have hu:=zP s7 hu;have hlb:=s7 _ _ hlb;have hpa7:=s7 _ _ hpa6;clear s02 s03 s04 s05 s06 hpa4 hpa5 hpa6 s1 s2 s3 s4 s5 s6 s7 hpa;have l24:=V2.l24;have l60:=V2.l60;have lus:(us.map V.ref).length=rows.length:=by rw[length_map,hu.length]
 dsimp only[yr];refine yt (zu (i:=6) xU.nd rfl (Or.inl rfl) (cF cB' hr3 (ac (pv 5) zc))) ?_;refine⟨_,rfl,fo,rows,bars,rfl,F7,l24,l60,fun p l xs H8 s8 nl hp hl hx=>?_⟩;have bl:(wD rows bars).length<=3 * rows.length+(bars.map V.str).length+2:=by rw[length_map];exact zam
 have bl':(bars.map V.str).length<=100:=by rw[length_map];omega
 dsimp only[yr];refine yt (zH (xf (yk (cF cTd hr3 (ac (pv 6) (ac (pv 3) zc))))) (ze (zq vn)) zv) ?_;refine⟨_,rfl,_,rfl,p,l,t,la,lb,rows.length,xs,_,_,wD rows bars,rfl,hp,hl,hx,qm,s8 _ _ ht,s8 _ _ hla,s8 _ _ hlb,lus,bl,by omega,bl',fun H9 s9=>⟨_,rfl,?_⟩⟩
 refine zK ?_;dsimp only[ze5];have hp9:=s9 _ _ hp;have hl9:=s9 _ _ hl;refine yt (zu (i:=7) xU.nd rfl (Or.inl rfl) (cTy yl U.list PyProof.Rows.boot_list (ac (zB zy (pv 6) zg (fun _ _=>rfl)) zc))) ?_;refine⟨_,rfl,p,_,1,.ref l,rfl,rfl,SqT.of hp9,rfl,l,_,rfl,.inl (SqL.of hl9),fun lm hlm=>?_⟩;have s10:=zb hlm (.lst xs);have nlm:lm≠l:=fun e=>by rw[e,hl9] at hlm;cases hlm
 have e10:upd H9 lm (.lst xs) lm=some (.lst xs):=za;have hx10:=yR (s9.trans s10) hx;have hl10:=s10 _ _ hl9;have hp10:=s10 _ _ hp9;have s710:=s8.trans (s9.trans s10);dsimp only[yr];generalize upd H9 lm (.lst xs)=H10 at s10 e10 hx10 hl10 hp10 s710 |-;refine yt (zI (zfT PySem.F.plainAttrs_list PySem.F.slot_list_clear PySem.F.type_list_clear zbK (zB zy (pv 6) zg (fun _ _=>rfl)))) ?_;refine⟨_,rfl,p,_,1,.ref l,rfl,rfl,SqT.of hp10,rfl,.inl ⟨rfl,_,SqL.of hl10⟩,l,xs,rfl,rfl,hl10,?_⟩;have s711:zo H7 (upd H10 l (.lst [])):=fun b o e=>by rw[zh (zd e nl)];exact s710 _ _ e
 have e11:upd H10 l (.lst []) lm=some (.lst xs):=by rw[zh nlm];exact e10
 have hx11:=xG (zs:=[]) hx10 hl10;dsimp only;generalize upd H10 l (.lst [])=H11 at s711 e11 hx11 |-;clear hx10 hl10 hp10 s710 e10 s10 hp9 hl9 s9 hlm hx hl hp nl s8 nlm;refine yt (zH (PW.pt (wc (xf (yk (cF cTd hr3 (ac (cF cB' hr3 (ac (pv 5) zc)) (ac (pv 3) zc))))) (xM (zk (ud hU) (zU (pv 5) FK.cl mT GT hr3 bT .nil zW) (pv 3) (zt _))))) (ze (zq vn)) zv) ?_;refine⟨_,rfl,fo,rows,bars,rfl,F7.same s711,l24,l60,fun p2 l2 xs2 H12 s12 nl2 hp2 hl2 hx2=>?_⟩;have s712:=s711.trans s12;refine⟨_,rfl,p2,l2,t,la,lb,rows.length,xs2,_,_,wD rows bars,rfl,hp2,hl2,hx2,qm,s712 _ _ ht,s712 _ _ hla,s712 _ _ hlb,lus,bl,by omega,bl',fun H13 s13=>⟨_,rfl,?_⟩⟩
 refine zK ?_;have s713:=s712.trans s13;obtain⟨dx,fs,lr,lb',ld,pps,h1,h2,h3,h4,h5,h6⟩:=id (F7.same s713).at_;refine⟨_,rfl,fo,dx,fs,rfl,h1,h2.no _ (by decide +kernel),fo,rows,bars,rfl,V2.ok,by omega,(F7.same s713).at_,fun t2 k1 k2 us2 H14 s14 _ _ _ ht2 hk1 hus2 hk2=>?_⟩
 have s714:=s713.trans s14;refine⟨_,rfl,t2,t,2,_,fun _=>True,fun _=>True,rfl,rfl,by decide,qK ht2 hk1 hus2 V2.ok hk2,qK (s714 _ _ ht) (s714 _ _ hla) (zP s714 hu) V2.ok (s714 _ _ hlb),_,rfl,?_⟩
 refine zK ?_;dsimp only[ze5];have s1114:=s12.trans (s13.trans s14);have e14:=s1114 _ _ e11;have hx14:=yR s1114 hx11;obtain⟨um,rfl,hum⟩:=zbI hx14;clear h1 h2 h3 h4 h5 h6 ht2 hk1 hus2 hk2 s14 s13 s12 s712 s713 hp2 hl2 hx2 s1114 hx14 hx11 e11 s711;have s014:=s07.trans s714;obtain⟨N,hN,hN20⟩:∃N:Nat,(if (if (20:Int)<((ns.map V.int).length:Int) then 20 else ((ns.map V.int).length:Int))>6 then (if (20:Int)<((ns.map V.int).length:Int) then 20 else ((ns.map V.int).length:Int)) else 6)=(N:Int)/\N<=20:=by
  by_cases h1:(20:Int)<((ns.map V.int).length:Int)
  ·rw[if_pos h1,if_pos (by decide)];exact⟨20,rfl,by omega⟩
  ·rw[if_neg h1]
   by_cases h2:((ns.map V.int).length:Int)>6
   ·rw[if_pos h2];exact⟨(ns.map V.int).length,rfl,by omega⟩
   ·rw[if_neg h2];exact⟨6,rfl,by omega⟩
 refine yt (xq PassesOwn.never rfl (zeh rfl U.range (ac zg (ac (cB (zeS rfl) U.max boot_max (ac zg (ac (cB (zal rfl) U.min boot_min (ac (cB zw U.len PySem.boot_len (ac (pv 0) zc)) (ac zg zc))) zc))) (ac zg zc)))) (zl (i:=8) xU.nd rfl (Or.inl rfl)) zaO) ?_;refine⟨_,rfl,sa,_,rfl,.inl (s014.seq hS),_,_,rfl,_,_,rfl,4,N,2,(by rw[<- hN];rfl),by decide,by omega,by decide,by decide,?_⟩
 refine zda (n:=rsz 4 N 2) (fun i σ H'=>∃(v8 v9 v10 v11 v12 v13 v14:Option V),σ=[some (.ref sa),some (.ref pa),some (.int (most:Nat)),some (.ref t),some (.bl al),some (.ref fo),some (.ref p),some (.ref lm),v8,v9,v10,v11,v12,v13,v14]/\zo H14 H')
  ⟨_,_,_,_,_,_,_,rfl,zo.refl _⟩ ?_ ?_
 rotate_left
 ·rintro σ H' ⟨v8,v9,v10,v11,v12,v13,v14,rfl,sH⟩
  exact⟨_,ze (zq vn),q _⟩
 rintro i σ H20 hi ⟨v8,v9,v10,v11,v12,v13,v14,rfl,s20⟩;have ek:((4:Nat):Int)+(i:Int) * ((2:Nat):Int)=((4+i * 2:Nat):Int):=by omega
 rw[ek];generalize 4+i * 2=kk;have s020:=s014.trans s20;refine yt (zu (i:=9) xU.nd rfl (Or.inl rfl) (cF cC hr1 (ac (pv 0) (ac (pv 8) zc)))) ?_;refine⟨_,rfl,_,rfl,sa,ns,kk,rfl,s020.seq hS,h63,fun cell H21 s21 hc21=>?_⟩;have s021:=s020.trans s21;dsimp only[yr];refine yt (zu (i:=10) xU.nd rfl (Or.inl rfl) (cF cC hr1 (ac (pv 0) (ac (zx yz (pv 8) zg) zc)))) ?_;refine⟨_,rfl,_,rfl,_,_,rfl,rfl,sa,ns,kk+1,rfl,s021.seq hS,h63,fun more H22 s22 hm22=>?_⟩;have s1422:=s20.trans (s21.trans s22);have s722:=s714.trans s1422;dsimp only[yr];refine yt (xN (cF cFi hr3 (ac (pv 3) (ac (pv 1) (ac (pv 9) (ac (pv 10) zc))))) (yi rfl (zp (zl (i:=11) xU.nd rfl (Or.inl rfl)) (zp (zl (i:=12) xU.nd rfl (Or.inl rfl)) zS)))) ?_;refine⟨_,rfl,_,rfl,_,rfl,_,rfl,t,la,lb,pa,cell,more,us,rows,bars,xV c3,rfl,s722 _ _ ht,s722 _ _ hla,zP s722 hu,s722 _ _ hlb,V2,s722 _ _ hpa7,wO c3,bz hc21,bz hm22,fun p3 l1 l2 ts ys ps H23 s23 ep el1 el2 hys lts lps=>?_⟩;have s723:=s722.trans s23;refine⟨p3,_,rfl,SqT.of ep,rfl,_,_,rfl,_,_,rfl,rfl,?_⟩;dsimp only[yr];refine yt (xN (cF cA hr3 (ac (pv 9) (ac (pv 10) (ac (pv 1) (ac zg zc))))) (yi rfl (zp (zl (i:=13) xU.nd rfl (Or.inl rfl)) (zp (zl (i:=14) xU.nd rfl (Or.inl rfl)) zS)))) ?_;refine⟨_,rfl,_,rfl,_,rfl,cell,more,pa,12,xV c3,rfl,s723 _ _ hpa7,by decide,by rw[wO];decide,bz hc21,bz hm22,fun p4 H24 s24 hTwo=>?_⟩
 obtain⟨l3,l4,ws,_,_,_,_,ep4,el3,el4,hws⟩:=hTwo;refine⟨p4,_,rfl,SqT.of ep4,rfl,_,_,rfl,_,_,rfl,rfl,?_⟩;dsimp only[yr];refine⟨_,ze (zH (PW.pt (wc (xf (yk (cF cR hr6 (ac (pv 5) (ac (pv 7) (ac (pv 11) (ac (pv 12) (ac (zx xS (pv 9) zg) zc)))))))) (xM (xf (yk (cF cR hr6 (ac (pv 5) (ac (pv 7) (ac (pv 13) (ac (pv 14) (ac (pv 10) zc))))))))))) (ze (zq vn)) zv),?_⟩;have s1424:=s1422.trans (s23.trans s24);have s724:=s714.trans s1424;have hum24:=Paired.imp' (fun _ _ z=>s1424.sqT z) hum;refine⟨_,rfl,_,rfl,_,rfl,_,rfl,_,rfl,_,_,rfl,rfl,⟨by decide,by decide⟩,fo,lm,l1,l2,cell / 7,um,rows,bars,ts,ys,ps,rfl,F7.same s724,V2,s1424 _ _ e14,hum24,s24 _ _ el1,s24 _ _ el2,wp s24 hys,by omega,by omega,fun H25 s25=>⟨_,rfl,?_⟩⟩
 refine zK ?_;have s1425:=s1424.trans s25;have s725:=s724.trans s25;have lT:=zgU cell;have lP:=zgW more (xV c3) 12;refine⟨_,rfl,_,rfl,_,rfl,_,rfl,_,rfl,fo,lm,l3,l4,more,um,rows,bars,zgV cell,ws,zeU more (xV c3) 12,rfl,F7.same s725,V2,s1425 _ _ e14,Paired.imp' (fun _ _ z=>s1425.sqT z) hum,s25 _ _ el3,s25 _ _ el4,wp s25 hws,by omega,by omega,fun H26 s26=>⟨_,rfl,?_⟩⟩
 refine zK ?_;exact⟨_,_,_,_,_,_,_,rfl,s1425.trans s26⟩
end
end K51
namespace L2
open PySem PySem.Spec PyProof.Rows
section
variable {P:Program}{w:World}{K:Frag}{mg:Str->Option Value}{base h:Heap}{x q p p2 p3 p4 p5:Str}{st:Stmt}{f C T:Addr}{fd:FuncData}{sp:Sp}{k n:Nat}
structure TB(P:Program) (w:World) (K:Frag) (mg:Str->Option Value) (base:Heap):Prop where
 mgo:∀{x:Str}{v:Value},nsIn K mainGlobals x=some (some v)->mg x=some v
structure GD(K:Frag) (x:Str) (st:Stmt) (f:Addr) (fd:FuncData):Prop where
 a:nsIn K mainGlobals x=some (some (.ref f))
 F:Fun K x x st f fd
structure MD(K:Frag) (C:Addr) (x q:Str) (st:Stmt) (f:Addr) (fd:FuncData):Prop where
 m:yS K C x f
 F:Fun K x q st f fd
structure DD(K:Frag) (C:Addr) (x q:Str) (st:Stmt) (f:Addr) (fd:FuncData) (ds:List Value):Prop where
 m:yS K C x f
 F:qx K x q st f fd ds
structure CD(K:Frag) (x:Str) (C:Addr):Prop where
 a:nsIn K mainGlobals x=some (some (.ref C))
 c:Cls K C
 ms:makesIn K C=true
 kc:keepIn K (.ref C)=true
theorem zl8{oc:Value}{od an:Option Addr}{osl:Array (Option Value)}{kV doc pm cdv ct:Value}(a:nsIn K mainGlobals x=some (some (.ref f))) (l:K.lookup f=some ⟨oc,od,.func (fnOf x x (z6 st) (zT st) (zi st) .none kV doc pm an cdv ct),osl⟩)
  (c:codeIn K cdv x=true) (k:keepIn K (.ref f)=true):GD K x st f (fnOf x x (z6 st) (zT st) (zi st) .none kV doc pm an cdv ct):=⟨a,zgE l c k⟩
theorem zl7{oc:Value}{od an:Option Addr}{osl:Array (Option Value)}{kV doc pm cdv ct:Value}(a:findIn K (.ref C) x=some (some (.ref f))) (i:isFn K (.ref f)=true) (l:K.lookup f=some ⟨oc,od,.func (fnOf x q (z6 st) (zT st) (zi st) .none kV doc pm an cdv ct),osl⟩)
  (c:codeIn K cdv q=true) (k:keepIn K (.ref f)=true):MD K C x q st f (fnOf x q (z6 st) (zT st) (zi st) .none kV doc pm an cdv ct):=⟨⟨a,i,k⟩,zgE l c k⟩
theorem zl9{oc oT:Value}{od an dT:Option Addr}{osl sT:Array (Option Value)}{kV doc pm cdv ct d:Value}(a:findIn K (.ref C) x=some (some (.ref f))) (i:isFn K (.ref f)=true) (l:K.lookup f=some ⟨oc,od,.func (fnOf x q (z6 st) (zT st) (zi st) (.ref T) kV doc pm an cdv ct),osl⟩)
  (c:codeIn K cdv q=true) (k:keepIn K (.ref f)=true) (t:K.lookup T=some ⟨oT,dT,.seq #[d] n,sT⟩):DD K C x q st f (fnOf x q (z6 st) (zT st) (zi st) (.ref T) kV doc pm an cdv ct) [d]:=⟨⟨a,i,k⟩,zh4 (items:=[d]) l c k t rfl⟩
theorem zma(a:nsIn K mainGlobals x=some (some (.ref C))) (pg:plainGet K C Str.empty=true) (hd:hasDictIn K C=true) (po:plainOver K C=true) (sa:findIn K (.ref C) "__setattr__"=some (some (.builtin "object.__setattr__"))) (mk:makesIn K C=true) (kc:keepIn K (.ref C)=true):CD K x C:=⟨a,⟨pg,hd,po,sa⟩,mk,kc⟩
theorem Fun.b1(F:Fun K x q st f fd) (h:∀(kV doc pm:Value) (an:Option Addr) (cdv ct u:Value),bindArgs (fnOf x q (z6 st) (zT st) (zi st) .none kV doc pm an cdv ct) ⟨[u],[]⟩=pure [(p,u)]:=by intros;rfl):zM K fd [p] []:=
 F.binds fun _ _ _ _ _ _ us hl=>match us,hl with|[_],_=>h _ _ _ _ _ _ _
theorem Fun.b2(F:Fun K x q st f fd) (h:∀(kV doc pm:Value) (an:Option Addr) (cdv ct u u2:Value),bindArgs (fnOf x q (z6 st) (zT st) (zi st) .none kV doc pm an cdv ct) ⟨[u,u2],[]⟩=pure [(p,u),(p2,u2)]:=by intros;rfl):zM K fd [p,p2] []:=
 F.binds fun _ _ _ _ _ _ us hl=>match us,hl with|[_,_],_=>h _ _ _ _ _ _ _ _
theorem Fun.b3(F:Fun K x q st f fd) (h:∀(kV doc pm:Value) (an:Option Addr) (cdv ct u u2 u3:Value),bindArgs (fnOf x q (z6 st) (zT st) (zi st) .none kV doc pm an cdv ct) ⟨[u,u2,u3],[]⟩=pure [(p,u),(p2,u2),(p3,u3)]:=by intros;rfl):zM K fd [p,p2,p3] []:=
 F.binds fun _ _ _ _ _ _ us hl=>match us,hl with|[_,_,_],_=>h _ _ _ _ _ _ _ _ _
theorem Fun.b4(F:Fun K x q st f fd) (h:∀(kV doc pm:Value) (an:Option Addr) (cdv ct u u2 u3 u4:Value),bindArgs (fnOf x q (z6 st) (zT st) (zi st) .none kV doc pm an cdv ct) ⟨[u,u2,u3,u4],[]⟩=pure [(p,u),(p2,u2),(p3,u3),(p4,u4)]:=by intros;rfl):zM K fd [p,p2,p3,p4] []:=
 F.binds fun _ _ _ _ _ _ us hl=>match us,hl with|[_,_,_,_],_=>h _ _ _ _ _ _ _ _ _ _
theorem Fun.b5(F:Fun K x q st f fd) (h:∀(kV doc pm:Value) (an:Option Addr) (cdv ct u u2 u3 u4 u5:Value),bindArgs (fnOf x q (z6 st) (zT st) (zi st) .none kV doc pm an cdv ct) ⟨[u,u2,u3,u4,u5],[]⟩=pure [(p,u),(p2,u2),(p3,u3),(p4,u4),(p5,u5)]:=by intros;rfl):zM K fd [p,p2,p3,p4,p5] []:=
 F.binds fun _ _ _ _ _ _ us hl=>match us,hl with|[_,_,_,_,_],_=>h _ _ _ _ _ _ _ _ _ _ _
theorem GD.c1(g:GD K x st f fd) (B:TB P w K mg base) (ok:zD P w K mg base CX0 k f fd [p] sp) (h:∀(kV doc pm:Value) (an:Option Addr) (cdv ct u:Value),bindArgs (fnOf x x (z6 st) (zT st) (zi st) .none kV doc pm an cdv ct) ⟨[u],[]⟩=pure [(p,u)]:=by intros;rfl):zG P w K mg base k x f fd [p] sp:=⟨ok,B.mgo g.a,g.F.kp,g.F.b1 h⟩
theorem GD.c2(g:GD K x st f fd) (B:TB P w K mg base) (ok:zD P w K mg base CX0 k f fd [p,p2] sp) (h:∀(kV doc pm:Value) (an:Option Addr) (cdv ct u u2:Value),bindArgs (fnOf x x (z6 st) (zT st) (zi st) .none kV doc pm an cdv ct) ⟨[u,u2],[]⟩=pure [(p,u),(p2,u2)]:=by intros;rfl):zG P w K mg base k x f fd [p,p2] sp:=⟨ok,B.mgo g.a,g.F.kp,g.F.b2 h⟩
theorem GD.c3(g:GD K x st f fd) (B:TB P w K mg base) (ok:zD P w K mg base CX0 k f fd [p,p2,p3] sp) (h:∀(kV doc pm:Value) (an:Option Addr) (cdv ct u u2 u3:Value),bindArgs (fnOf x x (z6 st) (zT st) (zi st) .none kV doc pm an cdv ct) ⟨[u,u2,u3],[]⟩=pure [(p,u),(p2,u2),(p3,u3)]:=by intros;rfl):zG P w K mg base k x f fd [p,p2,p3] sp:=⟨ok,B.mgo g.a,g.F.kp,g.F.b3 h⟩
theorem GD.c4(g:GD K x st f fd) (B:TB P w K mg base) (ok:zD P w K mg base CX0 k f fd [p,p2,p3,p4] sp) (h:∀(kV doc pm:Value) (an:Option Addr) (cdv ct u u2 u3 u4:Value),bindArgs (fnOf x x (z6 st) (zT st) (zi st) .none kV doc pm an cdv ct) ⟨[u,u2,u3,u4],[]⟩=pure [(p,u),(p2,u2),(p3,u3),(p4,u4)]:=by intros;rfl):zG P w K mg base k x f fd [p,p2,p3,p4] sp:=⟨ok,B.mgo g.a,g.F.kp,g.F.b4 h⟩
theorem GD.c5(g:GD K x st f fd) (B:TB P w K mg base) (ok:zD P w K mg base CX0 k f fd [p,p2,p3,p4,p5] sp) (h:∀(kV doc pm:Value) (an:Option Addr) (cdv ct u u2 u3 u4 u5:Value),bindArgs (fnOf x x (z6 st) (zT st) (zi st) .none kV doc pm an cdv ct) ⟨[u,u2,u3,u4,u5],[]⟩=pure [(p,u),(p2,u2),(p3,u3),(p4,u4),(p5,u5)]:=by intros;rfl):zG P w K mg base k x f fd [p,p2,p3,p4,p5] sp:=⟨ok,B.mgo g.a,g.F.kp,g.F.b5 h⟩
theorem GD.law(g:GD K x st f fd) (h:∀(kV doc pm:Value) (an:Option Addr) (cdv ct u:Value),bindArgs (fnOf x x (z6 st) (zT st) (zi st) .none kV doc pm an cdv ct) ⟨[u],[]⟩=pure [(p,u)]:=by intros;rfl):∀(s:Shared) (v:Value),BindsTo s fd ⟨[v],[]⟩ [(p,v)]:=by
 obtain⟨oc,od,kV,doc,pm,an,cdv,ct,osl,rfl,lk,hcd⟩:=g.F.ex;exact fun s v=>.of_eq (h kV doc pm an cdv ct v)
theorem DD.b0{d:Value}(D:DD K C x q st f fd [d]) (h:∀(T:Addr) (kV doc pm:Value) (an:Option Addr) (cdv ct u u2 u3:Value),∃k:Option (Array Value)->Sem (List (Str×Value)),bindArgs (fnOf x q (z6 st) (zT st) (zi st) (.ref T) kV doc pm an cdv ct) ⟨[u,u2,u3],[]⟩=seqItems? (.ref T) >>= k/\k (some [d].toArray)=pure [(p,u),(p2,u2),(p3,u3)]:=by exact fun _ _ _ _ _ _ _ _ _ _=>⟨_,rfl,rfl⟩):zM K fd [p,p2,p3] []:=
 fun _ us KX hl=>match us,hl with|[_,_,_],_=>D.F.bindsTo (fun _ _ _ _ _ _ _=>h _ _ _ _ _ _ _ _ _ _) KX
end
end L2
def PySem.W.Fast.tw11196816557178575915:Unit:=()
def PySem.W.Fast.tw11011292542500801904:Unit:=()
def PySem.W.Fast.tw10684330817769798188:Unit:=()
def PySem.W.Fast.tw17587919872429645305:Unit:=()
def PySem.W.Fast.tw10353953608799284184:Unit:=()
def PySem.W.Fast.tw17400894247967934120:Unit:=()
def PySem.W.Fast.tw4986419654193267350:Unit:=()
def PySem.W.Fast.tw15751428298070926974:Unit:=()
def PySem.W.Fast.tw8862604367990491980:Unit:=()
def PySem.W.Fast.tw16964528899172442466:Unit:=()
def PySem.W.Fast.tw15115396562366636805:Unit:=()
def PySem.W.Fast.tw14088662874073333046:Unit:=()
def PySem.W.Fast.tw15416678028838108034:Unit:=()
def PySem.W.Fast.tw4847992980121290371:Unit:=()
def PySem.W.Fast.tw16009665398066563144:Unit:=()
def PySem.W.Fast.tw13676930945070436744:Unit:=()
def PySem.W.Fast.tw637160462739014013:Unit:=()
def PySem.W.Fast.tw8469517757675521289:Unit:=()
def PySem.W.Fast.tw9868401687448909171:Unit:=()
def PySem.W.Fast.tw7957372874811043105:Unit:=()
def PySem.W.Fast.tw18254876913878116061:Unit:=()
def PySem.W.Fast.tw74841766339614663:Unit:=()
def PySem.W.Fast.tw5988317217009336438:Unit:=()
def PySem.W.Fast.tw7717734814857755147:Unit:=()
def PySem.W.Fast.tw5168833787044415242:Unit:=()
def PySem.W.Fast.tw2629691429946722711:Unit:=()
def PySem.W.Fast.tw10037126232576388556:Unit:=()
def PySem.W.Fast.tw5250672858553210937:Unit:=()
def PySem.W.Fast.tw11131407917257301414:Unit:=()
def PySem.W.Fast.tw2470991890454540376:Unit:=()
def PySem.W.Fast.tw2977746350304218110:Unit:=()
def PySem.W.Fast.tw316855619455322716:Unit:=()
def PySem.W.Fast.tw12624275833821734343:Unit:=()
def PySem.W.Fast.tw7740260931704586672:Unit:=()
def PySem.W.Fast.tw18209559139148256011:Unit:=()
def PySem.W.Fast.tw14227687551400780489:Unit:=()
def PySem.W.Fast.tw183744565292490011:Unit:=()
def PySem.W.Fast.tw6740771758093759005:Unit:=()
def PySem.W.Fast.tw10964767282285365452:Unit:=()
def PySem.W.Fast.tw658565451431029470:Unit:=()
def PySem.W.Fast.tw3581040148639861142:Unit:=()
def PySem.W.Fast.tw17010307854072419687:Unit:=()
def PySem.W.Fast.tw2407590261162126046:Unit:=()
def PySem.W.Fast.tw371445890893609941:Unit:=()
def PySem.W.Fast.tw5195382024410024742:Unit:=()
def PySem.W.Fast.tw417955506765565933:Unit:=()
def PySem.W.Fast.tw6361653934337078764:Unit:=()
def PySem.W.Fast.tw1540408621546240316:Unit:=()
def PySem.W.Fast.tw16627372356278512143:Unit:=()
def PySem.W.Fast.tw8162702888878482447:Unit:=()
def PySem.W.Fast.tw13703774708767651845:Unit:=()
def PySem.W.Fast.tw12683755286750253725:Unit:=()
def PySem.W.Fast.tw6332818613021164516:Unit:=()
def PySem.W.Fast.tw18302009612335435843:Unit:=()
def PySem.W.Fast.tw18334899869623871557:Unit:=()
def PySem.W.Fast.tw12099858163589051032:Unit:=()
def PySem.W.Fast.tw15444881167959777482:Unit:=()
def PySem.W.Fast.tw5233775863004508794:Unit:=()
def PySem.W.Fast.tw4114598104448903255:Unit:=()
def PySem.W.Fast.tw11709676077577928332:Unit:=()
def PySem.W.Fast.tw4809985276155792222:Unit:=()
def PySem.W.Fast.tw17025706364394723465:Unit:=()
def PySem.W.Fast.tw17490641191064320580:Unit:=()
def PySem.W.Fast.tw8641698423689042590:Unit:=()
def PySem.W.Fast.tw1243131874412791888:Unit:=()
def PySem.W.Fast.tw11336803078065652827:Unit:=()
def PySem.W.Fast.tw9144602127773242252:Unit:=()
def PySem.W.Fast.tw10617955782164051631:Unit:=()
def PySem.W.Fast.tw1491408921522253021:Unit:=()
def PySem.W.Fast.tw17772648871893861671:Unit:=()
def PySem.W.Fast.tw15279492658785234857:Unit:=()
def PySem.W.Fast.tw10138851939150526982:Unit:=()
def PySem.W.Fast.tw17374418760489013692:Unit:=()
def PySem.W.Fast.tw12964530838281050409:Unit:=()
def PySem.W.Fast.tw7074725400670696511:Unit:=()
def PySem.W.Fast.tw3035655221395606649:Unit:=()
def PySem.W.Fast.tw5084155031521162210:Unit:=()
def PySem.W.Fast.tw12496863674645711468:Unit:=()
def PySem.W.Fast.tw5191437048595151665:Unit:=()
def PySem.W.Fast.tw8825323868142893974:Unit:=()
def PySem.W.Fast.tw9327266568211069206:Unit:=()
namespace K51
open PySem L2 PyProof.Rows
theorem zhZ{w:World}{K:Frag}{Gr:Addr}{es:Array DictEntry}{n:Nat}{t0 t1 t2 t3 t4:Tok}(hl:K.lookup Gr=some ⟨.type "dict",none,.dict es n,#[]⟩) (hk:KeysLit w.params es.toList) (h0:nsIn K Gr "seat"=some (some (.int 0 t0))) (h1:nsIn K Gr "both"=some (some (.int 0 t1))) (h2:nsIn K Gr "tail"=some (some (.int 1 t2)))
  (h3:nsIn K Gr "tag"=some (some (.int 2 t3))) (h4:nsIn K Gr "bag"=some (some (.int 3 t4))):zj7 w K Gr zh1:=by
 refine⟨⟨es,n,hl,hk⟩,fun x v h=>?_⟩;unfold zh1 at h;by_cases e0:x="seat"
 ·subst e0;rw[lookup_cons_self] at h;cases h;exact⟨_,h0,_,rfl⟩
 rw[lookup_cons,beq_eq_false_iff_ne.mpr e0] at h;by_cases e1:x="both"
 ·subst e1;rw[lookup_cons_self] at h;cases h;exact⟨_,h1,_,rfl⟩
 rw[lookup_cons,beq_eq_false_iff_ne.mpr e1] at h;by_cases e2:x="tail"
 ·subst e2;rw[lookup_cons_self] at h;cases h;exact⟨_,h2,_,rfl⟩
 rw[lookup_cons,beq_eq_false_iff_ne.mpr e2] at h;by_cases e3:x="tag"
 ·subst e3;rw[lookup_cons_self] at h;cases h;exact⟨_,h3,_,rfl⟩
 rw[lookup_cons,beq_eq_false_iff_ne.mpr e3] at h;by_cases e4:x="bag"
 ·subst e4;rw[lookup_cons_self] at h;cases h;exact⟨_,h4,_,rfl⟩
 rw[lookup_cons,beq_eq_false_iff_ne.mpr e4] at h;cases h
theorem zlW{l:PySem.W.OpenLaw}{w:World}{K:Frag}{h:Heap}{mg:Str->Option Value}{fa D C0 C1 C2 C3 C4 FM f1 f2 f3 f4 f5 f6 f7 f8 f9 f10 f11 f12 f13 f14 f15 f16 f17 f18 f19 f20 f21 f22 f23 f24 f25 f26 f27 f28 f29 f30 f31 f32 f33 f34 f35 f36 f37 f38 f39 f40 f41 f42 f43 f44 f45 f46 f47 f48 f49 f50 f51 f52 f53 f54 f55 f56 f57 f58 f59 f60:Addr}{e1 e2 e3 e4 e5 e6 e7 e8 e9 e10 e11 e12 e13 e14 e15 e16 e17 e18 e19 e20 e21 e22 e23 e24 e25 e26 e27 e28 e29 e30 e31 e32 e33 e34 e35 e36 e37 e38 e39 e40 e41 e42 e43 e44 e45 e46 e47 e48 e49 e50 e51 e52 e53 e54 e55 e56 e57 e58 e59 e60:FuncData}{tP tB tO sg Gr:Addr}{tL tN tMP tMB ktP0 ktP1 ktB0 ktB1 ktO0 ktO1 ktO2 ksg0 ksg1 kG0 kG1 kG2 kG3 kG4:Tok}{odtP odtB odtO odsg:Option Addr}{ntP ntB ntO nsg nG:Nat}{sltP sltB sltO slsg:Array (Option Value)}{esG:Array DictEntry}(X:K.In h) (G:h.Ns mainGlobals mg) (hfa:mg "law"=some (.ref fa))
  (cD:CD K "Parameter" D)
  (cC0:CD K "Seat" C0)
  (nC0:findIn K (.ref C0) "word"=some none/\findIn K (.ref C0) "name"=some none/\findIn K (.ref C0) "may_lack"=some none)
  (cC1:CD K "Both" C1)
  (nC1:findIn K (.ref C1) "word"=some none/\findIn K (.ref C1) "name"=some none/\findIn K (.ref C1) "may_lack"=some none)
  (cC2:CD K "Tail" C2)
  (nC2:findIn K (.ref C2) "word"=some none/\findIn K (.ref C2) "name"=some none/\findIn K (.ref C2) "may_lack"=some none)
  (cC3:CD K "Tag" C3)
  (nC3:findIn K (.ref C3) "word"=some none/\findIn K (.ref C3) "name"=some none/\findIn K (.ref C3) "may_lack"=some none)
  (cC4:CD K "Bag" C4)
  (nC4:findIn K (.ref C4) "word"=some none/\findIn K (.ref C4) "name"=some none/\findIn K (.ref C4) "may_lack"=some none)
  (cFM:CD K "Form" FM)
  (nFM:findIn K (.ref FM) "row"=some none/\findIn K (.ref FM) "bar_names"=some none/\findIn K (.ref FM) "place_count"=some none/\findIn K (.ref FM) "tail_number"=some none/\findIn K (.ref FM) "bag_number"=some none/\findIn K (.ref FM) "doors"=some none)
  (g1:GD K "is_name" sIs f1 e1)
  (g2:MD K D "__init__" "Parameter.__init__" zcu f2 e2)
  (g3:MD K D "free" "Parameter.free" zfy f3 e3)
  (g4:MD K D "by_place" "Parameter.by_place" jO f4 e4)
  (g5:MD K D "by_name" "Parameter.by_name" zaM f5 e5)
  (g6:MD K D "takes_one" "Parameter.takes_one" zco f6 e6)
  (g7:MD K D "told" "Parameter.told" zfn f7 e7)
  (g8:DD K C0 "__init__" "Seat.__init__" zfq f8 e8 [Value.bool false])
  (g9:DD K C1 "__init__" "Both.__init__" zfD f9 e9 [Value.bool false])
  (g10:MD K C2 "__init__" "Tail.__init__" zfo f10 e10)
  (g11:DD K C3 "__init__" "Tag.__init__" zjd f11 e11 [Value.bool false])
  (g12:MD K C4 "__init__" "Bag.__init__" zjj f12 e12)
  (g13:DD K FM "__init__" "Form.__init__" zcD f13 e13 [Value.none])
  (g14:MD K FM "keep" "Form.keep" zfx f14 e14)
  (g15:MD K FM "parameters" "Form.parameters" zcC f15 e15)
  (g16:MD K FM "bars" "Form.bars" zcE f16 e16)
  (g17:MD K FM "places" "Form.places" jN f17 e17)
  (g18:MD K FM "tail" "Form.tail" zcB f18 e18)
  (g19:MD K FM "bag" "Form.bag" zfB f19 e19)
  (g20:MD K FM "number_of" "Form.number_of" zfA f20 e20)
  (g21:MD K FM "told" "Form.told" zcA f21 e21)
  (g22:GD K "parameter_of" zjf f22 e22)
  (g23:GD K "refuse_too_many" zcr f23 e23)
  (g24:GD K "refuse_bad_order" zaI f24 e24)
  (g25:GD K "refuse_bars_without_name" zcs f25 e25)
  (g26:GD K "refuse_twice" zaH f26 e26)
  (g27:GD K "number_of_word" zft f27 e27)
  (g28:GD K "laid" zfu f28 e28)
  (g29:GD K "misfits" jL f29 e29)
  (g30:GD K "shape" zcp f30 e30)
  (g31:GD K "first_numbers" zaL f31 e31)
  (g32:GD K "misfits_of" zjh f32 e32)
  (g33:GD K "overs" zcv f33 e33)
  (g34:GD K "unwelcomes" zjc f34 e34)
  (g35:GD K "lackings" zfv f35 e35)
  (g36:GD K "one_entry" zfs f36 e36)
  (g37:GD K "refuse" zhm f37 e37)
  (g38:GD K "entry" zcF f38 e38)
  (g39:GD K "paper" zct f39 e39)
  (g40:GD K "place_moves" zaJ f40 e40)
  (g41:GD K "binder" zaN f41 e41)
  (g42:GD K "_law_cell" zfC f42 e42)
  (g43:GD K "_law_is_int" zcz f43 e43)
  (g44:GD K "_law_mix" zjg f44 e44)
  (g45:GD K "_law_pool" zfr f45 e45)
  (g46:GD K "_law_form" zfz f46 e46)
  (g47:GD K "_law_doubled" zfw f47 e47)
  (g48:GD K "_law_made" zcx f48 e48)
  (g49:GD K "_law_thing" zcn f49 e49)
  (g50:GD K "_law_items" zcy f50 e50)
  (g51:GD K "_law_told_names" zcm f51 e51)
  (g52:GD K "_law_fitting" jM f52 e52)
  (g53:GD K "_law_any" zjk f53 e53)
  (g54:GD K "_law_through" jK f54 e54)
  (g55:GD K "_law_step" zfp f55 e55)
  (g56:GD K "_law_run" zje f56 e56)
  (g57:GD K "_law_is_move" zaK f57 e57)
  (g58:GD K "_law_told" zcw f58 e58)
  (g59:GD K "_law_right" zcq f59 e59)
  (g60:GD K "law" zji f60 e60)
  (zisinstance:nsIn K mainGlobals "isinstance"=some none)
  (zstr:nsIn K mainGlobals "str"=some none)
  (zbool:nsIn K mainGlobals "bool"=some none)
  (zlen:nsIn K mainGlobals "len"=some none)
  (zall:nsIn K mainGlobals "all"=some none)
  (zrange:nsIn K mainGlobals "range"=some none)
  (zlist:nsIn K mainGlobals "list"=some none)
  (zenumerate:nsIn K mainGlobals "enumerate"=some none)
  (zset:nsIn K mainGlobals "set"=some none)
  (zmin:nsIn K mainGlobals "min"=some none)
  (zmax:nsIn K mainGlobals "max"=some none)
  (zint:nsIn K mainGlobals "int"=some none)
  (ztuple:nsIn K mainGlobals "tuple"=some none)
  (zdict:nsIn K mainGlobals "dict"=some none)
  (gL:nsIn K mainGlobals "LETTERS"=some (some (.str letters tL)))
  (gN:nsIn K mainGlobals "LONGEST"=some (some (.int 8 tN)))
  (gMP:nsIn K mainGlobals "MOST_PARAMETERS"=some (some (.int 24 tMP)))
  (gMB:nsIn K mainGlobals "MOST_BARS"=some (some (.int 60 tMB)))
  (ytP:nsIn K mainGlobals "BY_PLACE"=some (some (.ref tP)))
  (utP:K.lookup tP=some ⟨.type "tuple",odtP,.seq #[.str "seat" ktP0,.str "both" ktP1] ntP,sltP⟩)
  (ytB:nsIn K mainGlobals "BY_NAME"=some (some (.ref tB)))
  (utB:K.lookup tB=some ⟨.type "tuple",odtB,.seq #[.str "both" ktB0,.str "tag" ktB1] ntB,sltB⟩)
  (ytO:nsIn K mainGlobals "OF_ONE_THING"=some (some (.ref tO)))
  (utO:K.lookup tO=some ⟨.type "tuple",odtO,.seq #[.str "seat" ktO0,.str "both" ktO1,.str "tag" ktO2] ntO,sltO⟩)
  (ysg:nsIn K mainGlobals "SINGLE_GROUPS"=some (some (.ref sg)))
  (usg:K.lookup sg=some ⟨.type "tuple",odsg,.seq #[.int 1 ksg0,.int 3 ksg1] nsg,slsg⟩)
  (yGr:nsIn K mainGlobals "GROUPS"=some (some (.ref Gr)))
  (lGr:K.lookup Gr=some ⟨.type "dict",none,.dict esG nG,#[]⟩)
  (kGr:KeysLit w.params esG.toList)
  (eG0:nsIn K Gr "seat"=some (some (.int 0 kG0)))
  (eG1:nsIn K Gr "both"=some (some (.int 0 kG1)))
  (eG2:nsIn K Gr "tail"=some (some (.int 1 kG2)))
  (eG3:nsIn K Gr "tag"=some (some (.int 2 kG3)))
  (eG4:nsIn K Gr "bag"=some (some (.int 3 kG4)))
  (dga:qr K D "__init__" f2)
  (h0:findIn K (.ref C0) "free"=some (some (.ref f3))/\findIn K (.ref C0) "by_place"=some (some (.ref f4))/\findIn K (.ref C0) "by_name"=some (some (.ref f5))/\findIn K (.ref C0) "takes_one"=some (some (.ref f6))/\findIn K (.ref C0) "told"=some (some (.ref f7)))
  (h1:findIn K (.ref C1) "free"=some (some (.ref f3))/\findIn K (.ref C1) "by_place"=some (some (.ref f4))/\findIn K (.ref C1) "by_name"=some (some (.ref f5))/\findIn K (.ref C1) "takes_one"=some (some (.ref f6))/\findIn K (.ref C1) "told"=some (some (.ref f7)))
  (h2:findIn K (.ref C2) "free"=some (some (.ref f3))/\findIn K (.ref C2) "by_place"=some (some (.ref f4))/\findIn K (.ref C2) "by_name"=some (some (.ref f5))/\findIn K (.ref C2) "takes_one"=some (some (.ref f6))/\findIn K (.ref C2) "told"=some (some (.ref f7)))
  (h3:findIn K (.ref C3) "free"=some (some (.ref f3))/\findIn K (.ref C3) "by_place"=some (some (.ref f4))/\findIn K (.ref C3) "by_name"=some (some (.ref f5))/\findIn K (.ref C3) "takes_one"=some (some (.ref f6))/\findIn K (.ref C3) "told"=some (some (.ref f7)))
  (h4:findIn K (.ref C4) "free"=some (some (.ref f3))/\findIn K (.ref C4) "by_place"=some (some (.ref f4))/\findIn K (.ref C4) "by_name"=some (some (.ref f5))/\findIn K (.ref C4) "takes_one"=some (some (.ref f6))/\findIn K (.ref C4) "told"=some (some (.ref f7)))
  : ∃fd:FuncData,(∀(s:Shared) (v:Value),BindsTo s fd ⟨[v],[]⟩ [("_law_script",v)])/\∀base:Heap,K.In base->base.Ns mainGlobals mg->zD l.prog w K mg base CX0 8 fa fd ["_law_script"] (zaz K):=by
 have e:=hfa.symm.trans (mg_of X G g60.a);cases e;have no:∀{x:Str},nsIn K mainGlobals x=some none->mg x=none:=fun z=>PySem.W.mg_none_of X G z;have T:zlb K mg:=⟨no zisinstance,no zstr,no zbool,no zlen,no zall,no zrange,⟨tL,mg_of X G gL⟩,⟨tN,mg_of X G gN⟩,jk K,zc1 K,zbT K,zbQ K,zaU K,zbS K,ul K,zaW K⟩;have Wd:Wds K mg tP tB tO:=⟨mg_of X G ytP,mg_of X G ytB,mg_of X G ytO,fun H=>.inr ⟨_,_,_,utP,rfl,rfl,zz2,.cons ⟨_,rfl⟩ (.cons ⟨_,rfl⟩ (.nil))⟩,fun H=>.inr ⟨_,_,_,utB,rfl,rfl,zz2,.cons ⟨_,rfl⟩ (.cons ⟨_,rfl⟩ (.nil))⟩,fun H=>.inr ⟨_,_,_,utO,rfl,rfl,zz3,.cons ⟨_,rfl⟩ (.cons ⟨_,rfl⟩ (.cons ⟨_,rfl⟩ (.nil)))⟩⟩;have TF:za7 w K mg Gr sg:=⟨no zlen,no zenumerate,no zlist,no zset,⟨tMP,mg_of X G gMP⟩,⟨tMB,mg_of X G gMB⟩,mg_of X G yGr,zhZ lGr kGr eG0 eG1 eG2 eG3 eG4,mg_of X G ysg,fun H=>.inr ⟨_,_,_,usg,rfl,rfl,zz2,.cons ⟨_,rfl⟩ (.cons ⟨_,rfl⟩ .nil)⟩⟩;have pc0:PC K ⟨f3,f4,f5,f6,f7⟩ C0:=⟨cC0.c,nC0.1,nC0.2.1,nC0.2.2,⟨h0.1,g3.m.fn,g3.F.kp⟩,⟨h0.2.1,g4.m.fn,g4.F.kp⟩,⟨h0.2.2.1,g5.m.fn,g5.F.kp⟩,⟨h0.2.2.2.1,g6.m.fn,g6.F.kp⟩,⟨h0.2.2.2.2,g7.m.fn,g7.F.kp⟩⟩;have pc1:PC K ⟨f3,f4,f5,f6,f7⟩ C1:=⟨cC1.c,nC1.1,nC1.2.1,nC1.2.2,⟨h1.1,g3.m.fn,g3.F.kp⟩,⟨h1.2.1,g4.m.fn,g4.F.kp⟩,⟨h1.2.2.1,g5.m.fn,g5.F.kp⟩,⟨h1.2.2.2.1,g6.m.fn,g6.F.kp⟩,⟨h1.2.2.2.2,g7.m.fn,g7.F.kp⟩⟩;have pc2:PC K ⟨f3,f4,f5,f6,f7⟩ C2:=⟨cC2.c,nC2.1,nC2.2.1,nC2.2.2,⟨h2.1,g3.m.fn,g3.F.kp⟩,⟨h2.2.1,g4.m.fn,g4.F.kp⟩,⟨h2.2.2.1,g5.m.fn,g5.F.kp⟩,⟨h2.2.2.2.1,g6.m.fn,g6.F.kp⟩,⟨h2.2.2.2.2,g7.m.fn,g7.F.kp⟩⟩;have pc3:PC K ⟨f3,f4,f5,f6,f7⟩ C3:=⟨cC3.c,nC3.1,nC3.2.1,nC3.2.2,⟨h3.1,g3.m.fn,g3.F.kp⟩,⟨h3.2.1,g4.m.fn,g4.F.kp⟩,⟨h3.2.2.1,g5.m.fn,g5.F.kp⟩,⟨h3.2.2.2.1,g6.m.fn,g6.F.kp⟩,⟨h3.2.2.2.2,g7.m.fn,g7.F.kp⟩⟩;have pc4:PC K ⟨f3,f4,f5,f6,f7⟩ C4:=⟨cC4.c,nC4.1,nC4.2.1,nC4.2.2,⟨h4.1,g3.m.fn,g3.F.kp⟩,⟨h4.2.1,g4.m.fn,g4.F.kp⟩,⟨h4.2.2.1,g5.m.fn,g5.F.kp⟩,⟨h4.2.2.2.1,g6.m.fn,g6.F.kp⟩,⟨h4.2.2.2.2,g7.m.fn,g7.F.kp⟩⟩;have PP:Pcs K ⟨f3,f4,f5,f6,f7⟩ ⟨C0,C1,C2,C3,C4⟩:=fun k hk=>by
  rcases lt5 hk with rfl|rfl|rfl|rfl|rfl
  ·exact pc0
  ·exact pc1
  ·exact pc2
  ·exact pc3
  ·exact pc4
 have FK:FC K FM:=⟨cFM.c,nFM.1,nFM.2.1,nFM.2.2.1,nFM.2.2.2.1,nFM.2.2.2.2.1,nFM.2.2.2.2.2⟩;have UL:jb mg:=⟨no zlen,no zrange,no zmin,no zmax,no zenumerate,no zlist,no zisinstance,no zbool,no zint⟩;have T2:zgY K mg:=⟨no zisinstance,no zstr,no zbool,no zint,no ztuple,no zlist,no zlen,no zrange,no zenumerate⟩;refine⟨_,g60.law,fun base KB GB=>?_⟩;have B:TB l.prog w K mg base:=⟨fun e=>mg_of X G e⟩;have cI:=g1.c1 B (zkK g1.F T);have GP:zD l.prog w K mg base CX0 2 f2 _ ["self","word","name","may_lack"] (spP K ⟨f3,f4,f5,f6,f7⟩):=zf2 g2.F cI;have mD:=mg_of X G cD.a;have UC:ziM l.prog w K mg base ⟨C0,C1,C2,C3,C4⟩ f8 f9 f10 f11 f12 _ _ _ _ _:=⟨⟨⟨cC0.ms,g8.m.at_,g8.m.fn,cC0.kc⟩,zhG g8.F pc0 dga mD GP g2.F.b4,mg_of X G cC0.a,g8.b0⟩,⟨⟨cC1.ms,g9.m.at_,g9.m.fn,cC1.kc⟩,zhT g9.F pc1 dga mD GP g2.F.b4,mg_of X G cC1.a,g9.b0⟩,⟨⟨cC2.ms,g10.m.at_,g10.m.fn,cC2.kc⟩,zhE g10.F pc2 dga mD GP g2.F.b4,mg_of X G cC2.a,g10.F.b2⟩,⟨⟨cC3.ms,g11.m.at_,g11.m.fn,cC3.kc⟩,zjy g11.F pc3 dga mD GP g2.F.b4,mg_of X G cC3.a,g11.b0⟩,⟨⟨cC4.ms,g12.m.at_,g12.m.fn,cC4.kc⟩,zjF g12.F pc4 dga mD GP g2.F.b4,mg_of X G cC4.a,g12.F.b2⟩⟩;have GF:zD l.prog w K mg base CX0 1 f3 _ ["self"] (zaA K ⟨f3,f4,f5,f6,f7⟩):=zhO g3.F;have GQ:zD l.prog w K mg base CX0 1 f4 _ ["self"] (uz K ⟨f3,f4,f5,f6,f7⟩ bpL):=zbF g4.F Wd;have GN:zD l.prog w K mg base CX0 1 f5 _ ["self"] (uz K ⟨f3,f4,f5,f6,f7⟩ bnL):=zcR g5.F Wd;have cM1:=g23.c2 B (zhK g23.F TF);have cM2:=g24.c1 B (zf5 g24.F TF PP);have cM3:=g25.c1 B (zf1 g25.F cI);have cM4:=g26.c2 B (zfX g26.F TF PP GN g5.F.b1);have cW:=g27.c2 B (zhJ g27.F TF PP);have GK:=zhN g14.F TF PP FK cW GQ g4.F.b1 GN g5.F.b1;have GI:=zge g13.F FK g14.m cM1 cM2 cM3 cM4 GK (g14.F.b3);have Gpa:zD l.prog w K mg base CX0 1 f15 _ ["self"] (uc ⟨C0,C1,C2,C3,C4⟩ FM):=zgd g15.F TF FK;have Gba:zD l.prog w K mg base CX0 1 f16 _ ["self"] (zaC ⟨C0,C1,C2,C3,C4⟩ FM):=zgf g16.F TF FK;have Gpl:zD l.prog w K mg base CX0 1 f17 _ ["self"] (wH ⟨C0,C1,C2,C3,C4⟩ FM):=zcP g17.F FK;have Gta:zD l.prog w K mg base CX0 1 f18 _ ["self"] (wE ⟨C0,C1,C2,C3,C4⟩ FM 2):=zgc g18.F FK;have Gbg:zD l.prog w K mg base CX0 1 f19 _ ["self"] (wE ⟨C0,C1,C2,C3,C4⟩ FM 4):=zhR g19.F FK;have Gnu:zD l.prog w K mg base CX0 1 f20 _ ["self","name"] (zdt ⟨C0,C1,C2,C3,C4⟩ FM):=zhQ g20.F FK;have cL:=g28.c1 B (zhM g28.F);have cSh:=g30.c1 B (zf0 g30.F (no zlen) cL);have cFn:=g31.c1 B (zer g31.F (no zenumerate));have cOv:=g33.c2 B (zf4 g33.F (no zrange) FK g18.m Gta (g18.F.b1) g17.m Gpl (g17.F.b1));have cUn:=g34.c3 B (zjx g34.F (no zset) FK g16.m Gba (g16.F.b1) g20.m Gnu (g20.F.b2) g19.m Gbg (g19.F.b1) g17.m Gpl (g17.F.b1));have cEn:=g36.c4 B (zhI g36.F PP GQ g4.F.b1 GN g5.F.b1);have cLa:=g35.c3 B (zf7 g35.F (no zenumerate) PP FK g15.m Gpa (g15.F.b1) GF g3.F.b1 cEn);have cMo:=g32.c3 B (zjB g32.F (no zenumerate) cFn cOv cUn cLa);have cMi:=g29.c2 B (zjD g29.F cSh cMo);have GTk:zD l.prog w K mg base CX0 1 f6 _ ["self"] (uz K ⟨f3,f4,f5,f6,f7⟩ otL):=zaT g6.F Wd;have GO:zD l.prog w K mg base CX0 2 f7 _ ["self"] (zcg K ⟨f3,f4,f5,f6,f7⟩):=zhD g7.F GTk g6.F.b1;have GFT:zD l.prog w K mg base CX0 3 f21 _ ["self"] (zaB ⟨C0,C1,C2,C3,C4⟩ FM):=zgb g21.F TF FK PP GO g7.F.b1;have cPM:=g40.c1 B (zeo g40.F (no zrange) FK g18.m Gta (g18.F.b1) g17.m Gpl (g17.F.b1));have cBi:=g41.c1 B (zes g41.F UL PP FK cPM g15.m Gpa (g15.F.b1) g16.m Gba (g16.F.b1) g19.m Gbg (g19.F.b1) GN g5.F.b1 GF g3.F.b1 GTk g6.F.b1);have cRe:=g37.c2 B (zkJ (k:=1));have cEy:=g38.c4 B (zgg g38.F (no zrange) (no zlist) FK g18.m Gta (g18.F.b1) g17.m Gpl (g17.F.b1) g19.m Gbg (g19.F.b1) g20.m Gnu (g20.F.b2) g15.m Gpa (g15.F.b1) cEn);have cPa:=g39.c2 B (zf3 g39.F (no zrange) (no zlen) FK cSh cMo cRe cFn cEy g15.m Gpa (g15.F.b1));have cPf:=g22.c1 B (zjA g22.F UC);have cC:=g42.c2 B (zhS g42.F);have cII:=g43.c1 B (zga g43.F T2);have cMx:=g44.c2 B (zjC g44.F);have cPl:=g45.c1 B (zhH g45.F T2);have cFo:=g46.c4 B (zhP g46.F UL cC cMx);have cDb:=g47.c1 B (zhL g47.F (no zlen));have cMd:=g48.c2 B (zf6 g48.F (no zdict) (no zlist) (mg_of X G cFM.a) ⟨cFM.ms,g13.m.at_,g13.m.fn,cFM.kc⟩ GI g13.b0 cPf);have cTh:=g49.c2 B (zfZ g49.F cMx);have cIt:=g50.c3 B (zf9 g50.F UL cMx);have cTn:=g51.c3 B (zfY g51.F (no zenumerate) cMx);have cFt:=g52.c4 B (zcQ g52.F UL cMx cTh cTn);have cAn:=g53.c4 B (zjG g53.F UL cMx cTh);have cTr:=g54.c5 B (zcO g54.F UL);have cSt:=g55.c3 B (zhF g55.F UL);have cRn:=g56.c4 B (zjz g56.F UL cTr cSt);have cIM:=g57.c2 B (zeq g57.F UL T2 cII);have cTd:=g58.c2 B (zf8 g58.F UL T2 cII cIM);have cRi:=g59.c5 B (zep g59.F UL FK cIt cRn cMi cPa g15.m Gpa (g15.F.b1));exact zjE g60.F UL cC cPl cFo cDb cMd cFt cAn cBi cTd cRi FK g21.m GFT (g21.F.b1)
theorem zmb{l:PySem.W.OpenLaw}{q:Program}{loose:List Str}{XP:(Str->Option Value)->Heap->Prop}{YP:World->Heap->Prop}{d:DefRec}{K:Params->Frag}(hn:l.most=some 63) (hdf:d.params.defaults=[])
  (hY:∀(w:World) (h:Heap),YP w h->(K w.params).In h)
  (F:∀(w:World) (mg:Str->Option Value) (fa:Addr) (h:Heap),(K w.params).In h->h.Ns mainGlobals mg->mg d.name=some (.ref fa)->
   ∃fd:FuncData,(∀(s:Shared) (u:Value),BindsTo s fd ⟨[u],[]⟩ [("_law_script",u)])/\∀base:Heap,(K w.params).In base->base.Ns mainGlobals mg->zD l.prog w (K w.params) mg base CX0 8 fa fd ["_law_script"] (zaz (K w.params))) :
  PySem.W.WalkO q loose XP YP l.row.toRowW d [] (fun f vs=>PySem.call f vs):=
 L2.zj9 (n:=63) (k:=8) (x:="_law_script") (CX:=fun _=>CX0) (sp:=fun w=>zaz (K w.params)) hn (by decide) hdf ⟨rfl,by decide,by decide⟩ hY F (fun _ _ a ns hl hb _ hS=>⟨a,ns,rfl,hS,hl,hb,fun _=>rfl⟩) fun _ _ _ _ _ z=>z
end K51
open PySem PySem.W PyProof.Rows
set_option maxRecDepth 100000 in
set_option maxHeartbeats 0 in
theorem PySem.Challenge.cw_callbinds_k51_moves_run_by_hand_holds : PySem.Challenge.rw_callbinds_k51_moves_run_by_hand.Holds := by
 w_on; o_law; k_head; (case hw => w_witness2)
 k_fill
 refine K51.zmb (l := PySem.Challenge.rw_callbinds_k51_moves_run_by_hand) rfl rfl (fun w h Y => PySem.W.kIn_of Y) ?F
 case F =>
  intro w mg fa h KX G hmg
  refine' K51.zlW KX G hmg ?cD ?cC0 ?nC0 ?cC1 ?nC1 ?cC2 ?nC2 ?cC3 ?nC3 ?cC4 ?nC4 ?cFM ?nFM ?g1 ?g2 ?g3 ?g4 ?g5 ?g6 ?g7 ?g8 ?g9 ?g10 ?g11 ?g12 ?g13 ?g14 ?g15 ?g16 ?g17 ?g18 ?g19 ?g20 ?g21 ?g22 ?g23 ?g24 ?g25 ?g26 ?g27 ?g28 ?g29 ?g30 ?g31 ?g32 ?g33 ?g34 ?g35 ?g36 ?g37 ?g38 ?g39 ?g40 ?g41 ?g42 ?g43 ?g44 ?g45 ?g46 ?g47 ?g48 ?g49 ?g50 ?g51 ?g52 ?g53 ?g54 ?g55 ?g56 ?g57 ?g58 ?g59 ?g60 ?zisinstance ?zstr ?zbool ?zlen ?zall ?zrange ?zlist ?zenumerate ?zset ?zmin ?zmax ?zint ?ztuple ?zdict ?gL ?gN ?gMP ?gMB ?ytP ?utP ?ytB ?utB ?ytO ?utO ?ysg ?usg ?yGr ?lGr ?kGr ?eG0 ?eG1 ?eG2 ?eG3 ?eG4 ?dga ?h0 ?h1 ?h2 ?h3 ?h4
  (case cD | cC0 => apply L2.zma <;> k_is)
  (case nC0 => exact ⟨by k_is, by k_is, by k_is⟩)
  (case cC1 => apply L2.zma <;> k_is)
  (case nC1 => exact ⟨by k_is, by k_is, by k_is⟩)
  (case cC2 => apply L2.zma <;> k_is)
  (case nC2 => exact ⟨by k_is, by k_is, by k_is⟩)
  (case cC3 => apply L2.zma <;> k_is)
  (case nC3 => exact ⟨by k_is, by k_is, by k_is⟩)
  (case cC4 => apply L2.zma <;> k_is)
  (case nC4 => exact ⟨by k_is, by k_is, by k_is⟩)
  (case cFM => apply L2.zma <;> k_is)
  (case nFM => exact ⟨by k_is, by k_is, by k_is, by k_is, by k_is, by k_is⟩)
  (case g1 => apply L2.zl8 <;> k_is)
  (case g2 | g3 | g4 | g5 | g6 | g7 => apply L2.zl7 <;> k_is)
  (case g8 | g9 => apply L2.zl9 <;> k_is)
  (case g10 => apply L2.zl7 <;> k_is)
  (case g11 => apply L2.zl9 <;> k_is)
  (case g12 => apply L2.zl7 <;> k_is)
  (case g13 => apply L2.zl9 <;> k_is)
  (case g14 | g15 | g16 | g17 | g18 | g19 | g20 | g21 => apply L2.zl7 <;> k_is)
  (case g22 | g23 | g24 | g25 | g26 | g27 | g28 | g29 | g30 | g31 | g32 | g33 | g34 | g35 | g36 | g37 | g38 | g39 | g40 | g41 | g42 | g43 | g44 | g45 | g46 | g47 | g48 | g49 | g50 | g51 | g52 | g53 | g54 | g55 | g56 | g57 | g58 | g59 | g60 => apply L2.zl8 <;> k_is)
  (case zisinstance | zstr | zbool | zlen | zall | zrange | zlist | zenumerate | zset | zmin | zmax | zint | ztuple | zdict | gL | gN | gMP | gMB | ytP | utP | ytB | utB | ytO | utO | ysg | usg | yGr | lGr => k_is)
  (case kGr => k_keys)
  (case eG0 | eG1 | eG2 | eG3 | eG4 => k_is)
  (case dga => exact ⟨by k_is, by k_is, by k_is, by k_is⟩)
  (case h0 | h1 | h2 | h3 | h4 => exact ⟨by k_is, by k_is, by k_is, by k_is, by k_is⟩)
#print axioms PySem.Challenge.cw_callbinds_k51_moves_run_by_hand_holds
