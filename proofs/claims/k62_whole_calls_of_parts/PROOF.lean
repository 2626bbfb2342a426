import PyProof.Rows.All
import Wide.All
import OpenK.AllK
import Wide.FinOn
import Lean
import PyProof.EqAt
import PyProof.EqKinds
import PyProof.TupleCall
import KE.KTryMore
import PyProof.ExcAttrAll.ValueError
import KE.KRevIter
import PyProof.SetNew
import PyProof.SetRoads
import PyProof.Rows.SetObj
import PyProof.DictCompW
import PyProof.DictItems
import PyProof.Rows.SetFrom
import PyProof.ListRange
import PyProof.Rows.Range3
import KE.IntBitsLaws
import PyProof.AttrMissHeap
import PyProof.FactsAll.bool_1
import KE.KDictOf
import PyProof.WalkInts
import PyProof.P3Eq
import PyProof.Rows.SortStr
import PyProof.Rows.SortWalk
import PyProof.NeData
import PyProof.DictRoadsH
import PyProof.FactsAll.set
import PyProof.CollectWalk
import PyProof.CollectIter
import KE.RegKIsAll
import KE.RegKTryMore
import PySem.Challenge.RW_callbinds_k62_whole_calls_of_parts
set_option Elab.async false
set_option linter.all false
set_option maxRecDepth 100000
set_option maxHeartbeats 4000000
open Nat (lt_of_lt_of_le lt_irrefl ne_of_lt le_trans le_of_lt ne_of_gt le_refl zero_le lt_succ_self le_succ lt_succ_of_lt mod_lt lt_of_sub_eq_succ le_succ_of_le succ_le_succ)
open List (filterMap_cons mem_cons_self mem_cons_of_mem mem_append_left getElem?_set_self getElem?_set_ne mem_append_right length_cons map_cons length_map append_nil of_mem_zip length_take getElem?_map mem_of_getElem? length_append size_toArray length_drop all_cons any_cons replicate_succ flatten_cons append_assoc length_singleton nil_append find?_cons cons_append length_nil map_nil lookup_cons length_set getElem?_eq_getElem getD_eq_getElem?_getD all_eq_true getElem_mem take_of_length_le map_map take_add_one map_append take_succ_eq_append_getElem filter_append length_filter_le take_length mem_append mem_of_mem_take map_take map_drop flatten_append take_append_drop length_range range_succ contains_cons lookup_cons_self find?_append filter_cons mem_cons not_mem_nil nodup_nil mem_map getElem?_take take_nil)
open Option (getD_none map_some isSome_map)
open Int (emod_nonneg emod_lt_of_pos)
open PySem.W (instObj methodObj hideAll hideAll_none lookIn plainGet plainGet_of plainOver takerIn makesIn emptyDict kitOne kia_one callWith_K methodCall_KW fnOf codeIn KeysLit nsIn exmOne exm_one mg_of Frag findIn specialIn keepIn isFn hasDictIn clsIn mroIn instIn Looks)
local macro_rules|`(tactic|exists $xs,*)=>`(tactic|refine ⟨$xs,*⟩)
namespace L2
open PySem PySem.Spec PyProof.Rows
theorem zp2147483647:(0:Int)<2147483647:=by decide
theorem zp26:(0:Int)<26:=by decide
theorem zp8:(0:Int)<8:=by decide
theorem zp2:(0:Int)<2:=by decide
theorem zp4:(0:Int)<4:=by decide
theorem zp16:(0:Int)<16:=by decide
abbrev PnL:=List (Addr×Obj)
abbrev VSP:=Value->Shared->Prop
theorem wb : 0<=sizeLine:=by decide
theorem zaS : 1<=sizeLine:=by decide
theorem yC : 2<=sizeLine:=by decide
theorem vX : 3<=sizeLine:=by decide
theorem zjD : 10<=sizeLine:=by decide
abbrev zwb:=@wpAny_bind
abbrev zwp:=@wpAny_pure
abbrev zft:=@Bool.false_ne_true
abbrev zgp:=@Heap.get?_push_of_some
abbrev zgs:=@Heap.get?_push_size
abbrev Key:=Sum Int Str
def jS:Key->Value->Bool
 | .inl k,v=>Value.isInt k v
 | .inr x,v=>Value.isStrOf x v
def zkZ(w:World):Key->Int
 | .inl k=>hashInt k
 | .inr x=>hashStr w x
theorem yy:∀{k:Key}{v:Value},jS k v=true->(∃i t,k=Sum.inl i/\v=Value.int i t)\/(∃x t,k=Sum.inr x/\v=Value.str x t)
 | .inl i,v,h=>by
  obtain⟨t,e⟩:=Value.isInt_shape (k:=i) (v:=v) h;exact .inl ⟨i,t,rfl,e⟩
 | .inr x,v,h=>by
  obtain⟨t,e⟩:=Value.isStrOf_shape (x:=x) (v:=v) h;exact .inr ⟨x,t,rfl,e⟩
theorem zdO(i:Int)(t:Tok):jS (.inl i) (.int i t)=true:=by simp [jS,Value.isInt]
theorem zdN(x:Str)(t:Tok):jS (.inr x) (.str x t)=true:=by simp [jS,Value.isStrOf]
theorem zi2(a b:Int):decide ((Sum.inl a:Key)=Sum.inl b)=(a==b):=by
 by_cases e:a=b
 ·subst e;simp
 ·have h:¬(Sum.inl a:Key)=Sum.inl b:=fun q=>e (Sum.inl.inj q)
  rw[decide_eq_false h];exact(beq_eq_false_iff_ne.mpr e).symm
theorem zfG(a b:Str):decide ((Sum.inr a:Key)=Sum.inr b)=decide (a=b):=by
 by_cases e:a=b
 ·subst e;simp
 ·have h:¬(Sum.inr a:Key)=Sum.inr b:=fun q=>e (Sum.inr.inj q)
  rw[decide_eq_false h,decide_eq_false e]
theorem zi1(a:Int)(b:Str):decide ((Sum.inl a:Key)=Sum.inr b)=false:=decide_eq_false (fun q=>nomatch q)
theorem zi0(a:Str)(b:Int):decide ((Sum.inr a:Key)=Sum.inl b)=false:=decide_eq_false (fun q=>nomatch q)
def yp(prog:Program)(w:World):PySem.KeyKind prog w Key where
 is:=jS
 hash:=zkZ w
 inj:=fun v a b ha hb=>by
  rcases yy ha with ⟨i,t,rfl,rfl⟩|⟨x,t,rfl,rfl⟩
  ·rcases yy hb with ⟨j,u,rfl,e⟩|⟨y,u,rfl,e⟩
   ·injection e with e1 _;rw[e1]
   ·exact nomatch e
  ·rcases yy hb with ⟨j,u,rfl,e⟩|⟨y,u,rfl,e⟩
   ·exact nomatch e
   ·injection e with e1 _;rw[e1]
 byValue:=fun k v h=>by
  rcases yy h with ⟨i,t,rfl,rfl⟩|⟨x,t,rfl,rfl⟩ <;> rfl
 pyHash:=fun hv h=>by
  rcases yy hv with ⟨i,t,rfl,rfl⟩|⟨x,t,rfl,rfl⟩
  ·exact wpAny_pyHash_int h
  ·exact wpAny_pyHash_str h
 eqBool:=fun hu hv h=>by
  rcases yy hu with ⟨i,t,rfl,rfl⟩|⟨x,t,rfl,rfl⟩
  ·rcases yy hv with ⟨j,u,rfl,rfl⟩|⟨y,u,rfl,rfl⟩
   ·rw[zi2] at h;exact wpAny_eqBool_int h
   ·rw[zi1] at h;exact SeqAt.EqAt.int_str i t y u _ _ _ _ h
  ·rcases yy hv with ⟨j,u,rfl,rfl⟩|⟨y,u,rfl,rfl⟩
   ·rw[zi0] at h;exact SeqAt.EqAt.str_int x t j u _ _ _ _ h
   ·rw[zfG] at h;exact wpAny_eqBool_str h
 «strs»:=fun k x t v h=>by
  rcases yy h with ⟨i,u,rfl,e⟩|⟨y,u,rfl,e⟩
  ·exact nomatch e
  ·injection e with e1 _
   subst e1;cases v <;> rfl
theorem za7(prog:Program)(w:World)(i:Int)(t:Tok):(yp prog w).is (.inl i) (.int i t)=true:=zdO i t
theorem za6(prog:Program)(w:World)(x:Str)(t:Tok):(yp prog w).is (.inr x) (.str x t)=true:=zdN x t
inductive V where
 | non|bl (b:Bool)|int (i:Int)|str (x:Str)|byt (b:Array UInt8)|flt (b:UInt64)|ref (a:Addr)|ty (n:String)
 deriving DecidableEq
def ya:V->Value->Prop
 | .non,u=>u=Value.none
 | .bl b,u=>u=Value.bool b
 | .int i,u=>∃t,u=Value.int i t
 | .str x,u=>∃t,u=Value.str x t
 | .byt b,u=>∃t,u=Value.bytes b t
 | .flt b,u=>∃t,u=Value.float b t
 | .ref a,u=>u=Value.ref a
 | .ty n,u=>u=Value.type n
abbrev zX:List V->List Value->Prop:=Paired ya
theorem zX.length{xs:List V}{us:List Value}(r:zX xs us):xs.length=us.length:=Paired.length r
theorem zX.get:∀{xs:List V}{us:List Value}{i:Nat}{x:V},zX xs us->xs[i]?=some x->∃u,us[i]?=some u/\ya x u
 | _,_,_,_,.nil,e=>by simp at e
 | _,_,0,_,.cons r _,e=>by simp at e;subst e;exact⟨_,rfl,r⟩
 | _,_,i+1,x,.cons _ t,e=>by
  obtain⟨u,h1,h2⟩:=zX.get (i:=i) (x:=x) t (by simpa using e)
  exact⟨u,by simpa using h1,h2⟩
theorem zX.append:∀{xs ys:List V}{us ws:List Value},zX xs us->zX ys ws->zX (xs++ys) (us++ws)
 | _,_,_,_,.nil,s=>s
 | _,_,_,_,.cons r t,s=>.cons r (zX.append t s)
theorem zX.take:∀{xs:List V}{us:List Value}(n:Nat),zX xs us->zX (xs.take n) (us.take n)
 | _,_,0,_=>.nil
 | _,_,_+1,.nil=>.nil
 | _,_,n+1,.cons r t=>.cons r (zX.take n t)
theorem zX.drop:∀{xs:List V}{us:List Value}(n:Nat),zX xs us->zX (xs.drop n) (us.drop n)
 | _,_,0,r=>r
 | _,_,_+1,.nil=>.nil
 | _,_,n+1,.cons _ t=>zX.drop n t
def ue:Option V->Option Value->Prop
 | some v,some u=>ya v u
 | none,none=>True
 | _,_=>False
def KV{κ : Type}:List (κ×V)->List (κ×Value)->Prop:=Paired fun (p : κ×V) (q : κ×Value)=>p.1=q.1/\ya p.2 q.2
def kV:Key->V
 | .inl i=>.int i
 | .inr x=>.str x
inductive HO where
 | lst (xs:List V)
 | tup (xs:List V)
 | dK (kvs:List (Key×V))|dT (kvs:List (List Key×V))
 | set (S:Int->Bool) (n:Nat)
 | ins (C dx:Addr) (fs:List (Str×V))
 | own (x:Addr)
 | xd (fs:List (Str×V))
 | met (f x:Addr)
 | rng (lo hi:Int)
 | frz (o:Obj) (u:HO)
 | tbl (ps:Array Value)
 | ext (φ : Heap->Prop)
abbrev Hp:=Addr->Option HO
def upd(H:Hp)(a:Addr)(o:HO):Hp:=fun b=>if b=a then some o else H b
theorem za{H:Hp}{a:Addr}{o:HO}:upd H a o a=some o:=by unfold upd;rw[if_pos rfl]
theorem zg{H:Hp}{a b:Addr}{o:HO}(h:b≠a):upd H a o b=H b:=by unfold upd;rw[if_neg h]
theorem ja{H:Hp}{a:Addr}{o u:HO}:upd (upd H a o) a u=upd H a u:=by
 funext b;unfold upd;split <;> rfl
theorem yR{H:Hp}{a b:Addr}{o u:HO}(h:H a=some o)(h':H b=some u)(d:o≠u):a≠b:=by
 intro e;subst e;rw[h] at h';exact d (Option.some.inj h')
theorem zi{H:Hp}{a b:Addr}{o:HO}(h:H a=some o)(h':H b=none):a≠b:=by
 intro e;subst e;rw[h] at h';cases h'
section
variable (P:Program) (w:World)
def yu(H:Hp)(h:Heap)(a:Addr):HO->Prop
 | .lst xs=>xs.length<=sizeLine/\∃(its:List Value) (n:Nat),zX xs its/\h.get? a=some { cls:=.type "list",data:=.seq its.toArray n }
 | .tup xs=>xs.length<=sizeLine/\∃its:List Value,zX xs its/\IsTup h a its.toArray
 | .dK kvs=>kvs.length<=sizeLine/\(a==sysModules)=false/\∃vs,KV kvs vs/\h.DictOf (yp P w) a vs
 | .dT kvs=>kvs.length<=sizeLine/\(a==sysModules)=false/\∃xs:List (List Key×Addr×Value),
   Paired (fun (p:List Key×V) (q:List Key×Addr×Value)=>p.1=q.1/\H q.2.1=some (.tup (p.1.map kV))/\ya p.2 q.2.2) kvs xs/\
   ∃o es ep,h.get? a=some o/\o.ExactDict/\o.data=.dict es ep/\es.toList=xs.map (entryOfKey (tupleKind (yp P w)))/\(xs.map (·.1)).Nodup
 | .set S n=>h.SetOf (intKind P w) a S n
 | .ins C dx fs=>H dx=some (.own a)/\fs.length<=1000/\dx≠a/\h.get? a=some (instObj C dx)/\
   ∃mA,h.Ns1 dx mA/\(∀f,ue (fs.lookup f) (mA f))/\PySem.Within mA (fs.map (·.1))
 | .own _=>∃o,h.get? a=some o
 | .xd fs=>∃mA,h.Ns1 a mA/\∀f,ue (fs.lookup f) (mA f)
 | .rng lo hi=>∃t u v,h.get? a=some { cls:=.type "range",data:=.fields #[.int lo t,.int hi u,.int 1 v] }
 | .frz o u=>h.get? a=some o/\yu H h a u
 | .tbl ps=>h.get? a=some { cls:=.none,data:=.fields ps }
 | .met f x=>h.get? a=some (methodObj (.ref f) (.ref x))
 | .ext φ=>φ h/\(∃o,h.get? a=some o)/\∀h1 h2:Heap,φ h1->(∀o,h1.get? a=some o->h2.get? a=some o)->φ h2
def HOk(H:Hp)(h:Heap):Prop:=∀a o,H a=some o->yu P w H h a o
end
section
variable {P:Program}{w:World}{H H':Hp}{h h':Heap}{a:Addr}{o:HO}
theorem yu.lt(x:yu P w H h a o):a<h.objs.size:=by
 cases o with
 | lst xs=>obtain⟨_,_,_,_,e⟩:=x;exact Heap.lt_size e
 | tup xs=>obtain⟨_,_,_,p⟩:=x;exact p.lt
 | dK kvs=>obtain⟨_,_,_,_,o,_,_,e,_⟩:=x;exact Heap.lt_size e
 | dT kvs=>obtain⟨_,_,_,_,o,_,_,e,_⟩:=x;exact Heap.lt_size e
 | set S n=>obtain⟨o,_,_,_,e,_⟩:=x;exact Heap.lt_size e
 | ins C dx fs=>obtain⟨_,_,_,e,_⟩:=x;exact Heap.lt_size e
 | own y=>obtain⟨_,e⟩:=x;exact Heap.lt_size e
 | xd fs=>obtain⟨_,⟨_,_,_,e,_⟩,_⟩:=x;exact Heap.lt_size e
 | rng lo hi=>obtain⟨_,_,_,e⟩:=x;exact Heap.lt_size e
 | frz ob u=>obtain⟨e,_⟩:=x;exact Heap.lt_size e
 | tbl ps=>exact Heap.lt_size (show h.get? a=some _ from x)
 | met f y=>exact Heap.lt_size (show h.get? a=some _ from x)
 | ext φ=>obtain⟨_,⟨_,e⟩,_⟩:=x;exact Heap.lt_size e
theorem wB{α β : Type}{F G : α->β->Prop}:∀{l₁:List α}{l₂:List β},Paired F l₁ l₂->(∀a b,F a b->G a b)->Paired G l₁ l₂
 | _,_,.nil,_=>.nil
 | _,_,.cons r t,f=>.cons (f _ _ r) (wB t f)
theorem zm{α β : Type}{F G : α->β->Prop}(f:∀a b,F a b->G a b){l₁:List α}{l₂:List β}(r:Paired F l₁ l₂):Paired G l₁ l₂:=wB r f
theorem yu.stay(x:yu P w H h a o)(k:∀b u,(b=a\/H b=some (.own a))->h.get? b=some u->h'.get? b=some u)
  (ho:∀b,H b=some (.own a)->H' b=some (.own a)) (ht:∀b xs,H b=some (.tup xs)->H' b=some (.tup xs)):yu P w H' h' a o:=by
 induction o with
 | lst xs=>obtain⟨z,its,n,r,e⟩:=x;exact⟨z,its,n,r,k _ _ (.inl rfl) e⟩
 | tup xs=>obtain⟨z,its,r,ob,e,c⟩:=x;exact⟨z,its,r,ob,k _ _ (.inl rfl) e,c⟩
 | dK kvs=>obtain⟨z,y,vs,r,ob,es,ep,e,c⟩:=x;exact⟨z,y,vs,r,ob,es,ep,k _ _ (.inl rfl) e,c⟩
 | dT kvs=>
  obtain⟨z,y,xs,r,ob,es,ep,e,c⟩:=x;exact⟨z,y,xs,wB r fun p q z=>⟨z.1,ht _ _ z.2.1,z.2.2⟩,ob,es,ep,k _ _ (.inl rfl) e,c⟩
 | set S n=>obtain⟨ob,es,ep,t,e,c⟩:=x;exact⟨ob,es,ep,t,k _ _ (.inl rfl) e,c⟩
 | ins C dx fs=>
  obtain⟨d,z,ne,e,mA,⟨od,es,ep,e2,c⟩,r⟩:=x;exact⟨ho _ d,z,ne,k _ _ (.inl rfl) e,mA,⟨od,es,ep,k _ _ (.inr d) e2,c⟩,r⟩
 | own y=>obtain⟨ob,e⟩:=x;exact⟨ob,k _ _ (.inl rfl) e⟩
 | xd fs=>obtain⟨mA,⟨od,es,ep,e,c⟩,r⟩:=x;exact⟨mA,⟨od,es,ep,k _ _ (.inl rfl) e,c⟩,r⟩
 | rng lo hi=>obtain⟨t,u,v,e⟩:=x;exact⟨t,u,v,k _ _ (.inl rfl) e⟩
 | frz ob u ih=>obtain⟨e,q⟩:=x;exact⟨k _ _ (.inl rfl) e,ih q⟩
 | tbl ps=>
  have e:h.get? a=some { cls:=.none,data:=.fields ps }:=x;show h'.get? a=some { cls:=.none,data:=.fields ps };exact k a _ (.inl rfl) e
 | met f y=>
  have e:h.get? a=some (methodObj (.ref f) (.ref y)):=x;show h'.get? a=some (methodObj (.ref f) (.ref y));exact k a _ (.inl rfl) e
 | ext φ=>obtain⟨p,⟨o,e⟩,st⟩:=x;exact⟨st _ _ p fun o q=>k _ _ (.inl rfl) q,⟨o,k _ _ (.inl rfl) e⟩,st⟩
theorem HOk.lt(x:HOk P w H h)(e:H a=some o):a<h.objs.size:=(x a o e).lt
theorem HOk.fresh(x:HOk P w H h)(e:h.objs.size<=a):H a=none:=by
 cases q:H a with
 | none=>rfl
 | some u=>exact absurd (lt_of_lt_of_le (x.lt q) e) (lt_irrefl _)
theorem HOk.kept(x:HOk P w H h)(k:∀b u,h.get? b=some u->h'.get? b=some u):HOk P w H h':=fun a o e=>
 (x a o e).stay (fun b u _ q=>k b u q) (fun _ q=>q) fun _ _ q=>q
theorem HOk.laid(x:HOk P w H h)(k:∀b u,h.get? b=some u->h'.get? b=some u)(hp:h.objs.size<=a)(new:yu P w (upd H a o) h' a o):HOk P w (upd H a o) h':=fun b u e=>by
 have hn:=x.fresh hp;by_cases hb:b=a
 ·subst hb;rw[za] at e;cases e;exact new
 ·rw[zg hb] at e
  exact(x b u e).stay (fun c v _ q=>k c v q) (fun c q=>by rw[zg (zi q hn)];exact q) fun c xs q=>by rw[zg (zi q hn)];exact q
def Rd(H:Hp)(a:Addr)(u:HO):Prop:=H a=some u\/∃o,H a=some (.frz o u)
theorem Rd.ok{P:Program}{w:World}{H:Hp}{h:Heap}{a:Addr}{u:HO}(r:Rd H a u)(x:HOk P w H h):yu P w H h a u:=by
 rcases r with r|⟨o,r⟩
 ·exact x a u r
 ·obtain⟨_,q⟩:=x a _ r
  exact q
def Mut:Option HO->Prop
 | some (.lst _)=>True
 | some (.dK _)=>True
 | some (.dT _)=>True
 | some (.set _ _)=>True
 | some (.ins _ _ _)=>True
 | some (.ext _)=>True
 | _=>False
variable {x e:Addr}{o':HO}
theorem HOk.write(ok:HOk P w H h)(mu:Mut (H x))(he:e=x\/H e=some (.own x))(k:∀b u,b≠e->h.get? b=some u->h'.get? b=some u)(heo:∃u,h'.get? e=some u)
  (new:yu P w (upd H x o') h' x o'):HOk P w (upd H x o') h':=fun b u q=>by
 have nown:∀c y,H c=some (.own y)->c≠x:=fun c y r z=>by subst z;rw[r] at mu;exact mu
 have ntup:∀c xs,H c=some (.tup xs)->c≠x:=fun c xs r z=>by subst z;rw[r] at mu;exact mu
 by_cases hb:b=x
 ·subst hb;rw[za] at q;cases q;exact new
 ·rw[zg hb] at q
  by_cases hbe:b=e
  ·have q':H b=some (.own x):=by
    rcases he with z|z
    ·exact absurd (hbe.trans z) hb
    ·rw[hbe];exact z
   rw[q] at q';cases q';obtain⟨v,hv⟩:=heo;exact⟨v,by rw[hbe];exact hv⟩
  ·refine(ok b u q).stay (fun c v hc r=>k c v ?_ r) (fun c r=>by rw[zg (nown c b r)];exact r) fun c xs r=>by rw[zg (ntup c xs r)];exact r
   rcases hc with rfl|hc
   ·exact hbe
   ·rintro rfl
    rcases he with z|z
    ·exact nown c b hc z
    ·rw[hc] at z;cases z;exact hb rfl
structure Un(fs ex:List Addr)(H H':Hp)(h h':Heap):Prop where
 keep:∀b o,h.get? b=some o->H b=none->b∉fs->b∉ex->h'.get? b=some o
 slot:∀b o,h.get? b=some o->H b=none->b∈fs->b∉ex->∃sl,h'.get? b=some { o with slots:=sl }
 free:∀b o,h.get? b=some o->H b=none->b∉ex->H' b=none
 there:∀b o,h.get? b=some o->b∉ex->∃o',h'.get? b=some o'
 tups:∀b xs,H b=some (.tup xs)->H' b=some (.tup xs)
 frzs:∀b o u,H b=some (.frz o u)->H' b=some (.frz o u)
 tbls:∀b ps,H b=some (.tbl ps)->∃more,H' b=some (.tbl (ps++more))
variable {fs fs' ex ex':List Addr}{H1 H2:Hp}{h1 h2:Heap}
theorem Un.any(u:Un fs ex H H1 h h1){b:Addr}{ob:Obj}(q:h.get? b=some ob)(n:H b=none)(hx:b∉ex):∃sl,h1.get? b=some { ob with slots:=sl }:=by
 by_cases hb:b∈fs
 ·exact u.slot b ob q n hb hx
 ·exact⟨ob.slots,u.keep b ob q n hb hx⟩
theorem Un.kept(k:∀b u,h.get? b=some u->h'.get? b=some u):Un fs ex H H h h':=
 ⟨fun b ob q _ _ _=>k b ob q,fun b ob q _ _ _=>⟨ob.slots,k b ob q⟩,fun _ _ _ n _=>n,fun b ob q _=>⟨ob,k b ob q⟩,fun _ _ q=>q,fun _ _ _ q=>q,fun _ ps q=>⟨#[],by rw[q];simp⟩⟩
theorem Un.refl:Un fs ex H H h h:=Un.kept fun _ _ q=>q
theorem Un.laid(k:∀b u,h.get? b=some u->h'.get? b=some u)(hp:h.objs.size<=a)(hn:H a=none):Un fs ex H (upd H a o) h h' where
 keep:=fun b u q _ _ _=>k b u q
 slot:=fun b u q _ _ _=>⟨u.slots,k b u q⟩
 free:=fun b u q n _=>by rw[zg (ne_of_lt (lt_of_lt_of_le (Heap.lt_size q) hp))];exact n
 there:=fun b u q _=>⟨u,k b u q⟩
 tups:=fun b xs q=>by rw[zg (zi q hn)];exact q
 frzs:=fun b u xs q=>by rw[zg (zi q hn)];exact q
 tbls:=fun b ps q=>⟨#[],by rw[zg (zi q hn),q];simp⟩
theorem Un.write(mu:Mut (H x))(he:e=x\/H e=some (.own x))(k:∀b u,b≠e->h.get? b=some u->h'.get? b=some u)(heo:∃u,h'.get? e=some u):Un fs ex H (upd H x o) h h':=by
 have hx:∀b,H b=none->b≠x:=fun b n z=>by subst z;rw[n] at mu;exact mu
 have hb:∀b,H b=none->b≠e:=fun b n z=>by
  subst z;rcases he with r|r
  ·exact hx b n r
  ·rw[n] at r;cases r
 have hm:∀b u,H b=some u->¬Mut (some u)->b≠x:=fun b u q nm z=>by subst z;rw[q] at mu;exact nm mu
 refine⟨fun b u q n _ _=>k b u (hb b n) q,fun b u q n _ _=>⟨u.slots,k b u (hb b n) q⟩,fun b u q n _=>by rw[zg (hx b n)];exact n,fun b u q _=>?_,
  fun b xs q=>by rw[zg (hm b _ q fun z=>z)];exact q,fun b u xs q=>by rw[zg (hm b _ q fun z=>z)];exact q,fun b ps q=>⟨#[],by rw[zg (hm b _ q fun z=>z),q];simp⟩⟩
 by_cases hbe:b=e
 ·subst hbe;exact heo
 ·exact⟨u,k b u hbe q⟩
def trk(h:Heap)(H:Hp):List Addr:=(List.range h.objs.size).filter fun a=>(H a).isSome
def zay(h:Heap)(H:Hp):Heap:=hideAll h (trk h H)
theorem zdQ(h:Heap)(H:Hp):(zay h H).objs.size=h.objs.size:=PySem.W.hideAll_size _ _
theorem zfJ{h:Heap}{H:Hp}{b:Addr}{o:Obj}(e:h.get? b=some o)(n:H b=none):(zay h H).get? b=some o:=
 PySem.W.hideAll_get _ e fun hm=>by
  have q:(H b).isSome=true:=(List.mem_filter.mp hm).2;rw[n] at q;simp at q
theorem zg2{h:Heap}{H:Hp}{b:Addr}{o:Obj}(e:(zay h H).get? b=some o):h.get? b=some o/\H b=none:=by
 have e':h.get? b=some o:=PySem.W.of_hideAll (trk h H) e;exists e',?_;cases q:H b with
 | none=>rfl
 | some x=>
  have hm:b∈trk h H:=List.mem_filter.mpr ⟨List.mem_range.mpr (Heap.lt_size e'),by simp [q]⟩
  have z:(zay h H).get? b=none:=hideAll_none (trk h H) hm;rw[z] at e;cases e
def zhv(g h:Heap)(L:Addr):List (Addr×Obj):=(List.range h.objs.size).filterMap fun a=>if a=L\/(g.get? a).isSome=true then none else (h.get? a).map fun o=>(a,o)
def xk(g h:Heap)(L d:Addr):List (Addr×Obj):=(zhv g h L).filter fun p=>decide (p.1≠d)
structure Mod(K:Frag)(mg:Str->Option Value)(base:Heap):Prop where
 kin:K.In base
 glob:base.Ns mainGlobals mg
 blt:∃mb,base.Ns builtinsNs mb/\∀x:Str,x≠"__name__"->mb x=bootBuiltins x
 nolimit:base.NoLimit
structure Cx where
 prog:Program
 w:World
 K:Frag
 mg:Str->Option Value
 base:Heap
 A:Around
 N:List Str
 s₀:Shared
 H₀:Hp
 env:Env
 outer:List Env
 stack:List Env
 ex:List Addr
 fn:Str->Bool
 calm:Bool
 pn:List (Addr×Obj)
 xe:Value->Shared->Prop
def frs(l:List Env):List Addr:=l.filterMap (·.frame)
end
abbrev Cx.fs(X:Cx):List Addr:=frs X.outer
def Vis(sc:Scope)(x:Str):Prop:=sc.names.lookup x=some .local\/sc.names.lookup x=some .cell\/sc.names.lookup x=some .free
def Loc(sc:Scope)(x:Str):Prop:=sc.names.lookup x=some .local\/sc.names.lookup x=some .cell
def zk7(env:Env)(h:Heap)(m:Str->Option Value)(x:Str)(u:Value):Prop:=
 (env.kindOf x=some .local/\m x=some u)\/((env.kindOf x=some .cell\/env.kindOf x=some .free)/\∃c,env.cells.lookup x=some c/\h.IsCell c (some u))
structure Cx.Ok(X:Cx):Prop where
 mod:Mod X.K X.mg X.base
 kind:X.env.scope.kind=.function
 glob:X.env.globals=mainGlobals
 blt:X.env.builtins=builtinsNs
 above:X.s₀.heap.objs.size<=X.env.locals
 inj:∀x y c,X.env.cells.lookup x=some c->X.env.cells.lookup y=some c->x=y
 has:∀x,(X.env.kindOf x=some .cell\/X.env.kindOf x=some .free)->∃c,X.env.cells.lookup x=some c
 cab:∀x c,X.fn x=true->X.env.cells.lookup x=some c->X.s₀.heap.objs.size<=c
 hd:X.calm=true->X.A.handled=none
 frames:X.A.frames=some X.stack
 stk:X.stack=X.outer\/(X.stack=X.env::X.outer/\X.env.frame=some X.env.locals)
 exf:∀b∈X.ex,b≠X.env.locals/\∀x c,X.env.cells.lookup x=some c->c≠b
 bs:∀b o,X.base.get? b=some o->X.s₀.heap.get? b=some o/\X.H₀ b=none
 bsz:X.base.objs.size<=X.s₀.heap.objs.size
 noex:∀b o,X.base.get? b=some o->b∉X.ex
 exfs:∀b∈X.ex,b∉X.fs
 funs:X.s₀.heap.FunFrames X.base X.outer
 frf:∀b∈X.fs,X.H₀ b=none
structure Inv(X:Cx)(pins:PnL)(σ : List (Option V))(H:Hp)(s:Shared):Prop where
 ok:X.Ok
 os:s.os=X.s₀.os
 bare:AllBare s.gens
 base:Un X.fs X.ex X.H₀ H X.s₀.heap s.heap
 loc:∃m,s.heap.Ns X.env.locals m/\∀(i:Nat) (x:Str) (v:V),X.N[i]?=some x->σ[i]?=some (some v)->Vis X.env.scope x->∃u,ya v u/\zk7 X.env s.heap m x u
 cell:∀x c,X.env.cells.lookup x=some c->∃v,s.heap.IsCell c v
 free:H X.env.locals=none
 freeC:∀x c,X.env.cells.lookup x=some c->H c=none
 pin:∀p∈X.pn++pins,s.heap.get? p.1=some p.2/\H p.1=none/\p.1≠X.env.locals/\p.1∉X.fs/\∀v,p.2.data≠.cell v
 hok:HOk X.prog X.w H s.heap
 len : σ.length=X.N.length
section
variable {X:Cx}{pins:PnL}{σ:List (Option V)}{H H':Hp}{s:Shared}{h':Heap}
theorem Cx.Ok.nofr(ok:X.Ok){b:Addr}{o:Obj}(e:X.base.get? b=some o):b∉X.fs:=fun hb=>by
 have:=(ok.funs.mem hb).1
 rw[e] at this;cases this
theorem Inv.bs(I:Inv X pins σ H s):∀b o,X.base.get? b=some o->s.heap.get? b=some o/\H b=none:=fun b o e=>
 ⟨I.base.keep b o (I.ok.bs b o e).1 (I.ok.bs b o e).2 (I.ok.nofr e) (I.ok.noex b o e),I.base.free b o (I.ok.bs b o e).1 (I.ok.bs b o e).2 (I.ok.noex b o e)⟩
theorem Inv.bk(I:Inv X pins σ H s):∀b o,X.base.get? b=some o->s.heap.get? b=some o:=fun b o e=>(I.bs b o e).1
theorem Inv.mod(I:Inv X pins σ H s):Mod X.K X.mg X.base:=I.ok.mod
theorem Inv.kIn(I:Inv X pins σ H s):X.K.In s.heap:=I.ok.mod.kin.keeps I.bk
theorem Inv.lt(I:Inv X pins σ H s):X.env.locals<s.heap.objs.size:=let ⟨_,hn,_⟩:=I.loc;hn.lt
theorem Inv.sz(I:Inv X pins σ H s):X.s₀.heap.objs.size<=s.heap.objs.size:=le_trans I.ok.above (le_of_lt I.lt)
theorem Inv.nofs(I:Inv X pins σ H s){a:Addr}(h:s.heap.objs.size<=a):a∉X.fs:=fun hb=>by
 obtain⟨_,o,ho,_⟩:=I.ok.funs.mem hb;exact absurd (lt_of_lt_of_le (Heap.lt_size ho) (le_trans I.sz h)) (lt_irrefl _)
theorem Inv.cne(I:Inv X pins σ H s):∀x c,X.env.cells.lookup x=some c->c≠X.env.locals:=fun x c e z=>by
 obtain⟨v,o,ho,hd⟩:=I.cell x c e;obtain⟨m,⟨o',es,ep,ho',hd',_⟩,_⟩:=I.loc;rw[z,ho'] at ho;cases ho;rw[hd'] at hd;cases hd
theorem Inv.funs(I:Inv X pins σ H s):s.heap.FunFrames X.base X.outer:=by
 have all:∀(l:List Env),(∀b∈frs l,b∈X.fs)->X.s₀.heap.FunFrames X.base l->s.heap.FunFrames X.base l:=by
  intro l;induction l with
  | nil=>intro _ _;trivial
  | cons env r ih=>
   intro hs hl;obtain⟨hk,⟨L,o,hf,hn,ho,hd⟩,hr⟩:=hl;have hL:L∈X.fs:=hs L (by unfold frs;rw[filterMap_cons,hf];exact mem_cons_self)
   obtain⟨sl,e⟩:=I.base.slot L o ho (I.ok.frf L hL) hL fun z=>I.ok.exfs L z hL;exact⟨hk,⟨L,_,hf,hn,e,hd⟩,ih (fun b hb=>hs b (by unfold frs;rw[filterMap_cons,hf];exact mem_cons_of_mem _ hb)) hr⟩
 exact all X.outer (fun _ hb=>hb) I.ok.funs
theorem Inv.stack(I:Inv X pins σ H s):s.heap.FunFrames X.base X.stack:=by
 rcases I.ok.stk with e|⟨e,hf⟩
 ·rw[e];exact I.funs
 ·rw[e]
  obtain⟨m,hn,_⟩:=I.loc;refine .cons (by rw[I.ok.kind];decide) hf hn ?_ I.funs
  exact Heap.get?_none_of_le (le_trans I.ok.bsz I.ok.above)
theorem Inv.stkSub(I:Inv X pins σ H s):∀b∈frs X.stack,b∈X.env.locals::X.fs:=fun b hb=>by
 rcases I.ok.stk with e|⟨e,hf⟩
 ·rw[e] at hb;exact mem_cons_of_mem _ hb
 ·rw[e] at hb
  unfold frs at hb;rw[filterMap_cons,hf] at hb;exact hb
theorem Inv.stkFree(I:Inv X pins σ H s):∀b∈frs X.stack,H b=none:=fun b hb=>by
 rcases List.mem_cons.mp (I.stkSub b hb) with e|hb
 ·rw[e];exact I.free
 ·obtain⟨_,o,ho,_⟩:=I.ok.funs.mem hb
  exact I.base.free b o ho (I.ok.frf b hb) fun z=>I.ok.exfs b z hb
theorem Inv.step{g':Array GenState}{t':Nat}{d':Drawn}{ch:List Addr}(I:Inv X pins σ H s)
  (hch:∀b∈ch,(b∈X.ex\/X.s₀.heap.objs.size<=b)/\b≠X.env.locals/\(∀x c,X.env.cells.lookup x=some c->c≠b)/\∀p∈X.pn++pins,p.1≠b)
  (keep:∀b o,b≠X.env.locals->b∉X.fs->b∉ch->s.heap.get? b=some o->H b=none->h'.get? b=some o)
  (slot:∀b o,b≠X.env.locals->b∈X.fs->b∉ch->s.heap.get? b=some o->H b=none->∃sl,h'.get? b=some { o with slots:=sl }) (free:∀b o,b∉ch->s.heap.get? b=some o->H b=none->H' b=none)
  (there:∀b o,b∉ch->s.heap.get? b=some o->∃o',h'.get? b=some o')
  (tups:∀b xs,H b=some (.tup xs)->H' b=some (.tup xs)) (frzs:∀b o u,H b=some (.frz o u)->H' b=some (.frz o u)) (tbls:∀b ps,H b=some (.tbl ps)->∃more,H' b=some (.tbl (ps++more)))
  (ns:∀m,s.heap.Ns X.env.locals m->h'.Ns X.env.locals m) (hok:HOk X.prog X.w H' h') (hg:AllBare g') :
  Inv X pins σ H' { s with heap:=h',gens:=g',drawn:=d',toks:=t' }:=by
 have neL:∀b o,X.s₀.heap.get? b=some o->b≠X.env.locals:=fun b o e=>ne_of_lt (lt_of_lt_of_le (Heap.lt_size e) I.ok.above);have neC:∀b o,X.s₀.heap.get? b=some o->b∉X.ex->b∉ch:=fun b o e hx hb=>by
  rcases (hch b hb).1 with z|z
  ·exact hx z
  ·exact absurd (lt_of_lt_of_le (Heap.lt_size e) z) (lt_irrefl _)
 have cellK:∀x c,X.env.cells.lookup x=some c->∀v,s.heap.IsCell c v->h'.IsCell c v:=fun x c e v ⟨o,ho,hd⟩=>by
  have nch:c∉ch:=fun z=>(hch c z).2.2.1 x c e rfl;by_cases hc:c∈X.fs
  ·obtain⟨sl,q⟩:=slot c o (I.cne x c e) hc nch ho (I.freeC x c e)
   exact⟨_,q,hd⟩
  ·exact⟨o,keep c o (I.cne x c e) hc nch ho (I.freeC x c e),hd⟩
 exists I.ok,I.os,hg,⟨fun b o e n hb hx=>?_,fun b o e n hb hx=>?_,fun b o e n hx=>?_,fun b o e hx=>?_,fun b xs e=>tups b xs (I.base.tups b xs e),fun b o xs e=>frzs b o xs (I.base.frzs b o xs e),fun b ps e=>?_⟩,?_,fun x c e=>?_,?_,fun x c e=>?_,fun p hp=>?_,hok,I.len
 ·exact keep b o (neL b o e) hb (neC b o e hx) (I.base.keep b o e n hb hx) (I.base.free b o e n hx)
 ·obtain⟨sl,e1⟩:=I.base.slot b o e n hb hx
  obtain⟨sl',e2⟩:=slot b _ (neL b o e) hb (neC b o e hx) e1 (I.base.free b o e n hx);exact⟨sl',e2⟩
 ·obtain⟨o',e1⟩:=I.base.there b o e hx
  exact free b o' (neC b o e hx) e1 (I.base.free b o e n hx)
 ·obtain⟨o',e1⟩:=I.base.there b o e hx
  exact there b o' (neC b o e hx) e1
 ·obtain⟨m1,e1⟩:=I.base.tbls b ps e
  obtain⟨m2,e2⟩:=tbls b _ e1;exact⟨m1++m2,by rw[e2,Array.append_assoc]⟩
 ·obtain⟨m,hn,hl⟩:=I.loc
  exists m,ns m hn,fun i x v e1 e2 e3=>?_;obtain⟨u,r,l⟩:=hl i x v e1 e2 e3;exists u,r,?_;rcases l with l|⟨k,c,e,z⟩
  ·exact .inl l
  ·exact .inr ⟨k,c,e,cellK x c e _ z⟩
 ·obtain⟨v,z⟩:=I.cell x c e
  exact⟨v,cellK x c e v z⟩
 ·obtain⟨m,⟨o,_,_,ho,_⟩,_⟩:=I.loc
  exact free _ o (fun z=>(hch _ z).2.1 rfl) ho I.free
 ·obtain⟨v,o,ho,hd⟩:=I.cell x c e
  exact free c o (fun z=>(hch c z).2.2.1 x c e rfl) ho (I.freeC x c e)
 ·obtain⟨e,n,ne,nf,d⟩:=I.pin p hp
  have nch:p.1∉ch:=fun z=>(hch p.1 z).2.2.2 p hp rfl;exact⟨keep p.1 p.2 ne nf nch e n,free p.1 p.2 nch e n,ne,nf,d⟩
theorem Inv.un{t':Nat}(I:Inv X pins σ H s)(u:Un X.fs [] H H' s.heap h')(hok:HOk X.prog X.w H' h'):Inv X pins σ H' { s with heap:=h',toks:=t' }:=by
 obtain⟨m,⟨o,es,ep,ho,r⟩,_⟩:=id I.loc;obtain⟨sl,hL⟩:=u.any ho I.free (by simp)
 exact I.step (g':=s.gens) (d':=s.drawn) (ch:=[]) (fun _ z=>nomatch z) (fun b o _ hb _ e n=>u.keep b o e n hb (by simp)) (fun b o _ hb _ e n=>u.slot b o e n hb (by simp)) (fun b o _ e n=>u.free b o e n (by simp)) (fun b o _ e=>u.there b o e (by simp)) u.tups u.frzs u.tbls (fun m' hm=>by
  obtain⟨o',es',ep',ho',r'⟩:=hm;rw[ho] at ho';cases ho';exact⟨_,es',ep',hL,r'⟩) hok I.bare
theorem Inv.call{g':Array GenState}{t':Nat}{d':Drawn}{ch:List Addr}(I:Inv X pins σ H s)(u:Un (frs X.stack) ch H H' s.heap h')(hok:HOk X.prog X.w H' h')(hg:AllBare g')
  (hch:∀b∈ch,(b∈X.ex\/X.s₀.heap.objs.size<=b)/\b≠X.env.locals/\(∀x c,X.env.cells.lookup x=some c->c≠b)/\∀p∈X.pn++pins,p.1≠b) :
  Inv X pins σ H' { s with heap:=h',gens:=g',drawn:=d',toks:=t' }:=by
 obtain⟨m,⟨o,es,ep,ho,r⟩,_⟩:=id I.loc;obtain⟨sl,hL⟩:=u.any ho I.free fun z=>(hch _ z).2.1 rfl;exact I.step (ch:=ch) hch (fun b o hL hb hc e n=>u.keep b o e n (fun z=>(List.mem_cons.mp (I.stkSub b z)).elim hL hb) hc) (fun b o _ _ hc e n=>u.any e n hc) (fun b o hc e n=>u.free b o e n hc) (fun b o hc e=>u.there b o e hc) u.tups u.frzs u.tbls (fun m' hm=>by
  obtain⟨o',es',ep',ho',r'⟩:=hm;rw[ho] at ho';cases ho';exact⟨_,es',ep',hL,r'⟩) hok hg
theorem Inv.turned{t':Nat}{it:Addr}(I:Inv X pins σ H s)(k:∀b o,b≠it->s.heap.get? b=some o->h'.get? b=some o)(hn:H it=none)(hL:it≠X.env.locals)
  (h1:it∈X.ex\/X.s₀.heap.objs.size<=it) (h2:∀x c,X.env.cells.lookup x=some c->c≠it) (h3:∀p∈X.pn++pins,p.1≠it):Inv X pins σ H { s with heap:=h',toks:=t' }:=by
 have nit:∀b u,H b=some u->b≠it:=fun b u e z=>by rw[z,hn] at e;cases e
 refine I.step (g':=s.gens) (d':=s.drawn) (ch:=[it]) (fun b hb=>?_) (fun b o _ _ hc e _=>k b o (fun z=>hc (by simp [z])) e) (fun b o _ _ hc e _=>⟨o.slots,k b o (fun z=>hc (by simp [z])) e⟩) (fun _ _ _ _ n=>n)
  (fun b o hc e=>⟨o,k b o (fun z=>hc (by simp [z])) e⟩) (fun _ _ e=>e) (fun _ _ _ e=>e) (fun b ps e=>⟨#[],by rw[e];simp⟩) (fun m hm=>?_) (fun b u e=>?_) I.bare
 ·have e:b=it:=by simpa using hb
  subst e;exact⟨h1,hL,h2,h3⟩
 ·obtain⟨o,es,ep,ho,r⟩:=hm
  exact⟨o,es,ep,k _ o (Ne.symm hL) ho,r⟩
 ·refine(I.hok b u e).stay (fun c v hc q=>k c v ?_ q) (fun _ q=>q) fun _ _ q=>q
  rcases hc with z|z
  ·rw[z];exact nit b u e
  ·exact nit c _ z
theorem Inv.tok(I:Inv X pins σ H s)(t:Nat):Inv X pins σ H { s with toks:=t }:=I.un (h':=s.heap) (t':=t) Un.refl I.hok
theorem Inv.kept{t':Nat}(I:Inv X pins σ H s)(k:∀b u,s.heap.get? b=some u->h'.get? b=some u):Inv X pins σ H { s with heap:=h',toks:=t' }:=I.un (Un.kept k) (I.hok.kept k)
theorem Inv.laid{a:Addr}{o:HO}{t':Nat}(I:Inv X pins σ H s)(k:∀b u,s.heap.get? b=some u->h'.get? b=some u)(hp:s.heap.objs.size<=a)(new:yu X.prog X.w (upd H a o) h' a o):
  Inv X pins σ (upd H a o) { s with heap:=h',toks:=t' }:=I.un (Un.laid k hp (I.hok.fresh hp)) (I.hok.laid k hp new)
theorem Inv.write{x e:Addr}{o:HO}{t':Nat}(I:Inv X pins σ H s)(mu:Mut (H x))(he:e=x\/H e=some (.own x))(k:∀b u,b≠e->s.heap.get? b=some u->h'.get? b=some u)(heo:∃u,h'.get? e=some u)
  (new:yu X.prog X.w (upd H x o) h' x o):Inv X pins σ (upd H x o) { s with heap:=h',toks:=t' }:=I.un (Un.write mu he k heo) (I.hok.write mu he k heo new)
theorem Inv.weak{σ':List (Option V)}(I:Inv X pins σ H s)(hl : σ'.length=σ.length)(w:∀(i:Nat) v,σ'[i]?=some (some v)->σ[i]?=some (some v)):Inv X pins σ' H s:=
 ⟨I.ok,I.os,I.bare,I.base,let ⟨m,hn,hl'⟩:=I.loc;⟨m,hn,fun i x v e1 e2 e3=>hl' i x v e1 (w i v e2) e3⟩,I.cell,I.free,I.freeC,I.pin,I.hok,hl.trans I.len⟩
theorem Inv.pins_of{pins':PnL}(I:Inv X pins σ H s)(h:∀p∈pins',s.heap.get? p.1=some p.2/\H p.1=none/\p.1≠X.env.locals/\p.1∉X.fs/\∀v,p.2.data≠.cell v):Inv X pins' σ H s:=
 ⟨I.ok,I.os,I.bare,I.base,I.loc,I.cell,I.free,I.freeC,fun p hp=>(List.mem_append.mp hp).elim (fun z=>I.pin p (mem_append_left _ z)) (h p),I.hok,I.len⟩
theorem jL{N:List Str}(hN:N.Nodup){i j:Nat}{x:Str}(a:N[i]?=some x)(b:N[j]?=some x):i=j:=by
 obtain⟨h1,e1⟩:=List.getElem?_eq_some_iff.mp a;obtain⟨h2,e2⟩:=List.getElem?_eq_some_iff.mp b;exact(List.getElem_inj hN).mp (e1.trans e2.symm)
theorem qo{M:Model}{A:Around}{E:VSP}{i:Nat}{x:Str}{v:V}{u:Value}{Q:Unit->Shared->Prop}(I:Inv X pins σ H s)(hN:X.N.Nodup)(hi:X.N[i]?=some x)(hx:Loc X.env.scope x)(r:ya v u)
  (h:∀s',Inv X pins (σ.set i (some v)) H s'->(∃a,Heap.SameBut a s.heap s'.heap/\(a=X.env.locals\/X.env.cells.lookup x=some a))->Q () s') (hf:X.fn x=true\/X.env.scope.names.lookup x=some .local:=by first|exact .inl rfl|exact .inr rfl|assumption):wpAny M A (storeName X.env x u) Q E s:=by
 obtain⟨m,hn,hl⟩:=id I.loc;have hcls:(X.env.scope.kind==.class||(X.env.scope.kind==.module&&X.env.locals != X.env.globals))=false:=by rw[I.ok.kind];rfl
 have hiσ : i<σ.length:=by rw[I.len];exact(List.getElem?_eq_some_iff.mp hi).1
 have cne:=I.cne;have tracked:∀{a:Addr}{h':Heap},(∃o,s.heap.get? a=some o/\H a=none)->Heap.SameBut a s.heap h'->HOk X.prog X.w H h':=fun {a h'} ha hs b ob e=>by
  obtain⟨_,_,hfree⟩:=ha;refine(I.hok b ob e).stay (fun c w' hc q=>(hs.2 c ?_).trans q) (fun _ q=>q) fun _ _ q=>q;rintro rfl;rcases hc with rfl|hc
  ·rw[hfree] at e;cases e
  ·rw[hfree] at hc;cases hc
 rcases hx with hk|hk
 ·refine wpAny_storeName_local hk hn (fun h' hn' hs=>?_) hcls
  obtain⟨oL,_,_,hoL,_⟩:=id hn;refine h _ ⟨I.ok,I.os,I.bare,⟨fun b o e n hb hx=>?_,fun b o e n hb hx=>?_,I.base.free,fun b o e hx=>?_,I.base.tups,I.base.frzs,I.base.tbls⟩,⟨_,hn',fun j y v' e1 e2 e3=>?_⟩,fun y c e=>?_,I.free,I.freeC,fun p hp=>?_,tracked ⟨oL,hoL,I.free⟩ hs,by simpa using I.len⟩ ⟨_,hs,.inl rfl⟩
  ·exact(hs.2 b (ne_of_lt (lt_of_lt_of_le (Heap.lt_size e) I.ok.above))).trans (I.base.keep b o e n hb hx)
  ·obtain⟨sl,e1⟩:=I.base.slot b o e n hb hx
   exact⟨sl,(hs.2 b (ne_of_lt (lt_of_lt_of_le (Heap.lt_size e) I.ok.above))).trans e1⟩
  ·obtain⟨o',e1⟩:=I.base.there b o e hx
   exact⟨o',(hs.2 b (ne_of_lt (lt_of_lt_of_le (Heap.lt_size e) I.ok.above))).trans e1⟩
  ·by_cases hj:j=i
   ·subst hj
    rw[hi] at e1;cases e1;rw[getElem?_set_self hiσ] at e2;cases e2;exact⟨u,r,.inl ⟨hk,by simp⟩⟩
   ·rw[getElem?_set_ne (Ne.symm hj)] at e2
    obtain⟨u',r',q⟩:=hl j y v' e1 e2 e3;exists u',r',?_;rcases q with ⟨k,e⟩|⟨k,c,e,z⟩
    ·refine .inl ⟨k,?_⟩
     have:y≠x:=fun e=>hj (jL hN e1 (e ▸ hi))
     simp [this,e]
    ·exact .inr ⟨k,c,e,z.sameBut hs (cne y c e)⟩
  ·obtain⟨w',z⟩:=I.cell y c e
   exact⟨w',z.sameBut hs (cne y c e)⟩
  ·obtain⟨e,n,ne,nf,d⟩:=I.pin p hp
   exact⟨(hs.2 p.1 ne).trans e,n,ne,nf,d⟩
 ·have hfn:X.fn x=true:=by
   rcases hf with z|z
   ·exact z
   ·rw[z] at hk;cases hk
  obtain⟨c,hc⟩:=I.ok.has x (.inl hk);obtain⟨w',z⟩:=I.cell x c hc;refine wpAny_storeName_cell I.ok.kind hk hc z (fun h' hc' hs=>?_);obtain⟨oc,hoc,hocd⟩:=id z;refine h { s with heap:=h' } ⟨I.ok,I.os,I.bare,⟨fun b o e n hb hx=>?_,fun b o e n hb hx=>?_,I.base.free,fun b o e hx=>?_,I.base.tups,I.base.frzs,I.base.tbls⟩,⟨m,hn.sameBut hs (Ne.symm (cne x c hc)),fun j y v' e1 e2 e3=>?_⟩,fun y c' e=>?_,I.free,I.freeC,fun p hp=>?_,tracked ⟨oc,hoc,I.freeC x c hc⟩ hs,by simpa using I.len⟩ ⟨c,hs,.inr hc⟩
  ·exact(hs.2 b (ne_of_lt (lt_of_lt_of_le (Heap.lt_size e) (I.ok.cab x c hfn hc)))).trans (I.base.keep b o e n hb hx)
  ·obtain⟨sl,e1⟩:=I.base.slot b o e n hb hx
   exact⟨sl,(hs.2 b (ne_of_lt (lt_of_lt_of_le (Heap.lt_size e) (I.ok.cab x c hfn hc)))).trans e1⟩
  ·obtain⟨o',e1⟩:=I.base.there b o e hx
   exact⟨o',(hs.2 b (ne_of_lt (lt_of_lt_of_le (Heap.lt_size e) (I.ok.cab x c hfn hc)))).trans e1⟩
  ·by_cases hj:j=i
   ·subst hj
    rw[hi] at e1;cases e1;rw[getElem?_set_self hiσ] at e2;cases e2;exact⟨u,r,.inr ⟨.inl hk,c,hc,hc'⟩⟩
   ·rw[getElem?_set_ne (Ne.symm hj)] at e2
    obtain⟨u',r',q⟩:=hl j y v' e1 e2 e3;exists u',r',?_;rcases q with q|⟨k,c',e,z'⟩
    ·exact .inl q
    ·refine .inr ⟨k,c',e,z'.sameBut hs ?_⟩
     rintro rfl;exact hj (jL hN e1 (I.ok.inj _ _ _ e hc ▸ hi))
  ·by_cases hcc:c'=c
   ·subst hcc;exact⟨_,hc'⟩
   ·obtain⟨w2,z2⟩:=I.cell y c' e
    exact⟨w2,z2.sameBut hs hcc⟩
  ·obtain⟨e,n,ne,nf,d⟩:=I.pin p hp
   exists (hs.2 p.1 ?_).trans e,n,ne,nf,d;intro q;rw[q,hoc] at e;have q':oc=p.2:=Option.some.inj e;exact d w' (by rw[<- q'];exact hocd)
theorem vd{M:Model}{A:Around}{E:VSP}{i:Nat}{x:Str}{v:V}{u:Value}{Q:Unit->Shared->Prop}(I:Inv X pins σ H s)(hN:X.N.Nodup)(hi:X.N[i]?=some x)(hx:Loc X.env.scope x)(r:ya v u)
  (h:∀s',Inv X pins (σ.set i (some v)) H s'->Q () s') (hf:X.fn x=true\/X.env.scope.names.lookup x=some .local:=by first|exact .inl rfl|exact .inr rfl|assumption):wpAny M A (storeName X.env x u) Q E s:=
 qo I hN hi hx r (fun s' I' _=>h s' I') hf
theorem Inv.call'{s':Shared}{ch:List Addr}(I:Inv X pins σ H s)(ho:s'.os=s.os)(u:Un (frs X.stack) ch H H' s.heap s'.heap)(hok:HOk X.prog X.w H' s'.heap)(hg:AllBare s'.gens)
  (hch:∀b∈ch,(b∈X.ex\/X.s₀.heap.objs.size<=b)/\b≠X.env.locals/\(∀x c,X.env.cells.lookup x=some c->c≠b)/\∀p∈X.pn++pins,p.1≠b):Inv X pins σ H' s':=by
 obtain⟨h',g',d',t',o'⟩:=s';have e:o'=s.os:=ho;subst e;exact I.call (g':=g') (t':=t') (d':=d') u hok hg hch
abbrev XK:=Value->Option Addr->Hp->Prop
abbrev St:=List (Option V)
abbrev VK:=V->Hp->Prop
abbrev TE:=St->Hp->VK->Prop
abbrev TT:=St->Hp->(Bool->Hp->Prop)->Prop
abbrev TA:=St->Hp->(List V->Hp->Prop)->Prop
structure w4 where
 nx:St->Hp->Prop
 rt:VK
 bk:St->Hp->Prop:=fun _ _=>False
 ct:St->Hp->Prop:=fun _ _=>False
abbrev TS:=w4->St->Hp->Prop
def EP(X:Cx)(pins:PnL)(σ : St)(Q:VK)(u:Value)(s':Shared):Prop:=∃v H',Inv X pins σ H' s'/\ya v u/\Q v H'
def TP(X:Cx)(pins:PnL)(σ : St)(Q:Bool->Hp->Prop)(b:Bool)(s':Shared):Prop:=∃H',Inv X pins σ H' s'/\Q b H'
def AP(X:Cx)(pins:PnL)(σ : St)(Q:List V->Hp->Prop)(us:List Value)(s':Shared):Prop:=∃vs H',Inv X pins σ H' s'/\zX vs us/\Q vs H'
def SP(X:Cx)(pins:PnL)(D:w4)(f:Flow)(s':Shared):Prop:=
 match f with
 | .next=>∃σ' H',Inv X pins σ' H' s'/\D.nx σ' H'
 | .brk=>∃σ' H',Inv X pins σ' H' s'/\D.bk σ' H'
 | .cont=>∃σ' H',Inv X pins σ' H' s'/\D.ct σ' H'
 | .ret u=>∃v σ' H',Inv X pins σ' H' s'/\ya v u/\D.rt v H'
structure PE(X:Cx)(e:Expr)(t:TE):Prop where
 run:∀(pins:PnL) (s:Shared) (σ : St) (H:Hp) (Q:VK),Inv X pins σ H s->t σ H Q->wpAny (model X.prog X.w) X.A (eval e X.env) (EP X pins σ Q) X.xe s
instance {X:Cx}{e:Expr}{t:TE}:CoeFun (PE X e t) (fun _=>∀(pins:PnL) (s:Shared) (σ : St) (H:Hp) (Q:VK),Inv X pins σ H s->t σ H Q->wpAny (model X.prog X.w) X.A (eval e X.env) (EP X pins σ Q) X.xe s):=⟨PE.run⟩
structure PT(X:Cx)(e:Expr)(t:TT):Prop where
 run:∀(pins:PnL) (s:Shared) (σ : St) (H:Hp) (Q:Bool->Hp->Prop),Inv X pins σ H s->t σ H Q->wpAny (model X.prog X.w) X.A (isTrue e X.env (eval e X.env)) (TP X pins σ Q) X.xe s
instance {X:Cx}{e:Expr}{t:TT}:CoeFun (PT X e t) (fun _=>∀(pins:PnL) (s:Shared) (σ : St) (H:Hp) (Q:Bool->Hp->Prop),Inv X pins σ H s->t σ H Q->wpAny (model X.prog X.w) X.A (isTrue e X.env (eval e X.env)) (TP X pins σ Q) X.xe s):=⟨PT.run⟩
structure PW(X:Cx)(e:Expr)(t:TT):Prop where
 run:∀(whole:Sem Value) (pins:PnL) (s:Shared) (σ : St) (H:Hp) (Q:Bool->Hp->Prop),Inv X pins σ H s->t σ H Q->wpAny (model X.prog X.w) X.A (isTrue e X.env whole) (TP X pins σ Q) X.xe s
instance {X:Cx}{e:Expr}{t:TT}:CoeFun (PW X e t) (fun _=>∀(whole:Sem Value) (pins:PnL) (s:Shared) (σ : St) (H:Hp) (Q:Bool->Hp->Prop),Inv X pins σ H s->t σ H Q->wpAny (model X.prog X.w) X.A (isTrue e X.env whole) (TP X pins σ Q) X.xe s):=⟨PW.run⟩
theorem wq{X:Cx}{e:Expr}{t:TT}(h:PW X e t):PT X e t:=⟨h _⟩
structure PA(X:Cx)(es:List Expr)(t:TA):Prop where
 run:∀(pos:Pos) (pins:PnL) (s:Shared) (σ : St) (H:Hp) (Q:List V->Hp->Prop),Inv X pins σ H s->t σ H Q->wpAny (model X.prog X.w) X.A (spliced (backTo pos (starEach es X.env))) (AP X pins σ Q) X.xe s
instance {X:Cx}{es:List Expr}{t:TA}:CoeFun (PA X es t) (fun _=>∀(pos:Pos) (pins:PnL) (s:Shared) (σ : St) (H:Hp) (Q:List V->Hp->Prop),Inv X pins σ H s->t σ H Q->wpAny (model X.prog X.w) X.A (spliced (backTo pos (starEach es X.env))) (AP X pins σ Q) X.xe s):=⟨PA.run⟩
structure PS(X:Cx)(st:Stmt)(t:TS):Prop where
 run:∀(pins:PnL) (s:Shared) (σ : St) (H:Hp) (D:w4),Inv X pins σ H s->t D σ H->wpAny (model X.prog X.w) X.A (exec st X.env) (SP X pins D) X.xe s
instance {X:Cx}{st:Stmt}{t:TS}:CoeFun (PS X st t) (fun _=>∀(pins:PnL) (s:Shared) (σ : St) (H:Hp) (D:w4),Inv X pins σ H s->t D σ H->wpAny (model X.prog X.w) X.A (exec st X.env) (SP X pins D) X.xe s):=⟨PS.run⟩
structure PSs(X:Cx)(st:List Stmt)(t:TS):Prop where
 run:∀(pins:PnL) (s:Shared) (σ : St) (H:Hp) (D:w4),Inv X pins σ H s->t D σ H->wpAny (model X.prog X.w) X.A (execs st X.env) (SP X pins D) X.xe s
instance {X:Cx}{st:List Stmt}{t:TS}:CoeFun (PSs X st t) (fun _=>∀(pins:PnL) (s:Shared) (σ : St) (H:Hp) (D:w4),Inv X pins σ H s->t D σ H->wpAny (model X.prog X.w) X.A (execs st X.env) (SP X pins D) X.xe s):=⟨PSs.run⟩
theorem thn{α : Type}{t:Sem α}{Q Q' : α->Shared->Prop}{M:Model}{A:Around}{E:VSP}{s:Shared}(h:wpAny M A t Q E s)(hQ:∀a s,Q a s->Q' a s):wpAny M A t Q' E s:=wpAny_mono h hQ fun _ _ x=>x
inductive zk9(i:Nat)(σ : St)(H:Hp)(Q:VK):Prop where
 | mk (v:V) (e : σ[i]?=some (some v)) (q:Q v H)
def j6(i:Nat):TE:=fun σ H Q=>zk9 i σ H Q
def tC(v:V):TE:=fun _ H Q=>Q v H
theorem ziB{i:Nat}{x:Str}{pos:Pos}(hN:X.N[i]?=some x)(hv:Vis X.env.scope x)(hd:(x==("__debug__" : Str))=false:=by decide)(hcd:(x==("__classdict__" : Str))=false:=by decide):PE X (.Name x pos) (j6 i):=by
 exists ?_;intro pins s σ H Q I h;obtain⟨v,e,h⟩:=h;obtain⟨m,hn,hl⟩:=I.loc;obtain⟨u,r,l⟩:=hl i x v hN e hv;have fin:EP X pins σ Q u s:=⟨v,H,I,r,h⟩;rcases l with ⟨hk,hm⟩|⟨hk,c,hc,hcell⟩
 ·exact wpAny_Name (wpAny_loadName_local I.ok.kind hk hn hm fin) hd
 ·rcases hk with hk|hk
  ·exact wpAny_Name (wpAny_loadName_cell I.ok.kind hk hc hcell fin) hd
  ·exact wpAny_Name (wpAny_loadName_free I.ok.kind hk hc hcell fin hcd) hd
theorem ze{i j pos}:PE X (.Constant (.int i) j pos) (tC (.int i)):=⟨fun _ _ _ H _ I h=>wpAny_Constant_int ⟨.int i,H,I.tok _,⟨_,rfl⟩,h⟩⟩
theorem vi{b j pos}:PE X (.Constant (.bool b) j pos) (tC (.bl b)):=⟨fun _ _ _ H _ I h=>Constant_bool ⟨.bl b,H,I,rfl,h⟩⟩
theorem zb3{j pos}:PE X (.Constant .none j pos) (tC .non):=⟨fun _ _ _ H _ I h=>Constant_none ⟨.non,H,I,rfl,h⟩⟩
theorem zw{x j pos}:PE X (.Constant (.str x) j pos) (tC (.str x)):=⟨fun _ _ _ H _ I h=>Calls.Constant_str ⟨.str x,H,I.tok _,⟨_,rfl⟩,h⟩⟩
def Gl(X:Cx)(x:Str):Prop:=X.env.kindOf x=some .globalImplicit
theorem xW{E:VSP}{pins:PnL}{s:Shared}{σ : St}{H:Hp}{x:Str}{u:Value}{pos:Pos}{Q:VSP}(I:Inv X pins σ H s)(hg:Gl X x)(hm:X.mg x=some u)(h:Q u s)
  (hd:(x==("__debug__" : Str))=false:=by decide):wpAny (model X.prog X.w) X.A (eval (.Name x pos) X.env) Q E s:=
 Calls.Name_function_global I.ok.kind hg (Calls.loadGlobal_global (by rw[I.ok.glob];exact I.mod.glob.keeps I.bk) hm h) hd
theorem ub{E:VSP}{pins:PnL}{s:Shared}{σ : St}{H:Hp}{x:Str}{u:Value}{pos:Pos}{Q:VSP}(I:Inv X pins σ H s)(hg:Gl X x)(hm:X.mg x=none)(hv:bootBuiltins x=some u)(h:Q u s)
  (hn:x≠"__name__":=by decide) (hd:(x==("__debug__" : Str))=false:=by decide):wpAny (model X.prog X.w) X.A (eval (.Name x pos) X.env) Q E s:=by
 obtain⟨mb,h1,h2⟩:=I.mod.blt;exact Calls.Name_function_global I.ok.kind hg (Calls.loadGlobal_builtin (by rw[I.ok.glob];exact I.mod.glob.keeps I.bk) hm (by rw[I.ok.blt];exact h1.keeps I.bk) ((h2 x hn).trans hv) h) hd
theorem wy{x:Str}{v:V}{u:Value}{pos:Pos}(hg:Gl X x)(hm:X.mg x=some u)(r:ya v u)(hd:(x==("__debug__" : Str))=false:=by decide):PE X (.Name x pos) (tC v):=⟨fun _ _ _ H _ I h=>xW I hg hm ⟨v,H,I,r,h⟩ hd⟩
theorem zaq{x:Str}{v:V}{u:Value}{pos:Pos}(hg:Gl X x)(hm:X.mg x=none)(hv:bootBuiltins x=some u)(r:ya v u)(hn:x≠"__name__":=by decide)(hd:(x==("__debug__" : Str))=false:=by decide):PE X (.Name x pos) (tC v):=⟨fun _ _ _ H _ I h=>ub I hg hm hv ⟨v,H,I,r,h⟩ hn hd⟩
variable {a b:Expr}{ta tb:TE}{pos:Pos}
structure PC(X:Cx)(op:CmpOp)(a b:Expr)(t:TE):Prop where
 run:∀(pins:PnL) (s:Shared) (σ : St) (H:Hp) (Q:VK),Inv X pins σ H s->t σ H Q->
  wpAny (model X.prog X.w) X.A (eval a X.env) (fun v s₁=>wpAny (model X.prog X.w) X.A (eval b X.env) (fun u s₂=>wpAny (model X.prog X.w) X.A (compareOp op v u) (EP X pins σ Q) X.xe s₂) X.xe s₁) X.xe s
instance {X:Cx}{op:CmpOp}{a b:Expr}{t:TE}:CoeFun (PC X op a b t) (fun _=>∀(pins:PnL) (s:Shared) (σ : St) (H:Hp) (Q:VK),Inv X pins σ H s->t σ H Q->
  wpAny (model X.prog X.w) X.A (eval a X.env) (fun v s₁=>wpAny (model X.prog X.w) X.A (eval b X.env) (fun u s₂=>wpAny (model X.prog X.w) X.A (compareOp op v u) (EP X pins σ Q) X.xe s₂) X.xe s₁) X.xe s):=⟨PC.run⟩
theorem zfx(b:Expr){op:CmpOp}(h:op≠.In)(h2:op≠.NotIn):behindInMarks op b=false:=by
 have e1:(op==CmpOp.In)=false:=by cases op <;> first|rfl|exact absurd rfl h
 have e2:(op==CmpOp.NotIn)=false:=by cases op <;> first|rfl|exact absurd rfl h2
 cases b <;> simp [behindInMarks,e1,e2]
def zkr(ta:TE):TE:=fun σ H Q=>ta σ H fun x H1=>Q (.bl (decide (x=.non))) H1
def zjp(ta:TE):TE:=fun σ H Q=>ta σ H fun x H1=>Q (.bl (!decide (x=.non))) H1
theorem ya.none_iff{x:V}{v:Value}(r:ya x v):(v==Value.none)=decide (x=.non):=by
 cases x with
 | non=>cases r;rfl
 | bl _=>cases r;rfl
 | int _=>obtain⟨t,rfl⟩:=r;rfl
 | str _=>obtain⟨t,rfl⟩:=r;rfl
 | byt _=>obtain⟨t,rfl⟩:=r;rfl
 | flt _=>obtain⟨t,rfl⟩:=r;rfl
 | ref _=>cases r;rfl
 | ty _=>cases r;rfl
theorem zb5{j pos'}(ha:PE X a ta):PC X .Is a (.Constant .none j pos') (zkr ta):=by
 exists ?_;intro pins s σ H Q I h;refine thn (ha pins s σ H _ I h) fun v s1 ⟨x,H1,I1,r1,q1⟩=>?_;exact Constant_none (is_none_gen ⟨.bl _,H1,I1,by rw[r1.none_iff];rfl,q1⟩)
theorem zgB{j pos'}(ha:PE X a ta):PC X .IsNot a (.Constant .none j pos') (zjp ta):=by
 exists ?_;intro pins s σ H Q I h;refine thn (ha pins s σ H _ I h) fun v s1 ⟨x,H1,I1,r1,q1⟩=>?_;exact Constant_none (isnot_none_gen ⟨.bl _,H1,I1,by rw[r1.none_iff];rfl,q1⟩)
def tB(t:TE):TT:=fun σ H Q=>t σ H fun x H1=>∃c,x=.bl c/\Q c H1
theorem uI{op:CmpOp}{t:TE}(h:PC X op a b t)(h1:behindInMarks op b=false:=by first|exact zfx _ (by decide) (by decide)|rfl):PT X (.Compare a [op] [b] pos) (tB t):=by
 exists ?_;intro pins s σ H Q I hw;refine wpAny_isTrue_Compare1 (thn (h pins s σ H _ I hw) fun v s1 h1=>thn h1 fun u s2 h2=>thn h2 fun c s3 ⟨x,H1,I1,r1,q1⟩=>?_) h1;obtain⟨d,rfl,q⟩:=q1;cases r1;exact wpAny_truthy_bool ⟨H1,I1,q⟩
theorem y7{e:Expr}{t:TE}(h:PE X e t)(he:∀whole,isTrue e X.env whole=(do let v <- whole;standAt e.pos;holding [v] (truthy v)):=by intro _;rfl):PT X e (tB t):=by
 exists ?_;intro pins s σ H Q I hw;refine isTrue_plain (thn (h pins s σ H _ I hw) fun v s1 ⟨x,H1,I1,r1,q1⟩=>?_) (he _);obtain⟨d,rfl,q⟩:=q1;cases r1;exact wpAny_truthy_bool ⟨H1,I1,q⟩
variable {tA tB':TT}{xk:List Expr}
def zkx(t u:TT):TT:=fun σ H Q=>t σ H fun c H1=>if c=true then u σ H1 Q else Q false H1
def tOr(t u:TT):TT:=fun σ H Q=>t σ H fun c H1=>if c=true then Q true H1 else u σ H1 Q
def zkq(t:TT):TT:=fun σ H Q=>t σ H fun c H1=>Q (!c) H1
theorem xK(ha:PT X a tA):PW X (.BoolOp .And [a] pos) tA:=by
 exists ?_;intro wh pins s σ H Q I h;refine isTrue_and (thn (ha pins s σ H Q I h) fun c s1 e=>?_);cases c with
 | true=>exact isTrue_and_nil e
 | false=>exact e
theorem jA(ha:PT X a tA):PW X (.BoolOp .Or [a] pos) tA:=by
 exists ?_;intro wh pins s σ H Q I h;refine isTrue_or (thn (ha pins s σ H Q I h) fun c s1 e=>?_);cases c with
 | false=>exact isTrue_or_nil e
 | true=>exact e
theorem wC(ha:PT X a tA)(hb:PW X (.BoolOp .And (b::xk) pos) tB'):PW X (.BoolOp .And (a::b::xk) pos) (zkx tA tB'):=by
 exists ?_;intro wh pins s σ H Q I h;refine isTrue_and (thn (ha pins s σ H _ I h) fun c s1 ⟨H1,I1,q1⟩=>?_);cases c with
 | true=>exact hb wh pins s1 σ H1 Q I1 q1
 | false=>exact⟨H1,I1,q1⟩
theorem jB(ha:PT X a tA)(hb:PW X (.BoolOp .Or (b::xk) pos) tB'):PW X (.BoolOp .Or (a::b::xk) pos) (tOr tA tB'):=by
 exists ?_;intro wh pins s σ H Q I h;refine isTrue_or (thn (ha pins s σ H _ I h) fun c s1 ⟨H1,I1,q1⟩=>?_);cases c with
 | true=>exact⟨H1,I1,q1⟩
 | false=>exact hb wh pins s1 σ H1 Q I1 q1
theorem wj(ha:PT X a tA):PT X (.UnaryOp .Not a pos) (zkq tA):=by
 exists ?_;intro pins s σ H Q I h;exact isTrue_not (ha pins s σ H (fun c H1=>Q (!c) H1) I h)
def zju(ta tb:TE):TE:=fun σ H Q=>ta σ H fun x H1=>∃c,x=.bl c/\if c=true then tb σ H1 Q else Q (.bl false) H1
theorem ziC{op}{t:TE}(h:PE X a t):PE X (.BoolOp op [a] pos) t:=⟨fun pins s σ H Q I hw=>BoolOp_one (h pins s σ H Q I hw)⟩
theorem ziF(ha:PE X a ta)(hb:PE X (.BoolOp .And (b::xk) pos) tb):PE X (.BoolOp .And (a::b::xk) pos) (zju ta tb):=by
 exists ?_;intro pins s σ H Q I h;refine BoolOp_and (thn (ha pins s σ H _ I h) fun v s1 ⟨x,H1,I1,r1,q1⟩=>?_);obtain⟨c,rfl,q1⟩:=q1;cases r1;refine wpAny_truthy_bool ?_;cases c with
 | true=>exact hb pins s1 σ H1 Q I1 q1
 | false=>exact⟨.bl false,H1,I1,rfl,q1⟩
def tIf(t:TT)(ta tb:TE):TE:=fun σ H Q=>t σ H fun c H1=>if c=true then ta σ H1 Q else tb σ H1 Q
theorem zaY{c:Expr}(hc:PT X c tA)(ha:PE X a ta)(hb:PE X b tb):PE X (.IfExp c a b pos) (tIf tA ta tb):=by
 exists ?_;intro pins s σ H Q I h;refine wpAny_IfExp (thn (hc pins s σ H _ I h) fun d s1 ⟨H1,I1,q1⟩=>?_);cases d with
 | true=>exact ha pins s1 σ H1 Q I1 q1
 | false=>exact hb pins s1 σ H1 Q I1 q1
def SqL(K:Frag)(H:Hp)(a:Addr)(xs:List V):Prop:=
 Rd H a (.lst xs)\/
  ∃(o:Obj) (its:Array Value) (n:Nat),K.lookup a=some o/\o.cls=.type "list"/\o.dict=none/\o.data=.seq its n/\its.size<=sizeLine/\zX xs its.toList
def SqT(K:Frag)(H:Hp)(a:Addr)(xs:List V):Prop:=
 Rd H a (.tup xs)\/
  ∃(o:Obj) (its:Array Value) (n:Nat),K.lookup a=some o/\o.cls=.type "tuple"/\o.data=.seq its n/\its.size<=sizeLine/\zX xs its.toList
def zk5:Value->Option V
 | .none=>some .non
 | .bool b=>some (.bl b)
 | .int i _=>some (.int i)
 | .str x _=>some (.str x)
 | .bytes b _=>some (.byt b)
 | .float b _=>some (.flt b)
 | .ref a=>some (.ref a)
 | .type n=>some (.ty n)
 | _=>none
theorem ya.abs{x:V}{u:Value}(r:ya x u):zk5 u=some x:=by
 cases x with
 | non=>cases r;rfl
 | bl _=>cases r;rfl
 | int _=>obtain⟨t,rfl⟩:=r;rfl
 | str _=>obtain⟨t,rfl⟩:=r;rfl
 | byt _=>obtain⟨t,rfl⟩:=r;rfl
 | flt _=>obtain⟨t,rfl⟩:=r;rfl
 | ref _=>cases r;rfl
 | ty _=>cases r;rfl
theorem ya.inj{x y:V}{u:Value}(r:ya x u)(q:ya y u):x=y:=Option.some.inj (r.abs.symm.trans q.abs)
theorem zX.inj:∀{xs ys:List V}{us:List Value},zX xs us->zX ys us->xs=ys
 | _,_,_,.nil,.nil=>rfl
 | _,_,_,.cons r t,.cons r' t'=>by rw[r.inj r',zX.inj t t']
end
section
variable {X:Cx}{pins:PnL}{σ:St}{H:Hp}{s:Shared}{a:Addr}{xs ys:List V}
theorem zh{K:Frag}(h:H a=some (.lst xs)):SqL K H a xs:=.inl (.inl h)
theorem zB{K:Frag}(h:H a=some (.tup xs)):SqT K H a xs:=.inl (.inl h)
theorem Inv.list(I:Inv X pins σ H s)(h:SqL X.K H a xs):∃its:List Value,zX xs its/\PlainL s.heap a its.toArray/\xs.length<=sizeLine:=by
 rcases h with h|⟨o,its,n,hk,hc,hd,hs,hz,r⟩
 ·obtain⟨z,its,n,r,e⟩:=h.ok I.hok
  exact⟨its,r,⟨_,n,e,rfl,rfl,rfl⟩,z⟩
 ·exists its.toList,r,⟨o,n,I.kIn a o hk,hc,hd,by simpa using hs⟩,?_
  have e:=r.length;simp only[Array.length_toList] at e;omega
theorem Inv.tuple(I:Inv X pins σ H s)(h:SqT X.K H a xs):∃its:List Value,zX xs its/\IsTup s.heap a its.toArray/\xs.length<=sizeLine:=by
 rcases h with h|⟨o,its,n,hk,hc,hs,hz,r⟩
 ·obtain⟨z,its,r,p⟩:=h.ok I.hok
  exact⟨its,r,p,z⟩
 ·exists its.toList,r,⟨o,I.kIn a o hk,hc,n,by simpa using hs⟩,?_
  have e:=r.length;simp only[Array.length_toList] at e;omega
theorem Inv.list_inj(I:Inv X pins σ H s)(h:SqL X.K H a xs)(h':SqL X.K H a ys):xs=ys:=by
 obtain⟨its,r,⟨o,n,e,_,_,d⟩,_⟩:=I.list h;obtain⟨its',r',⟨o',n',e',_,_,d'⟩,_⟩:=I.list h';rw[e] at e';cases e';rw[d] at d';injection d' with d1 _
 have:its=its':=by simpa using congrArg Array.toList d1
 subst this;exact r.inj r'
theorem Inv.tuple_inj(I:Inv X pins σ H s)(h:SqT X.K H a xs)(h':SqT X.K H a ys):xs=ys:=by
 obtain⟨its,r,⟨o,e,_,n,d⟩,_⟩:=I.tuple h;obtain⟨its',r',⟨o',e',_,n',d'⟩,_⟩:=I.tuple h';rw[e] at e';cases e';rw[d] at d';injection d' with d1 _
 have:its=its':=by simpa using congrArg Array.toList d1
 subst this;exact r.inj r'
abbrev Cx.wish(X:Cx)(E:VSP):Cx:={ X with xe:=E }
abbrev Cx.nox(X:Cx):Cx:=X.wish fun _ _=>False
theorem Cx.Ok.wish{X:Cx}(ok:X.Ok)(E:VSP):(X.wish E).Ok:=
 ⟨ok.mod,ok.kind,ok.glob,ok.blt,ok.above,ok.inj,ok.has,ok.cab,ok.hd,ok.frames,ok.stk,ok.exf,ok.bs,ok.bsz,ok.noex,ok.exfs,ok.funs,ok.frf⟩
theorem Cx.Ok.unwish{X:Cx}{E:VSP}(ok:(X.wish E).Ok):X.Ok:=
 ⟨ok.mod,ok.kind,ok.glob,ok.blt,ok.above,ok.inj,ok.has,ok.cab,ok.hd,ok.frames,ok.stk,ok.exf,ok.bs,ok.bsz,ok.noex,ok.exfs,ok.funs,ok.frf⟩
variable {E:VSP}
theorem Inv.wish(I:Inv X pins σ H s)(E:VSP):Inv (X.wish E) pins σ H s:=⟨I.ok.wish E,I.os,I.bare,I.base,I.loc,I.cell,I.free,I.freeC,I.pin,I.hok,I.len⟩
theorem Inv.unwish(I:Inv (X.wish E) pins σ H s):Inv X pins σ H s:=⟨I.ok.unwish,I.os,I.bare,I.base,I.loc,I.cell,I.free,I.freeC,I.pin,I.hok,I.len⟩
theorem SP.unwish{D:w4}{f:Flow}{s':Shared}(h:SP (X.wish E) pins D f s'):SP X pins D f s':=by
 cases f with
 | next=>obtain⟨σ',H',I,q⟩:=h;exact⟨σ',H',I.unwish,q⟩
 | brk=>obtain⟨σ',H',I,q⟩:=h;exact⟨σ',H',I.unwish,q⟩
 | cont=>obtain⟨σ',H',I,q⟩:=h;exact⟨σ',H',I.unwish,q⟩
 | ret u=>obtain⟨v,σ',H',I,r,q⟩:=h;exact⟨v,σ',H',I.unwish,r,q⟩
theorem PSs.nox{st:List Stmt}{t:TS}(h:PSs X.nox st t):PSs X st t:=⟨fun pins s σ H D I hw=>
 wpAny_mono (h pins s σ H D (I.wish _) hw) (fun _ _ q=>q.unwish) fun _ _ z=>False.elim z⟩
variable {st:Stmt}{xk:List Stmt}{t u:TS}{e:Expr}{te:TE}{pos:Pos}
def zhB:TS:=fun D σ H=>D.nx σ H
def vV(t u:TS):TS:=fun D σ H=>t { D with nx:=u D } σ H
theorem zG:PSs X [] zhB:=⟨fun _ _ σ H _ I h=>wpAny_execs_nil ⟨σ,H,I,h⟩⟩
theorem zk(h1:PS X st t)(h2:PSs X xk u):PSs X (st::xk) (vV t u):=by
 exists ?_;intro pins s σ H D I h;refine wpAny_execs_cons (thn (h1 pins s σ H { D with nx:=u D } I h) fun f s1 q=>?_)
 cases f with
 | next=>
  obtain⟨σ',H',I',q⟩:=q;exact h2 pins s1 σ' H' D I' q
 | ret v=>exact q
 | brk=>exact q
 | cont=>exact q
theorem zf(h1:PS X st t):PSs X [st] t:=by
 exists ?_;intro pins s σ H D I h;refine wpAny_execs_cons (thn (h1 pins s σ H D I h) fun f s1 q=>?_);cases f with
 | next=>exact wpAny_execs_nil q
 | ret v=>exact q
 | brk=>exact q
 | cont=>exact q
theorem Inv.quiet{pins:PnL}{σ : St}{H:Hp}{s:Shared}(I:Inv X pins σ H s):interactive X.env=false:=by simp [interactive,I.ok.kind]
def zjs(te:TE):TS:=fun D σ H=>te σ H fun _ H1=>D.nx σ H1
theorem zI(he:PE X e te)(hs:swapsWith e none pos.line X.env=pure false:=by rfl):PS X (.Expr e pos) (zjs te):=by
 exists ?_;intro pins s σ H D I h;exact wpAny_Expr_any (thn (he pins s σ H _ I h) fun v s1 ⟨x,H1,I1,r1,q1⟩=>⟨σ,H1,I1,q1⟩) I.quiet hs
def zkp(te:TE):TS:=fun D σ H=>te σ H D.rt
theorem zy(he:PE X e te):PS X (.Return (some e) pos) (zkp te):=by
 exists ?_;intro pins s σ H D I h;exact wpAny_Return_some (thn (he pins s σ H _ I h) fun v s1 ⟨x,H1,I1,r1,q1⟩=>⟨x,σ,H1,I1,r1,q1⟩)
def zks(c:TT)(t u:TS):TS:=fun D σ H=>c σ H fun b H1=>if b=true then t D σ H1 else u D σ H1
theorem zT{c:Expr}{a b:List Stmt}{tc:TT}(hc:PT X c tc)(ha:PSs X a t)(hb:PSs X b u):PS X (.If c a b pos) (zks tc t u):=by
 exists ?_;intro pins s σ H D I h;refine wpAny_If (thn (hc pins s σ H _ I h) fun d s1 ⟨H1,I1,q1⟩=>?_);cases d with
 | true=>exact ha pins s1 σ H1 D I1 q1
 | false=>exact hb pins s1 σ H1 D I1 q1
abbrev TG:=V->St->Hp->(St->Hp->Prop)->Prop
abbrev TGs:=List V->St->Hp->(St->Hp->Prop)->Prop
structure PG(X:Cx)(target:Expr)(t:TG):Prop where
 run:∀(pins:PnL) (s:Shared) (σ : St) (H:Hp) (v:V) (u:Value) (Q:St->Hp->Prop),Inv X pins σ H s->ya v u->t v σ H Q->
  wpAny (model X.prog X.w) X.A (assign target X.env u) (fun _ s'=>∃σ' H',Inv X pins σ' H' s'/\Q σ' H') X.xe s
instance {X:Cx}{target:Expr}{t:TG}:CoeFun (PG X target t) (fun _=>∀(pins:PnL) (s:Shared) (σ : St) (H:Hp) (v:V) (u:Value) (Q:St->Hp->Prop),Inv X pins σ H s->ya v u->t v σ H Q->
  wpAny (model X.prog X.w) X.A (assign target X.env u) (fun _ s'=>∃σ' H',Inv X pins σ' H' s'/\Q σ' H') X.xe s):=⟨PG.run⟩
structure PGs(X:Cx)(ts:List Expr)(t:TGs):Prop where
 run:∀(pins:PnL) (s:Shared) (σ : St) (H:Hp) (vs:List V) (us:List Value) (Q:St->Hp->Prop),Inv X pins σ H s->zX vs us->t vs σ H Q->
  wpAny (model X.prog X.w) X.A (assignInOrder ((assignEach ts X.env).map (·.2)) us) (fun _ s'=>∃σ' H',Inv X pins σ' H' s'/\Q σ' H') X.xe s
instance {X:Cx}{ts:List Expr}{t:TGs}:CoeFun (PGs X ts t) (fun _=>∀(pins:PnL) (s:Shared) (σ : St) (H:Hp) (vs:List V) (us:List Value) (Q:St->Hp->Prop),Inv X pins σ H s->zX vs us->t vs σ H Q->
  wpAny (model X.prog X.w) X.A (assignInOrder ((assignEach ts X.env).map (·.2)) us) (fun _ s'=>∃σ' H',Inv X pins σ' H' s'/\Q σ' H') X.xe s):=⟨PGs.run⟩
def zM(i:Nat):TG:=fun v σ H Q=>Q (σ.set i (some v)) H
theorem zr{i:Nat}{x:Str}(hN:X.N.Nodup)(hi:X.N[i]?=some x)(hx:Loc X.env.scope x)(hf:X.fn x=true\/X.env.scope.names.lookup x=some .local:=by first|exact .inl rfl|exact .inr rfl|assumption):PG X (.Name x pos) (zM i):=by
 exists ?_;intro pins s σ H v u Q I r h;exact wpAny_assign_Name (vd I hN hi hx r (fun s' I'=>⟨_,H,I',h⟩) hf)
def zi9:TGs:=fun vs σ H Q=>vs=[]/\Q σ H
def zbg(t:TG)(u:TGs):TGs:=fun vs σ H Q=>∃v r,vs=v::r/\t v σ H fun σ' H'=>u r σ' H' Q
theorem yv:PGs X [] zi9:=by
 exists ?_;intro pins s σ H vs us Q I r h;obtain⟨e,h⟩:=h;subst e;cases r;exact assignInOrder_nil ⟨σ,H,I,h⟩
theorem zF{e:Expr}{es:List Expr}{t:TG}{u:TGs}(h1:PG X e t)(h2:PGs X es u)
  (hs:(assignEach (e::es) X.env).map (·.2)=assign e X.env::(assignEach es X.env).map (·.2):=by rfl):PGs X (e::es) (zbg t u):=by
 exists ?_;intro pins s σ H vs us Q I r h;obtain⟨v,vr,e1,h⟩:=h;subst e1;cases r with
 | cons r rr=>
  rw[hs];refine assignInOrder_cons (thn (h1 pins s σ H _ _ _ I r h) fun _ s1 ⟨σ1,H1,I1,q1⟩=>?_);exact h2 pins s1 σ1 H1 _ _ Q I1 rr q1
inductive zi8J(K:Frag)(n:Nat)(t:TGs)(v:V)(σ:St)(H:Hp)(Q:St->Hp->Prop):Prop|mk(a xs:_):v=.ref a->SqT K H a xs->xs.length=n->(t xs σ H Q)->zi8J K n t v σ H Q
def zi8(K:Frag)(n:Nat)(t:TGs):TG:=fun v σ H Q=>zi8J K n t v σ H Q
theorem yO{es:List Expr}{k:Nat}{t:TGs}{n:Nat}(hc:X.calm=true)(h:PGs X es t)
  (hn:(assignEach es X.env).length=n:=by rfl) (hst:(assignEach es X.env).findIdx? (·.1)=none:=by rfl):PG X (.Tuple es k pos) (zi8 X.K n t):=by
 exists ?_;intro pins s σ H v u Q I r hw;obtain⟨a,xs,e1,hq,hl,hw⟩:=hw;subst e1;cases r;obtain⟨its,rv,ht,hz⟩:=I.tuple hq;refine assign_Tuple_tuple (I.ok.hd hc) ht (by simp [hn,<- hl,rv.length]) hst fun h' hx=>?_
 have I1:Inv X pins σ H { s with heap:=h' }:=I.kept (t':=s.toks) fun b o e=>hx b o (ne_of_lt (Heap.lt_size e)) e
 exact h pins _ σ H xs _ Q I1 (by simpa using rv) hw
def zgb(te:TE)(g:TG):TS:=fun D σ H=>te σ H fun x H1=>g x σ H1 D.nx
theorem jC{tg e:Expr}{te:TE}{g:TG}(he:PE X e te)(hg:PG X tg g)(hs:swapsWithSole [tg] e pos.line X.env=pure false:=by rfl)(hw:swappedStores [tg] e X.env=pure none:=by rfl)
  (h1:(assignEach [tg] X.env).map (·.2)=[assign tg X.env]:=by rfl):PS X (.Assign [tg] e pos) (zgb te g):=by
 exists ?_;intro pins s σ H D I h;refine wpAny_Assign_stores (thn (he pins s σ H _ I h) fun v s1 ⟨x,H1,I1,r1,q1⟩=>?_) hs hw;rw[h1];exact thn (hg pins s1 σ H1 x v _ I1 r1 q1) fun _ s2 q=>q
theorem zx{i:Nat}{x:Str}{e:Expr}{te:TE}{pos':Pos}(hN:X.N.Nodup)(hi:X.N[i]?=some x)(hx:Loc X.env.scope x)(he:PE X e te)(hs:swapsWith e (some (.Name x pos')) pos.line X.env=pure false:=by rfl)(hf:X.fn x=true\/X.env.scope.names.lookup x=some .local:=by first|exact .inl rfl|exact .inr rfl|assumption):
  PS X (.Assign [.Name x pos'] e pos) (zgb te (zM i)):=by
 exists ?_;intro pins s σ H D I h;refine wpAny_Assign_Name (thn (he pins s σ H _ I h) fun v s1 ⟨y,H1,I1,r1,q1⟩=>?_) hs;exact vd I1 hN hi hx r1 (fun s2 I2=>⟨_,H1,I2,q1⟩) hf
structure It where
 go:Nat->Hp->Prop
 yld:Nat->Hp->V->Hp->Prop
 stop:Nat->Hp->Prop
def vc(X:Cx)(pins:PnL)(H:Hp)(b:Addr):Prop:=
 H b=none/\b≠X.env.locals/\b∉X.fs/\(b∈X.ex\/X.s₀.heap.objs.size<=b)/\(∀x c,X.env.cells.lookup x=some c->c≠b)/\∀p∈X.pn++pins,p.1≠b
theorem Inv.fpOk{X:Cx}{pins:PnL}{σ : St}{H H':Hp}{s:Shared}{b:Addr}(I:Inv X pins σ H s)(hb:s.heap.objs.size<=b)(hn:H' b=none):vc X pins H' b:=by
 exists hn,ne_of_gt (lt_of_lt_of_le I.lt hb),I.nofs hb,.inr (le_trans I.sz hb),fun x c e z=>?_,fun p hp z=>?_
 ·obtain⟨v,q⟩:=I.cell x c e
  exact absurd (lt_of_lt_of_le q.lt (by rw[z];exact hb)) (lt_irrefl _)
 ·exact absurd (lt_of_lt_of_le (Heap.lt_size (I.pin p hp).1) (by rw[z];exact hb)) (lt_irrefl _)
structure qg(P:Program)(w:World)(K:Frag)(tg:Expr)(J:It)(fp:List Addr)(it:Addr)(tn:Nat->Heap->Prop):Prop where
 mem:it∈fp
 obj:∀i h,tn i h->∀b∈fp,∃o,h.get? b=some o/\∀v,o.data≠.cell v
 keep:∀i h h',tn i h->(∀b∈fp,∀o,h.get? b=some o->h'.get? b=some o)->tn i h'
 item:∀(X:Cx),X.prog=P->X.w=w->X.K=K->X.calm=true->∀(i:Nat) (pins:PnL) (s:Shared) (σ : St) (H:Hp) (E:VSP),Inv X pins σ H s->(∀b∈fp,vc X pins H b)->tn i s.heap->J.go i H->
  wpAny (model P w) X.A (pyNext (.ref it)) (fun r s1=>∃u,r=some u/\
   wpAny (model P w) X.A (letOwnedTupleGo tg (.ref it) u) (fun _ s2=>∃x H',Inv X pins σ H' s2/\ya x u/\J.yld i H x H'/\tn (i+1) s2.heap/\∀b∈fp,H' b=none) E s1) E s
 done:∀(X:Cx),X.prog=P->X.w=w->X.K=K->X.calm=true->∀(i:Nat) (pins:PnL) (s:Shared) (σ : St) (H:Hp) (E:VSP),Inv X pins σ H s->(∀b∈fp,vc X pins H b)->tn i s.heap->J.stop i H->
  wpAny (model P w) X.A (pyNext (.ref it)) (fun r s1=>r=none/\Inv X pins σ H s1) E s
 self:∀(A:Around) (i:Nat) (s:Shared) (Q:VSP) (E:VSP),tn i s.heap->Q (.ref it) s->wpAny (model P w) A (pyIter (.ref it)) Q E s
abbrev TI:=St->Hp->(It->Hp->Prop)->Prop
def PIE(X:Cx)(pins:PnL)(σ : St)(tg:Expr)(R:It->Hp->Prop)(itv:Value)(s2:Shared):Prop:=
 ∃(it:Addr) (fp:List Addr) (tn:Nat->Heap->Prop) (J:It) (H':Hp),itv=.ref it/\Inv X pins σ H' s2/\qg X.prog X.w X.K tg J fp it tn/\tn 0 s2.heap/\(∀b∈fp,vc X pins H' b)/\R J H'
structure PI(X:Cx)(tg iter:Expr)(wi:TI):Prop where
 run:∀(pins:PnL) (s:Shared) (σ : St) (H:Hp) (R:It->Hp->Prop),Inv X pins σ H s->wi σ H R->
  wpAny (model X.prog X.w) X.A (eval iter X.env) (fun v s1=>wpAny (model X.prog X.w) X.A (pyIter v) (PIE X pins σ tg R) X.xe s1) X.xe s
instance {X:Cx}{tg iter:Expr}{wi:TI}:CoeFun (PI X tg iter wi) (fun _=>∀(pins:PnL) (s:Shared) (σ : St) (H:Hp) (R:It->Hp->Prop),Inv X pins σ H s->wi σ H R->
  wpAny (model X.prog X.w) X.A (eval iter X.env) (fun v s1=>wpAny (model X.prog X.w) X.A (pyIter v) (PIE X pins σ tg R) X.xe s1) X.xe s):=⟨PI.run⟩
theorem zc5{M:Model}{A:Around}{E:VSP}{s:Shared}{tg:Expr}{it:Addr}{u:Value}{o:Obj}{n:String}{vs:Array Value}{Q:Unit->Shared->Prop}(ho:s.heap.get? it=some o)(hc:o.cls=.type n)(hd:o.data=.fields vs)
  (hn:["enumerate","zip","dict_itemiterator","dict_reverseitemiterator","odict_iterator","itertools.zip_longest","itertools.pairwise"].contains n=false) (hQ:Q () s):wpAny M A (letOwnedTupleGo tg (.ref it) u) Q E s:=by
 unfold letOwnedTupleGo;cases tg <;> first
  | exact zwp hQ
  | (cases u <;> first
    | exact zwp hQ
    | (refine zwb (wpAny_load ho ?_)
       rw[hc,hd];show wpAny M A (if (["enumerate","zip","dict_itemiterator","dict_reverseitemiterator","odict_iterator","itertools.zip_longest","itertools.pairwise"].contains n&&vs[0]?==some (rawInt _))=true then _ else _) Q E s
       rw[if_neg (by intro h;rw[hn,Bool.false_and] at h;cases h)]
       exact zwp hQ))
def Itl(K:Frag)(a:Addr):It:=
 ⟨fun i H=>∃xs x,SqL K H a xs/\xs[i]?=some x,fun i H x H'=>H'=H/\∀xs,SqL K H a xs->xs[i]?=some x,fun i H=>∃xs,SqL K H a xs/\xs.length<=i⟩
def Itt(K:Frag)(a:Addr):It:=
 ⟨fun i H=>∃xs x,SqT K H a xs/\xs[i]?=some x,fun i H x H'=>H'=H/\∀xs,SqT K H a xs->xs[i]?=some x,fun i H=>∃xs,SqT K H a xs/\xs.length<=i⟩
def Itr(lo:Int)(n:Nat):It:=⟨fun i _=>i<n,fun i H x H'=>H'=H/\x=.int (lo+i),fun i _=>n<=i⟩
theorem zdo{P:Program}{w:World}{K:Frag}{tg:Expr}(a it:Addr):qg P w K tg (Itl K a) [it] it (fun i h=>h.IsListIter it a i) where
 mem:=by simp
 obj:=fun i h st b hb=>by
  have e:b=it:=by simpa using hb
  subst e;obtain⟨o,e,c,d⟩:=st;exact⟨o,e,fun v z=>by rw[d] at z;cases z⟩
 keep:=fun i h h' st k=>st.at fun o e=>k it (by simp) o e
 item:=by
  intro X hP hw hK hc i pins s σ H E I hf st hg;subst hP hw hK;obtain⟨xs,x,hq,hx⟩:=hg;obtain⟨its,rv,p,hz⟩:=I.list hq;obtain⟨u,hu,ru⟩:=rv.get hx;obtain⟨f0,f1,f2,f3,f4,f5⟩:=hf it (by simp)
  refine wpAny_pyNext_list_item st p.isList (x:=u) (by simpa using hu) fun h' st' sb=>?_
  have I1:Inv X pins σ H { s with heap:=h' }:=I.turned (t':=s.toks) (fun b o hb e=>(sb.2 b hb).trans e) f0 f1 f3 f4 f5
  obtain⟨o,e,c,d⟩:=id st';exact⟨u,rfl,zc5 (s:={ s with heap:=h' }) e c d (by decide) ⟨x,H,I1,ru,⟨rfl,fun ys hy=>by rw[I.list_inj hy hq];exact hx⟩,st',fun b hb=>(hf b hb).1⟩⟩
 done:=by
  intro X hP hw hK hc i pins s σ H E I hf st hg;subst hP hw hK;obtain⟨xs,hq,hx⟩:=hg;obtain⟨its,rv,p,hz⟩:=I.list hq;obtain⟨f0,f1,f2,f3,f4,f5⟩:=hf it (by simp)
  have hl:=rv.length;exact wpAny_pyNext_list_end (I.ok.hd hc) st p.isList (by simp;omega) fun h' eb=>⟨rfl,I.turned (t':=s.toks) (fun b o hb e=>eb b o hb e) f0 f1 f3 f4 f5⟩
 self:=fun _ _ _ _ _ st h=>wpAny_pyIter_listiter st h
theorem zbz{P:Program}{w:World}{K:Frag}{tg:Expr}(a it:Addr):qg P w K tg (Itt K a) [it] it (fun i h=>h.IsTupleIter it a i) where
 mem:=by simp
 obj:=fun i h st b hb=>by
  have e:b=it:=by simpa using hb
  subst e;obtain⟨o,e,c,d⟩:=st;exact⟨o,e,fun v z=>by rw[d] at z;cases z⟩
 keep:=fun i h h' st k=>st.at fun o e=>k it (by simp) o e
 item:=by
  intro X hP hw hK hc i pins s σ H E I hf st hg;subst hP hw hK;obtain⟨xs,x,hq,hx⟩:=hg;obtain⟨its,rv,p,hz⟩:=I.tuple hq;obtain⟨u,hu,ru⟩:=rv.get hx;obtain⟨f0,f1,f2,f3,f4,f5⟩:=hf it (by simp)
  refine wpAny_pyNext_tuple_item st (show s.heap.IsTuple a its.toArray from p) (x:=u) (by simpa using hu) fun h' st' sb=>?_
  have I1:Inv X pins σ H { s with heap:=h' }:=I.turned (t':=s.toks) (fun b o hb e=>(sb.2 b hb).trans e) f0 f1 f3 f4 f5
  obtain⟨o,e,c,d⟩:=id st';exact⟨u,rfl,zc5 (s:={ s with heap:=h' }) e c d (by decide) ⟨x,H,I1,ru,⟨rfl,fun ys hy=>by rw[I.tuple_inj hy hq];exact hx⟩,st',fun b hb=>(hf b hb).1⟩⟩
 done:=by
  intro X hP hw hK hc i pins s σ H E I hf st hg;subst hP hw hK;obtain⟨xs,hq,hx⟩:=hg;obtain⟨its,rv,p,hz⟩:=I.tuple hq;obtain⟨f0,f1,f2,f3,f4,f5⟩:=hf it (by simp)
  have hl:=rv.length;exact wpAny_pyNext_tuple_end (I.ok.hd hc) st (show s.heap.IsTuple a its.toArray from p) (by simp;omega) fun h' eb=>⟨rfl,I.turned (t':=s.toks) (fun b o hb e=>eb b o hb e) f0 f1 f3 f4 f5⟩
 self:=fun _ _ _ _ _ st h=>wpAny_pyIter_tupleiter st h
theorem zbA{P:Program}{w:World}{K:Frag}{tg:Expr}(it:Addr)(lo:Int)(n:Nat):qg P w K tg (Itr lo n) [it] it (fun i h=>IsRangeIter h it (lo+(i:Nat) * 1) ((n:Int) - (i:Nat)) 1) where
 mem:=by simp
 obj:=fun i h st b hb=>by
  have e:b=it:=by simpa using hb
  subst e;exact⟨_,st,fun v z=>by
   have z':Data.fields _=Data.cell v:=z;cases z'⟩
 keep:=fun i h h' st k=>k it (by simp) _ st
 item:=by
  intro X hP hw hK hc i pins s σ H E I hf st hg;subst hP hw hK;obtain⟨f0,f1,f2,f3,f4,f5⟩:=hf it (by simp)
  have W:=Walks.range (prog:=X.prog) (w:=X.w) (I.ok.hd hc) it lo 1 n;refine W.item i s _ _ hg st fun v h' tk hv st' kk=>?_;obtain⟨t,rfl⟩:=hv;have I1:Inv X pins σ H { s with heap:=h',toks:=tk }:=I.turned (fun b o hb e=>kk b o (by simpa using hb) e) f0 f1 f3 f4 f5
  exists _,rfl,zc5 (s:={ s with heap:=h',toks:=tk }) (n:="range_iterator") st' rfl rfl (by decide) ⟨.int (lo+i),H,I1,⟨t,?_⟩,⟨rfl,rfl⟩,st',fun b hb=>(hf b hb).1⟩
  rw[Int.mul_one]
 done:=by
  intro X hP hw hK hc i pins s σ H E I hf st hg;subst hP hw hK;obtain⟨f0,f1,f2,f3,f4,f5⟩:=hf it (by simp)
  exact wpAny_pyNext_range_end (I.ok.hd hc) st (by have:n<=i:=hg;omega) fun h' eb=>⟨rfl,I.turned (t':=s.toks) (fun b o hb e=>eb b o hb e) f0 f1 f3 f4 f5⟩
 self:=fun _ _ _ _ _ st h=>wpAny_pyIter_rangeiter st h
variable {tg:Expr}
inductive zkaJ(K:Frag)(R:It->Hp->Prop)(x:V)(H1:Hp):Prop|mk(a:_):x=.ref a->(∃xs,SqL K H1 a xs)->(R (Itl K a) H1)->zkaJ K R x H1
def zka(K:Frag)(tl:TE):TI:=fun σ H R=>tl σ H fun x H1=>zkaJ K R x H1
inductive zk0J(K:Frag)(R:It->Hp->Prop)(x:V)(H1:Hp):Prop|mk(a:_):x=.ref a->(∃xs,SqT K H1 a xs)->(R (Itt K a) H1)->zk0J K R x H1
def zk0(K:Frag)(tl:TE):TI:=fun σ H R=>tl σ H fun x H1=>zk0J K R x H1
theorem z9{l:Expr}{tl:TE}(hl:PE X l tl):PI X tg l (zka X.K tl):=by
 exists ?_;intro pins s σ H R I h;refine thn (hl pins s σ H _ I h) fun v s1 ⟨x,H1,I1,r1,q1⟩=>?_;obtain⟨a,e,⟨xs,hq⟩,q⟩:=q1;subst e;cases r1;obtain⟨its,rv,p,hz⟩:=I1.list hq;refine wpAny_pyIter_list p.isList ?_;exists s1.heap.objs.size,[s1.heap.objs.size],_,_,H1,rfl,I1.kept (t':=s1.toks) fun b o e=>zgp _ e,zdo a _,⟨_,zgs _ rfl,rfl,rfl⟩,fun b hb=>?_,q;have e:b=s1.heap.objs.size:=by simpa using hb
 subst e;exact I1.fpOk (le_refl _) (I1.hok.fresh (le_refl _))
theorem ziz{l:Expr}{tl:TE}(hl:PE X l tl):PI X tg l (zk0 X.K tl):=by
 exists ?_;intro pins s σ H R I h;refine thn (hl pins s σ H _ I h) fun v s1 ⟨x,H1,I1,r1,q1⟩=>?_;obtain⟨a,e,⟨xs,hq⟩,q⟩:=q1;subst e;cases r1;obtain⟨its,rv,p,hz⟩:=I1.tuple hq;refine wpAny_pyIter_tuple (show s1.heap.IsTuple a its.toArray from p) ?_;exists s1.heap.objs.size,[s1.heap.objs.size],_,_,H1,rfl,I1.kept (t':=s1.toks) fun b o e=>zgp _ e,zbz a _,⟨_,zgs _ rfl,rfl,rfl⟩,fun b hb=>?_,q;have e:b=s1.heap.objs.size:=by simpa using hb
 subst e;exact I1.fpOk (le_refl _) (I1.hok.fresh (le_refl _))
theorem zaW{pins:PnL}{σ : St}{H:Hp}{s:Shared}{R:It->Hp->Prop}{E:VSP}{lo hi:Int}{t u v:Tok}{tk:Nat}(I:Inv X pins σ H s)(h1 : -(2 ^ 62)<=lo)(h2:lo<2 ^ 62)(h3 : -(2 ^ 62)<=hi)(h4:hi<2 ^ 62)
  (q:R (Itr lo (hi - lo).toNat) H):wpAny (model X.prog X.w) X.A (pyIter (.ref s.heap.objs.size)) (PIE X pins σ tg R) E { s with heap:=s.heap.push { cls:=.type "range",data:=.fields #[.int lo t,.int hi u,.int 1 v] },toks:=tk }:=by
 refine wpAny_pyIter_range (IsRange.new ..) (small_one h1 h2 h3 h4) ?_;have I1:Inv X pins σ H { s with heap:=s.heap.push { cls:=.type "range",data:=.fields #[.int lo t,.int hi u,.int 1 v] },toks:=tk }:=I.kept fun b o e=>zgp _ e
 refine⟨(s.heap.push { cls:=.type "range",data:=.fields #[.int lo t,.int hi u,.int 1 v] }).objs.size,[(s.heap.push { cls:=.type "range",data:=.fields #[.int lo t,.int hi u,.int 1 v] }).objs.size],_,_,H,rfl,
  I1.kept (t':=tk) fun b o e=>zgp _ e,zbA _ lo (hi - lo).toNat,?_,fun b hb=>?_,q⟩
 ·have e1:lo+((0:Nat):Int) * 1=lo:=by simp
  have e2:(((hi - lo).toNat:Nat):Int) - ((0:Nat):Int)=Builtin.Range.rangeSize lo hi 1:=by rw[rangeSize_one];split <;> omega
  show IsRangeIter _ _ (lo+((0:Nat):Int) * 1) ((((hi - lo).toNat:Nat):Int) - ((0:Nat):Int)) 1;rw[e1,e2];exact zgs _ rfl
 ·have e:b=(s.heap.push { cls:=.type "range",data:=.fields #[.int lo t,.int hi u,.int 1 v] }).objs.size:=by simpa using hb
  subst e;exact I1.fpOk (le_refl _) (I1.hok.fresh (le_refl _))
inductive zj9J(R:It->Hp->Prop)(vs:List V)(H1:Hp):Prop|mk(j:Int):vs=[.int j]->-(2 ^ 62)<=j->j<2 ^ 62->(R (Itr 0 j.toNat) H1)->zj9J R vs H1
def zj9(ta:TA):TI:=fun σ H R=>ta σ H fun vs H1=>zj9J R vs H1
inductive zj8J(R:It->Hp->Prop)(vs:List V)(H1:Hp):Prop|mk(i j:Int):vs=[.int i,.int j]->(-(2 ^ 62)<=i/\i<2 ^ 62/\-(2 ^ 62)<=j/\j<2 ^ 62)->(R (Itr i (j - i).toNat) H1)->zj8J R vs H1
def zj8(ta:TA):TI:=fun σ H R=>ta σ H fun vs H1=>zj8J R vs H1
theorem x6{a:Expr}{ta:TA}{p pos:Pos}(hg:Gl X "range")(hm:X.mg "range"=none)(ha:PA X [a] ta)(hs:starEach [a] X.env=[(false,eval a X.env)]:=by rfl):PI X tg (.Call (.Name "range" p) [a] [] pos) (zj9 ta):=by
 exists ?_;intro pins s σ H R I h;refine Call_ (ub I hg hm boot_range (PyProof.Rows.callWith_type1 (thn (ha pos pins s σ H _ I h) fun us s1 ⟨vs,H1,I1,r1,q1⟩=>?_) hs rfl));obtain⟨j,e,q1,q2,q⟩:=q1;subst e;cases r1 with
 | cons r rr=>
  cases rr;obtain⟨t,rfl⟩:=r;exact call_range_1 (zaW I1 (by omega) (by omega) q1 q2 (by simpa using q))
theorem zdz{a b:Expr}{ta:TA}{p pos:Pos}(hg:Gl X "range")(hm:X.mg "range"=none)(ha:PA X [a,b] ta)(hs:starEach [a,b] X.env=[(false,eval a X.env),(false,eval b X.env)]:=by rfl)(hs2:starEach [b] X.env=[(false,eval b X.env)]:=by rfl):
  PI X tg (.Call (.Name "range" p) [a,b] [] pos) (zj8 ta):=by
 exists ?_;intro pins s σ H R I h;refine Call_ (ub I hg hm boot_range (PyProof.Rows.callWith_type1 (thn (ha pos pins s σ H _ I h) fun us s1 ⟨vs,H1,I1,r1,q1⟩=>?_) (by rw[hs,hs2]) (by rw[hs2];rfl)))
 obtain⟨i,j,e,⟨q1,q2,q3,q4⟩,q⟩:=q1;subst e;cases r1 with
 | cons r rr=>
  cases rr with
  | cons r' rr=>
   cases rr;obtain⟨t,rfl⟩:=r;obtain⟨t',rfl⟩:=r';exact call_range_2 (zaW I1 q1 q2 q3 q4 q)
def zku(wi:TI)(g:TG)(tb:TS):TS:=fun D σ H=>wi σ H fun J H1=>∃W:Nat->Nat->St->Hp->Prop,(∃m,W 0 m σ H1)/\∀i m σ H,W i m σ H->
 (J.stop i H/\D.nx σ H)\/(J.go i H/\∃N:St->Hp->Prop,(∀σ' H',N σ' H'->∃m',m'<m/\W (i+1) m' σ' H')/\∀x H',J.yld i H x H'->g x σ H' fun σ2 H2=>tb { D with nx:=N,ct:=N,bk:=D.nx } σ2 H2)
def uJ(fp:List Addr)(h:Heap):List (Addr×Obj):=fp.filterMap fun b=>(h.get? b).map fun o=>(b,o)
theorem xG{fp:List Addr}{h:Heap}{b:Addr}{o:Obj}(hb:b∈fp)(e:h.get? b=some o):(b,o)∈uJ fp h:=List.mem_filterMap.mpr ⟨b,hb,by rw[e];rfl⟩
theorem zdK{fp:List Addr}{h:Heap}{p:Addr×Obj}(hp:p∈uJ fp h):p.1∈fp/\h.get? p.1=some p.2:=by
 obtain⟨b,hb,e⟩:=List.mem_filterMap.mp hp;cases q:h.get? b with
 | none=>rw[q] at e;cases e
 | some o=>
  rw[q] at e;have e':(b,o)=p:=Option.some.inj e;subst e';exact⟨hb,q⟩
theorem Inv.pinned{pins:PnL}{σ : St}{H:Hp}{s:Shared}{fp:List Addr}(I:Inv X pins σ H s)(hf:∀b∈fp,vc X pins H b)(ho:∀b∈fp,∃o,s.heap.get? b=some o/\∀v,o.data≠.cell v):Inv X (pins++uJ fp s.heap) σ H s:=
 I.pins_of fun p hp=>(List.mem_append.mp hp).elim (fun z=>I.pin p (mem_append_right _ z)) fun z=>by
  obtain⟨hb,e⟩:=zdK z;obtain⟨f0,f1,f2,_⟩:=hf p.1 hb;obtain⟨o,e',d⟩:=ho p.1 hb;rw[e] at e';cases e';exact⟨e,f0,f1,f2,d⟩
theorem Inv.unpinned{pins pl:PnL}{σ : St}{H:Hp}{s:Shared}(I:Inv X (pins++pl) σ H s):Inv X pins σ H s:=I.pins_of fun p hp=>I.pin p (mem_append_right _ (mem_append_left _ hp))
theorem yz{iter:Expr}{body:List Stmt}{wi:TI}{g:TG}{tb:TS}{pos:Pos}(hp:PassesOwn (model X.prog X.w) X.A X.env X.xe)(hc:X.calm=true)(hi:PI X tg iter wi)(hg:PG X tg g)(hb:PSs X body tb)
  (hs:∀x,foldedSetIterable iter X.env x=pure x:=by intro _;rfl):PS X (.For tg iter body [] pos) (zku wi g tb):=by
 exists ?_;intro pins s σ H D I h;refine wpAny_For (thn (hi pins s σ H _ I h) fun v s1 h1=>thn h1 fun itv s2 h2=>?_) hs;obtain⟨it,fp,tn,J,H2,e,I2,T,st2,f2,W,⟨m0,w0⟩,turn⟩:=h2;subst e;have stat:∀{H':Hp},(∀b∈fp,H' b=none)->∀b∈fp,vc X pins H' b:=fun hn b hb=>⟨hn b hb,(f2 b hb).2⟩;refine codeAny_forLoop_any (fun n s'=>∃i σ' H',Inv X pins σ' H' s'/\tn i s'.heap/\(∀b∈fp,H' b=none)/\W i n σ' H') ?_ m0 ⟨0,σ,H2,I2,st2,fun b hb=>(f2 b hb).1,w0⟩;rintro n s3 ⟨i,σ3,H3,I3,st3,fr3,w3⟩;rcases turn i n σ3 H3 w3 with ⟨stop,qn⟩|⟨go,N,hN,step⟩
 ·refine wpAny_passesOwn hp (thn (T.done X rfl rfl rfl hc i pins s3 σ3 H3 X.xe I3 (stat fr3) st3 stop) fun r s4 ⟨hr,I4⟩=>?_)
  subst hr;exact wpAny_execs_nil ⟨σ3,H3,I4,qn⟩
 ·refine wpAny_passesOwn hp (thn (T.item X rfl rfl rfl hc i pins s3 σ3 H3 X.xe I3 (stat fr3) st3 go) fun r s4 ⟨u,hr,h4⟩=>?_)
  subst hr;refine wpAny_passesOwn hp (thn h4 fun _ s5 ⟨x,H5,I5,r5,y5,st5,fr5⟩=>?_);have I5':=I5.pinned (stat fr5) (T.obj _ _ st5);refine wpAny_passesOwn hp (thn (hg _ s5 σ3 H5 x u _ I5' r5 (step x H5 y5)) fun _ s6 ⟨σ6,H6,I6,q6⟩=>?_);refine wpAny_passesOwn hp (thn (hb _ s6 σ6 H6 _ I6 q6) fun f s7 q7=>?_);have again:∀{σ7:St}{H7:Hp},Inv X (pins++uJ fp s5.heap) σ7 H7 s7->N σ7 H7->∃m,m<n/\∃i σ' H',Inv X pins σ' H' s7/\tn i s7.heap/\(∀b∈fp,H' b=none)/\W i m σ' H':=fun {σ7 H7} I7 n7=>by
   obtain⟨m',hm,w7⟩:=hN σ7 H7 n7;exists m',hm,i+1,σ7,H7,I7.unpinned,T.keep _ _ _ st5 fun b hb o e=>(I7.pin (b,o) (mem_append_right _ (mem_append_right _ (xG hb e)))).1,fun b hb=>?_,w7;obtain⟨o,e,d⟩:=T.obj _ _ st5 b hb;exact(I7.pin (b,o) (mem_append_right _ (mem_append_right _ (xG hb e)))).2.1
  cases f with
  | next=>obtain⟨σ7,H7,I7,n7⟩:=q7;exact again I7 n7
  | cont=>obtain⟨σ7,H7,I7,n7⟩:=q7;exact again I7 n7
  | brk=>obtain⟨σ7,H7,I7,q7⟩:=q7;exact⟨σ7,H7,I7.unpinned,q7⟩
  | ret v=>obtain⟨x7,σ7,H7,I7,r7,q7⟩:=q7;exact⟨x7,σ7,H7,I7.unpinned,r7,q7⟩
theorem yJ{K:Frag}{a:Addr}{xs:List V}{g:TG}{tb:TS}{D:w4}{σ : St}{H:Hp}(Pv:Nat->St->Hp->Prop)(h0:Pv 0 σ H)(hl:∀i σ H,i<=xs.length->Pv i σ H->SqL K H a xs)
  (hs:∀i x σ H,xs[i]?=some x->Pv i σ H->g x σ H fun σ2 H2=>tb { D with nx:=Pv (i+1),ct:=Pv (i+1),bk:=D.nx } σ2 H2) (hd:∀σ H,Pv xs.length σ H->D.nx σ H) :
  ∃W:Nat->Nat->St->Hp->Prop,(∃m,W 0 m σ H)/\∀i m σ H,W i m σ H->
   ((Itl K a).stop i H/\D.nx σ H)\/((Itl K a).go i H/\∃N:St->Hp->Prop,(∀σ' H',N σ' H'->∃m',m'<m/\W (i+1) m' σ' H')/\∀x H',(Itl K a).yld i H x H'->g x σ H' fun σ2 H2=>tb { D with nx:=N,ct:=N,bk:=D.nx } σ2 H2):=by
 exists fun i m σ H=>m=xs.length - i/\i<=xs.length/\Pv i σ H,⟨xs.length,by simp,zero_le _,h0⟩,?_
 rintro i m σ H ⟨rfl,hi,p⟩;have q:=hl i σ H hi p;by_cases hlt:i<xs.length
 ·refine .inr ⟨⟨xs,xs[i],q,by simp [hlt]⟩,Pv (i+1),fun σ' H' p'=>⟨xs.length - (i+1),by omega,rfl,hlt,p'⟩,fun x H' y=>?_⟩
  obtain⟨e,y⟩:=y;subst e;exact hs i x σ _ (y xs q) p
 ·have e:i=xs.length:=by omega
  subst e;exact .inl ⟨⟨xs,q,le_refl _⟩,hd σ H p⟩
theorem vI{lo:Int}{n:Nat}{g:TG}{tb:TS}{D:w4}{σ : St}{H:Hp}(Pv:Nat->St->Hp->Prop)(h0:Pv 0 σ H)
  (hs:∀i σ H,i<n->Pv i σ H->g (.int (lo+i)) σ H fun σ2 H2=>tb { D with nx:=Pv (i+1),ct:=Pv (i+1),bk:=D.nx } σ2 H2) (hd:∀σ H,Pv n σ H->D.nx σ H) :
  ∃W:Nat->Nat->St->Hp->Prop,(∃m,W 0 m σ H)/\∀i m σ H,W i m σ H->
   ((Itr lo n).stop i H/\D.nx σ H)\/((Itr lo n).go i H/\∃N:St->Hp->Prop,(∀σ' H',N σ' H'->∃m',m'<m/\W (i+1) m' σ' H')/\∀x H',(Itr lo n).yld i H x H'->g x σ H' fun σ2 H2=>tb { D with nx:=N,ct:=N,bk:=D.nx } σ2 H2):=by
 exists fun i m σ H=>m=n - i/\i<=n/\Pv i σ H,⟨n,by simp,zero_le _,h0⟩,?_
 rintro i m σ H ⟨rfl,hi,p⟩;by_cases hlt:i<n
 ·refine .inr ⟨hlt,Pv (i+1),fun σ' H' p'=>⟨n - (i+1),by omega,rfl,hlt,p'⟩,fun x H' y=>?_⟩
  obtain⟨e,y⟩:=y;subst e y;exact hs i σ _ hlt p
 ·have e:i=n:=by omega
  subst e;exact .inl ⟨le_refl _,hd σ H p⟩
abbrev R2:=V->V->Hp->VK->Prop
def OpR(X:Cx)(f:Value->Value->Sem Value)(r:R2):Prop:=
 ∀(pins:PnL) (s:Shared) (σ : St) (H:Hp) (x y:V) (v u:Value) (Q:VK),Inv X pins σ H s->ya x v->ya y u->r x y H Q->
  wpAny (model X.prog X.w) X.A (f v u) (EP X pins σ Q) X.xe s
def UnR(X:Cx)(f:Value->Sem Value)(r:V->Hp->VK->Prop):Prop:=
 ∀(pins:PnL) (s:Shared) (σ : St) (H:Hp) (x:V) (v:Value) (Q:VK),Inv X pins σ H s->ya x v->r x H Q->
  wpAny (model X.prog X.w) X.A (f v) (EP X pins σ Q) X.xe s
def xC(X:Cx)(f:Value)(r:List V->Hp->VK->Prop):Prop:=
 ∀(pins:PnL) (s:Shared) (σ : St) (H:Hp) (xs:List V) (us:List Value) (Q:VK),Inv X pins σ H s->zX xs us->r xs H Q->
  wpAny (model X.prog X.w) X.A (call f us) (EP X pins σ Q) X.xe s
def tOp(r:R2)(ta tb:TE):TE:=fun σ H Q=>ta σ H fun x H1=>tb σ H1 fun y H2=>r x y H2 Q
def tUn(r:V->Hp->VK->Prop)(ta:TE):TE:=fun σ H Q=>ta σ H fun x H1=>r x H1 Q
inductive IrI(C:Int->Int->Prop)(g:Int->Int->V)(x y:V)(H:Hp)(Q:VK):Prop where
 | mk (i j:Int) (e1:x=.int i) (e2:y=.int j) (c:C i j) (q:Q (g i j) H)
def rI(C:Int->Int->Prop)(g:Int->Int->V):R2:=fun x y H Q=>IrI C g x y H Q
inductive zk8(g:Int->Int->V)(x y:V)(H:Hp)(Q:VK):Prop where
 | mk (i j:Int) (e1:x=.int i) (e2:y=.int j) (q:Q (g i j) H)
def rI0(g:Int->Int->V):R2:=fun x y H Q=>zk8 g x y H Q
def rU(g:Int->V):V->Hp->VK->Prop:=fun x H Q=>∃i,x=.int i/\Q (g i) H
end
section
variable {X:Cx}{a b c:Expr}{ta tb tc:TE}{pos:Pos}
theorem zjc(ha:PE X a ta)(hb:PE X b tb){pins:PnL}{s:Shared}{σ : St}{H:Hp}{R:V->V->Hp->Prop}(I:Inv X pins σ H s)
  (h:ta σ H fun x H1=>tb σ H1 fun y H2=>R x y H2) {Q:VSP}{f:Value->Value->Sem Value}
  (hf:∀v u s2 x y H2,Inv X pins σ H2 s2->ya x v->ya y u->R x y H2->wpAny (model X.prog X.w) X.A (f v u) Q X.xe s2) :
  wpAny (model X.prog X.w) X.A (eval a X.env) (fun v s₁=>wpAny (model X.prog X.w) X.A (eval b X.env) (fun u s₂=>wpAny (model X.prog X.w) X.A (f v u) Q X.xe s₂) X.xe s₁) X.xe s:=by
 refine thn (ha pins s σ H _ I h) fun v s1 ⟨x,H1,I1,r1,q1⟩=>?_;refine thn (hb pins s1 σ H1 _ I1 q1) fun u s2 ⟨y,H2,I2,r2,q2⟩=>?_;exact hf v u s2 x y H2 I2 r1 r2 q2
theorem zp{op:Operator}{r:R2}(ho:OpR X (binaryOp op) r)(ha:PE X a ta)(hb:PE X b tb):PE X (.BinOp a op b pos) (tOp r ta tb):=by
 exists ?_;intro pins s σ H Q I h;exact wpAny_BinOp (zjc ha hb I h fun v u s2 x y H2 I2 rx ry q=>ho pins s2 σ H2 x y v u Q I2 rx ry q)
theorem zjQ{op:UnaryOp}{r:V->Hp->VK->Prop}(ho:UnR X (unaryOp op) r)(ha:PE X a ta):PE X (.UnaryOp op a pos) (tUn r ta):=by
 exists ?_;intro pins s σ H Q I h;exact UnaryOp_ (thn (ha pins s σ H _ I h) fun v s1 ⟨x,H1,I1,r1,q1⟩=>ho pins s1 σ H1 x v Q I1 r1 q1)
theorem opI{f:Value->Value->Sem Value}{C:Int->Int->Prop}{g:Int->Int->Int}
  (rule:∀(i j:Int) (t u:Tok) (s:Shared) (Q:VSP) (E:VSP),C i j->Q (.int (g i j) s.toks) { s with toks:=s.toks+1 }->wpAny (model X.prog X.w) X.A (f (.int i t) (.int j u)) Q E s) :
  OpR X f (rI C fun i j=>.int (g i j)):=by
 intro pins s σ H x y v u Q I rx ry h;obtain⟨i,j,rfl,rfl,hc,q⟩:=h;obtain⟨t,rfl⟩:=rx;obtain⟨t',rfl⟩:=ry;exact rule i j t t' s _ _ hc ⟨.int (g i j),H,I.tok _,⟨_,rfl⟩,q⟩
theorem zjS{f:Value->Value->Sem Value}{g:Int->Int->Int}
  (rule:∀(i j:Int) (t u:Tok) (s:Shared) (Q:VSP) (E:VSP),Q (.int (g i j) s.toks) { s with toks:=s.toks+1 }->wpAny (model X.prog X.w) X.A (f (.int i t) (.int j u)) Q E s) :
  OpR X f (rI0 fun i j=>.int (g i j)):=by
 intro pins s σ H x y v u Q I rx ry h;obtain⟨i,j,rfl,rfl,q⟩:=h;obtain⟨t,rfl⟩:=rx;obtain⟨t',rfl⟩:=ry;exact rule i j t t' s _ _ ⟨.int (g i j),H,I.tok _,⟨_,rfl⟩,q⟩
theorem ziJ{f:Value->Value->Sem Value}{g:Int->Int->Bool}
  (rule:∀(i j:Int) (t u:Tok) (s:Shared) (Q:VSP) (E:VSP),Q (.bool (g i j)) s->wpAny (model X.prog X.w) X.A (f (.int i t) (.int j u)) Q E s) :
  OpR X f (rI0 fun i j=>.bl (g i j)):=by
 intro pins s σ H x y v u Q I rx ry h;obtain⟨i,j,rfl,rfl,q⟩:=h;obtain⟨t,rfl⟩:=rx;obtain⟨t',rfl⟩:=ry;exact rule i j t t' s _ _ ⟨.bl (g i j),H,I,rfl,q⟩
def zld(i j:Int):Prop:=0<j/\j<1073741824
def zlc(i j:Int):Prop:=0<=j/\j<=1000000/\i.natAbs<2 ^ 64
def zji(i j:Int):Prop:=(-(2 ^ 64)<i/\i<2 ^ 64)\/(-(2 ^ 64)<j/\j<2 ^ 64)
theorem zji.ok{i j:Int}(h:zji i j):IntMulOk i j:=by
 rcases h with ⟨h1,h2⟩|⟨h1,h2⟩
 ·exact .of_left (intBits_le_64 h1 h2)
 ·exact .of_right (intBits_le_64 h1 h2)
theorem yB:OpR X (binaryOp .Add) (rI0 fun i j=>.int (i+j)):=zjS fun _ _ _ _ _ _ _ q=>add_int q
theorem jH:OpR X (binaryOp .Sub) (rI0 fun i j=>.int (i - j)):=zjS fun _ _ _ _ _ _ _ q=>sub_int q
theorem yG:OpR X (binaryOp .Mult) (rI zji fun i j=>.int (i * j)):=opI fun _ _ _ _ _ _ _ hc q=>mul_int q hc.ok
theorem yf:OpR X (binaryOp .FloorDiv) (rI zld fun i j=>.int (i / j)):=opI fun i j _ _ _ _ _ hc q=>by
 have h1:(0:Int)<j:=hc.1;have h2:j<1073741824:=hc.2;exact floordiv_int (by omega) (by rw[Int.fdiv_eq_ediv_of_nonneg i (by omega)];exact q) (.inl (PyProof.noPylong_small (by omega)))
theorem zW:OpR X (binaryOp .Mod) (rI (fun _ j=>0<j) fun i j=>.int (i % j)):=opI fun i j _ _ _ _ _ hc q=>by
 have h1:(0:Int)<j:=hc;exact mod_int' (by omega) (by rw[Int.fmod_eq_emod_of_nonneg i (by omega)];exact q)
theorem jI:OpR X (binaryOp .Pow) (rI zlc fun i j=>.int (i ^ j.toNat)):=opI fun _ _ _ _ _ _ _ hc q=>pow_int_small hc.1 hc.2.1 hc.2.2 q
theorem unI{f:Value->Sem Value}{g:Int->Int}
  (rule:∀(i:Int) (t:Tok) (s:Shared) (Q:VSP) (E:VSP),Q (.int (g i) s.toks) { s with toks:=s.toks+1 }->wpAny (model X.prog X.w) X.A (f (.int i t)) Q E s) :
  UnR X f (rU fun i=>.int (g i)):=by
 intro pins s σ H x v Q I rx h;obtain⟨i,rfl,q⟩:=h;obtain⟨t,rfl⟩:=rx;exact rule i t s _ _ ⟨.int (g i),H,I.tok _,⟨_,rfl⟩,q⟩
theorem zhX:UnR X (unaryOp .USub) (rU fun i=>.int (-i)):=unI fun _ _ _ _ _ q=>neg_int q
def zjE:V->V->Bool
 | .non,.non=>true|.non,.int _=>true|.int _,.non=>true|.non,.bl _=>true|.bl _,.non=>true|.non,.str _=>true|.str _,.non=>true
 | .int _,.int _=>true|.bl _,.bl _=>true|.str _,.str _=>true|.byt _,.byt _=>true
 | .int _,.str _=>true|.str _,.int _=>true|.bl _,.str _=>true|.str _,.bl _=>true
 | _,_=>false
def rEq:R2:=fun x y H Q=>zjE x y=true/\Q (.bl (decide (x=y))) H
def rNe:R2:=fun x y H Q=>zjE x y=true/\Q (.bl (!decide (x=y))) H
theorem zdd{i j:Int}:decide (V.int i=V.int j)=(i==j):=by
 rw[Bool.eq_iff_iff];simp
theorem zfZ{i j:Bool}:decide (V.bl i=V.bl j)=(i==j):=by
 rw[Bool.eq_iff_iff];simp
theorem zdc{i j:Str}:decide (V.str i=V.str j)=(i==j):=by
 rw[Bool.eq_iff_iff];simp
theorem zde{i j:Array UInt8}:decide (V.byt i=V.byt j)=(i.toList==j.toList):=by
 rw[Bool.eq_iff_iff];cases i;cases j;simp
theorem yh{pins:PnL}{σ : St}{H:Hp}{s:Shared}{Q:VK}{k k':Bool}(I:Inv X pins σ H s)(q:Q (.bl k) H)(e:k=k'):EP X pins σ Q (.bool k') s:=by
 subst e;exact⟨.bl k,H,I,rfl,q⟩
theorem yA:OpR X (compareOp .Eq) rEq:=by
 intro pins s σ H x y v u Q I rx ry h;obtain⟨hs,q⟩:=h;cases x with
 | non=>
  cases rx;cases y with
  | non=>cases ry;exact PySem.EqNone.eq_none_none (yh I q (by simp))
  | bl j=>cases ry;exact PySem.EqNone.eq_none_bool (yh I q (by simp))
  | int j=>obtain⟨t',rfl⟩:=ry;exact PySem.EqNone.eq_none_int (yh I q (by simp))
  | str j=>obtain⟨t',rfl⟩:=ry;exact PySem.EqNone.eq_none_str (yh I q (by simp))
  | _=>exact absurd (show false=true from hs) zft
 | bl i=>
  cases rx;cases y with
  | non=>cases ry;exact PySem.EqNone.eq_bool_none (yh I q (by simp))
  | bl j=>cases ry;exact eq_bool (yh I q zfZ)
  | str j=>obtain⟨t',rfl⟩:=ry;exact PySem.EqMixed.eq_bool_str (yh I q (by simp))
  | _=>exact absurd (show false=true from hs) zft
 | int i=>
  obtain⟨t,rfl⟩:=rx;cases y with
  | non=>cases ry;exact PySem.EqNone.eq_int_none (yh I q (by simp))
  | int j=>obtain⟨t',rfl⟩:=ry;exact eq_int (yh I q zdd)
  | str j=>obtain⟨t',rfl⟩:=ry;exact PySem.EqMixed.eq_int_str (yh I q (by simp))
  | _=>exact absurd (show false=true from hs) zft
 | str i=>
  obtain⟨t,rfl⟩:=rx;cases y with
  | non=>cases ry;exact PySem.EqNone.eq_str_none (yh I q (by simp))
  | bl j=>cases ry;exact PySem.EqMixed.eq_str_bool (yh I q (by simp))
  | int j=>obtain⟨t',rfl⟩:=ry;exact PySem.EqMixed.eq_str_int (yh I q (by simp))
  | str j=>obtain⟨t',rfl⟩:=ry;exact eq_str (yh I q zdc)
  | _=>exact absurd (show false=true from hs) zft
 | byt i=>
  obtain⟨t,rfl⟩:=rx;cases y with
  | byt j=>obtain⟨t',rfl⟩:=ry;exact PySem.W.eq_bytes (yh I q zde)
  | _=>exact absurd (show false=true from hs) zft
 | _=>cases y <;> exact absurd (show false=true from hs) zft
theorem zhO:OpR X (compareOp .NotEq) rNe:=by
 intro pins s σ H x y v u Q I rx ry h;obtain⟨hs,q⟩:=h;cases x with
 | non=>
  cases rx;cases y with
  | non=>cases ry;exact PySem.EqNone.ne_none_none (yh I q (by simp))
  | bl j=>cases ry;exact PySem.EqNone.ne_none_bool (yh I q (by simp))
  | int j=>obtain⟨t',rfl⟩:=ry;exact PySem.EqNone.ne_none_int (yh I q (by simp))
  | str j=>obtain⟨t',rfl⟩:=ry;exact PySem.EqNone.ne_none_str (yh I q (by simp))
  | _=>exact absurd (show false=true from hs) zft
 | bl i=>
  cases rx;cases y with
  | non=>cases ry;exact PySem.EqNone.ne_bool_none (yh I q (by simp))
  | bl j=>cases ry;exact ne_bool (yh I q (congrArg not zfZ))
  | str j=>obtain⟨t',rfl⟩:=ry;exact PySem.EqMixed.ne_bool_str (yh I q (by simp))
  | _=>exact absurd (show false=true from hs) zft
 | int i=>
  obtain⟨t,rfl⟩:=rx;cases y with
  | non=>cases ry;exact PySem.EqNone.ne_int_none (yh I q (by simp))
  | int j=>obtain⟨t',rfl⟩:=ry;exact ne_int (yh I q (congrArg not zdd))
  | str j=>obtain⟨t',rfl⟩:=ry;exact PySem.EqMixed.ne_int_str (yh I q (by simp))
  | _=>exact absurd (show false=true from hs) zft
 | str i=>
  obtain⟨t,rfl⟩:=rx;cases y with
  | non=>cases ry;exact PySem.EqNone.ne_str_none (yh I q (by simp))
  | bl j=>cases ry;exact PySem.EqMixed.ne_str_bool (yh I q (by simp))
  | int j=>obtain⟨t',rfl⟩:=ry;exact PySem.EqMixed.ne_str_int (yh I q (by simp))
  | str j=>obtain⟨t',rfl⟩:=ry;exact ne_str (yh I q (congrArg not zdc))
  | _=>exact absurd (show false=true from hs) zft
 | byt i=>
  obtain⟨t,rfl⟩:=rx;cases y with
  | byt j=>obtain⟨t',rfl⟩:=ry;exact PySem.W.ne_bytes (yh I q (congrArg not zde))
  | _=>exact absurd (show false=true from hs) zft
 | _=>cases y <;> exact absurd (show false=true from hs) zft
theorem vS:OpR X (compareOp .Lt) (rI0 fun i j=>.bl (decide (i<j))):=ziJ fun _ _ _ _ _ _ _ q=>lt_int q
theorem zhP:OpR X (compareOp .LtE) (rI0 fun i j=>.bl (decide (i<=j))):=ziJ fun _ _ _ _ _ _ _ q=>le_int q
theorem ze7:OpR X (compareOp .Gt) (rI0 fun i j=>.bl (decide (j<i))):=ziJ fun _ _ _ _ _ _ _ q=>gt_int q
theorem zdD:OpR X (compareOp .In) (fun x y H Q=>∃i j,x=.str i/\y=.str j/\Q (.bl (!(Builtin.Str.occurrences j i 0 j.length 1).isEmpty)) H):=by
 intro pins s σ H x y v u Q I rx ry h;obtain⟨i,j,rfl,rfl,q⟩:=h;obtain⟨t,rfl⟩:=rx;obtain⟨t',rfl⟩:=ry;exact in_str (yh I q rfl)
theorem zgH:OpR X (compareOp .IsNot) (fun x y H Q=>y=.non/\Q (.bl (!decide (x=.non))) H):=by
 intro pins s σ H x y v u Q I rx ry h;obtain⟨rfl,q⟩:=h;cases ry;refine isnot_none_gen (yh I q ?_);cases x <;> first
  | (cases rx;rfl)
  | (obtain⟨t,rfl⟩:=rx;rfl)
theorem zJ(b:Expr){op:CmpOp}(h:op≠.In:=by decide)(h2:op≠.NotIn:=by decide):behindInMarks op b=false:=by
 have e1:(op==CmpOp.In)=false:=by cases op <;> first|rfl|exact absurd rfl h
 have e2:(op==CmpOp.NotIn)=false:=by cases op <;> first|rfl|exact absurd rfl h2
 cases b <;> simp [behindInMarks,e1,e2]
theorem wz{op:CmpOp}{r:R2}(ho:OpR X (compareOp op) r)(ha:PE X a ta)(hb:PE X b tb)(hm:behindInMarks op b=false):PE X (.Compare a [op] [b] pos) (tOp r ta tb):=by
 exists ?_;intro pins s σ H Q I h;exact wpAny_Compare1 (zjc ha hb I h fun v u s2 x y H2 I2 rx ry q=>ho pins s2 σ H2 x y v u Q I2 rx ry q) hm
inductive zkk(x:V)(H:Hp)(Q:Bool->Hp->Prop):Prop where
 | mk (k:Bool) (e:x=.bl k) (q:Q k H)
def zcx(t:TE):TT:=fun σ H Q=>t σ H fun x H'=>zkk x H' Q
theorem zv{op:CmpOp}{r:R2}(ho:OpR X (compareOp op) r)(ha:PE X a ta)(hb:PE X b tb)(hm:behindInMarks op b=false):PT X (.Compare a [op] [b] pos) (zcx (tOp r ta tb)):=by
 exists ?_;intro pins s σ H Q I h;refine wpAny_isTrue_Compare1 (thn (ha pins s σ H _ I h) fun v s1 ⟨x,H1,I1,r1,q1⟩=>thn (hb pins s1 σ H1 _ I1 q1) fun u s2 ⟨y,H2,I2,r2,q2⟩=>
  thn (ho pins s2 σ H2 x y v u _ I2 r1 r2 q2) fun c s3 ⟨z,H3,I3,r3,k,e,q3⟩=>?_) hm
 subst e;cases r3;exact wpAny_truthy_bool ⟨H3,I3,q3⟩
def zh3(r r':R2)(ta tb tc:TE):TE:=fun σ H Q=>ta σ H fun x H1=>tb σ H1 fun y H2=>r x y H2 fun z H3=>∃k,z=.bl k/\
 (if k=true then tc σ H3 fun w' H4=>r' y w' H4 Q else Q (.bl false) H3)
theorem zeT{op op':CmpOp}{r r':R2}(ho:OpR X (compareOp op) r)(ho':OpR X (compareOp op') r')(ha:PE X a ta)(hb:PE X b tb)(hc:PE X c tc)
  (hm:lastMarks [op,op'] [b,c]=false:=by with_unfolding_all rfl):PT X (.Compare a [op,op'] [b,c] pos) (zcx (zh3 r r' ta tb tc)):=by
 exists ?_;intro pins s σ H Q I h;refine isTrue_chain (thn (ha pins s σ H _ I h) fun v s1 ⟨x,H1,I1,r1,q1⟩=>test_link (thn (hb pins s1 σ H1 _ I1 q1) fun u s2 ⟨y,H2,I2,r2,q2⟩=>
  thn (ho pins s2 σ H2 x y v u _ I2 r1 r2 q2) fun d s3 ⟨z,H3,I3,r3,k,e,q3⟩=>?_)) hm
 subst e;cases r3;refine wpAny_truthy_bool ?_;cases k with
 | false=>
  obtain⟨k',e',q'⟩:=q3;cases e';exact ite_ff ⟨H3,I3,q'⟩
 | true=>
  refine ite_tt (test_last (thn (hc pins s3 σ H3 _ I3 q3) fun w' s4 ⟨z',H4,I4,r4,q4⟩=>thn (ho' pins s4 σ H4 y z' u w' _ I4 r2 r4 q4) fun d' s5 ⟨z2,H5,I5,r5,k2,e2,q5⟩=>?_));subst e2;cases r5;exact wpAny_truthy_bool ⟨H5,I5,q5⟩
theorem jO:(sizeLine:Nat)<2 ^ 63:=by rw[sizeLine_eq];decide
theorem xF:OpR X (binaryOp .Add) (fun x y H Q=>∃i j,x=.str i/\y=.str j/\i.length+j.length<=sizeLine/\Q (.str (i++j)) H):=by
 intro pins s σ H x y v u Q I rx ry h;obtain⟨i,j,rfl,rfl,hz,q⟩:=h;obtain⟨t,rfl⟩:=rx;obtain⟨t',rfl⟩:=ry;exact add_str (fun t' tk=>⟨.str (i++j),H,I.tok _,⟨_,rfl⟩,q⟩) hz
theorem wG{x:V}{us:List Value}(r:zX [x] us):∃u,us=[u]/\ya x u:=by
 cases r with
 | cons r1 r2=>cases r2;exact⟨_,rfl,r1⟩
theorem zhz{x y:V}{us:List Value}(r:zX [x,y] us):∃u w',us=[u,w']/\ya x u/\ya y w':=by
 cases r with
 | cons r1 r2=>
  cases r2 with
  | cons r3 r4=>cases r4;exact⟨_,_,rfl,r1,r3⟩
theorem zd1:xC X (.type "int") (fun xs H Q=>(∃i,xs=[.int i]/\Q (.int i) H)\/∃k,xs=[.bl k]/\Q (.int (if k then 1 else 0)) H):=by
 intro pins s σ H xs us Q I r h;rcases h with ⟨i,rfl,q⟩|⟨k,rfl,q⟩
 ·obtain⟨u,rfl,t,rfl⟩:=wG r
  exact call_int_int ⟨.int i,H,I,⟨_,rfl⟩,q⟩
 ·obtain⟨u,rfl,r1⟩:=wG r
  cases r1;exact call_int_bool ⟨.int (if k then 1 else 0),H,I.tok _,⟨_,rfl⟩,q⟩
structure zcr(h:Heap)(x dx C:Addr)(mA:Str->Option Value):Prop where
 obj:h.get? x=some (instObj C dx)
 ns:h.Ns1 dx mA
 ne:dx≠x
theorem qB{h:Heap}{dx:Addr}{mA:Str->Option Value}(n:h.Ns1 dx mA):∃od,h.get? dx=some od/\∀name,lookIn name od=some (mA name):=by
 obtain⟨o,es,ep,ho,hd,hk,_,hm⟩:=n;exists o,ho,fun name=>?_;have e:=hm name;unfold nsFind findBy at e;rw[<- Array.find?_toList] at e;unfold lookIn;rw[hd];dsimp only;split
 ·rename_i y q
  rw[q] at e;exact congrArg some e
 ·rename_i q
  rw[q] at e;have a:es.toList.any (·.refKey)=false:=by
   rw[List.any_eq_false];intro y hy;obtain⟨z,t,hkey⟩:=hk y (Array.mem_toList_iff.mp hy);simp [DictEntry.refKey,hkey]
  have a':¬es.toList.any (·.refKey)=true:=by rw[a];exact zft
  rw[if_neg a'];exact congrArg some e
theorem zcr.look{h:Heap}{x dx C:Addr}{mA:Str->Option Value}(I:zcr h x dx C mA):∃od,PySem.W.InstAt h x (instObj C dx) C (some od)/\∀name,lookIn name od=some (mA name):=
 let ⟨od,ho,hl⟩:=qB I.ns
 ⟨od,⟨I.obj,rfl,rfl,ho⟩,hl⟩
variable {prog:Program}{w:World}{A:Around}{E:VSP}{s:Shared}{K:Frag}{x dx C f:Addr}{mA:Str->Option Value}{name:Str}{v:Value}
theorem zhh{expr:Bool}{Q:VSP}(X:K.In s.heap)(I:zcr s.heap x dx C mA)(hg:plainGet K C name=true)(hh:hasDictIn K C=true)
  (ha:findIn K (.ref C) name=some none) (hv:mA name=some v) (hv':PySem.W.handedIn v=true) (h:Q v { s with toks:=s.toks+1 }) :
  wpAny (model prog w) A (getAttr (.ref x) name expr) Q E s:=by
 obtain⟨od,J,hl⟩:=I.look;exact PySem.W.get_value X J (plainGet_of hg).1 (PySem.W.findObj_own hh ha rfl (by rw[hl,hv])) hv' h
theorem zfL{pl:Sem Bool}{Q:Value×List Value->Shared->Prop}(X:K.In s.heap)(I:zcr s.heap x dx C mA)(hg:plainGet K C name=true)
  (hf:findIn K (.ref C) name=some (some (.ref f))) (ht:isFn K (.ref f)=true) (hv:mA name=none) (h:Q (.ref f,[.ref x]) s) :
  wpAny (model prog w) A (getMethod (.ref x) name pl) Q E s:=by
 obtain⟨od,J,hl⟩:=I.look;exact PySem.W.method_fn X J (plainGet_of hg).1 (plainGet_of hg).2 hf (beq_iff_eq.mp ht) (by show(lookIn name od).map (·.isSome)=some false;rw[hl,hv];rfl) h
theorem zge{ns:List Str}{Q:Unit->Shared->Prop}(X:K.In s.heap)(I:zcr s.heap x dx C mA)
  (hs:findIn K (.ref C) "__setattr__"=some (some (.builtin "object.__setattr__"))) (hp:plainOver K C=true) (ht:takerIn K C name=some none) (hh:hasDictIn K C=true)
  (hw:PySem.Within mA ns) (hsz:ns.length<=sizeLine)
  (h:∀h',zcr h' x dx C (fun y=>if y=name then some v else mA y)->Heap.SameBut dx s.heap h'->Q () { s with heap:=h',toks:=s.toks+2 }) :
  wpAny (model prog w) A (setAttr (.ref x) name v) Q E s:=by
 obtain⟨od,J,hl⟩:=I.look;refine PySem.W.set_plain X J hs (PySem.W.osa_open (s:={ s with toks:=s.toks+1 }) (r:=none) X J hp ht fun b=>?_)
 obtain⟨cd,hc,hd'⟩:=PySem.W.any_some hh;have hx:s.heap.get? x=some ⟨.ref C,some dx,.plain,#[]⟩:=I.obj;refine zwb (zwp (zwb (zwb (wpAny_loadPart hx (zwb (PySem.W.Looks.here (s:={ s with toks:=s.toks+1 }) (PySem.W.looks_clsIn X hc) ?_))))))
 rw[hd'];refine zwp (a:=some dx) (zwb (zwp (zwb ?_)));refine wpAny_nsSet1 (s:={ s with toks:=s.toks+1 }) I.ns fun h' hn2 hs2=>?_
 obtain⟨oD,esD,epD,hoD,hdD,hcD⟩:=hn2.count (PySem.Within.cons name v hw);refine zwb (wpAny_lookBehind hoD (by rw[hdD];exact pastItsLine_dict (le_trans hcD (by rw[length_cons];omega))) ?_)
 exact zwp (h _ ⟨(hs2.2 _ (Ne.symm I.ne)).trans I.obj,hn2,I.ne⟩ hs2)
theorem za8{R:Result->Shared->Prop}{vs:List Value}{kw:List (Str×Value)}(X:K.In s.heap)(hm:makesIn K C=true)
  (hi:findIn K (.ref C) "__init__"=some (some (.ref f))) (hf:PySem.W.typeIn K (.ref f)=some (.type "function"))
  (h:codeAny (model prog w) (A.under (.builtin "type.__call__" ⟨.ref C::vs,kw⟩)) (.call (.ref f) ⟨.ref (s.heap.objs.size+1)::vs,kw⟩) (PySem.W.InitBack (s.heap.objs.size+1) R)
   { s with heap:=(s.heap.push emptyDict).push (instObj C s.heap.objs.size) }) :
  codeAny (model prog w) A (.call (.ref C) ⟨vs,kw⟩) R s:=by
 obtain⟨hh,g,d,t,os⟩:=s;exact PySem.W.make_core (PySem.W.makes_of X hm) (PySem.W.looks_findIn X hi) (fun self=>PySem.W.bind_fn X self hf) (.inl rfl) h
def zN(f:Str)(v:V):List (Str×V)->List (Str×V)
 | []=>[(f,v)]
 | (g,x)::r=>if g=f then (g,v)::r else (g,x)::zN f v r
theorem zo(f g:Str)(v:V):∀fs:List (Str×V),(zN f v fs).lookup g=if g=f then some v else fs.lookup g
 | []=>by
  show List.lookup g [(f,v)]=_;by_cases h:g=f
  ·have hb:(g==f)=true:=beq_iff_eq.mpr h
   simp only[List.lookup,hb,if_pos h]
  ·have hb:(g==f)=false:=beq_eq_false_iff_ne.mpr h
   simp only[List.lookup,hb,if_neg h]
 | (k,x)::r=>by
  have ih:=zo f g v r;rw[show zN f v ((k,x)::r)=(if k=f then (k,v)::r else (k,x)::zN f v r) from rfl]
  by_cases hk:k=f
  ·rw[if_pos hk]
   by_cases h:g=k
   ·have hb:(g==k)=true:=beq_iff_eq.mpr h
    simp only[List.lookup,hb,if_pos (h.trans hk)]
   ·have hb:(g==k)=false:=beq_eq_false_iff_ne.mpr h
    simp only[List.lookup,hb,if_neg (fun e:g=f=>h (e.trans hk.symm))]
  ·rw[if_neg hk]
   by_cases h:g=k
   ·have hb:(g==k)=true:=beq_iff_eq.mpr h
    simp only[List.lookup,hb,if_neg (fun e:g=f=>hk (h.symm.trans e))]
   ·have hb:(g==k)=false:=beq_eq_false_iff_ne.mpr h
    simp only[List.lookup,hb];exact ih
theorem uL(f:Str)(v:V):∀fs:List (Str×V),f∈(zN f v fs).map (·.1)/\∀g,g∈fs.map (·.1)->g∈(zN f v fs).map (·.1)
 | []=>⟨by simp [zN],fun g h=>by simp at h⟩
 | (k,x)::r=>by
  obtain⟨i1,i2⟩:=uL f v r;rw[show zN f v ((k,x)::r)=(if k=f then (k,v)::r else (k,x)::zN f v r) from rfl]
  by_cases hk:k=f
  ·rw[if_pos hk]
   subst hk;exact⟨by simp,fun g h=>by simpa using h⟩
  ·rw[if_neg hk]
   exists ?_,fun g h=>?_
   ·rw[map_cons]
    exact mem_cons_of_mem _ i1
   ·rw[map_cons] at h |-
    rcases List.mem_cons.mp h with e|e
    ·exact List.mem_cons.mpr (.inl e)
    ·exact mem_cons_of_mem _ (i2 g e)
theorem uT(f:Str)(v:V):∀fs:List (Str×V),(zN f v fs).length<=fs.length+1
 | []=>by simp [zN]
 | (k,x)::r=>by
  have ih:=uT f v r;rw[show zN f v ((k,x)::r)=(if k=f then (k,v)::r else (k,x)::zN f v r) from rfl]
  by_cases hk:k=f
  ·rw[if_pos hk,length_cons,length_cons];omega
  ·rw[if_neg hk,length_cons,length_cons];omega
theorem xY{v:V}{o:Option Value}(r:ue (some v) o):∃u,o=some u/\ya v u:=by
 cases o with
 | none=>exact(show False from r).elim
 | some u=>exact⟨u,rfl,r⟩
theorem ue.none_of{o:Option Value}(r:ue none o):o=none:=by
 cases o with
 | none=>rfl
 | some u=>exact(show False from r).elim
theorem qG{v:V}{u:Value}(r:ya v u):PySem.W.handedIn u=true:=by
 cases v with
 | non=>cases (show u=Value.none from r);rfl
 | bl b=>cases (show u=Value.bool b from r);rfl
 | int i=>obtain⟨t,e⟩:=(show ∃t,u=Value.int i t from r);cases e;rfl
 | str x=>obtain⟨t,e⟩:=(show ∃t,u=Value.str x t from r);cases e;rfl
 | byt b=>obtain⟨t,e⟩:=(show ∃t,u=Value.bytes b t from r);cases e;rfl
 | flt b=>obtain⟨t,e⟩:=(show ∃t,u=Value.float b t from r);cases e;rfl
 | ref a=>cases (show u=Value.ref a from r);rfl
 | ty n=>cases (show u=Value.type n from r);rfl
end
section
variable {P:Program}{w:World}{H H':Hp}{h h':Heap}{a C dx:Addr}{fs fs':List (Str×V)}
theorem jj(hok:HOk P w H h)(e:H a=some (.ins C dx fs)):∃mA,zcr h a dx C mA/\(∀f,ue (fs.lookup f) (mA f))/\PySem.Within mA (fs.map (·.1))/\fs.length<=1000/\H dx=some (.own a):=by
 obtain⟨d,z,ne,ob,mA,n,r,q⟩:=(show yu P w H h a (.ins C dx fs) from hok a _ e);exact⟨mA,⟨ob,n,ne⟩,r,q,z,d⟩
structure Cls(K:Frag)(C:Addr):Prop where
 pg:plainGet K C Str.empty=true
 hd:hasDictIn K C=true
 po:plainOver K C=true
 sa:findIn K (.ref C) "__setattr__"=some (some (.builtin "object.__setattr__"))
theorem Cls.get{K:Frag}{C:Addr}(c:Cls K C)(f:Str):plainGet K C f=true:=c.pg
def yt(K:Frag)(C:Addr)(f:Str):Prop:=findIn K (.ref C) f=some none
theorem yt.taker{K:Frag}{C:Addr}{f:Str}(n:yt K C f):takerIn K C f=some none:=by
 unfold takerIn;rw[show findIn K (.ref C) f=some none from n];rfl
structure xw(K:Frag)(C:Addr)(m:Str)(f:Addr):Prop where
 at_:findIn K (.ref C) m=some (some (.ref f))
 fn:isFn K (.ref f)=true
 kp:keepIn K (.ref f)=true
variable {X:Cx}{pins:PnL}{σ:St}{s:Shared}{f:Str}{v:V}{A:Around}{E:VSP}
theorem zcj{b:Bool}{Q:VSP}(I:Inv X pins σ H s)(e:H a=some (.ins C dx fs))(c:Cls X.K C)(n:yt X.K C f)(l:fs.lookup f=some v)
  (h:∀u s',Inv X pins σ H s'->ya v u->Q u s'):wpAny (model X.prog X.w) A (getAttr (.ref a) f b) Q E s:=by
 obtain⟨mA,O,r,_,_,_⟩:=jj I.hok e;obtain⟨u,hu,ru⟩:=xY (v:=v) (o:=mA f) (by rw[<- l];exact r f)
 exact zhh I.kIn O (c.get f) c.hd n hu (qG ru) (h u _ (I.tok _) ru)
theorem wo{m:Str}{g:Addr}{pl:Sem Bool}{Q:Value×List Value->Shared->Prop}(I:Inv X pins σ H s)(e:H a=some (.ins C dx fs))(c:Cls X.K C)(k:xw X.K C m g)(l:fs.lookup m=none)
  (h:Q (.ref g,[.ref a]) s):wpAny (model X.prog X.w) A (getMethod (.ref a) m pl) Q E s:=by
 obtain⟨mA,O,r,_,_,_⟩:=jj I.hok e;have hn:mA m=none:=ue.none_of (by rw[<- l];exact r m)
 exact zfL I.kIn O (c.get m) k.at_ k.fn hn h
theorem zbG{y:V}{u:Value}{Q:Unit->Shared->Prop}(I:Inv X pins σ H s)(e:H a=some (.ins C dx fs))(c:Cls X.K C)(n:yt X.K C f)(hl:fs.length<1000)(ry:ya y u)
  (h:∀s',Inv X pins σ (upd H a (.ins C dx (zN f y fs))) s'->Q () s'):wpAny (model X.prog X.w) A (setAttr (.ref a) f u) Q E s:=by
 obtain⟨mA,O,r,wi,_,ho⟩:=jj I.hok e;have hz:(fs.map (·.1)).length<=sizeLine:=by rw[length_map,sizeLine_eq];omega
 refine zge I.kIn O c.sa c.po n.taker c.hd wi hz fun h' O' sb=>h _ ?_;have hd:∃o,h'.get? dx=some o:=let ⟨o,_,_,e',_⟩:=O'.ns;⟨o,e'⟩;refine I.write (x:=a) (e:=dx) (by rw[e];exact True.intro) (.inr ho) (fun b q hb z=>(sb.2 b hb).trans z) hd ?_
 exists by rw[zg O.ne];exact ho,?_,O.ne,O'.obj,_,O'.ns,fun g=>?_,fun g hg=>?_
 ·have:=uT f y fs;omega
 ·show ue ((zN f y fs).lookup g) (if g=f then some u else mA g)
  rw[zo];by_cases q:g=f
  ·rw[if_pos q,if_pos q];exact ry
  ·rw[if_neg q,if_neg q];exact r g
 ·by_cases q:g=f
  ·rw[q];exact(uL f y fs).1
  ·refine(uL f y fs).2 g (wi g fun z=>hg ?_)
   show(if g=f then some u else mA g)=none
   rw[if_neg q];exact z
theorem Inv.made(I:Inv X pins σ H s):Inv X pins σ (upd (upd H s.heap.objs.size (.own (s.heap.objs.size+1))) (s.heap.objs.size+1) (.ins C s.heap.objs.size []))
  { s with heap:=(s.heap.push emptyDict).push (instObj C s.heap.objs.size) }:=by
 have e1:(s.heap.push emptyDict).get? s.heap.objs.size=some emptyDict:=zgs s.heap rfl;have e2:((s.heap.push emptyDict).push (instObj C s.heap.objs.size)).get? (s.heap.objs.size+1)=some (instObj C s.heap.objs.size):=by
  have:=zgs (s.heap.push emptyDict) (o:=instObj C s.heap.objs.size) rfl
  rwa [Heap.size_push] at this
 have e3:(s.heap.push emptyDict).Ns s.heap.objs.size (fun _=>none):=⟨emptyDict,#[],_,e1,rfl,(fun e he=>absurd he (by simp)),fun _=>rfl⟩
 have I1:=I.laid (a:=s.heap.objs.size) (o:=.own (s.heap.objs.size+1)) (h':=s.heap.push emptyDict) (t':=s.toks) (fun b u q=>zgp _ q) (le_refl _) ⟨_,e1⟩;refine I1.laid (a:=s.heap.objs.size+1) (o:=.ins C s.heap.objs.size []) (t':=s.toks) (fun b u q=>zgp _ q) (Nat.le_of_eq (Heap.size_push _ _)) ?_;have ne:s.heap.objs.size≠s.heap.objs.size+1:=ne_of_lt (lt_succ_self _);exists by rw[zg ne,za],zero_le _,ne,e2,fun _=>none,(Heap.Ns1.of_empty e3).at fun o q=>zgp _ q,fun _=>True.intro,fun y hy=>absurd rfl hy
theorem zdi{prog:Program}{w:World}{env:Env}{e:Expr}{f:Str}{pos:Pos}{s:Shared}{Q:VSP}(hb:attributeBase e f env (eval e env)=eval e env)
  (h:wpAny (model prog w) A (eval e env) (fun o s₁=>wpAny (model prog w) A (getAttr o f true) Q E s₁) E s):wpAny (model prog w) A (eval (.Attribute e f pos) env) Q E s:=
 Attribute_any_ h (by rw[arm_eval_Attribute,hb])
inductive zjrJ(K:Frag)(f:Str)(Q:VK)(x:V)(H1:Hp):Prop|mk(a C dx fs v:_):x=.ref a->H1 a=some (.ins C dx fs)->Cls K C->yt K C f->fs.lookup f=some v->(Q v H1)->zjrJ K f Q x H1
def zjr(K:Frag)(ta:TE)(f:Str):TE:=fun σ H Q=>ta σ H fun x H1=>zjrJ K f Q x H1
inductive zkAJ(K:Frag)(f:Str)(D:L2.w4)(σ:St)(y:V)(x:V)(H2:Hp):Prop|mk(a C dx fs:_):x=.ref a->H2 a=some (.ins C dx fs)->Cls K C->yt K C f->fs.length<1000->(D.nx σ (upd H2 a (.ins C dx (zN f y fs))))->zkAJ K f D σ y x H2
def zkA(K:Frag)(ta tv:TE)(f:Str):TS:=fun D σ H=>tv σ H fun y H1=>ta σ H1 fun x H2=>zkAJ K f D σ y x H2
variable {o e value:Expr}{pos pos' tpos:Pos}{ta tv:TE}
theorem yE(he:PE X e ta)(hb:attributeBase e f X.env (eval e X.env)=eval e X.env):PE X (.Attribute e f pos) (zjr X.K ta f):=by
 exists ?_;intro pins s σ H Q I h;refine zdi hb (thn (he pins s σ H _ I h) fun u s1 ⟨x,H1,I1,rx,a,C,dx,fs,v,ex,ea,c,n,l,q⟩=>?_);subst ex;obtain rfl:u=Value.ref a:=rx;exact zcj I1 ea c n l fun u' s2 I2 ru=>⟨v,H1,I2,ru,q⟩
theorem xT(ha:PE X o ta)(hv:PE X value tv)(hs:swapsWith value (some (.Attribute o f pos')) pos.line X.env=pure false):PS X (.Assign [.Attribute o f pos'] value pos) (zkA X.K ta tv f):=by
 exists ?_;intro pins s σ H D I h;refine plainObj_wpAny_Assign_Attribute (thn (hv pins s σ H _ I h) fun u s1 ⟨y,H1,I1,ry,q⟩=>thn (ha pins s1 σ H1 _ I1 q) fun ov s2 ⟨x,H2,I2,rx,a,C,dx,fs,ex,ea,c,n,l,q2⟩=>?_) hs;subst ex;obtain rfl:ov=Value.ref a:=rx;exact zbG I2 ea c n l ry fun s3 I3=>⟨σ,_,I3,q2⟩
variable {Q:VSP}{c:Value}{b:Bool}
inductive wP(K:Frag)(H:Hp):V->Value->Prop where
 | non:wP K H .non (.type "NoneType")
 | bl (x:Bool):wP K H (.bl x) (.type "bool")
 | int (i:Int):wP K H (.int i) (.type "int")
 | str (x:Str):wP K H (.str x) (.type "str")
 | flt (x:UInt64):wP K H (.flt x) (.type "float")
 | lst {a:Addr}{xs:List V}(e:H a=some (.lst xs)):wP K H (.ref a) (.type "list")
 | frz {a:Addr}{o:Obj}{xs:List V}(e:H a=some (.frz o (.lst xs))):wP K H (.ref a) (.type "list")
 | tup {a:Addr}{xs:List V}(e:H a=some (.tup xs)):wP K H (.ref a) (.type "tuple")
 | dK {a:Addr}{kvs:List (Key×V)}(e:H a=some (.dK kvs)):wP K H (.ref a) (.type "dict")
 | dT {a:Addr}{kvs:List (List Key×V)}(e:H a=some (.dT kvs)):wP K H (.ref a) (.type "dict")
 | ins {a C dx:Addr}{fs:List (Str×V)}(e:H a=some (.ins C dx fs)) (cl:Cls K C) (ha:findIn K (.ref C) "__class__"=some (some (.builtin "object.__class__")))
   (hn:specialIn K (.builtin "object.__class__") "__get__"=some (some (.builtin "getset_descriptor.__get__"))) (htk:PySem.W.takesIn K (.builtin "object.__class__")=some true)
   (hm:mroIn K C (.type "object")=some true):wP K H (.ref a) (.ref C)
theorem qF{x:V}{u t:Value}(I:Inv X pins σ H s)(rx:ya x u)(ty:wP X.K H x t)(e:kitOne X.K t c=some b)(h:∀tk,Q (.bool b) { s with toks:=tk }):
  wpAny (model X.prog X.w) A (call (.builtin "isinstance") [u,c]) Q E s:=by
 cases ty with
 | non=>cases (show u=Value.none from rx);exact kia_one PySem.W.kitx_none I.kIn True.intro e (fun z=>nomatch z) h
 | bl y=>cases (show u=Value.bool y from rx);exact kia_one PySem.W.kitx_bool I.kIn True.intro e (fun z=>nomatch z) h
 | int i=>obtain⟨t,q⟩:=(show ∃t,u=Value.int i t from rx);cases q;exact kia_one PySem.W.kitx_int I.kIn True.intro e (fun z=>nomatch z) h
 | str y=>obtain⟨t,q⟩:=(show ∃t,u=Value.str y t from rx);cases q;exact kia_one PySem.W.kitx_str I.kIn True.intro e (fun z=>nomatch z) h
 | flt y=>obtain⟨t,q⟩:=(show ∃t,u=Value.float y t from rx);cases q;exact kia_one PySem.W.kitx_float I.kIn True.intro e (fun z=>nomatch z) h
 | @lst a xs ea=>
  cases (show u=Value.ref a from rx);obtain⟨_,_,n,_,h1⟩:=(show yu X.prog X.w H s.heap a (.lst xs) from I.hok a _ ea);exact kia_one PySem.W.kitx_list I.kIn ⟨_,h1,rfl⟩ e (fun z=>nomatch z) h
 | @frz a ob xs ea=>
  cases (show u=Value.ref a from rx);obtain⟨_,_,_,n,_,h1⟩:=(show yu X.prog X.w H s.heap a (.frz ob (.lst xs)) from I.hok a _ ea);exact kia_one PySem.W.kitx_list I.kIn ⟨_,h1,rfl⟩ e (fun z=>nomatch z) h
 | @tup a xs ea=>
  cases (show u=Value.ref a from rx);obtain⟨_,_,_,p⟩:=(show yu X.prog X.w H s.heap a (.tup xs) from I.hok a _ ea);obtain⟨o,h1,h2,_⟩:=p;exact kia_one PySem.W.kitx_tuple I.kIn ⟨o,h1,h2⟩ e (fun z=>nomatch z) h
 | @dK a kvs ea=>
  cases (show u=Value.ref a from rx);obtain⟨_,_,vs,_,p⟩:=(show yu X.prog X.w H s.heap a (.dK kvs) from I.hok a _ ea);obtain⟨o,es,ep,h1,h2,_⟩:=p;exact kia_one PySem.W.kitx_dict I.kIn ⟨o,h1,h2.1⟩ e (fun z=>nomatch z) h
 | @dT a kvs ea=>
  cases (show u=Value.ref a from rx);obtain⟨_,_,xs,_,o,es,ep,h1,h2,_⟩:=(show yu X.prog X.w H s.heap a (.dT kvs) from I.hok a _ ea);exact kia_one PySem.W.kitx_dict I.kIn ⟨o,h1,h2.1⟩ e (fun z=>nomatch z) h
 | @ins a C dx fs ea cl ha hn htk hm=>
  cases (show u=Value.ref a from rx);obtain⟨mA,O,_⟩:=jj I.hok ea;obtain⟨od,J,_⟩:=O.look;exact kia_one (PySem.W.kitx_own (cl.get _) cl.hd ha hn htk hm) I.kIn J e (fun z=>nomatch z) h
structure yj(k:Nat)(A:Around):Prop where
 hd:A.handled=none
 dp:A.depth+3 * k+5<recursionLimit
 un:A.units+16 * k+200<cLine
 gd:A.guards=some []
theorem yj.mono{j k:Nat}{A:Around}(r:yj k A)(h:j<=k):yj j A:=⟨r.hd,by have:=r.dp;omega,by have:=r.un;omega,r.gd⟩
theorem yj.deeper{k:Nat}{A:Around}(r:yj (k+1) A)(env:Env):yj k (A.deeper env):=
 ⟨r.hd,by have:=r.dp;show A.depth+1+3 * k+5<_;omega,by have:=r.un;show A.units+3+16 * k+200<_;omega,r.gd⟩
theorem zcb{A:Around}{C:Addr}{us:List Value}{kw:List (Str×Value)}:(A.under (.builtin "type.__call__" ⟨.ref C::us,kw⟩)).depth=A.depth+1:=by
 first|rfl|simp [Around.under,Code.weight,Code.isCreation,Code.isGuard,Code.isCaller,Code.frames,Code.isFrame,guardIds]
theorem zca{A:Around}{C:Addr}{us:List Value}{kw:List (Str×Value)}:(A.under (.builtin "type.__call__" ⟨.ref C::us,kw⟩)).units=A.units+1:=by
 first|rfl|simp [Around.under,Code.cUnits,Code.frames,Code.isFrame]
theorem yj.make{k:Nat}{A:Around}(r:yj (k+1) A)(C:Addr)(us:List Value)(kw:List (Str×Value)):yj k (A.under (.builtin "type.__call__" ⟨.ref C::us,kw⟩)):=
 ⟨r.hd,by have:=r.dp;rw[zcb];omega,by have:=r.un;rw[zca];omega,r.gd⟩
theorem yj.depth{k:Nat}{A:Around}(r:yj k A):A.depth<recursionLimit:=by have:=r.dp;omega
theorem yj.units{k:Nat}{A:Around}(r:yj k A):A.units+64<cLine:=by have:=r.un;omega
def zdq:TA:=fun _ H Q=>Q [] H
def zaK(ta:TE)(tr:TA):TA:=fun σ H Q=>ta σ H fun x H1=>tr σ H1 fun xs H2=>Q (x::xs) H2
variable {es:List Expr}{te:TE}{t:TA}
theorem zc:PA X [] zdq:=⟨fun _ _ _ _ H Q I h=>Calls.spliced_nil ⟨[],H,I,.nil,h⟩⟩
theorem zgC(ha:PE X e te)(hr:PA X es t)(hs:starEach (e::es) X.env=(false,eval e X.env)::starEach es X.env:=by rfl):PA X (e::es) (zaK te t):=by
 exists ?_;intro pos pins s σ H Q I h;rw[hs];show wpAny _ _ (spliced ((false,eval e X.env)::backTo pos (starEach es X.env))) _ _ s;refine Calls.spliced_cons (thn (ha pins s σ H _ I h) fun u s1 ⟨x,H1,I1,r1,q1⟩=>?_);exact thn (hr pos pins s1 σ H1 _ I1 q1) fun us s2 ⟨xs,H2,I2,r2,q2⟩=>⟨x::xs,H2,I2,.cons r1 r2,q2⟩
def zko(t:TA):TE:=fun σ H Q=>t σ H fun xs H1=>xs.length<=sizeLine/\∀p,H1 p=none->Q (.ref p) (upd H1 p (.tup xs))
def zjq(t:TA):TE:=fun σ H Q=>t σ H fun xs H1=>xs.length<=sizeLine/\∀p,H1 p=none->Q (.ref p) (upd H1 p (.lst xs))
theorem zQ{x1}(h:PA X es t):PE X (.Tuple es x1 pos) (zko t):=by
 exists ?_;intro pins s σ H Q I hq;refine wpAny_Tuple_spliced (thn (h pos pins s σ H _ I hq) fun us s1 ⟨xs,H1,I1,r,z,q⟩=>⟨by rw[<- r.length];exact z,?_⟩)
 have hf:H1 s1.heap.objs.size=none:=I1.hok.fresh (le_refl _);exists .ref s1.heap.objs.size,upd H1 s1.heap.objs.size (.tup xs),I1.laid (t':=s1.toks) (fun b u e=>zgp _ e) (le_refl _) ?_,rfl,q _ hf;exact⟨z,us,r,⟨_,zgs _ rfl,rfl,_,rfl⟩⟩
theorem zS(h:PA X es t):PE X (.List es pos) (zjq t):=by
 exists ?_;intro pins s σ H Q I hq;refine wpAny_List_spliced (thn (h pos pins s σ H _ I hq) fun us s1 ⟨xs,H1,I1,r,z,q⟩=>⟨by rw[<- r.length];exact z,?_⟩)
 have hf:H1 s1.heap.objs.size=none:=I1.hok.fresh (le_refl _);exists .ref s1.heap.objs.size,upd H1 s1.heap.objs.size (.lst xs),I1.laid (t':=s1.toks) (fun b u e=>zgp _ e) (le_refl _) ?_,rfl,q _ hf;exact⟨z,us,0,r,zgs _ rfl⟩
abbrev Sp:=List V->Hp->VK->XK->Prop
abbrev CXT:=List Env->Hp->Shared->XK->Value->Shared->Prop
structure zct(P:Program)(w:World)(K:Frag)(mg:Str->Option Value)(base:Heap)(A:Around)(outer:List Env)(s:Shared)(H:Hp):Prop where
 frames:A.frames=some outer
 mod:Mod K mg base
 bs:∀b o,base.get? b=some o->s.heap.get? b=some o/\H b=none
 bsz:base.objs.size<=s.heap.objs.size
 funs:s.heap.FunFrames base outer
 frf:∀b∈frs outer,H b=none
 hok:HOk P w H s.heap
 bare:AllBare s.gens
def CE(outer:List Env)(P:Program)(w:World)(H:Hp)(s:Shared)(Q:VK)(u:Value)(s':Shared):Prop:=
 ∃v H',s'.os=s.os/\AllBare s'.gens/\Un (frs outer) [] H H' s.heap s'.heap/\HOk P w H' s'.heap/\ya v u/\Q v H'
def CR(CX:CXT)(outer:List Env)(P:Program)(w:World)(H:Hp)(s:Shared)(Q:VK)(E:XK)(r:Result)(s':Shared):Prop:=
 match r with
 | .ok (.ret u)=>CE outer P w H s Q u s'
 | .ok _=>False
 | .error e=>CX outer H s E e s'
structure zA(P:Program)(w:World)(K:Frag)(mg:Str->Option Value)(base:Heap)(CX:CXT)(k:Nat)(f:Addr)(fd:FuncData)(ps:List Str)(sp:Sp):Prop where
 len:∀vs H Q E,sp vs H Q E->vs.length=ps.length
 run:∀(A:Around) (outer:List Env) (s:Shared) (H:Hp) (args:Args) (us:List Value) (vs:List V) (Q:VK) (E:XK),yj k A->zct P w K mg base A outer s H->BindsTo s fd args (ps.zip us)->zX vs us->sp vs H Q E->
  codeAny (model P w) A (.call (.ref f) args) (CR CX outer P w H s Q E) s
theorem zct.make{P:Program}{w:World}{K:Frag}{mg:Str->Option Value}{base:Heap}{A:Around}{outer:List Env}{s:Shared}{H:Hp}(e:zct P w K mg base A outer s H)(C:Addr)(us:List Value)(kw:List (Str×Value)):
  zct P w K mg base (A.under (.builtin "type.__call__" ⟨.ref C::us,kw⟩)) outer s H:=⟨by first|exact e.frames|(simpa [Around.under,Code.envs,Code.isFrame,pushEnvs] using e.frames),e.mod,e.bs,e.bsz,e.funs,e.frf,e.hok,e.bare⟩
variable {s':Shared}
theorem Inv.env0(I:Inv X pins σ H s):zct X.prog X.w X.K X.mg X.base X.A X.stack s H:=
 ⟨I.ok.frames,I.ok.mod,I.bs,le_trans I.ok.bsz I.sz,I.stack,I.stkFree,I.hok,I.bare⟩
theorem Inv.after{Q:VK}{u:Value}(I:Inv X pins σ H s)(h:CE X.stack X.prog X.w H s Q u s'):EP X pins σ Q u s':=by
 obtain⟨v,H',os,bare,un,hok,r,q⟩:=h;obtain⟨hh,g,d,t,os'⟩:=s';obtain rfl:os'=s.os:=os;exact⟨v,H',I.call (h':=hh) (g':=g) (d':=d) (t':=t) (ch:=[]) un hok bare (fun b z=>absurd z (by simp)),r,q⟩
def zcA(sp:Sp)(dvs:List V)(E:XK)(t:TA):TE:=fun σ H Q=>t σ H fun vs H1=>sp (vs++dvs) H1 Q E
inductive zczJ(C:Addr)(m:Str)(sp:Sp)(dvs:List V)(E:XK)(t:TA)(σ:St)(Q:VK)(x:V)(H1:Hp):Prop|mk(a dx fs:_):x=.ref a->H1 a=some (.ins C dx fs)->fs.lookup m=none->(t σ H1 fun vs H2=>sp (x::(vs++dvs)) H2 Q E)->zczJ C m sp dvs E t σ Q x H1
def zcz(C:Addr)(m:Str)(sp:Sp)(dvs:List V)(E:XK)(ta:TE)(t:TA):TE:=fun σ H Q=>ta σ H fun x H1=>zczJ C m sp dvs E t σ Q x H1
def zd8(C:Addr)(sp:Sp)(dvs:List V)(E:XK)(t:TA):TE:=fun σ H Q=>t σ H fun vs H1=>∀x dx,H1 x=none->H1 dx=none->dx≠x->
 sp (.ref x::(vs++dvs)) (upd (upd H1 dx (.own x)) x (.ins C dx [])) (fun v H2=>v=.non/\Q (.ref x) H2) E
def z8(K:Frag)(fd:FuncData)(ps:List Str)(ds:List Value):Prop:=
 ∀(s:Shared) (us:List Value),K.In s.heap->(us++ds).length=ps.length->BindsTo s fd ⟨us,[]⟩ (ps.zip (us++ds))
theorem z8.all{K:Frag}{fd:FuncData}{ps:List Str}(h:∀us:List Value,us.length=ps.length->bindArgs fd ⟨us,[]⟩=pure (ps.zip us)):z8 K fd ps []:=fun s us _ hl=>by
 rw[append_nil] at hl |-;exact .of_eq (h us hl)
def xm(CX:CXT)(X:Cx)(E:XK):Prop:=∀(pins:PnL) (σ : St) (H:Hp) (s:Shared) (e:Value) (s':Shared),Inv X pins σ H s->CX X.stack H s E e s'->X.xe e s'
end
section
variable {X:Cx}{CX:CXT}{k:Nat}{f C:Addr}{fd:FuncData}{ps:List Str}{sp:Sp}{dvs:List V}{ds:List Value}{E:XK}{x m:Str}{p pos apos:Pos}{e o:Expr}{es:List Expr}{ta:TE}{t:TA}
theorem jz{pins:PnL}{σ : St}{H:Hp}{s:Shared}{Q:VK}{us:List Value}{vs:List V}(F:zA X.prog X.w X.K X.mg X.base CX k f fd ps sp)(hr:yj k X.A)(hb:z8 X.K fd ps ds)(hd:zX dvs ds)(hx:xm CX X E)
  (I:Inv X pins σ H s) (r:zX vs us) (h:sp (vs++dvs) H Q E):wpAny (model X.prog X.w) X.A (call (.ref f) us) (EP X pins σ Q) X.xe s:=by
 have r2:zX (vs++dvs) (us++ds):=r.append hd;have hl:(us++ds).length=ps.length:=by rw[<- r2.length];exact F.len _ _ _ _ h
 refine wpAny_call (codeAny_mono (F.run X.A X.stack s H ⟨us,[]⟩ (us++ds) (vs++dvs) Q E hr I.env0 (hb s us I.kIn hl) r2 h) fun r s' hq=>?_);cases r with
 | error e=>exact hx pins σ H s e s' I hq
 | ok fl=>
  cases fl with
  | ret u=>exact I.after hq
  | next=>exact False.elim hq
  | brk=>exact False.elim hq
  | cont=>exact False.elim hq
theorem zcU(F:zA X.prog X.w X.K X.mg X.base CX k f fd ps sp)(hr:yj k X.A)(hg:Gl X x)(hm:X.mg x=some (.ref f))(hk:keepIn X.K (.ref f)=true)(hb:z8 X.K fd ps ds)(hd:zX dvs ds)(hx:xm CX X E)
  (ha:PA X (e::es) t) (hdb:(x==("__debug__" : Str))=false:=by decide) (he:starEach (e::es) X.env=(false,eval e X.env)::starEach es X.env:=by rfl) (hpl:(backTo pos (starEach es X.env)).any (·.1)=false:=by rfl) :
  PE X (.Call (.Name x p) (e::es) [] pos) (zcA sp dvs E t):=by
 exists ?_;intro pins s σ H Q I h;refine wpAny_Call_Name_kw (xW I hg hm ?_ hdb);refine callWith_K (h₀:=X.base) I.ok.mod.kin hk (thn (ha pos pins s σ H _ I h) fun us s1 ⟨vs,H1,I1,r,q⟩=>⟨I1.kIn,?_⟩) he hpl;exact jz F hr hb hd hx I1 r q
theorem vC{pl:Sem Bool}(he:PE X o ta)(c:Cls X.K C)(hm:xw X.K C m f)(F:zA X.prog X.w X.K X.mg X.base CX k f fd ps sp)(hr:yj k X.A)(hb:z8 X.K fd ps ds)(hd:zX dvs ds)(hx:xm CX X E)(ha:PA X (e::es) t)
  (hst:starEach (e::es) X.env=(false,eval e X.env)::starEach es X.env:=by rfl) (hpl:(backTo pos (starEach es X.env)).any (·.1)=false:=by rfl)
  (ht:eval (.Call (.Attribute o m apos) (e::es) [] pos) X.env=(do
   let ov <- eval o X.env
   standAt apos.atName
   let (f,first) <- holding [ov] (getMethod ov m pl)
   callWith pos f first (backTo pos (starEach (e::es) X.env)) (backToKw pos (keywordEach [] X.env))):=by rfl) :
  PE X (.Call (.Attribute o m apos) (e::es) [] pos) (zcz C m sp dvs E ta t):=by
 exists ?_;intro pins s σ H Q I h;refine methodCall_KW (pl:=pl) (thn (he pins s σ H _ I h) fun u s1 ⟨x,H1,I1,rx,a,dx,fs,ex,ea,l,q⟩=>?_) ht;subst ex;obtain rfl:u=Value.ref a:=rx;refine wo I1 ea c hm l ?_;refine callWith_K (first:=[.ref a]) (h₀:=X.base) I.ok.mod.kin hm.kp (thn (ha pos pins s1 σ H1 _ I1 q) fun us s2 ⟨vs,H2,I2,r,q2⟩=>⟨I2.kIn,?_⟩) hst hpl
 exact jz (us:=.ref a::us) (vs:=.ref a::vs) F hr hb hd hx I2 (.cons rfl r) q2
theorem xO{pl:Sem Bool}(he:PE X o ta)(c:Cls X.K C)(hm:xw X.K C m f)(F:zA X.prog X.w X.K X.mg X.base CX k f fd ps sp)(hr:yj k X.A)(hb:z8 X.K fd ps ds)(hd:zX dvs ds)(hx:xm CX X E)
  (ht:eval (.Call (.Attribute o m apos) [] [] pos) X.env=(do
   let ov <- eval o X.env
   standAt apos.atName
   let (f,first) <- holding [ov] (getMethod ov m pl)
   callWith pos f first (backTo pos (starEach [] X.env)) (backToKw pos (keywordEach [] X.env))):=by rfl) :
  PE X (.Call (.Attribute o m apos) [] [] pos) (zcz C m sp dvs E ta zdq):=by
 exists ?_;intro pins s σ H Q I h;refine methodCall_KW (pl:=pl) (thn (he pins s σ H _ I h) fun u s1 ⟨x,H1,I1,rx,a,dx,fs,ex,ea,l,q⟩=>?_) ht;subst ex;obtain rfl:u=Value.ref a:=rx;refine wo I1 ea c hm l ?_;exact PySem.W.callWith_K0 (first:=[.ref a]) I1.kIn hm.kp (jz (us:=[.ref a]) (vs:=[.ref a]) F hr hb hd hx I1 (.cons rfl .nil) q)
structure Mk(K:Frag)(C f:Addr):Prop where
 makes:makesIn K C=true
 init:findIn K (.ref C) "__init__"=some (some (.ref f))
 fn:isFn K (.ref f)=true
 kp:keepIn K (.ref C)=true
theorem zeQ{pins:PnL}{σ : St}{H:Hp}{s:Shared}{Q:VK}{us:List Value}{vs:List V}(M:Mk X.K C f)(F:zA X.prog X.w X.K X.mg X.base CX k f fd ps sp)(hr:yj (k+1) X.A)(hb:z8 X.K fd ps ds)(hd:zX dvs ds)
  (hx:xm CX X E) (I:Inv X pins σ H s) (r:zX vs us)
  (h:∀x dx,H x=none->H dx=none->dx≠x->sp (.ref x::(vs++dvs)) (upd (upd H dx (.own x)) x (.ins C dx [])) (fun v H2=>v=.non/\Q (.ref x) H2) E) :
  wpAny (model X.prog X.w) X.A (call (.ref C) us) (EP X pins σ Q) X.xe s:=by
 have hq:=h (s.heap.objs.size+1) s.heap.objs.size (I.hok.fresh (le_succ _)) (I.hok.fresh (le_refl _)) (ne_of_lt (lt_succ_self _));have I2:=Inv.made (C:=C) I;have r2:zX (V.ref (s.heap.objs.size+1)::(vs++dvs)) (Value.ref (s.heap.objs.size+1)::(us++ds)):=.cons rfl (r.append hd);have hl:(Value.ref (s.heap.objs.size+1)::us++ds).length=ps.length:=by
  have e:=r2.length;rw[F.len _ _ _ _ hq] at e;exact e.symm
 refine wpAny_call (za8 (f:=f) I.kIn M.makes M.init (beq_iff_eq.mp M.fn) (codeAny_mono (F.run _ X.stack _ _ ⟨Value.ref (s.heap.objs.size+1)::us,[]⟩ (Value.ref (s.heap.objs.size+1)::(us++ds)) _ _ E (hr.make C us [])
  (I2.env0.make C us []) (hb _ (Value.ref (s.heap.objs.size+1)::us) I2.kIn hl) r2 hq) fun r s' hq'=>?_))
 cases r with
 | error e=>exact hx pins σ _ _ e s' I2 hq'
 | ok fl=>
  cases fl with
  | ret u=>
   obtain⟨v,H',I3,rv,ev,q3⟩:=I2.after hq';subst ev;exact⟨rv,⟨V.ref (s.heap.objs.size+1),H',I3,rfl,q3⟩⟩
  | next=>exact False.elim hq'
  | brk=>exact False.elim hq'
  | cont=>exact False.elim hq'
theorem zcR(M:Mk X.K C f)(F:zA X.prog X.w X.K X.mg X.base CX k f fd ps sp)(hr:yj (k+1) X.A)(hg:Gl X x)(hm:X.mg x=some (.ref C))(hb:z8 X.K fd ps ds)(hd:zX dvs ds)(hx:xm CX X E)
  (ha:PA X (e::es) t) (hdb:(x==("__debug__" : Str))=false:=by decide) (he:starEach (e::es) X.env=(false,eval e X.env)::starEach es X.env:=by rfl) (hpl:(backTo pos (starEach es X.env)).any (·.1)=false:=by rfl) :
  PE X (.Call (.Name x p) (e::es) [] pos) (zd8 C sp dvs E t):=by
 exists ?_;intro pins s σ H Q I h;refine wpAny_Call_Name_kw (xW I hg hm ?_ hdb);refine callWith_K (h₀:=X.base) I.ok.mod.kin M.kp (thn (ha pos pins s σ H _ I h) fun us s1 ⟨vs,H1,I1,r,q⟩=>⟨I1.kIn,?_⟩) he hpl;exact zeQ M F hr hb hd hx I1 r q
variable {ks:List Str}{kpos:Pos}{kws:List Keyword}{te:TE}{tk:TA}{nm:Option Str}
variable {g:List Value->List Value->List Value}{gV:List V->List V->List V}
structure zu(N P:List Str)(sc:Scope):Prop where
 kind:sc.kind=.function
 co:sc.isCoroutine=false
 gen:sc.isGenerator=false
 nd:N.Nodup
 pre:N.take P.length=P
 par:∀x∈P,sc.names.lookup x=some .local\/sc.names.lookup x=some .cell
 nofree:∀y∈sc.names,y.2≠.free
theorem fsc{N P:List Str}{sc:Scope}(a:sc.kind=.function:=by rfl)(b:sc.isCoroutine=false:=by rfl)(c:sc.isGenerator=false:=by rfl)(d:N.Nodup:=by decide +kernel)(e:N.take P.length=P:=by rfl)(f:∀x∈P,sc.names.lookup x=some .local\/sc.names.lookup x=some .cell:=by decide +kernel)(g:∀y∈sc.names,y.2≠.free:=by decide +kernel):zu N P sc:=⟨a,b,c,d,e,f,g⟩
theorem qQ{kindOf:Str->Option NameKind}{x:Str}:∀{binds:List (Str×Value)}{m:Str->Option Value},(∀v,(x,v)∉binds)->bindL kindOf binds m x=m x
 | [],_,_=>rfl
 | (n,v)::r,m,h=>by
  unfold bindL;rw[qQ fun w hw=>h w (mem_cons_of_mem _ hw)];split
  ·have:x≠n:=by rintro rfl;exact h v mem_cons_self
   simp [this]
  ·rfl
theorem qS{kindOf:Str->Option NameKind}{x:Str}:∀{binds:List (Str×Value)}{m:Str->Option Value},(∀v,(x,v)∉binds)->bindC kindOf binds m x=m x
 | [],_,_=>rfl
 | (n,v)::r,m,h=>by
  unfold bindC;rw[qS fun w hw=>h w (mem_cons_of_mem _ hw)];split
  ·rfl
  ·have:x≠n:=by rintro rfl;exact h v mem_cons_self
   simp [this]
theorem qR{kindOf:Str->Option NameKind}{x:Str}{v:Value}:∀{P:List Str}{vs:List Value}{i:Nat}{m:Str->Option Value},P.Nodup->P[i]?=some x->vs[i]?=some v->kindOf x=some .local->
  bindL kindOf (P.zip vs) m x=some v
 | [],_,_,_,_,h,_,_=>by simp at h
 | _::_,[],_,_,_,_,h,_=>by simp at h
 | p::P,w::vs,0,m,nd,h1,h2,hk=>by
  simp at h1 h2;subst h1;subst h2;show bindL kindOf ((p,w)::P.zip vs) m p=_;unfold bindL;rw[qQ fun v hv=>(List.nodup_cons.mp nd).1 (of_mem_zip hv).1,if_pos hk];simp
 | p::P,w::vs,i+1,m,nd,h1,h2,hk=>by
  show bindL kindOf ((p,w)::P.zip vs) m x=_;unfold bindL;exact qR (i:=i) (List.nodup_cons.mp nd).2 (by simpa using h1) (by simpa using h2) hk
theorem qT{kindOf:Str->Option NameKind}{x:Str}{v:Value}:∀{P:List Str}{vs:List Value}{i:Nat}{m:Str->Option Value},P.Nodup->P[i]?=some x->vs[i]?=some v->kindOf x≠some .local->
  bindC kindOf (P.zip vs) m x=some v
 | [],_,_,_,_,h,_,_=>by simp at h
 | _::_,[],_,_,_,_,h,_=>by simp at h
 | p::P,w::vs,0,m,nd,h1,h2,hk=>by
  simp at h1 h2;subst h1;subst h2;show bindC kindOf ((p,w)::P.zip vs) m p=_;unfold bindC;rw[qS fun v hv=>(List.nodup_cons.mp nd).1 (of_mem_zip hv).1,if_neg hk];simp
 | p::P,w::vs,i+1,m,nd,h1,h2,hk=>by
  show bindC kindOf ((p,w)::P.zip vs) m x=_;unfold bindC;exact qT (i:=i) (List.nodup_cons.mp nd).2 (by simpa using h1) (by simpa using h2) hk
def vR(N:List Str)(vs:List V):St:=vs.map some++List.replicate (N.length - vs.length) none
def qa(CX:CXT)(P:Program)(w:World)(K:Frag)(mg:Str->Option Value)(base:Heap)(N:List Str)(qual:Str)(scope:Scope)(f:Addr)(cd:Value)(A:Around)(outer:List Env)(s:Shared)(H:Hp)(E:XK):Cx where
 prog:=P
 w:=w
 K:=K
 mg:=mg
 base:=base
 A:=A.deeper (envOfC qual scope s.heap.objs.size f cd)
 N:=N
 s₀:=s
 H₀:=H
 env:=envOfC qual scope s.heap.objs.size f cd
 outer:=outer
 stack:=envOfC qual scope s.heap.objs.size f cd::outer
 ex:=[]
 calm:=true
 fn:=fun _=>true
 pn:=[]
 xe:=fun e s'=>wpAny (model P w) (A.deeper (envOfC qual scope s.heap.objs.size f cd)) (leaving (envOfC qual scope s.heap.objs.size f cd) e) (fun _ s''=>CX outer H s E e s'') (fun e' s''=>CX outer H s E e' s'') s'
theorem zbr{sc:Scope}{n:Nat}{x:Str}(h:sc.names.lookup x=some .cell):∃c,(cellsFrom n sc.names []).lookup x=some c:=by
 have q:=PySem.W.cellsFrom_some sc.names n [] (.inl h);exact Option.isSome_iff_exists.mp q
theorem zdP{CX:CXT}{P:Program}{w:World}{K:Frag}{mg:Str->Option Value}{base:Heap}{N ps:List Str}{qual:Str}{scope:Scope}{f:Addr}{cd:Value}{A:Around}{outer:List Env}{s s1:Shared}{H:Hp}{E:XK}{us:List Value}{vs:List V}
  (S:zu N ps scope) (hd:A.handled=none) (e0:zct P w K mg base A outer s H) (hl:vs.length=ps.length) (r:zX vs us)
  (x:InCallC s s.heap.objs.size (bindL (envOfC qual scope s.heap.objs.size f cd).kindOf (ps.zip us) fun _=>none) (cellsFrom (s.heap.objs.size+1) scope.names []) (bindC (envOfC qual scope s.heap.objs.size f cd).kindOf (ps.zip us) fun _=>none) s1) :
  Inv (qa CX P w K mg base N qual scope f cd A outer s H E) [] (vR N vs) H s1:=by
 have hpl:ps.length<=N.length:=by have:=congrArg List.length S.pre;rw[length_take] at this;omega
 obtain⟨h1,tk,rfl,hk⟩:=x.done;have noA:∀b:Addr,b∉(qa CX P w K mg base N qual scope f cd A outer s H E).ex:=fun b z=>absurd (show b∈([]:List Addr) from z) (by simp)
 refine⟨⟨e0.mod,S.kind,rfl,rfl,le_refl _,fun y z c h1 h2=>?_,fun y hy=>?_,fun y c _ h=>?_,fun _=>hd,Around.frames_deeper e0.frames,.inr ⟨rfl,rfl⟩,fun b z=>absurd z (noA b),e0.bs,e0.bsz,fun b _ _=>noA b,fun b z=>absurd z (noA b),e0.funs,e0.frf⟩,
  rfl,e0.bare,Un.kept hk,⟨_,x.toInCall.ns,fun i y v h1 h2 h3=>?_⟩,fun y c h=>⟨_,x.cell y c h⟩,e0.hok.fresh (le_refl _),fun y c h=>?_,fun p hp=>absurd (show p∈([]:PnL) from hp) (by simp),e0.hok.kept hk,?_⟩
 ·exact name_of_addr x.apart (PySem.mem_of_lookup h1) (PySem.mem_of_lookup h2)
 ·have hy:scope.names.lookup y=some .cell\/scope.names.lookup y=some .free:=hy
  rcases hy with hy|hy
  ·exact zbr hy
  ·exact absurd rfl (S.nofree _ (PySem.mem_of_lookup hy))
 ·exact le_of_lt (x.above y c (PySem.mem_of_lookup h))
 ·have hi:i<vs.length:=by
   unfold vR at h2;by_cases hi:i<vs.length
   ·exact hi
   ·rw[List.getElem?_append_right (by simpa using hi)] at h2
    rw[List.getElem?_replicate] at h2;split at h2 <;> cases h2
  have ha:vs[i]?=some v:=by
   unfold vR at h2;rw[List.getElem?_append_left (by simpa using hi),getElem?_map] at h2
   cases e:vs[i]? with
   | none=>rw[e] at h2;cases h2
   | some a=>rw[e] at h2;cases h2;rfl
  obtain⟨u,hu,rv⟩:=r.get ha;have hp:ps[i]?=some y:=by
   rw[<- S.pre,List.getElem?_take_of_lt (by omega)];exact h1
  have ndP:ps.Nodup:=by rw[<- S.pre];exact S.nd.sublist (List.take_sublist _ _)
  exists u,rv,?_;rcases S.par y (mem_of_getElem? hp) with k|k
  ·exact .inl ⟨k,qR ndP hp hu k⟩
  ·obtain⟨c,e⟩:=zbr (n:=s.heap.objs.size+1) k
   refine .inr ⟨.inl k,c,e,?_⟩;have q:=x.cell y c e;rw[qT ndP hp hu (by show scope.names.lookup y≠_;rw[k];decide)] at q
   exact q
 ·exact e0.hok.fresh (le_of_lt (x.above y c (PySem.mem_of_lookup h)))
 ·unfold vR
  show _=N.length;rw[length_append,length_map,List.length_replicate];omega
theorem zfQ{CX:CXT}{P:Program}{w:World}{K:Frag}{mg:Str->Option Value}{base:Heap}{k:Nat}{f:Addr}{name qual:Str}{params:Arguments}{body:List Stmt}{scope:Scope}{dV kV doc pm cdv ct oc:Value}{an od:Option Addr}
  {osl:Array (Option Value)}{N ps:List Str}{sp:Sp}(lk:K.lookup f=some ⟨oc,od,.func (fnOf name qual params body scope dV kV doc pm an cdv ct),osl⟩) (hcd:codeIn K cdv qual=true) (S:zu N ps scope)
  (len:∀vs H Q E,sp vs H Q E->vs.length=ps.length)
  (hbody:∀(A:Around) (outer:List Env) (s:Shared) (H:Hp) (vs:List V) (Q:VK) (E:XK),yj k (A.deeper (envOfC qual scope s.heap.objs.size f cdv))->sp vs H Q E->
   ∃t,PSs (qa CX P w K mg base N qual scope f cdv A outer s H E) body t/\t { nx:=fun _ H'=>Q .non H',rt:=Q } (vR N vs) H) :
  zA P w K mg base CX (k+1) f (fnOf name qual params body scope dV kV doc pm an cdv ct) ps sp:=by
 exists len,fun A outer s H args us vs Q E hr e0 hb r hsp=>?_;have hl:=len _ _ _ _ hsp;have KX:K.In s.heap:=e0.mod.kin.keeps fun b o e=>(e0.bs b o e).1;have lim:s.heap.NoLimit:=e0.mod.nolimit.keeps fun b o e=>(e0.bs b o e).1;have hkind:∀y∈ps.zip us,scope.names.lookup y.1=some .local\/(scope.names.lookup y.1=some .cell/\((cellsFrom (s.heap.objs.size+1) scope.names []).lookup y.1).isSome=true):=fun⟨n,v⟩ hy=>by
  rcases S.par n (of_mem_zip hy).1 with q|q
  ·exact .inl q
  ·exact .inr ⟨q,PySem.W.cellsFrom_some _ _ _ (.inl q)⟩
 refine codeAny_call_function hr.depth (KX _ _ lk) rfl S.co S.gen rfl (PySem.W.codeRec_of KX hcd) (hb _ _ _ _ ?_);refine wpAny_newFunctionEnv_cells S.kind hkind fun env he s1 x=>?_;subst he;exists lim.keeps x.toInCall.keep,codeAny_func ?_;obtain⟨t,ht,hq⟩:=hbody A outer s H vs Q E (hr.deeper _) hsp;have I:Inv (qa CX P w K mg base N qual scope f cdv A outer s H E) [] (vR N vs) H s1:=zdP S hr.hd e0 hl r x;refine wpAny_mono (ht [] s1 (vR N vs) H _ I hq) (fun fl s' hs=>?_) fun e s' hs=>hs;have fin:∀{σ':St}{H':Hp}{v:V}{u:Value},Inv (qa CX P w K mg base N qual scope f cdv A outer s H E) [] σ' H' s'->ya v u->Q v H'->CE outer P w H s Q u s':=
  fun {σ' H' v u} J rv q=>⟨v,H',J.os,J.bare,J.base,J.hok,rv,q⟩
 cases fl with
 | ret u=>
  obtain⟨v,σ',H',J,rv,q⟩:=hs;exact fin J rv q
 | next=>
  obtain⟨σ',H',J,q⟩:=hs;exact fin (v:=V.non) (u:=Value.none) J rfl q
 | brk=>
  obtain⟨_,_,_,q⟩:=hs;exact False.elim q
 | cont=>
  obtain⟨_,_,_,q⟩:=hs;exact False.elim q
variable {id T:String}{r:List V->Hp->VK->Prop}
def tCB(r:List V->Hp->VK->Prop)(t:TA):TE:=fun σ H Q=>t σ H fun vs H1=>r vs H1 Q
theorem ze3(hc:xC X (.builtin id) r)(hg:Gl X x)(hm:X.mg x=none)(hv:bootBuiltins x=some (.builtin id))(ha:PA X (e::es) t)(hn:x≠"__name__":=by decide)(hdb:(x==("__debug__" : Str))=false:=by decide)
  (he:starEach (e::es) X.env=(false,eval e X.env)::starEach es X.env:=by rfl) (hpl:(backTo pos (starEach es X.env)).any (·.1)=false:=by rfl):PE X (.Call (.Name x p) (e::es) [] pos) (tCB r t):=by
 exists ?_;intro pins s σ H Q I h;refine wpAny_Call_Name_kw (ub I hg hm hv ?_ hn hdb);exact PyProof.Rows.callWith_builtin1 (thn (ha pos pins s σ H _ I h) fun us s1 ⟨vs,H1,I1,r1,q1⟩=>hc pins s1 σ H1 vs us Q I1 r1 q1) he hpl
theorem zdA(hc:xC X (.type T) r)(hg:Gl X x)(hm:X.mg x=none)(hv:bootBuiltins x=some (.type T))(ha:PA X (e::es) t)(hn:x≠"__name__":=by decide)(hdb:(x==("__debug__" : Str))=false:=by decide)
  (he:starEach (e::es) X.env=(false,eval e X.env)::starEach es X.env:=by rfl) (hpl:(backTo pos (starEach es X.env)).any (·.1)=false:=by rfl):PE X (.Call (.Name x p) (e::es) [] pos) (tCB r t):=by
 exists ?_;intro pins s σ H Q I h;refine wpAny_Call_Name_kw (ub I hg hm hv ?_ hn hdb);exact PyProof.Rows.callWith_type1 (thn (ha pos pins s σ H _ I h) fun us s1 ⟨vs,H1,I1,r1,q1⟩=>hc pins s1 σ H1 vs us Q I1 r1 q1) he hpl
theorem zb4(hc:xC X (.type T) r)(hg:Gl X x)(hm:X.mg x=none)(hv:bootBuiltins x=some (.type T))(hn:x≠"__name__":=by decide)(hdb:(x==("__debug__" : Str))=false:=by decide):
  PE X (.Call (.Name x p) [] [] pos) (tCB r zdq):=by
 exists ?_;intro pins s σ H Q I h;refine wpAny_Call_Name_kw (ub I hg hm hv ?_ hn hdb);exact PyProof.Rows.callWith_type0 (hc pins s σ H [] [] Q I .nil h)
end
end L2
namespace HT
open PySem PyProof.Rows
section
open PySem.SeqAt
open PySem.AutoSeq1 (wpAny_loadPart')
open PySem.MeetsSeq PySem.MeetsSeq2 PySem.MeetsSeq3
end
section
variable {prog:Program}{w:World}{A:Around}{E:L2.VSP}{s:Shared}
theorem zkn{t b:Addr}{vs ws:List Value}{Q:L2.VSP}(ht:IsTup s.heap t vs.toArray)(hb:IsTup s.heap b ws.toArray)(hv:vs≠[])
  (h1:ws=[]->Q (.ref t) s) (h2:ws≠[]->Q (.ref s.heap.objs.size) { s with heap:=s.heap.push { cls:=.type "tuple",data:=.seq (vs++ws).toArray } })
  (hsz:vs.length+ws.length<=sizeLine):wpAny (model prog w) A (binaryOp .Add (.ref t) (.ref b)) Q E s:=by
 obtain⟨⟨cls,dd,data,sl⟩,ho,hc,n,hd⟩:=id ht;obtain⟨⟨cls2,dd2,data2,sl2⟩,ho2,hc2,n2,hd2⟩:=id hb;simp only at hc hd hc2 hd2;subst hc hd hc2 hd2;have e:vs.toArray++ws.toArray=(vs++ws).toArray:=by simp
 by_cases hw:ws=[]
 ·exact concat_meets ⟨_,ho,rfl⟩ ⟨_,ho2,rfl⟩ noFill_tuple_add seq_tuple_add PySem.F.slot_tuple_add PySem.F.entry_tuple_add (PySem.F.args_tuple_add_2 _ _)
   (tuple_addW1 t b vs.toArray ws.toArray n n2 dd dd2 sl sl2 (by simpa using hv) (by simp [hw])) ⟨ho,ho2,h1 hw⟩
 ·refine concat_meets ⟨_,ho,rfl⟩ ⟨_,ho2,rfl⟩ noFill_tuple_add seq_tuple_add PySem.F.slot_tuple_add PySem.F.entry_tuple_add (PySem.F.args_tuple_add_2 _ _)
   (tuple_addW2 t b vs.toArray ws.toArray n n2 dd dd2 sl sl2 (by simpa using hv) (by simpa using hw) (by rw[size_toArray,size_toArray];exact hsz)) ⟨ho,ho2,?_⟩
  rw[e];exact h2 hw
def sIx(n d:Nat):Option Int->Nat
 | none=>d
 | some v=>if v<0 then (v+(n:Int)).toNat else min v.toNat n
theorem zjJ(n d:Nat):sIx n d none=d:=rfl
theorem zkm(n d k:Nat):sIx n d (some (k:Int))=min k n:=by
 show(if (k:Int)<0 then ((k:Int)+(n:Int)).toNat else min (k:Int).toNat n)=min k n
 rw[if_neg (by omega),Int.toNat_natCast]
theorem zir(n d:Nat)(hd:d<=n)(o:Option Int):sIx n d o<=n:=by
 cases o with
 | none=>exact hd
 | some v=>
  show(if v<0 then (v+(n:Int)).toNat else min v.toNat n)<=n
  by_cases hv:v<0
  ·rw[if_pos hv];omega
  ·rw[if_neg hv];exact Nat.min_le_right _ _
theorem zdh(v:Int)(n d:Nat):(if v<0 then max (v+(n:Int)) 0 else min v (n:Int))=((sIx n d (some v):Nat):Int):=by
 show(if v<0 then max (v+(n:Int)) 0 else min v (n:Int))=(((if v<0 then (v+(n:Int)).toNat else min v.toNat n):Nat):Int)
 by_cases hv:v<0
 ·simp only[if_pos hv];omega
 ·simp only[if_neg hv];omega
theorem zcp(lo hi:Option Int)(n:Nat):Builtin.Slice.sliceAdjust lo hi 1 (n:Int)=(((sIx n 0 lo:Nat):Int),((sIx n n hi:Nat):Int)):=by
 have h1:¬((1:Int)<0):=by omega
 unfold Builtin.Slice.sliceAdjust;simp only[h1,if_false];refine Prod.ext ?_ ?_
 ·cases lo with
  | none=>rfl
  | some v=>exact zdh v n 0
 ·cases hi with
  | none=>rfl
  | some v=>exact zdh v n n
theorem zb1(i j:Nat):Builtin.Slice.slicePlaces (i:Int) (j:Int) 1=j - i:=by
 unfold Builtin.Slice.slicePlaces;have h1:(1:Int)>0:=by omega
 simp only[h1,if_true,Int.ediv_one];split <;> omega
theorem jn{v:Value}{o:Option Int}{Q:Option Int->Shared->Prop}(p:IsPart v o)(h:Q o s):wpAny (model prog w) A (Builtin.Slice.slicePartIndex v) Q E s:=by
 cases p with
 | none=>exact slicePart_none h
 | int i t=>exact slicePart_int h
theorem uG{sl:Addr}{vl vu:Value}{lo hi:Option Int}{n:Nat}{Q:Int×Int×Nat->Shared->Prop}(hs:s.heap.IsSliceOf sl vl vu .none)(pl:IsPart vl lo)(pu:IsPart vu hi)
  (h:Q (((sIx n 0 lo:Nat):Int),1,sIx n n hi - sIx n 0 lo) s):wpAny (model prog w) A (Builtin.Slice.sliceApplied (.ref sl) (pure (n:Int))) Q E s:=by
 obtain⟨os,hos,hcs,hds⟩:=id hs;unfold Builtin.Slice.sliceApplied Builtin.Slice.sliceFields;refine L2.zwb (L2.zwb (wpAny_field hos hds (x:=vl) rfl (L2.zwb (wpAny_field hos hds (x:=vu) rfl (L2.zwb (wpAny_field hos hds (x:=.none) rfl (L2.zwp ?_)))))));refine L2.zwb (slicePart_none ?_);show wpAny _ _ (if ((1:Int)==0)=true then _ else _) _ _ s
 rw[if_neg (by decide)]
 refine L2.zwb (jn pl (L2.zwb (jn pu (L2.zwb (L2.zwp ?_)))));show wpAny _ _ (match Builtin.Slice.sliceAdjust lo hi 1 (n:Int) with|(lo,hi)=>pure (lo,(1:Int),Builtin.Slice.slicePlaces lo hi 1)) _ _ s
 rw[zcp lo hi n];show wpAny _ _ (pure (((sIx n 0 lo:Nat):Int),(1:Int),Builtin.Slice.slicePlaces ((sIx n 0 lo:Nat):Int) ((sIx n n hi:Nat):Int) 1)) _ _ s;rw[zb1];exact L2.zwp h
theorem zeW(xs:Array Value)(i k:Nat):((List.range k).filterMap fun (m:Nat)=>xs[((i:Int)+(m:Int) * 1).toNat]?).toArray=((xs.toList.drop i).take k).toArray:=by
 have e:(fun (m:Nat)=>xs[((i:Int)+(m:Int) * 1).toNat]?)=fun m=>xs[i+m]?:=by
  funext m
  have:((i:Int)+(m:Int) * 1).toNat=i+m:=by omega
  rw[this]
 rw[e]
 have:=pick_run xs i k
 rw[List.filterMap_map] at this;have e2:((fun x=>xs[x]?) ∘ fun x=>i+x)=fun m=>xs[i+m]?:=rfl;rw[e2] at this;rw[this]
theorem zc6{t sl:Addr}{items:Array Value}{vl vu:Value}{lo hi:Option Int}{Q:L2.VSP}(ht:IsTup s.heap t items)(hs:s.heap.IsSliceOf sl vl vu .none)(pl:IsPart vl lo)(pu:IsPart vu hi)
  (hw:¬(sIx items.size 0 lo=0/\sIx items.size items.size hi=items.size))
  (h:Q (.ref s.heap.objs.size) { s with heap:=s.heap.push { cls:=.type "tuple",data:=.seq ((items.toList.drop (sIx items.size 0 lo)).take (sIx items.size items.size hi - sIx items.size 0 lo)).toArray } })
  (hsz:items.size<=sizeLine):wpAny (model prog w) A (getItem (.ref t) (.ref sl)) Q E s:=by
 have htake:sizeOk (.seq ((items.toList.drop (sIx items.size 0 lo)).take (sIx items.size items.size hi - sIx items.size 0 lo)).toArray):=by
  show((items.toList.drop (sIx items.size 0 lo)).take (sIx items.size items.size hi - sIx items.size 0 lo)).toArray.size<=sizeLine;rw[size_toArray,length_take,length_drop,Array.length_toList];omega
 have hj:sIx items.size items.size hi<=items.size:=zir _ _ (le_refl _) hi;obtain⟨os,hos,hcs,hds⟩:=id hs;have hTs:s.TypeIs (.ref sl) "slice":=⟨os,hos,hcs⟩;unfold getItem
 try with_reducible refine wpAny_holding ?_
 first|refine L2.zwb (L2.zwp ?_)|skip
 refine L2.zwb (wpAny_sequenceKey ht.typeIs (by decide) ?_)
 refine L2.zwb (wpAny_callSpecial?_slot (name:=Str.ofString "__getitem__") ht.typeIs PyProof.Rows.slot_tuple_getitem
  (wpAny_call_entry PyProof.Rows.slot_tuple_getitem ht.typeIs entry_tuple_getitem ?_ (args_tuple_getitem _ _)))
 show wpAny _ _ (Builtin.Tuple.tupleItemsOf (.ref t) >>= _) _ _ s;refine L2.zwb (tupleItemsOf_ ht ?_);refine L2.zwb (wpAny_typeOf hTs ?_);rw[if_pos (by decide)]
 refine L2.zwb (uG hs pl pu ?_);have hno:¬((((sIx items.size 0 lo:Nat):Int)==0&&(1:Int)==1&&(sIx items.size items.size hi - sIx items.size 0 lo)==items.size)=true):=by
  intro q;rw[Bool.and_eq_true,Bool.and_eq_true] at q;have q1:((sIx items.size 0 lo:Nat):Int)=0:=eq_of_beq q.1.1;have q2:sIx items.size items.size hi - sIx items.size 0 lo=items.size:=eq_of_beq q.2;exact hw ⟨by omega,by omega⟩
 show wpAny _ _ (if (((sIx items.size 0 lo:Nat):Int)==0&&(1:Int)==1&&(sIx items.size items.size hi - sIx items.size 0 lo)==items.size)=true then _ else _) _ _ s
 rw[if_neg hno,zeW]
 first
  | exact L2.zwb (m:=Builtin.Tuple.tupleExact _) (wpAny_newObj_type (L2.zwp ⟨_,rfl,L2.zwp h⟩) htake)
  | exact L2.zwb (m:=Builtin.Tuple.tupleExact _) (wpAny_newObj_type (L2.zwb (L2.zwp (L2.zwp ⟨_,rfl,L2.zwp h⟩))) htake)
  | exact L2.zwb (L2.zwb (m:=Builtin.Tuple.tupleExact _) (wpAny_newObj_type (L2.zwp (L2.zwp ⟨_,rfl,L2.zwp h⟩)) htake))
  | exact L2.zwb (L2.zwb (m:=Builtin.Tuple.tupleExact _) (wpAny_newObj_type (L2.zwp ⟨_,rfl,L2.zwp h⟩) htake))
end
end HT
namespace L2
open PySem PySem.Spec PyProof.Rows
abbrev TO:=St->Hp->(Option Int->Hp->Prop)->Prop
structure PO(X:Cx)(e:Option Expr)(t:TO):Prop where
 run:∀(pins:PnL) (s:Shared) (σ : St) (H:Hp) (Q:Option Int->Hp->Prop),Inv X pins σ H s->t σ H Q->
  wpAny (model X.prog X.w) X.A (evalPart e X.env) (fun u s'=>∃o H',Inv X pins σ H' s'/\IsPart u o/\Q o H') X.xe s
instance {X:Cx}{e:Option Expr}{t:TO}:CoeFun (PO X e t) (fun _=>∀(pins:PnL) (s:Shared) (σ : St) (H:Hp) (Q:Option Int->Hp->Prop),Inv X pins σ H s->t σ H Q->
  wpAny (model X.prog X.w) X.A (evalPart e X.env) (fun u s'=>∃o H',Inv X pins σ H' s'/\IsPart u o/\Q o H') X.xe s):=⟨PO.run⟩
def zf9:TO:=fun _ H Q=>Q none H
def zjo(t:TE):TO:=fun σ H Q=>t σ H fun x H1=>∃i,x=.int i/\Q (some i) H1
section
variable {X:Cx}{e:Expr}{te:TE}{lo hi:Option Expr}{tl th:TO}{pos p2:Pos}
theorem wv:PO X none zf9:=by
 exists ?_;intro pins s σ H Q I h;rw[evalPart_none];exact zwp ⟨none,H,I,.none,h⟩
theorem yV(h:PE X e te):PO X (some e) (zjo te):=by
 exists ?_;intro pins s σ H Q I hw;rw[evalPart_some];refine thn (h pins s σ H _ I hw) fun u s1 ⟨x,H1,I1,r1,q1⟩=>?_;obtain⟨i,rfl,q⟩:=q1;obtain⟨t,rfl⟩:=r1;exact⟨some i,H1,I1,.int i t,q⟩
def SlR(X:Cx)(r:V->Option Int->Option Int->Hp->VK->Prop):Prop:=
 ∀(pins:PnL) (s:Shared) (σ : St) (H:Hp) (x:V) (v vl vu:Value) (lo hi:Option Int) (sl:Addr) (Q:VK),Inv X pins σ H s->ya x v->s.heap.IsSliceOf sl vl vu .none->IsPart vl lo->IsPart vu hi->r x lo hi H Q->
  ∃T id,typeLookup (.type T) "__getitem__"=pure (some (.builtin id))/\s.TypeIs v T/\wpAny (model X.prog X.w) X.A (getItem v (.ref sl)) (EP X pins σ Q) X.xe s
def tSl(r:V->Option Int->Option Int->Hp->VK->Prop)(te:TE)(tl th:TO):TE:=fun σ H Q=>te σ H fun x H1=>tl σ H1 fun l H2=>th σ H2 fun u H3=>r x l u H3 Q
theorem y8{r:V->Option Int->Option Int->Hp->VK->Prop}(hr:SlR X r)(he:PE X e te)(hl:PO X lo tl)(hu:PO X hi th):PE X (.Subscript e (.Slice lo hi none p2) pos) (tSl r te tl th):=by
 exists ?_;intro pins s σ H Q I h;refine Subscript_ (thn (he pins s σ H _ I h) fun v s1 ⟨x,H1,I1,r1,q1⟩=>?_);refine wpAny_Slice (thn (hl pins s1 σ H1 _ I1 q1) fun vl s2 ⟨l,H2,I2,pl,q2⟩=>thn (hu pins s2 σ H2 _ I2 q2) fun vu s3 ⟨u,H3,I3,pu,q3⟩=>?_);rw[evalPart_none];refine zwp ?_;have I4:Inv X pins σ H3 { s3 with heap:=s3.heap.push { cls:=.type "slice",data:=.fields #[vl,vu,.none] } }:=I3.kept (t':=s3.toks) fun b ob q=>zgp _ q
 obtain⟨T,id,hT,ht,hg⟩:=hr pins { s3 with heap:=s3.heap.push { cls:=.type "slice",data:=.fields #[vl,vu,.none] } } σ H3 x v vl vu l u s3.heap.objs.size Q I4 r1 (Heap.IsSliceOf.new ..) pl pu q3
 show wpAny (model X.prog X.w) X.A (subscriptTail e (.Slice lo hi none p2) v (.ref s3.heap.objs.size)) (EP X pins σ Q) X.xe { s3 with heap:=s3.heap.push { cls:=.type "slice",data:=.fields #[vl,vu,.none] } }
 exact tail_any (ops:=[.ref s3.heap.objs.size,v]) ht hT hg (by with_unfolding_all rfl)
def wO(xs:List V)(lo hi:Option Int):List V:=(xs.drop (HT.sIx xs.length 0 lo)).take (HT.sIx xs.length xs.length hi - HT.sIx xs.length 0 lo)
theorem uX(xs:List V)(lo hi:Option Int):(wO xs lo hi).length<=xs.length:=by
 unfold wO;rw[length_take,length_drop];omega
inductive zkCJ(K:Frag)(x:V)(lo:Option Int)(hi:Option Int)(H:Hp)(Q:VK):Prop|mk(a xs:_):x=.ref a->SqT K H a xs->¬(HT.sIx xs.length 0 lo=0/\HT.sIx xs.length xs.length hi=xs.length)->(∀p,H p=none->Q (.ref p) (upd H p (.tup (wO xs lo hi))))->zkCJ K x lo hi H Q
def zkC(K:Frag):V->Option Int->Option Int->Hp->VK->Prop:=fun x lo hi H Q=>zkCJ K x lo hi H Q
theorem zel:SlR X (zkC X.K):=by
 intro pins s σ H x v vl vu lo hi sl Q I rx hs pl pu h;obtain⟨a,xs,rfl,hx,hw,q⟩:=h;cases rx;obtain⟨its,r,ht,hz⟩:=I.tuple hx;have hlen:its.toArray.size=xs.length:=by rw[size_toArray];exact r.length.symm
 exists "tuple",_,PyProof.Rows.slot_tuple_getitem.lookup,ht.typeIs,?_;refine HT.zc6 ht hs pl pu (by rw[hlen];exact hw) ?_ (by rw[hlen];exact hz)
 rw[hlen];exists .ref s.heap.objs.size,_,I.laid (t':=s.toks) (o:=.tup (wO xs lo hi)) (fun b ob q=>zgp _ q) (le_refl _) ?_,rfl,q _ (I.hok.fresh (le_refl _));exact⟨le_trans (uX xs lo hi) hz,_,(r.drop (HT.sIx xs.length 0 lo)).take (HT.sIx xs.length xs.length hi - HT.sIx xs.length 0 lo),IsTup.new _ _⟩
inductive zjOJ(K:Frag)(x:V)(y:V)(H:Hp)(Q:VK):Prop|mk(a b xs ys:_):x=.ref a->y=.ref b->SqT K H a xs->SqT K H b ys->xs≠[]->xs.length+ys.length<=sizeLine->(ys=[]->Q (.ref a) H)->((ys≠[]->∀p,H p=none->Q (.ref p) (upd H p (.tup (xs++ys)))))->zjOJ K x y H Q
def zjO(K:Frag):R2:=fun x y H Q=>zjOJ K x y H Q
theorem zX.nil_iff{xs:List V}{us:List Value}(r:zX xs us):us=[] ↔ xs=[]:=by
 cases r with
 | nil=>simp
 | cons _ _=>simp
theorem zgJ:OpR X (binaryOp .Add) (zjO X.K):=by
 intro pins s σ H x y v u Q I rx ry h;obtain⟨a,b,xs,ys,rfl,rfl,ha,hb,hx,hz,q1,q2⟩:=h;cases rx;cases ry;obtain⟨its,r1,p1,_⟩:=I.tuple ha;obtain⟨its2,r2,p2,_⟩:=I.tuple hb;refine HT.zkn p1 p2 (fun z=>hx (r1.nil_iff.mp z)) (fun z=>⟨.ref a,H,I,rfl,q1 (r2.nil_iff.mp z)⟩) (fun z=>?_) (by rw[<- r1.length,<- r2.length];exact hz)
 exists .ref s.heap.objs.size,_,I.laid (t':=s.toks) (o:=.tup (xs++ys)) (fun b ob q=>zgp _ q) (le_refl _) ?_,rfl,q2 (fun w=>z (r2.nil_iff.mpr w)) _ (I.hok.fresh (le_refl _));exact⟨by rw[length_append];exact hz,_,r1.append r2,IsTup.new _ _⟩
def ixN(n:Nat)(i:Int):Option Nat:=if 0<=i then (if i<n then some i.toNat else none) else if -(n:Int)<=i then some (i+n).toNat else none
def atI{α : Type}(xs:List α)(i:Int):Option α:=(ixN xs.length i).bind fun j=>xs[j]?
theorem zhd{n:Nat}{i:Int}{j:Nat}(h:ixN n i=some j):seqIndex? i n=some j/\j<n/\-(n:Int)<=i/\i<n:=by
 unfold ixN at h;by_cases h0 : 0<=i
 ·rw[if_pos h0] at h
  by_cases h1:i<n
  ·rw[if_pos h1] at h
   have e:i.toNat=j:=Option.some.inj h;exact⟨by rw[seqIndex_of h0 h1,e],by omega,by omega,h1⟩
  ·rw[if_neg h1] at h;cases h
 ·rw[if_neg h0] at h
  by_cases h1 : -(n:Int)<=i
  ·rw[if_pos h1] at h
   have e:(i+n).toNat=j:=Option.some.inj h;exact⟨by rw[seqIndex_neg (by omega) h1,e],by omega,h1,by omega⟩
  ·rw[if_neg h1] at h;cases h
theorem zaE{α : Type}{xs:List α}{i:Int}{v : α}(h:atI xs i=some v):∃j,seqIndex? i xs.length=some j/\xs[j]?=some v/\j<xs.length/\-(xs.length:Int)<=i/\i<xs.length:=by
 unfold atI at h;cases e:ixN xs.length i with
 | none=>rw[e] at h;cases h
 | some j=>
  rw[e] at h;obtain⟨h1,h2,h3,h4⟩:=zhd e;exact⟨j,h1,h,h2,h3,h4⟩
theorem xX{α : Type}{xs:List α}{j:Nat}{v : α}(h:xs[j]?=some v):atI xs (j:Int)=some v:=by
 have hj:j<xs.length:=(List.getElem?_eq_some_iff.mp h).1;have e:ixN xs.length (j:Int)=some j:=by
  unfold ixN;rw[if_pos (by omega),if_pos (by omega)];simp
 unfold atI;rw[e];exact h
def zhx(b:Expr):Prop:=∀o i,subscripted b false o i=operate [o,i] (getItem o i)
def IxR(X:Cx)(r:R2):Prop:=
 ∀(value slice:Expr) (pins:PnL) (s:Shared) (σ : St) (H:Hp) (x y:V) (v u:Value) (Q:VK),Inv X pins σ H s->ya x v->ya y u->r x y H Q->
  subscripted slice false v u=operate [v,u] (getItem v u)->wpAny (model X.prog X.w) X.A (subscriptTail value slice v u) (EP X pins σ Q) X.xe s
def MtR(X:Cx)(id:String)(r:V->List V->Hp->VK->Prop):Prop:=
 ∀(pins:PnL) (s:Shared) (σ : St) (H:Hp) (x:V) (xs:List V) (v:Value) (us:List Value) (Q:VK),Inv X pins σ H s->ya x v->zX xs us->r x xs H Q->
  wpAny (model X.prog X.w) X.A (call (.builtin id) (v::us)) (EP X pins σ Q) X.xe s
variable {a b:Expr}{ta tb:TE}
theorem zL{r:R2}(hr:IxR X r)(ha:PE X a ta)(hb:PE X b tb)(hs:zhx b):PE X (.Subscript a b pos) (tOp r ta tb):=by
 exists ?_;intro pins s σ H Q I h;exact Subscript_ (zjc ha hb I h fun v u s2 x y H2 I2 rx ry q=>hr a b pins s2 σ H2 x y v u Q I2 rx ry q (hs _ _))
inductive zlb(K:Frag)(x y:V)(H:Hp)(Q:VK):Prop where
 | mk (p:Addr) (xs:List V) (i:Int) (v:V) (e1:x=.ref p) (e2:y=.int i) (h:SqL K H p xs) (a:atI xs i=some v) (q:Q v H)
def zkI(K:Frag):R2:=fun x y H Q=>zlb K x y H Q
inductive zla(K:Frag)(x y:V)(H:Hp)(Q:VK):Prop where
 | mk (p:Addr) (xs:List V) (i:Int) (v:V) (e1:x=.ref p) (e2:y=.int i) (h:SqT K H p xs) (a:atI xs i=some v) (q:Q v H)
def wS(K:Frag):R2:=fun x y H Q=>zla K x y H Q
inductive zkHJ(x:V)(y:V)(H:Hp)(Q:VK):Prop|mk(z i c:_):x=.str z->y=.int i->z.length<=sizeLine->atI z.cps.toList i=some c->(Q (.str ⟨#[c]⟩) H)->zkHJ x y H Q
def zkH:R2:=fun x y H Q=>zkHJ x y H Q
theorem yw:IxR X (zkI X.K):=by
 intro value slice pins s σ H x y v u Q I rx ry h hs;obtain⟨p,xs,i,z,rfl,rfl,hq,he,q⟩:=h;cases rx;obtain⟨t,rfl⟩:=ry;obtain⟨its,r,pl,hz⟩:=I.list hq;obtain⟨j,h1,h2,h3,h4,h5⟩:=zaE he;obtain⟨w,ew,rw'⟩:=r.get h2;have hl:=r.length;have hn:=jO;have fin:EP X pins σ Q w s:=⟨z,H,I,rw',q⟩;by_cases h0 : 0<=i
 ·have hj:i.toNat=j:=by
   rw[seqIndex_of h0 h5] at h1;exact Option.some.inj h1
  exact item_listR pl.isList h0 (by omega) (by rw[hj];simpa using ew) fin hs
 ·have hj:(i+(its.toArray.size:Int)).toNat=j:=by
   rw[seqIndex_neg (by omega) h4] at h1
   rw[size_toArray,<- hl];exact Option.some.inj h1
  exact subscriptTail_builtinR (x:=w) pl.isList.typeIs slot_list_getitem.lookup
   (wpAny_getItem_list_neg (Q:=fun r s'=>r=w/\EP X pins σ Q r s') pl.isList (by omega) (by rw[size_toArray] <;> omega) (by omega) (by rw[hj];simpa using ew) ⟨rfl,fin⟩) hs
theorem zU:IxR X (wS X.K):=by
 intro value slice pins s σ H x y v u Q I rx ry h hs;obtain⟨p,xs,i,z,rfl,rfl,hq,he,q⟩:=h;cases rx;obtain⟨t,rfl⟩:=ry;obtain⟨its,r,pl,hz⟩:=I.tuple hq;obtain⟨j,h1,h2,h3,h4,h5⟩:=zaE he;obtain⟨w,ew,rw'⟩:=r.get h2;have hl:=r.length;have hn:=jO;have fin:EP X pins σ Q w s:=⟨z,H,I,rw',q⟩;exact subscriptTail_builtinR (x:=w) pl.typeIs slot_tuple_getitem.lookup
  (getItem_tuple (j:=j) (Q:=fun r s'=>r=w/\EP X pins σ Q r s') pl (by omega) (by omega) (by rw[size_toArray,<- hl];exact h1) (by simpa using ew) ⟨rfl,fin⟩) hs
theorem uN:IxR X zkH:=by
 intro value slice pins s σ H x y v u Q I rx ry h hs;obtain⟨z,i,c,rfl,rfl,hz,he,q⟩:=h;obtain⟨t,rfl⟩:=rx;obtain⟨t',rfl⟩:=ry;obtain⟨j,h1,h2,h3,h4,h5⟩:=zaE he;have hl:z.cps.toList.length=z.length:=by simp [Str.length]
 rw[hl] at h1 h4 h5;have hn:=jO;exact tail_any (typeIs_str s z t) slot_str_getitem.lookup (getItem_str (c:=c) (by
  have e1:decide (i < -(2 ^ 63:Int))=false:=decide_eq_false (by omega)
  have e2:decide (i>=2 ^ 63)=false:=decide_eq_false (by omega)
  rw[e1,e2,Bool.or_false]) (by rw[h1];simpa using h2) ⟨.str ⟨#[c]⟩,H,I.tok _,⟨_,rfl⟩,q⟩) hs
theorem zaa(lo hi:Option Int)(n:Nat):(sliceBounds lo hi none n).1=((HT.sIx n 0 lo:Nat):Int)/\(sliceBounds lo hi none n).2.1=((HT.sIx n n hi:Nat):Int)/\(sliceBounds lo hi none n).2.2=1:=by
 exists ?_,?_,rfl
 ·cases lo with
  | none=>simp [sliceBounds,HT.sIx]
  | some i=>
   simp only[sliceBounds,HT.sIx,getD_none,show(1:Int)>0 by decide,if_true]
   by_cases h:i<0
   ·simp only[h,if_true] <;> omega
   ·simp only[h,if_false] <;> omega
 ·cases hi with
  | none=>simp [sliceBounds,HT.sIx]
  | some i=>
   simp only[sliceBounds,HT.sIx,getD_none,show(1:Int)>0 by decide,if_true]
   by_cases h:i<0
   ·simp only[h,if_true] <;> omega
   ·simp only[h,if_false] <;> omega
theorem j7(its:List Value)(lo hi:Option Int):slicePick its.toArray lo hi none=((its.drop (HT.sIx its.length 0 lo)).take (HT.sIx its.length its.length hi - HT.sIx its.length 0 lo)).toArray:=by
 obtain⟨h1,h2,h3⟩:=zaa lo hi its.toArray.size;unfold slicePick;rw[h1,h2,h3];simp only[sliceRange_one,pick_run,size_toArray] <;> rfl
inductive zkEJ(K:Frag)(x:V)(lo:Option Int)(hi:Option Int)(H:Hp)(Q:VK):Prop|mk(a xs:_):x=.ref a->SqL K H a xs->(∀p,H p=none->Q (.ref p) (upd H p (.lst (wO xs lo hi))))->zkEJ K x lo hi H Q
def zkE(K:Frag):V->Option Int->Option Int->Hp->VK->Prop:=fun x lo hi H Q=>zkEJ K x lo hi H Q
theorem wu:SlR X (zkE X.K):=by
 intro pins s σ H x v vl vu lo hi sl Q I rx hs pl pu h;obtain⟨a,xs,rfl,hx,q⟩:=h;cases rx;obtain⟨its,r,ht,hz⟩:=I.list hx;have hlen:=r.length;exists "list",_,slot_list_getitem.lookup,ht.isList.typeIs,?_;refine wpAny_getItem_list_slice ht.isList hs pl pu .none (by simp) ?_ (by rw[size_toArray] <;> omega)
 rw[j7,<- hlen];exists .ref s.heap.objs.size,_,I.laid (t':=s.toks) (o:=.lst (wO xs lo hi)) (fun b ob q=>zgp _ q) (le_refl _) ?_,rfl,q _ (I.hok.fresh (le_refl _));exact⟨le_trans (uX xs lo hi) hz,_,0,(r.drop (HT.sIx xs.length 0 lo)).take (HT.sIx xs.length xs.length hi - HT.sIx xs.length 0 lo),zgs _ rfl⟩
def xR:V->Bool
 | .non=>true
 | .bl _=>true
 | .int _=>true
 | .str _=>true
 | _=>false
def eqV:V->V->Bool
 | .non,.non=>true
 | .bl a,.bl b=>a==b
 | .bl a,.int b=>(if a then 1 else 0)==b
 | .int a,.bl b=>a==(if b then 1 else 0)
 | .int a,.int b=>a==b
 | .str a,.str b=>a==b
 | _,_=>false
theorem zfT{A:Around}{s:Shared}{y x:V}{u v:Value}(ry:ya y u)(rx:ya x v)(fy:xR y=true)(fx:xR x=true):SeqAt.EqAt A s u v (eqV y x):=by
 cases y with
 | non=>
  cases ry;cases x with
  | non=>cases rx;exact SeqAt.EqAt.same _
  | bl b=>cases rx;exact SeqAt.EqAt.none_bool b
  | int b=>obtain⟨t,rfl⟩:=rx;exact SeqAt.EqAt.none_int b t
  | str b=>obtain⟨t,rfl⟩:=rx;exact SeqAt.EqAt.none_str b t
  | _=>exact absurd (show false=true from fx) zft
 | bl a=>
  cases ry;cases x with
  | non=>cases rx;exact SeqAt.EqAt.bool_none a
  | bl b=>cases rx;exact SeqAt.EqAt.bool_bool a b
  | int b=>obtain⟨t,rfl⟩:=rx;exact SeqAt.EqAt.bool_int a b t
  | str b=>obtain⟨t,rfl⟩:=rx;exact SeqAt.EqAt.bool_str a b t
  | _=>exact absurd (show false=true from fx) zft
 | int a=>
  obtain⟨t',rfl⟩:=ry;cases x with
  | non=>cases rx;exact SeqAt.EqAt.int_none a t'
  | bl b=>cases rx;exact SeqAt.EqAt.int_bool a t' b
  | int b=>obtain⟨t,rfl⟩:=rx;exact SeqAt.EqAt.int_int a t' b t
  | str b=>obtain⟨t,rfl⟩:=rx;exact SeqAt.EqAt.int_str a t' b t
  | _=>exact absurd (show false=true from fx) zft
 | str a=>
  obtain⟨t',rfl⟩:=ry;cases x with
  | non=>cases rx;exact SeqAt.EqAt.str_none a t'
  | bl b=>cases rx;exact SeqAt.EqAt.str_bool a t' b
  | int b=>obtain⟨t,rfl⟩:=rx;exact SeqAt.EqAt.str_int a t' b t
  | str b=>obtain⟨t,rfl⟩:=rx;exact SeqAt.EqAt.str_str a t' b t
  | _=>exact absurd (show false=true from fx) zft
 | _=>exact absurd (show false=true from fy) zft
def eqU(x:V)(u:Value):Bool:=match u with
 | .none=>eqV .non x
 | .bool b=>eqV (.bl b) x
 | .int i _=>eqV (.int i) x
 | .str z _=>eqV (.str z) x
 | _=>false
theorem zfS{x y:V}{u:Value}(r:ya y u)(f:xR y=true):eqU x u=eqV y x:=by
 cases y with
 | non=>cases r;rfl
 | bl b=>cases r;rfl
 | int i=>obtain⟨t,rfl⟩:=r;rfl
 | str z=>obtain⟨t,rfl⟩:=r;rfl
 | _=>exact absurd (show false=true from f) zft
theorem uz{x:V}:∀{xs:List V}{us:List Value},zX xs us->xs.all xR=true->us.any (eqU x)=xs.any fun y=>eqV y x
 | _,_,.nil,_=>rfl
 | y::xs,u::us,.cons r t,f=>by
  rw[all_cons,Bool.and_eq_true] at f;rw[any_cons,any_cons,zfS r f.1,uz t f.2]
theorem vk{A:Around}{s:Shared}{x:V}{v:Value}(rx:ya x v)(fx:xR x=true):∀{xs:List V}{us:List Value},zX xs us->xs.all xR=true->∀u∈us,SeqAt.EqAt A s u v (eqU x u)
 | _,_,.nil,_=>fun u hu=>by cases hu
 | y::xs,u::us,.cons r t,f=>fun u' hu=>by
  rw[all_cons,Bool.and_eq_true] at f;rcases List.mem_cons.mp hu with rfl|hu
  ·rw[zfS r f.1];exact zfT r rx f.1 fx
  ·exact vk rx fx t f.2 u' hu
def inV(x:V)(xs:List V):Bool:=xs.any fun y=>eqV y x
inductive rInJ(K:Frag)(neg:Bool)(x:V)(y:V)(H:Hp)(Q:VK):Prop|mk(p xs:_):y=.ref p->(SqL K H p xs\/SqT K H p xs)->xR x=true->xs.all xR=true->(Q (.bl (if neg then !inV x xs else inV x xs)) H)->rInJ K neg x y H Q
def rIn(K:Frag)(neg:Bool):R2:=fun x y H Q=>rInJ K neg x y H Q
theorem xr:OpR X (compareOp .In) (rIn X.K false):=by
 intro pins s σ H x y v u Q I rx ry h;obtain⟨p,xs,rfl,hq,fx,fs,q⟩:=h;cases ry;rcases hq with hq|hq
 ·obtain⟨its,r,pl,hz⟩:=I.list hq
  refine SeqAt.in_listAt (eqU x) pl.isList (fun w hw=>vk rx fx r fs w (by simpa using hw)) ⟨.bl _,H,I,rfl,?_⟩
  rw[show its.toArray.any (eqU x)=its.any (eqU x) by simp,uz r fs]
  exact q
 ·obtain⟨its,r,pl,hz⟩:=I.tuple hq
  refine SeqAt.in_tupleAt (eqU x) pl (fun w hw=>vk rx fx r fs w (by simpa using hw)) ⟨.bl _,H,I,rfl,?_⟩
  rw[show its.toArray.any (eqU x)=its.any (eqU x) by simp,uz r fs]
  exact q
theorem xj:OpR X (compareOp .NotIn) (rIn X.K true):=by
 intro pins s σ H x y v u Q I rx ry h;obtain⟨p,xs,rfl,hq,fx,fs,q⟩:=h;cases ry;rcases hq with hq|hq
 ·obtain⟨its,r,pl,hz⟩:=I.list hq
  refine SeqAt.notIn_listAt (eqU x) pl.isList (fun w hw=>vk rx fx r fs w (by simpa using hw)) ⟨.bl _,H,I,rfl,?_⟩
  rw[show its.toArray.any (eqU x)=its.any (eqU x) by simp,uz r fs]
  exact q
 ·obtain⟨its,r,pl,hz⟩:=I.tuple hq
  refine SeqAt.notIn_tupleAt (eqU x) pl (fun w hw=>vk rx fx r fs w (by simpa using hw)) ⟨.bl _,H,I,rfl,?_⟩
  rw[show its.toArray.any (eqU x)=its.any (eqU x) by simp,uz r fs]
  exact q
theorem z7:xC X (.builtin "len") (fun xs H Q=>∃p ys,xs=[.ref p]/\(SqL X.K H p ys\/SqT X.K H p ys)/\Q (.int ys.length) H):=by
 intro pins s σ H xs us Q I r h;obtain⟨p,ys,rfl,hq,q⟩:=h;obtain⟨u,rfl,rx⟩:=wG r;cases rx;have hn:=jO;rcases hq with hq|hq
 ·obtain⟨its,r',pl,hz⟩:=I.list hq
  have hlen:=r'.length;exact Calls.call_len_list pl.isList (by simp only[size_toArray] <;> omega) ⟨.int ys.length,H,I.tok _,⟨s.toks+1,by rw[size_toArray,hlen]⟩,q⟩
 ·obtain⟨its,r',pl,hz⟩:=I.tuple hq
  have hlen:=r'.length;exact len_tuple pl (by simp only[size_toArray] <;> omega) ⟨.int ys.length,H,I.tok _,⟨s.toks+1,by rw[size_toArray,hlen]⟩,q⟩
theorem zaC:xC X (.builtin "len") (fun xs H Q=>∃z,xs=[.str z]/\z.length<=sizeLine/\Q (.int z.length) H):=by
 intro pins s σ H xs us Q I r h;obtain⟨z,rfl,hz,q⟩:=h;obtain⟨u,rfl,t,rfl⟩:=wG r;have hn:=jO;exact len_str (by omega) ⟨.int z.length,H,I.tok _,⟨_,rfl⟩,q⟩
theorem yq:xC X (.type "list") (fun xs H Q=>∃p ys,xs=[.ref p]/\(SqL X.K H p ys\/SqT X.K H p ys)/\∀l,H l=none->Q (.ref l) (upd H l (.lst ys))):=by
 intro pins s σ H xs us Q I r h;obtain⟨p,ys,rfl,hq,q⟩:=h;obtain⟨u,rfl,rx⟩:=wG r;cases rx;have fin:∀(its:List Value),zX ys its->ys.length<=sizeLine->∀(h':Heap) (c':Nat),(∀b o',s.heap.get? b=some o'->h'.get? b=some o')->
   h'.get? s.heap.objs.size=some { cls:=.type "list",dict:=none,data:=.seq its.toArray c',slots:=#[] }->EP X pins σ Q (.ref s.heap.objs.size) { s with heap:=h' }:=fun its r' hz h' c' kp e=>
  ⟨.ref s.heap.objs.size,_,I.laid (t':=s.toks) kp (le_refl _) (show yu X.prog X.w _ h' _ (.lst ys) from ⟨hz,its,c',r',e⟩),rfl,q _ (I.hok.fresh (le_refl _))⟩
 rcases hq with hq|hq
 ·obtain⟨its,r',pl,hz⟩:=I.list hq
  have hlen:=r'.length;obtain⟨o,ho,hc,n,hd⟩:=pl.isList;exact call_list_seq p (.inl rfl) ho hc hd (fun h' c' kp e=>fin its r' hz h' c' kp e) (by simp only[size_toArray] <;> omega)
 ·obtain⟨its,r',pl,hz⟩:=I.tuple hq
  have hlen:=r'.length;obtain⟨o,ho,hc,n,hd⟩:=pl;exact call_list_seq p (.inr rfl) ho hc hd (fun h' c' kp e=>fin its r' hz h' c' kp e) (by simp only[size_toArray] <;> omega)
theorem qd:xC X (.type "tuple") (fun xs H Q=>∃p ys,xs=[.ref p]/\((SqL X.K H p ys/\∀l,H l=none->Q (.ref l) (upd H l (.tup ys)))\/(SqT X.K H p ys/\Q (.ref p) H))):=by
 intro pins s σ H xs us Q I r h;obtain⟨p,ys,rfl,h⟩:=h;obtain⟨u,rfl,rx⟩:=wG r;cases rx;rcases h with ⟨hq,q⟩|⟨hq,q⟩
 ·obtain⟨its,r',pl,hz⟩:=I.list hq
  have hlen:=r'.length;refine call_tuple_list pl.isList (fun h' kp=>?_) (by simp only[size_toArray] <;> omega)
  have I1:Inv X pins σ H { s with heap:=h' }:=I.kept (t':=s.toks) kp
  have I2:Inv X pins σ (upd H h'.objs.size (.tup ys)) { s with heap:=h'.push { cls:=.type "tuple",data:=.seq its.toArray } }:=
   I1.laid (t':=s.toks) (fun b o e=>zgp _ e) (le_refl _) (show yu X.prog X.w _ _ _ (.tup ys) from ⟨hz,its,r',IsTup.new _ _⟩)
  exact⟨.ref h'.objs.size,_,I2,rfl,q _ (I1.hok.fresh (le_refl _))⟩
 ·obtain⟨its,r',pl,hz⟩:=I.tuple hq
  exact call_tuple_same pl ⟨.ref p,H,I,rfl,q⟩
def tyV(K:Frag)(T:String)(x:V)(H:Hp):Prop:=match x with
 | .str _=>T="str"
 | .int _=>T="int"
 | .ref p=>(T="list"/\∃xs,SqL K H p xs)\/(T="tuple"/\∃o,K.lookup p=some o/\o.cls=.type "tuple"/\o.dict=none)\/
   (T="dict"/\((∃kvs,H p=some (.dK kvs))\/∃kvs,H p=some (.dT kvs)))\/(T="set"/\∃S n,H p=some (.set S n))
 | _=>False
theorem zd4{pins:PnL}{σ : St}{H:Hp}{s:Shared}{T:String}{x:V}{v:Value}(I:Inv X pins σ H s)(r:ya x v)(ty:tyV X.K T x H):
  s.TypeIs v T/\∀a,v=.ref a->∃ob,s.heap.get? a=some ob/\ob.dict=none:=by
 cases x with
 | str z=>
  obtain⟨t,rfl⟩:=r;cases (show T="str" from ty);exact⟨typeIs_str s z t,fun _ e=>nomatch e⟩
 | int i=>
  obtain⟨t,rfl⟩:=r;cases (show T="int" from ty);exact⟨typeIs_int s i t,fun _ e=>nomatch e⟩
 | ref p=>
  cases r;rcases ty with ⟨rfl,xs,hq⟩|⟨rfl,o,hk,hc,hd⟩|⟨rfl,hk⟩|⟨rfl,S,n,hk⟩
  ·obtain⟨its,_,pl,_⟩:=I.list hq
   exists pl.isList.typeIs,fun a e=>?_;cases e;obtain⟨o,n,e,c,hd,_⟩:=pl;exact⟨o,e,hd⟩
  ·exists ⟨o,I.kIn p o hk,hc⟩,fun a e=>?_
   cases e;exact⟨o,I.kIn _ o hk,hd⟩
  ·have z:∃o,s.heap.get? p=some o/\o.ExactDict:=by
    rcases hk with ⟨kvs,hk⟩|⟨kvs,hk⟩
    ·obtain⟨_,_,_,_,o,_,_,e,ex,_⟩:=I.hok p _ hk
     exact⟨o,e,ex⟩
    ·obtain⟨_,_,_,_,o,_,_,e,ex,_⟩:=I.hok p _ hk
     exact⟨o,e,ex⟩
   obtain⟨o,e,ex⟩:=z;exists ⟨o,e,ex.1⟩,fun a e2=>?_;cases e2;exact⟨o,e,ex.2.1⟩
  ·obtain⟨o,_,_,_,e,ex,_⟩:=I.hok p _ hk
   exists ⟨o,e,ex.1⟩,fun a e2=>?_;cases e2;exact⟨o,e,ex.2.1⟩
 | _=>exact False.elim ty
def zkw(K:Frag)(T:String)(r:V->List V->Hp->VK->Prop)(to:TE):TE:=fun σ H Q=>to σ H fun x H1=>tyV K T x H1/\r x [] H1 Q
def tBM(K:Frag)(T:String)(r:V->List V->Hp->VK->Prop)(to:TE)(t:TA):TE:=fun σ H Q=>to σ H fun x H1=>tyV K T x H1/\t σ H1 fun xs H2=>r x xs H2 Q
variable {o:Expr}{es:List Expr}{to:TE}{t:TA}{name:Str}{apos cpos:Pos}{T id:String}{r:V->List V->Hp->VK->Prop}
theorem ziE(pa:PlainAttrs T)(slot:Slot T name id)(hty:typeOf (.builtin id)=pure (.type "method_descriptor"))(hm:MtR X id r)(ho:PE X o to)
  (hbase:attributeBase o name X.env (eval o X.env)=eval o X.env:=by rfl) (hline:(apos.endLine==cpos.line)=true:=by rfl):PE X (.Call (.Attribute o name apos) [] [] cpos) (zkw X.K T r to):=by
 exists ?_;intro pins s σ H Q I h;refine wpAny_Call_method0_late hbase hline (thn (ho pins s σ H _ I h) fun v s1 ⟨x,H1,I1,r1,ty,q1⟩=>?_);obtain⟨h1,h2⟩:=zd4 I1 r1 ty;exact⟨T,id,pa,slot,hty,h1,h2,Calls.callWith_builtin rfl (PySem.evalArgs_none (hm pins s1 σ H1 x [] v [] Q I1 r1 .nil q1))⟩
theorem yK(pa:PlainAttrs T)(slot:Slot T name id)(hty:typeOf (.builtin id)=pure (.type "method_descriptor"))(hm:MtR X id r)(ho:PE X o to)(ha:PA X (e::es) t)
  (hbase:attributeBase o name X.env (eval o X.env)=eval o X.env:=by rfl)
  (hfew:((backTo cpos (starEach (e::es) X.env)).all (fun x=>!x.1)&&(backToKw cpos (keywordEach [] X.env)).all (fun x=>x.1.isSome)
   && decide ((e::es).length+([]:List Keyword).length+(if ([]:List Keyword).isEmpty then 0 else 1)<30))=true:=by rfl)
  (hline:(apos.endLine==cpos.line)=true:=by rfl) (hs:starEach (e::es) X.env=(false,eval e X.env)::starEach es X.env:=by rfl) (hplain:(backTo cpos (starEach es X.env)).any (·.1)=false:=by rfl) :
  PE X (.Call (.Attribute o name apos) (e::es) [] cpos) (tBM X.K T r to t):=by
 exists ?_;intro pins s σ H Q I h;refine wpAny_Call_method_late hbase hfew hline rfl (thn (ho pins s σ H _ I h) fun v s1 ⟨x,H1,I1,r1,ty,q1⟩=>?_);obtain⟨h1,h2⟩:=zd4 I1 r1 ty;exists T,id,pa,slot,hty,h1,h2,?_;have hA:=ha cpos pins s1 σ H1 _ I1 q1;rw[hs] at hA |-;refine Calls.callWith_builtin (by show(false||(backTo cpos (starEach es X.env)).any (·.1))=false;rw[hplain] <;> rfl) (Calls.evalArgs_plain ?_)
 exact thn hA fun us s2 ⟨vs,H2,I2,r2,q2⟩=>hm pins s2 σ H2 x vs v us Q I2 r1 r2 q2
def MtM(X:Cx)(id:String)(r:V->List V->Hp->VK->Prop):Prop:=
 ∀(pins:PnL) (s:Shared) (σ : St) (H:Hp) (x:V) (xs:List V) (v:Value) (us:List Value) (Q:VK),Inv X pins σ H s->ya x v->zX xs us->r x xs H Q->
  wpAny (model X.prog X.w) X.A (call (.builtin id) (v::us)) (EP X pins σ Q) X.xe s
theorem zX.one:∀{x:V}{us:List Value},zX [x] us->∃u,us=[u]/\ya x u
 | _,_,.cons r .nil=>⟨_,rfl,r⟩
theorem zX.zero:∀{us:List Value},zX [] us->us=[]
 | _,.nil=>rfl
theorem zX.rep{xs:List V}{us:List Value}(h:zX xs us):∀k:Nat,zX (List.replicate k xs).flatten (List.replicate k us).flatten
 | 0=>.nil
 | k+1=>by
  rw[replicate_succ,replicate_succ,flatten_cons,flatten_cons];exact zX.append h (zX.rep h k)
theorem qJ(its:List Value):∀(k:Nat) (acc:List Value),
  List.foldl (fun x1 x2=>x1++x2) acc.toArray (List.replicate k its.toArray)=(acc++(List.replicate k its).flatten).toArray
 | 0,acc=>by simp
 | k+1,acc=>by
  have e:acc.toArray++its.toArray=(acc++its).toArray:=by simp
  have e2:(acc++its)++(List.replicate k its).flatten=acc++(List.replicate (k+1) its).flatten:=by
   rw[replicate_succ,flatten_cons,append_assoc]
  rw[<- e2,<- qJ its k (acc++its),<- e,replicate_succ,List.foldl_cons]
end
section
variable {X:Cx}{pins:PnL}{σ:St}{H:Hp}{s:Shared}{l b:Addr}{xs ys zs:List V}
theorem Inv.lset{its its':List Value}{n:Nat}{f:Array Value->Array Value}{t':Nat}(I:Inv X pins σ H s)(hH:H l=some (.lst xs))
  (e:s.heap.get? l=some { cls:=.type "list",data:=.seq its.toArray n }) (hf:f its.toArray=its'.toArray) (hv:zX ys its') (hz:ys.length<=sizeLine) :
  Inv X pins σ (upd H l (.lst ys)) { s with heap:=s.heap.update l (Obj.mapSeq f),toks:=t' }:=by
 have q:=PySem.IsL.update e f;rw[hf] at q;refine I.write (x:=l) (e:=l) (by rw[hH];exact trivial) (.inl rfl) (fun b' u hb hu=>(Heap.get?_update_other s.heap (Obj.mapSeq f) (Ne.symm hb)).trans hu) ⟨_,q⟩ ?_
 exact⟨hz,its',_,hv,q⟩
theorem Inv.lnew{its:List Value}{t':Nat}(I:Inv X pins σ H s)(hv:zX ys its)(hz:ys.length<=sizeLine):
  Inv X pins σ (upd H s.heap.objs.size (.lst ys)) { s with heap:=s.heap.push { cls:=.type "list",data:=.seq its.toArray },toks:=t' }:=
 I.laid (fun _ _ q=>zgp _ q) (le_refl _) ⟨hz,its,0,hv,zgs _ rfl⟩
theorem Inv.fresh(I:Inv X pins σ H s):H s.heap.objs.size=none:=I.hok.fresh (le_refl _)
theorem Inv.lstM(I:Inv X pins σ H s)(hH:H l=some (.lst xs)):xs.length<=sizeLine/\∃(its:List Value) (n:Nat),zX xs its/\xs.length=its.length/\s.heap.get? l=some { cls:=.type "list",data:=.seq its.toArray n }:=by
 obtain⟨z,its,n,r,e⟩:=I.hok l _ hH;exact⟨z,its,n,r,r.length,e⟩
theorem za4{n:Nat}(h:n<=sizeLine):Builtin.List.listTooLong n=false:=by
 unfold Builtin.List.listTooLong;exact decide_eq_false (by omega)
inductive zgrJ(x:V)(vs:List V)(H:Hp)(Q:VK):Prop|mk(l xs y:_):x=.ref l->vs=[y]->H l=some (.lst xs)->xs.length<sizeLine->(Q .non (upd H l (.lst (xs++[y]))))->zgrJ x vs H Q
def zgr:V->List V->Hp->VK->Prop:=fun x vs H Q=>zgrJ x vs H Q
theorem zP:MtM X "list.append" zgr:=by
 intro pins s σ H x vs v us Q I rx rv h;obtain⟨l,xs,y,rfl,rfl,hH,hz,q⟩:=h;cases rx;obtain⟨u,rfl,ru⟩:=rv.one;obtain⟨z,its,n,r,hl,e⟩:=I.lstM hH;refine call_meets F.slot_list_append ⟨_,e,rfl⟩ F.entry_list_append (F.args_list_append_2 _ _) (PySem.list_append l its.toArray n u (by rw[size_toArray];omega)) ⟨e,?_⟩
 exists .non,_,I.lset (its':=its++[u]) hH e (by simp) (r.append (.cons ru .nil)) ?_,rfl,q
 rw[length_append,length_singleton];omega
inductive zgqJ(x:V)(vs:List V)(H:Hp)(Q:VK):Prop|mk(l b xs zs:_):x=.ref l->vs=[.ref b]->H l=some (.lst xs)->H b=some (.lst zs)->xs.length+zs.length<=sizeLine->(Q .non (upd H l (.lst (xs++zs))))->zgqJ x vs H Q
def zgq:V->List V->Hp->VK->Prop:=fun x vs H Q=>zgqJ x vs H Q
theorem qz:MtM X "list.extend" zgq:=by
 intro pins s σ H x vs v us Q I rx rv h;obtain⟨l,b,xs,zs,rfl,rfl,hH,hB,hz,q⟩:=h;cases rx;obtain⟨u,rfl,ru⟩:=rv.one;cases ru;obtain⟨z,its,n,r,hl,e⟩:=I.lstM hH;obtain⟨z2,its2,n2,r2,hl2,e2⟩:=I.lstM hB;have hsz:its.toArray.size+its2.toArray.size<=sizeLine:=by rw[size_toArray,size_toArray];omega
 have hlong:¬(!its.toArray.isEmpty&&Builtin.List.listTooLong (its.toArray.size+its2.toArray.size))=true:=by
  rw[za4 hsz,Bool.and_false];exact zft
 refine call_meets F.slot_list_extend ⟨_,e,rfl⟩ F.entry_list_extend (F.args_list_extend_2 _ _)
  (AutoSeq1.list_extend_list_list_0 l its.toArray n b its2.toArray n2 hlong (by rw[size_toArray];omega) (by omega)) ⟨e,e2,?_⟩
 exists .non,_,I.lset (its':=its++its2) hH e (by simp) (r.append r2) ?_,rfl,q
 rw[length_append];omega
inductive zixJ(x:V)(vs:List V)(H:Hp)(Q:VK):Prop|mk(l xs:_):x=.ref l->vs=[]->H l=some (.lst xs)->(Q .non (upd H l (.lst [])))->zixJ x vs H Q
def zix:V->List V->Hp->VK->Prop:=fun x vs H Q=>zixJ x vs H Q
theorem zfA:MtM X "list.clear" zix:=by
 intro pins s σ H x vs v us Q I rx rv h;obtain⟨l,xs,rfl,rfl,hH,q⟩:=h;cases rx;have hus:=rv.zero;subst hus;obtain⟨z,its,n,r,hl,e⟩:=I.lstM hH;refine call_meets F.slot_list_clear ⟨_,e,rfl⟩ F.entry_list_clear (F.args_list_clear_1 _) (AutoSeq1.list_clear_list_0 l its.toArray n (by rw[size_toArray];omega)) ⟨e,?_⟩
 exact⟨.non,_,I.lset (its':=[]) (ys:=[]) hH e rfl .nil (zero_le _),rfl,q⟩
inductive zkJJ(x:V)(y:V)(H:Hp)(Q:VK):Prop|mk(l b xs zs:_):x=.ref l->y=.ref b->H l=some (.lst xs)->H b=some (.lst zs)->xs.length+zs.length<=sizeLine->(∀p,H p=none->Q (.ref p) (upd H p (.lst (xs++zs))))->zkJJ x y H Q
def zkJ:R2:=fun x y H Q=>zkJJ x y H Q
theorem yT:OpR X (binaryOp .Add) zkJ:=by
 intro pins s σ H x y v u Q I rx ry h;obtain⟨l,b,xs,zs,rfl,rfl,hH,hB,hz,q⟩:=h;cases rx;cases ry;obtain⟨z,its,n,r,hl,e⟩:=I.lstM hH;obtain⟨z2,its2,n2,r2,hl2,e2⟩:=I.lstM hB;refine PySem.P.add_list e e2 ?_ (by rw[size_toArray,size_toArray];omega)
 have ea:its.toArray++its2.toArray=(its++its2).toArray:=by simp
 rw[ea];exact⟨.ref _,_,I.lnew (t':=s.toks) (r.append r2) (by rw[length_append];omega),rfl,q _ I.fresh⟩
inductive zkFJ(x:V)(y:V)(H:Hp)(Q:VK):Prop|mk(l k xs:_):x=.ref l->y=.int k->H l=some (.lst xs)->-(2 ^ 63)<=k->k<2 ^ 63->xs.length * k.toNat<=sizeLine->(∀p,H p=none->Q (.ref p) (upd H p (.lst (List.replicate k.toNat xs).flatten)))->zkFJ x y H Q
def zkF:R2:=fun x y H Q=>zkFJ x y H Q
theorem zg5{α : Type}(xs:List α)(k:Nat):(List.replicate k xs).flatten.length=k * xs.length:=by
 induction k with
 | zero=>simp
 | succ k ih=>rw[replicate_succ,flatten_cons,length_append,ih,Nat.succ_mul,Nat.add_comm]
theorem ze6:OpR X (binaryOp .Mult) zkF:=by
 intro pins s σ H x y v u Q I rx ry h;obtain⟨l,k,xs,rfl,rfl,hH,h1,h2,hz,q⟩:=h;cases rx;obtain⟨t,rfl⟩:=ry;obtain⟨z,its,n,r,hl,e⟩:=I.lstM hH;have hlen:its.toArray.size * k.toNat<=sizeLine:=by rw[size_toArray,<- hl];exact hz
 have hcap:¬its.toArray.size * k.toNat>(2 ^ 63 - 1) / 8:=by
  have:(sizeLine:Nat)<=(2 ^ 63 - 1) / 8:=by decide
  omega
 have hfit:¬(!Builtin.List.listFitsIndex k)=true:=by
  rw[fitsIndex_both h1 h2];exact zft
 have hlong:¬Builtin.List.listTooLong (its.toArray.size * k.toNat)=true:=by
  rw[za4 hlen];exact zft
 have hnew:List.foldl (fun x1 x2=>x1++x2) #[] (List.replicate (if its.toArray.isEmpty=true then 0 else k.toNat) its.toArray)=(List.replicate k.toNat its).flatten.toArray:=by
  have f0:∀m:Nat,List.foldl (fun x1 x2=>x1++x2) #[] (List.replicate m its.toArray)=(List.replicate m its).flatten.toArray:=fun m=>by
   have:=qJ its m []
   rw[nil_append] at this;exact this
  rw[f0];cases its with
  | nil=>simp
  | cons a r'=>rw[if_neg (by simp)]
 refine wpAny_binaryOp_repeat_ref (T:="list") (U:="int") (by decide) ⟨_,e,rfl⟩ (fun s'=>typeIs_int s' k t) noFill_list_mul F.fills_int_mul F.slot_int_rmul repeat_list F.slot_int_index.lookup
  (call_meets F.slot_int_rmul (typeIs_int s k t) F.entry_int_rmul (F.args_int_rmul_2 _ _) (int___rmul___int_list k t l its.toArray n)
   ⟨e,rfl,⟨_,e,rfl⟩,call_meets F.slot_list_mul ⟨_,e,rfl⟩ F.entry_list_mul (F.args_list_mul_2 _ _) (AutoListH.list___mul___list_int_3 l its.toArray n k t hfit hcap hlong) ⟨e,?_⟩⟩)
 rw[hnew];exact⟨.ref _,_,I.lnew (t':=s.toks) (r.rep k.toNat) (by rw[zg5,Nat.mul_comm];exact hz),rfl,q _ I.fresh⟩
variable {prog:Program}{w:World}{A:Around}{E:VSP}
end
section
variable {κ : Type}[DecidableEq κ]
def yi(kvs:List (κ×V))(k : κ):Option V:=(kvs.find? fun kv=>decide (kv.1=k)).map (·.2)
def y6(kvs:List (κ×V))(k : κ)(v:V):List (κ×V):=
 if (kvs.any fun kv=>decide (kv.1=k))=true then kvs.map (fun kv=>if kv.1=k then (kv.1,v) else kv) else kvs++[(k,v)]
theorem yX{p : κ×V}{r:List (κ×V)}{k : κ}(e:p.1=k):yi (p::r) k=some p.2:=by simp [yi,find?_cons,e]
theorem yY{p : κ×V}{r:List (κ×V)}{k : κ}(e:¬p.1=k):yi (p::r) k=yi r k:=by simp [yi,find?_cons,e]
theorem wH(k : κ):∀kvs:List (κ×V),(kvs.any fun kv=>decide (kv.1=k))=(yi kvs k).isSome
 | []=>rfl
 | p::r=>by
  rw[any_cons];by_cases e:p.1=k
  ·simp only[yX e,decide_eq_true e,Bool.true_or,Option.isSome_some]
  ·rw[yY e,decide_eq_false e,Bool.false_or];exact wH k r
theorem zaJ(k j : κ)(y:V):∀kvs:List (κ×V),yi (kvs.map fun kv=>if kv.1=k then (kv.1,y) else kv) j=(yi kvs j).map fun x=>if j=k then y else x
 | []=>rfl
 | p::r=>by
  have ih:=zaJ k j y r;rw[map_cons];by_cases h:p.1=k
  ·rw[if_pos h]
   by_cases e:p.1=j
   ·rw[yX (p:=(p.1,y)) e,yX e,map_some,if_pos (e.symm.trans h)]
   ·rw[yY (p:=(p.1,y)) e,yY e,ih]
  ·rw[if_neg h]
   by_cases e:p.1=j
   ·rw[yX (p:=p) e,yX e,map_some,if_neg (fun z=>h (e.trans z))]
   ·rw[yY (p:=p) e,yY e,ih]
theorem qm(k j : κ)(y:V):∀kvs:List (κ×V),yi kvs k=none->yi (kvs++[(k,y)]) j=if j=k then some y else yi kvs j
 | [],_=>by
  by_cases e:k=j
  ·rw[if_pos e.symm];exact yX (p:=(k,y)) e
  ·rw[if_neg (fun z=>e z.symm)];exact yY (p:=(k,y)) e
 | p::r,hn=>by
  rw[cons_append];have hk:¬p.1=k:=fun z=>by rw[yX z] at hn;cases hn
  rw[yY hk] at hn;have ih:=qm k j y r hn;by_cases e:p.1=j
  ·rw[yX e,yX e,if_neg (fun z=>hk (e.trans z))]
  ·rw[yY e,yY e,ih]
theorem zaI(kvs:List (κ×V))(k j : κ)(y:V):yi (y6 kvs k y) j=if j=k then some y else yi kvs j:=by
 unfold y6;by_cases a:(kvs.any fun kv=>decide (kv.1=k))=true
 ·rw[if_pos a,zaJ]
  rw[wH] at a;by_cases e:j=k
  ·obtain⟨x,hx⟩:=Option.isSome_iff_exists.mp a
   rw[if_pos e,e,hx,map_some,if_pos rfl]
  ·rw[if_neg e]
   cases yi kvs j with
   | none=>rfl
   | some x=>rw[map_some,if_neg e]
 ·rw[if_neg a]
  refine qm k j y kvs ?_;rw[wH] at a;cases q:yi kvs k with
  | none=>rfl
  | some x=>rw[q] at a;exact(a rfl).elim
theorem xP(kvs:List (κ×V))(k : κ)(v:V):(y6 kvs k v).length<=kvs.length+1:=by
 unfold y6;split
 ·rw[length_map];omega
 ·rw[length_append,length_cons,length_nil];omega
theorem ue.isSome_eq{o:Option V}{u:Option Value}(r:ue o u):o.isSome=u.isSome:=by
 cases o with
 | none=>cases u with
  | none=>rfl
  | some _=>exact(show False from r).elim
 | some _=>cases u with
  | none=>exact(show False from r).elim
  | some _=>rfl
theorem ue.getD{o:Option V}{u:Option Value}{d:V}{d':Value}(r:ue o u)(rd:ya d d'):ya (o.getD d) (u.getD d'):=by
 cases o with
 | none=>cases u with
  | none=>exact rd
  | some _=>exact(show False from r).elim
 | some _=>cases u with
  | none=>exact(show False from r).elim
  | some _=>exact r
theorem KV.val{kvs:List (κ×V)}{vs:List (κ×Value)}(r:KV kvs vs)(k : κ):ue (yi kvs k) (valueAt vs k):=by
 unfold KV at r;induction r with
 | nil=>exact True.intro
 | @cons p q ps qs h t ih=>
  obtain⟨h1,h2⟩:=h;by_cases e:p.1=k
  ·have e':q.1=k:=h1.symm.trans e
   have b:valueAt (q::qs) k=some q.2:=by simp [valueAt,find?_cons,e']
   rw[yX e,b];exact h2
  ·have e':¬q.1=k:=fun z=>e (h1.trans z)
   have b:valueAt (q::qs) k=valueAt qs k:=by simp [valueAt,find?_cons,e']
   rw[yY e,b];exact ih
theorem KV.any{kvs:List (κ×V)}{vs:List (κ×Value)}(r:KV kvs vs)(k : κ):(kvs.any fun kv=>decide (kv.1=k))=vs.any fun kv=>decide (kv.1=k):=by
 unfold KV at r;induction r with
 | nil=>rfl
 | cons h t ih=>rw[any_cons,any_cons,ih,h.1]
theorem KV.repl{kvs:List (κ×V)}{vs:List (κ×Value)}(r:KV kvs vs)(k : κ){y:V}{u:Value}(ry:ya y u):
  KV (kvs.map fun kv=>if kv.1=k then (kv.1,y) else kv) (vs.map fun kv=>if kv.1=k then (kv.1,u) else kv):=by
 unfold KV at r |-;induction r with
 | nil=>exact .nil
 | @cons p q ps qs h t ih=>
  rw[map_cons,map_cons];refine .cons ?_ ih;obtain⟨h1,h2⟩:=h;by_cases e:p.1=k
  ·rw[if_pos e,if_pos (h1.symm.trans e)];exact⟨h1,ry⟩
  ·rw[if_neg e,if_neg (fun z=>e (h1.trans z))];exact⟨h1,h2⟩
theorem KV.put{kvs:List (κ×V)}{vs:List (κ×Value)}(r:KV kvs vs)(k : κ){y:V}{u:Value}(ry:ya y u):KV (y6 kvs k y) (stored vs k u):=by
 unfold y6 stored;rw[r.any k];by_cases e:(vs.any fun kv=>decide (kv.1=k))=true
 ·rw[if_pos e,if_pos e];exact r.repl k ry
 ·rw[if_neg e,if_neg e];exact Paired.snoc r ⟨rfl,ry⟩
theorem KV.length{kvs:List (κ×V)}{vs:List (κ×Value)}(r:KV kvs vs):kvs.length=vs.length:=Paired.length r
end
theorem jT{P:Program}{w:World}{k:Key}{u:Value}(r:ya (kV k) u):(yp P w).is k u=true:=by
 cases k with
 | inl i=>obtain⟨t,e⟩:=(show ∃t,u=Value.int i t from r);subst e;exact za7 P w i t
 | inr x=>obtain⟨t,e⟩:=(show ∃t,u=Value.str x t from r);subst e;exact za6 P w x t
theorem qE{P:Program}{w:World}:∀{ks:List Key}{us:List Value},zX (ks.map kV) us->ItemsAre (yp P w) ks us
 | [],_,r=>by rw[map_nil] at r;cases r;exact .nil
 | k::ks,_,r=>by
  rw[map_cons] at r;cases r with
  | cons h t=>exact .cons (jT h) (qE t)
abbrev KT(H:Hp):List (List Key×V)->List (List Key×Addr×Value)->Prop:=Paired fun p q=>p.1=q.1/\H q.2.1=some (.tup (p.1.map kV))/\ya p.2 q.2.2
theorem KT.val{H:Hp}{kvs:List (List Key×V)}{xs:List (List Key×Addr×Value)}(r:KT H kvs xs)(k:List Key):ue (yi kvs k) ((atKey xs k).map (·.2)):=by
 induction r with
 | nil=>exact True.intro
 | @cons p q ps qs h t ih=>
  obtain⟨h1,_,h2⟩:=h;by_cases e:p.1=k
  ·have e':q.1=k:=h1.symm.trans e
   have b:atKey (q::qs) k=some q.2:=by simp [atKey,find?_cons,e']
   rw[yX e,b];exact h2
  ·have e':¬q.1=k:=fun z=>e (h1.trans z)
   have b:atKey (q::qs) k=atKey qs k:=by simp [atKey,find?_cons,e']
   rw[yY e,b];exact ih
theorem KT.repl{H:Hp}{kvs:List (List Key×V)}{xs:List (List Key×Addr×Value)}(r:KT H kvs xs)(k:List Key){y:V}{u:Value}(ry:ya y u):
  KT H (kvs.map fun kv=>if kv.1=k then (kv.1,y) else kv) (xs.map (putAt k u)):=by
 induction r with
 | nil=>exact .nil
 | @cons p q ps qs h t ih=>
  rw[map_cons,map_cons];refine .cons ?_ ih;obtain⟨h1,h2,h3⟩:=h;unfold putAt;by_cases e:p.1=k
  ·rw[if_pos e,if_pos (h1.symm.trans e)];exact⟨h1,h2,ry⟩
  ·rw[if_neg e,if_neg (fun z=>e (h1.trans z))];exact⟨h1,h2,h3⟩
theorem KT.put{H:Hp}{kvs:List (List Key×V)}{xs:List (List Key×Addr×Value)}(r:KT H kvs xs)(k:List Key){b:Addr}{y:V}{u:Value}(hb:H b=some (.tup (k.map kV)))(ry:ya y u):
  KT H (y6 kvs k y) (storedH xs k b u):=by
 have e:(kvs.any fun kv=>decide (kv.1=k))=(atKey xs k).isSome:=by
  rw[wH,(r.val k).isSome_eq,isSome_map]
 unfold y6 storedH;rw[e];by_cases q:(atKey xs k).isSome=true
 ·rw[if_pos q,if_pos q];exact r.repl k ry
 ·rw[if_neg q,if_neg q];exact Paired.snoc r ⟨rfl,hb,ry⟩
theorem KT.keeps{H H':Hp}{kvs:List (List Key×V)}{xs:List (List Key×Addr×Value)}(r:KT H kvs xs)(ht:∀b ys,H b=some (.tup ys)->H' b=some (.tup ys)):KT H' kvs xs:=
 wB r fun _ _ z=>⟨z.1,ht _ _ z.2.1,z.2.2⟩
section
variable {P:Program}{w:World}{H:Hp}{h:Heap}{a:Addr}
theorem zhM{u:HO}(ok:HOk P w H h)(e:Rd H a u):yu P w H h a u:=e.ok ok
theorem jY{kvs:List (Key×V)}(ok:HOk P w H h)(e:Rd H a (.dK kvs)):kvs.length<=sizeLine/\(a==sysModules)=false/\∃vs,KV kvs vs/\h.DictOf (yp P w) a vs:=
 show yu P w H h a (.dK kvs) from zhM ok e
theorem zhT{kvs:List (Key×V)}(ok:HOk P w H h)(e:H a=some (.dK kvs)):kvs.length<=sizeLine/\(a==sysModules)=false/\∃vs,KV kvs vs/\h.DictOf (yp P w) a vs:=jY ok (.inl e)
theorem uM{ks:List Key}(ok:HOk P w H h)(e:H a=some (.tup (ks.map kV))):(tupleKind (yp P w)).is h ks a:=by
 obtain⟨_,its,r,o,h1,h2,n,h3⟩:=(show yu P w H h a (.tup (ks.map kV)) from ok a _ e);exact⟨o,its.toArray,n,h1,h2,h3,by simpa using qE r⟩
theorem jW{kvs:List (List Key×V)}(ok:HOk P w H h)(e:Rd H a (.dT kvs)):kvs.length<=sizeLine/\(a==sysModules)=false/\
  ∃xs,KT H kvs xs/\h.DictOfH (tupleKind (yp P w)) a xs:=by
 obtain⟨z,y,xs,r,o,es,ep,h1,h2,h3,h4,h5⟩:=(show yu P w H h a (.dT kvs) from zhM ok e);exists z,y,xs,r,o,es,ep,h1,h2,h3,h4,fun x hx=>?_,h5;have all:∀{l:List (List Key×V)}{m:List (List Key×Addr×Value)},KT H l m->∀x∈m,(tupleKind (yp P w)).is h x.1 x.2.1:=by
  intro l m q;induction q with
  | nil=>intro x hx;exact nomatch hx
  | @cons p q ps qs hq t ih=>
   intro x hx;rcases List.mem_cons.mp hx with e|hx
   ·subst e
    exact uM ok (by rw[<- hq.1];exact hq.2.1)
   ·exact ih x hx
 exact all r x hx
theorem zkf{kvs:List (List Key×V)}(ok:HOk P w H h)(e:H a=some (.dT kvs)):kvs.length<=sizeLine/\(a==sysModules)=false/\
  ∃xs,KT H kvs xs/\h.DictOfH (tupleKind (yp P w)) a xs:=jW ok (.inl e)
def zaF(H:Hp)(a:Addr)(y:V)(r:Option V):Prop:=
 (∃kvs k,Rd H a (.dK kvs)/\y=kV k/\r=yi kvs k)\/∃kvs k b,Rd H a (.dT kvs)/\y=.ref b/\H b=some (.tup (k.map kV))/\r=yi kvs k
def zkl(H:Hp)(a:Addr)(y v:V)(H':Hp):Prop:=
 (∃kvs k,H a=some (.dK kvs)/\y=kV k/\kvs.length<sizeLine/\H'=upd H a (.dK (y6 kvs k v)))\/
 ∃kvs k b,H a=some (.dT kvs)/\y=.ref b/\H b=some (.tup (k.map kV))/\kvs.length<sizeLine/\H'=upd H a (.dT (y6 kvs k v))
variable {X:Cx}{pins:PnL}{σ:St}{s:Shared}{y v:V}{u r:Value}{o:Option V}{A:Around}{E:VSP}
theorem Inv.big(I:Inv X pins σ H s):sysModules<s.heap.objs.size:=by
 have h:mainGlobals<s.heap.objs.size:=(I.mod.glob.keeps I.bk).lt;exact Nat.lt_trans (by decide) h
theorem zdV{Q:VSP}(hu:A.units+1<cLine)(I:Inv X pins σ H s)(g:zaF H a y (some v))(ry:ya y u)(h:∀w' s',Inv X pins σ H s'->ya v w'->Q w' s'):
  wpAny (model X.prog X.w) A (getItem (.ref a) u) Q E s:=by
 rcases g with ⟨kvs,k,e,ey,l⟩|⟨kvs,k,b,e,ey,eb,l⟩
 ·subst ey
  obtain⟨z,hd,vs,rel,dd⟩:=jY I.hok e;obtain⟨w',hw,rw'⟩:=xY (v:=v) (o:=valueAt vs k) (by rw[l];exact rel.val k)
  exact wpAny_getItem_of (jT ry) dd.mapOf hw (h w' _ (I.tok _) rw')
 ·subst ey
  cases (show u=Value.ref b from ry);obtain⟨z,hd,xs,rel,dd⟩:=jW I.hok e;obtain⟨w',hw,rw'⟩:=xY (v:=v) (o:=(atKey xs k).map (·.2)) (by rw[l];exact rel.val k)
  obtain⟨p,hp,hp2⟩:=Option.map_eq_some_iff.mp hw;refine wpAny_getItem_heap (tupleKind_room_in1 hu) (uM I.hok eb) dd hp ?_;rw[hp2];exact h w' _ (I.tok _) rw'
theorem zk3{Q:VSP}(hu:A.units+1<cLine)(I:Inv X pins σ H s)(g:zaF H a y o)(ry:ya y u)(h:∀s',Inv X pins σ H s'->Q (.bool o.isSome) s'):
  wpAny (model X.prog X.w) A (compareOp .In u (.ref a)) Q E s:=by
 rcases g with ⟨kvs,k,e,ey,l⟩|⟨kvs,k,b,e,ey,eb,l⟩
 ·subst ey
  obtain⟨z,hd,vs,rel,dd⟩:=jY I.hok e;refine wpAny_in_of (jT ry) hd dd.mapOf ?_;rw[<- (rel.val k).isSome_eq,<- l];exact h _ (I.tok _)
 ·subst ey
  cases (show u=Value.ref b from ry);obtain⟨z,hd,xs,rel,dd⟩:=jW I.hok e;refine wpAny_in_heap (tupleKind_room_in1 hu) (uM I.hok eb) hd dd ?_;have q:=(rel.val k).isSome_eq;rw[isSome_map] at q;rw[<- q,<- l];exact h _ (I.tok _)
theorem zhs{Q:VSP}(hu:A.units+1<cLine)(I:Inv X pins σ H s)(g:zaF H a y o)(ry:ya y u)(h:∀s',Inv X pins σ H s'->Q (.bool (!o.isSome)) s'):
  wpAny (model X.prog X.w) A (compareOp .NotIn u (.ref a)) Q E s:=by
 rcases g with ⟨kvs,k,e,ey,l⟩|⟨kvs,k,b,e,ey,eb,l⟩
 ·subst ey
  obtain⟨z,hd,vs,rel,dd⟩:=jY I.hok e;refine wpAny_notIn_of (jT ry) hd dd.mapOf ?_;rw[<- (rel.val k).isSome_eq,<- l];exact h _ (I.tok _)
 ·subst ey
  cases (show u=Value.ref b from ry);obtain⟨z,hd,xs,rel,dd⟩:=jW I.hok e;refine wpAny_notIn_heap (tupleKind_room_in1 hu) (uM I.hok eb) hd dd ?_;have q:=(rel.val k).isSome_eq;rw[isSome_map] at q;rw[<- q,<- l];exact h _ (I.tok _)
theorem zaA{h':Heap}{t':Nat}{ob:HO}(I:Inv X pins σ H s)(mu:Mut (H a))(hs:Heap.SameBut a s.heap h')(he:∃q,h'.get? a=some q)(new:yu X.prog X.w (upd H a ob) h' a ob):
  Inv X pins σ (upd H a ob) { s with heap:=h',toks:=t' }:=
 I.write (x:=a) (e:=a) mu (.inl rfl) (fun b q hb z=>(hs.2 b hb).trans z) he new
theorem zfX{P:Program}{w:World}{H':Hp}{h':Heap}{kvs:List (Key×V)}{vs:List (Key×Value)}(z:kvs.length<=sizeLine)(hd:(a==sysModules)=false)(rel:KV kvs vs)(dd:h'.DictOf (yp P w) a vs):
  yu P w H' h' a (.dK kvs):=⟨z,hd,vs,rel,dd⟩
theorem zdU{H':Hp}{Q:Unit->Shared->Prop}(hu:A.units+1<cLine)(I:Inv X pins σ H s)(g:zkl H a y v H')(ry:ya y u)(rv:ya v r)(h:∀s',Inv X pins σ H' s'->Q () s'):
  wpAny (model X.prog X.w) A (setItem (.ref a) u r) Q E s:=by
 rcases g with ⟨kvs,k,e,ey,l,eH⟩|⟨kvs,k,b,e,ey,eb,l,eH⟩
 ·subst ey eH
  obtain⟨z,hd,vs,rel,dd⟩:=zhT I.hok e;have hz:vs.length<=sizeLine:=by rw[<- rel.length];exact z
  have hl:(y6 kvs k v).length<=sizeLine:=by have:=xP kvs k v;omega
  refine wpAny_setItem_pairs (hsz:=hz) (jT ry) dd fun h' dd' hs=>h _ ?_;have he:∃q,h'.get? a=some q:=let ⟨q,_,_,hq,_⟩:=dd';⟨q,hq⟩;exact zaA I (by rw[e];exact True.intro) hs he (zfX hl hd (rel.put k rv) dd')
 ·subst ey eH
  cases (show u=Value.ref b from ry);obtain⟨z,hd,xs,rel,dd⟩:=zkf I.hok e;have hz:xs.length<=sizeLine:=by rw[<- Paired.length rel];exact z
  have hl:(y6 kvs k v).length<=sizeLine:=by have:=xP kvs k v;omega
  refine wpAny_setItem_heap (hsz:=hz) (tupleKind_room_in1 hu) (uM I.hok eb) dd fun h' dd' hs=>h _ ?_;obtain⟨q,es,ep,hq,h2,h3,h4,_,h5⟩:=dd';refine zaA I (by rw[e];exact True.intro) hs ⟨q,hq⟩ ⟨hl,hd,_,(rel.put k eb rv).keeps fun c ys ec=>?_,q,es,ep,hq,h2,h3,h4,h5⟩
  rw[zg (yR ec e (fun z=>nomatch z))];exact ec
variable {kvs:List (Key×V)}{k:Key}
def zjg(i:Expr):Prop:=∀ov iv,subscripted i false ov iv=operate [ov,iv] (getItem ov iv)
theorem zcB{prog:Program}{w:World}{A:Around}{E:VSP}{s:Shared}{env:Env}{value slice:Expr}{pos:Pos}{T id:String}{Q:VSP}
  (hl:typeLookup (.type T) "__getitem__"=pure (some (.builtin id))) (hs:zjg slice)
  (h:wpAny (model prog w) A (eval value env) (fun o s₁=>wpAny (model prog w) A (eval slice env) (fun i s₂=>s₂.TypeIs o T/\wpAny (model prog w) A (getItem o i) Q E s₂) E s₁) E s) :
  wpAny (model prog w) A (eval (.Subscript value slice pos) env) Q E s:=by
 refine Subscript_ (wpAny_mono h (fun o s₁ h₁=>wpAny_mono h₁ (fun i s₂ h₂=>?_) fun _ _ x=>x) fun _ _ x=>x);obtain⟨hT,h₂⟩:=h₂;unfold subscriptTail;refine zwb ?_;rw[getitemInPython_of_ne hT.not_modules];refine zwb (wpAny_specialOf hT hl ?_);have fin:wpAny (model prog w) A (subscripted slice false o i) (fun r s₃=>wpAny (model prog w) A (letTemporaryGo value o r >>= fun _=>pure r) Q E s₃) E s₂:=by
  rw[hs o i];exact wpAny_operating (wpAny_mono h₂ (fun r s₃ h₃=>zwb (wpAny_letTemporaryGo (zwp h₃))) fun _ _ x=>x)
 first
  | exact zwp (zwb fin)
  | exact zwb (zwp (zwb fin))
  | exact zwb fin
theorem zbl{X:Cx}{pins:PnL}{σ : St}{H:Hp}{s:Shared}{a:Addr}{y:V}{o:Option V}(I:Inv X pins σ H s)(g:zaF H a y o):s.TypeIs (.ref a) "dict":=by
 rcases g with ⟨kvs,k,e,_,_⟩|⟨kvs,k,b,e,_,_,_⟩
 ·obtain⟨_,_,vs,_,dd⟩:=jY I.hok e
  exact dd.typeIs
 ·obtain⟨_,_,xs,_,dd⟩:=jW I.hok e
  exact dd.typeIs
inductive zjtJ(Q:VK)(x:V)(y:V)(H2:Hp):Prop|mk(a v:_):x=.ref a->zaF H2 a y (some v)->(Q v H2)->zjtJ Q x y H2
def zjt(td ty:TE):TE:=fun σ H Q=>td σ H fun x H1=>ty σ H1 fun y H2=>zjtJ Q x y H2
inductive zkvJ(Q:VK)(y:V)(x:V)(H2:Hp):Prop|mk(a o:_):x=.ref a->zaF H2 a y o->(Q (.bl o.isSome) H2)->zkvJ Q y x H2
def zkv(ty td:TE):TE:=fun σ H Q=>ty σ H fun y H1=>td σ H1 fun x H2=>zkvJ Q y x H2
inductive zgaJ(Q:VK)(y:V)(x:V)(H2:Hp):Prop|mk(a o:_):x=.ref a->zaF H2 a y o->(Q (.bl (!o.isSome)) H2)->zgaJ Q y x H2
def zga(ty td:TE):TE:=fun σ H Q=>ty σ H fun y H1=>td σ H1 fun x H2=>zgaJ Q y x H2
inductive zjLJ(D:L2.w4)(σ:St)(v:V)(x:V)(y:V)(H3:Hp):Prop|mk(a H4:_):x=.ref a->zkl H3 a y v H4->(D.nx σ H4)->zjLJ D σ v x y H3
def zjL(td ty tv:TE):TS:=fun D σ H=>tv σ H fun v H1=>td σ H1 fun x H2=>ty σ H2 fun y H3=>zjLJ D σ v x y H3
end
section
variable {X:Cx}{o i e value:Expr}{pos pos' tpos:Pos}{td ty tv:TE}
theorem zcT(hu:X.A.units+1<cLine)(ho:PE X o td)(hi:PE X i ty)(hs:zjg i):PE X (.Subscript o i pos) (zjt td ty):=by
 exists ?_;intro pins s σ H Q I h;refine zcB PySem.F.slot_dict_getitem.lookup hs (thn (ho pins s σ H _ I h) fun u s1 ⟨x,H1,I1,rx,q1⟩=>thn (hi pins s1 σ H1 _ I1 q1) fun iv s2 ⟨y,H2,I2,ry,a,v,ex,g,q2⟩=>?_);subst ex;obtain rfl:u=Value.ref a:=rx;exact⟨zbl I2 g,zdV hu I2 g ry fun w' s3 I3 rw'=>⟨v,H2,I3,rw',q2⟩⟩
theorem ziG(hu:X.A.units+1<cLine)(hi:PE X i ty)(ho:PE X o td):PC X .In i o (zkv ty td):=by
 exists ?_;intro pins s σ H Q I h;refine thn (hi pins s σ H _ I h) fun iv s1 ⟨y,H1,I1,ry,q1⟩=>thn (ho pins s1 σ H1 _ I1 q1) fun u s2 ⟨x,H2,I2,rx,a,ov,ex,g,q2⟩=>?_;subst ex;obtain rfl:u=Value.ref a:=rx;exact zk3 hu I2 g ry fun s3 I3=>⟨.bl ov.isSome,H2,I3,rfl,q2⟩
theorem zdB(hu:X.A.units+1<cLine)(hi:PE X i ty)(ho:PE X o td):PC X .NotIn i o (zga ty td):=by
 exists ?_;intro pins s σ H Q I h;refine thn (hi pins s σ H _ I h) fun iv s1 ⟨y,H1,I1,ry,q1⟩=>thn (ho pins s1 σ H1 _ I1 q1) fun u s2 ⟨x,H2,I2,rx,a,ov,ex,g,q2⟩=>?_;subst ex;obtain rfl:u=Value.ref a:=rx;exact zhs hu I2 g ry fun s3 I3=>⟨.bl (!ov.isSome),H2,I3,rfl,q2⟩
theorem zgv(hu:X.A.units+1<cLine)(ho:PE X o td)(hi:PE X i ty)(hv:PE X value tv)(hs:swapsWith value (some (.Subscript o i pos')) pos.line X.env=pure false):
  PS X (.Assign [.Subscript o i pos'] value pos) (zjL td ty tv):=by
 exists ?_;intro pins s σ H D I h;refine wpAny_Assign_Subscript (thn (hv pins s σ H _ I h) fun r s1 ⟨v,H1,I1,rv,q1⟩=>thn (ho pins s1 σ H1 _ I1 q1) fun u s2 ⟨x,H2,I2,rx,q2⟩=>thn (hi pins s2 σ H2 _ I2 q2) fun iv s3 ⟨y,H3,I3,ry,a,H4,ex,g,q3⟩=>?_) hs;subst ex;obtain rfl:u=Value.ref a:=rx;exact zdU hu I3 g ry rv fun s4 I4=>⟨σ,H4,I4,q3⟩
theorem zfY{P:Program}{w:World}{H:Hp}(h:Heap)(hb:sysModules<h.objs.size):yu P w H (h.push { cls:=.type "dict",data:=.dict #[] }) h.objs.size (.dK []):=
 ⟨zero_le _,beq_eq_false_iff_ne.mpr (Ne.symm (ne_of_lt hb)),[],.nil,Heap.DictOf.new h⟩
def zh1:TE:=fun _ H Q=>∀p,H p=none->Q (.ref p) (upd H p (.dK []))
theorem ze1:PE X (.Dict [] [] pos) zh1:=⟨fun pins s σ H Q I h=>
 wpAny_Dict_empty ⟨.ref s.heap.objs.size,_,I.laid (a:=s.heap.objs.size) (o:=.dK []) (t':=s.toks) (fun _ _ q=>zgp _ q) (le_refl _) (zfY s.heap I.big),rfl,h _ (I.hok.fresh (le_refl _))⟩⟩
def zhZ:List (TE×TE)->St->Hp->(List (V×V)->Hp->Prop)->Prop
 | [],_,H,Q=>Q [] H
 | (tk,tv)::r,σ,H,Q=>tk σ H fun x H1=>tv σ H1 fun y H2=>zhZ r σ H2 fun ps H3=>Q ((x,y)::ps) H3
structure M1(X:Cx)(o:Expr)(m:Str)(apos:Pos)(e:Expr)(cpos:Pos):Prop where
 base:attributeBase o m X.env (eval o X.env)=eval o X.env
 few:((backTo cpos (starEach [e] X.env)).all (fun x=>!x.1)&&(backToKw cpos (keywordEach [] X.env)).all (fun x=>x.1.isSome)
  && decide (([e]:List Expr).length+([]:List Keyword).length+(if ([]:List Keyword).isEmpty then 0 else 1)<30))=true
 line:(apos.endLine==cpos.line)=true
 trees:backTo cpos (starEach [e] X.env)=[(false,eval e X.env)]
def IsD(H:Hp)(a:Addr):Prop:=(∃kvs,Rd H a (.dK kvs))\/∃kvs,Rd H a (.dT kvs)
theorem zi3{X:Cx}{pins:PnL}{σ : St}{H:Hp}{s:Shared}{a:Addr}(I:Inv X pins σ H s)(d:IsD H a):
  s.TypeIs (.ref a) "dict"/\(∀b,Value.ref a=.ref b->∃ob,s.heap.get? b=some ob/\ob.dict=none)/\(a==sysModules)=false:=by
 rcases d with ⟨kvs,e⟩|⟨kvs,e⟩
 ·obtain⟨_,hd,vs,_,dd⟩:=jY I.hok e
  exists dd.typeIs,fun b q=>?_,hd;cases q;obtain⟨ob,_,_,h1,h2,_⟩:=dd;exact⟨ob,h1,h2.2.1⟩
 ·obtain⟨_,hd,xs,_,dd⟩:=jW I.hok e
  exists dd.typeIs,fun b q=>?_,hd;cases q;obtain⟨ob,_,_,h1,h2,_⟩:=dd;exact⟨ob,h1,h2.2.1⟩
end
section
variable {X:Cx}{pins:PnL}{σ:St}{H:Hp}{s:Shared}{a:Addr}{y d:V}{u r:Value}{o:Option V}{A:Around}{E:VSP}
theorem zja{Q:VSP}(hu:A.units+1<cLine)(I:Inv X pins σ H s)(g:zaF H a y o)(ry:ya y u)(h:∀w' s',Inv X pins σ H s'->ya (o.getD .non) w'->Q w' s'):
  wpAny (model X.prog X.w) A (call (.builtin "dict.get") [.ref a,u]) Q E s:=by
 rcases g with ⟨kvs,k,e,ey,l⟩|⟨kvs,k,b,e,ey,eb,l⟩
 ·subst ey
  obtain⟨z,hd,vs,rel,dd⟩:=jY I.hok e;refine call_meetsIn PySem.F.slot_dict_get dd.typeIs PySem.F.entry_dict_get (PySem.F.args_dict_get_2 _ _) (meets_dict_get (yp X.prog X.w) a (jT ry) hd) ⟨_,dd.mapOf,h _ _ (I.tok _) ?_⟩;rw[l];exact(rel.val k).getD rfl
 ·subst ey
  cases (show u=Value.ref b from ry);obtain⟨z,hd,xs,rel,dd⟩:=jW I.hok e;refine call_meetsIn PySem.F.slot_dict_get dd.typeIs PySem.F.entry_dict_get (PySem.F.args_dict_get_2 _ _) (meetsH_dict_get (tupleKind (yp X.prog X.w)) a b hd) ⟨tupleKind_room_in1 hu,k,xs,uM I.hok eb,dd,h _ _ (I.tok _) ?_⟩;rw[l];exact(rel.val k).getD rfl
inductive zh2J(ty:TE)(σ:St)(Q:VK)(x:V)(H1:Hp):Prop|mk(a:_):x=.ref a->IsD H1 a->(ty σ H1 fun y H2=>∃o,zaF H2 a y o/\Q (o.getD .non) H2)->zh2J ty σ Q x H1
def zh2(td ty:TE):TE:=fun σ H Q=>td σ H fun x H1=>zh2J ty σ Q x H1
end
section
variable {X:Cx}{o e f:Expr}{apos cpos:Pos}{td ty tx:TE}
theorem ze2(hu:X.A.units+1<cLine)(ho:PE X o td)(he:PE X e ty)(m:M1 X o "get" apos e cpos):PE X (.Call (.Attribute o "get" apos) [e] [] cpos) (zh2 td ty):=by
 exists ?_;intro pins s σ H Q I h;refine wpAny_Call_method m.base m.few m.line PySem.F.plainAttrs_dict PySem.F.slot_dict_get PySem.F.type_dict_get (thn (ho pins s σ H _ I h) fun u s1 ⟨x,H1,I1,rx,a,ex,d,q1⟩=>?_);subst ex;obtain rfl:u=Value.ref a:=rx;obtain⟨t1,t2,_⟩:=zi3 I1 d;exists t1,t2,?_;rw[m.trees];refine Calls.callWith_builtin rfl (Calls.evalArgs_plain (Calls.spliced_cons (thn (he pins s1 σ H1 _ I1 q1) fun iv s2 ⟨y,H2,I2,ry,ov,g,q2⟩=>Calls.spliced_nil ?_)));exact zja hu I2 g ry fun w' s3 I3 rw'=>⟨_,H2,I3,rw',q2⟩
variable {pins:PnL}{σ:St}{H:Hp}{s:Shared}{a:Addr}{kvs:List (Key×V)}{A:Around}{E:VSP}
variable {y:V}{u:Value}
end
end L2
namespace Att
open PySem PySem.W PySem.Calls PyProof.Rows
theorem u9{P:Params}{h:Heap}:∀(ns:List Int) (vs:List Value),WellAll P h vs (ns.map WData.int)->IntsAre vs ns:=by
 intro ns;induction ns with
 | nil=>
  intro vs w;rw[map_nil] at w;cases w;exact .nil
 | cons n ns ih=>
  intro vs w;rw[map_cons] at w;cases w with
  | cons a b=>
   cases a;exact .cons _ _ (ih _ b)
theorem zdt{l:OpenLaw}{n:Nat}(hn:l.most=some n){P:Params}{h:Heap}{args:List WData}{vals:List Value}
  (hpre:l.row.toRowW.claim.pre args=true) (hwl:WellAll P h vals args) :
  ∃a vs ns,vals=[Value.ref a]/\args=[WData.list (ns.map WData.int)]/\h.get? a=some { cls:=.type "list",data:=.seq vs.toArray }/\IntsAre vs ns/\ns.length<=n:=by
 have hsh:WShape.hasAll [] args [.list .int]=true:=(pre_splitW hpre).1;have hc:l.pre.holds [] { args:=args }=true:=(pre_splitW hpre).2;obtain⟨d,r,rfl,h1,h2⟩:=hasAllW_cons hsh;obtain rfl:=hasAllW_nil h2;obtain⟨xs,rfl,h3⟩:=hasW_list h1;obtain⟨ns,rfl⟩:=items_int h3;have hlen:ns.length<=n:=by
  unfold OpenLaw.pre at hc;have h4:(WTm.not (.lt (.lit (.int (n:Int))) (.len (.arg 0)))).holds [] { args:=[.list (ns.map .int)] }=true:=by
   have h4:=(holds_andW hc).1;rw[hn] at h4;exact h4
  have h5:=condW_of h4 (w_not (w_lt w_lit (w_len_list (w_arg rfl))));rw[length_map] at h5;refine Nat.le_of_not_lt fun q=>?_;have q':(n:Int)<((ns.length:Nat):Int):=by omega
  first
   | (rw[decide_eq_true q'] at h5;exact absurd h5 (by decide))
   | (simp at h5;omega)
 cases hwl with
 | cons w1 w2=>
  cases w2;cases w1 with
  | list ho hall=>exact⟨_,_,ns,rfl,rfl,ho,u9 ns _ hall,hlen⟩
theorem zdy(l:OpenLaw)(args:List WData):l.row.toRowW.claim.post args (.bool true) args=true:=
 postW_of (r:=l.row.toRowW) (X:=(true==true))
  (show WShape.has [] (.bool true) .bool=true by first|rfl|decide|simp [WShape.has,WShape.arms,WShape.armsAll])
  (show(WTm.eq .res (.lit (.bool true))).value [] { args:=args,res:=some (.bool true),after:=args }=some (.bool (true==true)) from w_eq_bool (w_res rfl) w_lit) rfl
section
variable {prog:Program}{w:World}{A:Around}{E:L2.VSP}{s:Shared}{K:Frag}
def zkY(h:Heap)(L d:Addr):List (Addr×Obj):=(List.range h.objs.size).filterMap fun a=>if a=L\/a=d then none else (h.get? a).map fun o=>(a,o)
end
end Att
namespace L2
open PySem PySem.Spec PyProof.Rows
theorem ql:∀{vs:List Value}{ns:List Int},IntsAre vs ns->zX (ns.map V.int) vs
 | _,_,.nil=>.nil
 | _,_,.cons n t h=>.cons ⟨t,rfl⟩ (ql h)
def zjf(H:Hp):Prop:=∀b,H b=none\/∃o xs,H b=some (.frz o (.lst xs))
theorem zfF{P:Program}{w:World}{K:Frag}{mg mb:Str->Option Value}{CX:CXT}{k:Nat}{fa a:Addr}{fd:FuncData}{x:Str}{sp:Sp}{s₁:Shared}{vs:List Value}{ns:List Int}
  (KX:K.In s₁.heap) (hns:s₁.heap.Ns mainGlobals mg) (hb:s₁.heap.Ns builtinsNs mb) (hbb:∀x:Str,x≠"__name__"->mb x=bootBuiltins x) (hlim:s₁.heap.NoLimit) (hg:s₁.gens=#[])
  (ha:s₁.heap.get? a=some { cls:=.type "list",data:=.seq vs.toArray }) (hi:IntsAre vs ns) (hl:ns.length<=sizeLine) (hr:yj k callerA)
  (F:∀base:Heap,K.In base->base.Ns mainGlobals mg->zA P w K mg base CX k fa fd [x] sp) (hbind:∀(s:Shared) (u:Value),BindsTo s fd ⟨[u],[]⟩ [(x,u)])
  (hsp:∀H:Hp,zjf H->SqL K H a (ns.map V.int)->sp [.ref a] H (fun v _=>v=.bl true) fun _ _ _=>False)
  (hCX:∀H e s',CX [] H s₁ (fun _ _ _=>False) e s'->False) :
  codeAny (model P w) callerA (.call (.ref fa) ⟨[.ref a],[]⟩) (fun r s'=>r=.ok (.ret (.bool true))/\OldK s₁.heap s'.heap/\s'.os=s₁.os/\AllBare s'.gens) s₁:=by
 have rv:=ql hi;have lenV:=hi.length;have core:∀H:Hp,zjf H->SqL K H a (ns.map V.int)->HOk P w H s₁.heap->(∀b,H b≠none->b=a)->(H a≠none->K.lookup a=none)->
   codeAny (model P w) callerA (.call (.ref fa) ⟨[.ref a],[]⟩) (fun r s'=>r=.ok (.ret (.bool true))/\OldK s₁.heap s'.heap/\s'.os=s₁.os/\AllBare s'.gens) s₁:=by
  intro H hO hS hok hA hK;have base_of:∀{b:Addr}{o:Obj},s₁.heap.get? b=some o->H b=none->(zay s₁.heap H).get? b=some o:=fun e n=>zfJ e n;have noA:∀{b:Addr}{o:Obj}{es:Array DictEntry}{ep:Nat},s₁.heap.get? b=some o->o.data=.dict es ep->H b=none:=fun {b o es ep} e d=>by
   cases q:H b with
   | none=>rfl
   | some u=>
    have e':b=a:=hA b (by rw[q];simp)
    subst e';rw[ha] at e;cases e;have d':Data.seq vs.toArray _=Data.dict es ep:=d;cases d'
  have nsK:∀{b:Addr}{m:Str->Option Value},s₁.heap.Ns b m->(zay s₁.heap H).Ns b m:=fun {b m} ⟨o,es,ep,e,d,r⟩=>⟨o,es,ep,base_of e (noA e d),d,r⟩;have hKb:K.In (zay s₁.heap H):=fun b o e=>base_of (KX b o e) (by
   cases q:H b with
   | none=>rfl
   | some u=>
    have e':b=a:=hA b (by rw[q];simp)
    subst e';rw[hK (by rw[q];simp)] at e;cases e)
  have hM:Mod K mg (zay s₁.heap H):=⟨hKb,nsK hns,⟨mb,nsK hb,hbb⟩,let ⟨mc,h1,h2⟩:=hlim;⟨mc,nsK h1,h2⟩⟩;have e0:zct P w K mg (zay s₁.heap H) callerA [] s₁ H:=⟨rfl,hM,fun b o e=>zg2 e,Nat.le_of_eq (zdQ _ _),trivial,fun b hb=>absurd (show b∈([]:List Addr) from hb) (by simp),hok,.of_eq hg⟩
  refine codeAny_mono ((F _ hKb (nsK hns)).run callerA [] s₁ H ⟨[.ref a],[]⟩ [.ref a] [.ref a] _ _ hr e0 (hbind s₁ (.ref a)) (.cons rfl .nil) (hsp H hO hS)) fun r s' h=>?_;cases r with
  | error e=>exact(hCX H e s' h).elim
  | ok fl=>
   cases fl with
   | next=>exact False.elim h
   | brk=>exact False.elim h
   | cont=>exact False.elim h
   | ret u=>
    obtain⟨v,H',os,bare,un,hok',r',q⟩:=h;have q':v=.bl true:=q;subst q';obtain rfl:u=Value.bool true:=r';exists rfl,OldK.of_keep fun b o e=>?_,os,bare;cases q:H b with
    | none=>exact un.keep b o e q (by intro z;exact absurd (show b∈([]:List Addr) from z) (by simp)) (by simp)
    | some u=>
     rcases hO b with z|⟨ob,xs,z⟩
     ·rw[q] at z;cases z
     ·have z2:=un.frzs b ob _ z
      obtain⟨e1,_⟩:=hok b _ z;obtain⟨e2,_⟩:=hok' b _ z2;rw[e] at e1;cases e1;exact e2
 cases hk:K.lookup a with
 | some o=>
  have e:=KX a o hk;rw[ha] at e;cases e;refine core (fun _=>none) (fun _=>.inl rfl) (.inr ⟨_,vs.toArray,_,hk,rfl,rfl,rfl,by rw[size_toArray,lenV];exact hl,by simpa using rv⟩) (fun b u z=>by have z':(none:Option HO)=some u:=z;cases z') (fun b z=>absurd rfl z) fun z=>absurd rfl z
 | none=>
  refine core (fun b=>if b=a then some (.frz { cls:=.type "list",data:=.seq vs.toArray } (.lst (ns.map V.int))) else none) (fun b=>?_) (.inl (.inr ⟨{ cls:=.type "list",data:=.seq vs.toArray },if_pos rfl⟩)) (fun b u z=>?_) (fun b z=>?_) fun _=>hk
  ·by_cases hb:b=a
   ·exact .inr ⟨_,_,if_pos hb⟩
   ·exact .inl (if_neg hb)
  ·by_cases hb:b=a
   ·have z':=(if_pos hb).symm.trans z
    cases z';subst hb;exact⟨ha,by rw[length_map];exact hl,vs,_,rv,ha⟩
   ·have z':=(if_neg hb).symm.trans z
    cases z'
  ·by_cases hb:b=a
   ·exact hb
   ·exact absurd (if_neg hb) z
def ym(s:Stmt)(j:Nat):Stmt:=match s with
 | .ClassDef _ _ _ body _ _ _ _ _ _ _=>body.getD j (.Pass ⟨0,0,0,0⟩)
 | _=>.Pass ⟨0,0,0,0⟩
def yg(s:Stmt):Arguments:=match s with
 | .FunctionDef _ a _ _ _ _ _ _ _ _=>a
 | _=>{ posonlyargs:=[],args:=[],vararg:=none,kwonlyargs:=[],kw_defaults:=[],kwarg:=none,defaults:=[] }
def yc(s:Stmt):List Stmt:=match s with
 | .FunctionDef _ _ b _ _ _ _ _ _ _=>b
 | _=>[]
def zj(s:Stmt):Scope:=match s with
 | .FunctionDef _ _ _ _ _ _ sc _ _ _=>sc
 | _=>{ kind:=.function,names:=[],isGenerator:=false,isCoroutine:=false }
abbrev CX0:CXT:=fun _ _ _ _ _ _=>False
abbrev E0:XK:=fun _ _ _=>False
theorem yo{X:Cx}:xm CX0 X E0:=fun _ _ _ _ _ _ _ h=>h.elim
structure Fun(K:Frag)(x qual:Str)(st:Stmt)(f:Addr)(fd:FuncData):Prop where
 ex:∃(oc:Value) (od:Option Addr) (kV doc pm:Value) (an:Option Addr) (cdv ct:Value) (osl:Array (Option Value)),
  fd=fnOf x qual (yg st) (yc st) (zj st) .none kV doc pm an cdv ct/\K.lookup f=some ⟨oc,od,.func fd,osl⟩/\codeIn K cdv qual=true
 kp:keepIn K (.ref f)=true
section
variable {P:Program}{w:World}{K:Frag}{mg:Str->Option Value}{base:Heap}
theorem Fun.ok{x qual:Str}{st:Stmt}{f:Addr}{fd:FuncData}{N ps:List Str}{k:Nat}{sp:Sp}(F:Fun K x qual st f fd)(S:zu N ps (zj st))(hbody:∀(cdv:Value) (A:Around) (outer:List Env) (s:Shared) (H:Hp) (vs:List V) (Q:VK) (E:XK),yj k (A.deeper (envOfC qual (zj st) s.heap.objs.size f cdv))->sp vs H Q E->
   ∃t,PSs (qa CX0 P w K mg base N qual (zj st) f cdv A outer s H E).nox (yc st) t/\t { nx:=fun _ H'=>Q .non H',rt:=Q } (vR N vs) H) (len:∀vs H Q E,sp vs H Q E->vs.length=ps.length:=by intro vs H Q E h;first|(obtain⟨_,rfl,_⟩:=h;rfl)|(obtain⟨_,_,rfl,_⟩:=h;rfl)|(obtain⟨_,_,_,rfl,_⟩:=h;rfl)|(obtain⟨_,_,_,_,rfl,_⟩:=h;rfl)|(obtain⟨_,_,_,_,_,rfl,_⟩:=h;rfl)|(obtain⟨_,_,_,_,_,_,rfl,_⟩:=h;rfl)|(obtain⟨_,_,_,_,_,_,_,rfl,_⟩:=h;rfl)|(obtain⟨_,_,_,_,_,_,_,_,rfl,_⟩:=h;rfl)|(obtain⟨_,_,_,_,_,_,_,_,_,rfl,_⟩:=h;rfl)|(obtain⟨_,_,_,_,_,_,_,_,_,_,rfl,_⟩:=h;rfl)|(obtain⟨_,_,_,_,_,_,_,_,_,_,_,rfl,_⟩:=h;rfl)|(obtain⟨_,_,_,_,_,_,_,_,_,_,_,_,rfl,_⟩:=h;rfl)|(obtain⟨_,_,_,_,_,_,_,_,_,_,_,_,_,rfl,_⟩:=h;rfl)|(obtain⟨_,_,_,_,_,_,_,_,_,_,_,_,_,_,rfl,_⟩:=h;rfl)|(obtain⟨_,_,_,_,_,_,_,_,_,_,_,_,_,_,_,rfl,_⟩:=h;rfl)|(obtain⟨_,_,_,_,_,_,_,_,_,_,_,_,_,_,_,_,rfl,_⟩:=h;rfl)):zA P w K mg base CX0 (k+1) f fd ps sp:=by
 obtain⟨oc,od,kV,doc,pm,an,cdv,ct,osl,rfl,lk,hcd⟩:=F.ex;refine zfQ lk hcd S len fun A outer s H vs Q E hr hsp=>?_;obtain⟨t,h,q⟩:=hbody cdv A outer s H vs Q E hr hsp;exact⟨t,h.nox,q⟩
theorem Fun.binds{x qual:Str}{st:Stmt}{f:Addr}{fd:FuncData}{ps:List Str}(F:Fun K x qual st f fd)
  (h:∀(kV doc pm:Value) (an:Option Addr) (cdv ct:Value) (us:List Value),us.length=ps.length->bindArgs (fnOf x qual (yg st) (yc st) (zj st) .none kV doc pm an cdv ct) ⟨us,[]⟩=pure (ps.zip us)):z8 K fd ps []:=by
 obtain⟨oc,od,kV,doc,pm,an,cdv,ct,osl,rfl,lk,hcd⟩:=F.ex;exact .all (h kV doc pm an cdv ct)
theorem zfM{x qual:Str}{st:Stmt}{f:Addr}{oc:Value}{od an:Option Addr}{osl:Array (Option Value)}{kV doc pm cdv ct:Value}(l:K.lookup f=some ⟨oc,od,.func (fnOf x qual (yg st) (yc st) (zj st) .none kV doc pm an cdv ct),osl⟩)
  (c:codeIn K cdv qual=true) (k:keepIn K (.ref f)=true):Fun K x qual st f (fnOf x qual (yg st) (yc st) (zj st) .none kV doc pm an cdv ct):=⟨⟨oc,od,kV,doc,pm,an,cdv,ct,osl,rfl,l,c⟩,k⟩
theorem zc4{A:Around}{k:Nat}(hr:yj k A):A.units+1<cLine:=Nat.lt_of_le_of_lt (Nat.add_le_add_left (by decide : 1<=64) _) hr.units
theorem zK{n:Nat}(h:n<=1000):n<sizeLine:=Nat.lt_of_le_of_lt h (by decide)
variable {X:Cx}
theorem pv(i:Nat){x:Str}{pos:Pos}(hN:X.N[i]?=some x:=by rfl)(hv:Vis X.env.scope x:=by first|exact Or.inl rfl|exact Or.inr (Or.inl rfl)|exact Or.inr (Or.inr rfl))(hd:(x==("__debug__" : Str))=false:=by decide)
  (hcd:(x==("__classdict__" : Str))=false:=by decide):PE X (.Name x pos) (j6 i):=ziB hN hv hd hcd
theorem xz{A B:Prop}(h:B):if false=true then A else B:=by
 rw[if_neg zft];exact h
theorem uc{A B:Prop}(h:A):if true=true then A else B:=by
 rw[if_pos rfl];exact h
theorem vN{c A B:Prop}[Decidable c](h1:c->A)(h2:¬c->B):if c then A else B:=by
 by_cases h:c
 ·rw[if_pos h]
  exact h1 h
 ·rw[if_neg h]
  exact h2 h
theorem zj7{c A B:Prop}[Decidable c](hc:c)(h:B):if (!decide c)=true then A else B:=by
 rw[decide_eq_true hc];exact xz h
def zq(H H':Hp):Prop:=∀b o,H b=some o->H' b=some o
theorem zq.refl(H:Hp):zq H H:=fun _ _ h=>h
theorem zq.trans{H H1 H2:Hp}(a:zq H H1)(b:zq H1 H2):zq H H2:=fun c o h=>b c o (a c o h)
theorem zq.free{H H':Hp}(e:zq H H'){l:Addr}(h:H' l=Option.none):H l=Option.none:=by
 cases q:H l with
 | none=>rfl
 | some o=>
  rw[e l o q] at h;cases h
theorem zq.seq{K:Frag}{H H':Hp}{a:Addr}{xs:List V}(e:zq H H')(h:SqL K H a xs):SqL K H' a xs:=by
 rcases h with (h|⟨o,h⟩)|h
 ·exact .inl (.inl (e _ _ h))
 ·exact .inl (.inr ⟨o,e _ _ h⟩)
 ·exact .inr h
end
section
variable {κ : Type}[DecidableEq κ]
end
def clB(env:Env)(fr:List Str):List (Str×Addr):=fr.map fun n=>(n,(env.cells.lookup n).getD 0)
theorem zbq{env:Env}:∀{fr:List Str}{x:Str}{c:Addr},(clB env fr).lookup x=some c->x∈fr/\c=(env.cells.lookup x).getD 0
 | [],x,c,h=>by simp [clB] at h
 | n::r,x,c,h=>by
  have h':List.lookup x ((n,(env.cells.lookup n).getD 0)::clB env r)=some c:=h;rw[lookup_cons] at h';cases e:x==n with
  | true=>
   rw[e] at h';have e':x=n:=by simpa using e
   subst e';exact⟨mem_cons_self,(Option.some.inj h').symm⟩
  | false=>
   rw[e] at h';obtain⟨h1,h2⟩:=zbq h';exact⟨mem_cons_of_mem _ h1,h2⟩
theorem zaB{env:Env}:∀{fr:List Str}{x:Str},x∈fr->(clB env fr).lookup x=some ((env.cells.lookup x).getD 0)
 | n::r,x,h=>by
  show List.lookup x ((n,(env.cells.lookup n).getD 0)::clB env r)=_;rw[lookup_cons];cases e:x==n with
  | true=>
   have e':x=n:=by simpa using e
   subst e';rfl
  | false=>
   rcases List.mem_cons.mp h with z|z
   ·subst z;simp at e
   ·exact zaB z
theorem vg{env:Env}:∀{names:List (Str×NameKind)}{x:Str}{k:NameKind},
  (names.map fun (n,k)=>if (k==NameKind.free&&env.scope.kind==.function&&env.kindOf n==some .cell) then (n,NameKind.cell) else (n,k)).lookup x=some k->
  ∃k0,(x,k0)∈names/\(k=k0\/(k0=.free/\k=.cell))
 | [],_,_,h=>by simp at h
 | (n,k0)::r,x,k,h=>by
  have h':List.lookup x ((if (k0==NameKind.free&&env.scope.kind==.function&&env.kindOf n==some .cell)=true then (n,NameKind.cell) else (n,k0)) ::
   (r.map fun (n,k)=>if (k==NameKind.free&&env.scope.kind==.function&&env.kindOf n==some .cell) then (n,NameKind.cell) else (n,k)))=some k:=h
  by_cases hc:(k0==NameKind.free&&env.scope.kind==.function&&env.kindOf n==some .cell)=true
  ·rw[if_pos hc,lookup_cons] at h'
   cases e:x==n with
   | true=>
    rw[e] at h';have e':x=n:=by simpa using e
    subst e';simp only[Bool.and_eq_true] at hc;exact⟨k0,mem_cons_self,.inr ⟨by simpa using hc.1.1,(Option.some.inj h').symm⟩⟩
   | false=>
    rw[e] at h';obtain⟨k1,h1,h2⟩:=vg h';exact⟨k1,mem_cons_of_mem _ h1,h2⟩
  ·rw[if_neg hc,lookup_cons] at h'
   cases e:x==n with
   | true=>
    rw[e] at h';have e':x=n:=by simpa using e
    subst e';exact⟨k0,mem_cons_self,.inl (Option.some.inj h').symm⟩
   | false=>
    rw[e] at h';obtain⟨k1,h1,h2⟩:=vg h';exact⟨k1,mem_cons_of_mem _ h1,h2⟩
theorem wR{env:Env}(hk:env.scope.kind=.function):∀{names:List (Str×NameKind)}{x:Str},names.lookup x=some .free->env.kindOf x=some .cell->
  (names.map fun (n,k)=>if (k==NameKind.free&&env.scope.kind==.function&&env.kindOf n==some .cell) then (n,NameKind.cell) else (n,k)).lookup x=some .cell
 | [],_,h,_=>by simp at h
 | (n,k0)::r,x,h,hx=>by
  show List.lookup x ((if (k0==NameKind.free&&env.scope.kind==.function&&env.kindOf n==some .cell)=true then (n,NameKind.cell) else (n,k0)) ::
   (r.map fun (n,k)=>if (k==NameKind.free&&env.scope.kind==.function&&env.kindOf n==some .cell) then (n,NameKind.cell) else (n,k)))=some .cell
  rw[lookup_cons] at h;cases e:x==n with
  | true=>
   rw[e] at h;have e':x=n:=by simpa using e
   subst e';have h0:k0=.free:=Option.some.inj h;subst h0;rw[if_pos (by rw[hk,hx];decide),lookup_cons]
   simp
  | false=>
   rw[e] at h;have ih:=wR hk h hx;split
   ·rw[lookup_cons,e];exact ih
   ·rw[lookup_cons,e];exact ih
abbrev yb(X:Cx)(pins:PnL)(sc:Scope)(fr Nc:List Str)(fp:List Addr)(s:Shared)(H:Hp)(C:Addr):Cx:=
 { prog:=X.prog,w:=X.w,K:=X.K,mg:=X.mg,base:=X.base,A:=X.A,N:=Nc,s₀:=s,H₀:=H,env:=compEnvC sc (clB X.env fr) C X.env,outer:=X.stack,stack:=X.stack,ex:=fp,fn:=fun _=>false,calm:=X.calm,pn:=X.pn++pins,xe:=fun _ _=>False }
structure yQ(env:Env)(sc:Scope)(fr:List Str):Prop where
 kind:sc.kind=.function
 clos:closureFor sc env=pure (clB env fr)
 cells:(fr.all fun n=>(env.cells.lookup n).isSome)=true
 names:(sc.names.all fun y=>(y.2 != .cell)&&(y.2 != .free||fr.contains y.1)&&(y.2 != .local||sc.names.lookup y.1==some .local))=true
def vo(N Nc:List Str)(caps:List (Option Nat))(env:Env)(sc:Scope)(fr:List Str):Bool:=
 (Nc.zip caps).all fun p=>match p.2 with
  | none=>true
  | some j=>(N[j]?==some p.1)&&(env.kindOf p.1==some .cell)&&(sc.names.lookup p.1==some .free)&&fr.contains p.1
def xl(caps:List (Option Nat))(σ : St):St:=caps.map fun o=>match o with
 | none=>none
 | some j=>(σ[j]?).join
section
variable {X:Cx}{pins:PnL}{σ:St}{H:Hp}{s:Shared}{sc:Scope}{fr Nc:List Str}{fp:List Addr}{C:Addr}
theorem yQ.sub{env:Env}(B:yQ env sc fr){x:Str}{c:Addr}(h:(clB env fr).lookup x=some c):env.cells.lookup x=some c:=by
 obtain⟨h1,h2⟩:=zbq h;have h3:=List.all_eq_true.mp B.cells x h1;obtain⟨d,hd⟩:=Option.isSome_iff_exists.mp h3;rw[hd] at h2 |-;rw[h2];rfl
theorem yQ.free{env:Env}(B:yQ env sc fr){x:Str}{k:NameKind}(h:(relabel sc env).names.lookup x=some k)(hk:k=.cell\/k=.free):x∈fr:=by
 obtain⟨k0,h1,h2⟩:=vg h;have h3:=List.all_eq_true.mp B.names _ h1;simp only[Bool.and_eq_true,Bool.or_eq_true,bne_iff_ne,ne_eq,List.contains_iff_mem] at h3;have h4:k0=.free:=by
  rcases h2 with h2|⟨h2,_⟩
  ·subst h2
   rcases hk with z|z
   ·exact absurd z h3.1.1
   ·exact z
  ·exact h2
 rcases h3.1.2 with z|z
 ·exact absurd h4 z
 ·exact z
theorem zdg(I:Inv X pins σ H s)(B:yQ X.env sc fr)(hf:∀b∈fp,vc X pins H b)(ho:∀b∈fp,∃o,s.heap.get? b=some o)(hC:s.heap.objs.size<=C):(yb X pins sc fr Nc fp s H C).Ok where
 mod:=I.ok.mod
 kind:=B.kind
 glob:=I.ok.glob
 blt:=I.ok.blt
 above:=hC
 inj:=fun x y c h1 h2=>I.ok.inj x y c (B.sub h1) (B.sub h2)
 has:=fun x h=>by
  have hx:x∈fr:=by
   rcases h with h|h
   ·exact B.free h (.inl rfl)
   ·exact B.free h (.inr rfl)
  exact⟨_,zaB hx⟩
 cab:=fun x c h=>absurd h (by simp)
 hd:=I.ok.hd
 frames:=I.ok.frames
 stk:=.inl rfl
 exf:=fun b hb=>by
  obtain⟨o,e⟩:=ho b hb;exists fun z=>?_,fun x c h=>(hf b hb).2.2.2.2.1 x c (B.sub h);have z':b=C:=z
  have:=Heap.lt_size e
  rw[z'] at this;exact absurd (lt_of_lt_of_le this hC) (lt_irrefl _)
 bs:=I.bs
 bsz:=le_trans I.ok.bsz I.sz
 noex:=fun b o e hb=>by
  rcases (hf b hb).2.2.2.1 with z|z
  ·exact I.ok.noex b o e z
  ·exact absurd (lt_of_lt_of_le (Heap.lt_size (I.ok.bs b o e).1) z) (lt_irrefl _)
 exfs:=fun b hb h=>by
  rcases List.mem_cons.mp (I.stkSub b h) with z|z
  ·exact(hf b hb).2.1 z
  ·exact(hf b hb).2.2.1 z
 funs:=I.stack
 frf:=I.stkFree
theorem Inv.pin_lt(I:Inv X pins σ H s){p:Addr×Obj}(hp:p∈X.pn++pins):p.1<s.heap.objs.size:=Heap.lt_size (I.pin p hp).1
theorem zcm{caps:List (Option Nat)}{h':Heap}{D:Addr}{m:Str->Option Value}{t' n0:Nat}(I:Inv X pins σ H s)(B:yQ X.env sc fr)(hf:∀b∈fp,vc X pins H b)(ho:∀b∈fp,∃o,s.heap.get? b=some o)
  (hC:s.heap.objs.size<=C) (hD:s.heap.objs.size<=D) (hDC:D≠C) (keep:∀b o,s.heap.get? b=some o->h'.get? b=some o) (hl:h'.get? D=some { cls:=.type "list",data:=.seq ([]:List Value).toArray n0 }) (hn:h'.Ns C m)
  (hcap:vo X.N Nc caps X.env sc fr=true) (hlen:caps.length=Nc.length) :
  Inv (yb X pins sc fr Nc fp s H C) [] (xl caps σ) (upd H D (.lst [])) { s with heap:=h',toks:=t' }:=by
 have hk:X.env.scope.kind=.function:=I.ok.kind;have fresh:∀a,s.heap.objs.size<=a->H a=none:=fun a ha=>I.hok.fresh ha;exists zdg I B hf ho hC,rfl,I.bare,Un.laid keep hD (fresh D hD),⟨m,hn,fun i x v e1 e2 e3=>?_⟩,fun x c h=>?_,?_,fun x c h=>?_,fun p hp=>?_,?_,?_
 ·
  have e2':(caps[i]?).map (fun o=>match o with|none=>none|some j=>(σ[j]?).join)=some (some v):=by
   have:(xl caps σ)[i]?=some (some v):=e2
   unfold xl at this;rw[getElem?_map] at this;exact this
  cases hc:caps[i]? with
  | none=>rw[hc] at e2';cases e2'
  | some o=>
   rw[hc] at e2';cases o with
   | none=>simp at e2'
   | some j=>
    have e4:(σ[j]?).join=some v:=by simpa using e2'
    have e5 : σ[j]?=some (some v):=by
     cases q : σ[j]? with
     | none=>rw[q] at e4;cases e4
     | some w'=>rw[q] at e4;simp at e4;rw[e4]
    have e6:(Nc.zip caps)[i]?=some (x,some j):=by
     rw[List.getElem?_zip_eq_some];exact⟨e1,hc⟩
    have e7:=List.all_eq_true.mp hcap _ (mem_of_getElem? e6);simp only[Bool.and_eq_true,beq_iff_eq,List.contains_iff_mem] at e7;obtain⟨⟨⟨a1,a2⟩,a3⟩,a4⟩:=e7;obtain⟨m0,hn0,hl0⟩:=I.loc;obtain⟨u,r,l⟩:=hl0 j x v a1 e5 (.inr (.inl a2));exists u,r,.inr ⟨.inl (wR hk a3 a2),_,zaB a4,?_⟩;rcases l with ⟨z,_⟩|⟨_,c,ec,hcell⟩
    ·rw[a2] at z;cases z
    ·have:(X.env.cells.lookup x).getD 0=c:=by rw[ec];rfl
     rw[this];exact hcell.keeps keep
 ·obtain⟨v,hv⟩:=I.cell x c (B.sub h)
  exact⟨v,hv.keeps keep⟩
 ·show upd H D (.lst []) C=none
  rw[zg (Ne.symm hDC)];exact fresh C hC
 ·obtain⟨v,hv⟩:=I.cell x c (B.sub h)
  have:c≠D:=fun z=>by have:=hv.lt;rw[z] at this;exact absurd (lt_of_lt_of_le this hD) (lt_irrefl _)
  rw[zg this];exact I.freeC x c (B.sub h)
 ·have hp':p∈X.pn++pins:=by simpa using hp
  obtain⟨e,n,ne,nf,d⟩:=I.pin p hp';have hlt:=I.pin_lt hp';exists keep _ _ e,?_,?_,fun z=>?_,d
  ·rw[zg (fun z=>by rw[z] at hlt;exact absurd (lt_of_lt_of_le hlt hD) (lt_irrefl _))];exact n
  ·intro z
   have z':p.1=C:=z;rw[z'] at hlt;exact absurd (lt_of_lt_of_le hlt hC) (lt_irrefl _)
  ·rcases List.mem_cons.mp (I.stkSub p.1 z) with q|q
   ·exact ne q
   ·exact nf q
 ·exact I.hok.laid keep hD ⟨zero_le _,[],n0,.nil,hl⟩
 ·show(xl caps σ).length=Nc.length
  unfold xl;rw[length_map,hlen]
theorem uP{pl:PnL}{σ':St}{H':Hp}{s':Shared}(I:Inv X pins σ H s)(hf:∀b∈fp,vc X pins H b)(J:Inv (yb X pins sc fr Nc fp s H C) pl σ' H' s'):Inv X pins σ H' s':=
 I.call' J.os J.base J.hok J.bare fun b hb=>⟨(hf b hb).2.2.2.1,(hf b hb).2.1,(hf b hb).2.2.2.2.1,(hf b hb).2.2.2.2.2⟩
theorem qP{pl:PnL}{σ' σ2:St}{H':Hp}{s':Shared}{h2:Heap}{t2:Nat}(I:Inv X pins σ H s)(J:Inv (yb X pins sc fr Nc fp s H C) pl σ' H' s')(J2:Inv X pins σ2 H' s')(hs:Heap.SameBut C s'.heap h2):Inv X pins σ2 H' { s' with heap:=h2,toks:=t2 }:=by
 have hC:s.heap.objs.size<=C:=J.ok.above;refine J2.turned (it:=C) (fun b o hb e=>(hs.2 b hb).trans e) J.free ?_ (.inr (le_trans I.sz hC)) (fun x c h z=>?_) fun p hp z=>?_
 ·intro z
  have:=I.lt
  rw[<- z] at this;exact absurd (lt_of_lt_of_le this hC) (lt_irrefl _)
 ·obtain⟨v,hv⟩:=I.cell x c h
  have:=hv.lt
  rw[z] at this;exact absurd (lt_of_lt_of_le this hC) (lt_irrefl _)
 ·have:=I.pin_lt hp
  rw[z] at this;exact absurd (lt_of_lt_of_le this hC) (lt_irrefl _)
def zd6:TT:=fun _ H Q=>Q true H
structure PIf(X:Cx)(ifs:List Expr)(t:TT):Prop where
 run:∀(pins:PnL) (s:Shared) (σ : St) (H:Hp) (Q:Bool->Hp->Prop),Inv X pins σ H s->t σ H Q->
  wpAny (model X.prog X.w) X.A (forIn ifs true fun c r=>if r=true then do let ok <- isTrue c X.env (eval c X.env);pure (ForInStep.yield ok) else pure (ForInStep.yield r)) (TP X pins σ Q) X.xe s
instance {X:Cx}{ifs:List Expr}{t:TT}:CoeFun (PIf X ifs t) (fun _=>∀(pins:PnL) (s:Shared) (σ : St) (H:Hp) (Q:Bool->Hp->Prop),Inv X pins σ H s->t σ H Q->
  wpAny (model X.prog X.w) X.A (forIn ifs true fun c r=>if r=true then do let ok <- isTrue c X.env (eval c X.env);pure (ForInStep.yield ok) else pure (ForInStep.yield r)) (TP X pins σ Q) X.xe s):=⟨PIf.run⟩
theorem yH{X:Cx}:PIf X [] zd6:=⟨fun _ _ _ H _ I h=>wpAny_tests_nil ⟨H,I,h⟩⟩
theorem xM{X:Cx}{c:Expr}{t:TT}(hc:PT X c t):PIf X [c] t:=⟨fun pins s σ H Q I h=>wpAny_tests_one (hc pins s σ H Q I h)⟩
def zbv(g:TG)(ow:List Nat):Prop:=
 ∀(v:V) (σ : St) (H:Hp) (Q:St->Hp->Prop),g v σ H Q->g v σ H fun σ2 H2=>Q σ2 H2/\σ2.length=σ.length/\∀i,i∉ow->σ2[i]?=σ[i]?
theorem ye(i:Nat):zbv (zM i) [i]:=fun v σ H Q h=>⟨h,length_set ..,fun j hj=>getElem?_set_ne (fun e=>hj (by simp [e]))⟩
theorem xI{K:Frag}{n:Nat}(i j:Nat):zbv (zi8 K n (zbg (zM i) (zbg (zM j) zi9))) [i,j]:=by
 rintro v σ H Q ⟨a,xs,e1,e2,e3,v1,r1,e4,v2,r2,e5,e6,q⟩;exists a,xs,e1,e2,e3,v1,r1,e4,v2,r2,e5,e6,q,by rw[length_set,length_set],fun k hk=>?_
 have h1:i≠k:=fun e=>hk (by simp [e])
 have h2:j≠k:=fun e=>hk (by simp [e])
 rw[getElem?_set_ne h2,getElem?_set_ne h1]
variable {prog:Program}{w:World}{A:Around}{R:Result->Shared->Prop}
theorem qb{elt target iter:Expr}{ifs:List Expr}{scope:Scope}{pos:Pos}{it acc:Value}{env:Env}(Ex:VSP)(hE:∀e s,Ex e s->notedBy (model prog w) A env (fun x s'=>R (.error x) s') e s)(I:Nat->Shared->Prop)
  (turn:∀n s,I n s->wpAny (model prog w) A (pyNext it) (fun r s₁=>match r with
   | none=>R (.ok .next) s₁
   | some v=>wpAny (model prog w) A (letOwnedTupleGo target it v) (fun _ s₀=>wpAny (model prog w) A (assign target env v) (fun _ s₂=>
     wpAny (model prog w) A (forIn ifs true fun c r=>if r=true then do let ok <- isTrue c env (eval c env);pure (ForInStep.yield ok) else pure (ForInStep.yield r)) (fun ok s₃=>
      if ok=true then wpAny (model prog w) A (eval elt env) (fun x s₄=>
       wpAny (model prog w) A (call (.builtin "list.append") [acc,x]) (fun _ s₅=>∃m,m<n/\I m s₅) Ex s₄) Ex s₃
      else ∃m,m<n/\I m s₃) Ex s₂) Ex s₀) Ex s₁) Ex s)
  (n:Nat) (h:I n s) :
  codeAny (model prog w) A (.compLoop (.ListComp elt [⟨target,iter,ifs,0⟩] scope pos) 0 it acc env) R s:=by
 refine codeAny_loop rfl I (fun n s hI=>?_) n h;show wpAny _ A ((compTurn (.ListComp elt [⟨target,iter,ifs,0⟩] scope pos) 0 it acc env).onRaise (fun x=>do noteFrame x env;theTreesLotGoes x)) _ _ s
 refine wpAny_noted ?_;rw[compTurn_list];refine zwb (wpAny_standAt (zwb (wpAny_mono (turn n s hI) (fun r s₁ h₁=>?_) hE)));cases r with
 | none=>exact zwp h₁
 | some v=>
  refine zwb (wpAny_mono h₁ (fun _ s₀ h₀=>?_) hE);refine zwb (wpAny_mono h₀ (fun _ s₂ h₂=>zwb (wpAny_mono h₂ (fun ok s₃ h₃=>?_) hE)) hE);cases ok with
  | false=>exact zwp ⟨rfl,h₃⟩
  | true=>
   exact zwb (zwb (wpAny_mono h₃ (fun x s₄ h₄=>zwb (wpAny_mono h₄ (fun _ s₅ h₅=>zwp (zwp ⟨rfl,h₅⟩)) hE)) hE))
def LCr(J:It)(caps:List (Option Nat))(g:TG)(tt:TT)(te:TE)(σ : St)(H1:Hp)(Q:VK)(D:Addr):Prop:=
 ∃W:Nat->Nat->List V->Hp->Prop,(∃m,W 0 m [] (upd H1 D (.lst [])))/\∀i m ys H,W i m ys H->
  (J.stop i H/\Q (.ref D) H)\/
  (J.go i H/\∀x H',J.yld i H x H'->g x (xl caps σ) H' fun σ2 H2=>tt σ2 H2 fun ok H3=>
   (ok=true->te σ2 H3 fun v H4=>H4 D=some (.lst ys)/\ys.length<sizeLine/\∃m',m'<m/\W (i+1) m' (ys++[v]) (upd H4 D (.lst (ys++[v]))))/\
   (ok=false->∃m',m'<m/\W (i+1) m' ys H3))
def tLC(wi:TI)(caps:List (Option Nat))(g:TG)(tt:TT)(te:TE):TE:=fun σ H Q=>wi σ H fun J H1=>∀D,H1 D=none->LCr J caps g tt te σ H1 Q D
variable {caps:List (Option Nat)}{elt tg iter:Expr}{ifs:List Expr}{g:TG}{tt:TT}{te:TE}{ow:List Nat}{pos pos2:Pos}{E:VSP}
theorem zdW{H2:Hp}{it:Addr}{fp:List Addr}{tn:Nat->Heap->Prop}{J:It}{Q:VK}{RR:Value->Addr->Result->Shared->Prop}
  (hc:X.calm=true) (B:yQ X.env sc fr) (go:zbv g ow) (how:(ow.all fun i=>caps[i]?==some none)=true) (hcap:vo X.N Nc caps X.env sc fr=true) (hlen:caps.length=Nc.length)
  (Ex:Addr->Addr->Value->Shared->Prop) (hb:∀D C,PG ((yb X pins sc fr Nc fp s H2 C).wish (Ex D C)) tg g/\PIf ((yb X pins sc fr Nc fp s H2 C).wish (Ex D C)) ifs tt/\PE ((yb X pins sc fr Nc fp s H2 C).wish (Ex D C)) elt te)
  (I2:Inv X pins σ H2 s) (T:qg X.prog X.w X.K tg J fp it tn) (st2:tn 0 s.heap) (f2:∀b∈fp,vc X pins H2 b) (h:∀D,H2 D=none->LCr J caps g tt te σ H2 Q D)
  (hE:∀D C e s',Ex D C e s'->notedBy (model X.prog X.w) X.A (compEnvC sc (clB X.env fr) C X.env) (fun x s3=>RR (.ref D) C (.error x) s3) e s')
  (fin:∀(D C:Addr) (σ':St) (H':Hp) (s':Shared),Inv (yb X pins sc fr Nc fp s H2 C) [] σ' H' s'->Q (.ref D) H'->RR (.ref D) C (.ok .next) s') :
  wpAny (model X.prog X.w) X.A (newList []) (fun acc s₃=>wpAny (model X.prog X.w) X.A (newFunctionEnv sc X.env.globals (clB X.env fr) [] X.env.qual none .none (some X.env)) (fun cenv s₄=>
   codeAny (model X.prog X.w) X.A (.compStart (.ListComp elt [⟨tg,iter,ifs,0⟩] sc pos) 0 (.ref it) acc { cenv with scope:=relabel sc X.env }) (RR acc cenv.locals) s₄) E s₃) E s:=by
 have hcell:∀y∈sc.names,y.2≠.cell:=fun y hy=>by
  have h3:=List.all_eq_true.mp B.names _ hy;simp only[Bool.and_eq_true,bne_iff_ne,ne_eq] at h3;exact h3.1.1
 refine wpAny_newObj_type (wpAny_newFunctionEnv hcell (by intro y hy;simp at hy) (fun h₁ hns₁ hsb₁=>?_) B.kind)
 dsimp only at hns₁ hsb₁ |-;generalize hH2:s.heap.push { cls:=.type "list",dict:=none,data:=.seq ([]:List Value).toArray }=H3 at hns₁ hsb₁ |-;have hCs:H3.objs.size=s.heap.objs.size+1:=by rw[<- hH2,Heap.size_push]
 have hDC:s.heap.objs.size≠H3.objs.size:=by rw[hCs];exact ne_of_lt (lt_succ_self _)
 have hC:s.heap.objs.size<=H3.objs.size:=by rw[hCs];exact le_succ _
 have old:∀b o,s.heap.get? b=some o->h₁.get? b=some o:=fun b o e=>
  hsb₁.extBut b o (ne_of_lt (lt_of_lt_of_le (Heap.lt_size e) hC)) (zgp _ (hH2 ▸ zgp _ e))
 have hD:h₁.get? s.heap.objs.size=some { cls:=.type "list",data:=.seq ([]:List Value).toArray }:=hsb₁.extBut _ _ hDC (zgp _ (hH2 ▸ zgs _ rfl));have ho:∀b∈fp,∃o,s.heap.get? b=some o:=fun b hb'=>let ⟨o,e,_⟩:=T.obj 0 _ st2 b hb';⟨o,e⟩
 let CC:Cx:=yb X pins sc fr Nc fp s H2 H3.objs.size
 let xb:Value->Shared->Prop:=Ex s.heap.objs.size H3.objs.size
 have I4:∀t',Inv (CC.wish xb) [] (xl caps σ) (upd H2 s.heap.objs.size (.lst [])) { s with heap:=h₁,toks:=t' }:=fun t'=>
  (zcm I2 B f2 ho hC (le_refl _) hDC old hD hns₁ hcap hlen).wish xb
 have ok:=(I4 0).ok;obtain⟨hbg,hbt,hbe⟩:=hb s.heap.objs.size H3.objs.size;obtain⟨W,⟨m0,w0⟩,turn⟩:=h s.heap.objs.size (I2.hok.fresh (le_refl _));have stat:∀{H':Hp},(∀b∈fp,H' b=none)->∀b∈fp,vc (CC.wish xb) [] H' b:=fun hn b hb'=>
  ⟨hn b hb',(ok.exf b hb').1,ok.exfs b hb',.inl hb',(ok.exf b hb').2,fun p hp=>(f2 b hb').2.2.2.2.2 p (by have hp':p∈(X.pn++pins)++[]:=hp;simpa using hp')⟩
 have hfp0:∀b∈fp,upd H2 s.heap.objs.size (.lst []) b=none:=fun b hb'=>by
  obtain⟨o,e⟩:=ho b hb';rw[zg (ne_of_lt (Heap.lt_size e))];exact(f2 b hb').1
 have loop:∀s₃:Shared,s₃={ s with heap:=h₁,toks:=s.toks+([]:List (Str×Value)).length }->
   codeAny (model X.prog X.w) X.A (.compLoop (.ListComp elt [⟨tg,iter,ifs,0⟩] sc pos) 0 (.ref it) (.ref s.heap.objs.size) (compEnvC sc (clB X.env fr) H3.objs.size X.env)) (RR (.ref s.heap.objs.size) H3.objs.size) s₃:=by
  rintro s₃ rfl;refine qb xb (hE _ _) (fun n s'=>∃i σ' H' ys,Inv (CC.wish xb) [] σ' H' s'/\tn i s'.heap/\(∀b∈fp,H' b=none)/\W i n ys H'/\
   (∀(k:Nat) (v:V),(xl caps σ)[k]?=some (some v)->σ'[k]?=some (some v))) ?_ m0
   ⟨0,_,_,[],I4 _,T.keep _ _ _ st2 (fun b _ o e=>old b o e),hfp0,w0,fun _ _ e=>e⟩
  rintro n s3 ⟨i,σ3,H4,ys,I3,st3,fr3,w3,wk3⟩;have I3':Inv (CC.wish xb) [] (xl caps σ) H4 s3:=I3.weak (by rw[I3.len];exact(I4 0).len) wk3
  rcases turn i n ys H4 w3 with ⟨stop,qn⟩|⟨gg,step⟩
  ·refine thn (T.done (CC.wish xb) rfl rfl rfl hc i [] s3 _ H4 xb I3' (stat fr3) st3 stop) fun r s4 ⟨hr,I4'⟩=>?_
   subst hr;exact fin _ _ _ _ _ I4'.unwish qn
  ·refine thn (T.item (CC.wish xb) rfl rfl rfl hc i [] s3 _ H4 xb I3' (stat fr3) st3 gg) fun r s4 ⟨u,hr,h4⟩=>?_
   subst hr;refine thn h4 fun _ s5 ⟨x,H5,I5,r5,y5,st5,fr5⟩=>?_;have I5':=I5.pinned (stat fr5) (T.obj _ _ st5);refine thn (hbg _ s5 _ H5 x u _ I5' r5 (go _ _ _ _ (step x H5 y5))) fun _ s6 ⟨σ6,H6,I6,q6,l6,k6⟩=>?_;have wk6:∀(k:Nat) (v:V),(xl caps σ)[k]?=some (some v)->σ6[k]?=some (some v):=fun k v e=>by
    rw[k6 k fun hk=>?_]
    ·exact e
    ·have h1:=List.all_eq_true.mp how k hk
     have h2:caps[k]?=some none:=by simpa using h1
     unfold xl at e;rw[getElem?_map,h2] at e;cases e
   refine thn (hbt _ s6 σ6 H6 _ I6 q6) fun ok s7 ⟨H7,I7,q7⟩=>?_;have again:∀{H8:Hp}{s8:Shared}{ys':List V},Inv (CC.wish xb) ([]++uJ fp s5.heap) σ6 H8 s8->(∃m',m'<n/\W (i+1) m' ys' H8)->
     ∃m,m<n/\∃i σ' H' ys,Inv (CC.wish xb) [] σ' H' s8/\tn i s8.heap/\(∀b∈fp,H' b=none)/\W i m ys H'/\(∀(k:Nat) (v:V),(xl caps σ)[k]?=some (some v)->σ'[k]?=some (some v)):=fun {H8 s8 ys'} I8 ⟨m',hm,w8⟩=>by
    exists m',hm,i+1,σ6,H8,ys',I8.unpinned,T.keep _ _ _ st5 fun b hb' o e=>(I8.pin (b,o) (mem_append_right _ (mem_append_right _ (xG hb' e)))).1,fun b hb'=>?_,w8,wk6;obtain⟨o,e,d⟩:=T.obj _ _ st5 b hb';exact(I8.pin (b,o) (mem_append_right _ (mem_append_right _ (xG hb' e)))).2.1
   cases ok with
   | false=>
    rw[if_neg zft];exact again I7 (q7.2 rfl)
   | true=>
    rw[if_pos rfl];refine thn (hbe _ s7 σ6 H7 _ I7 (q7.1 rfl)) fun uv s8 ⟨v,H8,I8,r8,hD8,hz,q8⟩=>?_;refine thn (zP (X:=CC.wish xb) _ s8 σ6 H8 (.ref s.heap.objs.size) [v] _ [uv] (fun _ H'=>H'=upd H8 s.heap.objs.size (.lst (ys++[v]))) I8 rfl (.cons r8 .nil) ⟨_,ys,v,rfl,rfl,hD8,hz,rfl⟩) fun _ s9 ⟨_,H9,I9,_,e9⟩=>?_;subst e9;exact again I9 q8
 exact codeAny_compStart_list (loop _ rfl) (T.self _ 0 _ _ _ (T.keep _ _ _ st2 (fun b _ o e=>old b o e)) (loop _ rfl))
theorem zbp{H2:Hp}{it:Addr}{fp:List Addr}{tn:Nat->Heap->Prop}{J:It}{Q:VK}{RR:Value->Addr->Result->Shared->Prop}
  (hc:X.calm=true) (B:yQ X.env sc fr) (go:zbv g ow) (how:(ow.all fun i=>caps[i]?==some none)=true) (hcap:vo X.N Nc caps X.env sc fr=true) (hlen:caps.length=Nc.length)
  (hb:∀(pins:PnL) (fp:List Addr) (s:Shared) (H:Hp) (C:Addr),PG (yb X pins sc fr Nc fp s H C) tg g/\PIf (yb X pins sc fr Nc fp s H C) ifs tt/\PE (yb X pins sc fr Nc fp s H C) elt te)
  (I2:Inv X pins σ H2 s) (T:qg X.prog X.w X.K tg J fp it tn) (st2:tn 0 s.heap) (f2:∀b∈fp,vc X pins H2 b) (h:∀D,H2 D=none->LCr J caps g tt te σ H2 Q D)
  (fin:∀(D C:Addr) (σ':St) (H':Hp) (s':Shared),Inv (yb X pins sc fr Nc fp s H2 C) [] σ' H' s'->Q (.ref D) H'->RR (.ref D) C (.ok .next) s') :
  wpAny (model X.prog X.w) X.A (newList []) (fun acc s₃=>wpAny (model X.prog X.w) X.A (newFunctionEnv sc X.env.globals (clB X.env fr) [] X.env.qual none .none (some X.env)) (fun cenv s₄=>
   codeAny (model X.prog X.w) X.A (.compStart (.ListComp elt [⟨tg,iter,ifs,0⟩] sc pos) 0 (.ref it) acc { cenv with scope:=relabel sc X.env }) (RR acc cenv.locals) s₄) E s₃) E s:=
 zdW hc B go how hcap hlen (fun _ _ _ _=>False) (fun _ C=>hb pins fp s H2 C) I2 T st2 f2 h (fun _ _ _ _ z=>z.elim) fin
theorem yQ.loc{env:Env}(B:yQ env sc fr):∀x∈sc.names,x.2=.local->sc.names.lookup x.1=some .local:=fun y hy e=>by
 have h3:=List.all_eq_true.mp B.names _ hy;simp only[Bool.and_eq_true,Bool.or_eq_true,bne_iff_ne,ne_eq,beq_iff_eq] at h3;rcases h3.2 with z|z
 ·exact absurd e z
 ·exact z
theorem wx{wi:TI}(fr Nc:List Str)(caps:List (Option Nat))(hc:X.calm=true)(B:yQ X.env sc fr)(hi:PI X tg iter wi)(go:zbv g ow)(how:(ow.all fun i=>caps[i]?==some none)=true)
  (hcap:vo X.N Nc caps X.env sc fr=true) (hlen:caps.length=Nc.length)
  (hb:∀(pins:PnL) (fp:List Addr) (s:Shared) (H:Hp) (C:Addr),PG (yb X pins sc fr Nc fp s H C) tg g/\PIf (yb X pins sc fr Nc fp s H C) ifs tt/\PE (yb X pins sc fr Nc fp s H C) elt te)
  (hs:∀x,foldedSetIterable iter X.env x=pure x:=by intro _;rfl):PE X (.ListComp elt [⟨tg,iter,ifs,0⟩] sc pos) (tLC wi caps g tt te):=by
 exists ?_;intro pins s σ H Q I h;rw[eval_ListComp];refine wpAny_comprehension_free (use:=none) rfl hs B.clos B.kind B.loc (thn (hi pins s σ H _ I h) fun v s1 h1=>thn h1 fun itv s2 h2=>?_);obtain⟨it,fp,tn,J,H2,e,I2,T,st2,f2,q⟩:=h2;subst e;refine zbp (RR:=fun acc C=>compPost (model X.prog X.w) X.A X.xe none (EP X pins σ Q) acc C) hc B go how hcap hlen hb I2 T st2 f2 q ?_;intro D C σ' H' s' J' qq;obtain⟨m,hn,_⟩:=J'.loc;exact⟨m,hn,fun h' hs'=>⟨.ref D,H',qP I2 J' (uP I2 f2 J') hs',rfl,qq⟩⟩
theorem vh{wi:TI}{i:Nat}{x:Str}{pos':Pos}(fr Nc:List Str)(caps:List (Option Nat))(hN:X.N.Nodup)(hix:X.N[i]?=some x)(hx:Loc X.env.scope x)(hc:X.calm=true)(B:yQ X.env sc fr)(hi:PI X tg iter wi)(go:zbv g ow)(how:(ow.all fun i=>caps[i]?==some none)=true)
  (hcap:vo X.N Nc caps X.env sc fr=true) (hlen:caps.length=Nc.length)
  (hb:∀(pins:PnL) (fp:List Addr) (s:Shared) (H:Hp) (C:Addr),PG (yb X pins sc fr Nc fp s H C) tg g/\PIf (yb X pins sc fr Nc fp s H C) ifs tt/\PE (yb X pins sc fr Nc fp s H C) elt te)
  (hsw:swapsWith (.ListComp elt [⟨tg,iter,ifs,0⟩] sc pos) (some (.Name x pos')) pos2.line X.env=pure true:=by rfl)
  (hs:∀x,foldedSetIterable iter X.env x=pure x:=by intro _;rfl) (hf:X.fn x=true\/X.env.scope.names.lookup x=some .local:=by first|exact .inl rfl|exact .inr rfl|assumption) :
  PS X (.Assign [.Name x pos'] (.ListComp elt [⟨tg,iter,ifs,0⟩] sc pos) pos2) (zgb (tLC wi caps g tt te) (zM i)):=by
 exists ?_;intro pins s σ H D0 I h;rw[exec_Assign_Name_used _ _ _ _ hsw];refine zwb (wpAny_standAt (zwb ?_));show wpAny _ X.A (do let _ <- comprehension (.ListComp elt [⟨tg,iter,ifs,0⟩] sc pos) sc X.env _ (newList []) false (eval iter X.env) (some (assign (.Name x pos') X.env))) _ _ s
 refine zwb (wpAny_mono (wpAny_comprehension_free (use:=some (assign (.Name x pos') X.env)) (Q:=fun _ s'=>SP X pins D0 .next s') rfl hs B.clos B.kind B.loc
  (thn (hi pins s σ H _ I h) fun v s1 h1=>thn h1 fun itv s2 h2=>?_)) (fun _ s' hq=>zwp (zwp hq)) fun _ _ e=>e)
 obtain⟨it,fp,tn,J,H2,e,I2,T,st2,f2,q⟩:=h2;subst e;refine zbp (Q:=fun v H1=>zM i v σ H1 D0.nx) (RR:=fun acc C=>compPost (model X.prog X.w) X.A X.xe (some (assign (.Name x pos') X.env)) (fun _ s'=>SP X pins D0 .next s') acc C) hc B go how hcap hlen hb I2 T st2 f2 q ?_;intro D C σ' H' s' J' qq;have I':=uP I2 f2 J';obtain⟨m,hn,_⟩:=J'.loc;have hC:s2.heap.objs.size<=C:=J'.ok.above;show wpAny _ X.A (assign (.Name x pos') X.env (.ref D)) _ _ s';refine wpAny_assign_Name (qo (v:=.ref D) I' hN hix hx rfl (fun s'' I'' ⟨a,sb,ha⟩=>?_) hf);have haC:C≠a:=by
  rintro rfl;rcases ha with z|z
  ·have:=I2.lt
   rw[<- z] at this;exact absurd (lt_of_lt_of_le this hC) (lt_irrefl _)
  ·obtain⟨v,hv⟩:=I2.cell x C z
   exact absurd (lt_of_lt_of_le hv.lt hC) (lt_irrefl _)
 have hCH:H' C=none:=J'.free;exists m,hn.sameBut sb haC,fun h' hs'=>⟨_,H',?_,qq⟩;refine I''.turned (it:=C) (t':=s''.toks) (fun b o hb e=>(hs'.2 b hb).trans e) hCH ?_ (.inr (le_trans I2.sz hC)) (fun x c h z=>?_) fun p hp z=>?_
 ·intro z
  have:=I2.lt
  rw[<- z] at this;exact absurd (lt_of_lt_of_le this hC) (lt_irrefl _)
 ·obtain⟨v,hv⟩:=I2.cell x c h
  have:=hv.lt
  rw[z] at this;exact absurd (lt_of_lt_of_le this hC) (lt_irrefl _)
 ·have:=I2.pin_lt hp
  rw[z] at this;exact absurd (lt_of_lt_of_le this hC) (lt_irrefl _)
def Its(z:Str):It:=⟨fun i _=>i<z.cps.size,fun i H x H'=>H'=H/\∃c,z.cps[i]?=some c/\x=.str ⟨#[c]⟩,fun i _=>z.cps.size<=i⟩
theorem zd5{P:Program}{w:World}{K:Frag}{tg:Expr}(it:Addr)(z:Str)(t:Tok):qg P w K tg (Its z) [it] it (fun i h=>h.IsStrIter it (strIterType z) z t i) where
 mem:=by simp
 obj:=fun i h st b hb=>by
  have e:b=it:=by simpa using hb
  subst e;obtain⟨o,e,_,d⟩:=st;exact⟨o,e,fun v q=>by rw[d] at q;cases q⟩
 keep:=fun i h h' st k=>by
  obtain⟨o,e,r⟩:=st;exact⟨o,k it (by simp) o e,r⟩
 item:=by
  intro X hP hw hK hc i pins s σ H E I hf st hg;subst hP hw hK;obtain⟨f0,f1,f2,f3,f4,f5⟩:=hf it (by simp)
  have hi:i<z.cps.size:=hg;have hx:z.cps[i]?=some z.cps[i]:=by simp [hi]
  have fin:∀h',h'.IsStrIter it (strIterType z) z t (i+1)->Heap.SameBut it s.heap h'->
    ∃u,some (Value.str ⟨#[z.cps[i]]⟩ s.toks)=some u/\wpAny (model X.prog X.w) X.A (letOwnedTupleGo tg (.ref it) u) (fun _ s2=>∃x H',Inv X pins σ H' s2/\ya x u/\(Its z).yld i H x H'/\s2.heap.IsStrIter it (strIterType z) z t (i+1)/\∀b∈[it],H' b=none) E { s with heap:=h',toks:=s.toks+1 }:=fun h' hit hs=>by
   have I1:Inv X pins σ H { s with heap:=h',toks:=s.toks+1 }:=I.turned (fun b o hb e=>(hs.2 b hb).trans e) f0 f1 f3 f4 f5
   obtain⟨o,e1,e2,e3⟩:=id hit;exists _,rfl,zc5 (s:={ s with heap:=h',toks:=s.toks+1 }) e1 e2 e3 ?_ ⟨.str ⟨#[z.cps[i]]⟩,H,I1,⟨_,rfl⟩,⟨rfl,_,hx,rfl⟩,hit,fun b hb=>(hf b hb).1⟩
   unfold strIterType;split <;> decide
  cases ha:z.cps.all (·<128)
  ·have e:strIterType z="str_iterator":=by simp [strIterType,ha]
   rw[e] at st;exact wpAny_pyNext_wide_item st hx fun h' a b=>fin h' (e.symm ▸ a) b
  ·have e:strIterType z="str_ascii_iterator":=by simp [strIterType,ha]
   rw[e] at st;exact wpAny_pyNext_ascii_item st hx fun h' a b=>fin h' (e.symm ▸ a) b
 done:=by
  intro X hP hw hK hc i pins s σ H E I hf st hg;subst hP hw hK;obtain⟨f0,f1,f2,f3,f4,f5⟩:=hf it (by simp)
  have hi:z.cps.size<=i:=hg;have hx:z.cps[i]?=none:=by simp [hi]
  have fin:∀h',Heap.ExtBut it s.heap h'->(none:Option Value)=none/\Inv X pins σ H { s with heap:=h' }:=fun h' eb=>⟨rfl,I.turned (t':=s.toks) (fun b o hb e=>eb b o hb e) f0 f1 f3 f4 f5⟩
  cases ha:z.cps.all (·<128)
  ·have e:strIterType z="str_iterator":=by simp [strIterType,ha]
   rw[e] at st;exact wpAny_pyNext_wide_end (I.ok.hd hc) st hx fin
  ·have e:strIterType z="str_ascii_iterator":=by simp [strIterType,ha]
   rw[e] at st;exact wpAny_pyNext_ascii_end (I.ok.hd hc) st hx fin
 self:=fun A i s Q E st h=>by
  cases ha:z.cps.all (·<128)
  ·have e:strIterType z="str_iterator":=by simp [strIterType,ha]
   rw[e] at st;exact wpAny_pyIter_striter_wide st h
  ·have e:strIterType z="str_ascii_iterator":=by simp [strIterType,ha]
   rw[e] at st;exact wpAny_pyIter_striter_ascii st h
def zk1(tl:TE):TI:=fun σ H R=>tl σ H fun x H1=>∃z,x=.str z/\R (Its z) H1
theorem zeX{l:Expr}{tl:TE}(hl:PE X l tl):PI X tg l (zk1 tl):=by
 exists ?_;intro pins s σ H R I h;refine thn (hl pins s σ H _ I h) fun v s1 ⟨x,H1,I1,r1,q1⟩=>?_;obtain⟨z,e,q⟩:=q1;subst e;obtain⟨t,rfl⟩:=r1;refine wpAny_pyIter_strU ?_;exists s1.heap.objs.size,[s1.heap.objs.size],_,_,H1,rfl,I1.kept (t':=s1.toks) fun b o e=>zgp _ e,zd5 _ z t,⟨_,zgs _ rfl,rfl,rfl⟩,fun b hb=>?_,q;have e:b=s1.heap.objs.size:=by simpa using hb
 subst e;exact I1.fpOk (le_refl _) (I1.hok.fresh (le_refl _))
inductive zkDJ(x:V)(lo:Option Int)(hi:Option Int)(H:Hp)(Q:VK):Prop|mk(z:_):x=.str z->z.length<=sizeLine->(Q (.str (Txt.slice z lo hi)) H)->zkDJ x lo hi H Q
def zkD:V->Option Int->Option Int->Hp->VK->Prop:=fun x lo hi H Q=>zkDJ x lo hi H Q
theorem zh7:SlR X zkD:=by
 intro pins s σ H x v vl vu lo hi sl Q I rx hs pl pu h;obtain⟨z,rfl,hz,q⟩:=h;obtain⟨t,rfl⟩:=rx;exists "str",_,F.slot_str_getitem.lookup,typeIs_str _ _ _,?_;have fin:∀t' k,EP X pins σ Q (.str (Txt.slice z lo hi) t') { s with toks:=k }:=fun t' k=>⟨.str (Txt.slice z lo hi),H,I.tok k,⟨t',rfl⟩,q⟩
 cases pl with
 | none=>
  cases pu with
  | none=>exact wpAny_getItem_str_slice (l:=none) (u:=none) (st:=none) hs rfl (post_val_or_str ⟨le_trans (Txt.slice_le z _ _) hz,fin⟩)
  | int j tj=>exact wpAny_getItem_str_slice (l:=none) (u:=some (j,tj)) (st:=none) hs rfl (post_val_or_str ⟨le_trans (Txt.slice_le z _ _) hz,fin⟩)
 | int i ti=>
  cases pu with
  | none=>exact wpAny_getItem_str_slice (l:=some (i,ti)) (u:=none) (st:=none) hs rfl (post_val_or_str ⟨le_trans (Txt.slice_le z _ _) hz,fin⟩)
  | int j tj=>exact wpAny_getItem_str_slice (l:=some (i,ti)) (u:=some (j,tj)) (st:=none) hs rfl (post_val_or_str ⟨le_trans (Txt.slice_le z _ _) hz,fin⟩)
theorem zd2(hc:X.calm=true):xC X (.builtin "all") (fun xs H Q=>∃(p:Addr) (bs:List Bool),xs=[.ref p]/\SqL X.K H p (bs.map V.bl)/\Q (.bl (bs.all id)) H):=by
 intro pins s σ H xs us Q I r h;obtain⟨p,bs,rfl,hS,q⟩:=h;obtain⟨u,rfl,ru⟩:=wG r;cases ru;obtain⟨its,rv,hp,hz⟩:=I.list hS;have hlen:its.length=bs.length:=by rw[<- rv.length,length_map]
 have hne:p≠s.heap.objs.size:=ne_of_lt (by obtain⟨_,e,_⟩:=hp.isList;exact Heap.lt_size e)
 refine call_all_walk (wpAny_pyIter_list hp.isList ?_);exists s.heap.objs.size,_,_,_,_,_,fun i=>bs.getD i false,rfl,Walks.list (A:=X.A.in1) (I.ok.hd hc) s.heap.objs.size p hne its.toArray,⟨⟨_,zgs _ rfl,rfl,rfl⟩,hp.isList.push _⟩,?_,fun h' tk k=>?_
 ·intro i v s' Q' E' hP hQ
  have hv:its[i]?=some v:=by simpa using hP
  have hi:i<bs.length:=by rw[<- hlen];exact(List.getElem?_eq_some_iff.mp hv).1
  obtain⟨u',e1,e2⟩:=rv.get (i:=i) (x:=V.bl bs[i]) (by rw[getElem?_map,getElem?_eq_getElem hi];rfl)
  rw[hv] at e1;cases e1;cases e2;refine wpAny_truthy_bool ?_
  have:bs.getD i false=bs[i]:=by rw[getD_eq_getElem?_getD,getElem?_eq_getElem hi];rfl
  rw[<- this];exact hQ
 ·have e:((List.range its.toArray.size).all fun i=>bs.getD i false)=bs.all id:=by
   rw[size_toArray,hlen,Bool.eq_iff_iff,all_eq_true,all_eq_true];constructor
   ·intro hh b hb
    obtain⟨i,hi,rfl⟩:=List.getElem_of_mem hb
    have:=hh i (List.mem_range.mpr hi)
    rw[getD_eq_getElem?_getD,getElem?_eq_getElem hi] at this;exact this
   ·intro hh i hi
    have hi':=List.mem_range.mp hi;rw[getD_eq_getElem?_getD,getElem?_eq_getElem hi'];exact hh _ (getElem_mem hi')
  rw[e];exact⟨.bl (bs.all id),H,I.kept (h':=h') (t':=tk) (fun b o q=>k b o (fun hm=>by
   have e:b=s.heap.objs.size:=by simpa using hm
   exact absurd (Heap.lt_size q) (by rw[e];exact lt_irrefl _)) (zgp _ q)),rfl,q⟩
theorem vp:xC X (.builtin "isinstance") (fun xs H Q=>∃x T t b,xs=[x,.ty T]/\wP X.K H x t/\kitOne X.K t (.type T)=some b/\Q (.bl b) H):=by
 intro pins s σ H xs us Q I r h;obtain⟨x,T,t,b,rfl,ty,e,q⟩:=h;obtain⟨u,w',rfl,ru,rw'⟩:=zhz r;cases rw';exact qF I ru ty e fun tk=>⟨.bl b,H,I.tok tk,rfl,q⟩
theorem zaD:xC X (.builtin "isinstance") (fun xs H Q=>∃x C t b,xs=[x,.ref C]/\wP X.K H x t/\kitOne X.K t (.ref C)=some b/\Q (.bl b) H):=by
 intro pins s σ H xs us Q I r h;obtain⟨x,T,t,b,rfl,ty,e,q⟩:=h;obtain⟨u,w',rfl,ru,rw'⟩:=zhz r;cases rw';exact qF I ru ty e fun tk=>⟨.bl b,H,I.tok tk,rfl,q⟩
def vO:Expr->Bool
 | .Starred ..=>true
 | _=>false
theorem xf{e:Expr}{es:List Expr}{env:Env}(h:vO e=false):starEach (e::es) env=(false,eval e env)::starEach es env:=by
 cases e <;> first|rfl|cases h
theorem x8{env:Env}{pos:Pos}:∀{es:List Expr},es.any vO=false->(backTo pos (starEach es env)).any (·.1)=false
 | [],_=>rfl
 | e::es,h=>by
  rw[any_cons,Bool.or_eq_false_iff] at h;rw[xf h.1];show(false||(backTo pos (starEach es env)).any (·.1))=false
  rw[x8 h.2];rfl
end
section
variable {X:Cx}{CX:CXT}{k:Nat}{f C:Addr}{fd:FuncData}{ps:List Str}{sp:Sp}{dvs:List V}{ds:List Value}{E:XK}{x m:Str}{p pos apos:Pos}{e o:Expr}{es:List Expr}{te ta:TE}{t:TA}{id T:String}{r:List V->Hp->VK->Prop}
theorem ac(ha:PE X e te)(hr:PA X es t)(h:vO e=false:=by rfl):PA X (e::es) (zaK te t):=zgC ha hr (xf h)
theorem cB(hc:xC X (.builtin id) r)(hm:X.mg x=none)(hv:bootBuiltins x=some (.builtin id))(ha:PA X (e::es) t)(hg:Gl X x:=by rfl)(hn:x≠"__name__":=by decide)(hdb:(x==("__debug__" : Str))=false:=by decide)
  (h1:vO e=false:=by rfl) (h2:es.any vO=false:=by rfl):PE X (.Call (.Name x p) (e::es) [] pos) (tCB r t):=ze3 hc hg hm hv ha hn hdb (xf h1) (x8 h2)
theorem cTy(hc:xC X (.type T) r)(hm:X.mg x=none)(hv:bootBuiltins x=some (.type T))(ha:PA X (e::es) t)(hg:Gl X x:=by rfl)(hn:x≠"__name__":=by decide)(hdb:(x==("__debug__" : Str))=false:=by decide)
  (h1:vO e=false:=by rfl) (h2:es.any vO=false:=by rfl):PE X (.Call (.Name x p) (e::es) [] pos) (tCB r t):=zdA hc hg hm hv ha hn hdb (xf h1) (x8 h2)
structure zE(P:Program)(w:World)(K:Frag)(mg:Str->Option Value)(base:Heap)(k:Nat)(x:Str)(f:Addr)(fd:FuncData)(ps:List Str)(sp:Sp):Prop where
 ok:zA P w K mg base CX0 k f fd ps sp
 mg:mg x=some (.ref f)
 kp:keepIn K (.ref f)=true
 bd:z8 K fd ps []
theorem cF(c:zE X.prog X.w X.K X.mg X.base k x f fd ps sp)(hr:yj k X.A)(ha:PA X (e::es) t)(hg:Gl X x:=by rfl)(hdb:(x==("__debug__" : Str))=false:=by decide)
  (h1:vO e=false:=by rfl) (h2:es.any vO=false:=by rfl):PE X (.Call (.Name x p) (e::es) [] pos) (zcA sp [] E0 t):=
 zcU c.ok hr hg c.mg c.kp c.bd .nil yo ha hdb (xf h1) (x8 h2)
end
end L2
namespace L2
open PySem PyProof.Rows
theorem u7(K:Frag):kitOne K (.type "NoneType") (.type "str")=some false:=by kernel_rfl
theorem zcf(K:Frag):kitOne K (.type "int") (.type "str")=some false:=by kernel_rfl
theorem zbb(K:Frag):kitOne K (.type "int") (.type "list")=some false:=by kernel_rfl
theorem zbd(K:Frag):kitOne K (.type "bool") (.type "str")=some false:=by kernel_rfl
theorem zaw(K:Frag):kitOne K (.type "bool") (.type "bool")=some true:=by kernel_rfl
theorem zce(K:Frag):kitOne K (.type "str") (.type "str")=some true:=by kernel_rfl
theorem za9(K:Frag):kitOne K (.type "str") (.type "list")=some false:=by kernel_rfl
theorem zba(K:Frag):kitOne K (.type "list") (.type "str")=some false:=by kernel_rfl
theorem wX(K:Frag):kitOne K (.type "list") (.type "list")=some true:=by kernel_rfl
theorem zav(K:Frag):kitOne K (.type "tuple") (.type "str")=some false:=by kernel_rfl
theorem zbc(K:Frag):kitOne K (.type "dict") (.type "str")=some false:=by kernel_rfl
end L2
namespace L2
open PySem PySem.Spec PyProof.Rows
inductive Dt where
 | non|bl (b:Bool)|int (i:Int)|str (z:Str)|tup (ds:List Dt)|lst (ds:List Dt)
def uY:V->Dt->Prop
 | .non,.non=>True
 | .bl a,.bl b=>a=b
 | .int a,.int b=>a=b
 | .str a,.str b=>a=b
 | _,_=>False
def zz(K:Frag)(ok:Addr->Prop)(H:Hp):Nat->V->Dt->Prop
 | 0,x,d=>uY x d
 | n+1,x,d=>uY x d\/(∃a xs ds,x=.ref a/\d=.tup ds/\SqT K H a xs/\Paired (zz K ok H n) xs ds)\/(∃a xs ds,x=.ref a/\d=.lst ds/\ok a/\H a=some (.lst xs)/\Paired (zz K ok H n) xs ds)
section
variable {K:Frag}{ok ok':Addr->Prop}{H H':Hp}
theorem zz.flat{n:Nat}{x:V}{d:Dt}(h:uY x d):zz K ok H n x d:=by
 cases n with
 | zero=>exact h
 | succ n=>exact .inl h
theorem zz.int{n:Nat}{i:Int}:zz K ok H n (.int i) (.int i):=.flat rfl
theorem zz.str{n:Nat}{z:Str}:zz K ok H n (.str z) (.str z):=.flat rfl
theorem zz.tup{n:Nat}{a:Addr}{xs:List V}{ds:List Dt}(h:SqT K H a xs)(r:Paired (zz K ok H n) xs ds):zz K ok H (n+1) (.ref a) (.tup ds):=.inr (.inl ⟨a,xs,ds,rfl,rfl,h,r⟩)
theorem zz.lst{n:Nat}{a:Addr}{xs:List V}{ds:List Dt}(o:ok a)(h:H a=some (.lst xs))(r:Paired (zz K ok H n) xs ds):zz K ok H (n+1) (.ref a) (.lst ds):=.inr (.inr ⟨a,xs,ds,rfl,rfl,o,h,r⟩)
theorem zz.frame(hT:∀a xs,SqT K H a xs->SqT K H' a xs)(hL:∀a xs,ok a->H a=some (.lst xs)->ok' a/\H' a=some (.lst xs)):∀{n:Nat}{x:V}{d:Dt},zz K ok H n x d->zz K ok' H' n x d
 | 0,_,_,h=>h
 | n+1,x,d,h=>by
  rcases h with h|⟨a,xs,ds,e1,e2,h,r⟩|⟨a,xs,ds,e1,e2,o,h,r⟩
  ·exact .inl h
  ·exact .inr (.inl ⟨a,xs,ds,e1,e2,hT a xs h,zm (fun _ _ z=>zz.frame hT hL z) r⟩)
  ·exact .inr (.inr ⟨a,xs,ds,e1,e2,(hL a xs o h).1,(hL a xs o h).2,zm (fun _ _ z=>zz.frame hT hL z) r⟩)
theorem zz.up:∀{n:Nat}{x:V}{d:Dt},zz K ok H n x d->zz K ok H (n+1) x d
 | 0,_,_,h=>.inl h
 | n+1,x,d,h=>by
  rcases h with h|⟨a,xs,ds,e1,e2,h,r⟩|⟨a,xs,ds,e1,e2,o,h,r⟩
  ·exact .inl h
  ·exact .inr (.inl ⟨a,xs,ds,e1,e2,h,zm (fun _ _ z=>zz.up z) r⟩)
  ·exact .inr (.inr ⟨a,xs,ds,e1,e2,o,h,zm (fun _ _ z=>zz.up z) r⟩)
theorem zq.sqT{a:Addr}{xs:List V}(e:zq H H')(h:SqT K H a xs):SqT K H' a xs:=by
 rcases h with (h|⟨o,h⟩)|h
 ·exact .inl (.inl (e _ _ h))
 ·exact .inl (.inr ⟨o,e _ _ h⟩)
 ·exact .inr h
theorem zz.same{n:Nat}{x:V}{d:Dt}(e:zq H H')(h:zz K ok H n x d):zz K ok H' n x d:=h.frame (fun _ _ z=>e.sqT z) fun _ _ o z=>⟨o,e _ _ z⟩
theorem Paired.get{α β : Type}{F : α->β->Prop}:∀{l₁:List α}{l₂:List β}{i:Nat}{a : α},Paired F l₁ l₂->l₁[i]?=some a->∃b,l₂[i]?=some b/\F a b
 | _,_,_,_,.nil,e=>by simp at e
 | _,_,0,_,.cons r _,e=>by simp at e;subst e;exact⟨_,rfl,r⟩
 | _,_,i+1,a,.cons _ t,e=>by
  obtain⟨b,h1,h2⟩:=Paired.get (i:=i) (a:=a) t (by simpa using e)
  exact⟨b,by simpa using h1,h2⟩
variable {X:Cx}{pins:PnL}{σ:St}{s:Shared}
theorem qK{A:Around}{x y:V}{d:Dt}{u v:Value}(hx:uY x d)(hy:uY y d)(ru:ya x u)(rv:ya y v):SeqAt.EqAt A s u v true:=by
 cases d with
 | non=>
  cases x <;> try exact hx.elim
  cases y <;> try exact hy.elim
  cases ru;cases rv;exact SeqAt.EqAt.same _
 | bl b=>
  cases x <;> try exact hx.elim
  cases y <;> try exact hy.elim
  rename_i a c;obtain rfl:a=b:=hx;obtain rfl:c=a:=hy;cases ru;cases rv;exact SeqAt.EqAt.same _
 | int b=>
  cases x <;> try exact hx.elim
  cases y <;> try exact hy.elim
  rename_i a c;obtain rfl:a=b:=hx;obtain rfl:c=a:=hy;obtain⟨t,rfl⟩:=ru;obtain⟨t',rfl⟩:=rv
  have:=SeqAt.EqAt.int_int (A:=A) (s:=s) c t c t'
  simpa using this
 | str b=>
  cases x <;> try exact hx.elim
  cases y <;> try exact hy.elim
  rename_i a c;obtain rfl:a=b:=hx;obtain rfl:c=a:=hy;obtain⟨t,rfl⟩:=ru;obtain⟨t',rfl⟩:=rv
  have:=SeqAt.EqAt.str_str (A:=A) (s:=s) c t c t'
  simpa using this
 | tup ds=>cases x <;> exact hx.elim
 | lst ds=>cases x <;> exact hx.elim
theorem jV{a:Addr}{d:Dt}(h:uY (.ref a) d):False:=by cases d <;> exact h
theorem uA(n:Nat):((List.range n).all fun _=>true)=true:=by rw[all_eq_true];intro _ _;rfl
theorem vJ(I:Inv X pins σ H s):∀(n:Nat) {A:Around}{x y:V}{d:Dt}{u v:Value},zz X.K ok H n x d->zz X.K ok' H n y d->ya x u->ya y v->A.units+n<cLine->SeqAt.EqAt A s u v true
 | 0,A,x,y,d,u,v,hx,hy,ru,rv,_=>qK hx hy ru rv
 | n+1,A,x,y,d,u,v,hx,hy,ru,rv,hu=>by
  have hin:A.in1.units+n<cLine:=by show A.units+1+n<cLine;omega
  rcases hx with hx|⟨a,xs,ds,rfl,rfl,hx,r⟩|⟨a,xs,ds,rfl,rfl,_,hx,r⟩
  ·rcases hy with hy|⟨b,ys,es,rfl,rfl,hy,q⟩|⟨b,ys,es,rfl,rfl,_,hy,q⟩
   ·exact qK hx hy ru rv
   ·cases x <;> exact hx.elim
   ·cases x <;> exact hx.elim
  ·rcases hy with hy|⟨b,ys,es,rfl,e2,hy,q⟩|⟨b,ys,es,rfl,e2,_,hy,q⟩
   ·cases y <;> exact hy.elim
   ·cases e2
    cases ru;cases rv;by_cases hab:a=b
    ·subst hab;exact SeqAt.EqAt.same _
    ·obtain⟨ia,va,pa,_⟩:=I.tuple hx
     obtain⟨ib,vb,pb,_⟩:=I.tuple hy;have la:ia.length=ds.length:=by rw[<- va.length,r.length]
     have lb:ib.length=ds.length:=by rw[<- vb.length,q.length]
     have:=SeqAt.RcAt.tuples (A:=A) (s:=s) (e:=fun _=>true) (show s.heap.IsTuple a ia.toArray from pa) (show s.heap.IsTuple b ib.toArray from pb) (by omega) (fun j h1 h2=>by
      have j1:j<ia.length:=by simpa using h1
      have j2:j<ib.length:=by simpa using h2
      have hxl:j<xs.length:=by rw[va.length];exact j1
      have hyl:j<ys.length:=by rw[vb.length];exact j2
      obtain⟨u',e1,e2⟩:=va.get (i:=j) (getElem?_eq_getElem hxl);obtain⟨v',e3,e4⟩:=vb.get (i:=j) (getElem?_eq_getElem hyl);obtain⟨d1,f1,f2⟩:=Paired.get r (getElem?_eq_getElem hxl);obtain⟨d2,f3,f4⟩:=Paired.get q (getElem?_eq_getElem hyl);rw[f1] at f3;cases f3;rw[getElem?_eq_getElem j1] at e1;rw[getElem?_eq_getElem j2] at e3;cases e1;cases e3;simpa using vJ I n f2 f4 e2 e4 hin)
     rw[uA] at this;have z:(ia.toArray.size==ib.toArray.size)=true:=by simp [la,lb]
     rw[z] at this;exact SeqAt.EqAt.of_refs hab this
   ·cases e2
  ·rcases hy with hy|⟨b,ys,es,rfl,e2,hy,q⟩|⟨b,ys,es,rfl,e2,_,hy,q⟩
   ·cases y <;> exact hy.elim
   ·cases e2
   ·cases e2
    cases ru;cases rv;by_cases hab:a=b
    ·subst hab;exact SeqAt.EqAt.same _
    ·obtain⟨ia,va,pa,_⟩:=I.list (zh hx)
     obtain⟨ib,vb,pb,_⟩:=I.list (zh hy);have la:ia.length=ds.length:=by rw[<- va.length,r.length]
     have lb:ib.length=ds.length:=by rw[<- vb.length,q.length]
     have:=SeqAt.RcAt.lists (A:=A) (s:=s) (e:=fun _=>true) pa.isList pb.isList (by simp [la,lb]) (by omega) (fun j h1 h2=>by
      have j1:j<ia.length:=by simpa using h1
      have j2:j<ib.length:=by simpa using h2
      have hxl:j<xs.length:=by rw[va.length];exact j1
      have hyl:j<ys.length:=by rw[vb.length];exact j2
      obtain⟨u',e1,e2⟩:=va.get (i:=j) (getElem?_eq_getElem hxl);obtain⟨v',e3,e4⟩:=vb.get (i:=j) (getElem?_eq_getElem hyl);obtain⟨d1,f1,f2⟩:=Paired.get r (getElem?_eq_getElem hxl);obtain⟨d2,f3,f4⟩:=Paired.get q (getElem?_eq_getElem hyl);rw[f1] at f3;cases f3;rw[getElem?_eq_getElem j1] at e1;rw[getElem?_eq_getElem j2] at e3;cases e1;cases e3;simpa using vJ I n f2 f4 e2 e4 hin)
     rw[uA] at this;exact SeqAt.EqAt.of_refs hab this
theorem zcN(I:Inv X pins σ H s){n:Nat}{A:Around}{a b:Addr}{d:Dt}(hx:zz X.K ok H (n+1) (.ref a) d)(hy:zz X.K ok' H (n+1) (.ref b) d)(hu:A.units+n+1<cLine):
  SeqAt.RcAt A s (.ref a) (.ref b) true/\SeqAt.RcNeAt A s (.ref a) (.ref b) false:=by
 have hin:A.in1.units+n<cLine:=by show A.units+1+n<cLine;omega
 rcases hx with hx|⟨a,xs,ds,e0,rfl,hx,r⟩|⟨a,xs,ds,e0,rfl,_,hx,r⟩
 ·exact(jV hx).elim
 ·cases e0
  rcases hy with hy|⟨b,ys,es,e1,e2,hy,q⟩|⟨b,ys,es,e1,e2,_,hy,q⟩
  ·exact(jV hy).elim
  ·cases e1;cases e2
   obtain⟨ia,va,pa,_⟩:=I.tuple hx;obtain⟨ib,vb,pb,_⟩:=I.tuple hy;have la:ia.length=ds.length:=by rw[<- va.length,r.length]
   have lb:ib.length=ds.length:=by rw[<- vb.length,q.length]
   have el:∀j (h1:j<ia.toArray.size) (h2:j<ib.toArray.size),SeqAt.EqAt A.in1 s ia.toArray[j] ib.toArray[j] true:=fun j h1 h2=>by
    have j1:j<ia.length:=by simpa using h1
    have j2:j<ib.length:=by simpa using h2
    have hxl:j<xs.length:=by rw[va.length];exact j1
    have hyl:j<ys.length:=by rw[vb.length];exact j2
    obtain⟨u',e1,e2⟩:=va.get (i:=j) (getElem?_eq_getElem hxl);obtain⟨v',e3,e4⟩:=vb.get (i:=j) (getElem?_eq_getElem hyl);obtain⟨d1,f1,f2⟩:=Paired.get r (getElem?_eq_getElem hxl);obtain⟨d2,f3,f4⟩:=Paired.get q (getElem?_eq_getElem hyl);rw[f1] at f3;cases f3;rw[getElem?_eq_getElem j1] at e1;rw[getElem?_eq_getElem j2] at e3;cases e1;cases e3;simpa using vJ I n f2 f4 e2 e4 hin
   have z:(ia.toArray.size==ib.toArray.size)=true:=by simp [la,lb]
   have t1:=SeqAt.RcAt.tuples (A:=A) (s:=s) (e:=fun _=>true) (show s.heap.IsTuple a ia.toArray from pa) (show s.heap.IsTuple b ib.toArray from pb) (by omega) el
   have t2:=SeqAt.RcNeAt.tuples (A:=A) (s:=s) (e:=fun _=>true) (show s.heap.IsTuple a ia.toArray from pa) (show s.heap.IsTuple b ib.toArray from pb) (by omega) el
   rw[uA,z] at t1 t2;exact⟨t1,t2⟩
  ·cases e1;cases e2
 ·cases e0
  rcases hy with hy|⟨b,ys,es,e1,e2,hy,q⟩|⟨b,ys,es,e1,e2,_,hy,q⟩
  ·exact(jV hy).elim
  ·cases e1;cases e2
  ·cases e1;cases e2
   obtain⟨ia,va,pa,_⟩:=I.list (zh hx);obtain⟨ib,vb,pb,_⟩:=I.list (zh hy);have la:ia.length=ds.length:=by rw[<- va.length,r.length]
   have lb:ib.length=ds.length:=by rw[<- vb.length,q.length]
   have el:∀j (h1:j<ia.toArray.size) (h2:j<ib.toArray.size),SeqAt.EqAt A.in1 s ia.toArray[j] ib.toArray[j] true:=fun j h1 h2=>by
    have j1:j<ia.length:=by simpa using h1
    have j2:j<ib.length:=by simpa using h2
    have hxl:j<xs.length:=by rw[va.length];exact j1
    have hyl:j<ys.length:=by rw[vb.length];exact j2
    obtain⟨u',e1,e2⟩:=va.get (i:=j) (getElem?_eq_getElem hxl);obtain⟨v',e3,e4⟩:=vb.get (i:=j) (getElem?_eq_getElem hyl);obtain⟨d1,f1,f2⟩:=Paired.get r (getElem?_eq_getElem hxl);obtain⟨d2,f3,f4⟩:=Paired.get q (getElem?_eq_getElem hyl);rw[f1] at f3;cases f3;rw[getElem?_eq_getElem j1] at e1;rw[getElem?_eq_getElem j2] at e3;cases e1;cases e3;simpa using vJ I n f2 f4 e2 e4 hin
   have t1:=SeqAt.RcAt.lists (A:=A) (s:=s) (e:=fun _=>true) pa.isList pb.isList (by simp [la,lb]) (by omega) el
   have t2:=SeqAt.RcNeAt.lists (A:=A) (s:=s) (e:=fun _=>true) pa.isList pb.isList (by simp [la,lb]) (by omega) el
   rw[uA] at t1 t2;exact⟨t1,t2⟩
inductive zhNJ(K:Frag)(b:Bool)(x:V)(y:V)(H:Hp)(Q:VK):Prop|mk(a c:Addr)(n:Nat)(d:Dt)(ok ok':Addr->Prop):x=.ref a->y=.ref c->n<=20->zz K ok H (n+1) x d->zz K ok' H (n+1) y d->(Q (.bl b) H)->zhNJ K b x y H Q
def zhN(K:Frag)(b:Bool):R2:=fun x y H Q=>zhNJ K b x y H Q
theorem zat(hu:X.A.units+64<cLine):OpR X (compareOp .Eq) (zhN X.K true):=by
 intro pins s σ H x y v u Q I rx ry h;obtain⟨a,c,n,d,ok,ok',rfl,rfl,hn,hx,hy,q⟩:=h;cases rx;cases ry;exact(zcN (A:=X.A) I hx hy (by omega)).1 X.prog X.w X.xe _ ⟨.bl true,H,I,rfl,q⟩
theorem ziI(hu:X.A.units+64<cLine):OpR X (compareOp .NotEq) (zhN X.K false):=by
 intro pins s σ H x y v u Q I rx ry h;obtain⟨a,c,n,d,ok,ok',rfl,rfl,hn,hx,hy,q⟩:=h;cases rx;cases ry;exact(zcN (A:=X.A) I hx hy (by omega)).2 X.prog X.w X.xe _ ⟨.bl false,H,I,rfl,q⟩
def Ite(K:Frag)(a:Addr):It:=
 ⟨fun i H=>∃xs x,SqL K H a xs/\xs[i]?=some x,fun i H x H'=>∃(p:Addr) (y:V),x=.ref p/\H p=none/\(∀xs,SqL K H a xs->xs[i]?=some y)/\H'=upd H p (.tup [.int i,y]),fun i H=>∃xs,SqL K H a xs/\xs.length<=i⟩
theorem zdp{P:Program}{w:World}{K:Frag}{elts:List Expr}{x1:Nat}{tpos:Pos}(a e it:Addr)(hne:e≠it):
  qg P w K (.Tuple elts x1 tpos) (Ite K a) [e,it] e (fun i h=>(∃old,IsEnum h e it (i:Int) old)/\h.IsListIter it a i) where
 mem:=by simp
 obj:=fun i h st b hb=>by
  rcases List.mem_cons.mp hb with rfl|hb
  ·obtain⟨⟨old,he⟩,_⟩:=st
   exact⟨_,he,fun v q=>by cases q⟩
  ·have e':b=it:=by simpa using hb
   subst e';obtain⟨_,o,ho,_,hd⟩:=st;exact⟨o,ho,fun v q=>by rw[hd] at q;cases q⟩
 keep:=fun i h h' st k=>by
  obtain⟨⟨old,he⟩,o,ho,r⟩:=st;exact⟨⟨old,k e (by simp) _ he⟩,o,k it (by simp) o ho,r⟩
 item:=by
  intro X hP hw hK hc i pins s σ H E I hf st hg;subst hP hw hK;obtain⟨f0,f1,f2,f3,f4,f5⟩:=hf e (by simp)
  obtain⟨g0,g1,g2,g3,g4,g5⟩:=hf it (by simp)
  obtain⟨⟨old,he⟩,hit⟩:=st;obtain⟨xs,x,hS,hx⟩:=hg;obtain⟨its,rv,hp,hz⟩:=I.list hS;obtain⟨u,hu,ru⟩:=rv.get hx;refine wpAny_pyNext_enum_item he hit hp.isList (x:=u) (by simpa using hu) hne fun h' he' hit' htup hsz hk=>?_
  have I0:Inv X pins σ H { s with heap:=h',toks:=s.toks+1 }:=by
   refine I.step (g':=s.gens) (d':=s.drawn) (ch:=[e,it]) (fun b hb=>?_) (fun b o _ _ hc' e1 _=>hk b o (fun z=>hc' (by simp [z])) (fun z=>hc' (by simp [z])) e1) (fun b o _ _ hc' e1 _=>⟨o.slots,hk b o (fun z=>hc' (by simp [z])) (fun z=>hc' (by simp [z])) e1⟩) (fun _ _ _ _ n=>n)
    (fun b o hc' e1=>⟨o,hk b o (fun z=>hc' (by simp [z])) (fun z=>hc' (by simp [z])) e1⟩) (fun _ _ e1=>e1) (fun _ _ _ e1=>e1) (fun b ps e1=>⟨#[],by rw[e1];simp⟩) (fun m hm=>?_) (fun b u' e1=>?_) I.bare
   ·rcases List.mem_cons.mp hb with rfl|hb
    ·exact⟨f3,f1,f4,f5⟩
    ·have e':b=it:=by simpa using hb
     subst e';exact⟨g3,g1,g4,g5⟩
   ·obtain⟨o,es,ep,ho,r⟩:=hm
    exact⟨o,es,ep,hk _ o (Ne.symm f1) (Ne.symm g1) ho,r⟩
   ·have nit:∀c v',H c=some v'->c≠e/\c≠it:=fun c v' q=>⟨fun z=>(by rw[z,f0] at q;cases q),fun z=>(by rw[z,g0] at q;cases q)⟩
    refine(I.hok b u' e1).stay (fun c v' hc' q=>?_) (fun _ q=>q) fun _ _ q=>q;rcases hc' with z|z
    ·subst z;exact hk c v' (nit c _ e1).1 (nit c _ e1).2 q
    ·exact hk c v' (nit c _ z).1 (nit c _ z).2 q
  have hfr:H s.heap.objs.size=none:=I.hok.fresh (le_refl _);have I1:Inv X pins σ (upd H s.heap.objs.size (.tup [.int i,x])) { s with heap:=h',toks:=s.toks+1 }:=by
   have hok:HOk X.prog X.w (upd H s.heap.objs.size (.tup [.int i,x])) h':=fun b o q=>by
    by_cases hb:b=s.heap.objs.size
    ·subst hb
     rw[za] at q;cases q;exact⟨by show 2<=sizeLine;decide,[.int i s.toks,u],.cons ⟨_,rfl⟩ (.cons ru .nil),⟨_,htup,rfl,_,rfl⟩⟩
    ·rw[zg hb] at q
     exact(I0.hok b o q).stay (fun _ _ _ z=>z) (fun c z=>by rw[zg (zi z hfr)];exact z) fun c xs' z=>by rw[zg (zi z hfr)];exact z
   refine I0.step (s:={ s with heap:=h',toks:=s.toks+1 }) (g':=s.gens) (d':=s.drawn) (h':=h') (t':=s.toks+1) (ch:=[s.heap.objs.size]) (fun b hb=>?_) (fun b o _ _ _ e1 _=>e1) (fun b o _ _ _ e1 _=>⟨o.slots,e1⟩) (fun b o hb e1 n=>by rw[zg (fun z=>hb (by simp [z]))];exact n)
    (fun b o _ e1=>⟨o,e1⟩) (fun b xs' e1=>by rw[zg (zi e1 hfr)];exact e1) (fun b o' u' e1=>by rw[zg (zi e1 hfr)];exact e1) (fun b ps e1=>⟨#[],by rw[zg (zi e1 hfr),e1];simp⟩) (fun m hm=>hm) hok I0.bare
   have e':b=s.heap.objs.size:=by simpa using hb
   subst e';exists .inr I.sz,fun z=>?_,fun y c h z=>?_,fun p hp' z=>?_
   ·have:=I.lt;rw[<- z] at this;exact absurd this (lt_irrefl _)
   ·obtain⟨v',hv⟩:=I.cell y c h
    have:=hv.lt;rw[z] at this;exact absurd this (lt_irrefl _)
   ·have:=I.pin_lt hp';rw[z] at this;exact absurd this (lt_irrefl _)
  exists _,rfl,wpAny_letOwnedTupleGo_enum he' fun h2 he2 hs2=>?_;have nes:s.heap.objs.size≠e:=fun z=>by
   have:=Heap.lt_size (show s.heap.get? e=some _ from he)
   rw[<- z] at this;exact absurd this (lt_irrefl _)
  have nis:s.heap.objs.size≠it:=fun z=>by
   obtain⟨o,ho,_⟩:=hit
   have:=Heap.lt_size ho
   rw[<- z] at this;exact absurd this (lt_irrefl _)
  have I2:Inv X pins σ (upd H s.heap.objs.size (.tup [.int i,x])) { s with heap:=h2,toks:=s.toks+1 }:=
   I1.turned (s:={ s with heap:=h',toks:=s.toks+1 }) (t':=s.toks+1) (it:=e) (fun b o hb q=>(hs2.2 b hb).trans q) (by rw[zg nes.symm];exact f0) f1 f3 f4 f5
  exists .ref s.heap.objs.size,_,I2,rfl,⟨_,x,rfl,hfr,fun xs' h'=>?_,rfl⟩,⟨⟨_,by simpa using he2⟩,?_⟩,fun b hb=>?_
  ·rw[I.list_inj h' hS];exact hx
  ·obtain⟨o,ho,r⟩:=hit'
   exact⟨o,(hs2.2 it (Ne.symm hne)).trans ho,r⟩
  ·rcases List.mem_cons.mp hb with rfl|hb
   ·rw[zg nes.symm];exact f0
   ·have e':b=it:=by simpa using hb
    subst e';rw[zg nis.symm];exact g0
 done:=by
  intro X hP hw hK hc i pins s σ H E I hf st hg;subst hP hw hK;obtain⟨⟨old,he⟩,hit⟩:=st;obtain⟨g0,g1,g2,g3,g4,g5⟩:=hf it (by simp)
  obtain⟨xs,hS,hle⟩:=hg;obtain⟨its,rv,hp,hz⟩:=I.list hS;have hx:its.toArray[i]?=none:=by simp [<- rv.length,hle]
  exact wpAny_pyNext_enum_end (I.ok.hd hc) he hit hp.isList hx fun h' eb=>⟨rfl,I.turned (t':=s.toks) (fun b o hb e1=>eb b o hb e1) g0 g1 g3 g4 g5⟩
 self:=fun A i s Q E st h=>by
  obtain⟨⟨old,he⟩,_⟩:=st;exact wpAny_pyIter_enum he h
variable {elts:List Expr}{x1:Nat}{tpos:Pos}
inductive zkbJ(K:Frag)(R:It->Hp->Prop)(vs:List V)(H1:Hp):Prop|mk(a:_):vs=[.ref a]->(∃xs,SqL K H1 a xs)->(R (Ite K a) H1)->zkbJ K R vs H1
def zkb(K:Frag)(ta:TA):TI:=fun σ H R=>ta σ H fun vs H1=>zkbJ K R vs H1
theorem ww{l:Expr}{ta:TA}{p pos:Pos}(hg:Gl X "enumerate")(hm:X.mg "enumerate"=none)(ha:PA X [l] ta)(hl:vO l=false:=by rfl):PI X (.Tuple elts x1 tpos) (.Call (.Name "enumerate" p) [l] [] pos) (zkb X.K ta):=by
 exists ?_;intro pins s σ H R I h;refine Call_ (ub I hg hm PyProof.Rows.boot_enumerate (PyProof.Rows.callWith_type1 (thn (ha pos pins s σ H _ I h) fun us s1 ⟨vs,H1,I1,r1,q1⟩=>?_) (xf hl) rfl));obtain⟨a,e,⟨xs,hS⟩,q⟩:=q1;subst e;obtain⟨u,rfl,ru⟩:=wG r1;cases ru;obtain⟨its,rv,hp,hz⟩:=I1.list hS;refine call_enumerate_list hp.isList fun h' he hit hsz hk=>?_;refine wpAny_pyIter_enum he ?_;have hfr:∀b,s1.heap.objs.size<=b->H1 b=none:=fun b hb=>I1.hok.fresh hb;have I2:Inv X pins σ H1 { s1 with heap:=h' }:=I1.kept (t':=s1.toks) hk
 exists s1.heap.objs.size+1,[s1.heap.objs.size+1,s1.heap.objs.size],_,_,H1,rfl,I2,zdp a _ _ (Nat.succ_ne_self _),⟨⟨_,he⟩,hit⟩,fun b hb=>?_,q;rcases List.mem_cons.mp hb with rfl|hb
 ·exact I1.fpOk (le_succ _) (hfr _ (le_succ _))
 ·have e':b=s1.heap.objs.size:=by simpa using hb
  subst e';exact I1.fpOk (le_refl _) (hfr _ (le_refl _))
end
end L2
namespace Att
open PySem PySem.W PySem.Calls PyProof.Rows
theorem zaV{ns:List Int}(h:WData.layableAll [WData.list (ns.map WData.int)]=true):∀n∈ns,Builtin.Int.intBits n<=1048576:=fun n hn=>
 PySem.intBits_le_of_layable (layable0_of_all (lay0_int (layableW_item (layW_cons h).1 (.int n) (List.mem_map.mpr ⟨n,hn,rfl⟩))))
theorem zht{l:OpenLaw}{n:Nat}{q:Program}{loose:List Str}{XP:(Str->Option Value)->Heap->Prop}{YP:World->Heap->Prop}{d:DefRec}
  (hn:l.most=some n) (hdf:d.params.defaults=[])
  (call:∀(w:World) (s₀ s₁:Shared) (mg mb:Str->Option Value) (fa:Addr) (o:Obj) (pm cd doc:Value) (a:Addr) (vs:List Value) (ns:List Int),
   Ground q loose [] XP w s₀ mg mb s₁.heap->YP w s₁.heap->
   s₁.heap.get? fa=some o->o.data=.func (docDef d.name d.params d.body d.scope pm cd doc)->s₁.heap.CodeRec cd d.name->mg d.name=some (.ref fa)->
   s₁.heap.get? a=some { cls:=.type "list",data:=.seq vs.toArray }->IntsAre vs ns->ns.length<=n->(∀m∈ns,Builtin.Int.intBits m<=1048576)->s₁.gens=#[]->
   codeAny (model l.prog w) callerA (.call (.ref fa) ⟨[.ref a],[]⟩) (fun r s'=>r=.ok (.ret (.bool true))/\OldK s₁.heap s'.heap/\s'.os=s₁.os/\AllBare s'.gens) s₁) :
  WalkO q loose XP YP l.row.toRowW d [] (fun f vs=>PySem.call f vs):=by
 intro w s₀ s₁ mg mb G Y fa o pm cd doc dV kV ho hd hcd hD hmg hg args vals as hpre hlay hrd hwl hlo;obtain rfl:dV=.none:=Dflts.none hD hdf;obtain rfl:kV=.none:=Dflts.noKw hD;obtain⟨a,vs,ns,rfl,rfl,hobj,hints,hlen⟩:=zdt hn hpre hwl;refine enter_call (codeAny_mono (call w s₀ s₁ mg mb fa o pm cd doc a vs ns G Y ho (fd_plain hd) hcd hmg hobj hints hlen (zaV hlay) hg) fun r s' hq=>?_);obtain⟨rfl,h2,h3,h4⟩:=hq;exact⟨.inl ⟨.bool true,.bool true,[],rfl,fun _=>rfl,.bool true,zdy l _,fun _=>⟨List.Pairwise.nil,fun _ hm=>(nomatch hm)⟩⟩,h2,h3,h4⟩
end Att
namespace L2
open PySem PySem.Spec PyProof.Rows
theorem zjk{l:PySem.W.OpenLaw}{n k:Nat}{q:Program}{loose:List Str}{XP:(Str->Option Value)->Heap->Prop}{YP:World->Heap->Prop}{d:DefRec}{K:Params->Frag}{CX:World->CXT}{sp:World->Sp}{x:Str}
  (hn:l.most=some n) (hn2:n<=sizeLine) (hdf:d.params.defaults=[]) (hr:yj k callerA)
  (hY:∀(w:World) (h:Heap),YP w h->(K w.params).In h)
  (F:∀(w:World) (mg:Str->Option Value) (fa:Addr) (h:Heap),(K w.params).In h->h.Ns mainGlobals mg->mg d.name=some (.ref fa)->
   ∃fd:FuncData,(∀(s:Shared) (u:Value),BindsTo s fd ⟨[u],[]⟩ [(x,u)])/\
    ∀base:Heap,(K w.params).In base->base.Ns mainGlobals mg->zA l.prog w (K w.params) mg base (CX w) k fa fd [x] (sp w))
  (hsp:∀(w:World) (H:Hp) (a:Addr) (ns:List Int),ns.length<=n->(∀m∈ns,Builtin.Int.intBits m<=1048576)->zjf H->SqL (K w.params) H a (ns.map V.int)->sp w [.ref a] H (fun v _=>v=.bl true) fun _ _ _=>False)
  (hCX:∀(w:World) (H:Hp) (s:Shared) (e:Value) (s':Shared),CX w [] H s (fun _ _ _=>False) e s'->False) :
  PySem.W.WalkO q loose XP YP l.row.toRowW d [] (fun f vs=>PySem.call f vs):=by
 refine Att.zht hn hdf fun w s₀ s₁ mg mb fa o pm cd doc a vs ns G Y ho hd hcd hmg hobj hints hlen hbits hg=>?_;have KX:=hY w _ Y;obtain⟨fd,hb,hF⟩:=F w mg fa _ KX G.T.g hmg;exact zfF KX G.T.g G.T.b G.T.builtins G.T.nolimit hg hobj hints (le_trans hlen hn2) hr hF hb (fun H hO hS=>hsp w H a ns hlen hbits hO hS) fun H e s'=>hCX w H s₁ e s'
section
variable {X:Cx}
structure qi(K:Frag)(x qual:Str)(st:Stmt)(f:Addr)(fd:FuncData)(items:List Value):Prop where
 ex:∃(oc:Value) (od:Option Addr) (T:Addr) (kV doc pm:Value) (an:Option Addr) (cdv ct:Value) (osl:Array (Option Value)) (o:Obj) (n:Nat),
  fd=fnOf x qual (yg st) (yc st) (zj st) (.ref T) kV doc pm an cdv ct/\K.lookup f=some ⟨oc,od,.func fd,osl⟩/\codeIn K cdv qual=true/\K.lookup T=some o/\o.data=.seq items.toArray n
 kp:keepIn K (.ref f)=true
variable {P:Program}{w:World}{K:Frag}{mg:Str->Option Value}{base:Heap}
theorem qi.ok{x qual:Str}{st:Stmt}{f:Addr}{fd:FuncData}{items:List Value}{N ps:List Str}{k:Nat}{sp:Sp}(F:qi K x qual st f fd items)(S:zu N ps (zj st))(len:∀vs H Q E,sp vs H Q E->vs.length=ps.length)
  (hbody:∀(cdv:Value) (A:Around) (outer:List Env) (s:Shared) (H:Hp) (vs:List V) (Q:VK) (E:XK),yj k (A.deeper (envOfC qual (zj st) s.heap.objs.size f cdv))->sp vs H Q E->
   ∃t,PSs (qa CX0 P w K mg base N qual (zj st) f cdv A outer s H E).nox (yc st) t/\t { nx:=fun _ H'=>Q .non H',rt:=Q } (vR N vs) H):zA P w K mg base CX0 (k+1) f fd ps sp:=by
 obtain⟨oc,od,T,kV,doc,pm,an,cdv,ct,osl,o,n,rfl,lk,hcd,_,_⟩:=F.ex;refine zfQ lk hcd S len fun A outer s H vs Q E hr hsp=>?_;obtain⟨t,h,q⟩:=hbody cdv A outer s H vs Q E hr hsp;exact⟨t,h.nox,q⟩
theorem qi.bindsTo{x qual:Str}{st:Stmt}{f:Addr}{fd:FuncData}{items:List Value}(F:qi K x qual st f fd items){args:Args}{bs:List (Str×Value)}
  (h:∀(T:Addr) (kV doc pm:Value) (an:Option Addr) (cdv ct:Value),∃k:Option (Array Value)->Sem (List (Str×Value)),
   bindArgs (fnOf x qual (yg st) (yc st) (zj st) (.ref T) kV doc pm an cdv ct) args=seqItems? (.ref T) >>= k/\k (some items.toArray)=pure bs) {s:Shared}(KX:K.In s.heap):BindsTo s fd args bs:=by
 obtain⟨oc,od,T,kV,doc,pm,an,cdv,ct,osl,o,n,rfl,lk,hcd,lt,hs⟩:=F.ex;obtain⟨k,h1,h2⟩:=h T kV doc pm an cdv ct;exact BindsTo.of_defaults (T:=T) (n:=n) rfl (KX _ _ lt) hs h1 h2
theorem zhk{x qual:Str}{st:Stmt}{f T:Addr}{oc:Value}{od an:Option Addr}{osl:Array (Option Value)}{kV doc pm cdv ct:Value}{o:Obj}{n:Nat}{items:List Value}
  (l:K.lookup f=some ⟨oc,od,.func (fnOf x qual (yg st) (yc st) (zj st) (.ref T) kV doc pm an cdv ct),osl⟩)
  (c:codeIn K cdv qual=true) (k:keepIn K (.ref f)=true) (lT:K.lookup T=some o) (hs:o.data=.seq items.toArray n) :
  qi K x qual st f (fnOf x qual (yg st) (yc st) (zj st) (.ref T) kV doc pm an cdv ct) items:=⟨⟨oc,od,T,kV,doc,pm,an,cdv,ct,osl,o,n,rfl,l,c,lT,hs⟩,k⟩
variable {CX:CXT}{k:Nat}{f C:Addr}{fd:FuncData}{ps ks:List Str}{sp:Sp}{E:XK}{x:Str}{p pos:Pos}{e:Expr}{es:List Expr}{kws:List Keyword}{t tk:TA}
 {g:List Value->List Value->List Value}{gV:List V->List V->List V}
theorem wQ{t u:TS}{D:w4}{σ : St}{H:Hp}(R:St->Hp->Prop)(h2:∀σ H,R σ H->u D σ H)(h1:(∀σ H,R σ H->u D σ H)->t { D with nx:=u D } σ H):vV t u D σ H:=h1 h2
def lcN(n i:Nat)(D:Addr)(Pv:Nat->List V->Hp->Prop)(ys:List V):VK:=fun v H4=>H4 D=some (.lst ys)/\ys.length<sizeLine/\∃m',m'<n - i/\m'=n - (i+1)/\i+1<=n/\Pv (i+1) (ys++[v]) (upd H4 D (.lst (ys++[v])))
def lcS(n i:Nat)(Pv:Nat->List V->Hp->Prop)(ys:List V):Hp->Prop:=fun H4=>∃m',m'<n - i/\m'=n - (i+1)/\i+1<=n/\Pv (i+1) ys H4
theorem lcN.mk{n i:Nat}{D:Addr}{Pv:Nat->List V->Hp->Prop}{ys:List V}{v:V}{H4:Hp}(hi:i<n)(hn:n<=sizeLine)(hD:H4 D=some (.lst ys))(hy:ys.length<=i)(p:Pv (i+1) (ys++[v]) (upd H4 D (.lst (ys++[v])))):lcN n i D Pv ys v H4:=
 ⟨hD,by omega,n - (i+1),by omega,rfl,hi,p⟩
theorem lcS.mk{n i:Nat}{Pv:Nat->List V->Hp->Prop}{ys:List V}{H4:Hp}(hi:i<n)(p:Pv (i+1) ys H4):lcS n i Pv ys H4:=⟨n - (i+1),by omega,rfl,hi,p⟩
theorem xx{K:Frag}{a:Addr}{xs:List V}{caps:List (Option Nat)}{g:TG}{tt:TT}{te:TE}{σ : St}{H1:Hp}{Q:VK}{D:Addr}(Pv:Nat->List V->Hp->Prop)(h0:Pv 0 [] (upd H1 D (.lst [])))
  (hl:∀i ys H,Pv i ys H->SqL K H a xs)
  (hs:∀i x ys H,i<xs.length->xs[i]?=some x->Pv i ys H->g x (xl caps σ) H fun σ2 H2=>tt σ2 H2 fun ok H3=>(ok=true->te σ2 H3 (lcN xs.length i D Pv ys))/\(ok=false->lcS xs.length i Pv ys H3))
  (hd:∀ys H,Pv xs.length ys H->Q (.ref D) H):LCr (Itl K a) caps g tt te σ H1 Q D:=by
 exists fun i m ys H=>m=xs.length - i/\i<=xs.length/\Pv i ys H,⟨xs.length,by simp,zero_le _,h0⟩,?_
 rintro i m ys H ⟨rfl,hi,p⟩;have q:=hl i ys H p;by_cases hlt:i<xs.length
 ·refine .inr ⟨⟨xs,xs[i],q,by simp [hlt]⟩,fun x H' y=>?_⟩
  obtain⟨e,y⟩:=y;subst e;exact hs i x ys _ hlt (y xs q) p
 ·have e:i=xs.length:=by omega
  subst e;exact .inl ⟨⟨xs,q,le_refl _⟩,hd ys H p⟩
theorem yD{H:Hp}{x dx:Addr}{o1:HO}(hx:H x=none)(hd:H dx=none):zq H (upd (upd H dx (.own x)) x o1):=fun b u q=>by
 rw[zg (zi q hx),zg (zi q hd)];exact q
theorem zd{H:Hp}{p:Addr}(h:H p=none)(o:HO):zq H (upd H p o):=fun b u q=>by rw[zg (zi q h)];exact q
end
end L2
namespace L2
open PySem
theorem nS{H H':Hp}{p:Addr}{o:HO}(h:H p=none)(e:upd H p o=H'):zq H H':=e ▸ zd h o
theorem nE{H H':Hp}{p:Addr}{o:HO}(e:upd H p o=H'):H' p=some o:=e ▸ za
end L2
local macro_rules|`(tactic|injections $l:ident $h:ident $H:ident $s:ident $e:ident)=>`(tactic|(generalize hE:L2.upd _ $l _=$H:ident;have $s:ident:=L2.nS $h hE;have $e:ident:=L2.nE hE;clear hE))
namespace L2
open PySem PySem.Spec PyProof.Rows
theorem jQ{lo:Int}{n:Nat}{caps:List (Option Nat)}{g:TG}{tt:TT}{te:TE}{σ : St}{H1:Hp}{Q:VK}{D:Addr}(Pv:Nat->List V->Hp->Prop)(h0:Pv 0 [] (upd H1 D (.lst [])))
  (hs:∀i ys H,i<n->Pv i ys H->g (.int (lo+i)) (xl caps σ) H fun σ2 H2=>tt σ2 H2 fun ok H3=>(ok=true->te σ2 H3 (lcN n i D Pv ys))/\(ok=false->lcS n i Pv ys H3))
  (hd:∀ys H,Pv n ys H->Q (.ref D) H):LCr (Itr lo n) caps g tt te σ H1 Q D:=by
 exists fun i m ys H=>m=n - i/\i<=n/\Pv i ys H,⟨n,by simp,zero_le _,h0⟩,?_
 rintro i m ys H ⟨rfl,hi,p⟩;by_cases hlt:i<n
 ·refine .inr ⟨hlt,fun x H' y=>?_⟩
  obtain⟨e,y⟩:=y;subst e y;exact hs i ys _ hlt p
 ·have e:i=n:=by omega
  subst e;exact .inl ⟨le_refl _,hd ys H p⟩
theorem zc0{K:Frag}{a:Addr}{xs:List V}{caps:List (Option Nat)}{g:TG}{tt:TT}{te:TE}{σ : St}{H1:Hp}{Q:VK}{D:Addr}(Pv:Nat->List V->Hp->Prop)(h0:Pv 0 [] (upd H1 D (.lst [])))
  (hl:∀i ys H,Pv i ys H->SqL K H a xs)
  (hs:∀i x p ys H,i<xs.length->xs[i]?=some x->Pv i ys H->H p=none->g (.ref p) (xl caps σ) (upd H p (.tup [.int i,x])) fun σ2 H2=>tt σ2 H2 fun ok H3=>(ok=true->te σ2 H3 (lcN xs.length i D Pv ys))/\(ok=false->lcS xs.length i Pv ys H3))
  (hd:∀ys H,Pv xs.length ys H->Q (.ref D) H):LCr (Ite K a) caps g tt te σ H1 Q D:=by
 exists fun i m ys H=>m=xs.length - i/\i<=xs.length/\Pv i ys H,⟨xs.length,by simp,zero_le _,h0⟩,?_
 rintro i m ys H ⟨rfl,hi,p⟩;have q:=hl i ys H p;by_cases hlt:i<xs.length
 ·refine .inr ⟨⟨xs,xs[i],q,by simp [hlt]⟩,fun x H' y=>?_⟩
  obtain⟨pp,y,rfl,hp,y2,rfl⟩:=y;exact hs i y pp ys H hlt (y2 xs q) p hp
 ·have e:i=xs.length:=by omega
  subst e;exact .inl ⟨⟨xs,q,le_refl _⟩,hd ys H p⟩
theorem vn{K:Frag}{a:Addr}{xs:List V}{g:TG}{tb:TS}{D:w4}{σ : St}{H:Hp}(Pv:Nat->St->Hp->Prop)(h0:Pv 0 σ H)(hl:∀i σ H,i<=xs.length->Pv i σ H->SqL K H a xs)
  (hs:∀i x p σ H,xs[i]?=some x->Pv i σ H->H p=none->g (.ref p) σ (upd H p (.tup [.int i,x])) fun σ2 H2=>tb { D with nx:=Pv (i+1),ct:=Pv (i+1),bk:=D.nx } σ2 H2) (hd:∀σ H,Pv xs.length σ H->D.nx σ H) :
  ∃W:Nat->Nat->St->Hp->Prop,(∃m,W 0 m σ H)/\∀i m σ H,W i m σ H->
   ((Ite K a).stop i H/\D.nx σ H)\/((Ite K a).go i H/\∃N:St->Hp->Prop,(∀σ' H',N σ' H'->∃m',m'<m/\W (i+1) m' σ' H')/\∀x H',(Ite K a).yld i H x H'->g x σ H' fun σ2 H2=>tb { D with nx:=N,ct:=N,bk:=D.nx } σ2 H2):=by
 exists fun i m σ H=>m=xs.length - i/\i<=xs.length/\Pv i σ H,⟨xs.length,by simp,zero_le _,h0⟩,?_
 rintro i m σ H ⟨rfl,hi,p⟩;have q:=hl i σ H hi p;by_cases hlt:i<xs.length
 ·refine .inr ⟨⟨xs,xs[i],q,by simp [hlt]⟩,Pv (i+1),fun σ' H' p'=>⟨xs.length - (i+1),by omega,rfl,hlt,p'⟩,fun x H' y=>?_⟩
  obtain⟨pp,y,rfl,hp,y2,rfl⟩:=y;exact hs i y pp σ H (y2 xs q) p hp
 ·have e:i=xs.length:=by omega
  subst e;exact .inl ⟨⟨xs,q,le_refl _⟩,hd σ H p⟩
section
variable {X:Cx}{pins:PnL}{σ:St}{H H':Hp}{s s':Shared}{ea:Addr}{cls:Value}{vs:List Value}{h':Heap}{M:Model}{E:VSP}
theorem qI(hstk:X.stack=X.env::X.outer)(hfl:X.env.frame=some X.env.locals):frs X.stack=X.env.locals::frs X.outer:=by
 rw[hstk];unfold frs;rw[filterMap_cons,hfl]
theorem HOk.sameAt{P:Program}{w:World}{h h':Heap}(x:HOk P w H h)(k:∀b u o,H b=some u->h.get? b=some o->h'.get? b=some o):HOk P w H h':=fun a o e=>
 (x a o e).stay (fun b u hb q=>by
  rcases hb with z|z
  ·exact k b o u (by rw[z];exact e) q
  ·exact k b _ u z q) (fun _ q=>q) fun _ _ q=>q
theorem HOk.rec{P:Program}{w:World}{h:Heap}(x:HOk P w H h){b:Addr}{u:HO}(e:H b=some u):∃o,h.get? b=some o:=by
 have q:=x b u e;cases u with
 | lst xs=>obtain⟨_,_,_,_,e⟩:=q;exact⟨_,e⟩
 | tup xs=>obtain⟨_,_,_,o,e,_⟩:=q;exact⟨_,e⟩
 | dK kvs=>obtain⟨_,_,_,_,o,_,_,e,_⟩:=q;exact⟨_,e⟩
 | dT kvs=>obtain⟨_,_,_,_,o,_,_,e,_⟩:=q;exact⟨_,e⟩
 | set S n=>obtain⟨o,_,_,_,e,_⟩:=q;exact⟨_,e⟩
 | ins C dx fs=>obtain⟨_,_,_,e,_⟩:=q;exact⟨_,e⟩
 | own y=>exact q
 | xd fs=>obtain⟨_,⟨o,_,_,e,_⟩,_⟩:=q;exact⟨_,e⟩
 | rng lo hi=>obtain⟨_,_,_,e⟩:=q;exact⟨_,e⟩
 | frz ob u=>obtain⟨e,_⟩:=q;exact⟨_,e⟩
 | tbl ps=>exact⟨_,q⟩
 | met f y=>exact⟨_,q⟩
 | ext φ=>exact q.2.1
end
section
variable {X:Cx}{E:XK}{x:Str}{C:Addr}{B Bn newId nid initId inN:String}{bm bmN:List Value}{np cpos pos:Pos}{e:Expr}{es:List Expr}{t:TA}
variable {P:Program}{w:World}{K:Frag}{mg:Str->Option Value}{base:Heap}{N:List Str}{qual:Str}{scope:Scope}{f:Addr}{cd:Value}{A:Around}{outer:List Env}{s:Shared}{H:Hp}{E':XK}
variable {k:Nat}{fd:FuncData}{ps:List Str}{sp:Sp}{p:Pos}
variable {pins:PnL}{σ:St}{H':Hp}{s':Shared}{ea a:Addr}{cls:Value}{o:HO}{h5:Heap}
theorem Inv.track(I:Inv X pins σ H s)(hn:H a=none)(new:yu X.prog X.w (upd H a o) s.heap a o)(h0:∀u,X.s₀.heap.get? a=some u->X.H₀ a=none->a∉X.ex->False)(hL:X.env.locals≠a)
  (hc:∀x c,X.env.cells.lookup x=some c->c≠a) (hp:∀p∈X.pn++pins,p.1≠a):Inv X pins σ (upd H a o) s:=by
 exists I.ok,I.os,I.bare,⟨I.base.keep,I.base.slot,fun b u e n x=>?_,I.base.there,fun b xs e=>?_,fun b u v e=>?_,fun b ps e=>?_⟩,I.loc,I.cell,?_,fun x c e=>?_,fun p hp'=>?_,fun b u e=>?_,I.len
 ·have hb:b≠a:=fun z=>by subst z;exact h0 u e n x
  rw[zg hb];exact I.base.free b u e n x
 ·have e1:=I.base.tups b xs e
  rw[zg (zi e1 hn)];exact e1
 ·have e1:=I.base.frzs b u v e
  rw[zg (zi e1 hn)];exact e1
 ·obtain⟨more,e1⟩:=I.base.tbls b ps e
  exact⟨more,by rw[zg (zi e1 hn)];exact e1⟩
 ·rw[zg hL];exact I.free
 ·rw[zg (hc x c e)];exact I.freeC x c e
 ·obtain⟨q1,q2,q3⟩:=I.pin p hp'
  exact⟨q1,by rw[zg (hp p hp')];exact q2,q3⟩
 ·by_cases hb:b=a
  ·subst hb;rw[za] at e;cases e;exact new
  ·rw[zg hb] at e
   exact(I.hok b u e).stay (fun _ _ _ q=>q) (fun c q=>by rw[zg (zi q hn)];exact q) fun c xs q=>by rw[zg (zi q hn)];exact q
end
section
variable {X:Cx}{pins:PnL}{σ:St}{H:Hp}{s:Shared}{M:Model}{A:Around}{E:VSP}{i:Nat}{n:Str}{pos:Pos}
theorem vF{Q:Unit->Shared->Prop}(I:Inv X pins σ H s)(hN:X.N.Nodup)(hi:X.N[i]?=some n)(hk:X.env.scope.names.lookup n=some .local)(h:∀s',Inv X pins (σ.set i none) H s'->Q () s'):
  wpAny M A (do bindName X.env n .none;unbindBehindTheSuite X.env n pos) Q E s:=by
 refine zwb (wpAny_bindName (vd (v:=.non) (u:=.none) I hN hi (.inl hk) rfl (fun s1 I1=>?_) (.inr hk)));unfold unbindBehindTheSuite;refine wpAny_onRaise ?_;have hiσ : i<σ.length:=by rw[I.len];exact(List.getElem?_eq_some_iff.mp hi).1
 have hcls:(X.env.scope.kind==.class||(X.env.scope.kind==.module&&X.env.locals != X.env.globals))=false:=by rw[I.ok.kind];rfl
 obtain⟨m,hn,hl⟩:=id I1.loc;obtain⟨u0,_,lk⟩:=hl i n .non hi (by rw[getElem?_set_self hiσ]) (.inl hk)
 have hv:m n=some u0:=by
  rcases lk with ⟨_,e⟩|⟨z,_⟩
  ·exact e
  ·have z':X.env.scope.names.lookup n=some .cell\/X.env.scope.names.lookup n=some .free:=z
   rw[hk] at z';rcases z' with z'|z' <;> cases z'
 refine wpAny_unbindName_local hk hn hv hcls fun h2 u hn2 hs=>h _ ?_;have old:∀b o,X.s₀.heap.get? b=some o->b≠X.env.locals:=fun b o e=>ne_of_lt (lt_of_lt_of_le (Heap.lt_size e) I1.ok.above);refine⟨I1.ok,I1.os,I1.bare,⟨fun b o e z hb hx=>(hs.2 b (old b o e)).trans (I1.base.keep b o e z hb hx),fun b o e z hb hx=>?_,I1.base.free,fun b o e hx=>?_,I1.base.tups,I1.base.frzs,I1.base.tbls⟩,⟨_,hn2,fun j y v e1 e2 e3=>?_⟩,fun y c e=>?_,I1.free,I1.freeC,fun p hp=>?_,fun b ob e=>?_,by rw[length_set];exact I.len⟩
 ·obtain⟨sl,e1⟩:=I1.base.slot b o e z hb hx
  exact⟨sl,(hs.2 b (old b o e)).trans e1⟩
 ·obtain⟨o',e1⟩:=I1.base.there b o e hx
  exact⟨o',(hs.2 b (old b o e)).trans e1⟩
 ·by_cases hj:j=i
  ·subst hj
   rw[getElem?_set_self hiσ] at e2;cases e2
  ·rw[getElem?_set_ne (Ne.symm hj)] at e2
   obtain⟨u',r',q⟩:=hl j y v e1 (by rw[getElem?_set_ne (Ne.symm hj)];exact e2) e3
   exists u',r',?_;rcases q with ⟨k,e⟩|⟨k,c,e,z⟩
   ·have ny:y≠n:=fun w=>hj (jL hN e1 (w ▸ hi))
    exact .inl ⟨k,by simp [ny,e]⟩
   ·exact .inr ⟨k,c,e,z.sameBut hs (I1.cne y c e)⟩
 ·obtain⟨w',z⟩:=I1.cell y c e
  exact⟨w',z.sameBut hs (I1.cne y c e)⟩
 ·obtain⟨e,z,ne,nf,d⟩:=I1.pin p hp
  exact⟨(hs.2 p.1 ne).trans e,z,ne,nf,d⟩
 ·refine(I1.hok b ob e).stay (fun c w' hc q=>(hs.2 c fun z=>?_).trans q) (fun _ q=>q) fun _ _ q=>q
  rcases hc with w1|w1
  ·rw[<- w1,z,I1.free] at e;cases e
  ·rw[z,I1.free] at w1;cases w1
structure PE1(X:Cx)(pins:PnL)(σ : St)(e:Expr)(t:TE):Prop where
 run:∀(s:Shared) (H:Hp) (Q:VK),Inv X pins σ H s->t σ H Q->wpAny (model X.prog X.w) X.A (eval e X.env) (EP X pins σ Q) X.xe s
structure PS1(X:Cx)(pins:PnL)(σ : St)(st:Stmt)(t:TS):Prop where
 run:∀(s:Shared) (H:Hp) (D:w4),Inv X pins σ H s->t D σ H->wpAny (model X.prog X.w) X.A (exec st X.env) (SP X pins D) X.xe s
end
section
variable {X:Cx}{pins:PnL}{σ:St}{e:Expr}{es:List Expr}{te ta:TE}{t tr:TA}{E:XK}{x m:Str}{p pos apos:Pos}{k:Nat}{f C:Addr}{fd:FuncData}{ps:List Str}{sp:Sp}{o:Expr}{dvs:List V}{ds:List Value}
theorem zeP{i:Nat}{pos':Pos}(hN:X.N.Nodup)(hi:X.N[i]?=some x)(hx:Loc X.env.scope x)(he:PE1 X pins σ e te)(hs:swapsWith e (some (.Name x pos')) pos.line X.env=pure false:=by rfl)
  (hf:X.fn x=true\/X.env.scope.names.lookup x=some .local:=by first|exact .inl rfl|exact .inr rfl|assumption):PS1 X pins σ (.Assign [.Name x pos'] e pos) (zgb te (zM i)):=by
 exists fun s H D I h=>?_;refine wpAny_Assign_Name (thn (he.run s H _ I h) fun v s1 ⟨y,H1,I1,r1,q1⟩=>?_) hs;exact vd I1 hN hi hx r1 (fun s2 I2=>⟨_,H1,I2,q1⟩) hf
abbrev Cx.suite(X:Cx)(ea:Addr):Cx:={ X with A:=X.A.mark (some (.ref ea)),calm:=false,xe:=fun _ _=>False }
variable {H:Hp}{s:Shared}{ea:Addr}
theorem Inv.suite(I:Inv X pins σ H s)(ea:Addr):Inv (X.suite ea) pins σ H s:=
 ⟨⟨I.ok.mod,I.ok.kind,I.ok.glob,I.ok.blt,I.ok.above,I.ok.inj,I.ok.has,I.ok.cab,(fun z=>Bool.noConfusion z),I.ok.frames,I.ok.stk,I.ok.exf,I.ok.bs,I.ok.bsz,I.ok.noex,I.ok.exfs,I.ok.funs,I.ok.frf⟩,I.os,I.bare,I.base,I.loc,I.cell,I.free,I.freeC,I.pin,I.hok,I.len⟩
theorem yL(hok:X.Ok)(I:Inv (X.suite ea) pins σ H s):Inv X pins σ H s:=
 ⟨hok,I.os,I.bare,I.base,I.loc,I.cell,I.free,I.freeC,I.pin,I.hok,I.len⟩
def zhS(D:w4)(i:Nat):w4:={ nx:=fun σ H=>D.nx (σ.set i none) H,rt:=D.rt,bk:=fun σ H=>D.bk (σ.set i none) H,ct:=fun σ H=>D.ct (σ.set i none) H }
abbrev zjl(X:Cx)(pins:PnL)(D:w4)(hs:List ExceptHandler):Value->Shared->Prop:=fun e s₁=>
 wpAny (model X.prog X.w) X.A (noteFrame e X.env) (fun _ s₂=>wpAny (model X.prog X.w) X.A (setFlight e none) (fun _ s₃=>wpAny (model X.prog X.w) X.A (handleBy e X.env hs) (SP X pins D) X.xe s₃) X.xe s₂) X.xe s₁
variable {st b₀:Stmt}{suite:List Stmt}{c n:Str}{np hpos:Pos}{i:Nat}{tb:XK->TS}{ts:TS}{ok:Value->Prop}
end
end L2
namespace L2
open PySem PySem.W PySem.Builtin PySem.Builtin.ObjectAttr PySem.Builtin.Getset_descriptor PySem.Spec PyProof.Rows
structure xU(K:Frag)(D:Addr):Prop where
 cd:(clsIn K D).isSome=true
 ga:findIn K (.ref D) "__getattribute__"=some (some (.builtin "BaseException.__getattribute__"))
 no:findIn K (.ref D) "__getattr__"=some none
 cl:findIn K (.ref D) "__class__"=some (some (.builtin "object.__class__"))
 gt:specialIn K (.builtin "object.__class__") "__get__"=some (some (.builtin "getset_descriptor.__get__"))
 tk:takesIn K (.builtin "object.__class__")=some true
 be:mroIn K D (.type "BaseException")=some true
 ob:mroIn K D (.type "object")=some true
section
variable {prog:Program}{w:World}{A:Around}{E:VSP}{s:Shared}{K:Frag}{x D:Addr}
end
end L2
namespace L2
open PySem PySem.Spec PyProof.Rows
section
variable {X:Cx}
variable {P:Program}{w:World}{K:Frag}{mg:Str->Option Value}{base:Heap}
variable {k:Nat}{f:Addr}{fd:FuncData}{ps:List Str}{sp:Sp}{x:Str}{p pos:Pos}{e:Expr}{es:List Expr}{t:TA}
end
section
variable {prog:Program}{w:World}{A:Around}{E:VSP}{s:Shared}{r:Addr}{n:Int}{t u v:Tok}
variable {X:Cx}{tg:Expr}
variable {o i:Expr}{to ti:TE}{pos tpos:Pos}
inductive zkGJ(x:V)(y:V)(H:Hp)(Q:VK):Prop|mk(a c:Addr)(xs ys:List V):x=.ref a->y=.ref c->H a=some (.lst xs)->H c=some (.lst ys)->xs.length≠ys.length->(Q (.bl false) H)->zkGJ x y H Q
def zkG:R2:=fun x y H Q=>zkGJ x y H Q
theorem zfa(hu:X.A.units<cLine):OpR X (compareOp .Eq) zkG:=by
 intro pins s σ H x y v u Q I rx ry h;obtain⟨a,c,xs,ys,rfl,rfl,ha,hc,hn,q⟩:=h;cases rx;cases ry;obtain⟨its,r,pl,_⟩:=I.list (zh ha);obtain⟨its2,r2,pl2,_⟩:=I.list (zh hc);have e1:=r.length;have e2:=r2.length;exact PySem.SeqAt.eq_list_lengthsAt pl.isList pl2.isList (by simp only[size_toArray,bne_iff_ne];omega) hu ⟨.bl false,H,I,rfl,q⟩
variable {pins:PnL}{σ:St}{e:Expr}{te:TE}{p:Pos}{C:Addr}{x:Str}
theorem wg{H H1:Hp}{x dx:Addr}{o1 o2:HO}(hx:H x=none)(hd:H dx=none)(s:zq (upd (upd H dx (.own x)) x o1) H1):zq H (upd H1 x o2):=fun b u q=>by
 rw[zg (zi q hx)];exact s _ _ (yD hx hd b u q)
structure qj(P:Program)(w:World)(K:Frag)(mg:Str->Option Value)(base:Heap)(CX:CXT)(k:Nat)(x:Str)(C i:Addr)(fd:FuncData)(ps:List Str)(ds:List Value)(sp:Sp):Prop where
 mkr:Mk K C i
 ok:zA P w K mg base CX k i fd ps sp
 mg:mg x=some (.ref C)
 bd:z8 K fd ps ds
end
section
variable {X:Cx}{CX:CXT}{k:Nat}{C i f:Addr}{fd:FuncData}{ps ks:List Str}{sp:Sp}{E:XK}{x m:Str}{p pos apos:Pos}{e:Expr}{es:List Expr}{t tk:TA}{ds:List Value}{dvs:List V}{kws:List Keyword}
 {g:List Value->List Value->List Value}{gV:List V->List V->List V}
theorem cMk(c:qj X.prog X.w X.K X.mg X.base CX k x C i fd ps ds sp)(hd:zX dvs ds)(hp:xm CX X E)(hr:yj (k+1) X.A)(ha:PA X (e::es) t)(hg:Gl X x:=by rfl)(hdb:(x==("__debug__" : Str))=false:=by decide)
  (h1:vO e=false:=by rfl) (h2:es.any vO=false:=by rfl):PE X (.Call (.Name x p) (e::es) [] pos) (zd8 C sp dvs E t):=zcR c.mkr c.ok hr hg c.mg c.bd hd hp ha hdb (xf h1) (x8 h2)
structure j5(K:Frag)(C:Addr)(m:Str)(f:Addr):Prop where
 ga:specialIn K (.ref C) "__getattribute__"=some (some (.builtin "type.__getattribute__"))
 rd:PySem.W.readsIn K C (.type "type")=true
 fc:PySem.W.findCls K (.ref C) (.type "type") m=some (.val (.ref f))
 kp:keepIn K (.ref f)=true
theorem zaZ{pl:Sem Bool}(B:j5 X.K C m f)(hm:X.mg x=some (.ref C))(F:zA X.prog X.w X.K X.mg X.base CX k f fd ps sp)(hr:yj k X.A)(hb:z8 X.K fd ps [])(hx:xm CX X E)(ha:PA X (e::es) t)(hg:Gl X x:=by rfl)
  (hdb:(x==("__debug__" : Str))=false:=by decide) (h1:vO e=false:=by rfl) (h2:es.any vO=false:=by rfl)
  (ht:eval (.Call (.Attribute (.Name x p) m apos) (e::es) [] pos) X.env=(do
   let ov <- eval (.Name x p) X.env
   standAt apos.atName
   let (f,first) <- holding [ov] (getMethod ov m pl)
   callWith pos f first (backTo pos (starEach (e::es) X.env)) (backToKw pos (keywordEach [] X.env))):=by rfl) :
  PE X (.Call (.Attribute (.Name x p) m apos) (e::es) [] pos) (zcA sp [] E t):=by
 exists ?_;intro pins s σ H Q I h;refine methodCall_KW (pl:=pl) (xW I hg hm ?_ hdb) ht;refine PySem.W.method_cls I.kIn B.ga (PySem.W.cls_value I.kIn B.rd B.fc rfl ?_);have It:=I.tok (s.toks+1);refine callWith_K (first:=[]) (h₀:=X.base) I.ok.mod.kin B.kp (thn (ha pos pins _ σ H _ It h) fun us s2 ⟨vs,H2,I2,r,q2⟩=>⟨I2.kIn,?_⟩) (xf h1) (x8 h2)
 exact jz F hr hb .nil hx I2 r q2
theorem vB{X:Cx}{st:Stmt}:PS X st (fun _ _ _=>False):=⟨fun _ _ _ _ _ _ h=>h.elim⟩
def zk6(P:Program)(w:World)(a:Addr)(S:Str->Bool)(n:Nat)(h:Heap):Prop:=h.SetOf (strKind P w) a S n
abbrev wc(P:Program)(w:World)(a:Addr)(S:Str->Bool)(n:Nat):HO:=.ext (zk6 P w a S n)
theorem jd{P:Program}{w:World}{H:Hp}{h:Heap}{a:Addr}{S:Str->Bool}{n:Nat}(e:h.SetOf (strKind P w) a S n):yu P w H h a (wc P w a S n):=
 ⟨e,let ⟨o,_,_,_,h1,_⟩:=e;⟨o,h1⟩,fun g1 g2 q k=>let ⟨o,es,ep,t,h1,c⟩:=q;⟨o,es,ep,t,k o h1,c⟩⟩
theorem zd0:xC X (.type "set") (fun xs H Q=>xs=[]/\∀p,H p=none->Q (.ref p) (upd H p (wc X.prog X.w p (fun _=>false) 0))):=by
 intro pins s σ H xs us Q I r h;obtain⟨rfl,q⟩:=h;cases r;refine call_set_0 fun led=>?_;have hf:H s.heap.objs.size=none:=I.hok.fresh (le_refl _);exists .ref s.heap.objs.size,_,I.laid (t':=s.toks) (fun b u e=>zgp _ e) (le_refl _) (jd ?_),rfl,q _ hf;exact(setObjOf_fresh led).setOf (zgs _ rfl) (by decide)
theorem jJ:OpR X (compareOp .In) (fun x y H Q=>∃(a:Addr) (S:Str->Bool) (n:Nat) (z:Str),x=.str z/\y=.ref a/\H a=some (wc X.prog X.w a S n)/\Q (.bl (S z)) H):=by
 intro pins s σ H x y v u Q I rx ry h;obtain⟨a,S,n,z,rfl,rfl,e,q⟩:=h;obtain⟨t,rfl⟩:=rx;cases ry;have hS:s.heap.SetOf (strKind X.prog X.w) a S n:=(I.hok a _ e).1;exact wpAny_inSet_of (strKind_is X.prog X.w z t) rfl hS ⟨.bl (S z),H,I.tok _,rfl,q⟩
inductive zjnJ(P:Program)(w:World)(te:TE)(σ:St)(Q:VK)(x:V)(H1:Hp):Prop|mk(a:Addr)(S:Str->Bool)(n:Nat):x=.ref a->H1 a=some (wc P w a S n)->(te σ H1 fun y H2=>∃(S:Str->Bool) (n:Nat) (z:Str),y=.str z/\H2 a=some (wc P w a S n)/\n+1<scanBound/\Q .non (upd H2 a (wc P w a (fun k=>S k||decide (k=z)) (if S z then n else n+1))))->zjnJ P w te σ Q x H1
def zjn(P:Program)(w:World)(to te:TE):TE:=fun σ H Q=>to σ H fun x H1=>zjnJ P w te σ Q x H1
theorem zgy{o e:Expr}{apos cpos:Pos}{to te:TE}(ho:PE X o to)(he:PE X e te)(m:M1 X o "add" apos e cpos):PE X (.Call (.Attribute o "add" apos) [e] [] cpos) (zjn X.prog X.w to te):=by
 exists ?_;intro pins s σ H Q I h;refine wpAny_Call_method m.base m.few m.line PySem.F.plainAttrs_set PySem.F.slot_set_add PySem.F.type_set_add (thn (ho pins s σ H _ I h) fun u s1 ⟨x,H1,I1,rx,a,S,n,ex,d,q1⟩=>?_);subst ex;obtain rfl:u=Value.ref a:=rx;have hS:s1.heap.SetOf (strKind X.prog X.w) a S n:=(I1.hok a _ d).1;exists hS.typeIs,hS.noDict,?_;rw[m.trees];refine Calls.callWith_builtin rfl (Calls.evalArgs_plain (Calls.spliced_cons (thn (he pins s1 σ H1 _ I1 q1) fun iv s2 ⟨y,H2,I2,ry,S2,n2,z,ey,e2,hn,q2⟩=>Calls.spliced_nil ?_)));subst ey;obtain⟨t,rfl⟩:=ry;have hS2:s2.heap.SetOf (strKind X.prog X.w) a S2 n2:=(I2.hok a _ e2).1;refine call_set_add (strKind_is X.prog X.w z t) rfl hS2 hn fun h' hs hS3=>⟨.non,_,?_,rfl,q2⟩;refine I2.write (x:=a) (e:=a) (by rw[e2];exact True.intro) (.inl rfl) (fun b q hb z=>(hs.2 b hb).trans z) (let ⟨o,_,_,_,h1,_⟩:=hS3;⟨o,h1⟩) (jd hS3)
inductive zh0J(Cs:Addr->Prop)(m:Str)(sp:Sp)(E:XK)(Q:VK)(x:V)(H1:Hp):Prop|mk(a C dx fs:_):x=.ref a->Cs C->H1 a=some (.ins C dx fs)->fs.lookup m=none->(sp [x] H1 Q E)->zh0J Cs m sp E Q x H1
def zh0(Cs:Addr->Prop)(m:Str)(sp:Sp)(E:XK)(ta:TE):TE:=fun σ H Q=>ta σ H fun x H1=>zh0J Cs m sp E Q x H1
theorem ur{CX:CXT}{k:Nat}{f:Addr}{fd:FuncData}{ps:List Str}{sp:Sp}{E:XK}{m:Str}{pos apos:Pos}{o:Expr}{ta:TE}{Cs:Addr->Prop}{pl:Sem Bool}(he:PE X o ta)(hC:∀C,Cs C->Cls X.K C/\xw X.K C m f)(F:zA X.prog X.w X.K X.mg X.base CX k f fd ps sp)(hr:yj k X.A)(hb:z8 X.K fd ps [])(hx:xm CX X E)
  (ht:eval (.Call (.Attribute o m apos) [] [] pos) X.env=(do
   let ov <- eval o X.env
   standAt apos.atName
   let (f,first) <- holding [ov] (getMethod ov m pl)
   callWith pos f first (backTo pos (starEach [] X.env)) (backToKw pos (keywordEach [] X.env))):=by rfl) :
  PE X (.Call (.Attribute o m apos) [] [] pos) (zh0 Cs m sp E ta):=by
 exists ?_;intro pins s σ H Q I h;refine methodCall_KW (pl:=pl) (thn (he pins s σ H _ I h) fun u s1 ⟨x,H1,I1,rx,a,C,dx,fs,ex,hc,ea,l,q⟩=>?_) ht;subst ex;obtain rfl:u=Value.ref a:=rx;obtain⟨c,hm⟩:=hC C hc;refine wo I1 ea c hm l ?_;exact PySem.W.callWith_K0 (first:=[.ref a]) I1.kIn hm.kp (jz (us:=[.ref a]) (vs:=[.ref a]) F hr hb .nil hx I1 (.cons rfl .nil) q)
structure zjh(w:World)(K:Frag)(a:Addr)(f:Str->Option V):Prop where
 obj:∃es n,K.lookup a=some ⟨.type "dict",none,.dict es n,#[]⟩/\KeysLit w.params es.toList
 vals:∀x v,f x=some v->∃u,nsIn K a x=some (some u)/\ya v u
theorem zgz{e:Expr}{d:Str}{p pos:Pos}{a:Addr}{f:Str->Option V}{te:TE}(T:zjh X.w X.K a f)(hm:X.mg d=some (.ref a))(he:PE X e te)(hg:Gl X d:=by rfl)(hs:zjg e:=by first|exact fun _ _=>rfl|decide|rfl)(hdb:(d==("__debug__" : Str))=false:=by decide):
  PE X (.Subscript (.Name d p) e pos) (fun σ H Q=>te σ H fun y H1=>∃x v,y=.str x/\f x=some v/\Q v H1):=by
 exists ?_;intro pins s σ H Q I h;obtain⟨es,n,hl,hk⟩:=T.obj;refine zcB PySem.F.slot_dict_getitem.lookup hs (xW I hg hm (thn (he pins s σ H _ I h) fun iv s2 ⟨y,H2,I2,ry,x,v,ey,ef,q2⟩=>?_) hdb);subst ey;obtain⟨t,rfl⟩:=ry;obtain⟨u,eu,ru⟩:=T.vals x v ef;have hmap:=PySem.W.mapOf_K (prog:=X.prog) (w:=X.w) I2.kIn hl hk;exact⟨hmap.typeIs,wpAny_getItem_of (strKind_is X.prog X.w x t) hmap (PySem.W.find_K hl eu) ⟨v,H2,I2.tok _,ru,q2⟩⟩
variable {pins:PnL}{σ:St}{H:Hp}{s:Shared}{sc:Scope}{fr Nc:List Str}{fp:List Addr}
theorem zbo{caps:List (Option Nat)}{h':Heap}{D:Addr}{m:Str->Option Value}{t':Nat}{o0:HO}(I:Inv X pins σ H s)(B:yQ X.env sc fr)(hf:∀b∈fp,vc X pins H b)(ho:∀b∈fp,∃o,s.heap.get? b=some o)
  (hC:s.heap.objs.size<=C) (hD:s.heap.objs.size<=D) (hDC:D≠C) (keep:∀b o,s.heap.get? b=some o->h'.get? b=some o) (new:yu X.prog X.w (upd H D o0) h' D o0) (hn:h'.Ns C m)
  (hcap:vo X.N Nc caps X.env sc fr=true) (hlen:caps.length=Nc.length) :
  Inv (yb X pins sc fr Nc fp s H C) [] (xl caps σ) (upd H D o0) { s with heap:=h',toks:=t' }:=by
 have hk:X.env.scope.kind=.function:=I.ok.kind;have fresh:∀a,s.heap.objs.size<=a->H a=none:=fun a ha=>I.hok.fresh ha;exists zdg I B hf ho hC,rfl,I.bare,Un.laid keep hD (fresh D hD),⟨m,hn,fun i x v e1 e2 e3=>?_⟩,fun x c h=>?_,?_,fun x c h=>?_,fun p hp=>?_,?_,?_
 ·
  have e2':(caps[i]?).map (fun o=>match o with|none=>none|some j=>(σ[j]?).join)=some (some v):=by
   have:(xl caps σ)[i]?=some (some v):=e2
   unfold xl at this;rw[getElem?_map] at this;exact this
  cases hc:caps[i]? with
  | none=>rw[hc] at e2';cases e2'
  | some o=>
   rw[hc] at e2';cases o with
   | none=>simp at e2'
   | some j=>
    have e4:(σ[j]?).join=some v:=by simpa using e2'
    have e5 : σ[j]?=some (some v):=by
     cases q : σ[j]? with
     | none=>rw[q] at e4;cases e4
     | some w'=>rw[q] at e4;simp at e4;rw[e4]
    have e6:(Nc.zip caps)[i]?=some (x,some j):=by
     rw[List.getElem?_zip_eq_some];exact⟨e1,hc⟩
    have e7:=List.all_eq_true.mp hcap _ (mem_of_getElem? e6);simp only[Bool.and_eq_true,beq_iff_eq,List.contains_iff_mem] at e7;obtain⟨⟨⟨a1,a2⟩,a3⟩,a4⟩:=e7;obtain⟨m0,hn0,hl0⟩:=I.loc;obtain⟨u,r,l⟩:=hl0 j x v a1 e5 (.inr (.inl a2));exists u,r,.inr ⟨.inl (wR hk a3 a2),_,zaB a4,?_⟩;rcases l with ⟨z,_⟩|⟨_,c,ec,hcell⟩
    ·rw[a2] at z;cases z
    ·have:(X.env.cells.lookup x).getD 0=c:=by rw[ec];rfl
     rw[this];exact hcell.keeps keep
 ·obtain⟨v,hv⟩:=I.cell x c (B.sub h)
  exact⟨v,hv.keeps keep⟩
 ·show upd H D o0 C=none
  rw[zg (Ne.symm hDC)];exact fresh C hC
 ·obtain⟨v,hv⟩:=I.cell x c (B.sub h)
  have:c≠D:=fun z=>by have:=hv.lt;rw[z] at this;exact absurd (lt_of_lt_of_le this hD) (lt_irrefl _)
  rw[zg this];exact I.freeC x c (B.sub h)
 ·have hp':p∈X.pn++pins:=by simpa using hp
  obtain⟨e,n,ne,nf,d⟩:=I.pin p hp';have hlt:=I.pin_lt hp';exists keep _ _ e,?_,?_,fun z=>?_,d
  ·rw[zg (fun z=>by rw[z] at hlt;exact absurd (lt_of_lt_of_le hlt hD) (lt_irrefl _))];exact n
  ·intro z
   have z':p.1=C:=z;rw[z'] at hlt;exact absurd (lt_of_lt_of_le hlt hC) (lt_irrefl _)
  ·rcases List.mem_cons.mp (I.stkSub p.1 z) with q|q
   ·exact ne q
   ·exact nf q
 ·exact I.hok.laid keep hD new
 ·show(xl caps σ).length=Nc.length
  unfold xl;rw[length_map,hlen]
variable {prog:Program}{w:World}{A:Around}{R:Result->Shared->Prop}
theorem qc{kx vx target iter:Expr}{ifs:List Expr}{scope:Scope}{pos:Pos}{it:Value}{D:Addr}{env:Env}(I:Nat->Shared->Prop)
  (turn:∀n s,I n s->wpAny (model prog w) A (pyNext it) (fun r s₁=>match r with
   | none=>R (.ok .next) s₁
   | some v=>wpAny (model prog w) A (letOwnedTupleGo target it v) (fun _ s₀=>wpAny (model prog w) A (assign target env v) (fun _ s₂=>
     wpAny (model prog w) A (forIn ifs true fun c r=>if r=true then do let ok <- isTrue c env (eval c env);pure (ForInStep.yield ok) else pure (ForInStep.yield r)) (fun ok s₃=>
      if ok=true then wpAny (model prog w) A (eval kx env) (fun kv s₄=>wpAny (model prog w) A (eval vx env) (fun vv s₅=>
       wpAny (model prog w) A (dictSet D kv vv) (fun _ s₆=>∃m,m<n/\I m s₆) (fun _ _=>False) s₅) (fun _ _=>False) s₄) (fun _ _=>False) s₃
      else ∃m,m<n/\I m s₃) (fun _ _=>False) s₂) (fun _ _=>False) s₀) (fun _ _=>False) s₁) (fun _ _=>False) s)
  (n:Nat) (h:I n s) :
  codeAny (model prog w) A (.compLoop (.DictComp kx vx [⟨target,iter,ifs,0⟩] scope pos) 0 it (.ref D) env) R s:=by
 refine codeAny_loop rfl I (fun n s hI=>?_) n h;show wpAny _ A ((compTurn (.DictComp kx vx [⟨target,iter,ifs,0⟩] scope pos) 0 it (.ref D) env).onRaise (fun x=>do noteFrame x env;theTreesLotGoes x)) _ _ s
 refine wpAny_noted ?_;rw[compTurn_dict];refine zwb (wpAny_standAt (zwb (wpAny_mono (turn n s hI) (fun r s₁ h₁=>?_) fun _ _ z=>z.elim)));cases r with
 | none=>exact zwp h₁
 | some v=>
  refine zwb (wpAny_mono h₁ (fun _ s₀ h₀=>?_) fun _ _ z=>z.elim);refine zwb (wpAny_mono h₀ (fun _ s₂ h₂=>zwb (wpAny_mono h₂ (fun ok s₃ h₃=>?_) fun _ _ z=>z.elim)) fun _ _ z=>z.elim);cases ok with
  | false=>exact zwp ⟨rfl,h₃⟩
  | true=>
   exact zwb (zwb (wpAny_mono h₃ (fun kv s₄ h₄=>zwb (wpAny_holding (wpAny_mono h₄ (fun vv s₅ h₅=>zwb (wpAny_standAt (wpAny_holding (wpAny_mono h₅ (fun _ s₆ h₆=>zwp ⟨rfl,h₆⟩) fun _ _ z=>z.elim)))) fun _ _ z=>z.elim))) fun _ _ z=>z.elim))
def DCr(J:It)(caps:List (Option Nat))(g:TG)(tt:TT)(tk tv:TE)(σ : St)(H1:Hp)(Q:VK)(D:Addr):Prop:=
 ∃W:Nat->Nat->List (Key×V)->Hp->Prop,(∃m,W 0 m [] (upd H1 D (.dK [])))/\∀i m ys H,W i m ys H->
  (J.stop i H/\Q (.ref D) H)\/
  (J.go i H/\∀x H',J.yld i H x H'->g x (xl caps σ) H' fun σ2 H2=>tt σ2 H2 fun ok H3=>
   (ok=true->tk σ2 H3 fun y H4=>tv σ2 H4 fun v H5=>∃k,y=kV k/\H5 D=some (.dK ys)/\ys.length<sizeLine/\∃m',m'<m/\W (i+1) m' (y6 ys k v) (upd H5 D (.dK (y6 ys k v))))/\
   (ok=false->∃m',m'<m/\W (i+1) m' ys H3))
def tDC(wi:TI)(caps:List (Option Nat))(g:TG)(tt:TT)(tk tv:TE):TE:=fun σ H Q=>wi σ H fun J H1=>∀D,H1 D=none->DCr J caps g tt tk tv σ H1 Q D
end
section
variable {X:Cx}{pins:PnL}{σ:St}{s:Shared}{sc:Scope}{fr Nc:List Str}{caps:List (Option Nat)}{kx vx tg iter:Expr}{ifs:List Expr}{g:TG}{tt:TT}{tk tv:TE}{ow:List Nat}{pos pos2:Pos}{E:VSP}
theorem zjv{H:Hp}(I:Inv X pins σ H s):sysModules<s.heap.objs.size:=I.big
theorem zdX{H2:Hp}{it:Addr}{fp:List Addr}{tn:Nat->Heap->Prop}{J:It}{Q:VK}{RR:Value->Addr->Result->Shared->Prop}
  (hc:X.calm=true) (B:yQ X.env sc fr) (go:zbv g ow) (how:(ow.all fun i=>caps[i]?==some none)=true) (hcap:vo X.N Nc caps X.env sc fr=true) (hlen:caps.length=Nc.length)
  (hb:∀(pins:PnL) (fp:List Addr) (s:Shared) (H:Hp) (C:Addr),PG (yb X pins sc fr Nc fp s H C) tg g/\PIf (yb X pins sc fr Nc fp s H C) ifs tt/\PE (yb X pins sc fr Nc fp s H C) kx tk/\PE (yb X pins sc fr Nc fp s H C) vx tv)
  (I2:Inv X pins σ H2 s) (T:qg X.prog X.w X.K tg J fp it tn) (st2:tn 0 s.heap) (f2:∀b∈fp,vc X pins H2 b) (h:∀D,H2 D=none->DCr J caps g tt tk tv σ H2 Q D)
  (fin:∀(D C:Addr) (σ':St) (H':Hp) (s':Shared),Inv (yb X pins sc fr Nc fp s H2 C) [] σ' H' s'->Q (.ref D) H'->RR (.ref D) C (.ok .next) s') :
  wpAny (model X.prog X.w) X.A newDict (fun acc s₃=>wpAny (model X.prog X.w) X.A (newFunctionEnv sc X.env.globals (clB X.env fr) [] X.env.qual none .none (some X.env)) (fun cenv s₄=>
   codeAny (model X.prog X.w) X.A (.compStart (.DictComp kx vx [⟨tg,iter,ifs,0⟩] sc pos) 0 (.ref it) acc { cenv with scope:=relabel sc X.env }) (RR acc cenv.locals) s₄) E s₃) E s:=by
 have hcell:∀y∈sc.names,y.2≠.cell:=fun y hy=>by
  have h3:=List.all_eq_true.mp B.names _ hy;simp only[Bool.and_eq_true,bne_iff_ne,ne_eq] at h3;exact h3.1.1
 refine wpAny_newObj_type (wpAny_newFunctionEnv hcell (by intro y hy;simp at hy) (fun h₁ hns₁ hsb₁=>?_) B.kind)
 dsimp only at hns₁ hsb₁ |-;have hnew:(s.heap.push { cls:=.type "dict",dict:=none,data:=.dict #[] }).DictOf (yp X.prog X.w) s.heap.objs.size []:=Heap.DictOf.new s.heap;generalize hH2:s.heap.push { cls:=.type "dict",dict:=none,data:=.dict #[] }=H3 at hns₁ hsb₁ hnew |-;have hCs:H3.objs.size=s.heap.objs.size+1:=by rw[<- hH2,Heap.size_push]
 have hDC:s.heap.objs.size≠H3.objs.size:=by rw[hCs];exact ne_of_lt (lt_succ_self _)
 have hC:s.heap.objs.size<=H3.objs.size:=by rw[hCs];exact le_succ _
 have old:∀b o,s.heap.get? b=some o->h₁.get? b=some o:=fun b o e=>
  hsb₁.extBut b o (ne_of_lt (lt_of_lt_of_le (Heap.lt_size e) hC)) (zgp _ (hH2 ▸ zgp _ e))
 have hsm:sysModules<s.heap.objs.size:=zjv I2;have hD:h₁.DictOf (yp X.prog X.w) s.heap.objs.size []:=hnew.at fun o e=>hsb₁.extBut _ _ hDC (zgp _ e);have hDo:∀H',yu X.prog X.w H' h₁ s.heap.objs.size (.dK []):=fun _=>⟨zero_le _,beq_eq_false_iff_ne.mpr (Ne.symm (ne_of_lt hsm)),[],.nil,hD⟩;have ho:∀b∈fp,∃o,s.heap.get? b=some o:=fun b hb'=>let ⟨o,e,_⟩:=T.obj 0 _ st2 b hb';⟨o,e⟩;have I4:∀t',Inv (yb X pins sc fr Nc fp s H2 H3.objs.size) [] (xl caps σ) (upd H2 s.heap.objs.size (.dK [])) { s with heap:=h₁,toks:=t' }:=fun t'=>
  zbo I2 B f2 ho hC (le_refl _) hDC old (hDo _) hns₁ hcap hlen
 have ok:=(I4 0).ok;obtain⟨hbg,hbt,hbk,hbv⟩:=hb pins fp s H2 H3.objs.size;obtain⟨W,⟨m0,w0⟩,turn⟩:=h s.heap.objs.size (I2.hok.fresh (le_refl _));have stat:∀{H':Hp},(∀b∈fp,H' b=none)->∀b∈fp,vc (yb X pins sc fr Nc fp s H2 H3.objs.size) [] H' b:=fun hn b hb'=>
  ⟨hn b hb',(ok.exf b hb').1,ok.exfs b hb',.inl hb',(ok.exf b hb').2,fun p hp=>(f2 b hb').2.2.2.2.2 p (by simpa using hp)⟩
 have hfp0:∀b∈fp,upd H2 s.heap.objs.size (.dK []) b=none:=fun b hb'=>by
  obtain⟨o,e⟩:=ho b hb';rw[zg (ne_of_lt (Heap.lt_size e))];exact(f2 b hb').1
 have loop:∀s₃:Shared,s₃={ s with heap:=h₁,toks:=s.toks+([]:List (Str×Value)).length }->
   codeAny (model X.prog X.w) X.A (.compLoop (.DictComp kx vx [⟨tg,iter,ifs,0⟩] sc pos) 0 (.ref it) (.ref s.heap.objs.size) (compEnvC sc (clB X.env fr) H3.objs.size X.env)) (RR (.ref s.heap.objs.size) H3.objs.size) s₃:=by
  rintro s₃ rfl;refine qc (fun n s'=>∃i σ' H' ys,Inv (yb X pins sc fr Nc fp s H2 H3.objs.size) [] σ' H' s'/\tn i s'.heap/\(∀b∈fp,H' b=none)/\W i n ys H'/\
   (∀(k:Nat) (v:V),(xl caps σ)[k]?=some (some v)->σ'[k]?=some (some v))) ?_ m0
   ⟨0,_,_,[],I4 _,T.keep _ _ _ st2 (fun b _ o e=>old b o e),hfp0,w0,fun _ _ e=>e⟩
  rintro n s3 ⟨i,σ3,H4,ys,I3,st3,fr3,w3,wk3⟩;have I3':Inv (yb X pins sc fr Nc fp s H2 H3.objs.size) [] (xl caps σ) H4 s3:=I3.weak (by rw[I3.len];exact(I4 0).len) wk3
  rcases turn i n ys H4 w3 with ⟨stop,qn⟩|⟨gg,step⟩
  ·refine thn (T.done (yb X pins sc fr Nc fp s H2 H3.objs.size) rfl rfl rfl hc i [] s3 _ H4 (fun _ _=>False) I3' (stat fr3) st3 stop) fun r s4 ⟨hr,I4'⟩=>?_
   subst hr;exact fin _ _ _ _ _ I4' qn
  ·refine thn (T.item (yb X pins sc fr Nc fp s H2 H3.objs.size) rfl rfl rfl hc i [] s3 _ H4 (fun _ _=>False) I3' (stat fr3) st3 gg) fun r s4 ⟨u,hr,h4⟩=>?_
   subst hr;refine thn h4 fun _ s5 ⟨x,H5,I5,r5,y5,st5,fr5⟩=>?_;have I5':=I5.pinned (stat fr5) (T.obj _ _ st5);refine thn (hbg _ s5 _ H5 x u _ I5' r5 (go _ _ _ _ (step x H5 y5))) fun _ s6 ⟨σ6,H6,I6,q6,l6,k6⟩=>?_;have wk6:∀(k:Nat) (v:V),(xl caps σ)[k]?=some (some v)->σ6[k]?=some (some v):=fun k v e=>by
    rw[k6 k fun hk=>?_]
    ·exact e
    ·have h1:=List.all_eq_true.mp how k hk
     have h2:caps[k]?=some none:=by simpa using h1
     unfold xl at e;rw[getElem?_map,h2] at e;cases e
   refine thn (hbt _ s6 σ6 H6 _ I6 q6) fun ok s7 ⟨H7,I7,q7⟩=>?_;have again:∀{H8:Hp}{s8:Shared}{ys':List (Key×V)},Inv (yb X pins sc fr Nc fp s H2 H3.objs.size) ([]++uJ fp s5.heap) σ6 H8 s8->(∃m',m'<n/\W (i+1) m' ys' H8)->
     ∃m,m<n/\∃i σ' H' ys,Inv (yb X pins sc fr Nc fp s H2 H3.objs.size) [] σ' H' s8/\tn i s8.heap/\(∀b∈fp,H' b=none)/\W i m ys H'/\(∀(k:Nat) (v:V),(xl caps σ)[k]?=some (some v)->σ'[k]?=some (some v)):=fun {H8 s8 ys'} I8 ⟨m',hm,w8⟩=>by
    exists m',hm,i+1,σ6,H8,ys',I8.unpinned,T.keep _ _ _ st5 fun b hb' o e=>(I8.pin (b,o) (mem_append_right _ (mem_append_right _ (xG hb' e)))).1,fun b hb'=>?_,w8,wk6;obtain⟨o,e,d⟩:=T.obj _ _ st5 b hb';exact(I8.pin (b,o) (mem_append_right _ (mem_append_right _ (xG hb' e)))).2.1
   cases ok with
   | false=>
    rw[if_neg zft];exact again I7 (q7.2 rfl)
   | true=>
    rw[if_pos rfl];refine thn (hbk _ s7 σ6 H7 _ I7 (q7.1 rfl)) fun uk s8 ⟨y,H8,I8,r8,q8⟩=>?_;refine thn (hbv _ s8 σ6 H8 _ I8 q8) fun uv s9 ⟨v,H9,I9,r9,k,ey,hD9,hz,q9⟩=>?_;subst ey;obtain⟨z,hd,vs,rel,dd⟩:=zhT I9.hok hD9;have hzs:vs.length<=sizeLine:=by rw[<- rel.length];exact z
    have hl:(y6 ys k v).length<=sizeLine:=by have:=xP ys k v;omega
    refine wpAny_dictSet_pairs (hsz:=hzs) (jT r8) dd fun h' dd' hs=>?_;have he:∃q,h'.get? s.heap.objs.size=some q:=let ⟨q,_,_,hq,_⟩:=dd';⟨q,hq⟩;exact again (zaA I9 (by rw[hD9];exact True.intro) hs he (zfX hl hd (rel.put k r9) dd')) q9
 exact codeAny_compStart_dict (loop _ rfl) (T.self _ 0 _ _ _ (T.keep _ _ _ st2 (fun b _ o e=>old b o e)) (loop _ rfl))
theorem zjR{wi:TI}(fr Nc:List Str)(caps:List (Option Nat))(hc:X.calm=true)(B:yQ X.env sc fr)(hi:PI X tg iter wi)(go:zbv g ow)(how:(ow.all fun i=>caps[i]?==some none)=true)
  (hcap:vo X.N Nc caps X.env sc fr=true) (hlen:caps.length=Nc.length)
  (hb:∀(pins:PnL) (fp:List Addr) (s:Shared) (H:Hp) (C:Addr),PG (yb X pins sc fr Nc fp s H C) tg g/\PIf (yb X pins sc fr Nc fp s H C) ifs tt/\PE (yb X pins sc fr Nc fp s H C) kx tk/\PE (yb X pins sc fr Nc fp s H C) vx tv)
  (hs:∀x,foldedSetIterable iter X.env x=pure x:=by intro _;rfl):PE X (.DictComp kx vx [⟨tg,iter,ifs,0⟩] sc pos) (tDC wi caps g tt tk tv):=by
 exists ?_;intro pins s σ H Q I h;rw[arm_eval_DictComp];refine wpAny_comprehension_free (use:=none) rfl hs B.clos B.kind B.loc (thn (hi pins s σ H _ I h) fun v s1 h1=>thn h1 fun itv s2 h2=>?_);obtain⟨it,fp,tn,J,H2,e,I2,T,st2,f2,q⟩:=h2;subst e;refine zdX (RR:=fun acc C=>compPost (model X.prog X.w) X.A X.xe none (EP X pins σ Q) acc C) hc B go how hcap hlen hb I2 T st2 f2 q ?_;intro D C σ' H' s' J' qq;obtain⟨m,hn,_⟩:=J'.loc;exact⟨m,hn,fun h' hs'=>⟨.ref D,H',qP I2 J' (uP I2 f2 J') hs',rfl,qq⟩⟩
def eqT(xs ys:List V):Bool:=((List.range (min xs.length ys.length)).all fun j=>eqV (xs[j]?.getD .non) (ys[j]?.getD .non))&&xs.length==ys.length
end
end L2
namespace K62
open PySem L2 PyProof.Rows
def top(i:Nat):Stmt:=PySem.Challenge.pw_callbinds_k62_whole_calls_of_parts.main.body.getD i (.Pass ⟨0,0,0,0⟩)
abbrev zin:Stmt:=top 62
abbrev zeO:Stmt:=top 69
abbrev sIs:Stmt:=top 30
abbrev zbO:Stmt:=ym (top 47) 0
abbrev zeI:Stmt:=ym (top 47) 1
abbrev jy:Stmt:=ym (top 47) 2
abbrev zao:Stmt:=ym (top 47) 3
abbrev zij:Stmt:=ym (top 47) 4
abbrev zjI:Stmt:=ym (top 47) 5
abbrev zeA:Stmt:=ym (top 48) 0
abbrev zeN:Stmt:=ym (top 49) 0
abbrev zey:Stmt:=ym (top 50) 0
abbrev zik:Stmt:=ym (top 51) 0
abbrev ziu:Stmt:=ym (top 52) 0
abbrev zbW:Stmt:=ym (top 36) 0
abbrev zeG:Stmt:=ym (top 36) 1
abbrev zbV:Stmt:=ym (top 36) 2
abbrev zbX:Stmt:=ym (top 36) 3
abbrev jx:Stmt:=ym (top 36) 4
abbrev zbU:Stmt:=ym (top 36) 5
abbrev zeL:Stmt:=ym (top 36) 6
abbrev zeK:Stmt:=ym (top 36) 7
abbrev zis:Stmt:=ym (top 36) 8
abbrev zev:Stmt:=ym (top 9) 0
abbrev zim:Stmt:=top 53
abbrev zbM:Stmt:=top 38
abbrev zaj:Stmt:=top 39
abbrev zbN:Stmt:=top 40
abbrev zai:Stmt:=top 41
abbrev zeD:Stmt:=top 42
abbrev zeE:Stmt:=top 1
abbrev jv:Stmt:=top 17
abbrev zbL:Stmt:=top 18
abbrev zam:Stmt:=top 19
abbrev zio:Stmt:=top 20
abbrev zbP:Stmt:=top 21
abbrev zii:Stmt:=top 22
abbrev zeF:Stmt:=top 23
abbrev zeC:Stmt:=top 24
abbrev zah:Stmt:=top 26
abbrev zeB:Stmt:=top 67
abbrev zeJ:Stmt:=top 70
abbrev zbS:Stmt:=top 73
abbrev ziq:Stmt:=top 84
abbrev zez:Stmt:=top 63
abbrev zaf:Stmt:=top 64
abbrev zan:Stmt:=top 65
abbrev zew:Stmt:=top 66
abbrev zil:Stmt:=top 68
abbrev zag:Stmt:=top 71
abbrev zeH:Stmt:=top 72
abbrev zbR:Stmt:=top 74
abbrev zex:Stmt:=top 75
abbrev zbK:Stmt:=top 76
abbrev zit:Stmt:=top 77
abbrev zae:Stmt:=top 78
abbrev zeM:Stmt:=top 79
abbrev zbT:Stmt:=top 80
abbrev jw:Stmt:=top 81
abbrev zbY:Stmt:=top 82
abbrev zbQ:Stmt:=top 83
abbrev zal:Stmt:=ym (top 55) 0
abbrev ju:Stmt:=ym (top 55) 1
abbrev ua:Stmt:=ym (top 55) 2
abbrev zak:Stmt:=top 56
abbrev sOf:Stmt:=top 2
def low(c:Nat):Bool:=decide (97<=c)&&decide (c<=122)
def xn(z:Str):Bool:=decide (1<=z.length)&&decide (z.length<=8)&&z.cps.toList.all low
def nmV:V->Bool
 | .str z=>xn z
 | _=>false
def OkS(z:Str):Prop:=z.length<=1000/\∀c∈z.cps.toList,c<128
def OkV(K:Frag)(H:Hp)(x:V):Prop:=(∃z,x=.str z/\OkS z)\/(nmV x=false/\∃t,wP K H x t/\kitOne K t (.type "str")=some false)
theorem qy{z:Str}:xn z=true ↔ 1<=z.length/\z.length<=8/\∀c∈z.cps.toList,97<=c/\c<=122:=by
 unfold xn low;simp only[Bool.and_eq_true,decide_eq_true_eq,all_eq_true];constructor
 ·rintro⟨⟨a,b⟩,c⟩;exact⟨a,b,c⟩
 ·rintro⟨a,b,c⟩;exact⟨⟨a,b⟩,c⟩
theorem jN{z:Str}(h:z.length=0\/9<=z.length):xn z=false:=by
 cases e:xn z with
 | false=>rfl
 | true=>
  have:=qy.mp e
  omega
theorem za5{z:Str}(h:xn z=true):OkS z:=by
 obtain⟨_,h2,h3⟩:=qy.mp h;exact⟨by omega,fun c hc=>by have:=h3 c hc;omega⟩
def letters:Str:="abcdefghijklmnopqrstuvwxyz"
theorem zcc:∀c:Nat,c<128->(!(Builtin.Str.occurrences letters ⟨#[c]⟩ 0 letters.length 1).isEmpty)=low c:=by decide +kernel
theorem zd{H:Hp}{p:Addr}(h:H p=none)(o:HO):zq H (upd H p o):=fun b u q=>by rw[zg (zi q h)];exact q
theorem zdn{K:Frag}{H H':Hp}{x:V}{t:Value}(s:zq H H')(h:wP K H x t):wP K H' x t:=by
 cases h with
 | non=>exact .non
 | bl b=>exact .bl b
 | int i=>exact .int i
 | str z=>exact .str z
 | flt z=>exact .flt z
 | lst e=>exact .lst (s _ _ e)
 | frz e=>exact .frz (s _ _ e)
 | tup e=>exact .tup (s _ _ e)
 | dK e=>exact .dK (s _ _ e)
 | dT e=>exact .dT (s _ _ e)
 | ins e a b c d f=>exact .ins (s _ _ e) a b c d f
theorem OkV.same{K:Frag}{H H':Hp}{x:V}(s:zq H H')(h:OkV K H x):OkV K H' x:=by
 rcases h with h|⟨h,t,ty,e⟩
 ·exact .inl h
 ·exact .inr ⟨h,t,zdn s ty,e⟩
theorem nd1:([Str.ofString "sign"]:List Str).Nodup:=by decide +kernel
inductive zh5(K:Frag)(vs:List V)(H:Hp)(Q:VK)(E:XK):Prop|mk(x:_):vs=[x]->OkV K H x->(∀H',zq H H'->Q (.bl (nmV x)) H')->zh5 K vs H Q E
structure zki(K:Frag)(mg:Str->Option Value):Prop where
 isi:mg "isinstance"=none
 str:mg "str"=none
 bool:mg "bool"=none
 len:mg "len"=none
 all:mg "all"=none
 range:mg "range"=none
 letters:∃t,mg "LETTERS"=some (.str letters t)
 longest:∃t,mg "LONGEST"=some (.int 8 t)
 kNon:kitOne K (.type "NoneType") (.type "str")=some false
 kInt:kitOne K (.type "int") (.type "str")=some false
 kBl:kitOne K (.type "bool") (.type "str")=some false
 kLst:kitOne K (.type "list") (.type "str")=some false
 kTup:kitOne K (.type "tuple") (.type "str")=some false
 kDct:kitOne K (.type "dict") (.type "str")=some false
 kStr:kitOne K (.type "str") (.type "str")=some true
 bBl:kitOne K (.type "bool") (.type "bool")=some true
section
variable {P:Program}{w:World}{K:Frag}{mg:Str->Option Value}{base:Heap}{f:Addr}{fd:FuncData}
theorem zkz:zu ["thing"] ["thing"] (zj sIs):=fsc
theorem zjW(F:Fun K "is_name" "is_name" sIs f fd)(T:zki K mg):zA P w K mg base CX0 1 f fd ["thing"] (zh5 K):=by
 refine F.ok zkz (fun cdv A outer s H vs Q E hr h=>?_);obtain⟨x,rfl,hx,q⟩:=h;obtain⟨tL,hL⟩:=T.letters;obtain⟨tN,hN⟩:=T.longest;refine⟨_,zk (zT (wq (jB (wj (y7 (cB vp T.isi boot_isinstance (ac (pv 0) (ac (zaq (v:=.ty "str") rfl T.str PyProof.Rows.boot_str rfl) zc)))))
   (jA (wj (zeT zhP zhP ze (cB zaC T.len PySem.boot_len (ac (pv 0) zc)) (wy (v:=.int 8) rfl hN ⟨_,rfl⟩))))))
   (zf (zy vi)) zG)
  (zf (zy (cB (zd2 rfl) T.all boot_all (ac (wx [] ["sign"] [none] rfl ⟨rfl,rfl,rfl,rfl⟩ (zeX (pv 0)) (ye 0) rfl rfl rfl
   (fun pins fp s H C=>⟨zr (i:=0) nd1 rfl (Or.inl rfl) (.inr rfl),yH,wz zdD (pv 0) (wy (v:=.str letters) rfl hL ⟨_,rfl⟩) (by with_unfolding_all rfl)⟩)) zc)))),?_⟩
 rcases hx with ⟨z,rfl,hz1,hz2⟩|⟨hn,t,ty,e⟩
 ·exists _,rfl,_,_,_,_,rfl,.str z,T.kStr,_,rfl,?_
  refine xz ?_;exists _,rfl,z,rfl,le_trans hz1 (by decide),_,_,rfl,rfl,_,rfl,?_
  have no:xn z=false->Q (.bl false) H:=fun e=>by
   have:=q H (zq.refl H)
   have e':nmV (.str z)=false:=e;rw[e'] at this;exact this
  refine vN (fun c=>?_) (fun c=>?_)
  ·have c':(1:Int)<=(z.length:Int):=of_decide_eq_true c
   exists _,_,rfl,rfl,_,rfl,?_;by_cases h8:(z.length:Int)<=8
   ·rw[decide_eq_true h8]
    refine xz ?_;exists _,rfl,z,rfl,fun D hD=>?_;exists fun i m ys H'=>i<=z.cps.size/\m=z.cps.size - i/\ys=(z.cps.toList.take i).map (fun c=>V.bl (low c))/\H'=upd H D (.lst ys),⟨_,zero_le _,rfl,rfl,rfl⟩,?_;rintro i m ys H' ⟨hi,rfl,rfl,rfl⟩;by_cases he:i=z.cps.size
    ·subst he
     refine .inl ⟨le_refl _,?_⟩;exists D,z.cps.toList.map low,rfl,zh ?_,?_
     ·rw[za,take_of_length_le (by simp),map_map]
      rfl
     ·have e:(z.cps.toList.map low).all id=nmV (.str z):=by
       show _=xn z;unfold xn;rw[decide_eq_true (show 1<=z.length by omega),decide_eq_true (show z.length<=8 by omega),List.all_map]
       rfl
      rw[e];exact q _ (zd hD _)
    ·refine .inr ⟨by show i<z.cps.size;omega,?_⟩
     rintro x H' ⟨rfl,c,hc,rfl⟩;exists fun _=>?_,fun e=>Bool.noConfusion e;exists _,rfl,_,_,rfl,rfl,za,?_,z.cps.size - (i+1),by omega,by omega,rfl,?_,?_
     ·rw[length_map,length_take]
      have:z.cps.size<=1000:=hz1
      exact zK (by omega)
     ·have hc':z.cps.toList[i]?=some c:=by simpa using hc
      have hlow:=zcc c (hz2 c (mem_of_getElem? hc'));rw[hlow,take_add_one,hc',map_append];rfl
     ·rw[ja]
   ·rw[decide_eq_false h8]
    refine uc ?_;exact no (jN (.inr (by omega)))
  ·have c':¬(1:Int)<=(z.length:Int):=of_decide_eq_false (Bool.eq_false_iff.mpr c)
   exists _,rfl,?_;exact uc (no (jN (.inl (by omega))))
 ·exists _,rfl,_,_,_,_,rfl,ty,e,_,rfl,?_
  refine uc ?_;refine uc ?_
  have:=q H (zq.refl H)
  rw[hn] at this;exact this
theorem dT{A B:Prop}{c:Prop}[Decidable c](h:c)(a:A):if decide c=true then A else B:=by rw[decide_eq_true h];exact uc a
theorem dF{A B:Prop}{c:Prop}[Decidable c](h:¬c)(b:B):if decide c=true then A else B:=by rw[decide_eq_false h];exact xz b
def kw:Nat->Str
 | 0=>"seat"|1=>"both"|2=>"tail"|3=>"tag"|_=>"bag"
def ziv(k:Nat)(x:V)(b:Bool):List V:=match k with
 | 0=>[.str "seat",x,.bl b]|1=>[.str "both",x,.bl b]|2=>[.str "tail",x]|3=>[.str "tag",x,.bl b]|_=>[.str "bag",x]
def fr(k:Nat)(b:Bool):Bool:=match k with
 | 0=>b|1=>b|2=>true|3=>b|_=>true
theorem lt5{k:Nat}(h:k<5):k=0\/k=1\/k=2\/k=3\/k=4:=by omega
def pf(wd:Str)(x:V)(b:Bool):List (Str×V):=zN "may_lack" (.bl b) (zN "name" x (zN "word" (.str wd) []))
theorem uq{wd:Str}{x:V}{b:Bool}:(pf wd x b).lookup ("word" : Str)=some (.str wd):=by
 unfold pf;rw[zo,if_neg (by decide +kernel),zo,if_neg (by decide +kernel),zo,if_pos rfl]
theorem jf{wd:Str}{x:V}{b:Bool}:(pf wd x b).lookup ("name" : Str)=some x:=by
 unfold pf;rw[zo,if_neg (by decide +kernel),zo,if_pos rfl]
theorem zgx{wd:Str}{x:V}{b:Bool}:(pf wd x b).lookup ("may_lack" : Str)=some (.bl b):=by
 unfold pf;rw[zo,if_pos rfl]
theorem qv{wd:Str}{x:V}{b:Bool}{m:Str}(h1:¬m="may_lack")(h2:¬m="name")(h3:¬m="word"):(pf wd x b).lookup m=none:=by
 unfold pf;rw[zo,if_neg h1,zo,if_neg h2,zo,if_neg h3];rfl
structure MA where
 (fF fP fB fT fO:Addr)
structure PC(K:Frag)(m:MA)(C:Addr):Prop where
 cl:Cls K C
 nW:yt K C "word"
 nN:yt K C "name"
 nM:yt K C "may_lack"
 mF:xw K C "free" m.fF
 mP:xw K C "by_place" m.fP
 mB:xw K C "by_name" m.fB
 mT:xw K C "takes_one" m.fT
 mO:xw K C "told" m.fO
inductive spP(K:Frag)(m:MA)(vs:List V)(H:Hp)(Q:VK)(E:XK):Prop|mk(p dx C:Addr)(wd:Str)(x:V)(b:Bool):vs=[.ref p,.str wd,x,.bl b]->H p=some (.ins C dx [])->PC K m C->OkV K H x->nmV x=true->(∀H1,zq H H1->Q .non (upd H1 p (.ins C dx (pf wd x b))))->spP K m vs H Q E
inductive spS(K:Frag)(C:Addr)(wd:Str)(vs:List V)(H:Hp)(Q:VK)(E:XK):Prop|mk(p dx:Addr)(x:V)(b:Bool):vs=[.ref p,x,.bl b]->H p=some (.ins C dx [])->OkV K H x->nmV x=true->(∀H1,zq H H1->Q .non (upd H1 p (.ins C dx (pf wd x b))))->spS K C wd vs H Q E
inductive spT(K:Frag)(C:Addr)(wd:Str)(vs:List V)(H:Hp)(Q:VK)(E:XK):Prop|mk(p dx:Addr)(x:V):vs=[.ref p,x]->H p=some (.ins C dx [])->OkV K H x->nmV x=true->(∀H1,zq H H1->Q .non (upd H1 p (.ins C dx (pf wd x true))))->spT K C wd vs H Q E
def bpL:List V:=[.str "seat",.str "both"]
def bnL:List V:=[.str "both",.str "tag"]
def otL:List V:=[.str "seat",.str "both",.str "tag"]
inductive zbE(K:Frag)(m:MA)(vs:List V)(H:Hp)(Q:VK)(E:XK):Prop|mk(p dx C:Addr)(wd:Str)(x:V)(b:Bool):vs=[.ref p]->PC K m C->H p=some (.ins C dx (pf wd x b))->(Q (.bl b) H)->zbE K m vs H Q E
inductive qY(K:Frag)(m:MA)(l:List V)(vs:List V)(H:Hp)(Q:VK)(E:XK):Prop|mk(p dx C:Addr)(wd:Str)(x:V)(b:Bool):vs=[.ref p]->PC K m C->H p=some (.ins C dx (pf wd x b))->(Q (.bl (inV (.str wd) l)) H)->qY K m l vs H Q E
structure Wds(K:Frag)(mg:Str->Option Value)(tP tB tO:Addr):Prop where
 mP:mg "BY_PLACE"=some (.ref tP)
 mB:mg "BY_NAME"=some (.ref tB)
 mO:mg "OF_ONE_THING"=some (.ref tO)
 hP:∀H,SqT K H tP bpL
 hB:∀H,SqT K H tB bnL
 hO:∀H,SqT K H tO otL
variable {C tP tB tO:Addr}{m:MA}
theorem zgi:zu ["self","word","name","may_lack"] ["self","word","name","may_lack"] (zj zbO):=fsc
theorem zfg{g:Addr}{gd:FuncData}(F:Fun K "__init__" "Parameter.__init__" zbO f fd)(cI:zE P w K mg base 1 "is_name" g gd ["thing"] (zh5 K)):
  zA P w K mg base CX0 2 f fd ["self","word","name","may_lack"] (spP K m):=by
 refine F.ok zgi (fun cdv A outer s H vs Q E hr h=>?_);obtain⟨p,dx,C,wd,x,b,rfl,hp,c,hx,q1,q2⟩:=h;refine⟨_,zk (zT (wj (y7 (cF cI hr (ac (pv 2) zc)))) (zf vB) zG)
  (zk (xT (pv 0) (pv 1) rfl) (zk (xT (pv 0) (pv 2) rfl) (zf (xT (pv 0) (pv 3) rfl)))),?_⟩
 exists _,rfl,x,rfl,hx,fun H1 s1=>⟨_,rfl,?_⟩;rw[q1];refine xz ?_;exists _,rfl,_,rfl,p,C,dx,[],rfl,s1 _ _ hp,c.cl,c.nW,(by show 0<1000;decide),?_
 exists _,rfl,_,rfl,p,C,dx,_,rfl,za,c.cl,c.nN,(by show 1<1000;decide),?_
 exists _,rfl,_,rfl,p,C,dx,_,rfl,za,c.cl,c.nM,(by show 2<1000;decide),?_
 rw[ja,ja];exact q2 _ s1
theorem zib:zu ["self","name","free"] ["self","name","free"] (zj zeA):=fsc
theorem zgO{g D:Addr}{gd:FuncData}{ds:List Value}(F:qi K "__init__" "Seat.__init__" zeA f fd ds)(c:PC K m C)(B:j5 K D "__init__" g)(mD:mg "Parameter"=some (.ref D))(G:zA P w K mg base CX0 2 g gd ["self","word","name","may_lack"] (spP K m))(bg:z8 K gd ["self","word","name","may_lack"] []):
  zA P w K mg base CX0 3 f fd ["self","name","free"] (spS K C "seat"):=by
 refine F.ok zib (fun vs H Q E h=>?_) (fun cdv A outer s H vs Q E hr h=>?_)
 ·obtain⟨p,dx,x,b,rfl,_⟩:=h
  rfl
 obtain⟨p,dx,x,b,rfl,hp,hx,q1,q2⟩:=h;exists _,zf (zI (zaZ B mD G hr bg yo (ac (pv 0) (ac zw (ac (pv 1) (ac (pv 2) zc)))))),?_;exact⟨_,rfl,_,rfl,_,rfl,p,dx,C,_,x,b,rfl,hp,c,hx,q1,q2⟩
theorem zih:zu ["self","name","free"] ["self","name","free"] (zj zeN):=fsc
theorem zg1{g D:Addr}{gd:FuncData}{ds:List Value}(F:qi K "__init__" "Both.__init__" zeN f fd ds)(c:PC K m C)(B:j5 K D "__init__" g)(mD:mg "Parameter"=some (.ref D))(G:zA P w K mg base CX0 2 g gd ["self","word","name","may_lack"] (spP K m))(bg:z8 K gd ["self","word","name","may_lack"] []):
  zA P w K mg base CX0 3 f fd ["self","name","free"] (spS K C "both"):=by
 refine F.ok zih (fun vs H Q E h=>?_) (fun cdv A outer s H vs Q E hr h=>?_)
 ·obtain⟨p,dx,x,b,rfl,_⟩:=h
  rfl
 obtain⟨p,dx,x,b,rfl,hp,hx,q1,q2⟩:=h;exists _,zf (zI (zaZ B mD G hr bg yo (ac (pv 0) (ac zw (ac (pv 1) (ac (pv 2) zc)))))),?_;exact⟨_,rfl,_,rfl,_,rfl,p,dx,C,_,x,b,rfl,hp,c,hx,q1,q2⟩
theorem zjF:zu ["self","name","free"] ["self","name","free"] (zj zik):=fsc
theorem ziM{g D:Addr}{gd:FuncData}{ds:List Value}(F:qi K "__init__" "Tag.__init__" zik f fd ds)(c:PC K m C)(B:j5 K D "__init__" g)(mD:mg "Parameter"=some (.ref D))(G:zA P w K mg base CX0 2 g gd ["self","word","name","may_lack"] (spP K m))(bg:z8 K gd ["self","word","name","may_lack"] []):
  zA P w K mg base CX0 3 f fd ["self","name","free"] (spS K C "tag"):=by
 refine F.ok zjF (fun vs H Q E h=>?_) (fun cdv A outer s H vs Q E hr h=>?_)
 ·obtain⟨p,dx,x,b,rfl,_⟩:=h
  rfl
 obtain⟨p,dx,x,b,rfl,hp,hx,q1,q2⟩:=h;exists _,zf (zI (zaZ B mD G hr bg yo (ac (pv 0) (ac zw (ac (pv 1) (ac (pv 2) zc)))))),?_;exact⟨_,rfl,_,rfl,_,rfl,p,dx,C,_,x,b,rfl,hp,c,hx,q1,q2⟩
theorem zia:zu ["self","name"] ["self","name"] (zj zey):=fsc
theorem zgM{g D:Addr}{gd:FuncData}(F:Fun K "__init__" "Tail.__init__" zey f fd)(c:PC K m C)(B:j5 K D "__init__" g)(mD:mg "Parameter"=some (.ref D))(G:zA P w K mg base CX0 2 g gd ["self","word","name","may_lack"] (spP K m))(bg:z8 K gd ["self","word","name","may_lack"] []):
  zA P w K mg base CX0 3 f fd ["self","name"] (spT K C "tail"):=by
 refine F.ok zia (fun cdv A outer s H vs Q E hr h=>?_);obtain⟨p,dx,x,rfl,hp,hx,q1,q2⟩:=h;exists _,zf (zI (zaZ B mD G hr bg yo (ac (pv 0) (ac zw (ac (pv 1) (ac vi zc)))))),?_;exact⟨_,rfl,_,rfl,p,dx,C,_,x,true,rfl,hp,c,hx,q1,q2⟩
theorem zjH:zu ["self","name"] ["self","name"] (zj ziu):=fsc
theorem ziX{g D:Addr}{gd:FuncData}(F:Fun K "__init__" "Bag.__init__" ziu f fd)(c:PC K m C)(B:j5 K D "__init__" g)(mD:mg "Parameter"=some (.ref D))(G:zA P w K mg base CX0 2 g gd ["self","word","name","may_lack"] (spP K m))(bg:z8 K gd ["self","word","name","may_lack"] []):
  zA P w K mg base CX0 3 f fd ["self","name"] (spT K C "bag"):=by
 refine F.ok zjH (fun cdv A outer s H vs Q E hr h=>?_);obtain⟨p,dx,x,rfl,hp,hx,q1,q2⟩:=h;exists _,zf (zI (zaZ B mD G hr bg yo (ac (pv 0) (ac zw (ac (pv 1) (ac vi zc)))))),?_;exact⟨_,rfl,_,rfl,p,dx,C,_,x,true,rfl,hp,c,hx,q1,q2⟩
theorem zie:zu ["self"] ["self"] (zj zeI):=fsc
theorem zgX(F:Fun K "free" "Parameter.free" zeI f fd):zA P w K mg base CX0 1 f fd ["self"] (zbE K m):=by
 refine F.ok zie (fun cdv A outer s H vs Q E hr h=>?_);obtain⟨p,dx,C,wd,x,b,rfl,c,hp,q⟩:=h;exists _,zf (zy (yE (pv 0) rfl)),?_;exact⟨_,rfl,p,C,dx,_,_,rfl,hp,c.cl,c.nM,zgx,q⟩
theorem zdv:zu ["self"] ["self"] (zj jy):=fsc
theorem za3(F:Fun K "by_place" "Parameter.by_place" jy f fd)(Wd:Wds K mg tP tB tO):zA P w K mg base CX0 1 f fd ["self"] (qY K m bpL):=by
 refine F.ok zdv (fun cdv A outer s H vs Q E hr h=>?_);obtain⟨p,dx,C,wd,x,b,rfl,c,hp,q⟩:=h;exists _,zf (zy (wz xr (yE (pv 0) rfl) (wy (v:=.ref tP) rfl Wd.mP rfl) (by with_unfolding_all rfl))),?_
 exact⟨_,rfl,p,C,dx,_,_,rfl,hp,c.cl,c.nW,uq,tP,bpL,rfl,.inr (Wd.hP H),rfl,(by decide),q⟩
theorem zeu:zu ["self"] ["self"] (zj zao):=fsc
theorem zb7(F:Fun K "by_name" "Parameter.by_name" zao f fd)(Wd:Wds K mg tP tB tO):zA P w K mg base CX0 1 f fd ["self"] (qY K m bnL):=by
 refine F.ok zeu (fun cdv A outer s H vs Q E hr h=>?_);obtain⟨p,dx,C,wd,x,b,rfl,c,hp,q⟩:=h;exists _,zf (zy (wz xr (yE (pv 0) rfl) (wy (v:=.ref tB) rfl Wd.mB rfl) (by with_unfolding_all rfl))),?_
 exact⟨_,rfl,p,C,dx,_,_,rfl,hp,c.cl,c.nW,uq,tB,bnL,rfl,.inr (Wd.hB H),rfl,(by decide),q⟩
structure C5 where
 (c0 c1 c2 c3 c4:Addr)
def C5.at(c:C5):Nat->Addr
 | 0=>c.c0|1=>c.c1|2=>c.c2|3=>c.c3|_=>c.c4
structure zhU(P:Program)(w:World)(K:Frag)(mg:Str->Option Value)(base:Heap)(c:C5)(i0 i1 i2 i3 i4:Addr)(d0 d1 d2 d3 d4:FuncData):Prop where
 k0:qj P w K mg base CX0 3 "Seat" c.c0 i0 d0 ["self","name","free"] [] (spS K c.c0 "seat")
 k1:qj P w K mg base CX0 3 "Both" c.c1 i1 d1 ["self","name","free"] [] (spS K c.c1 "both")
 k2:qj P w K mg base CX0 3 "Tail" c.c2 i2 d2 ["self","name"] [] (spT K c.c2 "tail")
 k3:qj P w K mg base CX0 3 "Tag" c.c3 i3 d3 ["self","name","free"] [] (spS K c.c3 "tag")
 k4:qj P w K mg base CX0 3 "Bag" c.c4 i4 d4 ["self","name"] [] (spT K c.c4 "bag")
def Res(c:C5)(H:Hp)(k:Nat)(x:V)(b:Bool)(Q:VK):Prop:=
 nmV x=true/\∀(o dx:Addr) (H':Hp),zq H H'->H' o=some (.ins (c.at k) dx (pf (kw k) x (fr k b)))->Q (.ref o) H'
inductive zhG(K:Frag)(c:C5)(vs:List V)(H:Hp)(Q:VK)(E:XK):Prop|mk(p:Addr)(k:Nat)(x:V)(b:Bool):vs=[.ref p]->k<5->H p=some (.tup (ziv k x b))->OkV K H x->(Res c H k x b Q)->zhG K c vs H Q E
theorem zkT:¬(V.str "both"=V.str "seat"):=by decide +kernel
theorem zkS:¬(V.str "tail"=V.str "seat"):=by decide +kernel
theorem zkR:¬(V.str "tail"=V.str "both"):=by decide +kernel
theorem zkQ:¬(V.str "tag"=V.str "seat"):=by decide +kernel
theorem zkP:¬(V.str "tag"=V.str "both"):=by decide +kernel
theorem zkO:¬(V.str "tag"=V.str "tail"):=by decide +kernel
theorem zkN:¬(V.str "bag"=V.str "seat"):=by decide +kernel
theorem zkM:¬(V.str "bag"=V.str "both"):=by decide +kernel
theorem zkL:¬(V.str "bag"=V.str "tail"):=by decide +kernel
theorem zkK:¬(V.str "bag"=V.str "tag"):=by decide +kernel
variable {i0 i1 i2 i3 i4:Addr}{d0 d1 d2 d3 d4:FuncData}{c:C5}
theorem zkX{x:V}{k:Nat}{b:Bool}(h:k<5):atI (ziv k x b) 0=some (.str (kw k)):=by rcases lt5 h with rfl|rfl|rfl|rfl|rfl <;> rfl
theorem zhK:zu ["told","word"] ["told"] (zj zim):=fsc
theorem ziQ(F:Fun K "parameter_of" "parameter_of" zim f fd)(U:zhU P w K mg base c i0 i1 i2 i3 i4 d0 d1 d2 d3 d4):zA P w K mg base CX0 5 f fd ["told"] (zhG K c):=by
 refine F.ok zhK (fun cdv A outer s H vs Q E hr h=>?_);obtain⟨p,k,x,b,rfl,hk,hp,hx,r1,r2⟩:=h;refine⟨_,zk (zx (i:=1) zhK.nd rfl (Or.inl rfl) (zL zU (pv 0) ze (fun _ _=>rfl)))
  (zk (zT (zv yA (pv 1) zw (zJ _)) (zf (zy (cMk U.k0 .nil yo hr (ac (zL zU (pv 0) ze (fun _ _=>rfl)) (ac (zL zU (pv 0) ze (fun _ _=>rfl)) zc))))) zG)
  (zk (zT (zv yA (pv 1) zw (zJ _)) (zf (zy (cMk U.k1 .nil yo hr (ac (zL zU (pv 0) ze (fun _ _=>rfl)) (ac (zL zU (pv 0) ze (fun _ _=>rfl)) zc))))) zG)
  (zk (zT (zv yA (pv 1) zw (zJ _)) (zf (zy (cMk U.k2 .nil yo hr (ac (zL zU (pv 0) ze (fun _ _=>rfl)) zc)))) zG)
  (zk (zT (zv yA (pv 1) zw (zJ _)) (zf (zy (cMk U.k3 .nil yo hr (ac (zL zU (pv 0) ze (fun _ _=>rfl)) (ac (zL zU (pv 0) ze (fun _ _=>rfl)) zc))))) zG)
  (zf (zy (cMk U.k4 .nil yo hr (ac (zL zU (pv 0) ze (fun _ _=>rfl)) zc)))))))),?_⟩
 exists _,rfl,p,_,_,.str (kw k),rfl,rfl,zB hp,zkX hk,?_;rcases lt5 hk with rfl|rfl|rfl|rfl|rfl
 ·have hS:SqT K H p _:=zB hp
  exists _,rfl,rfl,_,rfl,?_;refine dT rfl ?_;exact⟨_,rfl,p,_,_,x,rfl,rfl,hS,rfl,_,rfl,p,_,_,.bl b,rfl,rfl,hS,rfl,fun o dx ho hdx ne=>⟨o,dx,x,b,rfl,za,hx.same (yD ho hdx),r1,fun H1 s1=>⟨rfl,r2 o dx _ (wg ho hdx s1) za⟩⟩⟩
 ·have hS:SqT K H p _:=zB hp
  exists _,rfl,rfl,_,rfl,?_;refine dF zkT ?_;exists _,rfl,rfl,_,rfl,?_;refine dT rfl ?_;exact⟨_,rfl,p,_,_,x,rfl,rfl,hS,rfl,_,rfl,p,_,_,.bl b,rfl,rfl,hS,rfl,fun o dx ho hdx ne=>⟨o,dx,x,b,rfl,za,hx.same (yD ho hdx),r1,fun H1 s1=>⟨rfl,r2 o dx _ (wg ho hdx s1) za⟩⟩⟩
 ·have hS:SqT K H p _:=zB hp
  exists _,rfl,rfl,_,rfl,?_;refine dF zkS ?_;exists _,rfl,rfl,_,rfl,?_;refine dF zkR ?_;exists _,rfl,rfl,_,rfl,?_;refine dT rfl ?_;exact⟨_,rfl,p,_,_,x,rfl,rfl,hS,rfl,fun o dx ho hdx ne=>⟨o,dx,x,rfl,za,hx.same (yD ho hdx),r1,fun H1 s1=>⟨rfl,r2 o dx _ (wg ho hdx s1) za⟩⟩⟩
 ·have hS:SqT K H p _:=zB hp
  exists _,rfl,rfl,_,rfl,?_;refine dF zkQ ?_;exists _,rfl,rfl,_,rfl,?_;refine dF zkP ?_;exists _,rfl,rfl,_,rfl,?_;refine dF zkO ?_;exists _,rfl,rfl,_,rfl,?_;refine dT rfl ?_;exact⟨_,rfl,p,_,_,x,rfl,rfl,hS,rfl,_,rfl,p,_,_,.bl b,rfl,rfl,hS,rfl,fun o dx ho hdx ne=>⟨o,dx,x,b,rfl,za,hx.same (yD ho hdx),r1,fun H1 s1=>⟨rfl,r2 o dx _ (wg ho hdx s1) za⟩⟩⟩
 ·have hS:SqT K H p _:=zB hp
  exists _,rfl,rfl,_,rfl,?_;refine dF zkN ?_;exists _,rfl,rfl,_,rfl,?_;refine dF zkM ?_;exists _,rfl,rfl,_,rfl,?_;refine dF zkL ?_;exists _,rfl,rfl,_,rfl,?_;refine dF zkK ?_;exact⟨_,rfl,p,_,_,x,rfl,rfl,hS,rfl,fun o dx ho hdx ne=>⟨o,dx,x,rfl,za,hx.same (yD ho hdx),r1,fun H1 s1=>⟨rfl,r2 o dx _ (wg ho hdx s1) za⟩⟩⟩
end
end K62
namespace L2
open PySem PySem.Spec PyProof.Rows
def dcN(n i:Nat)(D:Addr)(Pv:Nat->List (Key×V)->Hp->Prop)(ys:List (Key×V))(y:V):VK:=fun v H5=>∃k,y=kV k/\H5 D=some (.dK ys)/\ys.length<sizeLine/\∃m',m'<n - i/\m'=n - (i+1)/\i+1<=n/\Pv (i+1) (y6 ys k v) (upd H5 D (.dK (y6 ys k v)))
def dcS(n i:Nat)(Pv:Nat->List (Key×V)->Hp->Prop)(ys:List (Key×V))(H4:Hp):Prop:=∃m',m'<n - i/\m'=n - (i+1)/\i+1<=n/\Pv (i+1) ys H4
theorem dcN.mk{n i:Nat}{D:Addr}{Pv:Nat->List (Key×V)->Hp->Prop}{ys:List (Key×V)}{y v:V}{H5:Hp}(k:Key)(hi:i<n)(ek:y=kV k)(hn:n<=sizeLine)(hD:H5 D=some (.dK ys))(hy:ys.length<=i)(p:Pv (i+1) (y6 ys k v) (upd H5 D (.dK (y6 ys k v)))):dcN n i D Pv ys y v H5:=
 ⟨k,ek,hD,by omega,n - (i+1),by omega,rfl,hi,p⟩
theorem dcS.mk{n i:Nat}{Pv:Nat->List (Key×V)->Hp->Prop}{ys:List (Key×V)}{H4:Hp}(hi:i<n)(p:Pv (i+1) ys H4):dcS n i Pv ys H4:=⟨n - (i+1),by omega,rfl,hi,p⟩
theorem zhr{K:Frag}{a:Addr}{xs:List V}{caps:List (Option Nat)}{g:TG}{tt:TT}{tk tv:TE}{σ : St}{H1:Hp}{Q:VK}{D:Addr}(Pv:Nat->List (Key×V)->Hp->Prop)(h0:Pv 0 [] (upd H1 D (.dK [])))
  (hl:∀i ys H,Pv i ys H->SqL K H a xs)
  (hs:∀i x p ys H,i<xs.length->xs[i]?=some x->Pv i ys H->H p=none->g (.ref p) (xl caps σ) (upd H p (.tup [.int i,x])) fun σ2 H2=>tt σ2 H2 fun ok H3=>(ok=true->tk σ2 H3 fun y H4=>tv σ2 H4 (dcN xs.length i D Pv ys y))/\(ok=false->dcS xs.length i Pv ys H3))
  (hd:∀ys H,Pv xs.length ys H->Q (.ref D) H):DCr (Ite K a) caps g tt tk tv σ H1 Q D:=by
 exists fun i m ys H=>m=xs.length - i/\i<=xs.length/\Pv i ys H,⟨xs.length,by simp,zero_le _,h0⟩,?_
 rintro i m ys H ⟨rfl,hi,p⟩;have q:=hl i ys H p;by_cases hlt:i<xs.length
 ·refine .inr ⟨⟨xs,xs[i],q,by simp [hlt]⟩,fun x H' y=>?_⟩
  obtain⟨pp,y,rfl,hp,y2,rfl⟩:=y;exact hs i y pp ys H hlt (y2 xs q) p hp
 ·have e:i=xs.length:=by omega
  subst e;exact .inl ⟨⟨xs,q,le_refl _⟩,hd ys H p⟩
end L2
namespace K62
open PySem L2 PyProof.Rows
structure Rw where
 (k:Nat) (z:Str) (b:Bool)
def Rw.ok(r:Rw):Prop:=r.k<5/\xn r.z=true
abbrev rv(r:Rw):List V:=ziv r.k (.str r.z) r.b
abbrev pr(r:Rw):List (Str×V):=pf (kw r.k) (.str r.z) (fr r.k r.b)
def PAt(c:C5)(H:Hp)(p:Addr)(r:Rw):Prop:=∃dx,H p=some (.ins (c.at r.k) dx (pr r))
def wp(k:Nat):Bool:=k==0||k==1
def xo(k:Nat):Bool:=k==1||k==3
theorem zfH:∀k:Nat,k<5->inV (.str (kw k)) bpL=wp k:=by decide +kernel
theorem zc3:∀k:Nat,k<5->inV (.str (kw k)) bnL=xo k:=by decide +kernel
def grp:Nat->Nat
 | 0=>0|1=>0|2=>1|3=>2|_=>3
def vq(l g:Nat):Bool:=decide (g<l)||(g==l&&(g==1||g==3))
def yW:Nat->List Rw->Bool
 | _,[]=>true
 | l,r::rs=>!vq l (grp r.k)&&yW (grp r.k) rs
def nms(rows:List Rw):List Str:=(rows.filter fun r=>xo r.k).map (·.z)
structure zdk(rows:List Rw)(bars:List Str):Prop where
 ok:∀r∈rows,r.ok
 l24:rows.length<=24
 l60:bars.length<=60
 ord:yW 0 rows=true
 bn:∀z∈bars,xn z=true
 nd:(nms rows++bars).Nodup
def zR(kk:Nat):Nat->List Rw->Option Nat
 | _,[]=>none
 | i,r::rs=>if r.k=kk then some i else zR kk (i+1) rs
def wt:Option Nat->V
 | none=>.non
 | some i=>.int i
def yP:Nat->List (Key×V)->List Rw->List (Key×V)
 | _,acc,[]=>acc
 | i,acc,r::rs=>yP (i+1) (if xo r.k=true then y6 acc (.inr r.z) (.int i) else acc) rs
def plN(rows:List Rw):Nat:=(rows.filter fun r=>wp r.k).length
def zf2:List Str:=["row","bar_names","place_count","tail_number","bag_number","doors"]
structure FF(fs:List (Str×V))(lr lb ld:Addr)(rows:List Rw):Prop where
 row:fs.lookup ("row" : Str)=some (.ref lr)
 bn:fs.lookup ("bar_names" : Str)=some (.ref lb)
 pc:fs.lookup ("place_count" : Str)=some (.int (plN rows))
 tn:fs.lookup ("tail_number" : Str)=some (wt (zR 2 0 rows))
 bg:fs.lookup ("bag_number" : Str)=some (wt (zR 4 0 rows))
 dr:fs.lookup ("doors" : Str)=some (.ref ld)
 no:∀m,m∉zf2->fs.lookup m=none
def xB(c:C5)(CF:Addr)(H:Hp)(f:Addr)(rows:List Rw)(bars:List Str):Prop:=
 ∃dx fs lr lb ld ps,H f=some (.ins CF dx fs)/\FF fs lr lb ld rows/\H lr=some (.lst (ps.map V.ref))/\Paired (PAt c H) ps rows/\H lb=some (.lst (bars.map V.str))/\H ld=some (.dK (yP 0 [] rows))
section
variable {c:C5}{CF f p:Addr}{H H':Hp}{rows:List Rw}{bars:List Str}{r:Rw}{ps:List Addr}
theorem PAt.same(h:PAt c H p r)(s:zq H H'):PAt c H' p r:=h.imp fun _=>s _ _
theorem xh(s:zq H H')(h:Paired (PAt c H) ps rows):Paired (PAt c H') ps rows:=zm (fun _ _ z=>z.same s) h
theorem xB.same(h:xB c CF H f rows bars)(s:zq H H'):xB c CF H' f rows bars:=by
 obtain⟨dx,fs,lr,lb,ld,ps,h1,h2,h3,h4,h5,h6⟩:=h;exact⟨dx,fs,lr,lb,ld,ps,s _ _ h1,h2,s _ _ h3,xh s h4,s _ _ h5,s _ _ h6⟩
def vt(c:C5)(CF:Addr)(H H':Hp)(f:Addr)(rows:List Rw)(bars:List Str):Prop:=
 ∃dx fs lr lb ld ps,H' f=some (.ins CF dx fs)/\FF fs lr lb ld rows/\H' lr=some (.lst (ps.map V.ref))/\Paired (PAt c H') ps rows/\H' lb=some (.lst (bars.map V.str))/\H' ld=some (.dK (yP 0 [] rows))/\H lr=none/\H lb=none
theorem vt.of{H0:Hp}(h:vt c CF H H' f rows bars)(s:zq H0 H):vt c CF H0 H' f rows bars:=by
 obtain⟨dx,fs,lr,lb,ld,ps,h1,h2,h3,h4,h5,h6,h7,h8⟩:=h;exact⟨dx,fs,lr,lb,ld,ps,h1,h2,h3,h4,h5,h6,s.free h7,s.free h8⟩
theorem vt.same{H2:Hp}(h:vt c CF H H' f rows bars)(s:zq H' H2):vt c CF H H2 f rows bars:=by
 obtain⟨dx,fs,lr,lb,ld,ps,h1,h2,h3,h4,h5,h6,h7,h8⟩:=h;exact⟨dx,fs,lr,lb,ld,ps,s _ _ h1,h2,s _ _ h3,xh s h4,s _ _ h5,s _ _ h6,h7,h8⟩
theorem xi{α β : Type}{R : α->β->Prop}{xs:List α}{ys:List β}(h:Paired R xs ys):∀{i:Nat}{x : α},xs[i]?=some x->∃y,ys[i]?=some y/\R x y:=by
 induction h with
 | nil=>intro i x e;simp at e
 | cons r t ih=>
  intro i x e;cases i with
  | zero=>exact⟨_,rfl,by simp at e;exact e ▸ r⟩
  | succ i=>simpa using ih (by simpa using e)
def zhf(x:Str):Option V:=([(("seat" : Str),V.int 0),("both",.int 0),("tail",.int 1),("tag",.int 2),("bag",.int 3)]:List (Str×V)).lookup x
theorem zhe:∀k:Nat,k<5->zhf (kw k)=some (.int (grp k)):=by decide +kernel
theorem zi7(k:Nat):grp k<4:=by unfold grp;split <;> decide
structure zbt(w:World)(K:Frag)(mg:Str->Option Value)(G sg:Addr):Prop where
 len:mg "len"=none
 en:mg "enumerate"=none
 lst:mg "list"=none
 set:mg "set"=none
 mp:∃t,mg "MOST_PARAMETERS"=some (.int 24 t)
 mb:∃t,mg "MOST_BARS"=some (.int 60 t)
 mgr:mg "GROUPS"=some (.ref G)
 gt:zjh w K G zhf
 ms:mg "SINGLE_GROUPS"=some (.ref sg)
 hs:∀H,SqT K H sg [.int 1,.int 3]
def Cs5(c:C5):Addr->Prop:=fun C=>∃k,k<5/\C=c.at k
inductive zeh(K:Frag)(vs:List V)(H:Hp)(Q:VK)(E:XK):Prop|mk(a b:Addr)(xs ys:List V):vs=[.ref a,.ref b]->SqL K H a xs->SqL K H b ys->xs.length<=24->ys.length<=60->(Q .non H)->zeh K vs H Q E
inductive zhH(c:C5)(vs:List V)(H:Hp)(Q:VK)(E:XK):Prop|mk(a:Addr)(ps:List Addr)(rows:List Rw):vs=[.ref a]->H a=some (.lst (ps.map V.ref))->Paired (PAt c H) ps rows->(∀r∈rows,r.ok)->yW 0 rows=true->(∀H',zq H H'->Q .non H')->zhH c vs H Q E
inductive zjy(vs:List V)(H:Hp)(Q:VK)(E:XK):Prop|mk(b:Addr)(bars:List Str):vs=[.ref b]->H b=some (.lst (bars.map V.str))->(∀z∈bars,xn z=true)->(∀H',zq H H'->Q .non H')->zjy vs H Q E
inductive zjx(c:C5)(vs:List V)(H:Hp)(Q:VK)(E:XK):Prop|mk(a b:Addr)(ps:List Addr)(rows:List Rw)(bars:List Str):vs=[.ref a,.ref b]->H a=some (.lst (ps.map V.ref))->Paired (PAt c H) ps rows->(∀r∈rows,r.ok)->rows.length<=500->H b=some (.lst (bars.map V.str))->bars.length<=500->(nms rows++bars).Nodup->(∀H',zq H H'->Q .non H')->zjx c vs H Q E
inductive zjA(c:C5)(vs:List V)(H:Hp)(Q:VK)(E:XK):Prop|mk(a:Addr)(ps:List Addr)(rows:List Rw)(kk:Nat):vs=[.ref a,.str (kw kk)]->kk<5->H a=some (.lst (ps.map V.ref))->Paired (PAt c H) ps rows->(∀r∈rows,r.ok)->(∀H',zq H H'->Q (wt (zR kk 0 rows)) H')->zjA c vs H Q E
theorem ziZ:∀i:Nat,i<5->∀k:Nat,k<5->decide (V.str (kw k)=V.str (kw i))=(k==i):=by decide +kernel
theorem zdb{α : Type}{xs:List α}{i:Nat}{x : α}(h:xs[i]?=some x):xs.drop i=x::xs.drop (i+1):=by
 have hi:i<xs.length:=(List.getElem?_eq_some_iff.mp h).1;rw[List.drop_eq_getElem_cons hi];rw[getElem?_eq_getElem hi] at h;rw[Option.some.inj h]
theorem xV{ps:List Addr}{i:Nat}{x:V}(h:(ps.map V.ref)[i]?=some x):∃p,ps[i]?=some p/\x=.ref p:=by
 rw[getElem?_map] at h;cases e:ps[i]? with
 | none=>rw[e] at h;cases h
 | some p=>rw[e] at h;exact⟨p,rfl,(Option.some.inj h).symm⟩
theorem strs_at{zs:List Str}{i:Nat}{x:V}(h:(zs.map V.str)[i]?=some x):∃z,zs[i]?=some z/\x=.str z:=by
 rw[getElem?_map] at h;cases e:zs[i]? with
 | none=>rw[e] at h;cases h
 | some p=>rw[e] at h;exact⟨p,rfl,(Option.some.inj h).symm⟩
variable {P:Program}{w:World}{K:Frag}{mg:Str->Option Value}{base:Heap}{G sg:Addr}{fd:FuncData}{m:MA}
def Pcs(K:Frag)(m:MA)(c:C5):Prop:=∀k,k<5->PC K m (c.at k)
theorem zgh:zu ["parameters","bars"] ["parameters","bars"] (zj zbM):=fsc
theorem zgT(F:Fun K "refuse_too_many" "refuse_too_many" zbM f fd)(T:zbt w K mg G sg):zA P w K mg base CX0 1 f fd ["parameters","bars"] (zeh K):=by
 refine F.ok zgh (fun cdv A outer s H vs Q E hr h=>?_);obtain⟨a,b,xs,ys,rfl,ha,hb,l1,l2,q⟩:=h;obtain⟨t1,m1⟩:=T.mp;obtain⟨t2,m2⟩:=T.mb;refine⟨_,zk (zT (zv ze7 (cB z7 T.len PySem.boot_len (ac (pv 0) zc)) (wy (v:=.int 24) rfl m1 ⟨_,rfl⟩) (zJ _)) (zf vB) zG)
  (zf (zT (zv ze7 (cB z7 T.len PySem.boot_len (ac (pv 1) zc)) (wy (v:=.int 60) rfl m2 ⟨_,rfl⟩) (zJ _)) (zf vB) zG)),?_⟩
 exists _,rfl,a,_,rfl,.inl ha,_,_,rfl,rfl,_,rfl,?_;refine dF (by show ¬(24:Int)<(xs.length:Int);omega) ?_
 exists _,rfl,b,_,rfl,.inl hb,_,_,rfl,rfl,_,rfl,?_;exact dF (by show ¬(60:Int)<(ys.length:Int);omega) q
theorem wI:zu ["parameters","last","at","parameter","group"] ["parameters"] (zj zaj):=fsc
theorem zfi(F:Fun K "refuse_bad_order" "refuse_bad_order" zaj f fd)(T:zbt w K mg G sg)(PP:Pcs K m c):zA P w K mg base CX0 1 f fd ["parameters"] (zhH c):=by
 refine F.ok wI (fun cdv A outer s H vs Q E hr h=>?_);obtain⟨a,ps,rows,rfl,ha,hp,hok,ho,q⟩:=h;refine⟨_,zk (zx (i:=1) wI.nd rfl (Or.inl rfl) ze)
  (zf (yz PassesOwn.never rfl (ww rfl T.en (ac (pv 0) zc)) (yO rfl (zF (zr (i:=2) wI.nd rfl (Or.inl rfl)) (zF (zr (i:=3) wI.nd rfl (Or.inl rfl)) yv)))
   (zk (zx (i:=4) wI.nd rfl (Or.inl rfl) (zgz T.gt T.mgr (yE (pv 3) rfl)))
   (zk (zT (wq (jB (zv vS (pv 4) (pv 1) (zJ _)) (jA (wq (wC (zv yA (pv 4) (pv 1) (zJ _)) (xK (zv xr (pv 4) (wy (v:=.ref sg) rfl T.ms rfl) (by with_unfolding_all rfl)))))))) (zf vB) zG)
   (zf (zx (i:=1) wI.nd rfl (Or.inl rfl) (pv 4))))))),?_⟩
 show vV _ _ _ _ _;refine⟨_,rfl,a,rfl,⟨_,zh ha⟩,vn (K:=K) (a:=a) (xs:=ps.map V.ref) (fun i σ H'=>∃(l:Nat) (v2 v3 v4:Option V),σ=[some (.ref a),some (.int (l:Nat)),v2,v3,v4]/\zq H H'/\yW l (rows.drop i)=true)
  ⟨0,_,_,_,rfl,zq.refl _,ho⟩ (fun i σ H' _ ⟨_,_,_,_,_,sH,_⟩=>zh (sH _ _ ha)) ?_ ?_⟩
 ·rintro i x p σ H' hx ⟨l,v2,v3,v4,rfl,sH,hl⟩ hpn
  obtain⟨pa,hpa,rfl⟩:=xV hx;obtain⟨r,hr',dx,hdx⟩:=xi hp hpa;have rok:=hok r (mem_of_getElem? hr');have C:=PP r.k rok.1;rw[zdb hr'] at hl;have hl':(!vq l (grp r.k)&&yW (grp r.k) (rows.drop (i+1)))=true:=hl;rw[Bool.and_eq_true,Bool.not_eq_true'] at hl';obtain⟨hb,hl2⟩:=hl';have hb':(decide (grp r.k<l)||(grp r.k==l&&(grp r.k==1||grp r.k==3)))=false:=hb
  rw[Bool.or_eq_false_iff] at hb';have sp:=zd hpn (.tup [.int (i:Nat),.ref pa]);exists p,_,rfl,zB za,rfl,_,_,rfl,_,_,rfl,rfl,?_;exists _,rfl,pa,_,dx,_,_,rfl,sp _ _ (sH _ _ hdx),C.cl,C.nW,uq,kw r.k,.int (grp r.k),rfl,zhe r.k rok.1,?_;exists _,rfl,_,rfl,_,_,rfl,rfl,_,rfl,?_;refine dF (fun z=>by have:=of_decide_eq_false hb'.1;omega) ?_
  have fin:∃(l':Nat) (v2 v3 v4:Option V),([some (.ref a),some (.int (grp r.k:Nat)),some (.int (i:Nat)),some (.ref pa),some (.int (grp r.k:Nat))]:L2.St)=[some (.ref a),some (.int (l':Nat)),v2,v3,v4]/\zq H (upd H' p (.tup [.int (i:Nat),.ref pa]))/\yW l' (rows.drop (i+1))=true:=
   ⟨grp r.k,_,_,_,rfl,sH.trans sp,hl2⟩
  exists _,rfl,_,rfl,rfl,_,rfl,?_;by_cases e:grp r.k=l
  ·refine dT (by rw[e]) ?_
   exists _,rfl,sg,_,rfl,.inr (T.hs _),rfl,(by decide),_,rfl,?_
   have h13:(grp r.k==1||grp r.k==3)=false:=by
    have:=hb'.2
    rw[e] at this |-;simpa using this
   have hin:inV (.int (grp r.k:Nat)) [.int 1,.int 3]=false:=by
    have g4:=zi7 r.k
    have:∀g:Nat,g<4->(g==1||g==3)=false->inV (.int (g:Nat)) [.int 1,.int 3]=false:=by decide +kernel
    exact this _ g4 h13
   rw[show(if false=true then !inV (V.int ((grp r.k:Nat):Int)) [V.int 1,V.int 3] else inV (V.int ((grp r.k:Nat):Int)) [V.int 1,V.int 3])=false from hin]
   refine xz ?_;exact⟨_,rfl,fin⟩
  ·refine dF (fun z=>e (by have:=V.int.inj z;omega)) ?_
   exact⟨_,rfl,fin⟩
 ·rintro σ H' ⟨l,v2,v3,v4,rfl,sH,_⟩
  exact q _ sH
end
end K62
namespace L2
open PySem PySem.Spec PyProof.Rows
theorem zcS{X:Cx}{K:Frag}{e:Expr}{f:Str}{pos:Pos}{ta:TE}(hK:X.K=K)(he:PE X e ta)(hb:attributeBase e f X.env (eval e X.env)=eval e X.env):PE X (.Attribute e f pos) (zjr K ta f):=hK ▸ yE he hb
end L2
namespace K62
open PySem L2 PyProof.Rows
theorem yn{n:Nat}(h:n<=1000):n<=sizeLine:=le_of_lt (zK h)
theorem zg3{rows:List Rw}{i:Nat}{r:Rw}(h:rows[i]?=some r):nms (rows.take (i+1))=nms (rows.take i)++(if xo r.k=true then [r.z] else []):=by
 have hi:i<rows.length:=(List.getElem?_eq_some_iff.mp h).1;have e:rows[i]=r:=by rw[getElem?_eq_getElem hi] at h;exact Option.some.inj h
 unfold nms;rw[take_succ_eq_append_getElem hi,filter_append,map_append,e];cases hb:xo r.k <;> simp [hb]
section
variable {P:Program}{w:World}{K:Frag}{mg:Str->Option Value}{base:Heap}{f G sg:Addr}{fd:FuncData}{c:C5}{m:MA}
theorem zbH:zu ["parameters","word","at","parameter"] ["parameters","word"] (zj zeD):=fsc
theorem zgS(F:Fun K "number_of_word" "number_of_word" zeD f fd)(T:zbt w K mg G sg)(PP:Pcs K m c):zA P w K mg base CX0 1 f fd ["parameters","word"] (zjA c):=by
 refine F.ok zbH (fun cdv A outer s H vs Q E hr h=>?_);obtain⟨a,ps,rows,kk,rfl,hkk,ha,hp,hok,q⟩:=h;refine⟨_,zk (yz PassesOwn.never rfl (ww rfl T.en (ac (pv 0) zc)) (yO rfl (zF (zr (i:=2) zbH.nd rfl (Or.inl rfl)) (zF (zr (i:=3) zbH.nd rfl (Or.inl rfl)) yv)))
   (zf (zT (zv yA (yE (pv 3) rfl) (pv 1) (zJ _)) (zf (zy (pv 2))) zG))) (zf (zy zb3)),?_⟩
 refine⟨_,rfl,a,rfl,⟨_,zh ha⟩,vn (K:=K) (a:=a) (xs:=ps.map V.ref) (fun i σ H'=>∃(v2 v3:Option V),σ=[some (.ref a),some (.str (kw kk)),v2,v3]/\zq H H'/\zR kk i (rows.drop i)=zR kk 0 rows)
  ⟨_,_,rfl,zq.refl _,rfl⟩ (fun i σ H' _ ⟨_,_,_,sH,_⟩=>zh (sH _ _ ha)) ?_ ?_⟩
 ·rintro i x p σ H' hx ⟨v2,v3,rfl,sH,hl⟩ hpn
  obtain⟨pa,hpa,rfl⟩:=xV hx;obtain⟨r,hr',dx,hdx⟩:=xi hp hpa;have rok:=hok r (mem_of_getElem? hr');have C:=PP r.k rok.1;rw[zdb hr'] at hl;have hl':(if r.k=kk then some i else zR kk (i+1) (rows.drop (i+1)))=zR kk 0 rows:=hl
  have sp:=zd hpn (.tup [.int (i:Nat),.ref pa]);exists p,_,rfl,zB za,rfl,_,_,rfl,_,_,rfl,rfl,?_;exists _,rfl,pa,_,dx,_,_,rfl,sp _ _ (sH _ _ hdx),C.cl,C.nW,uq,_,rfl,rfl,_,rfl,?_;by_cases e:r.k=kk
  ·refine dT (by rw[e]) ?_
   rw[if_pos e] at hl';exists _,rfl,?_
   have:=q _ (sH.trans sp)
   rw[<- hl'] at this;exact this
  ·refine dF (fun z=>?_) ?_
   ·have h1:=ziZ kk hkk r.k rok.1
    rw[decide_eq_true z] at h1;exact e (by simpa using h1.symm)
   ·rw[if_neg e] at hl'
    exact⟨_,_,rfl,sH.trans sp,hl'⟩
 ·rintro σ H' ⟨v2,v3,rfl,sH,hl⟩
  have e:zR kk 0 rows=none:=by
   rw[<- hl,length_map,hp.length,List.drop_length];rfl
  have:=q _ sH
  rw[e] at this;exact this
theorem zcK:zu ["bars","bar"] ["bars"] (zj zbN):=fsc
theorem zff{g:Addr}{gd:FuncData}(F:Fun K "refuse_bars_without_name" "refuse_bars_without_name" zbN f fd)(cI:zE P w K mg base 1 "is_name" g gd ["thing"] (zh5 K)):zA P w K mg base CX0 2 f fd ["bars"] zjy:=by
 refine F.ok zcK (fun cdv A outer s H vs Q E hr h=>?_);obtain⟨b,bars,rfl,hb,hn,q⟩:=h;exists _,zf (yz PassesOwn.never rfl (z9 (pv 0)) (zr (i:=1) zcK.nd rfl (Or.inl rfl)) (zf (zT (wj (y7 (cF cI hr (ac (pv 1) zc)))) (zf vB) zG))),?_;exists _,rfl,b,rfl,⟨_,zh hb⟩,yJ (K:=K) (a:=b) (xs:=bars.map V.str) (fun i σ H'=>∃v1,σ=[some (.ref b),v1]/\zq H H') ⟨_,rfl,zq.refl _⟩ (fun i σ H' _ ⟨_,_,sH⟩=>zh (sH _ _ hb)) ?_ ?_
 ·rintro i x σ H' hx ⟨v1,rfl,sH⟩
  obtain⟨z,hz,rfl⟩:=strs_at hx;have nz:=hn z (mem_of_getElem? hz);exists _,rfl,_,rfl,.inl ⟨z,rfl,za5 nz⟩,fun H2 s2=>⟨_,rfl,?_⟩;rw[show nmV (.str z)=true from nz];refine xz ?_;exact⟨_,rfl,sH.trans s2⟩
 ·rintro σ H' ⟨v1,rfl,sH⟩
  exact q _ sH
theorem zjX:([Str.ofString "parameter"]:List Str).Nodup:=by decide +kernel
theorem jp:zu ["parameters","bars","seen","name"] ["parameters","bars"] (zj zai):=fsc
theorem zfc{gd:FuncData}(F:Fun K "refuse_twice" "refuse_twice" zai f fd)(T:zbt w K mg G sg)(PP:Pcs K m c)(GB:zA P w K mg base CX0 1 m.fB gd ["self"] (qY K m bnL))(bB:z8 K gd ["self"] []):zA P w K mg base CX0 2 f fd ["parameters","bars"] (zjx c):=by
 refine F.ok jp (fun cdv A outer s H vs Q E hr h=>?_);obtain⟨a,b,ps,rows,bars,rfl,ha,hp,hok,l1,hb,l2,nd,q⟩:=h;have hC:∀C,Cs5 c C->Cls K C/\xw K C "by_name" m.fB:=fun C ⟨k,hk,e⟩=>by rw[e];exact⟨(PP k hk).cl,(PP k hk).mB⟩
 refine⟨_,zk (zx (i:=2) jp.nd rfl (Or.inl rfl) (zb4 zd0 rfl T.set (by decide +kernel:bootBuiltins "set"=some (.type "set"))))
  (zf (yz PassesOwn.never rfl (z9 (zp yT (wx [] ["parameter"] [none] rfl ⟨rfl,rfl,rfl,rfl⟩ (z9 (pv 0)) (ye 0) rfl rfl rfl
    (fun pins fp s H C=>⟨zr (i:=0) zjX rfl (Or.inl rfl) (.inr rfl),xM (y7 (ur (pv 0) hC GB hr bB yo)),zcS (K:=K) rfl (pv 0) rfl⟩)) (cTy yq T.lst PyProof.Rows.boot_list (ac (pv 1) zc)))) (zr (i:=3) jp.nd rfl (Or.inl rfl))
   (zk (zT (zv jJ (pv 3) (pv 2) (by with_unfolding_all rfl)) (zf vB) zG)
   (zf (zI (zgy (pv 2) (pv 3) ⟨rfl,rfl,rfl,rfl⟩)))))),?_⟩
 exists rfl,fun se hse=>?_;have s1:zq H (upd H se (wc P w se (fun _=>false) 0)):=zd hse _;have g1:upd H se (wc P w se (fun _=>false) 0) se=some (wc P w se (fun _=>false) 0):=za;show vV _ _ _ _ (upd H se (wc P w se (fun _=>false) 0));generalize upd H se (wc P w se (fun _=>false) 0)=H1 at s1 g1 |-;have ha1:=s1 _ _ ha;have hp1:=xh s1 hp;exists _,rfl,a,rfl,⟨_,zh ha1⟩,fun D hD=>?_;refine xx (K:=K) (xs:=ps.map V.ref) (fun i ys H'=>zq H1 H'/\H' D=some (.lst ys)/\ys=(nms (rows.take i)).map V.str) ⟨zd hD _,za,rfl⟩ (fun i ys H' h=>zh (h.1 _ _ ha1)) ?_ ?_
 ·rintro i x ys H' hlt hx ⟨sH,hDy,ey⟩
  obtain⟨pa,hpa,rfl⟩:=xV hx;obtain⟨r,hr',dx,hdx⟩:=xi hp1 hpa;have rok:=hok r (mem_of_getElem? hr');have C:=PP r.k rok.1;have nl:ys.length<=i:=by
   rw[ey,length_map];unfold nms;rw[length_map];refine le_trans (length_filter_le _ _) ?_;rw[length_take];omega
  have hd2:=sH _ _ hdx;exists _,rfl,pa,_,dx,_,rfl,⟨r.k,rok.1,rfl⟩,hd2,qv (by decide +kernel) (by decide +kernel) (by decide +kernel),pa,dx,_,_,_,_,rfl,C,hd2,_,rfl,?_
  rw[zc3 r.k rok.1];have tk:=zg3 hr';exists fun e=>?_,fun e=>?_
  ·rw[e,if_pos rfl] at tk
   exists _,rfl,pa,_,dx,_,_,rfl,hd2,C.cl,C.nN,jf,?_;refine lcN.mk hlt (yn (by rw[length_map,hp.length];omega)) hDy nl ⟨fun b u e=>?_,za,?_⟩
   ·rw[zg (zi e hD)]
    exact sH b u e
   ·rw[ey,tk,map_append]
    rfl
  ·rw[e,if_neg zft,append_nil] at tk
   exact lcS.mk hlt ⟨sH,hDy,by rw[ey,tk]⟩
 rintro ys H2 ⟨s2,hDy,ey⟩;have ey:ys=(nms rows).map V.str:=by
  rw[ey,length_map,hp.length,take_length]
 subst ey;have hb2:=s2 _ _ (s1 _ _ hb);exists _,rfl,b,_,rfl,.inl (zh hb2),fun l hl=>?_
 injections l hl H3 s3 g3
 have ln:(nms rows).length<=500:=by
  unfold nms;rw[length_map];exact le_trans (length_filter_le _ _) l1
 exists D,l,_,_,rfl,rfl,s3 _ _ hDy,g3,yn (by rw[length_map,length_map];omega),fun l4 hl4=>?_
 rw[<- map_append];have s4:=zd hl4 (.lst ((nms rows++bars).map V.str));have g4:upd H3 l4 (.lst ((nms rows++bars).map V.str)) l4=some (.lst ((nms rows++bars).map V.str)):=za;have nse:l4≠se:=fun z=>by
  rw[z] at hl4;rw[s3 _ _ (s2 _ _ g1)] at hl4;cases hl4
 generalize upd H3 l4 (.lst ((nms rows++bars).map V.str))=H4 at s4 g4 |-;have sA:zq H1 H4:=s2.trans (s3.trans s4);have gse:=sA _ _ g1;refine⟨l4,rfl,⟨_,zh g4⟩,yJ (K:=K) (a:=l4) (xs:=(nms rows++bars).map V.str) (fun i σ H'=>∃(S:Str->Bool) (n:Nat) (v3:Option V),σ=[some (.ref a),some (.ref b),some (.ref se),v3]/\H' se=some (wc P w se S n)/\(∀z,S z=decide (z∈(nms rows++bars).take i))/\n<=i/\(∀b' u,H4 b'=some u->b'≠se->H' b'=some u))
  ⟨_,0,_,rfl,gse,fun z=>by simp,le_refl _,fun b' u e _=>e⟩ (fun i σ H' _ ⟨_,_,_,_,_,_,_,k⟩=>zh (k _ _ g4 nse)) ?_ ?_⟩
 ·rintro i x σ H' hx ⟨S,n,v3,rfl,hS,hSz,hn,k⟩
  obtain⟨z,hz,rfl⟩:=strs_at hx;have hi:i<(nms rows++bars).length:=(List.getElem?_eq_some_iff.mp hz).1;have ez:(nms rows++bars)[i]=z:=by rw[getElem?_eq_getElem hi] at hz;exact Option.some.inj hz
  have nz:S z=false:=by
   rw[hSz,decide_eq_false_iff_not];intro hm;obtain⟨j,hj,ej⟩:=List.mem_take_iff_getElem.mp hm
   have:=List.pairwise_iff_getElem.mp nd j i (by omega) hi (by omega)
   exact this (ej.trans ez.symm)
  exists _,rfl,_,rfl,se,S,n,z,rfl,rfl,hS,_,rfl,?_;rw[nz];refine xz ?_;exists _,rfl,se,S,n,rfl,hS,_,rfl,S,n,z,rfl,hS,?_,?_
  ·rw[length_append] at hi
   show n+1<4096;omega
  ·exists _,_,_,rfl,za,fun y=>?_,?_,fun b' u e ne=>?_
   ·rw[hSz y,take_succ_eq_append_getElem hi,ez]
    simp [mem_append]
   ·rw[nz]
    show n+1<=i+1;omega
   ·rw[zg ne]
    exact k b' u e ne
 ·rintro σ H' ⟨S,n,v3,rfl,hS,hSz,hn,k⟩
  refine q _ fun b' u e=>k b' u (sA _ _ (s1 _ _ e)) fun z=>?_;rw[z,hse] at e;cases e
def SX(f:Addr)(H H':Hp):Prop:=∀b u,H b=some u->b≠f->H' b=some u
theorem SX.same{f:Addr}{H H1 H2:Hp}(x:SX f H H1)(s:zq H1 H2):SX f H H2:=fun b u e n=>s b u (x b u e n)
theorem SX.upd{f:Addr}{H H1:Hp}{o:HO}(x:SX f H H1):SX f H (upd H1 f o):=fun b u e n=>by rw[zg n];exact x b u e n
theorem SX.refl{f:Addr}{H:Hp}:SX f H H:=fun _ _ e _=>e
theorem wT(f:Str)(v:V):∀fs:List (Str×V),(zN f v fs).length<=fs.length+1
 | []=>le_refl _
 | (g,x)::r=>by
  show(if g=f then (g,v)::r else (g,x)::zN f v r).length<=_
  split
  ·simp
  ·have:=wT f v r
   simp only[length_cons];omega
def Pre(fs:List (Str×V)):Prop:=fs.length<=50/\∀m,m∉zf2->fs.lookup m=none
structure FC(K:Frag)(CF:Addr):Prop where
 cl:Cls K CF
 n1:yt K CF "row"
 n2:yt K CF "bar_names"
 n3:yt K CF "place_count"
 n4:yt K CF "tail_number"
 n5:yt K CF "bag_number"
 n6:yt K CF "doors"
inductive zei(c:C5)(CF:Addr)(vs:List V)(H:Hp)(Q:VK)(E:XK):Prop|mk(f a b dx:Addr)(fs:List (Str×V))(ps:List Addr)(rows:List Rw)(bars:List Str):vs=[.ref f,.ref a,.ref b]->H f=some (.ins CF dx fs)->Pre fs->H a=some (.lst (ps.map V.ref))->Paired (PAt c H) ps rows->(∀r∈rows,r.ok)->rows.length<=500->H b=some (.lst (bars.map V.str))->(∀H',SX f H H'->vt c CF H H' f rows bars->(∃dx' fs',H' f=some (.ins CF dx' fs')/\fs'.length<=fs.length+6)->Q .non H')->zei c CF vs H Q E
theorem zgw{rows:List Rw}{i:Nat}{r:Rw}(h:rows[i]?=some r):plN (rows.take (i+1))=plN (rows.take i)+(if wp r.k=true then 1 else 0):=by
 have hi:i<rows.length:=(List.getElem?_eq_some_iff.mp h).1;have e:rows[i]=r:=by rw[getElem?_eq_getElem hi] at h;exact Option.some.inj h
 unfold plN;rw[take_succ_eq_append_getElem hi,filter_append,length_append,e];cases hb:wp r.k <;> simp [hb]
theorem qM:∀(rows:List Rw) (i:Nat) (acc:List (Key×V)),(yP i acc rows).length<=acc.length+rows.length
 | [],_,_=>le_refl _
 | r::rs,i,acc=>by
  have h:=qM rs (i+1) (if xo r.k=true then y6 acc (.inr r.z) (.int i) else acc)
  have h2:(if xo r.k=true then y6 acc (.inr r.z) (.int i) else acc).length<=acc.length+1:=by
   split
   ·exact xP acc _ _
   ·omega
  show(yP (i+1) _ rs).length<=acc.length+(rs.length+1);omega
theorem uW{r:Rw}:∀(rows:List Rw) (j i:Nat) (acc:List (Key×V)),rows[i]?=some r->yP j acc (rows.take (i+1))=(if xo r.k=true then y6 (yP j acc (rows.take i)) (.inr r.z) (.int (j+i:Nat)) else yP j acc (rows.take i))
 | [],_,_,_,h=>by simp at h
 | r0::rs,j,0,acc,h=>by
  have e:r0=r:=by simpa using h
  subst e;show(if xo r0.k=true then y6 acc (.inr r0.z) (.int j) else acc)=_
  rfl
 | r0::rs,j,i+1,acc,h=>by
  have:=uW rs (j+1) i (if xo r0.k=true then y6 acc (.inr r0.z) (.int j) else acc) (by simpa using h)
  show yP (j+1) _ (rs.take (i+1))=_;rw[this,show j+1+i=j+(i+1) by omega]
  rfl
variable {CF:Addr}
theorem PAt.ne{H:Hp}{p f CF dx:Addr}{r:Rw}{fs:List (Str×V)}(h:PAt c H p r)(e:H f=some (.ins CF dx fs))(n:fs.lookup ("word" : Str)=none):p≠f:=fun z=>by
 obtain⟨d,h⟩:=h;rw[z,e] at h;injection h with h
 injection h with h1 h2 h3
 rw[h3,uq] at n;cases n
theorem ut{H H':Hp}{f CF dx:Addr}{fs:List (Str×V)}(e:H f=some (.ins CF dx fs))(n:fs.lookup ("word" : Str)=none)(x:SX f H H'){ps:List Addr}{rows:List Rw}(h:Paired (PAt c H) ps rows):Paired (PAt c H') ps rows:=
 zm (fun _ _ z=>by
  have ne:=z.ne e n;obtain⟨d,q⟩:=z;exact⟨d,x _ _ q ne⟩) h
theorem zj6:([Str.ofString "at",Str.ofString "parameter"]:List Str).Nodup:=by decide +kernel
theorem zid:zu ["self","parameters","bars"] ["self","parameters","bars"] (zj zeG):=fsc
theorem zgV{g:Addr}{gd gp gb:FuncData}(F:Fun K "keep" "Form.keep" zeG f fd)(T:zbt w K mg G sg)(PP:Pcs K m c)(FK:FC K CF)(cW:zE P w K mg base 1 "number_of_word" g gd ["parameters","word"] (zjA c))
  (GP:zA P w K mg base CX0 1 m.fP gp ["self"] (qY K m bpL)) (bP:z8 K gp ["self"] []) (GB:zA P w K mg base CX0 1 m.fB gb ["self"] (qY K m bnL)) (bB:z8 K gb ["self"] []):zA P w K mg base CX0 2 f fd ["self","parameters","bars"] (zei c CF):=by
 refine F.ok zid (fun cdv A outer s H vs Q E hr h=>?_);obtain⟨f,a,b,dx,fs,ps,rows,bars,rfl,hf,⟨pl,pn⟩,ha,hp,hok,l5,hb,q⟩:=h;have hP:∀C,Cs5 c C->Cls K C/\xw K C "by_place" m.fP:=fun C ⟨k,hk,e⟩=>by rw[e];exact⟨(PP k hk).cl,(PP k hk).mP⟩
 have hB:∀C,Cs5 c C->Cls K C/\xw K C "by_name" m.fB:=fun C ⟨k,hk,e⟩=>by rw[e];exact⟨(PP k hk).cl,(PP k hk).mB⟩
 have nw:fs.lookup ("word" : Str)=none:=pn _ (by decide +kernel)
 refine⟨_,zk (xT (pv 0) (cTy yq T.lst PyProof.Rows.boot_list (ac (pv 1) zc)) rfl)
  (zk (xT (pv 0) (cTy yq T.lst PyProof.Rows.boot_list (ac (pv 2) zc)) rfl)
  (zk (xT (pv 0) (cB z7 T.len PySem.boot_len (ac (wx [] ["parameter"] [none] rfl ⟨rfl,rfl,rfl,rfl⟩ (z9 (yE (pv 0) rfl)) (ye 0) rfl rfl rfl
    (fun pins fp s H C=>⟨zr (i:=0) zjX rfl (Or.inl rfl) (.inr rfl),xM (y7 (ur (pv 0) hP GP hr bP yo)),pv 0⟩)) zc)) rfl)
  (zk (xT (pv 0) (cF cW hr (ac (yE (pv 0) rfl) (ac zw zc))) rfl)
  (zk (xT (pv 0) (cF cW hr (ac (yE (pv 0) rfl) (ac zw zc))) rfl)
  (zf (xT (pv 0) (zjR [] ["at","parameter"] [none,none] rfl ⟨rfl,rfl,rfl,rfl⟩ (ww rfl T.en (ac (yE (pv 0) rfl) zc)) (xI (K:=K) (n:=2) 0 1) rfl rfl rfl
    (fun pins fp s H C=>⟨yO rfl (zF (zr (i:=0) zj6 rfl (Or.inl rfl) (.inr rfl)) (zF (zr (i:=1) zj6 rfl (Or.inl rfl) (.inr rfl)) yv)),xM (y7 (ur (pv 1) hB GB hr bB yo)),zcS (K:=K) rfl (pv 1) rfl,pv 0⟩)) rfl)))))),?_⟩
 exists _,rfl,a,_,rfl,.inl (zh ha),fun l1 hl1=>?_;have s1:=zd hl1 (.lst (ps.map V.ref));exists _,rfl,f,CF,dx,fs,rfl,s1 _ _ hf,FK.cl,FK.n1,(by omega),?_
 have x1:SX f H (upd (upd H l1 (.lst (ps.map V.ref))) f (.ins CF dx (zN "row" (.ref l1) fs))):=(SX.refl.same s1).upd;have f1:upd (upd H l1 (.lst (ps.map V.ref))) f (.ins CF dx (zN "row" (.ref l1) fs)) f=some (.ins CF dx (zN "row" (.ref l1) fs)):=za;have e1:upd (upd H l1 (.lst (ps.map V.ref))) f (.ins CF dx (zN "row" (.ref l1) fs)) l1=some (.lst (ps.map V.ref)):=by
  rw[zg (fun z=>by rw[z,hf] at hl1;cases hl1),za]
 have p1:=wT "row" (.ref l1) fs;have r1:(zN "row" (.ref l1) fs).lookup ("row" : Str)=some (.ref l1):=by rw[zo,if_pos rfl]
 show vV _ _ _ _ (upd (upd H l1 (.lst (ps.map V.ref))) f (.ins CF dx (zN "row" (.ref l1) fs)));generalize upd (upd H l1 (.lst (ps.map V.ref))) f (.ins CF dx (zN "row" (.ref l1) fs))=H1 at x1 f1 e1 |-;have nbf:b≠f:=yR hb hf (by intro z;cases z)
 exists _,rfl,b,_,rfl,.inl (zh (x1 _ _ hb nbf)),fun l2 hl2=>?_;have s2:=zd hl2 (.lst (bars.map V.str));have hlb:H l2=none:=by
  cases e:H l2 with
  | none=>rfl
  | some u=>exact absurd (x1 _ _ e (fun z=>by rw[z,f1] at hl2;cases hl2)) (by rw[hl2];intro z;cases z)
 exists _,rfl,f,CF,dx,_,rfl,s2 _ _ f1,FK.cl,FK.n2,(by omega),?_
 have x2:SX f H (upd (upd H1 l2 (.lst (bars.map V.str))) f (.ins CF dx (zN "bar_names" (.ref l2) (zN "row" (.ref l1) fs)))):=(x1.same s2).upd;have f2:upd (upd H1 l2 (.lst (bars.map V.str))) f (.ins CF dx (zN "bar_names" (.ref l2) (zN "row" (.ref l1) fs))) f=some (.ins CF dx (zN "bar_names" (.ref l2) (zN "row" (.ref l1) fs))):=za;have g2:upd (upd H1 l2 (.lst (bars.map V.str))) f (.ins CF dx (zN "bar_names" (.ref l2) (zN "row" (.ref l1) fs))) l2=some (.lst (bars.map V.str)):=by
  rw[zg (fun z=>by rw[z,f1] at hl2;cases hl2),za]
 have e2:upd (upd H1 l2 (.lst (bars.map V.str))) f (.ins CF dx (zN "bar_names" (.ref l2) (zN "row" (.ref l1) fs))) l1=some (.lst (ps.map V.ref)):=by
  rw[zg (yR e1 f1 (by intro z;cases z)),s2 _ _ e1]
 have p2:=wT "bar_names" (.ref l2) (zN "row" (.ref l1) fs);have r2:(zN "bar_names" (.ref l2) (zN "row" (.ref l1) fs)).lookup ("row" : Str)=some (.ref l1):=by rw[zo,if_neg (by decide +kernel)];exact r1
 show vV _ _ _ _ (upd (upd H1 l2 (.lst (bars.map V.str))) f (.ins CF dx (zN "bar_names" (.ref l2) (zN "row" (.ref l1) fs))));generalize hfs2:zN "bar_names" (.ref l2) (zN "row" (.ref l1) fs)=fs2 at f2 e2 g2 p2 r2 x2 |-;generalize upd (upd H1 l2 (.lst (bars.map V.str))) f (.ins CF dx fs2)=H2 at x2 f2 e2 g2 |-;have hp2:=ut hf nw x2 hp;exists _,rfl,f,CF,dx,_,_,rfl,f2,FK.cl,FK.n1,r2,l1,rfl,⟨_,zh e2⟩,fun D hD=>?_;refine xx (K:=K) (xs:=ps.map V.ref) (fun i ys H'=>zq H2 H'/\H' D=some (.lst ys)/\ys.length=plN (rows.take i)) ⟨zd hD _,za,rfl⟩ (fun i ys H' h=>zh (h.1 _ _ e2)) ?_ ?_
 ·rintro i x ys H' hlt hx ⟨sH,hDy,ey⟩
  obtain⟨pa,hpa,rfl⟩:=xV hx;obtain⟨r,hr',dx',hdx⟩:=xi hp2 hpa;have rok:=hok r (mem_of_getElem? hr');have C:=PP r.k rok.1;have nl:ys.length<=i:=by
   rw[ey];unfold plN;refine le_trans (length_filter_le _ _) ?_;rw[length_take];omega
  have hd2:=sH _ _ hdx;exists _,rfl,pa,_,dx',_,rfl,⟨r.k,rok.1,rfl⟩,hd2,qv (by decide +kernel) (by decide +kernel) (by decide +kernel),pa,dx',_,_,_,_,rfl,C,hd2,_,rfl,?_
  rw[zfH r.k rok.1];have tk:=zgw hr';exists fun e=>?_,fun e=>?_
  ·rw[e,if_pos rfl] at tk
   exists _,rfl,lcN.mk hlt (yn (by rw[length_map,hp.length];omega)) hDy nl ⟨fun b u e=>?_,za,?_⟩
   ·rw[zg (zi e hD)]
    exact sH b u e
   ·rw[length_append,ey,tk]
    rfl
  ·rw[e,if_neg zft] at tk
   exact lcS.mk hlt ⟨sH,hDy,by rw[ey,tk];rfl⟩
 rintro ys H3 ⟨s3,hDy,ey⟩;rw[length_map,hp.length,take_length] at ey;exists D,_,rfl,.inl (zh hDy),?_;rw[ey];have x3:=x2.same s3;exists _,rfl,f,CF,dx,_,rfl,s3 _ _ f2,FK.cl,FK.n3,(by omega),?_
 have f3:upd H3 f (.ins CF dx (zN "place_count" (.int (plN rows:Nat)) fs2)) f=some (.ins CF dx (zN "place_count" (.int (plN rows:Nat)) fs2)):=za;have x4:SX f H (upd H3 f (.ins CF dx (zN "place_count" (.int (plN rows:Nat)) fs2))):=x3.upd;have e4:upd H3 f (.ins CF dx (zN "place_count" (.int (plN rows:Nat)) fs2)) l1=some (.lst (ps.map V.ref)):=by rw[zg (yR e2 f2 (by intro z;cases z))];exact s3 _ _ e2
 have g4:upd H3 f (.ins CF dx (zN "place_count" (.int (plN rows:Nat)) fs2)) l2=some (.lst (bars.map V.str)):=by rw[zg (yR g2 f2 (by intro z;cases z))];exact s3 _ _ g2
 have p3:=wT "place_count" (.int (plN rows:Nat)) fs2;have r3:(zN "place_count" (.int (plN rows:Nat)) fs2).lookup ("row" : Str)=some (.ref l1):=by rw[zo,if_neg (by decide +kernel)];exact r2
 show vV _ _ _ _ (upd H3 f (.ins CF dx (zN "place_count" (.int (plN rows:Nat)) fs2)));generalize hfs3:zN "place_count" (.int (plN rows:Nat)) fs2=fs3 at f3 x4 e4 g4 p3 r3 |-;generalize upd H3 f (.ins CF dx fs3)=H4 at x4 f3 e4 g4 |-;exists _,rfl,f,CF,dx,_,_,rfl,f3,FK.cl,FK.n1,r3,l1,ps,rows,2,rfl,by decide,e4,ut hf nw x4 hp,hok,fun H5 s5=>?_
 exists _,rfl,f,CF,dx,_,rfl,s5 _ _ f3,FK.cl,FK.n4,(by omega),?_
 have f5:upd H5 f (.ins CF dx (zN "tail_number" (wt (zR 2 0 rows)) fs3)) f=some (.ins CF dx (zN "tail_number" (wt (zR 2 0 rows)) fs3)):=za;have x5:SX f H (upd H5 f (.ins CF dx (zN "tail_number" (wt (zR 2 0 rows)) fs3))):=(x4.same s5).upd;have e5:upd H5 f (.ins CF dx (zN "tail_number" (wt (zR 2 0 rows)) fs3)) l1=some (.lst (ps.map V.ref)):=by rw[zg (yR e4 f3 (by intro z;cases z))];exact s5 _ _ e4
 have g5:upd H5 f (.ins CF dx (zN "tail_number" (wt (zR 2 0 rows)) fs3)) l2=some (.lst (bars.map V.str)):=by rw[zg (yR g4 f3 (by intro z;cases z))];exact s5 _ _ g4
 have p4:=wT "tail_number" (wt (zR 2 0 rows)) fs3;have r4:(zN "tail_number" (wt (zR 2 0 rows)) fs3).lookup ("row" : Str)=some (.ref l1):=by rw[zo,if_neg (by decide +kernel)];exact r3
 show vV _ _ _ _ (upd H5 f (.ins CF dx (zN "tail_number" (wt (zR 2 0 rows)) fs3)));generalize hfs4:zN "tail_number" (wt (zR 2 0 rows)) fs3=fs4 at f5 x5 e5 g5 p4 r4 |-;generalize upd H5 f (.ins CF dx fs4)=H6 at x5 f5 e5 g5 |-;exists _,rfl,f,CF,dx,_,_,rfl,f5,FK.cl,FK.n1,r4,l1,ps,rows,4,rfl,by decide,e5,ut hf nw x5 hp,hok,fun H7 s7=>?_
 exists _,rfl,f,CF,dx,_,rfl,s7 _ _ f5,FK.cl,FK.n5,(by omega),?_
 have f7:upd H7 f (.ins CF dx (zN "bag_number" (wt (zR 4 0 rows)) fs4)) f=some (.ins CF dx (zN "bag_number" (wt (zR 4 0 rows)) fs4)):=za;have x7:SX f H (upd H7 f (.ins CF dx (zN "bag_number" (wt (zR 4 0 rows)) fs4))):=(x5.same s7).upd;have e7:upd H7 f (.ins CF dx (zN "bag_number" (wt (zR 4 0 rows)) fs4)) l1=some (.lst (ps.map V.ref)):=by rw[zg (yR e5 f5 (by intro z;cases z))];exact s7 _ _ e5
 have g7:upd H7 f (.ins CF dx (zN "bag_number" (wt (zR 4 0 rows)) fs4)) l2=some (.lst (bars.map V.str)):=by rw[zg (yR g5 f5 (by intro z;cases z))];exact s7 _ _ g5
 have p5:=wT "bag_number" (wt (zR 4 0 rows)) fs4;have r5:(zN "bag_number" (wt (zR 4 0 rows)) fs4).lookup ("row" : Str)=some (.ref l1):=by rw[zo,if_neg (by decide +kernel)];exact r4
 generalize hfs5:zN "bag_number" (wt (zR 4 0 rows)) fs4=fs5 at f7 x7 e7 g7 p5 r5 |-;generalize upd H7 f (.ins CF dx fs5)=H8 at x7 f7 e7 g7 |-;have hp8:=ut hf nw x7 hp;exists _,rfl,f,CF,dx,_,_,rfl,f7,FK.cl,FK.n1,r5,l1,rfl,⟨_,zh e7⟩,fun D2 hD2=>?_;refine zhr (K:=K) (xs:=ps.map V.ref) (fun i ys H'=>zq H8 H'/\H' D2=some (.dK ys)/\ys=yP 0 [] (rows.take i)) ⟨zd hD2 _,za,rfl⟩ (fun i ys H' h=>zh (h.1 _ _ e7)) ?_ ?_
 ·rintro i x p ys H' hlt hx ⟨sH,hDy,ey⟩ hpn
  obtain⟨pa,hpa,rfl⟩:=xV hx;obtain⟨r,hr',dx',hdx⟩:=xi hp8 hpa;have rok:=hok r (mem_of_getElem? hr');have C:=PP r.k rok.1;have sp:=zd hpn (.tup [.int (i:Nat),.ref pa]);have hd2:=sp _ _ (sH _ _ hdx);have hDp:upd H' p (.tup [.int (i:Nat),.ref pa]) D2=some (.dK ys):=by rw[zg (zi hDy hpn)];exact hDy
  have nl:ys.length<=i:=by
   rw[ey];refine le_trans (qM _ _ _) ?_;rw[length_take];show 0+_<=i;omega
  exists p,_,rfl,zB za,rfl,_,_,rfl,_,_,rfl,rfl,?_;exists _,rfl,pa,_,dx',_,rfl,⟨r.k,rok.1,rfl⟩,hd2,qv (by decide +kernel) (by decide +kernel) (by decide +kernel),pa,dx',_,_,_,_,rfl,C,hd2,_,rfl,?_
  rw[zc3 r.k rok.1];have tk:=uW rows 0 i [] hr';exists fun e=>?_,fun e=>?_
  ·rw[e,if_pos rfl] at tk
   exists _,rfl,pa,_,dx',_,_,rfl,hd2,C.cl,C.nN,jf,_,rfl,dcN.mk (.inr r.z) hlt rfl (yn (by rw[length_map,hp.length];omega)) hDp nl ⟨fun b u e=>?_,za,?_⟩
   ·rw[zg (zi e hD2)]
    exact sp _ _ (sH b u e)
   ·rw[tk,<- ey,Nat.zero_add]
  ·rw[e,if_neg zft] at tk
   exact dcS.mk hlt ⟨sH.trans sp,hDp,by rw[ey,tk]⟩
 rintro ys H9 ⟨s9,hDy,ey⟩;rw[length_map,hp.length,take_length] at ey;exists _,rfl,f,CF,dx,_,rfl,s9 _ _ f7,FK.cl,FK.n6,(by omega),?_
 have nf:∀{x:Addr}{o:HO},H9 x=some o->(∀C d g,o≠.ins C d g)->upd H9 f (.ins CF dx (zN "doors" (.ref D2) fs5)) x=some o:=fun {x o} e n=>by
  rw[zg (yR e (s9 _ _ f7) (by intro z;exact n _ _ _ z))]
  exact e
 refine q _ (x7.same s9).upd ⟨dx,_,l1,l2,D2,ps,za,?_,nf (s9 _ _ e7) (by intro _ _ _ z;cases z),ut hf nw (x7.same s9).upd hp,nf (s9 _ _ g7) (by intro _ _ _ z;cases z),nf (by rw[hDy,ey]) (by intro _ _ _ z;cases z),hl1,hlb⟩ ⟨dx,_,za,le_trans (wT _ _ _) (by omega)⟩
 rw[<- hfs5,<- hfs4,<- hfs3,<- hfs2];exists ?_,?_,?_,?_,?_,?_,fun mm hm=>?_
 ·rw[zo,if_neg (by decide +kernel),zo,if_neg (by decide +kernel),zo,if_neg (by decide +kernel),zo,if_neg (by decide +kernel),zo,if_neg (by decide +kernel),zo,if_pos rfl]
 ·rw[zo,if_neg (by decide +kernel),zo,if_neg (by decide +kernel),zo,if_neg (by decide +kernel),zo,if_neg (by decide +kernel),zo,if_pos rfl]
 ·rw[zo,if_neg (by decide +kernel),zo,if_neg (by decide +kernel),zo,if_neg (by decide +kernel),zo,if_pos rfl]
 ·rw[zo,if_neg (by decide +kernel),zo,if_neg (by decide +kernel),zo,if_pos rfl]
 ·rw[zo,if_neg (by decide +kernel),zo,if_pos rfl]
 ·rw[zo,if_pos rfl]
 ·have h':∀a∈zf2,¬mm=a:=fun a ha e=>hm (e ▸ ha)
  rw[zo,if_neg (h' _ (by decide +kernel)),zo,if_neg (h' _ (by decide +kernel)),zo,if_neg (h' _ (by decide +kernel)),zo,if_neg (h' _ (by decide +kernel)),zo,if_neg (h' _ (by decide +kernel)),zo,if_neg (h' _ (by decide +kernel))]
  exact pn mm hm
inductive zjC(c:C5)(CF:Addr)(vs:List V)(H:Hp)(Q:VK)(E:XK):Prop|mk(f a dx:Addr)(bv:V)(ps:List Addr)(rows:List Rw)(bars:List Str):vs=[.ref f,.ref a,bv]->H f=some (.ins CF dx [])->H a=some (.lst (ps.map V.ref))->Paired (PAt c H) ps rows->((bv=.non/\bars=[])\/∃b,bv=.ref b/\H b=some (.lst (bars.map V.str)))->zdk rows bars->(∀H',SX f H H'->vt c CF H H' f rows bars->(∃dx' fs',H' f=some (.ins CF dx' fs')/\fs'.length<=6)->Q .non H')->zjC c CF vs H Q E
inductive zbD(c:C5)(CF:Addr)(vs:List V)(H:Hp)(Q:VK)(E:XK):Prop|mk(f:Addr)(rows:List Rw)(bars:List Str):vs=[.ref f]->xB c CF H f rows bars->(∀(l:Addr) (ps:List Addr) (H':Hp),zq H H'->H l=none->H' l=some (.lst (ps.map V.ref))->Paired (PAt c H') ps rows->Q (.ref l) H')->zbD c CF vs H Q E
inductive zbF(c:C5)(CF:Addr)(vs:List V)(H:Hp)(Q:VK)(E:XK):Prop|mk(f:Addr)(rows:List Rw)(bars:List Str):vs=[.ref f]->xB c CF H f rows bars->(∀(l:Addr) (H':Hp),zq H H'->H l=none->H' l=some (.lst (bars.map V.str))->Q (.ref l) H')->zbF c CF vs H Q E
inductive uf(c:C5)(CF:Addr)(vs:List V)(H:Hp)(Q:VK)(E:XK):Prop|mk(f:Addr)(rows:List Rw)(bars:List Str):vs=[.ref f]->xB c CF H f rows bars->(Q (.int (plN rows:Nat)) H)->uf c CF vs H Q E
inductive uD(c:C5)(CF:Addr)(kk:Nat)(vs:List V)(H:Hp)(Q:VK)(E:XK):Prop|mk(f:Addr)(rows:List Rw)(bars:List Str):vs=[.ref f]->xB c CF H f rows bars->(Q (wt (zR kk 0 rows)) H)->uD c CF kk vs H Q E
inductive zef(c:C5)(CF:Addr)(vs:List V)(H:Hp)(Q:VK)(E:XK):Prop|mk(f:Addr)(z:Str)(rows:List Rw)(bars:List Str):vs=[.ref f,.str z]->xB c CF H f rows bars->(Q ((yi (yP 0 [] rows) (.inr z)).getD .non) H)->zef c CF vs H Q E
def TAt(H:Hp)(u:Addr)(r:Rw):Prop:=H u=some (.tup (rv r))
theorem zZ{H H':Hp}{us:List Addr}{rows:List Rw}(s:zq H H')(h:Paired (TAt H) us rows):Paired (TAt H') us rows:=zm (fun _ _ z=>s _ _ z) h
theorem zcM:zu ["self","parameters","bars","names"] ["self","parameters","bars"] (zj zbW):=fsc
theorem zfr{ds:List Value}{g1 g2 g3 g4 g5:Addr}{e1 e2 e3 e4 e5:FuncData}(F:qi K "__init__" "Form.__init__" zbW f fd ds)(FK:FC K CF)(mK:xw K CF "keep" g5)
  (cM:zE P w K mg base 1 "refuse_too_many" g1 e1 ["parameters","bars"] (zeh K)) (cO:zE P w K mg base 1 "refuse_bad_order" g2 e2 ["parameters"] (zhH c)) (cB':zE P w K mg base 2 "refuse_bars_without_name" g3 e3 ["bars"] zjy) (cT:zE P w K mg base 2 "refuse_twice" g4 e4 ["parameters","bars"] (zjx c))
  (GK:zA P w K mg base CX0 2 g5 e5 ["self","parameters","bars"] (zei c CF)) (bK:z8 K e5 ["self","parameters","bars"] []):zA P w K mg base CX0 3 f fd ["self","parameters","bars"] (zjC c CF):=by
 refine F.ok zcM (fun vs H Q E h=>?_) (fun cdv A outer s H vs Q E hr h=>?_)
 ·obtain⟨f,a,dx,bv,ps,rows,bars,rfl,_⟩:=h
  rfl
 obtain⟨f,a,dx,bv,ps,rows,bars,rfl,hf,ha,hp,hb,V',q⟩:=h;have hr1:yj 1 _:=hr.mono (by decide)
 refine⟨_,zk (zx (i:=3) zcM.nd rfl (Or.inl rfl) (zaY (uI (zb5 (pv 2))) (zS zc) (pv 2)))
  (zk (zI (cF cM hr1 (ac (pv 1) (ac (pv 3) zc))))
  (zk (zI (cF cO hr1 (ac (pv 1) zc)))
  (zk (zI (cF cB' hr (ac (pv 3) zc)))
  (zk (zI (cF cT hr (ac (pv 1) (ac (pv 3) zc))))
  (zf (zI (vC (pv 0) FK.cl mK GK hr bK .nil yo (ac (pv 1) (ac (pv 3) zc))))))))),?_⟩
 try dsimp only
 refine wQ (fun σ' H'=>∃b,σ'=[some (.ref f),some (.ref a),some bv,some (.ref b)]/\zq H H'/\H' b=some (.lst (bars.map V.str))) ?_ (fun key=>?_);rotate_left
 ·rcases hb with ⟨rfl,rfl⟩|⟨b,rfl,hb⟩
  ·exists _,rfl,_,rfl,?_
   refine dT rfl ?_;exists wb,fun l hl=>?_;exact key _ _ ⟨l,rfl,zd hl _,za⟩
  ·exists _,rfl,_,rfl,?_
   refine dF (by intro z;cases z) ?_
   exact⟨_,rfl,key _ _ ⟨b,rfl,zq.refl _,hb⟩⟩
 rintro σ1 H1 ⟨b,rfl,s1,hb1⟩;have ha1:=s1 _ _ ha;exists _,rfl,_,rfl,a,b,_,_,rfl,zh ha1,zh hb1,(by rw[length_map,hp.length];exact V'.l24),(by rw[length_map];exact V'.l60),?_
 exists _,rfl,a,ps,rows,rfl,ha1,xh s1 hp,V'.ok,V'.ord,fun H2 s2=>?_;exists _,rfl,b,bars,rfl,s2 _ _ hb1,V'.bn,fun H3 s3=>?_;have s13:=s1.trans (s2.trans s3);exists _,rfl,_,rfl,a,b,ps,rows,bars,rfl,s13 _ _ ha,xh s13 hp,V'.ok,le_trans V'.l24 (by decide),s3 _ _ (s2 _ _ hb1),le_trans V'.l60 (by decide),V'.nd,fun H4 s4=>?_
 have s14:=s13.trans s4;exists _,rfl,f,dx,_,rfl,s14 _ _ hf,rfl,_,rfl,_,rfl,f,a,b,dx,[],ps,rows,bars,rfl,s14 _ _ hf,⟨by decide,fun _ _=>rfl⟩,s14 _ _ ha,xh s14 hp,V'.ok,le_trans V'.l24 (by decide),s4 _ _ (s3 _ _ (s2 _ _ hb1)),fun H5 x5 F5 L5=>?_
 exact q _ (fun b' u e n=>x5 b' u (s14 _ _ e) n) (F5.of s14) L5
theorem zgm:zu ["self"] ["self"] (zj zbV):=fsc
theorem zfq(F:Fun K "parameters" "Form.parameters" zbV f fd)(T:zbt w K mg G sg)(FK:FC K CF):zA P w K mg base CX0 1 f fd ["self"] (zbD c CF):=by
 refine F.ok zgm (fun cdv A outer s H vs Q E hr h=>?_);obtain⟨f,rows,bars,rfl,⟨dx,fs,lr,lb,ld,ps,h1,h2,h3,h4,h5,h6⟩,q⟩:=h;exists _,zf (zy (cTy yq T.lst PyProof.Rows.boot_list (ac (yE (pv 0) rfl) zc))),?_;exists _,rfl,f,CF,dx,_,_,rfl,h1,FK.cl,FK.n1,h2.row,lr,_,rfl,.inl (zh h3),fun l hl=>?_;have s1:=zd hl (.lst (ps.map V.ref));exact q l ps _ s1 hl za (xh s1 h4)
theorem zgn:zu ["self"] ["self"] (zj zbX):=fsc
theorem zfs(F:Fun K "bars" "Form.bars" zbX f fd)(T:zbt w K mg G sg)(FK:FC K CF):zA P w K mg base CX0 1 f fd ["self"] (zbF c CF):=by
 refine F.ok zgn (fun cdv A outer s H vs Q E hr h=>?_);obtain⟨f,rows,bars,rfl,⟨dx,fs,lr,lb,ld,ps,h1,h2,h3,h4,h5,h6⟩,q⟩:=h;exists _,zf (zy (cTy yq T.lst PyProof.Rows.boot_list (ac (yE (pv 0) rfl) zc))),?_;exists _,rfl,f,CF,dx,_,_,rfl,h1,FK.cl,FK.n2,h2.bn,lb,_,rfl,.inl (zh h5),fun l hl=>?_;exact q l _ (zd hl _) hl za
theorem zdu:zu ["self"] ["self"] (zj jx):=fsc
theorem zb6(F:Fun K "places" "Form.places" jx f fd)(FK:FC K CF):zA P w K mg base CX0 1 f fd ["self"] (uf c CF):=by
 refine F.ok zdu (fun cdv A outer s H vs Q E hr h=>?_);obtain⟨f,rows,bars,rfl,⟨dx,fs,lr,lb,ld,ps,h1,h2,h3,h4,h5,h6⟩,q⟩:=h;exact⟨_,zf (zy (yE (pv 0) rfl)),_,rfl,f,CF,dx,_,_,rfl,h1,FK.cl,FK.n3,h2.pc,q⟩
theorem zgl:zu ["self"] ["self"] (zj zbU):=fsc
theorem zfp(F:Fun K "tail" "Form.tail" zbU f fd)(FK:FC K CF):zA P w K mg base CX0 1 f fd ["self"] (uD c CF 2):=by
 refine F.ok zgl (fun cdv A outer s H vs Q E hr h=>?_);obtain⟨f,rows,bars,rfl,⟨dx,fs,lr,lb,ld,ps,h1,h2,h3,h4,h5,h6⟩,q⟩:=h;exact⟨_,zf (zy (yE (pv 0) rfl)),_,rfl,f,CF,dx,_,_,rfl,h1,FK.cl,FK.n4,h2.tn,q⟩
theorem zig:zu ["self"] ["self"] (zj zeL):=fsc
theorem zgZ(F:Fun K "bag" "Form.bag" zeL f fd)(FK:FC K CF):zA P w K mg base CX0 1 f fd ["self"] (uD c CF 4):=by
 refine F.ok zig (fun cdv A outer s H vs Q E hr h=>?_);obtain⟨f,rows,bars,rfl,⟨dx,fs,lr,lb,ld,ps,h1,h2,h3,h4,h5,h6⟩,q⟩:=h;exact⟨_,zf (zy (yE (pv 0) rfl)),_,rfl,f,CF,dx,_,_,rfl,h1,FK.cl,FK.n5,h2.bg,q⟩
theorem zif:zu ["self","name"] ["self","name"] (zj zeK):=fsc
theorem zgY(F:Fun K "number_of" "Form.number_of" zeK f fd)(FK:FC K CF):zA P w K mg base CX0 1 f fd ["self","name"] (zef c CF):=by
 refine F.ok zif (fun cdv A outer s H vs Q E hr h=>?_);obtain⟨f,z,rows,bars,rfl,⟨dx,fs,lr,lb,ld,ps,h1,h2,h3,h4,h5,h6⟩,q⟩:=h;exists _,zf (zy (ze2 (zc4 hr) (yE (pv 0) rfl) (pv 1) ⟨rfl,rfl,rfl,rfl⟩)),?_;exists _,rfl,f,CF,dx,_,_,rfl,h1,FK.cl,FK.n6,h2.dr,ld,rfl,?_,_,rfl,_,.inl ⟨_,.inr z,.inl h6,rfl,rfl⟩,q;exact .inl ⟨_,.inl h6⟩
end
end K62
namespace L2
open PySem PySem.Spec PyProof.Rows
section
variable {X:Cx}{pins:PnL}{σ:St}{H:Hp}{s:Shared}
theorem Inv.freeze(I:Inv X pins σ H s){l:Addr}{kvs:List (Key×V)}(hl:H l=some (.dK kvs)):∃o,s.heap.get? l=some o/\Inv X pins σ (upd H l (.frz o (.dK kvs))) s:=by
 obtain⟨hz,hy,vs,r,o,es,ep,ho,c⟩:=id (I.hok l _ hl);exists o,ho,⟨I.ok,I.os,I.bare,⟨I.base.keep,I.base.slot,fun b u e n x=>?_,I.base.there,fun b xs e=>?_,fun b u v e=>?_,fun b ps e=>?_⟩,I.loc,I.cell,?_,fun x c e=>?_,fun p hp'=>?_,fun b u e=>?_,I.len⟩
 ·have e1:=I.base.free b u e n x
  rw[zg (zi hl e1).symm];exact e1
 ·have e1:=I.base.tups b xs e
  rw[zg (yR e1 hl (by intro z;cases z))];exact e1
 ·have e1:=I.base.frzs b u v e
  rw[zg (yR e1 hl (by intro z;cases z))];exact e1
 ·obtain⟨more,e1⟩:=I.base.tbls b ps e
  exact⟨more,by rw[zg (yR e1 hl (by intro z;cases z))];exact e1⟩
 ·rw[zg (zi hl I.free).symm];exact I.free
 ·rw[zg (zi hl (I.freeC x c e)).symm];exact I.freeC x c e
 ·obtain⟨q1,q2,q3⟩:=I.pin p hp'
  exact⟨q1,by rw[zg (zi hl q2).symm];exact q2,q3⟩
 ·have ho':∀c,∀b,H b=some (.own c)->upd H l (.frz o (.dK kvs)) b=some (.own c):=fun c b q=>by rw[zg (yR q hl (by intro z;cases z))];exact q
  have ht':∀b xs,H b=some (.tup xs)->upd H l (.frz o (.dK kvs)) b=some (.tup xs):=fun b xs q=>by rw[zg (yR q hl (by intro z;cases z))];exact q
  by_cases hb:b=l
  ·subst hb;rw[za] at e;cases e
   exact⟨ho,(I.hok b _ hl).stay (fun _ _ _ q=>q) (ho' b) ht'⟩
  ·rw[zg hb] at e
   exact(I.hok b u e).stay (fun _ _ _ q=>q) (ho' b) ht'
inductive zktJ(Q:VK)(x:V)(H1:Hp):Prop|mk(l kvs:_):x=.ref l->H1 l=some (.dK kvs)->(∀o,Q x (upd H1 l (.frz o (.dK kvs))))->zktJ Q x H1
def zkt(te:TE):TE:=fun σ H Q=>te σ H fun x H1=>zktJ Q x H1
theorem ziD{e:Expr}{te:TE}(h:PE X e te):PE X e (zkt te):=by
 exists ?_;intro pins s σ H Q I hw;refine thn (h pins s σ H _ I hw) fun v s1 ⟨x,H1,I1,r1,l,kvs,ex,hl,q⟩=>?_;obtain⟨o,_,I2⟩:=I1.freeze hl;exact⟨x,_,I2,r1,q o⟩
theorem zgo{k:Key}{u:Value}(h:jS k u=true):ya (kV k) u:=by
 rcases yy h with ⟨i,t,rfl,rfl⟩|⟨x,t,rfl,rfl⟩
 ·exact⟨t,rfl⟩
 ·exact⟨t,rfl⟩
def Itd(d:Addr)(o:Obj)(kvs:List (Key×V)):It:=
 ⟨fun i H=>H d=some (.frz o (.dK kvs))/\i<kvs.length,fun i H x H'=>∃(p:Addr) (k:Key) (v:V),x=.ref p/\H p=none/\kvs[i]?=some (k,v)/\H'=upd H p (.tup [kV k,v]),fun i H=>H d=some (.frz o (.dK kvs))/\kvs.length<=i⟩
theorem zfN{X:Cx}{pins:PnL}{σ : St}{H:Hp}{s:Shared}{d:Addr}{o:Obj}{kvs:List (Key×V)}{es:Array DictEntry}{ep:Nat}(I:Inv X pins σ H s)(hd:H d=some (.frz o (.dK kvs)))(ho:o.data=.dict es ep):
  (d==sysModules)=false/\∃vs,KV kvs vs/\s.heap.DictAt (yp X.prog X.w) d vs ep:=by
 obtain⟨e,hz,hy,vs,r,o',es',ep',ho',c1,c2,c3⟩:=id (I.hok d _ hd);rw[e] at ho';cases ho';rw[ho] at c2;cases c2;exact⟨hy,vs,r,o,es,e,c1,ho,c3⟩
theorem vQ:entryFor table "dict_itemiterator.__iter__"=some Builtin.«dict_keyiterator.__iter__»:=entryFor_alias (id':="dict_keyiterator.__iter__") (by kernel_rfl) (by first|rfl|decide +kernel|(unfold String.splitOn;simp +decide [String.splitOnAux])) (by decide +kernel) (by kernel_rfl)
theorem w9{P:Program}{w:World}{A:Around}{E:VSP}{s:Shared}{it d:Addr}{i n ep:Nat}{ok ov:Value}{Q:VSP}(he:IsItemIter s.heap it d i n ep ok ov)(h:Q (.ref it) s):wpAny (model P w) A (pyIter (.ref it)) Q E s:=by
 have hT:s.TypeIs (.ref it) "dict_itemiterator":=⟨_,he,rfl⟩;refine wpAny_pyIter_slot hT F.slot_dict_itemiterator_iter (wpAny_call_entry F.slot_dict_itemiterator_iter hT vQ ?_ (F.args_dict_itemiterator_iter_1 _));show wpAny _ _ (ret (.ref it)) _ _ s;exact zwp ⟨_,rfl,"dict_itemiterator",_,hT,F.slot_dict_itemiterator_next.lookup,h⟩
theorem zbB{P:Program}{w:World}{K:Frag}{elts:List Expr}{x1:Nat}{tpos:Pos}(d it:Addr)(o:Obj)(kvs:List (Key×V))(es:Array DictEntry)(ep:Nat)(ho:o.data=.dict es ep):
  qg P w K (.Tuple elts x1 tpos) (Itd d o kvs) [it] it (fun i h=>∃ok ov,IsItemIter h it d i kvs.length ep ok ov) where
 mem:=by simp
 obj:=fun i h st b hb=>by
  have e':b=it:=by simpa using hb
  subst e';obtain⟨ok,ov,hi⟩:=st;exact⟨_,hi,fun v q=>by cases q⟩
 keep:=fun i h h' st k=>by
  obtain⟨ok,ov,hi⟩:=st;exact⟨ok,ov,k it (by simp) _ hi⟩
 item:=by
  intro X hP hw hK hc i pins s σ H E I hf st hg;subst hP hw hK;obtain⟨f0,f1,f2,f3,f4,f5⟩:=hf it (by simp)
  obtain⟨ok,ov,hit⟩:=st;obtain⟨hd,hlt⟩:=hg;obtain⟨hy,vs,r,hm⟩:=zfN I hd ho;have hl:kvs.length=vs.length:=r.length;obtain⟨⟨k2,u⟩,hu,ek,ru⟩:=Paired.get r (getElem?_eq_getElem hlt);rw[hl] at hit;obtain⟨k,v,hkv⟩:∃k v,kvs[i]=(k,v):=⟨_,_,rfl⟩;have ek:k=k2:=by rw[hkv] at ek;exact ek
  have ru2:ya v u:=by rw[hkv] at ru;exact ru
  subst ek;refine wpAny_pyNext_items_item hit hm hu fun key h' hk2 he' htup hsz hkp=>?_;have rk:ya (kV k) key:=zgo hk2;have I0:Inv X pins σ H { s with heap:=h' }:=I.turned (t':=s.toks) (it:=it) hkp f0 f1 f3 f4 f5
  have hfr:H s.heap.objs.size=none:=I.hok.fresh (le_refl _);have I1:Inv X pins σ (upd H s.heap.objs.size (.tup [kV k,v])) { s with heap:=h' }:=by
   have hok:HOk X.prog X.w (upd H s.heap.objs.size (.tup [kV k,v])) h':=fun b o q=>by
    by_cases hb:b=s.heap.objs.size
    ·subst hb
     rw[za] at q;cases q;exact⟨by show 2<=sizeLine;decide,[key,u],.cons rk (.cons ru2 .nil),⟨_,htup,rfl,_,rfl⟩⟩
    ·rw[zg hb] at q
     exact(I0.hok b o q).stay (fun _ _ _ z=>z) (fun c z=>by rw[zg (zi z hfr)];exact z) fun c xs' z=>by rw[zg (zi z hfr)];exact z
   refine I0.step (s:={ s with heap:=h' }) (g':=s.gens) (d':=s.drawn) (h':=h') (t':=s.toks) (ch:=[s.heap.objs.size]) (fun b hb=>?_) (fun b o _ _ _ e1 _=>e1) (fun b o _ _ _ e1 _=>⟨o.slots,e1⟩) (fun b o hb e1 n=>by rw[zg (fun z=>hb (by simp [z]))];exact n)
    (fun b o _ e1=>⟨o,e1⟩) (fun b xs' e1=>by rw[zg (zi e1 hfr)];exact e1) (fun b o' u' e1=>by rw[zg (zi e1 hfr)];exact e1) (fun b ps e1=>⟨#[],by rw[zg (zi e1 hfr),e1];simp⟩) (fun m hm=>hm) hok I0.bare
   have e':b=s.heap.objs.size:=by simpa using hb
   subst e';exists .inr I.sz,fun z=>?_,fun y c h z=>?_,fun p hp' z=>?_
   ·have:=I.lt;rw[<- z] at this;exact absurd this (lt_irrefl _)
   ·obtain⟨v',hv⟩:=I.cell y c h
    have:=hv.lt;rw[z] at this;exact absurd this (lt_irrefl _)
   ·have:=I.pin_lt hp';rw[z] at this;exact absurd this (lt_irrefl _)
  exists _,rfl,wpAny_letOwnedTupleGo_items he' fun h2 he2 hs2=>?_;have nis:s.heap.objs.size≠it:=fun z=>by
   have:=Heap.lt_size (show s.heap.get? it=some _ from hit)
   rw[<- z] at this;exact absurd this (lt_irrefl _)
  have I2:Inv X pins σ (upd H s.heap.objs.size (.tup [kV k,v])) { s with heap:=h2 }:=
   I1.turned (s:={ s with heap:=h' }) (t':=s.toks) (it:=it) (fun b o hb q=>(hs2.2 b hb).trans q) (by rw[zg nis.symm];exact f0) f1 f3 f4 f5
  exists .ref s.heap.objs.size,_,I2,rfl,⟨_,k,v,rfl,hfr,by rw[getElem?_eq_getElem hlt,hkv],rfl⟩,⟨_,_,by rw[hl];exact he2⟩,fun b hb=>?_
  have e':b=it:=by simpa using hb
  subst e';rw[zg nis.symm];exact f0
 done:=by
  intro X hP hw hK hc i pins s σ H E I hf st hg;subst hP hw hK;obtain⟨ok,ov,hit⟩:=st;obtain⟨f0,f1,f2,f3,f4,f5⟩:=hf it (by simp)
  obtain⟨hd,hle⟩:=hg;obtain⟨hy,vs,r,hm⟩:=zfN I hd ho;have hl:kvs.length=vs.length:=r.length;rw[hl] at hit;exact wpAny_pyNext_items_end (I.ok.hd hc) hit hm (List.getElem?_eq_none (by omega)) fun h' eb=>⟨rfl,I.turned (t':=s.toks) (fun b o hb e1=>eb b o hb e1) f0 f1 f3 f4 f5⟩
 self:=fun A i s Q E st h=>by
  obtain⟨ok,ov,hit⟩:=st;exact w9 hit h
variable {elts:List Expr}{x1:Nat}{tpos:Pos}
inductive zi5J(R:It->Hp->Prop)(x:V)(H1:Hp):Prop|mk(d o kvs:_):x=.ref d->H1 d=some (.frz o (.dK kvs))->(R (Itd d o kvs) H1)->zi5J R x H1
def zi5(te:TE):TI:=fun σ H R=>te σ H fun x H1=>zi5J R x H1
theorem zeY{l:Expr}{te:TE}{apos cpos:Pos}(hl:PE X l te)(hbase:attributeBase l "items" X.env (eval l X.env)=eval l X.env:=by rfl)(hline:(apos.endLine==cpos.line)=true:=by rfl):
  PI X (.Tuple elts x1 tpos) (.Call (.Attribute l "items" apos) [] [] cpos) (zi5 te):=by
 exists ?_;intro pins s σ H R I h;refine wpAny_Call_method0_late hbase hline (thn (hl pins s σ H _ I h) fun v s1 ⟨x,H1,I1,r1,d,o,kvs,ex,hd,q⟩=>?_);subst ex;cases r1;obtain⟨e,hz,hy,vs,r,o',es,ep,ho',c1,c2,c3⟩:=id (I1.hok d _ hd);rw[e] at ho';cases ho';have hm:s1.heap.DictAt (yp X.prog X.w) d vs ep:=⟨o,es,e,c1,c2,c3⟩;exists "dict","dict.items",F.plainAttrs_dict,F.slot_dict_items,F.type_dict_items,⟨o,e,c1.1⟩,fun a ea=>by cases ea;exact⟨o,e,c1.2.1⟩,Calls.callWith_builtin rfl (PySem.evalArgs_none ?_)
 refine call_meetsIn F.slot_dict_items ⟨o,e,c1.1⟩ F.entry_dict_items (F.args_dict_items_1 _) (meets_dict_items (yp X.prog X.w) d hy) ⟨⟨vs,hm.dictOf⟩,?_⟩;show wpAny _ _ (pyIter (.ref s1.heap.objs.size)) _ _ _;have hl:kvs.length=vs.length:=r.length;refine wpAny_pyIter_items (knd:=yp X.prog X.w) (d:=d) (kvs:=vs) (ep:=ep) ⟨_,zgs _ rfl,rfl,rfl⟩ (hm.push _) ?_;have hk:∀b ob,s1.heap.get? b=some ob->((s1.heap.push { cls:=.type "dict_items",data:=.fields #[.ref d] }).push { cls:=.type "dict_itemiterator",data:=.fields #[.none,.bool false,.ref d,.int 0 0,.int vs.length 0,.int ep 0,.none,.none] }).get? b=some ob:=fun b ob q=>zgp _ (zgp _ q);have I2:=I1.kept (t':=s1.toks) hk;have hsz:(s1.heap.push { cls:=.type "dict_items",data:=.fields #[.ref d] }).objs.size=s1.heap.objs.size+1:=Heap.size_push ..;exists (s1.heap.push { cls:=.type "dict_items",data:=.fields #[.ref d] }).objs.size,[(s1.heap.push { cls:=.type "dict_items",data:=.fields #[.ref d] }).objs.size],_,Itd d o kvs,H1,rfl,I2,zbB d _ o kvs es ep c2,⟨.none,.none,?_⟩,fun b hb=>?_,q
 ·rw[hl]
  exact zgs (s1.heap.push { cls:=.type "dict_items",data:=.fields #[.ref d] }) (o:={ cls:=.type "dict_itemiterator",data:=.fields #[.none,.bool false,.ref d,.int 0 0,.int vs.length 0,.int ep 0,.none,.none] }) rfl
 ·have e':b=(s1.heap.push { cls:=.type "dict_items",data:=.fields #[.ref d] }).objs.size:=by simpa using hb
  subst e';rw[hsz];exact I1.fpOk (le_succ _) (I1.hok.fresh (le_succ _))
theorem zdR{d:Addr}{o:Obj}{kvs:List (Key×V)}{g:TG}{tb:TS}{D:w4}{σ : St}{H:Hp}(Pv:Nat->St->Hp->Prop)(h0:Pv 0 σ H)(hl:∀i σ H,i<=kvs.length->Pv i σ H->H d=some (.frz o (.dK kvs)))
  (hs:∀i k v p σ H,kvs[i]?=some (k,v)->Pv i σ H->H p=none->g (.ref p) σ (upd H p (.tup [kV k,v])) fun σ2 H2=>tb { D with nx:=Pv (i+1),ct:=Pv (i+1),bk:=D.nx } σ2 H2) (hd:∀σ H,Pv kvs.length σ H->D.nx σ H) :
  ∃W:Nat->Nat->St->Hp->Prop,(∃m,W 0 m σ H)/\∀i m σ H,W i m σ H->
   ((Itd d o kvs).stop i H/\D.nx σ H)\/((Itd d o kvs).go i H/\∃N:St->Hp->Prop,(∀σ' H',N σ' H'->∃m',m'<m/\W (i+1) m' σ' H')/\∀x H',(Itd d o kvs).yld i H x H'->g x σ H' fun σ2 H2=>tb { D with nx:=N,ct:=N,bk:=D.nx } σ2 H2):=by
 exists fun i m σ H=>m=kvs.length - i/\i<=kvs.length/\Pv i σ H,⟨kvs.length,by simp,zero_le _,h0⟩,?_
 rintro i m σ H ⟨rfl,hi,p⟩;have q:=hl i σ H hi p;by_cases hlt:i<kvs.length
 ·refine .inr ⟨⟨q,hlt⟩,Pv (i+1),fun σ' H' p'=>⟨kvs.length - (i+1),by omega,rfl,hlt,p'⟩,fun x H' y=>?_⟩
  obtain⟨pp,k,v,rfl,hp,y2,rfl⟩:=y;exact hs i k v pp σ H y2 p hp
 ·have e:i=kvs.length:=by omega
  subst e;exact .inl ⟨⟨q,le_refl _⟩,hd σ H p⟩
theorem zkB{X:Cx}{pins:PnL}{σ : St}{H:Hp}{s:Shared}{A:Around}{a b:Addr}{xs ys:List V}(I:Inv X pins σ H s)(ha:SqT X.K H a xs)(hb:SqT X.K H b ys)(fx:xs.all xR=true)(fy:ys.all xR=true)(hu:A.units+8<cLine):
  SeqAt.RcAt A s (.ref a) (.ref b) (eqT xs ys):=by
 obtain⟨ia,va,pa,_⟩:=I.tuple ha;obtain⟨ib,vb,pb,_⟩:=I.tuple hb;have la:ia.toArray.size=xs.length:=by rw[size_toArray];exact va.length.symm
 have lb:ib.toArray.size=ys.length:=by rw[size_toArray];exact vb.length.symm
 have:=SeqAt.RcAt.tuples (A:=A) (s:=s) (e:=fun j=>eqV (xs[j]?.getD .non) (ys[j]?.getD .non)) (show s.heap.IsTuple a ia.toArray from pa) (show s.heap.IsTuple b ib.toArray from pb) (by omega) (fun j h1 h2=>by
  have j1:j<ia.length:=by simpa using h1
  have j2:j<ib.length:=by simpa using h2
  have hxl:j<xs.length:=by rw[va.length];exact j1
  have hyl:j<ys.length:=by rw[vb.length];exact j2
  obtain⟨u',e1,e2⟩:=va.get (i:=j) (getElem?_eq_getElem hxl);obtain⟨v',e3,e4⟩:=vb.get (i:=j) (getElem?_eq_getElem hyl);rw[getElem?_eq_getElem j1] at e1;rw[getElem?_eq_getElem j2] at e3;cases e1;cases e3;have q:=zfT (A:=A.in1) (s:=s) e2 e4 (List.all_eq_true.mp fx _ (getElem_mem hxl)) (List.all_eq_true.mp fy _ (getElem_mem hyl));simpa [hxl,hyl] using q)
 rw[la,lb] at this;exact this
inductive ziwJ(K:Frag)(x:V)(y:V)(H:Hp)(Q:VK):Prop|mk(a c:Addr)(xs ys:List V):x=.ref a->y=.ref c->SqT K H a xs->SqT K H c ys->xs.all xR=true->ys.all xR=true->(Q (.bl (eqT xs ys)) H)->ziwJ K x y H Q
def ziw(K:Frag):R2:=fun x y H Q=>ziwJ K x y H Q
theorem ze9{X:Cx}(hu:X.A.units+64<cLine):OpR X (compareOp .Eq) (ziw X.K):=by
 intro pins s σ H x y v u Q I rx ry h;obtain⟨a,c,xs,ys,rfl,rfl,ha,hc,fx,fy,q⟩:=h;cases rx;cases ry;exact zkB (A:=X.A) I ha hc fx fy (by omega) X.prog X.w X.xe _ ⟨.bl _,H,I,rfl,q⟩
end
end L2
namespace K62
open PySem L2 PyProof.Rows
inductive zY where
 | one (t:Int)|row (ts:List Int)|named (n:Str) (t:Int)|book (ps:List (Str×Int))
def yr(p:Str×Int):Dt:=.tup [.str p.1,.int p.2]
def zV:zY->Dt
 | .one t=>.tup [.str "one",.int t]
 | .row ts=>.tup [.str "row",.lst (ts.map .int)]
 | .named n t=>.tup [.str "named",.str n,.int t]
 | .book ps=>.tup [.str "book",.lst (ps.map yr)]
def itT:zY->List Int
 | .one t=>[t]
 | .row ts=>ts
 | _=>[]
def itP:zY->List (Str×Int)
 | .named n t=>[(n,t)]
 | .book ps=>ps
 | _=>[]
def zH(c:List zY):List Int:=(c.map itT).flatten
def zD(c:List zY):List (Str×Int):=(c.map itP).flatten
abbrev T':Addr->Prop:=fun _=>True
def Two(K:Frag)(H H':Hp)(p:Addr)(ts:List Int)(ps:List (Str×Int)):Prop:=
 ∃l1 l2 xs,H l1=none/\H l2=none/\l1≠l2/\H p=none/\H' p=some (.tup [.ref l1,.ref l2])/\H' l1=some (.lst (ts.map V.int))/\H' l2=some (.lst xs)/\Paired (zz K T' H' 1) xs (ps.map yr)
inductive vW(K:Frag)(vs:List V)(H:Hp)(Q:VK)(E:XK):Prop|mk(a:Addr)(c:List zY)(xs:List V):vs=[.ref a]->SqL K H a xs->Paired (zz K T' H 3) xs (c.map zV)->(zH c).length<=900->(zD c).length<=900->(∀(p:Addr) (H':Hp),zq H H'->Two K H H' p (zH c) (zD c)->Q (.ref p) H')->vW K vs H Q E
section
variable {P:Program}{w:World}{K:Frag}{mg:Str->Option Value}{base:Heap}{f:Addr}{fd:FuncData}
theorem zf0(ns:List Int)(lo hi:Option Int):∃ms:List Int,wO (ns.map V.int) lo hi=ms.map V.int/\ms.length<=ns.length/\∀m∈ms,m∈ns:=by
 exists (ns.drop (HT.sIx ns.length 0 lo)).take (HT.sIx ns.length ns.length hi - HT.sIx ns.length 0 lo),?_,?_,fun m hm=>List.mem_of_mem_drop (mem_of_mem_take hm)
 ·unfold wO
  rw[length_map,map_take,map_drop]
 ·rw[length_take,length_drop]
  omega
variable {ok:Addr->Prop}{H H':Hp}{n:Nat}{x:V}
theorem vf{i:Int}(h:zz K ok H n x (.int i)):x=.int i:=by
 have fl:uY x (.int i)->x=.int i:=fun h=>by
  cases x <;> first|exact h.elim|(have e:=(show _=_ from h);rw[e])
 cases n with
 | zero=>exact fl h
 | succ n=>
  rcases h with h|⟨_,_,_,_,e,_⟩|⟨_,_,_,_,e,_⟩
  ·exact fl h
  ·cases e
  ·cases e
theorem wf{z:Str}(h:zz K ok H n x (.str z)):x=.str z:=by
 have fl:uY x (.str z)->x=.str z:=fun h=>by
  cases x <;> first|exact h.elim|(have e:=(show _=_ from h);rw[e])
 cases n with
 | zero=>exact fl h
 | succ n=>
  rcases h with h|⟨_,_,_,_,e,_⟩|⟨_,_,_,_,e,_⟩
  ·exact fl h
  ·cases e
  ·cases e
theorem yZ{ds:List Dt}(h:zz K ok H (n+1) x (.tup ds)):∃a xs,x=.ref a/\SqT K H a xs/\Paired (zz K ok H n) xs ds:=by
 rcases h with h|⟨a,xs,ds',e1,e2,e3,r⟩|⟨_,_,_,_,e,_⟩
 ·cases x <;> exact h.elim
 ·cases e2;exact⟨a,xs,e1,e3,r⟩
 ·cases e
theorem um{ds:List Dt}(h:zz K ok H (n+1) x (.lst ds)):∃a xs,x=.ref a/\ok a/\H a=some (.lst xs)/\Paired (zz K ok H n) xs ds:=by
 rcases h with h|⟨_,_,_,_,e,_⟩|⟨a,xs,ds',e1,e2,o,e3,r⟩
 ·cases x <;> exact h.elim
 ·cases e
 ·cases e2;exact⟨a,xs,e1,o,e3,r⟩
theorem uH:∀{ts:List Int}{xs:List V},Paired (zz K ok H n) xs (ts.map .int)->xs=ts.map V.int
 | [],_,r=>by cases r;rfl
 | t::ts,_,r=>by
  cases r with
  | cons h r=>rw[vf h,uH r];rfl
theorem xu:∀(ts:List Int),Paired (zz K ok H n) (ts.map V.int) (ts.map .int)
 | []=>.nil
 | t::ts=>.cons .int (xu ts)
theorem zO{α β : Type}{F : α->β->Prop}:∀{a c:List α}{b d:List β},Paired F a b->Paired F c d->Paired F (a++c) (b++d)
 | _,_,_,_,.nil,s=>s
 | _,_,_,_,.cons r t,s=>.cons r (zO t s)
theorem wM{t:Int}(h:zz K ok H 3 x (zV (.one t))):∃a,x=.ref a/\SqT K H a [.str "one",.int t]:=by
 obtain⟨a,xs,rfl,hS,r⟩:=yZ h;cases r with
 | cons h1 r=>cases r with
  | cons h2 r=>cases r;rw[wf h1,vf h2] at hS;exact⟨a,rfl,hS⟩
theorem uy{ts:List Int}(h:zz K ok H 3 x (zV (.row ts))):∃a b,x=.ref a/\SqT K H a [.str "row",.ref b]/\ok b/\H b=some (.lst (ts.map V.int)):=by
 obtain⟨a,xs,rfl,hS,r⟩:=yZ h;cases r with
 | cons h1 r=>cases r with
  | cons h2 r=>
   cases r;obtain⟨b,ys,rfl,o,hb,q⟩:=um h2;rw[wf h1] at hS;rw[uH q] at hb;exact⟨a,b,rfl,hS,o,hb⟩
theorem xH{z:Str}{t:Int}(h:zz K ok H 3 x (zV (.named z t))):∃a,x=.ref a/\SqT K H a [.str "named",.str z,.int t]:=by
 obtain⟨a,xs,rfl,hS,r⟩:=yZ h;cases r with
 | cons h1 r=>cases r with
  | cons h2 r=>cases r with
   | cons h3 r=>cases r;rw[wf h1,wf h2,vf h3] at hS;exact⟨a,rfl,hS⟩
theorem vH{ps:List (Str×Int)}(h:zz K ok H 3 x (zV (.book ps))):∃a b ys,x=.ref a/\SqT K H a [.str "book",.ref b]/\ok b/\H b=some (.lst ys)/\Paired (zz K ok H 1) ys (ps.map yr):=by
 obtain⟨a,xs,rfl,hS,r⟩:=yZ h;cases r with
 | cons h1 r=>cases r with
  | cons h2 r=>
   cases r;obtain⟨b,ys,rfl,o,hb,q⟩:=um h2;rw[wf h1] at hS;exact⟨a,b,ys,rfl,hS,o,hb,q⟩
theorem wW(c:List zY)(i:Nat)(it:zY)(h:c[i]?=some it):zH (c.take (i+1))=zH (c.take i)++itT it:=by
 unfold zH;rw[take_add_one,h,map_append,flatten_append];simp
theorem wm(c:List zY)(i:Nat)(it:zY)(h:c[i]?=some it):zD (c.take (i+1))=zD (c.take i)++itP it:=by
 unfold zD;rw[take_add_one,h,map_append,flatten_append];simp
theorem wk(c:List zY)(i:Nat):(zH (c.take i)).length<=(zH c).length:=by
 unfold zH
 conv=>rhs;rw[<- take_append_drop i c]
 rw[map_append,flatten_append,length_append];omega
theorem wn(c:List zY)(i:Nat):(zD (c.take i)).length<=(zD c).length:=by
 unfold zD
 conv=>rhs;rw[<- take_append_drop i c]
 rw[map_append,flatten_append,length_append];omega
theorem ne1:¬(V.str "row"=V.str "one"):=by decide +kernel
theorem ne2:¬(V.str "named"=V.str "one"):=by decide +kernel
theorem ne3:¬(V.str "book"=V.str "one"):=by decide +kernel
theorem ne4:¬(V.str "named"=V.str "row"):=by decide +kernel
theorem ne5:¬(V.str "book"=V.str "row"):=by decide +kernel
theorem ne6:¬(V.str "book"=V.str "named"):=by decide +kernel
theorem jr:zu ["call","things","pairs","item","word"] ["call"] (zj zeE):=fsc
theorem yd{H H2:Hp}{l:Addr}(s:zq H H2)(h:H l=none)(o:HO):zq H (upd H2 l o):=fun b u q=>by rw[zg (zi q h)];exact s b u q
theorem zgU(F:Fun K "laid" "laid" zeE f fd):zA P w K mg base CX0 1 f fd ["call"] (vW K):=by
 refine F.ok jr (fun cdv A outer s H vs Q E hr h=>?_);obtain⟨a,c,xs,rfl,hS,hc,hT,hP,q⟩:=h;refine⟨_,zk (zx (i:=1) jr.nd rfl (Or.inl rfl) (zS zc)) (zk (zx (i:=2) jr.nd rfl (Or.inl rfl) (zS zc))
  (zk (yz PassesOwn.never rfl (z9 (pv 0)) (zr (i:=3) jr.nd rfl (Or.inl rfl))
   (zk (zx (i:=4) jr.nd rfl (Or.inl rfl) (zL zU (pv 3) ze (fun _ _=>rfl)))
   (zf (zT (zv yA (pv 4) zw (zJ _)) (zf (zI (yK PySem.F.plainAttrs_list PySem.F.slot_list_append PySem.F.type_list_append zP (pv 1) (ac (zL zU (pv 3) ze (fun _ _=>rfl)) zc))))
    (zf (zT (zv yA (pv 4) zw (zJ _)) (zf (zI (yK PySem.F.plainAttrs_list PySem.F.slot_list_extend PySem.F.type_list_extend qz (pv 1) (ac (zL zU (pv 3) ze (fun _ _=>rfl)) zc))))
     (zf (zT (zv yA (pv 4) zw (zJ _)) (zf (zI (yK PySem.F.plainAttrs_list PySem.F.slot_list_append PySem.F.type_list_append zP (pv 2) (ac (zQ (ac (zL zU (pv 3) ze (fun _ _=>rfl)) (ac (zL zU (pv 3) ze (fun _ _=>rfl)) zc))) zc))))
      (zf (zI (yK PySem.F.plainAttrs_list PySem.F.slot_list_extend PySem.F.type_list_extend qz (pv 2) (ac (zL zU (pv 3) ze (fun _ _=>rfl)) zc))))))))))))
  (zf (zy (zQ (ac (pv 1) (ac (pv 2) zc))))))),?_⟩
 exists wb,fun l1 h1=>?_;exists wb,fun l2 h2=>?_;have n12:l1≠l2:=zi za h2;have f2:H l2=none:=(zd h1 _).free h2;have s0:zq H (upd (upd H l1 (.lst [])) l2 (.lst [])):=(zd h1 _).trans (zd h2 _);refine⟨_,rfl,a,rfl,⟨_,s0.seq hS⟩,yJ (K:=K) (a:=a) (xs:=xs) (fun i σ H2=>∃v3 v4 ys,σ=[some (.ref a),some (.ref l1),some (.ref l2),v3,v4]/\zq H H2/\H2 l1=some (.lst ((zH (c.take i)).map V.int))/\H2 l2=some (.lst ys)/\Paired (zz K T' H2 1) ys ((zD (c.take i)).map yr))
  ⟨_,_,[],rfl,s0,by rw[zg n12,za];rfl,za,.nil⟩ (fun i σ H2 _ ⟨_,_,_,_,s2,_⟩=>s2.seq hS) ?_ ?_⟩
 ·rintro i y σ H2 hi ⟨v3,v4,ys,rfl,s2,g1,g2,gp⟩
  obtain⟨d,hd,hy⟩:=Paired.get hc hi;obtain⟨it,hit,rfl⟩:∃it,c[i]?=some it/\zV it=d:=by
   rw[getElem?_map] at hd;cases e:c[i]? with
   | none=>rw[e] at hd;cases hd
   | some it=>rw[e] at hd;exact⟨it,rfl,Option.some.inj hd⟩
  have hy2:=hy.same s2;have eT:=wW c i it hit;have eP:=wm c i it hit;have lT:=wk c i;have lP:=wn c i;have lT1:=wk c (i+1);have lP1:=wn c (i+1);have lys:ys.length=(zD (c.take i)).length:=by rw[gp.length,length_map]
  have sT:∀{H3:Hp}{o:HO}{l:Addr},H3 l=none\/(∃zs,H3 l=some (.lst zs))->∀{b zs},SqT K H3 b zs->SqT K (upd H3 l o) b zs:=fun {H3 o l} hl {b zs} hz=>by
   rcases hz with (z|⟨u,z⟩)|z
   ·refine .inl (.inl ?_)
    have:b≠l:=fun e=>by
     subst e;rcases hl with e|⟨_,e⟩
     ·rw[e] at z;cases z
     ·rw[e] at z;cases z
    rw[zg this];exact z
   ·refine .inl (.inr ⟨u,?_⟩)
    have:b≠l:=fun e=>by
     subst e;rcases hl with e|⟨_,e⟩
     ·rw[e] at z;cases z
     ·rw[e] at z;cases z
    rw[zg this];exact z
   ·exact .inr z
  have keepP:∀{H3:Hp}{o:HO}{l:Addr}{zs:List V}{ps:List (Str×Int)},H3 l=none\/(∃zs,H3 l=some (.lst zs))->Paired (zz K T' H3 1) zs (ps.map yr)->Paired (zz K T' (upd H3 l o) 1) zs (ps.map yr):=by
   intro H3 o l zs ps hl r;induction ps generalizing zs with
   | nil=>cases r;exact .nil
   | cons p ps ih=>
    cases r with
    | cons h r=>
     refine .cons ?_ (ih r);obtain⟨b,ws,rfl,hS',r'⟩:=yZ h;exact .tup (sT hl hS') (zm (fun _ _ z=>z) r')
  cases it with
  | one t=>
   obtain⟨b,rfl,hb⟩:=wM hy2;exists _,rfl,b,_,_,.str "one",rfl,rfl,hb,rfl,?_;exists _,rfl,rfl,_,rfl,?_;refine dT rfl ?_;exists _,rfl,.inl ⟨rfl,_,zh g1⟩,_,rfl,b,_,_,.int t,rfl,rfl,hb,rfl,l1,_,_,rfl,rfl,g1,?_,?_
   ·rw[length_map];exact zK (by omega)
   ·exists _,_,ys,rfl,yd s2 h1 _,?_,?_,?_
    ·rw[za,eT,map_append];rfl
    ·rw[zg n12.symm];exact g2
    ·rw[eP];show Paired _ _ ((zD (c.take i)++[]).map yr);rw[append_nil];exact keepP (.inr ⟨_,g1⟩) gp
  | row ts=>
   obtain⟨b,bl,rfl,hb,_,hbl⟩:=uy hy2;exists _,rfl,b,_,_,.str "row",rfl,rfl,hb,rfl,?_;exists _,rfl,rfl,_,rfl,?_;refine dF ne1 ?_;exists _,rfl,rfl,_,rfl,?_;refine dT rfl ?_;exists _,rfl,.inl ⟨rfl,_,zh g1⟩,_,rfl,b,_,_,.ref bl,rfl,rfl,hb,rfl,l1,bl,_,_,rfl,rfl,g1,hbl,?_,?_
   ·have e1:(zH (c.take (i+1))).length=(zH (c.take i)).length+ts.length:=by rw[eT,length_append];rfl
    rw[length_map,length_map];exact yn (by omega)
   ·exists _,_,ys,rfl,yd s2 h1 _,?_,?_,?_
    ·rw[za,eT,map_append];rfl
    ·rw[zg n12.symm];exact g2
    ·rw[eP];show Paired _ _ ((zD (c.take i)++[]).map yr);rw[append_nil];exact keepP (.inr ⟨_,g1⟩) gp
  | named z t=>
   obtain⟨b,rfl,hb⟩:=xH hy2;exists _,rfl,b,_,_,.str "named",rfl,rfl,hb,rfl,?_;exists _,rfl,rfl,_,rfl,?_;refine dF ne2 ?_;exists _,rfl,rfl,_,rfl,?_;refine dF ne4 ?_;exists _,rfl,rfl,_,rfl,?_;refine dT rfl ?_;exists _,rfl,.inl ⟨rfl,_,zh g2⟩,_,rfl,b,_,_,.str z,rfl,rfl,hb,rfl,_,rfl,b,_,_,.int t,rfl,rfl,hb,rfl,yC,fun p hp=>?_;have np2:l2≠p:=zi g2 hp;have np1:l1≠p:=zi g1 hp;have fp:H p=none:=s2.free hp;exists l2,_,_,rfl,rfl,(by rw[zg np2];exact g2),?_,?_
   ·rw[lys];exact zK (by omega)
   ·exists _,_,ys++[.ref p],rfl,yd (yd s2 fp _) f2 _,?_,za,?_
    ·rw[zg n12,zg np1,g1,eT];show _=some (HO.lst ((zH (c.take i)++[]).map V.int));rw[append_nil]
    ·rw[eP,map_append]
     refine zO (keepP (.inr ⟨_,by rw[zg np2];exact g2⟩) (keepP (.inl hp) gp)) (.cons (.tup (xs:=[.str z,.int t]) (zB ?_) (.cons .str (.cons .int .nil))) .nil)
     rw[zg np2.symm,za]
  | book ps=>
   obtain⟨b,bl,zs,rfl,hb,_,hbl,hz⟩:=vH hy2;exists _,rfl,b,_,_,.str "book",rfl,rfl,hb,rfl,?_;exists _,rfl,rfl,_,rfl,?_;refine dF ne3 ?_;exists _,rfl,rfl,_,rfl,?_;refine dF ne5 ?_;exists _,rfl,rfl,_,rfl,?_;refine dF ne6 ?_;have lz:zs.length=ps.length:=by rw[hz.length,length_map]
   exists _,rfl,.inl ⟨rfl,_,zh g2⟩,_,rfl,b,_,_,.ref bl,rfl,rfl,hb,rfl,l2,bl,_,_,rfl,rfl,g2,hbl,?_,?_
   ·have e1:(zD (c.take (i+1))).length=(zD (c.take i)).length+ps.length:=by rw[eP,length_append];rfl
    rw[lys,lz];exact yn (by omega)
   ·exists _,_,ys++zs,rfl,yd s2 f2 _,?_,za,?_
    ·rw[zg n12,g1,eT];show _=some (HO.lst ((zH (c.take i)++[]).map V.int));rw[append_nil]
    ·rw[eP,map_append]
     exact zO (keepP (.inr ⟨_,g2⟩) gp) (keepP (.inr ⟨_,g2⟩) hz)
 ·rintro σ H2 ⟨v3,v4,ys,rfl,s2,g1,g2,gp⟩
  exists _,rfl,_,rfl,yC,fun p hp=>?_;have hl:xs.length=c.length:=by rw[hc.length,length_map]
  rw[hl,take_length] at g1 gp;refine q p _ (s2.trans (zd hp _)) ⟨l1,l2,ys,h1,f2,n12,s2.free hp,za,?_,?_,zm (fun _ _ z=>z.same (zd hp _)) gp⟩
  ·rw[zg (zi g1 hp)];exact g1
  ·rw[zg (zi g2 hp)];exact g2
theorem yF{K:Frag}{ok:Addr->Prop}{H H':Hp}{zs:List V}{ps:List (Str×Int)}(s:zq H H')(r:Paired (zz K ok H 1) zs (ps.map yr)):Paired (zz K ok H' 1) zs (ps.map yr):=zm (fun _ _ z=>z.same s) r
theorem uu{ps:List (Str×Int)}{i:Nat}{d:Dt}(h:(ps.map yr)[i]?=some d):∃p,ps[i]?=some p/\yr p=d:=by
 rw[getElem?_map] at h;cases e:ps[i]? with
 | none=>rw[e] at h;cases h
 | some it=>rw[e] at h;exact⟨it,rfl,Option.some.inj h⟩
theorem vD{K:Frag}{ok:Addr->Prop}{H:Hp}{n:Nat}{x:V}{p:Str×Int}(h:zz K ok H (n+1) x (yr p)):∃b,x=.ref b/\SqT K H b [.str p.1,.int p.2]:=by
 obtain⟨a,xs,rfl,hS,r⟩:=yZ h;cases r with
 | cons h1 r=>cases r with
  | cons h2 r=>cases r;rw[wf h1,vf h2] at hS;exact⟨a,rfl,hS⟩
theorem yl{K:Frag}{ok:Addr->Prop}{n:Nat}{H H':Hp}{zs:List V}{c:List zY}(s:zq H H')(r:Paired (zz K ok H n) zs (c.map zV)):Paired (zz K ok H' n) zs (c.map zV):=zm (fun _ _ z=>z.same s) r
theorem yU{K:Frag}{ok ok':Addr->Prop}{H:Hp}(hk:∀b,ok b->H b≠none->ok' b){n:Nat}{x:V}{d:Dt}(h:zz K ok H n x d):zz K ok' H n x d:=
 h.frame (fun a xs z=>z) fun a xs oa z=>⟨hk a oa (by rw[z];intro q;cases q),z⟩
theorem jU{A B:Prop}{b:Bool}(h:b=true)(a:A):if b=true then A else B:=by rw[h];exact uc a
theorem j8{A B:Prop}{b:Bool}(h:b=false)(a:B):if b=true then A else B:=by rw[h];exact xz a
end
section
variable {P:Program}{w:World}{K:Frag}{mg:Str->Option Value}{base:Heap}{f:Addr}{fd:FuncData}
section
variable {H H':Hp}{p l1 l2 l:Addr}{ys:List V}{ts:List Int}{ps:List (Str×Int)}{o:HO}
end
end
def yI(c:List zY):List Str:=(zD c).map (·.1)
inductive zcD(K:Frag)(vs:List V)(H:Hp)(Q:VK)(E:XK):Prop|mk(a:Addr)(c:List zY)(xs:List V):vs=[.ref a]->SqL K H a xs->Paired (zz K T' H 3) xs (c.map zV)->(zH c).length<=900->(zD c).length<=900->(∀(p l:Addr) (H':Hp),zq H H'->H l=none->H' p=some (.tup [.int ((zH c).length:Nat),.ref l])->H' l=some (.lst ((yI c).map V.str))->Q (.ref p) H')->zcD K vs H Q E
def vP:Nat->List (Key×V)->List Str->List (Key×V)
 | _,acc,[]=>acc
 | i,acc,z::zs=>vP (i+1) (if (yi acc (.inr z)).isSome=true then acc else y6 acc (.inr z) (.int i)) zs
theorem qH{z:Str}:∀(zs:List Str) (j i:Nat) (acc:List (Key×V)),zs[i]?=some z->vP j acc (zs.take (i+1))=(if (yi (vP j acc (zs.take i)) (.inr z)).isSome=true then vP j acc (zs.take i) else y6 (vP j acc (zs.take i)) (.inr z) (.int (j+i:Nat)))
 | [],_,_,_,h=>by simp at h
 | y::ys,j,0,acc,h=>by
  have e:y=z:=by simpa using h
  subst e;rfl
 | y::ys,j,i+1,acc,h=>by
  have:=qH ys (j+1) i (if (yi acc (.inr y)).isSome=true then acc else y6 acc (.inr y) (.int j)) (by simpa using h)
  show vP (j+1) _ (ys.take (i+1))=_;rw[this,show j+1+i=j+(i+1) by omega]
  rfl
theorem zbh:∀(zs:List Str) (i:Nat) (acc:List (Key×V)),(vP i acc zs).length<=acc.length+zs.length
 | [],_,_=>le_refl _
 | z::zs,i,acc=>by
  have h:=zbh zs (i+1) (if (yi acc (.inr z)).isSome=true then acc else y6 acc (.inr z) (.int i))
  have h2:(if (yi acc (.inr z)).isSome=true then acc else y6 acc (.inr z) (.int i)).length<=acc.length+1:=by
   split
   ·omega
   ·exact xP acc _ _
  show(vP (i+1) _ zs).length<=acc.length+(zs.length+1);omega
inductive zaQ(vs:List V)(H:Hp)(Q:VK)(E:XK):Prop|mk(a:Addr)(zs:List Str):vs=[.ref a]->H a=some (.lst (zs.map V.str))->zs.length<=900->(∀(l:Addr) (o:Obj) (H':Hp),zq H H'->H l=none->H' l=some (.frz o (.dK (vP 0 [] zs)))->Q (.ref l) H')->zaQ vs H Q E
section
variable {P:Program}{w:World}{K:Frag}{mg:Str->Option Value}{base:Heap}{f CF:Addr}{fd:FuncData}{c:C5}{m:MA}
theorem zj1:([Str.ofString "name",Str.ofString "thing"]:List Str).Nodup:=by decide +kernel
theorem zac:zu ["call","things","pairs"] ["call"] (zj zbL):=fsc
theorem zfe{g:Addr}{gd:FuncData}(F:Fun K "shape" "shape" zbL f fd)(hlen:mg "len"=none)(cL:zE P w K mg base 1 "laid" g gd ["call"] (vW K)):zA P w K mg base CX0 2 f fd ["call"] (zcD K):=by
 refine F.ok zac (fun cdv A outer s H vs Q E hr h=>?_);obtain⟨a,c,xs,rfl,hS,hc,lT,lP,q⟩:=h;refine⟨_,zk (jC (cF cL hr (ac (pv 0) zc)) (yO rfl (zF (zr (i:=1) zac.nd rfl (Or.inl rfl)) (zF (zr (i:=2) zac.nd rfl (Or.inl rfl)) yv))))
  (zf (zy (zQ (ac (cB z7 hlen PySem.boot_len (ac (pv 1) zc)) (ac (wx [] ["name","thing"] [none,none] rfl ⟨rfl,rfl,rfl,rfl⟩ (z9 (pv 2)) (xI (K:=K) (n:=2) 0 1) rfl rfl rfl
   (fun pins fp s H C=>⟨yO rfl (zF (zr (i:=0) zj1 rfl (Or.inl rfl) (.inr rfl)) (zF (zr (i:=1) zj1 rfl (Or.inl rfl) (.inr rfl)) yv)),yH,pv 0⟩)) zc))))),?_⟩
 exists _,rfl,a,c,xs,rfl,hS,hc,lT,lP,fun p H1 s1 two=>?_;obtain⟨l1,l2,ys,n1,n2,n12,np,ep,e1,e2,gp⟩:=two;exists p,_,rfl,zB ep,rfl,_,_,rfl,_,_,rfl,rfl,?_;exists _,rfl,l1,_,rfl,.inl (zh e1),_,rfl,l2,rfl,⟨_,zh e2⟩,fun D hD=>?_;have lys:ys.length=(zD c).length:=by rw[gp.length,length_map]
 refine xx (K:=K) (xs:=ys) (fun i zs H'=>zq H1 H'/\H' D=some (.lst zs)/\zs=((yI c).take i).map V.str) ⟨zd hD _,za,rfl⟩ (fun i zs H' h=>zh (h.1 _ _ e2)) ?_ ?_
 ·rintro i x zs H' hlt hx ⟨sH,hDy,ez⟩
  obtain⟨d,hd,hy⟩:=Paired.get gp hx;obtain⟨pr',hpr,rfl⟩:=uu hd;obtain⟨b,rfl,hb⟩:=vD (hy.same sH);exists b,_,rfl,hb,rfl,_,_,rfl,_,_,rfl,rfl,fun _=>⟨_,rfl,?_⟩,fun e=>Bool.noConfusion e;have hi:i<(yI c).length:=by unfold yI;rw[length_map];omega
  have en:(yI c)[i]=pr'.1:=by
   have:(yI c)[i]?=some pr'.1:=by unfold yI;rw[getElem?_map,hpr];rfl
   rw[getElem?_eq_getElem hi] at this;exact Option.some.inj this
  refine lcN.mk hlt (yn (by omega)) hDy (by rw[ez,length_map,length_take];omega) ⟨fun b' u e=>?_,za,?_⟩
  ·rw[zg (zi e hD)]
   exact sH b' u e
  ·rw[ez,take_succ_eq_append_getElem hi,en,map_append]
   rfl
 rintro zs H2 ⟨s2,hDy,ez⟩;have hz:zs=(yI c).map V.str:=by
  rw[ez,take_of_length_le (by unfold yI;rw[length_map];omega)]
 subst hz;exists yC,fun t ht=>?_;have s3:=zd ht (.tup [.int ((zH c).map V.int).length,.ref D]);refine q t D _ (s1.trans (s2.trans s3)) (s1.free hD) (by rw[za,length_map]) (s3 _ _ hDy)
theorem ul:zu ["names","firsts","number","name"] ["names"] (zj zam):=fsc
theorem zdI(F:Fun K "first_numbers" "first_numbers" zam f fd)(hen:mg "enumerate"=none):zA P w K mg base CX0 1 f fd ["names"] zaQ:=by
 refine F.ok ul (fun cdv A outer s H vs Q E hr h=>?_);obtain⟨a,zs,rfl,ha,lz,q⟩:=h;have hu1:=zc4 hr;refine⟨_,zk (zx (i:=1) ul.nd rfl (Or.inl rfl) ze1)
  (zk (yz PassesOwn.never rfl (ww rfl hen (ac (pv 0) zc)) (yO rfl (zF (zr (i:=2) ul.nd rfl (Or.inl rfl)) (zF (zr (i:=3) ul.nd rfl (Or.inl rfl)) yv)))
   (zf (zT (uI (zdB hu1 (pv 3) (pv 1))) (zf (zgv hu1 (pv 1) (pv 3) (pv 2) rfl)) zG)))
  (zf (zy (ziD (pv 1))))),?_⟩
 intro sd hsd;have s1:=zd hsd (.dK []);have e1:upd H sd (.dK []) sd=some (.dK []):=za;show vV _ _ _ _ (upd H sd (.dK []));generalize upd H sd (.dK [])=H1 at s1 e1 |-;refine⟨_,rfl,a,rfl,⟨_,zh (s1 _ _ ha)⟩,vn (K:=K) (a:=a) (xs:=zs.map V.str) (fun i σ H'=>∃(v2 v3:Option V),σ=[some (.ref a),some (.ref sd),v2,v3]/\zq H H'/\H' sd=some (.dK (vP 0 [] (zs.take i))))
  ⟨_,_,rfl,s1,e1⟩ (fun i σ H' _ ⟨_,_,_,sH,_⟩=>zh (sH _ _ ha)) ?_ ?_⟩
 ·rintro i x p σ H' hx ⟨v2,v3,rfl,sH,hd⟩ hpn
  obtain⟨z,hz,rfl⟩:=strs_at hx;have sp:=zd hpn (.tup [.int (i:Nat),.str z]);have hd2:=sp _ _ hd;have tk:=qH zs 0 i [] hz;rw[Nat.zero_add] at tk;have hi:i<zs.length:=(List.getElem?_eq_some_iff.mp hz).1;exists p,_,rfl,zB za,rfl,_,_,rfl,_,_,rfl,rfl,?_;exists _,rfl,_,rfl,sd,_,rfl,.inl ⟨_,.inr z,.inl hd2,rfl,rfl⟩,_,rfl,?_;refine vN (fun ne=>?_) (fun ne=>?_)
  ·have ns:¬(yi (vP 0 [] (zs.take i)) (.inr z)).isSome=true:=by
    intro e;rw[e] at ne;cases ne
   rw[if_neg ns] at tk;have ln:=zbh (zs.take i) 0 [];exists _,rfl,_,rfl,_,rfl,sd,_,rfl,.inl ⟨_,.inr z,hd2,rfl,zK (by rw[length_take] at ln;simp at ln;omega),rfl⟩,?_
   refine⟨_,_,rfl,fun b' u e=>?_,by rw[za,tk]⟩
   rw[zg (zi e hsd)];exact sp _ _ (sH _ _ e)
  ·have ns:(yi (vP 0 [] (zs.take i)) (.inr z)).isSome=true:=by
    cases e:(yi (vP 0 [] (zs.take i)) (.inr z)).isSome with
    | true=>rfl
    | false=>exact absurd (by rw[e];rfl) ne
   rw[if_pos ns] at tk;exact⟨_,_,rfl,sH.trans sp,by rw[tk];exact hd2⟩
 ·rintro σ H' ⟨v2,v3,rfl,sH,hd⟩
  rw[length_map,take_length] at hd;exists _,rfl,sd,_,rfl,hd,fun o=>?_;refine q sd o _ (fun b' u e=>?_) hsd za;rw[zg (zi e hsd)];exact sH _ _ e
def MA1(H:Hp)(u:Addr)(m:Str×Nat):Prop:=H u=some (.tup [.str m.1,.int (m.2:Nat)])
def wF(H:Hp)(us:List Addr)(ms:List (Str×Nat)):Prop:=Paired (MA1 H) us ms
theorem wF.same{H H':Hp}{us:List Addr}{ms:List (Str×Nat)}(h:wF H us ms)(s:zq H H'):wF H' us ms:=zm (fun _ _ z=>s _ _ z) h
theorem wF.upd{H:Hp}{us:List Addr}{ms:List (Str×Nat)}{D:Addr}{ys:List V}{o:HO}(h:wF H us ms)(hD:H D=some (.lst ys)):wF (upd H D o) us ms:=zm (fun u m z=>by
 show L2.upd H D o u=_;rw[zg (fun e=>by rw[e] at z;rw[MA1,hD] at z;cases z)]
 exact z) h
theorem wF.snoc{H:Hp}{us:List Addr}{ms:List (Str×Nat)}{u:Addr}{m:Str×Nat}(h:wF H us ms)(hu:MA1 H u m):wF H (us++[u]) (ms++[m]):=Paired.snoc h hu
def zbu(H H':Hp)(l:Addr)(ms:List (Str×Nat)):Prop:=∃us:List Addr,H l=none/\H' l=some (.lst (us.map V.ref))/\wF H' us ms
def vj(rows:List Rw)(many:Nat):List (Str×Nat):=if (zR 2 0 rows).isSome=true then [] else (List.range (many - plN rows)).map fun i=>((("over" : Str),plN rows+i):Str×Nat)
inductive zcE(c:C5)(CF:Addr)(vs:List V)(H:Hp)(Q:VK)(E:XK):Prop|mk(f:Addr)(many:Nat)(rows:List Rw)(bars:List Str):vs=[.ref f,.int (many:Nat)]->many<=900->rows.length<=500->xB c CF H f rows bars->(∀(l:Addr) (H':Hp),zq H H'->zbu H H' l (vj rows many)->Q (.ref l) H')->zcE c CF vs H Q E
def za2(r:Rw)(i many:Nat)(fk:List (Key×V)):List V:=
 if wp r.k=true/\i<many then [.str "place",.int (i:Nat)] else if xo r.k=true/\(yi fk (.inr r.z)).isSome=true then [.str "name",(yi fk (.inr r.z)).getD .non] else [.str "free"]
def zcs(fk:List (Key×V)):Prop:=∀k v,yi fk k=some v->xR v=true
inductive zee(c:C5)(vs:List V)(H:Hp)(Q:VK)(E:XK):Prop|mk(p d:Addr)(i many:Nat)(r:Rw)(fk:List (Key×V)):vs=[.ref p,.int (i:Nat),.int (many:Nat),.ref d]->PAt c H p r->r.ok->Rd H d (.dK fk)->(∀(u:Addr) (H':Hp),zq H H'->H' u=some (.tup (za2 r i many fk))->Q (.ref u) H')->zee c vs H Q E
def vm(r:Rw)(i many:Nat)(fk:List (Key×V)):Bool:=!fr r.k r.b&&L2.eqT (za2 r i many fk) [.str "free"]
def vT(many:Nat)(fk:List (Key×V)):Nat->List Rw->List (Str×Nat)
 | _,[]=>[]
 | i,r::rs=>(if vm r i many fk=true then [(("lacking" : Str),i)] else [])++vT many fk (i+1) rs
theorem jR{many:Nat}{fk:List (Key×V)}{r:Rw}:∀(rows:List Rw) (j i:Nat),rows[i]?=some r->vT many fk j (rows.take (i+1))=vT many fk j (rows.take i)++(if vm r (j+i) many fk=true then [(("lacking" : Str),j+i)] else [])
 | [],_,_,h=>by simp at h
 | y::ys,j,0,h=>by
  have e:y=r:=by simpa using h
  subst e;show(_++[])=[]++_;rw[append_nil,nil_append];rfl
 | y::ys,j,i+1,h=>by
  have:=jR (many:=many) (fk:=fk) ys (j+1) i (by simpa using h)
  show _++vT many fk (j+1) (ys.take (i+1))=_;rw[this,show j+1+i=j+(i+1) by omega,<- append_assoc]
  rfl
theorem uK(many:Nat)(fk:List (Key×V)):∀(rows:List Rw) (i:Nat),(vT many fk i rows).length<=rows.length
 | [],_=>le_refl _
 | r::rs,i=>by
  have:=uK many fk rs (i+1)
  show(_++vT many fk (i+1) rs).length<=rs.length+1;rw[length_append];split
  ·rw[length_singleton];omega
  ·rw[length_nil];omega
theorem zdE{r:Rw}{i many:Nat}{fk:List (Key×V)}(h:zcs fk):(za2 r i many fk).all xR=true:=by
 unfold za2;split
 ·rfl
 ·split
  next h2=>
   obtain⟨v,hv⟩:=Option.isSome_iff_exists.mp h2.2;rw[hv];show(true&&(xR v&&true))=true;rw[h _ _ hv];rfl
  ·rfl
inductive zcF(c:C5)(CF:Addr)(vs:List V)(H:Hp)(Q:VK)(E:XK):Prop|mk(f d:Addr)(many:Nat)(rows:List Rw)(bars:List Str)(fk:List (Key×V)):vs=[.ref f,.int (many:Nat),.ref d]->rows.length<=500->(∀r∈rows,r.ok)->xB c CF H f rows bars->Rd H d (.dK fk)->zcs fk->(∀(l:Addr) (H':Hp),zq H H'->zbu H H' l (vT many fk 0 rows)->Q (.ref l) H')->zcF c CF vs H Q E
theorem zq.rd{H H':Hp}{a:Addr}{u:HO}(s:zq H H')(h:Rd H a u):Rd H' a u:=h.elim (fun e=>.inl (s _ _ e)) fun⟨o,e⟩=>.inr ⟨o,s _ _ e⟩
theorem zj0:([Str.ofString "number"]:List Str).Nodup:=by decide +kernel
theorem zgj:zu ["form","many"] ["form","many"] (zj zbP):=fsc
theorem zfh{gT gP:Addr}{eT eP:FuncData}(F:Fun K "overs" "overs" zbP f fd)(hran:mg "range"=none)(FK:FC K CF)(mT:xw K CF "tail" gT)(GT:zA P w K mg base CX0 1 gT eT ["self"] (uD c CF 2))(bT:z8 K eT ["self"] [])(mP:xw K CF "places" gP)(GP:zA P w K mg base CX0 1 gP eP ["self"] (uf c CF))(bP:z8 K eP ["self"] []):
  zA P w K mg base CX0 2 f fd ["form","many"] (zcE c CF):=by
 refine F.ok zgj (fun cdv A outer s H vs Q E hr h=>?_);obtain⟨f,many,rows,bars,rfl,lm,l5,hF,q⟩:=h;refine⟨_,zk (zT (uI (zgB (xO (pv 0) FK.cl mT GT hr bT .nil yo))) (zf (zy (zS zc))) zG)
  (zf (zy (wx [] ["number"] [none] rfl ⟨rfl,rfl,rfl,rfl⟩ (zdz rfl hran (ac (xO (pv 0) FK.cl mP GP hr bP .nil yo) (ac (pv 1) zc))) (ye 0) rfl rfl rfl
   (fun pins fp s H C=>⟨zr (i:=0) zj0 rfl (Or.inl rfl) (.inr rfl),yH,zQ (ac zw (ac (pv 0) zc))⟩)))),?_⟩
 obtain⟨dx,fs,lr,lb,ld,ps,h1,h2,h3,h4,h5,h6⟩:=id hF;have nmT:fs.lookup ("tail" : Str)=none:=h2.no _ (by decide +kernel)
 have nmP:fs.lookup ("places" : Str)=none:=h2.no _ (by decide +kernel)
 exists _,rfl,f,dx,fs,rfl,h1,nmT,f,rows,bars,rfl,hF,?_;exists _,rfl,?_;cases e:zR 2 0 rows with
 | some i=>
  have ef:vj rows many=[]:=by unfold vj;rw[e];rfl
  have ne:(!decide (wt (some i)=V.non))=true:=rfl;rw[if_pos ne];exists wb,fun l hl=>?_;exact q l _ (zd hl _) ⟨[],hl,za,by rw[ef];exact .nil⟩
 | none=>
  have ef:vj rows many=(List.range (many - plN rows)).map fun i=>((("over" : Str),plN rows+i):Str×Nat):=by unfold vj;rw[e];rfl
  refine xz ?_;have lp:plN rows<=500:=le_trans (length_filter_le _ _) l5;exists _,rfl,f,dx,fs,rfl,h1,nmP,f,rows,bars,rfl,hF,_,rfl,(plN rows:Nat),(many:Nat),rfl,⟨by omega,by omega,by omega,by omega⟩,fun D hD=>?_
  have en:((many:Int) - (plN rows:Int)).toNat=many - plN rows:=by omega
  refine jQ (n:=((many:Int) - (plN rows:Int)).toNat) (fun i ys H'=>∃us,ys=us.map V.ref/\zq H H'/\H' D=some (.lst ys)/\wF H' us ((List.range i).map fun i=>((("over" : Str),plN rows+i):Str×Nat))) ⟨[],rfl,zd hD _,za,.nil⟩ ?_ ?_
  ·rintro i ys H' hi ⟨us,rfl,sH,hDy,hm⟩
   have lu:us.length=i:=by rw[hm.length,length_map,length_range]
   exists fun _=>?_,fun e=>Bool.noConfusion e;exists _,rfl,yC,fun t ht=>?_;have s2:=zd ht (.tup [.str "over",.int ((plN rows:Int)+(i:Int))]);have hDy2:=s2 _ _ hDy;refine lcN.mk hi (yn (by omega)) hDy2 (by rw[length_map,lu];exact le_refl _) ⟨us++[t],by rw[map_append];rfl,fun b' u' e'=>?_,za,?_⟩
   ·rw[zg (zi e' hD)]
    exact s2 _ _ (sH _ _ e')
   ·rw[range_succ,map_append]
    have hu:MA1 (upd H' t (.tup [.str "over",.int ((plN rows:Int)+(i:Int))])) t ("over",plN rows+i):=by
     show upd H' t _ t=_;rw[za];rfl
    exact((hm.same s2).snoc hu).upd hDy2
  ·rintro ys H' ⟨us,rfl,sH,hDy,hm⟩
   rw[en,<- ef] at hm;exact q D H' sH ⟨us,hD,hDy,hm⟩
theorem zic:zu ["parameter","number","many","firsts"] ["parameter","number","many","firsts"] (zj zeC):=fsc
theorem zgR{gp gb:FuncData}(F:Fun K "one_entry" "one_entry" zeC f fd)(PP:Pcs K m c)(GP:zA P w K mg base CX0 1 m.fP gp ["self"] (qY K m bpL))(bP:z8 K gp ["self"] [])(GB:zA P w K mg base CX0 1 m.fB gb ["self"] (qY K m bnL))(bB:z8 K gb ["self"] []):
  zA P w K mg base CX0 2 f fd ["parameter","number","many","firsts"] (zee c):=by
 refine F.ok zic (fun cdv A outer s H vs Q E hr h=>?_);obtain⟨p,d,i,many,r,fk,rfl,⟨dx,hp⟩,rok,hd,q⟩:=h;have hu1:=zc4 hr;have C:=PP r.k rok.1;refine⟨_,zk (zT (wq (wC (y7 (xO (pv 0) C.cl C.mP GP hr bP .nil yo)) (xK (zv vS (pv 1) (pv 2) (zJ _))))) (zf (zy (zQ (ac zw (ac (pv 1) zc))))) zG)
  (zk (zT (wq (wC (y7 (xO (pv 0) C.cl C.mB GB hr bB .nil yo)) (xK (uI (ziG hu1 (yE (pv 0) rfl) (pv 3)))))) (zf (zy (zQ (ac zw (ac (zcT hu1 (pv 3) (yE (pv 0) rfl) (fun _ _=>rfl)) zc))))) zG)
  (zf (zy (zQ (ac zw zc))))),?_⟩
 have nP:(pr r).lookup ("by_place" : Str)=none:=qv (by decide +kernel) (by decide +kernel) (by decide +kernel)
 have nB:(pr r).lookup ("by_name" : Str)=none:=qv (by decide +kernel) (by decide +kernel) (by decide +kernel)
 try dsimp only
 refine wQ (fun σ' H'=>σ'=[some (.ref p),some (.int (i:Nat)),some (.int (many:Nat)),some (.ref d)]/\H'=H/\¬(wp r.k=true/\i<many)) ?_ (fun key=>?_);rotate_left
 ·exists _,rfl,p,dx,_,rfl,hp,nP,p,dx,_,_,_,_,rfl,C,hp,_,rfl,?_
  rw[zfH r.k rok.1];cases eb:wp r.k with
  | false=>
   refine xz ?_;refine xz ?_;exact key _ _ ⟨rfl,rfl,by rw[eb];exact fun z=>Bool.noConfusion z.1⟩
  | true=>
   refine uc ?_;exists _,rfl,_,rfl,_,_,rfl,rfl,_,rfl,?_;refine vN (fun c1=>?_) (fun c1=>?_)
   ·have hlt:i<many:=by
     have:=of_decide_eq_true c1
     omega
    exists _,rfl,yC,fun t ht=>?_;exact q t _ (zd ht _) (by rw[za];unfold za2;rw[if_pos ⟨eb,hlt⟩])
   ·have hlt:¬i<many:=fun h=>c1 (decide_eq_true (by show(i:Int)<(many:Int);omega))
    exact key _ _ ⟨rfl,rfl,fun z=>hlt z.2⟩
 rintro σ1 H1 ⟨rfl,rfl,nn⟩;have e1:za2 r i many fk=(if xo r.k=true/\(yi fk (.inr r.z)).isSome=true then [.str "name",(yi fk (.inr r.z)).getD .non] else [.str "free"]):=by unfold za2;rw[if_neg nn]
 try dsimp only
 refine wQ (fun σ' H'=>σ'=[some (.ref p),some (.int (i:Nat)),some (.int (many:Nat)),some (.ref d)]/\H'=H1/\¬(xo r.k=true/\(yi fk (.inr r.z)).isSome=true)) ?_ (fun key=>?_);rotate_left
 ·exists _,rfl,p,dx,_,rfl,hp,nB,p,dx,_,_,_,_,rfl,C,hp,_,rfl,?_
  rw[zc3 r.k rok.1];cases eb:xo r.k with
  | false=>
   refine xz ?_;refine xz ?_;exact key _ _ ⟨rfl,rfl,by rw[eb];exact fun z=>Bool.noConfusion z.1⟩
  | true=>
   refine uc ?_;exists _,rfl,p,_,dx,_,_,rfl,hp,C.cl,C.nN,jf,_,rfl,d,_,rfl,.inl ⟨fk,.inr r.z,hd,rfl,rfl⟩,_,rfl,?_;refine vN (fun c1=>?_) (fun c1=>?_)
   ·obtain⟨v,hv⟩:=Option.isSome_iff_exists.mp c1
    exists _,rfl,_,rfl,p,_,dx,_,_,rfl,hp,C.cl,C.nN,jf,d,v,rfl,.inl ⟨fk,.inr r.z,hd,rfl,hv.symm⟩,yC,fun t ht=>?_;exact q t _ (zd ht _) (by rw[za,e1,if_pos ⟨eb,c1⟩,hv];rfl)
   ·exact key _ _ ⟨rfl,rfl,fun z=>c1 z.2⟩
 rintro σ2 H2 ⟨rfl,rfl,nn2⟩;exists zaS,fun t ht=>?_;exact q t _ (zd ht _) (by rw[za,e1,if_neg nn2])
theorem je:zu ["form","many","firsts","found","number","parameter"] ["form","many","firsts"] (zj zeF):=fsc
theorem zfm{g gP:Addr}{gd gf eP:FuncData}(F:Fun K "lackings" "lackings" zeF f fd)(hen:mg "enumerate"=none)(PP:Pcs K m c)(FK:FC K CF)(mP:xw K CF "parameters" gP)(GP:zA P w K mg base CX0 1 gP eP ["self"] (zbD c CF))(bP:z8 K eP ["self"] [])
  (GF:zA P w K mg base CX0 1 m.fF gf ["self"] (zbE K m)) (bF:z8 K gf ["self"] []) (cE1:zE P w K mg base 2 "one_entry" g gd ["parameter","number","many","firsts"] (zee c)):zA P w K mg base CX0 3 f fd ["form","many","firsts"] (zcF c CF):=by
 refine F.ok je (fun cdv A outer s H vs Q E hr h=>?_);obtain⟨f,d,many,rows,bars,fk,rfl,l5,hok,hF,hd,hfl,q⟩:=h;have hr1:yj 1 _:=hr.mono (by decide)
 have hU:=hr.units;have hO:∀C,Cs5 c C->Cls K C/\xw K C "free" m.fF:=fun C ⟨k,hk,e⟩=>by rw[e];exact⟨(PP k hk).cl,(PP k hk).mF⟩
 refine⟨_,zk (zx (i:=3) je.nd rfl (Or.inl rfl) (zS zc))
  (zk (yz PassesOwn.never rfl (ww rfl hen (ac (xO (pv 0) FK.cl mP GP hr1 bP .nil yo) zc)) (yO rfl (zF (zr (i:=4) je.nd rfl (Or.inl rfl)) (zF (zr (i:=5) je.nd rfl (Or.inl rfl)) yv)))
   (zf (zT (wq (wC (wj (y7 (ur (pv 5) hO GF hr1 bF yo))) (xK (zv (ze9 hU) (cF cE1 hr (ac (pv 5) (ac (pv 4) (ac (pv 1) (ac (pv 2) zc))))) (zQ (ac zw zc)) (zJ _)))))
    (zf (zI (yK PySem.F.plainAttrs_list PySem.F.slot_list_append PySem.F.type_list_append zP (pv 3) (ac (zQ (ac zw (ac (pv 4) zc))) zc)))) zG)))
  (zf (zy (pv 3)))),?_⟩
 exists wb,fun l hl=>?_;have s1:=zd hl (.lst []);have e1:upd H l (.lst []) l=some (.lst []):=za;show vV _ _ _ _ (upd H l (.lst []));generalize upd H l (.lst [])=H1 at s1 e1 |-;obtain⟨dx,fs,lr,lb,ld,ps0,h1,h2,h3,h4,h5,h6⟩:=id hF;have nmP:fs.lookup ("parameters" : Str)=none:=h2.no _ (by decide +kernel)
 exists _,rfl,f,dx,fs,rfl,s1 _ _ h1,nmP,f,rows,bars,rfl,hF.same s1,fun lp ps H2 s2 np ep hps=>?_;have e2:=s2 _ _ e1;have nlp:lp≠l:=Ne.symm (zi e1 np);have nd:∀{b:Addr}{u:HO},H b=some u->b≠l:=fun e=>zi e hl;have s12:=s1.trans s2;have sHl:∀{H':Hp},(∀b u,H2 b=some u->b≠l->H' b=some u)->zq H H':=fun k b u e=>k b u (s12 _ _ e) (nd e);refine⟨lp,rfl,⟨_,zh ep⟩,vn (K:=K) (a:=lp) (xs:=ps.map V.ref) (fun i σ H'=>∃(us:List Addr) (v4 v5:Option V),σ=[some (.ref f),some (.int (many:Nat)),some (.ref d),some (.ref l),v4,v5]/\(∀b u,H2 b=some u->b≠l->H' b=some u)/\H' l=some (.lst (us.map V.ref))/\wF H' us (vT many fk 0 (rows.take i)))
  ⟨[],_,_,rfl,fun _ _ e _=>e,e2,.nil⟩ (fun i σ H' _ ⟨_,_,_,_,sH,_⟩=>zh (sH _ _ ep nlp)) ?_ ?_⟩
 ·rintro i x p σ H' hx ⟨us,v4,v5,rfl,sH,hl',hm⟩ hpn
  obtain⟨pa,hpa,rfl⟩:=xV hx;obtain⟨r,hr',dx',hdx⟩:=xi hps hpa;have rok:=hok r (mem_of_getElem? hr');have C:=PP r.k rok.1;have hi:i<rows.length:=(List.getElem?_eq_some_iff.mp hr').1;have npa:pa≠l:=yR hdx e2 (by intro z;cases z)
  have tk:=jR (many:=many) (fk:=fk) rows 0 i hr';rw[Nat.zero_add] at tk;have sp:=zd hpn (.tup [.int (i:Nat),.ref pa]);have lu:us.length<=i:=by
   rw[hm.length];refine le_trans (uK _ _ _ _) ?_;rw[length_take];omega
  have sH1:∀b u,H2 b=some u->b≠l->upd H' p (.tup [.int (i:Nat),.ref pa]) b=some u:=fun b u e n=>sp _ _ (sH b u e n);have hl1:=sp _ _ hl';have hm1:=hm.same sp;exists p,_,rfl,zB za,rfl,_,_,rfl,_,_,rfl,rfl,?_;generalize upd H' p (.tup [.int (i:Nat),.ref pa])=H3 at sH1 hl1 hm1 |-;have hd3:=sH1 _ _ hdx npa;exists _,rfl,pa,_,dx',_,rfl,⟨r.k,rok.1,rfl⟩,hd3,qv (by decide +kernel) (by decide +kernel) (by decide +kernel),pa,dx',_,_,_,_,rfl,C,hd3,_,rfl,?_
  cases ef:fr r.k r.b with
  | true=>
   have il:vm r i many fk=false:=by unfold vm;rw[ef];rfl
   rw[il,if_neg zft,append_nil] at tk;refine xz ?_;refine xz ?_;exact⟨us,_,_,rfl,sH1,hl1,by rw[tk];exact hm1⟩
  | false=>
   refine uc ?_;exists _,rfl,_,rfl,_,rfl,_,rfl,pa,d,i,many,r,fk,rfl,⟨dx',hd3⟩,rok,zq.rd (sHl sH1) hd,fun u H4 s4 e4=>?_;exists zaS,fun t ht=>?_;have s5:=zd ht (.tup [.str "free"]);exists u,t,_,_,rfl,rfl,zB (s5 _ _ e4),zB za,zdE hfl,rfl,_,rfl,?_;have s45:=s4.trans s5;have il:vm r i many fk=L2.eqT (za2 r i many fk) [.str "free"]:=by unfold vm;rw[ef];rfl
   rw[<- il];generalize upd H4 t (.tup [.str "free"])=H5 at s5 s45 |-;have hl5:=s45 _ _ hl1;have sH5:∀b u,H2 b=some u->b≠l->H5 b=some u:=fun b u e n=>s45 _ _ (sH1 b u e n);refine vN (fun c1=>?_) (fun c1=>?_)
   ·rw[c1,if_pos rfl] at tk
    exists _,rfl,.inl ⟨rfl,_,zh hl5⟩,_,rfl,yC,fun t2 ht2=>?_;have s6:=zd ht2 (.tup [.str "lacking",.int (i:Nat)]);have hl6:=s6 _ _ hl5;have hu2:MA1 (upd H5 t2 (.tup [.str "lacking",.int (i:Nat)])) t2 ("lacking",i):=by
     show upd H5 t2 _ t2=_;rw[za]
    exists l,_,.ref t2,rfl,rfl,hl6,zK (by rw[length_map];omega),?_
    exists us++[t2],_,_,rfl,fun b u e n=>?_,by rw[za,map_append];rfl,?_
    ·rw[zg n]
     exact s6 _ _ (sH5 b u e n)
    ·rw[tk]
     exact(((hm1.same s45).same s6).snoc hu2).upd hl6
   ·have c2:vm r i many fk=false:=by
     cases e:vm r i many fk with
     | false=>rfl
     | true=>exact absurd e c1
    rw[c2,if_neg zft,append_nil] at tk;exact⟨us,_,_,rfl,sH5,hl5,by rw[tk];exact hm1.same s45⟩
 ·rintro σ H' ⟨us,v4,v5,rfl,sH,hl',hm⟩
  rw[length_map,hps.length,take_length] at hm;exact⟨_,rfl,q l H' (sHl sH) ⟨us,hl,hl',hm⟩⟩
def fpF:Nat->List (Str×Nat)->List Str->List (Str×Nat)
 | _,acc,[]=>acc
 | i,acc,z::zs=>fpF (i+1) (if (acc.any fun p=>decide (p.1=z))=true then acc else acc++[(z,i)]) zs
def kvP(fp:List (Str×Nat)):List (Key×V):=fp.map fun p=>(.inr p.1,.int (p.2:Nat))
theorem ji(fp:List (Str×Nat))(z:Str):(yi (kvP fp) (.inr z)).isSome=fp.any fun p=>decide (p.1=z):=by
 rw[<- wH];unfold kvP;rw[List.any_map]
 congr 1
 funext p
 show decide ((Sum.inr p.1:Key)=Sum.inr z)=decide (p.1=z);exact zfG _ _
theorem zck:∀(zs:List Str) (i:Nat) (acc:List (Str×Nat)),vP i (kvP acc) zs=kvP (fpF i acc zs)
 | [],_,_=>rfl
 | z::zs,i,acc=>by
  show vP (i+1) (if (yi (kvP acc) (.inr z)).isSome=true then kvP acc else y6 (kvP acc) (.inr z) (.int i)) zs=kvP (fpF (i+1) (if (acc.any fun p=>decide (p.1=z))=true then acc else acc++[(z,i)]) zs)
  rw[ji];cases e:acc.any fun p=>decide (p.1=z) with
  | true=>exact zck zs (i+1) acc
  | false=>
   have e2:y6 (kvP acc) (.inr z) (.int (i:Nat))=kvP (acc++[(z,i)]):=by
    unfold y6;rw[wH,ji,e,if_neg zft];unfold kvP;rw[map_append];rfl
   rw[if_neg zft,if_neg zft,e2];exact zck zs (i+1) _
theorem zc1{fp:List (Str×Nat)}{k:Key}{v:V}(h:yi (kvP fp) k=some v):∃(z:Str) (j:Nat),k=.inr z/\v=.int (j:Nat)/\(z,j)∈fp:=by
 unfold yi at h;cases e:(kvP fp).find? fun kv=>decide (kv.1=k) with
 | none=>rw[e] at h;cases h
 | some kv=>
  rw[e] at h;have hm:=List.mem_of_find?_eq_some e;have hk:=List.find?_some e;unfold kvP at hm;obtain⟨p,hp,rfl⟩:=List.mem_map.mp hm;exact⟨p.1,p.2,(of_decide_eq_true hk).symm,(Option.some.inj h).symm,hp⟩
theorem zhl(fp:List (Str×Nat)):zcs (kvP fp):=fun k v h=>by
 obtain⟨z,j,_,rfl,_⟩:=zc1 h;rfl
theorem zc8{z:Str}:∀(zs:List Str) (i:Nat) (acc:List (Str×Nat)),(acc.any fun p=>decide (p.1=z))=true->((fpF i acc zs).any fun p=>decide (p.1=z))=true
 | [],_,_,h=>h
 | y::ys,i,acc,h=>by
  show((fpF (i+1) _ ys).any _)=true;refine zc8 ys (i+1) _ ?_;split
  ·exact h
  ·rw[List.any_append,h];rfl
theorem zfP{z:Str}:∀(zs:List Str) (i:Nat) (acc:List (Str×Nat)),z∈zs->((fpF i acc zs).any fun p=>decide (p.1=z))=true
 | [],_,_,h=>by cases h
 | y::ys,i,acc,h=>by
  show((fpF (i+1) _ ys).any _)=true;rcases List.mem_cons.mp h with rfl|h
  ·refine zc8 ys (i+1) _ ?_
   split
   next e=>exact e
   ·rw[List.any_append]
    simp
  ·exact zfP ys (i+1) _ h
def fpZ(zs:List Str):List (Str×Nat):=fpF 0 [] zs
theorem zkc(zs:List Str):vP 0 [] zs=kvP (fpZ zs):=zck zs 0 []
def j0(fk:List (Key×V)):Nat->List Str->List (Str×Nat)
 | _,[]=>[]
 | i,z::zs=>(if yi fk (.inr z)=some (.int (i:Nat)) then [] else [(("doubled" : Str),i)])++j0 fk (i+1) zs
theorem qN{fk:List (Key×V)}{z:Str}:∀(zs:List Str) (j i:Nat),zs[i]?=some z->j0 fk j (zs.take (i+1))=j0 fk j (zs.take i)++(if yi fk (.inr z)=some (.int (j+i:Nat)) then [] else [(("doubled" : Str),j+i)])
 | [],_,_,h=>by simp at h
 | y::ys,j,0,h=>by
  have e:y=z:=by simpa using h
  subst e;show(_++[])=[]++_;rw[append_nil,nil_append];rfl
 | y::ys,j,i+1,h=>by
  have:=qN (fk:=fk) ys (j+1) i (by simpa using h)
  show _++j0 fk (j+1) (ys.take (i+1))=_;rw[this,show j+1+i=j+(i+1) by omega,<- append_assoc]
  rfl
theorem jZ(fk:List (Key×V)):∀(zs:List Str) (i:Nat),(j0 fk i zs).length<=zs.length
 | [],_=>le_refl _
 | r::rs,i=>by
  have:=jZ fk rs (i+1)
  show(_++j0 fk (i+1) rs).length<=rs.length+1;rw[length_append];split
  ·rw[length_nil];omega
  ·rw[length_singleton];omega
def xc(rows:List Rw)(bars:List Str)(many:Nat)(z:Str):Option Str:=
 if z∈bars then some "barred" else match lastD' z rows with
  | none=>if (zR 4 0 rows).isSome=true then none else some "strange"
  | some l=>if l<plN rows/\l<many then some "again" else none
where lastD' (z:Str) (rows:List Rw):Option Nat:=match yi (yP 0 [] rows) (.inr z) with
 | some (.int i)=>some i.toNat
 | _=>none
def uZ(rows:List Rw)(bars:List Str)(many:Nat)(fp:List (Str×Nat)):List (Str×Nat):=fp.filterMap fun p=>(xc rows bars many p.1).map fun wd=>(wd,p.2)
def qA(rows:List Rw)(bars:List Str)(many:Nat)(zs:List Str):List (Str×Nat):=j0 (kvP (fpZ zs)) 0 zs++vj rows many++uZ rows bars many (fpZ zs)++vT many (kvP (fpZ zs)) 0 rows
inductive zhE(c:C5)(CF:Addr)(vs:List V)(H:Hp)(Q:VK)(E:XK):Prop|mk(f d:Addr)(o:Obj)(many:Nat)(rows:List Rw)(bars:List Str)(fp:List (Str×Nat)):vs=[.ref f,.int (many:Nat),.ref d]->rows.length<=500->bars.length<=500->fp.length<=900->xB c CF H f rows bars->H d=some (.frz o (.dK (kvP fp)))->(∀(l:Addr) (H':Hp),zq H H'->zbu H H' l (uZ rows bars many fp)->Q (.ref l) H')->zhE c CF vs H Q E
inductive zhI(c:C5)(CF:Addr)(vs:List V)(H:Hp)(Q:VK)(E:XK):Prop|mk(f a:Addr)(many:Nat)(rows:List Rw)(bars zs:List Str):vs=[.ref f,.int (many:Nat),.ref a]->rows.length<=500->bars.length<=500->many<=900->zs.length<=900->(∀r∈rows,r.ok)->xB c CF H f rows bars->H a=some (.lst (zs.map V.str))->(∀(l:Addr) (H':Hp),zq H H'->zbu H H' l (qA rows bars many zs)->Q (.ref l) H')->zhI c CF vs H Q E
theorem zc9:∀(zs:List Str) (i:Nat) (acc:List (Str×Nat)),(fpF i acc zs).length<=acc.length+zs.length
 | [],_,_=>le_refl _
 | z::zs,i,acc=>by
  have h:=zc9 zs (i+1) (if (acc.any fun p=>decide (p.1=z))=true then acc else acc++[(z,i)])
  have h2:(if (acc.any fun p=>decide (p.1=z))=true then acc else acc++[(z,i)]).length<=acc.length+1:=by
   split
   ·omega
   ·rw[length_append];exact le_refl _
  show(fpF (i+1) _ zs).length<=acc.length+(zs.length+1);omega
theorem wF.app{H:Hp}{us vs:List Addr}{ms ns:List (Str×Nat)}(h:wF H us ms)(h':wF H vs ns):wF H (us++vs) (ms++ns):=zO h h'
theorem zj5:([Str.ofString "number",Str.ofString "name",Str.ofString "firsts"]:List Str).Nodup:=by decide +kernel
theorem zer:zu ["form","many","names","firsts","doubled"] ["form","many","names"] (zj zio):=fsc
theorem ziS{g1 g2 g3 g4:Addr}{d1 d2 d3 d4:FuncData}(F:Fun K "misfits_of" "misfits_of" zio f fd)(hen:mg "enumerate"=none)(c1:zE P w K mg base 1 "first_numbers" g1 d1 ["names"] zaQ)(c2:zE P w K mg base 2 "overs" g2 d2 ["form","many"] (zcE c CF))(c3:zE P w K mg base 2 "unwelcomes" g3 d3 ["form","many","firsts"] (zhE c CF))(c4:zE P w K mg base 3 "lackings" g4 d4 ["form","many","firsts"] (zcF c CF)):
  zA P w K mg base CX0 4 f fd ["form","many","names"] (zhI c CF):=by
 refine F.ok zer (fun cdv A outer s H vs Q E hr h=>?_);obtain⟨f,a,many,rows,bars,zs,rfl,l5,lb5,lm,lz,hok,hF,ha,q⟩:=h;have hr1:yj 1 _:=hr.mono (by decide)
 have hr2:yj 2 _:=hr.mono (by decide)
 have hu1:=zc4 hr;refine⟨_,zk (zx (i:=3) zer.nd rfl (Or.inr rfl) (cF c1 hr1 (ac (pv 2) zc)))
  (zk (vh (i:=4) ["firsts"] ["number","name","firsts"] [none,none,some 3] zer.nd rfl (Or.inl rfl) rfl ⟨rfl,rfl,rfl,rfl⟩ (ww rfl hen (ac (pv 2) zc)) (xI (K:=K) (n:=2) 0 1) rfl rfl rfl
   (fun pins fp s H C=>⟨yO rfl (zF (zr (i:=0) zj5 rfl (Or.inl rfl) (.inr rfl)) (zF (zr (i:=1) zj5 rfl (Or.inl rfl) (.inr rfl)) yv)),xM (zv zhO (zcT hu1 (pv 2) (pv 1) (fun _ _=>rfl)) (pv 0) (zJ _)),zQ (ac zw (ac (pv 0) zc))⟩))
  (zf (zy (zp yT (zp yT (zp yT (pv 4) (cF c2 hr2 (ac (pv 0) (ac (pv 1) zc)))) (cF c3 hr2 (ac (pv 0) (ac (pv 1) (ac (pv 3) zc))))) (cF c4 hr (ac (pv 0) (ac (pv 1) (ac (pv 3) zc)))))))),?_⟩
 exists _,rfl,a,zs,rfl,ha,lz,fun d o H1 s1 hd0 hd1=>?_;rw[zkc] at hd1;have lfp:(fpZ zs).length<=900:=by
  have:=zc9 zs 0 []
  show(fpF 0 [] zs).length<=900;simp at this;omega
 generalize hfp:fpZ zs=fp at hd1 lfp;exists _,rfl,a,rfl,⟨_,zh (s1 _ _ ha)⟩,fun D hD=>?_;refine zc0 (K:=K) (xs:=zs.map V.str) (fun i ys H'=>∃us,ys=us.map V.ref/\zq H1 H'/\H' D=some (.lst ys)/\wF H' us (j0 (kvP fp) 0 (zs.take i))) ⟨[],rfl,zd hD _,za,.nil⟩ (fun i ys H' ⟨_,_,h,_⟩=>zh (h _ _ (s1 _ _ ha))) ?_ ?_
 ·rintro i x p ys H' hlt hx ⟨us,rfl,sH,hDy,hm⟩ hpn
  obtain⟨z,hz,rfl⟩:=strs_at hx;have hi:i<zs.length:=(List.getElem?_eq_some_iff.mp hz).1;have tk:=qN (fk:=kvP fp) zs 0 i hz;rw[Nat.zero_add] at tk;have sp:=zd hpn (.tup [.int (i:Nat),.str z]);have lu:us.length<=i:=by
   rw[hm.length];refine le_trans (jZ _ _ _) ?_;rw[length_take];omega
  have hsome:(yi (kvP fp) (.inr z)).isSome=true:=by
   rw[ji,<- hfp];exact zfP zs 0 [] (mem_of_getElem? hz)
  obtain⟨v,hv⟩:=Option.isSome_iff_exists.mp hsome;obtain⟨_,j,_,rfl,_⟩:=zc1 hv;have hd2:=sp _ _ (sH _ _ hd1);have hDy2:=sp _ _ hDy;have hm2:=hm.same sp;exists p,_,rfl,zB za,rfl,_,_,rfl,_,_,rfl,rfl,?_;have sA:=sH.trans sp;generalize upd H' p (.tup [.int (i:Nat),.str z])=H3 at sp hd2 hDy2 hm2 sA |-;exists _,rfl,_,rfl,d,_,rfl,.inl ⟨_,.inr z,.inr ⟨o,hd2⟩,rfl,hv.symm⟩,_,rfl,rfl,_,rfl,?_;by_cases ej:j=i
  ·subst ej
   rw[if_pos hv,append_nil] at tk;have ed:(!decide (V.int (j:Nat)=V.int (j:Nat)))=false:=by rw[decide_eq_true rfl];rfl
   rw[ed];exact⟨fun e=>Bool.noConfusion e,fun _=>lcS.mk hlt ⟨us,rfl,sA,hDy2,by rw[tk];exact hm2⟩⟩
  ·have nv:¬yi (kvP fp) (.inr z)=some (.int (i:Nat)):=fun e=>by
    rw[hv] at e
    have:=V.int.inj (Option.some.inj e)
    omega
   rw[if_neg nv] at tk;have ed:(!decide (V.int (j:Nat)=V.int (i:Nat)))=true:=by
    rw[decide_eq_false (fun e=>by have:=V.int.inj e;omega)]
    rfl
   rw[ed];exists fun _=>?_,fun e=>Bool.noConfusion e;exists _,rfl,yC,fun t ht=>?_;have s4:=zd ht (.tup [.str "doubled",.int (i:Nat)]);have hDy4:=s4 _ _ hDy2;have hu:MA1 (upd H3 t (.tup [.str "doubled",.int (i:Nat)])) t ("doubled",i):=by
    show upd H3 t _ t=_;rw[za]
   refine lcN.mk hlt (yn (by rw[length_map];omega)) hDy4 (by rw[length_map];exact lu) ⟨us++[t],by rw[map_append];rfl,fun b' u' e'=>?_,za,?_⟩
   ·rw[zg (zi e' hD)]
    exact s4 _ _ (sA _ _ e')
   ·rw[tk]
    exact((hm2.same s4).snoc hu).upd hDy4
 rintro ys H2 ⟨us,rfl,s2,hDy,hm⟩;rw[length_map,take_length] at hm;have s12:=s1.trans s2;have lov:(vj rows many).length<=900:=by
  unfold vj;split
  ·exact zero_le _
  ·rw[length_map,length_range];omega
 have lun:(uZ rows bars many fp).length<=900:=by
  unfold uZ;exact le_trans (List.length_filterMap_le _ _) lfp
 have lla:=uK many (kvP fp) rows 0;have ldb:=jZ (kvP fp) zs 0;have big : 4000<=sizeLine:=by decide
 exists _,rfl,_,rfl,_,rfl,f,many,rows,bars,rfl,lm,l5,hF.same s12,fun l3 H3 s3 ⟨us3,n3,e3,m3⟩=>?_;have lu0:=hm.length;have lu3:=m3.length;exists D,l3,_,_,rfl,rfl,s3 _ _ hDy,e3,(by simp only[length_map];omega),fun p4 hp4=>?_
 rw[<- map_append];have u4:=zd hp4 (.lst ((us++us3).map V.ref));have e4:upd H3 p4 (.lst ((us++us3).map V.ref)) p4=some (.lst ((us++us3).map V.ref)):=za;have m4:wF (upd H3 p4 (.lst ((us++us3).map V.ref))) (us++us3) _:=((hm.same s3).app m3).same u4;generalize upd H3 p4 (.lst ((us++us3).map V.ref))=H4 at u4 e4 m4 |-;have s24:=s2.trans (s3.trans u4);have s14:=s1.trans s24;exists _,rfl,_,rfl,_,rfl,f,d,o,many,rows,bars,fp,rfl,l5,lb5,lfp,hF.same s14,s24 _ _ hd1,fun l5' H5 s5 ⟨us5,n5,e5,m5⟩=>?_;have lu5:=m5.length;exists p4,l5',_,_,rfl,rfl,s5 _ _ e4,e5,(by simp only[length_map,length_append];omega),fun p6 hp6=>?_
 rw[<- map_append];have u6:=zd hp6 (.lst ((us++us3++us5).map V.ref));have e6:upd H5 p6 (.lst ((us++us3++us5).map V.ref)) p6=some (.lst ((us++us3++us5).map V.ref)):=za;have m6:wF (upd H5 p6 (.lst ((us++us3++us5).map V.ref))) (us++us3++us5) _:=((m4.same s5).app m5).same u6;generalize upd H5 p6 (.lst ((us++us3++us5).map V.ref))=H6 at u6 e6 m6 |-;have s26:=s24.trans (s5.trans u6);have s16:=s1.trans s26;exists _,rfl,_,rfl,_,rfl,f,d,many,rows,bars,kvP fp,rfl,l5,hok,hF.same s16,.inr ⟨o,s26 _ _ hd1⟩,zhl fp,fun l7 H7 s7 ⟨us7,n7,e7,m7⟩=>?_;have lu7:=m7.length;exists p6,l7,_,_,rfl,rfl,s7 _ _ e6,e7,(by simp only[length_map,length_append];omega),fun p8 hp8=>?_
 rw[<- map_append];have u8:=zd hp8 (.lst ((us++us3++us5++us7).map V.ref));refine q p8 _ (s16.trans (s7.trans u8)) ⟨us++us3++us5++us7,(s16.trans s7).free hp8,za,?_⟩;unfold qA;rw[hfp];exact((m6.same s7).app m7).same u8
end
end K62
namespace L2
open PySem PySem.Spec PyProof.Rows
def seen(val:Nat->Str)(T:Str->Bool):Nat->Nat->Str->Bool
 | _,0,z=>T z
 | i,k+1,z=>seen val (fun y=>T y||decide (y=val i)) (i+1) k z
section
variable {P:Program}{w:World}{A:Around}{R:Result->Shared->Prop}{I:Addr}{fp wr:List Addr}{G:Array GenState->Array GenState->Prop}{n:Nat}{Pr:Nat->Value->Prop}{Sg:Nat->Shared->Prop}
theorem jl(W:WalksS P w A.in1 I fp wr G n Pr Sg)(a:Addr)(ha:a∉fp)(val:Nat->Str)(hv:∀i v,Pr i v->∃t,v=.str (val i) t)(hb:n+1<scanBound):
  ∀(k i:Nat) (s:Shared) (T:Str->Bool) (c:Nat),n - i=k->i<=n->Sg i s->c<=i->s.heap.SetOf (strKind P w) a T c->
   (∀s' c',Moved (a::wr) G s s'->c'<=n->s'.heap.SetOf (strKind P w) a (seen val T i k) c'->R (.ok (.ret .none)) s')->
   codeAny (model P w) A (.builtin "set.update.loop" ⟨[.ref a,.ref I],[]⟩) R s
 | 0,i,s,T,c,hk,hi,hg,hc,hT,hR=>by
  have hw:a∉wr:=fun z=>ha (W.sub _ z);have ei:i=n:=by omega
  subst ei;refine codeAny_builtin PyProof.Rows.F.entry_set_update_loop ?_;rw[Around.under_plainId PyProof.Rows.F.plain_set_update_loop _];show wpAny _ A.in1 (pyNext (.ref I) >>= _) _ _ _;refine zwb (W.done s _ _ hg fun s' hm=>?_);show wpAny _ A.in1 (ret Value.none) _ _ _;refine zwp (hR s' c (hm.mono fun b z=>mem_cons_of_mem _ z) hc ?_);obtain⟨ob,es,ep,t,h1,h2⟩:=hT;exact⟨ob,es,ep,t,hm.heap a _ hw h1,h2⟩
 | k+1,i,s,T,c,hk,hi,hg,hc,hT,hR=>by
  have hw:a∉wr:=fun z=>ha (W.sub _ z);have hlt:i<n:=by omega
  refine codeAny_builtin PyProof.Rows.F.entry_set_update_loop ?_;rw[Around.under_plainId PyProof.Rows.F.plain_set_update_loop _];show wpAny _ A.in1 (pyNext (.ref I) >>= _) _ _ _;refine zwb (W.item i s _ _ hlt hg fun v s' hP hg' hm=>?_);obtain⟨t,rfl⟩:=hv i v hP;have hT':s'.heap.SetOf (strKind P w) a T c:=by
   obtain⟨ob,es,ep,tb,h1,h2⟩:=hT;exact⟨ob,es,ep,tb,hm.heap a _ hw h1,h2⟩
  show wpAny _ A.in1 (holding [Value.str (val i) t] (setAdd a (.str (val i) t)) >>= _) _ _ s';refine zwb (wpAny_holding ?_);unfold setAdd;refine wpAny_holding ?_;refine zwb ((strKind P w).pyHash (k:=val i) (strKind_is _ _ _ _) ?_);refine wpAny_setAddHashed_of (knd:=strKind P w) (s:={ s' with toks:=s'.toks+1 }) (strKind_is _ _ _ _) rfl hT' (by omega) fun h' hsb h3=>?_
  refine zwp ⟨plainId_quiet PyProof.Rows.F.plain_set_update_loop _,jl W a ha val hv hb k (i+1) _ _ _ (by omega) hlt (W.frame _ s' _ _ hg' (le_succ _) fun b hb' o e=>?_) (by split <;> omega) h3 fun s2 c2 hm2 hc2 h4=>?_⟩
  ·have:b≠a:=fun z=>ha (z ▸ hb')
   rw[hsb.2 b this];exact e
  ·refine hR s2 c2 (Moved.trans W.gtrans ((hm.mono fun b z=>mem_cons_of_mem _ z).then_heap (le_succ _) fun b o hb' e=>?_) hm2) hc2 h4
   have:b≠a:=fun z=>hb' (z ▸ mem_cons_self)
   rw[hsb.2 b this];exact e
abbrev jo(led:Bool):Obj:={ cls:=.type "set",dict:=none,data:=.set #[] 0 (.fresh 0 0 led) }
end
set_option maxHeartbeats 8000000 in
theorem zcn{P:Program}{w:World}{A:Around}{E:VSP}{s:Shared}{l:Addr}{items:Array Value}{zs:List Str}{Q:VSP}
  (hh:A.handled=none) (hl:s.heap.IsList l items) (hv:∀(i:Nat) (v:Value),items[i]?=some v->∃t,v=.str (zs.getD i "") t) (hb:items.size+1<scanBound)
  (h:∀(h':Heap) (tk c:Nat),h'.SetOf (strKind P w) s.heap.objs.size (seen (fun i=>zs.getD i "") (fun _=>false) 0 items.size) c->(∀b o,b<s.heap.objs.size->s.heap.get? b=some o->h'.get? b=some o)->Q (.ref s.heap.objs.size) { s with heap:=h',toks:=tk }) :
  wpAny (model P w) A (call (.type "set") [.ref l]) Q E s:=by
 obtain⟨mc,mt,mro⟩:=PySem.F.called_set.mro;have q1:=PySem.F.called_set.made;have q2:=PySem.F.called_set.sub;have q3:=PySem.F.called_set.notType;have q4:=PySem.F.called_set.canCreate;have q5:=PySem.F.typeCall_set_1 (.ref l);refine wpAny_call (codeAny_of_tree ?_);show wpAny _ _ (callAny (.type "set") _) _ _ _;refine zwp ⟨Code.quiet_builtin _ (by decide +kernel),codeAny_builtin PySem.F.entry_type_call ?_⟩;rw[Around.under_plain (weight_type_call_type "set" [.ref l] []) rfl]
 repeat (any_goals first|assumption|wp_step)
 refine codeAny_mono (code_set_new_1 (.ref l) (E:=E) (Q₁:=fun obj s₁=>∃led:Bool,obj=.ref s.heap.objs.size/\s₁={ s with heap:=s.heap.push (jo led) }) fun led=>⟨led,rfl,rfl⟩) fun r s₁ hr=>?_
 rcases r with e|(_|_|_|obj)
 ·exact hr
 ·exact hr.elim
 ·exact hr.elim
 ·exact hr.elim
 ·obtain⟨led,rfl,rfl⟩:=hr
  have hS:(s.heap.push (jo led)).get? s.heap.objs.size=some (jo led):=zgs _ rfl;have hT:Shared.TypeIs { s with heap:=s.heap.push (jo led) } (.ref s.heap.objs.size) "set":=⟨_,hS,rfl⟩
  have q6:=PySem.F.called_set.init.lookup;have q7:=PySem.F.called_set.init.bind (.ref s.heap.objs.size)
  repeat (any_goals first|assumption|wp_step)
  refine codeAny_mono (codeAny_call_builtin (R:=wants (fun r s₂=>r=.none/\∃h' tk c,s₂={ s with heap:=h',toks:=tk }/\h'.SetOf (strKind P w) s.heap.objs.size (seen (fun i=>zs.getD i "") (fun _=>false) 0 items.size) c/\∀b o,b<s.heap.objs.size->s.heap.get? b=some o->h'.get? b=some o) E) PySem.F.called_set.init.plain PySem.F.entry_set_init (check_set_init_1 hT ?_)) fun r₂ s₂ hr₂=>?_
  ·obtain⟨ol,hol,hcl,nl,hdl⟩:=id hl
   obtain⟨ocls,odict,odata,oslots⟩:=ol;simp only at hcl hdl;subst hcl hdl;have hol':(s.heap.push (jo led)).get? l=_:=zgp (jo led) hol;have t1:=PySem.F.sub_list_set;have t2:=PySem.F.sub_list_frozenset;have t3:(Value.type "list"==Value.type "dict")=false:=by decide
   have hl1:(s.heap.push (jo led)).IsList l items:=⟨_,hol',rfl,nl,rfl⟩;have hlS:l<s.heap.objs.size:=Heap.lt_size hol;unfold Builtin.«set.__init__» noKeywords Builtin.Frozenset.updateFrom;generalize hq:pyIter=pit
   wp_walk
   subst hq;refine wpAny_pyIter_list hl1 (zwb (wpAny_runValue ?_));have hz:(s.heap.push (jo led)).objs.size=s.heap.objs.size+1:=Heap.size_push ..;have n1:l≠(s.heap.push (jo led)).objs.size:=by rw[hz];exact ne_of_lt (lt_succ_of_lt hlS)
   have n2:∀b:Addr,b<s.heap.objs.size->b∉[s.heap.objs.size,(s.heap.push (jo led)).objs.size]:=fun b hb' z=>by
    rw[hz] at z;rcases List.mem_cons.mp z with e|e
    ·exact ne_of_lt hb' e
    ·exact ne_of_lt (lt_succ_of_lt hb') (List.mem_singleton.mp e)
   have n3:s.heap.objs.size∉[(s.heap.push (jo led)).objs.size,l]:=fun z=>by
    rw[hz] at z;rcases List.mem_cons.mp z with e|e
    ·exact ne_of_lt (lt_succ_self _) e
    ·exact ne_of_gt hlS (List.mem_singleton.mp e)
   refine jl ((Walks.list (by simp [hh]) _ l n1 items).toS) s.heap.objs.size n3 (fun i=>zs.getD i "") hv hb items.size 0 _ (fun _=>false) 0 (by omega) (zero_le _) ⟨⟨_,zgs _ rfl,rfl,rfl⟩,hl1.push _⟩ (le_refl _) ?_ ?_
   ·exact(PyProof.Rows.setObjOf_fresh (knd:=strKind P w) led).setOf (zgp _ hS) (by unfold scanBound;omega)
   ·rintro⟨h',g',d',tk',os'⟩ c' hm hc' hS'
    have e1:g'=s.gens:=hm.gens;have e2:d'=s.drawn:=hm.drawn;have e3:os'=s.os:=hm.os;subst e1 e2 e3;show wpAny _ _ _ _ _ _;refine zwp ?_;show wpAny _ _ (ret Value.none) _ _ _;refine zwp ⟨rfl,h',tk',c',rfl,hS',fun b o hb' e=>hm.heap b o (n2 b hb') (zgp _ (zgp _ e))⟩
  ·rcases r₂ with e|(_|_|_|ob2)
   ·exact hr₂
   ·exact hr₂.elim
   ·exact hr₂.elim
   ·exact hr₂.elim
   ·obtain⟨rfl,h',tk,c',rfl,hS',hk'⟩:=hr₂
    repeat (any_goals first|assumption|wp_step)
    exact h _ _ _ hS' hk'
theorem zaU(val:Nat->Str)(z:Str):∀(k i:Nat) (T:Str->Bool),seen val T i k z=true ↔ (T z=true\/∃j,j<k/\z=val (i+j))
 | 0,i,T=>⟨fun h=>.inl h,fun h=>h.elim id fun⟨j,hj,_⟩=>absurd hj (Nat.not_lt_zero _)⟩
 | k+1,i,T=>by
  show seen val (fun y=>T y||decide (y=val i)) (i+1) k z=true ↔ _
  rw[zaU val z k (i+1)];simp only[Bool.or_eq_true,decide_eq_true_eq];constructor
  ·rintro ((h|h)|⟨j,hj,e⟩)
   ·exact .inl h
   ·exact .inr ⟨0,by omega,h⟩
   ·exact .inr ⟨j+1,by omega,by rw[show i+(j+1)=i+1+j by omega];exact e⟩
  ·rintro (h|⟨j,hj,e⟩)
   ·exact .inl (.inl h)
   ·cases j with
    | zero=>exact .inl (.inr e)
    | succ j=>exact .inr ⟨j,by omega,by rw[show i+1+j=i+(j+1) by omega];exact e⟩
theorem zaT(zs:List Str)(z:Str):seen (fun i=>zs.getD i "") (fun _=>false) 0 zs.length z=decide (z∈zs):=by
 rw[Bool.eq_iff_iff,zaU,decide_eq_true_eq];constructor
 ·rintro (h|⟨j,hj,e⟩)
  ·cases h
  ·rw[e,Nat.zero_add]
   show zs.getD j ""∈zs;rw[getD_eq_getElem?_getD,getElem?_eq_getElem hj];exact getElem_mem hj
 ·intro h
  obtain⟨j,hj,e⟩:=List.mem_iff_getElem.mp h;refine .inr ⟨j,hj,?_⟩;rw[Nat.zero_add];show z=zs.getD j "";rw[getD_eq_getElem?_getD,getElem?_eq_getElem hj];exact e.symm
theorem zX.strs_at:∀{zs:List Str}{us:List Value},zX (zs.map V.str) us->∀(i:Nat) (v:Value),us[i]?=some v->∃t,v=.str (zs.getD i "") t
 | [],_,.nil,i,v,h=>by simp at h
 | z::zs,_,.cons r t,0,v,h=>by
  obtain⟨tk,e⟩:=r
  have:v=.str z tk:=by rw[<- e];simpa using h.symm
  exact⟨tk,this⟩
 | z::zs,_,.cons r t,i+1,v,h=>zX.strs_at t i v (by simpa using h)
theorem zdY{X:Cx}(hc:X.calm=true):xC X (.type "set") (fun xs H Q=>∃(p:Addr) (zs:List Str),xs=[.ref p]/\SqL X.K H p (zs.map V.str)/\zs.length<=900/\∀(l:Addr) (n:Nat),H l=none->Q (.ref l) (upd H l (wc X.prog X.w l (fun z=>decide (z∈zs)) n))):=by
 intro pins s σ H xs us Q I r h;obtain⟨p,zs,rfl,hS,lz,q⟩:=h;obtain⟨u,rfl,ru⟩:=wG r;cases ru;obtain⟨its,rv,hp,hz⟩:=I.list hS;have hl:its.length=zs.length:=by rw[<- rv.length,length_map]
 have hb:its.toArray.size+1<scanBound:=by
  rw[size_toArray,hl];have : 1000<scanBound:=by unfold scanBound;decide
  omega
 refine zcn (I.ok.hd hc) hp.isList (fun i v e=>rv.strs_at i v (by simpa using e)) hb fun h' tk c hS' hk=>?_
 have hsz:its.toArray.size=zs.length:=by rw[size_toArray,hl]
 rw[hsz] at hS';have eS:seen (fun i=>zs.getD i "") (fun _=>false) 0 zs.length=fun z=>decide (z∈zs):=funext (zaT zs);rw[eS] at hS';exists .ref s.heap.objs.size,_,I.laid (t':=tk) (fun b ob e=>hk b ob (Heap.lt_size e) e) (le_refl _) (jd hS'),rfl,q _ c (I.hok.fresh (le_refl _))
end L2
namespace K62
open PySem L2 PyProof.Rows
theorem zfV:∀(rows:List Rw) (i:Nat) (acc:List (Key×V)) (k:Key) (v:V),(∀k v,yi acc k=some v->∃j:Nat,v=.int (j:Nat))->yi (yP i acc rows) k=some v->∃j:Nat,v=.int (j:Nat)
 | [],_,acc,k,v,h,e=>h k v e
 | r::rs,i,acc,k,v,h,e=>by
  refine zfV rs (i+1) _ k v (fun k v e=>?_) e;split at e
  ·rw[zaI] at e
   split at e
   ·exact⟨i,(Option.some.inj e).symm⟩
   ·exact h k v e
  ·exact h k v e
theorem zdm{rows:List Rw}{bars:List Str}{many:Nat}{fp:List (Str×Nat)}{i:Nat}{p:Str×Nat}(h:fp[i]?=some p):uZ rows bars many (fp.take (i+1))=uZ rows bars many (fp.take i)++(match xc rows bars many p.1 with|some wd=>[(wd,p.2)]|none=>[]):=by
 unfold uZ;rw[take_add_one,h,List.filterMap_append]
 congr 1
 show List.filterMap _ [p]=_;rw[filterMap_cons,List.filterMap_nil];cases xc rows bars many p.1 <;> rfl
theorem zd3(rows:List Rw)(bars:List Str)(many:Nat)(fp:List (Str×Nat)):(uZ rows bars many fp).length<=fp.length:=List.length_filterMap_le _ _
section
variable {P:Program}{w:World}{K:Frag}{mg:Str->Option Value}{base:Heap}{f CF:Addr}{fd:FuncData}{c:C5}{m:MA}
theorem qr:zu ["form","many","firsts","barred","found","name","number","leads_to"] ["form","many","firsts"] (zj zii):=fsc
theorem ziL{gB gN gG gP:Addr}{eB eN eG eP:FuncData}(F:Fun K "unwelcomes" "unwelcomes" zii f fd)(hset:mg "set"=none)(FK:FC K CF)(mB:xw K CF "bars" gB)(GB:zA P w K mg base CX0 1 gB eB ["self"] (zbF c CF))(bB:z8 K eB ["self"] [])(mN:xw K CF "number_of" gN)(GN:zA P w K mg base CX0 1 gN eN ["self","name"] (zef c CF))(bN:z8 K eN ["self","name"] [])
  (mG:xw K CF "bag" gG) (GG:zA P w K mg base CX0 1 gG eG ["self"] (uD c CF 4)) (bG:z8 K eG ["self"] []) (mP:xw K CF "places" gP) (GP:zA P w K mg base CX0 1 gP eP ["self"] (uf c CF)) (bP:z8 K eP ["self"] []) :
  zA P w K mg base CX0 2 f fd ["form","many","firsts"] (zhE c CF):=by
 refine F.ok qr (fun cdv A outer s H vs Q E hr h=>?_);obtain⟨f,d,o,many,rows,bars,fp,rfl,l5,lb5,lfp,hF,hd,q⟩:=h;refine⟨_,zk (zx (i:=3) qr.nd rfl (Or.inl rfl) (cTy (zdY rfl) hset PyProof.Rows.boot_set (ac (xO (pv 0) FK.cl mB GB hr bB .nil yo) zc)))
  (zk (zx (i:=4) qr.nd rfl (Or.inl rfl) (zS zc))
  (zk (yz PassesOwn.never rfl (zeY (pv 2)) (yO rfl (zF (zr (i:=5) qr.nd rfl (Or.inl rfl)) (zF (zr (i:=6) qr.nd rfl (Or.inl rfl)) yv)))
   (zk (zx (i:=7) qr.nd rfl (Or.inl rfl) (vC (pv 0) FK.cl mN GN hr bN .nil yo (ac (pv 5) zc)))
   (zf (zT (zv jJ (pv 5) (pv 3) (by with_unfolding_all rfl)) (zf (zI (yK PySem.F.plainAttrs_list PySem.F.slot_list_append PySem.F.type_list_append zP (pv 4) (ac (zQ (ac zw (ac (pv 6) zc))) zc))))
    (zf (zT (uI (zb5 (pv 7))) (zf (zT (uI (zb5 (xO (pv 0) FK.cl mG GG hr bG .nil yo))) (zf (zI (yK PySem.F.plainAttrs_list PySem.F.slot_list_append PySem.F.type_list_append zP (pv 4) (ac (zQ (ac zw (ac (pv 6) zc))) zc)))) zG))
     (zf (zT (wq (wC (zv vS (pv 7) (xO (pv 0) FK.cl mP GP hr bP .nil yo) (zJ _)) (xK (zv vS (pv 7) (pv 1) (zJ _))))) (zf (zI (yK PySem.F.plainAttrs_list PySem.F.slot_list_append PySem.F.type_list_append zP (pv 4) (ac (zQ (ac zw (ac (pv 6) zc))) zc)))) zG))))))))
  (zf (zy (pv 4))))),?_⟩
 obtain⟨dx,fs,lr,lb,ld,ps0,h1,h2,h3,h4,h5,h6⟩:=id hF;have nmB:fs.lookup ("bars" : Str)=none:=h2.no _ (by decide +kernel)
 have nmN:fs.lookup ("number_of" : Str)=none:=h2.no _ (by decide +kernel)
 have nmG:fs.lookup ("bag" : Str)=none:=h2.no _ (by decide +kernel)
 have nmP:fs.lookup ("places" : Str)=none:=h2.no _ (by decide +kernel)
 exists _,rfl,f,dx,fs,rfl,h1,nmB,f,rows,bars,rfl,hF,fun lb1 H1 s1 nb eb=>?_;exists lb1,bars,rfl,zh eb,by omega,fun sS nS hS=>?_
 have u2:=zd hS (wc P w sS (fun z=>decide (z∈bars)) nS);have e2:upd H1 sS (wc P w sS (fun z=>decide (z∈bars)) nS) sS=some (wc P w sS (fun z=>decide (z∈bars)) nS):=za;show vV _ _ _ _ (upd H1 sS (wc P w sS (fun z=>decide (z∈bars)) nS));generalize upd H1 sS (wc P w sS (fun z=>decide (z∈bars)) nS)=H2 at u2 e2 |-;exists wb,fun l hl=>?_;have u3:=zd hl (.lst []);have e3:upd H2 l (.lst []) l=some (.lst []):=za;show vV _ _ _ _ (upd H2 l (.lst []));generalize upd H2 l (.lst [])=H3 at u3 e3 |-;have s2:=s1.trans u2;have s3:=s2.trans u3;have hlH:H l=none:=s2.free hl;have nl:∀{b:Addr}{u:HO},H2 b=some u->b≠l:=fun e=>zi e hl;have sHl:∀{H':Hp},(∀b u,H2 b=some u->H' b=some u)->zq H H':=fun k b u e=>k b u (s2 _ _ e);refine⟨_,rfl,d,o,kvP fp,rfl,s3 _ _ hd,zdR (d:=d) (o:=o) (kvs:=kvP fp) (fun i σ H'=>∃(us:List Addr) (v5 v6 v7:Option V),σ=[some (.ref f),some (.int (many:Nat)),some (.ref d),some (.ref sS),some (.ref l),v5,v6,v7]/\(∀b u,H2 b=some u->H' b=some u)/\H' l=some (.lst (us.map V.ref))/\wF H' us (uZ rows bars many (fp.take i)))
  ⟨[],_,_,_,rfl,fun _ _ e=>u3 _ _ e,e3,.nil⟩ (fun i σ H' _ ⟨_,_,_,_,_,sH,_⟩=>sH _ _ (s2 _ _ hd)) ?_ ?_⟩
 ·rintro i k v p σ H' hk ⟨us,v5,v6,v7,rfl,sH,hl',hm⟩ hpn
  obtain⟨z,n,hz,rfl,rfl⟩:∃(z:Str) (n:Nat),fp[i]?=some (z,n)/\k=.inr z/\v=.int (n:Nat):=by
   unfold kvP at hk;rw[getElem?_map] at hk;cases e:fp[i]? with
   | none=>rw[e] at hk;cases hk
   | some q=>rw[e] at hk;cases hk;exact⟨q.1,q.2,rfl,rfl,rfl⟩
  have tk:=zdm (rows:=rows) (bars:=bars) (many:=many) hz;dsimp only at tk;have sp:=zd hpn (.tup [kV (.inr z),.int (n:Nat)]);have lu:us.length<=i:=by
   rw[hm.length];refine le_trans (zd3 _ _ _ _) ?_;rw[length_take];omega
  have hi:i<fp.length:=(List.getElem?_eq_some_iff.mp hz).1;have sH1:∀b u,H2 b=some u->upd H' p (.tup [kV (.inr z),.int (n:Nat)]) b=some u:=fun b u e=>sp _ _ (sH b u e);have hl1:=sp _ _ hl';have hm1:=hm.same sp;exists p,_,rfl,zB za,rfl,_,_,rfl,_,_,rfl,rfl,?_;generalize upd H' p (.tup [kV (.inr z),.int (n:Nat)])=H4 at sH1 hl1 hm1 |-;have s4:=sHl sH1;exists _,rfl,f,dx,fs,rfl,s4 _ _ h1,nmN,_,rfl,f,z,rows,bars,rfl,hF.same s4,?_;exists _,rfl,_,rfl,sS,_,_,z,rfl,rfl,sH1 _ _ e2,_,rfl,?_;by_cases hz1:z∈bars
  ·refine dT hz1 ?_
   rw[show xc rows bars many z=some "barred" from if_pos hz1] at tk;exists _,rfl,.inl ⟨rfl,_,zh hl1⟩,_,rfl,yC,fun t ht=>?_;have s6:=zd ht (.tup [.str "barred",.int (n:Nat)]);have hl6:=s6 _ _ hl1;have hu2:MA1 (upd H4 t (.tup [.str "barred",.int (n:Nat)])) t ("barred",n):=by
    show upd H4 t _ t=_;rw[za]
   exists l,_,.ref t,rfl,rfl,hl6,zK (by rw[length_map];omega),?_
   exists us++[t],_,_,_,rfl,fun b u e=>?_,by rw[za,map_append];rfl,?_
   ·rw[zg (nl e)]
    exact s6 _ _ (sH1 b u e)
   ·rw[tk]
    exact((hm1.same s6).snoc hu2).upd hl6
  ·refine dF hz1 ?_
   have e0:xc rows bars many z=(match xc.lastD' z rows with|none=>if (zR 4 0 rows).isSome=true then none else some "strange"|some l=>if l<plN rows/\l<many then some "again" else none):=if_neg hz1
   cases ev:yi (yP 0 [] rows) (.inr z) with
   | none=>
    have e1:xc.lastD' z rows=none:=by unfold xc.lastD';rw[ev]
    rw[e1] at e0;exists _,rfl,_,rfl,?_;refine dT rfl ?_;exists _,rfl,f,dx,fs,rfl,s4 _ _ h1,nmG,f,rows,bars,rfl,hF.same s4,_,rfl,?_;cases eg:zR 4 0 rows with
    | none=>
     have e2':xc rows bars many z=some "strange":=by rw[e0,eg];rfl
     refine dT rfl ?_;rw[show xc rows bars many z=some "strange" from e2'] at tk;exists _,rfl,.inl ⟨rfl,_,zh hl1⟩,_,rfl,yC,fun t ht=>?_;have s6:=zd ht (.tup [.str "strange",.int (n:Nat)]);have hl6:=s6 _ _ hl1;have hu2:MA1 (upd H4 t (.tup [.str "strange",.int (n:Nat)])) t ("strange",n):=by
      show upd H4 t _ t=_;rw[za]
     exists l,_,.ref t,rfl,rfl,hl6,zK (by rw[length_map];omega),?_
     exists us++[t],_,_,_,rfl,fun b u e=>?_,by rw[za,map_append];rfl,?_
     ·rw[zg (nl e)]
      exact s6 _ _ (sH1 b u e)
     ·rw[tk]
      exact((hm1.same s6).snoc hu2).upd hl6
    | some j=>
     have e2':xc rows bars many z=none:=by rw[e0,eg];rfl
     refine dF (by intro z;cases z) ?_
     rw[show xc rows bars many z=none from e2',append_nil] at tk;exact⟨us,_,_,_,rfl,sH1,hl1,by rw[tk];exact hm1⟩
   | some v=>
    obtain⟨j,rfl⟩:=zfV rows 0 [] (.inr z) v (fun k v e=>by cases e) ev
    have e1:xc.lastD' z rows=some j:=by unfold xc.lastD';rw[ev];rfl
    rw[e1] at e0;exists _,rfl,_,rfl,?_;refine dF (by intro z;cases z) ?_
    exists _,rfl,_,rfl,f,dx,fs,rfl,s4 _ _ h1,nmP,f,rows,bars,rfl,hF.same s4,_,_,rfl,rfl,_,rfl,?_;by_cases hj1:j<plN rows
    ·refine jU (decide_eq_true (by show(j:Int)<(plN rows:Int);omega)) ?_
     exists _,rfl,_,rfl,_,_,rfl,rfl,_,rfl,?_;by_cases hj2:j<many
     ·have e2':xc rows bars many z=some "again":=by rw[e0];exact if_pos ⟨hj1,hj2⟩
      refine jU (decide_eq_true (by show(j:Int)<(many:Int);omega)) ?_
      rw[show xc rows bars many z=some "again" from e2'] at tk;exists _,rfl,.inl ⟨rfl,_,zh hl1⟩,_,rfl,yC,fun t ht=>?_;have s6:=zd ht (.tup [.str "again",.int (n:Nat)]);have hl6:=s6 _ _ hl1;have hu2:MA1 (upd H4 t (.tup [.str "again",.int (n:Nat)])) t ("again",n):=by
       show upd H4 t _ t=_;rw[za]
      exists l,_,.ref t,rfl,rfl,hl6,zK (by rw[length_map];omega),?_
      exists us++[t],_,_,_,rfl,fun b u e=>?_,by rw[za,map_append];rfl,?_
      ·rw[zg (nl e)]
       exact s6 _ _ (sH1 b u e)
      ·rw[tk]
       exact((hm1.same s6).snoc hu2).upd hl6
     ·have e2':xc rows bars many z=none:=by rw[e0];exact if_neg fun h=>hj2 h.2
      refine j8 (decide_eq_false (by show ¬(j:Int)<(many:Int);omega)) ?_
      rw[show xc rows bars many z=none from e2',append_nil] at tk;exact⟨us,_,_,_,rfl,sH1,hl1,by rw[tk];exact hm1⟩
    ·have e2':xc rows bars many z=none:=by rw[e0];exact if_neg fun h=>hj1 h.1
     refine j8 (decide_eq_false (by show ¬(j:Int)<(plN rows:Int);omega)) ?_
     refine xz ?_;rw[show xc rows bars many z=none from e2',append_nil] at tk;exact⟨us,_,_,_,rfl,sH1,hl1,by rw[tk];exact hm1⟩
 ·rintro σ H' ⟨us,v5,v6,v7,rfl,sH,hl',hm⟩
  have lk:(kvP fp).length=fp.length:=by unfold kvP;rw[length_map]
  rw[lk,take_length] at hm;exact⟨_,rfl,q l H' (sHl sH) ⟨us,hlH,hl',hm⟩⟩
def y9(rows:List Rw)(bars:List Str)(c:List zY):List (Str×Nat):=qA rows bars (zH c).length (yI c)
structure yx(K:Frag)(H:Hp)(a:Addr)(ct:List zY):Prop where
 at_:∃xs,SqL K H a xs/\Paired (zz K T' H 3) xs (ct.map zV)
 lt:(zH ct).length<=900
 lp:(zD ct).length<=900
structure xJ(c:C5)(CF:Addr)(H:Hp)(f:Addr)(rows:List Rw)(bars:List Str):Prop where
 at_:xB c CF H f rows bars
 lr:rows.length<=500
 lb:bars.length<=500
 ok:∀r∈rows,r.ok
theorem xJ.same{c:C5}{CF:Addr}{H H':Hp}{f:Addr}{rows:List Rw}{bars:List Str}(h:xJ c CF H f rows bars)(s:zq H H'):xJ c CF H' f rows bars:=⟨h.at_.same s,h.lr,h.lb,h.ok⟩
inductive zeg(K:Frag)(c:C5)(CF:Addr)(vs:List V)(H:Hp)(Q:VK)(E:XK):Prop|mk(f a:Addr)(rows:List Rw)(bars:List Str)(ct:List zY):vs=[.ref f,.ref a]->xJ c CF H f rows bars->yx K H a ct->(∀(l:Addr) (H':Hp),zq H H'->zbu H H' l (y9 rows bars ct)->Q (.ref l) H')->zeg K c CF vs H Q E
theorem zeq:zu ["form","call","many","names"] ["form","call"] (zj jv):=fsc
theorem ziT{g1 g2:Addr}{d1 d2:FuncData}(F:Fun K "misfits" "misfits" jv f fd)(c1:zE P w K mg base 2 "shape" g1 d1 ["call"] (zcD K))(c2:zE P w K mg base 4 "misfits_of" g2 d2 ["form","many","names"] (zhI c CF)):zA P w K mg base CX0 5 f fd ["form","call"] (zeg K c CF):=by
 refine F.ok zeq (fun cdv A outer s H vs Q E hr h=>?_);obtain⟨f,a,rows,bars,ct,rfl,hF,⟨⟨xs,hx,hc⟩,lt,lp⟩,q⟩:=h;have hr2:yj 2 _:=hr.mono (by decide)
 refine⟨_,zk (jC (cF c1 hr2 (ac (pv 1) zc)) (yO rfl (zF (zr (i:=2) zeq.nd rfl (Or.inl rfl)) (zF (zr (i:=3) zeq.nd rfl (Or.inl rfl)) yv))))
  (zf (zy (cF c2 hr (ac (pv 0) (ac (pv 2) (ac (pv 3) zc)))))),?_⟩
 exists _,rfl,a,ct,xs,rfl,hx,hc,lt,lp,fun p l H1 s1 nl ep el=>?_;exists p,_,rfl,zB ep,rfl,_,_,rfl,_,_,rfl,rfl,?_;have hF1:=hF.same s1;have ln:(yI ct).length<=900:=by unfold yI;rw[length_map];exact lp
 exact⟨_,rfl,_,rfl,_,rfl,f,l,(zH ct).length,rows,bars,yI ct,rfl,hF.lr,hF.lb,lt,ln,hF.ok,hF1.at_,el,fun l2 H2 s2 ⟨us,n2,e2,m2⟩=>q l2 H2 (s1.trans s2) ⟨us,s1.free n2,e2,m2⟩⟩
end
end K62
namespace L2
open PySem PySem.Spec PyProof.Rows
section
variable {X:Cx}
def xp(n:Nat):List Int:=(List.range n).map fun (i:Nat)=>(i:Int)
theorem zX.of_at{ts:List Int}:∀{us:List Value},us.length=ts.length->(∀(i:Nat) (v:Value),us[i]?=some v->∃t,v=Value.int (ts.getD i 0) t)->zX (ts.map V.int) us:=by
 induction ts with
 | nil=>
  intro us hl _
  have:us=[]:=List.length_eq_zero_iff.mp hl
  subst this;exact .nil
 | cons t ts ih=>
  intro us hl h;cases us with
  | nil=>cases hl
  | cons u us=>
   obtain⟨k,e⟩:=h 0 u rfl;exact .cons ⟨k,e⟩ (ih (by simpa using hl) fun i v e=>h (i+1) v e)
theorem zf1:xC X (.type "range") (fun xs H Q=>∃n:Nat,xs=[.int (n:Nat)]/\∀p,H p=none->Q (.ref p) (upd H p (.rng 0 (n:Nat)))):=by
 intro pins s σ H xs us Q I r h;obtain⟨n,rfl,q⟩:=h;obtain⟨u,rfl,ru⟩:=wG r;obtain⟨t,rfl⟩:=ru;refine call_range_1 ?_;exists .ref s.heap.objs.size,_,I.laid (o:=.rng 0 (n:Nat)) (fun b u e=>zgp _ e) (le_refl _) ?_,rfl,q _ (I.hok.fresh (le_refl _));exact⟨_,_,_,zgs _ rfl⟩
theorem zco(hc:X.calm=true):xC X (.type "list") (fun xs H Q=>∃(p:Addr) (n:Nat),xs=[.ref p]/\H p=some (.rng 0 (n:Nat))/\n<=900/\∀l,H l=none->Q (.ref l) (upd H l (.lst ((xp n).map V.int)))):=by
 intro pins s σ H xs us Q I r h;obtain⟨p,n,rfl,hp,hn,q⟩:=h;obtain⟨u,rfl,ru⟩:=wG r;cases ru;obtain⟨t,u',v',e⟩:=I.hok p _ hp;refine call_list_range (n:=n) (I.ok.hd hc) e ?_ ?_ (by omega) fun h' tk acc c' hk he hacc=>?_
 ·exact small_one (by omega) (by omega) (by omega) (by omega)
 ·unfold Builtin.Range.rangeSize
  rw[if_pos (by decide)]
  split <;> omega
 ·have hl:acc.toList.length=(xp n).length:=by
   unfold xp;rw[length_map,length_range];simpa using hacc.1
  have hv:zX ((xp n).map V.int) acc.toList:=zX.of_at hl fun i v e=>by
   obtain⟨t,rfl⟩:=hacc.2 i v (by simpa using e)
   exists t,?_;have hi:i<n:=by
    have:=(List.getElem?_eq_some_iff.mp e).1
    rw[hl] at this;unfold xp at this;simpa using this
   have eg:(xp n).getD i 0=(i:Int):=by
    unfold xp;rw[getD_eq_getElem?_getD,getElem?_map,List.getElem?_range hi];rfl
   rw[eg];simp
  exists .ref s.heap.objs.size,_,I.laid (t':=tk) (o:=.lst ((xp n).map V.int)) hk (le_refl _) ⟨?_,acc.toList,c',hv,by simpa using he⟩,rfl,q _ (I.hok.fresh (le_refl _))
  unfold xp;rw[length_map,length_map,length_range];have : 1000<=sizeLine:=by decide
  omega
end
end L2
namespace L2
open PySem PySem.W PySem.Builtin PySem.Builtin.ObjectAttr PySem.Spec PyProof.Rows
def zf5(K:Frag)(C:Addr):Bool:=
 match K.lookup C with
 | some ⟨.type "type",_,.cls cd,sl⟩=>
  match cd.mro,sl.toList with
  | .ref C'::bm,[_,_,_,_,some (.builtin n),_]=>C'==C&&n=="ValueError.__new__"&&!cd.hasDel&&cd.hasDict&&bm.contains (.type "ValueError")&&bm.contains (.type "BaseException")&&!bm.contains (.type "AttributeError")&&!bm.contains (.type "NameError")
  | _,_=>false
 | _=>false
structure zkg(h:Heap)(C:Addr):Prop where
 ob:∃nm q N bs bm sn sub ab col dd k0 k1 k2 k3 k5,h.get? C=some (excClassObj nm q C N bs bm true sn sub ab col dd k0 k1 k2 k3 k5 "ValueError.__new__")/\bm.contains (.type "ValueError")=true/\bm.contains (.type "BaseException")=true/\bm.contains (.type "AttributeError")=false/\bm.contains (.type "NameError")=false
theorem zcu{K:Frag}{h:Heap}{C:Addr}(X:K.In h)(q:zf5 K C=true):zkg h C:=by
 simp only[zf5] at q;split at q
 case h_2=>cases q
 rename_i dd cd sl ho;obtain⟨nm,bs,mro,ns,qn,hd,sn,sub,ab,col,del⟩:=cd;obtain⟨l⟩:=sl;dsimp only at q;split at q
 case h_2=>cases q
 rename_i C' m k0 k1 k2 k3 n k5;simp only[Bool.and_eq_true,beq_iff_eq,Bool.not_eq_true'] at q;obtain⟨⟨⟨⟨⟨⟨⟨rfl,rfl⟩,rfl⟩,rfl⟩,h1⟩,h2⟩,h3⟩,h4⟩:=q;exact⟨_,_,_,_,_,_,_,_,_,_,_,_,_,_,_,X _ _ ho,h1,h2,h3,h4⟩
abbrev wE(C t:Addr):Obj:={ cls:=.ref C,data:=.fields #[.ref t,.none,.none,.none,.bool false,.none] }
abbrev xS(us:List Value):Obj:={ cls:=.type "tuple",data:=.seq us.toArray }
section
variable {prog:Program}{w:World}{A:Around}{E:VSP}{s:Shared}{K:Frag}{C f:Addr}{us:List Value}
theorem zho{R:Result->Shared->Prop}(m:zkg s.heap C)(hl:us.length<=sizeLine)
  (h:R (.ok (.ret (.ref (s.heap.objs.size+1)))) { s with heap:=(s.heap.push (xS us)).push (wE C s.heap.objs.size) }) :
  codeAny (model prog w) A (.call (.builtin "ValueError.__new__") ⟨.ref C::us,[]⟩) R s:=by
 obtain⟨hh,g,d,t,os⟩:=s;obtain⟨nm,q,N,bs,bm,sn,sub,ab,col,dd,k0,k1,k2,k3,k5,hC,b1,b2,b3,b4⟩:=m.ob;have F:=PySem.F.excBase_ValueError;refine codeAny_call_builtin_code (Code.quiet_builtin _ F.toExcCallFacts.quiet) ?_;have k1':=F.newKind;have k2':=F.newSplit;have k3':=F.newRow;simp only[checkBuiltinCall,k1',k2',k3'];rw[if_pos (by decide +kernel)]
 refine zwb (ks_wpAny_isType_cls hC rfl ?_);rw[if_neg (by decide)]
 refine zwb (wpAny_isSubtype_exc hC ?_);rw[show(Value.ref C::bm).contains (.type "ValueError")=true by rw[contains_cons,b1,Bool.or_true],if_neg (by decide)]
 refine zwb (wpAny_staticBase_exc hC (zwb (wpAny_madeBy_exc hC ?_)));dsimp only;rw[if_neg (by decide +kernel)]
 rw[show Bind.checkArgs "ValueError.__new__" { machinery:=Manifest.Machinery.any,full:="ValueError",short:="ValueError",receiver:=Manifest.Receiver.cls,params:=[{ name:="args",kind:=Manifest.ParamKind.varPos,required:=false },{ name:="kwargs",kind:=Manifest.ParamKind.varKw,required:=false }] } { pos:=Value.ref C::us }=pure () from rfl];refine zwp (PyProof.Rows.codeAny_builtin_at F.toExcCallFacts.toExcNewFacts.entry ?_);unfold Builtin.«BaseException.__new__»;refine PyProof.Rows.wpAt_bind (PyProof.Rows.wpAt_owner rfl F.toExcCallFacts.toExcNewFacts.ends (PyProof.Rows.wpAt_of_any ?_));rw[F.toExcCallFacts.toExcNewFacts.owner];dsimp only;refine zwb (ks_wpAny_isType_cls hC rfl ?_);rw[if_neg (by decide)]
 refine zwb (wpAny_isSubtype_exc hC ?_);rw[show(Value.ref C::bm).contains (.type "ValueError")=true by rw[contains_cons,b1,Bool.or_true],if_neg (by decide)]
 refine zwb (wpAny_madeHere_exc F.canon hC ?_);have c3:(Value.ref C::bm).contains (.type "AttributeError")=false:=by rw[contains_cons,b3];rfl
 have c4:(Value.ref C::bm).contains (.type "NameError")=false:=by rw[contains_cons,b4];rfl
 refine zwb (?_:wpAny _ _ (do
   let x <- isSubtype (.ref C) (.type "AttributeError")
   if x=true then pure 2
   else do
    let y <- isSubtype (.ref C) (.type "NameError")
    if y=true then pure 1 else pure 0:Sem Nat) _ _ _)
 refine zwb (wpAny_isSubtype_exc hC ?_);rw[c3,if_neg zft];refine zwb (wpAny_isSubtype_exc hC ?_);rw[c4,if_neg zft];refine zwp (zwb (wpAny_newTuple ?_ hl));have hC2:=zgp (xS us) hC;unfold newObj;dsimp only;rw[if_neg (by show ¬6>sizeLine+2;decide)]
 unfold newObjAsIs;refine zwb (zwb (wpAny_alloc ?_));dsimp only;refine zwb ?_;unfold classHasDel;refine zwb (wpAny_load (zgp _ hC2) ?_);dsimp only;refine zwp ?_;rw[if_neg zft];refine zwp (zwp ?_);have e1:(hh.push (xS us)).objs.size=hh.objs.size+1:=Heap.size_push _ _;show R (.ok (.ret (.ref (hh.push (xS us)).objs.size))) _;rw[e1];exact h
structure zdj(K:Frag)(C f:Addr):Prop where
 ob:zf5 K C=true
 init:findIn K (.ref C) "__init__"=some (some (.ref f))
 fn:isFn K (.ref f)=true
 call:specialIn K (.ref C) "__call__"=some (some (.builtin "type.__call__"))
 typ:instIn K (.ref C) (.type "type")=some true
 kp:keepIn K (.ref C)=true
theorem zfR{R:Result->Shared->Prop}(X:K.In s.heap)(m:zdj K C f)(hl:us.length<=sizeLine)
  (h:codeAny (model prog w) (A.under (.builtin "type.__call__" ⟨.ref C::us,[]⟩)) (.call (.ref f) ⟨.ref (s.heap.objs.size+1)::us,[]⟩) (InitBack (s.heap.objs.size+1) R)
   { s with heap:=(s.heap.push (xS us)).push (wE C s.heap.objs.size) }):codeAny (model prog w) A (.call (.ref C) ⟨us,[]⟩) R s:=by
 have mo:=zcu X m.ob;have LC:=looks_specialIn (M:=model prog w) X m.call;have LT:=looks_instIn (M:=model prog w) X m.typ;obtain⟨hh,g,d,t,os⟩:=s;obtain⟨nm,q,N,bs,bm,sn,sub,ab,col,dd,k0,k1,k2,k3,k5,hC,b1,b2,b3,b4⟩:=mo.ob;refine codeAny_of_own ?_;show wpOwn _ _ _ (callAny (.ref C) ⟨us,[]⟩) _ _ _;unfold callAny;refine wpOwn_of_wpAny ?_;dsimp only;refine zwb (wpAny_load hC ?_);dsimp only;unfold callAny.viaDunder;refine zwb (LC.at ?_);dsimp only;rw[show bindSpecial (.builtin "type.__call__") (.ref C)=pure (.builtin "type.__call__",[.ref C]) from by with_unfolding_all rfl]
 refine zwb (zwp ?_);dsimp only;rw[show callAny.plainCallee (.builtin "type.__call__")=pure true from by with_unfolding_all rfl]
 refine zwb (zwp ?_);rw[if_pos rfl];refine zwp ⟨rfl,?_⟩;refine codeAny_call_builtin_code (Code.quiet_builtin _ (by decide +kernel)) ?_
 have k1':builtinKind "type.__call__"=some .slot:=by decide +kernel
 have k2':splitId "type.__call__"=some ("type","__call__"):=by decide +kernel
 simp only[checkBuiltinCall,k1',k2',cons_append,nil_append];refine zwb (LT.at ?_);rw[if_neg (by decide)]
 have k3':Manifest.signature? "type.__call__"=some { machinery:=.hand,full:="wrapper __call__",short:="",receiver:=.self,params:=[] }:=by with_unfolding_all rfl
 rw[k3'];dsimp only;rw[show Bind.checkArgs "type.__call__" { machinery:=.hand,full:="wrapper __call__",short:="",receiver:=.self,params:=[] } { pos:=Value.ref C::us }=pure () from rfl];refine zwp (codeAny_builtin (b:=Builtin.«type.__call__») rfl ?_);unfold Builtin.«type.__call__»;dsimp only;rw[if_neg (show ¬(Value.ref C==Value.type "type")=true from fun z=>by cases z)]
 refine zwb (wpAny_mroOf_exc hC ?_);rw[if_neg (show ¬(Value.ref C::bm).isEmpty=true from zft)];refine zwb (wpAny_madeBy_exc hC ?_);dsimp only;refine zwb (zwp (zwb (wpAny_holding (wpAny_call (zho mo hl ?_)))));dsimp only at h |-;have kp:∀b o,hh.get? b=some o->((hh.push (xS us)).push (wE C hh.objs.size)).get? b=some o:=fun b o e=>zgp _ (zgp _ e);have X2:K.In ((hh.push (xS us)).push (wE C hh.objs.size)):=X.keeps kp;have eo:((hh.push (xS us)).push (wE C hh.objs.size)).get? (hh.objs.size+1)=some (wE C hh.objs.size):=by
  have:=zgs (hh.push (xS us)) (o:=wE C hh.objs.size) rfl
  rwa [Heap.size_push] at this
 have LI:=looks_findIn (M:=model prog w) X2 m.init;have LB:=bind_fn (M:=model prog w) X2 (.ref (hh.objs.size+1)) (beq_iff_eq.mp m.fn);generalize (hh.push (xS us)).push (wE C hh.objs.size)=h2 at h kp X2 eo LI LB |-;unfold isInstance;have LTy:Looks (model prog w) h2 (typeOf (.ref (hh.objs.size+1))) (.ref C):=(Looks.ld eo).andThen .now;refine zwb (zwb (LTy.at (wpAny_isSubtype_exc (kp _ _ hC) ?_)));rw[show(Value.ref C::bm).contains (.ref C)=true by rw[contains_cons,beq_self_eq_true,Bool.true_or],if_neg (by decide)]
 refine zwb (wpAny_holding ?_);unfold callSpecial? specialOf;refine zwb (zwb (LTy.at (LI.at ?_)));dsimp only;refine wpAny_holding (zwb (LB.at ?_));dsimp only;refine zwb (wpAny_call (codeAny_mono h fun r s' hq=>?_));cases r with
 | error e=>exact hq
 | ok fl=>
  cases fl with
  | ret u=>
   obtain⟨rfl,hq⟩:=hq;refine zwp ?_;dsimp only;rw[if_neg (by decide)]
   exact zwp hq
  | next=>exact False.elim hq
  | brk=>exact False.elim hq
  | cont=>exact False.elim hq
def zaH:List Value:=[.type "ValueError",.type "Exception",.type "BaseException",.type "object"]
def wK:List Value->Bool
 | .ref _::l=>wK l
 | l=>l==zaH
def zjj(K:Frag)(C:Addr):Bool:=(clsIn K C).any fun cd=>cd.hasDict&&wK cd.mro
variable {x:Addr}
theorem zdC{M:Model}{Q:Option Unit×Unit->Shared->Prop}{self:Value}:∀(l:List Value),wK l=true->(Q (some (),()) s)->
  wpAny M A (forIn l ((none,()):Option Unit×Unit) fun c __s=>
    match c with
    | Value.type n=>
     if (n=="_thread._local")=true then do
      rule "setattr.thread-local-passed-by"
      pure (ForInStep.yield (none,()))
     else
      if (n=="_pickle.Pickler"||n=="_pickle.Unpickler")=true then do
       rule "setattr.pickle-types-passed-by"
       pure (ForInStep.yield (none,()))
      else do
       let own <- classOwn c (Str.ofString "__setattr__")
       if own.isSome=true then
         have __do_jp:=fun (__r:Unit)=>pure (ForInStep.done (some (),()));
         if (!isObjects n (Str.ofString "__setattr__").toString)=true then do
          rule "setattr.built-in-override"
          let tn <- PySem.typeNameOf self
          let __r <-
           raiseErrorMade "TypeError"
             (toString "can't apply this "++toString (Str.ofString "__setattr__").toString++toString " to " ++
               toString tn ++
              toString " object")
          __do_jp __r
         else __do_jp ()
        else pure (ForInStep.yield (none,()))
    | x=>pure (ForInStep.yield (none,()))) Q E s:=by
 intro l;have o1:classOwn (.type "ValueError") (Str.ofString "__setattr__")=pure none:=by with_unfolding_all rfl
 have o2:classOwn (.type "Exception") (Str.ofString "__setattr__")=pure none:=by with_unfolding_all rfl
 have o3:classOwn (.type "BaseException") (Str.ofString "__setattr__")=pure none:=by with_unfolding_all rfl
 have o4:=F.own_object_setattr;induction l with
 | nil=>intro h;exact absurd h (by decide)
 | cons c l ih=>
  intro h q;rw[List.forIn_cons];cases c with
  | ref a=>exact zwb (zwp (ih h q))
  | type n=>
   have e:Value.type n::l=zaH:=by
    have:(Value.type n::l==zaH)=true:=h
    exact eq_of_beq this
   unfold zaH at e;injection e with e1 e2
   injection e1 with e1
   subst e1 e2;have n1:∀n:String,n∈["ValueError","Exception","BaseException","object"]->(n=="_thread._local")=false/\(n=="_pickle.Pickler"||n=="_pickle.Unpickler")=false:=by decide +kernel
   simp only[List.forIn_cons,n1 "ValueError" (by decide),n1 "Exception" (by decide),n1 "BaseException" (by decide),n1 "object" (by decide),o1,o2,o3,o4,Bool.false_eq_true,if_false]
   refine zwb (zwb (zwp ?_));refine zwp ?_;refine zwb (zwb (zwp ?_));refine zwp ?_;refine zwb (zwb (zwp ?_));refine zwp ?_;refine zwb (zwb (zwp ?_));rw[if_pos (show(some (Value.builtin "object.__setattr__")).isSome=true from rfl),if_neg (show ¬(!isObjects "object" (Str.ofString "__setattr__").toString)=true by unfold isObjects;simp)]
   exact zwp (zwp q)
  | _=>exact absurd h (by simp [wK,zaH])
theorem zhy{α : Type}{M:Model}{A:Around}{t t':Sem α}{Q : α->Shared->Prop}{E:VSP}{s:Shared}(e:t=t')(h:wpAny M A t' Q E s):wpAny M A t Q E s:=e ▸ h
structure j3(K:Frag)(C:Addr):Prop where
 t:zjj K C=true
 sa:findIn K (.ref C) "__setattr__"=some (some (.builtin "object.__setattr__"))
 ob:mroIn K C (.type "object")=some true
theorem j3.cd(m:j3 K C):∃cd,clsIn K C=some cd/\cd.hasDict=true/\wK cd.mro=true:=by
 have:=m.t
 unfold zjj at this;cases e:clsIn K C with
 | none=>rw[e] at this;cases this
 | some cd=>
  rw[e] at this;have h2:(cd.hasDict&&wK cd.mro)=true:=this;exact⟨cd,rfl,(Bool.and_eq_true _ _ ▸ h2).1,(Bool.and_eq_true _ _ ▸ h2).2⟩
theorem zgf{oe:Obj}{vs:Array Value}{name:Str}{v:Value}{Q:Unit->Shared->Prop}(X:K.In s.heap)(m:j3 K C)(ha:findIn K (.ref C) name=some none)(he:s.heap.get? x=some oe)(hc:oe.cls=.ref C)(hd:oe.data=.fields vs)(hn:oe.dict=none)
  (h:∀h':Heap,(∀b o,b≠x->s.heap.get? b=some o->h'.get? b=some o)->h'.get? x=some { oe with dict:=some s.heap.objs.size }->h'.Ns1 s.heap.objs.size (fun y=>if y=name then some v else none)->Q () { s with heap:=h',toks:=s.toks+2 }) :
  wpAny (model prog w) A (setAttr (.ref x) name v) Q E s:=by
 obtain⟨cd,hcd,hdict,hmro⟩:=m.cd;have IA:InstAt s.heap x oe C none:=⟨he,hc,by unfold notCls;rw[hd],by rw[hn];trivial⟩
 refine set_plain X IA m.sa ?_;have LO:=looks_mroIn (M:=model prog w) X m.ob;have LF:=looks_findIn (M:=model prog w) X ha;have LCd:=looks_clsIn (M:=model prog w) X hcd;have LTy:Looks (model prog w) s.heap (typeOf (.ref x)) (.ref C):=hc ▸ (Looks.ld he).andThen .now;obtain⟨hh,g,d,t,os⟩:=s;dsimp only at *;refine codeAny_call_builtin F.slot_object_setattr.plain F.entry_object_setattr ?_;have k1:=F.bk_object_setattr;have k2:=F.sp_object_setattr;simp only[checkBuiltinCall,k1,k2];refine zwb ?_;unfold isInstance;refine zwb (LTy.at ?_);refine LO.at ?_;rw[if_neg (by decide)]
 have k3:=F.args_object_setattr_3 (.ref x) (.str name t) v;refine zhy k3 (zwp ?_);unfold Builtin.«object.__setattr__»;rw[if_neg (show ¬(!(⟨[Value.ref x,Value.str name t,v],[]⟩:Args).kw.isEmpty)=true from zft)];dsimp only;unfold refuseIfOverridden;refine zwb (zwb (LTy.at (zwb ?_)));unfold mroOf;refine zwb (LCd.at (zwp (zwb (zdC _ hmro ?_))));dsimp only;refine zwp (zwb ?_);unfold attrName;refine zwp (zwb (LTy.at (zwb (LF.at (zwb ?_)))));unfold storeTaker?;refine zwp ?_;dsimp only;unfold storeInOwnDict ownStreamTells;refine zwb (zwp ?_);rw[if_neg (show ¬(Value.ref C==Value.type "module")=true from fun z=>by cases z)]
 unfold ownDictForStores instanceDict;refine zwb (zwb (wpAny_loadPart he ?_));rw[hc];dsimp only;refine zwb (LCd.at ?_);rw[hdict,hn,hd];dsimp only;rw[if_neg (by decide),if_neg (show ¬(!true||!typeHasDict (Value.ref C))=true from zft)]
 refine zwb (wpAny_alloc (zwb (wpAny_update (zgp _ he) ?_)));unfold dictMade;refine zwp ?_;dsimp only;unfold storeInDict newKeyGuard;refine zwb (zwp (zwb ?_));have xlt:x≠hh.objs.size:=ne_of_lt (Heap.lt_size he);have u1:((hh.push { cls:=.type "dict",data:=.dict #[] }).update x fun o=>{ cls:=o.cls,dict:=some hh.objs.size,data:=o.data,slots:=o.slots }).get? hh.objs.size=some { cls:=.type "dict",data:=.dict #[] }:=by
  rw[Heap.get?_update_ne _ _ _ _ (Ne.symm xlt)];exact zgs hh rfl
 have n1:((hh.push { cls:=.type "dict",data:=.dict #[] }).update x fun o=>{ cls:=o.cls,dict:=some hh.objs.size,data:=o.data,slots:=o.slots }).Ns1 hh.objs.size (fun _=>none):=Heap.Ns1.of_empty ⟨_,#[],_,u1,rfl,(fun e he=>absurd he (by simp)),fun _=>rfl⟩
 refine wpAny_nsSet1 n1 fun h' hn2 hs2=>?_;have wi:PySem.Within (fun y=>if y=name then some v else none) [name]:=fun y hy=>by
  by_cases e:y=name
  ·rw[e];exact List.mem_singleton.mpr rfl
  ·exact absurd (if_neg e) hy
 obtain⟨oD,esD,epD,hoD,hdD,hcD⟩:=hn2.count wi;refine zwb (wpAny_lookBehind hoD (by rw[hdD];exact pastItsLine_dict (le_trans hcD (by show 1<=sizeLine+1;decide))) ?_)
 refine zwp ?_;have ux:((hh.push { cls:=.type "dict",data:=.dict #[] }).update x fun o=>{ cls:=o.cls,dict:=some hh.objs.size,data:=o.data,slots:=o.slots }).get? x=some { oe with dict:=some hh.objs.size }:=
  Heap.get?_update_self _ (zgp _ he) (by unfold Obj.isFreed;rw[hd])
 refine h h' (fun b o hb e=>?_) ?_ hn2
 ·have hb2:b≠hh.objs.size:=ne_of_lt (Heap.lt_size e)
  rw[hs2.2 b hb2,Heap.get?_update_ne _ _ _ _ hb];exact zgp _ e
 ·rw[hs2.2 x xlt]
  exact ux
end
end L2
namespace L2
open PySem PySem.W PySem.Builtin PySem.Builtin.ObjectAttr PySem.Builtin.Getset_descriptor PySem.Spec PyProof.Rows
section
variable {prog:Program}{w:World}{A:Around}{E:VSP}{s:Shared}{K:Frag}{C D x dx:Addr}{us:List Value}
theorem zhi{oe:Obj}{vs:Array Value}{name:Str}{v:Value}{mA:Str->Option Value}{b:Bool}{Q:VSP}(c:xU K D)(m:j3 K D)(X:K.In s.heap)(ha:findIn K (.ref D) name=some none)(he:s.heap.get? x=some oe)(hc:oe.cls=.ref D)(hd:oe.data=.fields vs)(hx:oe.dict=some dx)
  (hn:s.heap.Ns1 dx mA) (hv:mA name=some v) (hv':handedIn v=true) (h:Q v { s with toks:=s.toks+1 }):wpAny (model prog w) A (getAttr (.ref x) name b) Q E s:=by
 obtain⟨cd,hcd,hdict,hmro⟩:=m.cd;obtain⟨hh,g,dr,t,os⟩:=s;have LT:Looks (model prog w) hh (typeOf (.ref x)) (.ref D):=hc ▸ (Looks.ld he).andThen .now;have LG:=looks_findIn (M:=model prog w) X c.ga;have LN:=looks_findIn (M:=model prog w) X c.no;have LC:=looks_findIn (M:=model prog w) X ha;have LB:=looks_mroIn (M:=model prog w) X c.be;have LCd:=looks_clsIn (M:=model prog w) X hcd;unfold getAttr;refine zwb (wpAny_mkText ?_);unfold getAttrBy;dsimp only;refine wpAny_holding (zwb (LT.at (zwb (LG.at ?_))));have hne:(onTheHeap (Value.ref D)&&Value.builtin "BaseException.__getattribute__"==Value.builtin "object.__getattribute__")=false:=by
  rw[show(Value.builtin "BaseException.__getattribute__"==Value.builtin "object.__getattribute__")=false from by decide +kernel,Bool.and_false]
 dsimp only;rw[hne];rw[if_neg zft];unfold getAttrByItsOwn hookBefore;rw[if_pos (show onTheHeap (Value.ref D)=true from rfl)];refine zwb (LN.at (zwb (wpAny_attempt (wpAny_holding ?_))));unfold callGetattribute boundAndCalled;rw[if_neg (show ¬(b&&onTheHeap (Value.builtin "BaseException.__getattribute__"))=true from by rw[show onTheHeap (Value.builtin "BaseException.__getattribute__")=false from rfl,Bool.and_false];exact zft)]
 have fb:=PySem.F.attrBase_ValueError.ga;rw[fb.bind (.ref x)];refine zwb (zwp ?_);refine wpAny_call (codeAny_call_builtin fb.plain F.entry_bexc_ga ?_);have k1:builtinKind "BaseException.__getattribute__"=some .slot:=by decide +kernel
 have k2:splitId "BaseException.__getattribute__"=some ("BaseException","__getattribute__"):=by decide +kernel
 have k3:=F.args_bexc_ga (.ref x) (.str name t);simp only[checkBuiltinCall,k1,k2,cons_append,nil_append];refine zwb ?_;unfold isInstance;refine zwb (LT.at (LB.at ?_));rw[if_neg (by decide)]
 refine zhy k3 (zwp ?_);unfold Builtin.«object.__getattribute__»;obtain⟨od,hod,hlk⟩:=qB hn;have IA:InstAt hh x oe D (some od):=⟨he,hc,by unfold notCls;rw[hd],by rw[hx];exact hod⟩
 have hD:hasDictIn K D=true:=by unfold hasDictIn;rw[hcd];exact hdict
 have LFi:=looks_find (M:=model prog w) X IA (findObj_own hD ha rfl (by rw[hlk,hv]))
 rw[show slotArgs "__getattribute__" 1 { pos:=[Value.ref x,Value.str name t] }=pure (.ref x,[.str name t]) from rfl];refine zwb (zwp (zwb ?_));unfold attrName;refine zwp (zwb (LT.at (zwb (LFi.at ?_))));refine zwp ?_;show wpAny _ _ (handedOut v) _ _ _;rw[handedOut_of hv'];exact zwp h
end
end L2
namespace L2
open PySem PySem.Spec PyProof.Rows
abbrev ud(ea C:Addr)(od:Option Addr)(t:Addr):HO:=.ext fun h=>h.get? ea=some { cls:=.ref C,dict:=od,data:=.fields #[.ref t,.none,.none,.none,.bool false,.none] }
theorem zda{P:Program}{w:World}{H:Hp}{h:Heap}{ea C t:Addr}{od:Option Addr}(e:h.get? ea=some { cls:=.ref C,dict:=od,data:=.fields #[.ref t,.none,.none,.none,.bool false,.none] }):yu P w H h ea (ud ea C od t):=
 ⟨e,⟨_,e⟩,fun g1 g2 q k=>k _ q⟩
section
variable {X:Cx}{pins:PnL}{σ:St}{H:Hp}{s:Shared}{x C t:Addr}{f:Str}{y:V}{u:Value}{A:Around}{E:VSP}
theorem zaz{od:Option Addr}(I:Inv X pins σ H s)(e:H x=some (ud x C od t)):s.heap.get? x=some { cls:=.ref C,dict:=od,data:=.fields #[.ref t,.none,.none,.none,.bool false,.none] }:=(I.hok x _ e).1
theorem zgg{Q:Unit->Shared->Prop}(I:Inv X pins σ H s)(e:H x=some (ud x C none t))(m:j3 X.K C)(n:yt X.K C f)(ry:ya y u)
  (h:∀dx s',H dx=none->Inv X pins σ (upd (upd H x (ud x C (some dx) t)) dx (.xd [(f,y)])) s'->Q () s'):wpAny (model X.prog X.w) A (setAttr (.ref x) f u) Q E s:=by
 have hx:=zaz I e;have hsz:H s.heap.objs.size=none:=I.hok.fresh (le_refl _);refine zgf I.kIn m n hx rfl rfl rfl fun h' k e1 ns=>h s.heap.objs.size _ hsz ?_;have I1:Inv X pins σ (upd H x (ud x C (some s.heap.objs.size) t)) { s with heap:=h',toks:=s.toks+2 }:=
  I.write (by rw[e];exact True.intro) (.inl rfl) k ⟨_,e1⟩ (zda e1)
 have nx:s.heap.objs.size≠x:=Ne.symm (ne_of_lt (Heap.lt_size hx));refine I1.track (by rw[zg nx];exact hsz) ⟨_,ns,fun g=>?_⟩ (fun v e2 _ _=>?_) (fun z=>?_) (fun z c e2 z2=>?_) fun p hp z=>?_
 ·show ue (List.lookup g [(f,y)]) (if g=f then some u else none)
  by_cases q:g=f
  ·subst q;rw[lookup_cons_self,if_pos rfl];exact ry
  ·rw[lookup_cons,beq_eq_false_iff_ne.mpr q,if_neg q];trivial
 ·exact absurd (Heap.lt_size e2) (Nat.not_lt.mpr I.sz)
 ·have:=I.lt
  rw[z] at this;exact absurd this (lt_irrefl _)
 ·obtain⟨v,oc,hoc,_⟩:=I.cell z c e2
  rw[z2] at hoc;exact absurd (Heap.lt_size hoc) (lt_irrefl _)
 ·have:=(I.pin p hp).1
  rw[z] at this;exact absurd (Heap.lt_size this) (lt_irrefl _)
inductive zjKJ(K:Frag)(f:Str)(D:L2.w4)(σ:St)(y:V)(x:V)(H2:Hp):Prop|mk(a C t:Addr):x=.ref a->H2 a=some (ud a C none t)->j3 K C->yt K C f->(∀dx,H2 dx=none->D.nx σ (upd (upd H2 a (ud a C (some dx) t)) dx (.xd [(f,y)])))->zjKJ K f D σ y x H2
def zjK(K:Frag)(ta tv:TE)(f:Str):TS:=fun D σ H=>tv σ H fun y H1=>ta σ H1 fun x H2=>zjKJ K f D σ y x H2
variable {o e value:Expr}{pos pos' tpos:Pos}{ta tv:TE}
theorem zgu(ha:PE X o ta)(hv:PE X value tv)(hs:swapsWith value (some (.Attribute o f pos')) pos.line X.env=pure false):PS X (.Assign [.Attribute o f pos'] value pos) (zjK X.K ta tv f):=by
 exists ?_;intro pins s σ H D I h;refine plainObj_wpAny_Assign_Attribute (thn (hv pins s σ H _ I h) fun u s1 ⟨y,H1,I1,ry,q⟩=>thn (ha pins s1 σ H1 _ I1 q) fun ov s2 ⟨x,H2,I2,rx,a,C,t,ex,ea,c,n,q2⟩=>?_) hs;subst ex;obtain rfl:ov=Value.ref a:=rx;exact zgg I2 ea c n ry fun dx s3 hdx I3=>⟨σ,_,I3,q2 dx hdx⟩
def zd7(C:Addr)(sp:Sp)(E:XK)(t:TA):TE:=fun σ H Q=>t σ H fun vs H1=>vs.length<=sizeLine/\∀x tu,H1 x=none->H1 tu=none->tu≠x->sp (.ref x::vs) (upd H1 x (ud x C none tu)) (fun v H2=>v=.non/\Q (.ref x) H2) E
end
section
variable {X:Cx}{CX:CXT}{k:Nat}{f C:Addr}{fd:FuncData}{ps:List Str}{sp:Sp}{E:XK}{x:Str}{p pos:Pos}{e:Expr}{es:List Expr}{t:TA}
theorem Inv.madeX{pins:PnL}{σ : St}{H:Hp}{s:Shared}{us:List Value}(I:Inv X pins σ H s):Inv X pins σ (upd H (s.heap.objs.size+1) (ud (s.heap.objs.size+1) C none s.heap.objs.size)) { s with heap:=(s.heap.push (xS us)).push (wE C s.heap.objs.size) }:=by
 refine I.laid (fun b u e=>zgp _ (zgp _ e)) (le_succ _) (zda ?_)
 have:=zgs (s.heap.push (xS us)) (o:=wE C s.heap.objs.size) rfl
 rwa [Heap.size_push] at this
theorem zdw{pins:PnL}{σ : St}{H:Hp}{s:Shared}{Q:VK}{us:List Value}{vs:List V}(M:zdj X.K C f)(F:zA X.prog X.w X.K X.mg X.base CX k f fd ps sp)(hr:yj (k+1) X.A)(hb:z8 X.K fd ps [])
  (hx:xm CX X E) (I:Inv X pins σ H s) (r:zX vs us) (hl:vs.length<=sizeLine)
  (h:∀x tu,H x=none->H tu=none->tu≠x->sp (.ref x::vs) (upd H x (ud x C none tu)) (fun v H2=>v=.non/\Q (.ref x) H2) E) :
  wpAny (model X.prog X.w) X.A (call (.ref C) us) (EP X pins σ Q) X.xe s:=by
 have hq:=h (s.heap.objs.size+1) s.heap.objs.size (I.hok.fresh (le_succ _)) (I.hok.fresh (le_refl _)) (ne_of_lt (lt_succ_self _));have I2:=Inv.madeX (C:=C) (us:=us) I;have r2:zX (V.ref (s.heap.objs.size+1)::vs) (Value.ref (s.heap.objs.size+1)::us):=.cons rfl r;have hl2:(Value.ref (s.heap.objs.size+1)::us++[]).length=ps.length:=by
  have e:=r2.length;rw[F.len _ _ _ _ hq] at e;rw[append_nil];exact e.symm
 have hb2:=hb _ (Value.ref (s.heap.objs.size+1)::us) I2.kIn hl2;rw[append_nil] at hb2;refine wpAny_call (zfR I.kIn M (by rw[<- r.length];exact hl) (codeAny_mono (F.run _ X.stack _ _ ⟨Value.ref (s.heap.objs.size+1)::us,[]⟩ (Value.ref (s.heap.objs.size+1)::us) _ _ E (hr.make C us [])
  (I2.env0.make C us []) hb2 r2 hq) fun r s' hq'=>?_))
 cases r with
 | error e=>exact hx pins σ _ _ e s' I2 hq'
 | ok fl=>
  cases fl with
  | ret u=>
   obtain⟨v,H',I3,rv,ev,q3⟩:=I2.after hq';subst ev;exact⟨rv,⟨V.ref (s.heap.objs.size+1),H',I3,rfl,q3⟩⟩
  | next=>exact False.elim hq'
  | brk=>exact False.elim hq'
  | cont=>exact False.elim hq'
theorem wL(M:zdj X.K C f)(F:zA X.prog X.w X.K X.mg X.base CX k f fd ps sp)(hr:yj (k+1) X.A)(hg:Gl X x)(hm:X.mg x=some (.ref C))(hb:z8 X.K fd ps [])(hx:xm CX X E)
  (ha:PA X (e::es) t) (hdb:(x==("__debug__" : Str))=false:=by decide) (he:starEach (e::es) X.env=(false,eval e X.env)::starEach es X.env:=by rfl) (hpl:(backTo pos (starEach es X.env)).any (·.1)=false:=by rfl) :
  PE X (.Call (.Name x p) (e::es) [] pos) (zd7 C sp E t):=by
 exists ?_;intro pins s σ H Q I h;refine wpAny_Call_Name_kw (xW I hg hm ?_ hdb);refine callWith_K (h₀:=X.base) I.ok.mod.kin M.kp (thn (ha pos pins s σ H _ I h) fun us s1 ⟨vs,H1,I1,r,hl,q⟩=>⟨I1.kIn,?_⟩) he hpl;exact zdw M F hr hb hx I1 r hl q
def drop(H:Hp)(a:Addr):Hp:=fun b=>if b=a then none else H b
theorem zdT{H:Hp}{a:Addr}:drop H a a=none:=by unfold drop;rw[if_pos rfl]
theorem wA{H:Hp}{a b:Addr}(h:b≠a):drop H a b=H b:=by unfold drop;rw[if_neg h]
theorem vK{H:Hp}{a b:Addr}{u:HO}(h:drop H a b=some u):b≠a/\H b=some u:=by
 unfold drop at h;split at h
 ·cases h
 ·exact⟨‹_›,h⟩
theorem HOk.drop{P:Program}{w:World}{H:Hp}{h:Heap}{a:Addr}{φ : Heap->Prop}(x:HOk P w H h)(ha:H a=some (.ext φ)):HOk P w (drop H a) h:=fun b u e=>by
 obtain⟨hb,e⟩:=vK e;exact(x b u e).stay (fun _ _ _ q=>q) (fun c q=>by rw[wA (fun z=>by rw[z,ha] at q;cases q)];exact q) fun c xs q=>by rw[wA (fun z=>by rw[z,ha] at q;cases q)];exact q
end
section
variable {X:Cx}{pins:PnL}{σ:St}{H:Hp}{s:Shared}{ea C t:Addr}{od:Option Addr}{M:Model}{E:VSP}
end
section
variable {X:Cx}{E:XK}{pos:Pos}{e:Expr}{te:TE}
variable {P:Program}{w:World}{K:Frag}{mg:Str->Option Value}{base:Heap}{N:List Str}{qual:Str}{scope:Scope}{f:Addr}{cd:Value}{A:Around}{outer:List Env}{s:Shared}{H:Hp}{E':XK}
variable {x:Str}{C:Addr}{B Bn newId nid initId inN:String}{bm bmN:List Value}{np:Pos}{es:List Expr}{t:TA}
end
section
variable {X:Cx}{pins:PnL}{σ:St}{H:Hp}{s:Shared}{M:Model}{A:Around}{E:VSP}{i:Nat}{n:Str}{pos:Pos}
variable {ea:Addr}
variable {st b₀:Stmt}{suite:List Stmt}{c:Str}{np hpos:Pos}{C:Addr}{tb:XK->TS}{ts:TS}{ok:Value->Prop}
end
section
variable {X:Cx}{pins:PnL}{σ:St}{e:Expr}{es:List Expr}{t:TA}{E:XK}{x:Str}{p pos:Pos}{k:Nat}{f C:Addr}{fd:FuncData}{ps:List Str}{sp:Sp}{dvs:List V}{ds:List Value}
abbrev zcl(C:Addr)(od:Option Addr)(t:Addr)(tb:Value):Obj:={ cls:=.ref C,dict:=od,data:=.fields #[.ref t,tb,.none,.none,.bool false,.none] }
def TrS(h base:Heap)(e C:Addr)(od:Option Addr)(t:Addr):Prop:=∃(tb:Addr) (oT:Obj) (ts:Array Value),h.get? e=some (zcl C od t (.ref tb))/\base.get? tb=none/\tb≠e/\h.get? tb=some oT/\oT.data=.fields ts/\ts[3]?=some .none
end
section
variable {M:Model}{A:Around}{E:VSP}{s:Shared}{base:Heap}{env:Env}{outer:List Env}{L e C t:Addr}{od:Option Addr}{tb0 head:Value}{hn:Bool}{Q:Unit->Shared->Prop}
theorem zfU(fr:A.frames=some (env::outer))(fl:s.heap.FunFrames base (env::outer))(hfl:env.frame=some L)(he:s.heap.get? e=some (zcl C od t tb0))(hst:base.StaysIn s.heap)(hb:base.get? e=none)
  (q:∀h':Heap,base.StaysIn h'->h'.FunFrames base (env::outer)->TrS h' base e C od t->s.heap.UpToSlots h'->Q () { s with heap:=h' }) :
  wpAny M A (do
   let a <- frameOf env
   let pl <- entryPlaceOf L hn
   let b <- EntryCells.newEntry head a Value.none (rawInt L) Value.none pl
   setField (Value.ref e) 1 b) (fun _ s'=>wpAny M A (setFlight (Value.ref e) none) Q E s') E s:=by
 refine zwb (wpAny_frameOf_fun fr fl hfl fun h1 so=>?_);obtain⟨sz,oth,sl⟩:=so;refine zwb (wpAny_entryPlaceOf fun pl hpl=>?_);unfold EntryCells.newEntry newFields;have eS:e∉List.filterMap (fun x:Env=>x.frame) (env::outer):=fun z=>by
  obtain⟨_,o,ho,hd⟩:=fl.mem z;rw[he] at ho;cases ho;exact hd _ rfl
 have e1:h1.get? e=some (zcl C od t tb0):=(oth e eS).trans he;have lp:(if pl.isEmpty=true then List.replicate 6 Value.none else pl).length=6:=by
  rcases hpl with rfl|⟨a,b,c,d,c9,b10,_,rfl⟩ <;> rfl
 have sz11:([head,Value.ref L,Value.none,rawInt L,Value.none]++if pl.isEmpty=true then List.replicate 6 Value.none else pl).length=11:=by
  rw[length_append,lp];rfl
 have hL:A.frames=some (env::outer):=fr;generalize hcells:([head,Value.ref L,Value.none,rawInt L,Value.none]++if pl.isEmpty=true then List.replicate 6 Value.none else pl)=cells at sz11 |-
 have c3:cells[3]?=some (rawInt L):=by rw[<- hcells];rfl
 refine zwb (wpAny_newObj_type ?_ (by show sizeOk (Data.fields cells.toArray);unfold sizeOk;simp only[size_toArray,sz11];decide))
 dsimp only;have hlt:e<h1.objs.size:=Heap.lt_size e1;have ne:h1.objs.size≠e:=ne_of_gt hlt;refine wpAny_setField (zgp _ e1) rfl (by show 1<6;decide) ?_
 have x2:((h1.push { cls:=.type "traceback",data:=.fields cells.toArray }).update e (Obj.mapFields fun x=>x.setIfInBounds 1 (.ref h1.objs.size))).get? e=some (zcl C od t (.ref h1.objs.size)):=
  Heap.get?_update_self _ (zgp _ e1) rfl
 have x3:((h1.push { cls:=.type "traceback",data:=.fields cells.toArray }).update e (Obj.mapFields fun x=>x.setIfInBounds 1 (.ref h1.objs.size))).get? h1.objs.size=some { cls:=.type "traceback",data:=.fields cells.toArray }:=by
  rw[Heap.get?_update_ne _ _ _ _ ne];exact zgs h1 rfl
 have x4:∀b o,b≠e->h1.get? b=some o->((h1.push { cls:=.type "traceback",data:=.fields cells.toArray }).update e (Obj.mapFields fun x=>x.setIfInBounds 1 (.ref h1.objs.size))).get? b=some o:=fun b o hbe hbo=>by
  rw[Heap.get?_update_ne _ _ _ _ hbe];exact zgp _ hbo
 generalize (h1.push { cls:=.type "traceback",data:=.fields cells.toArray }).update e (Obj.mapFields fun x=>x.setIfInBounds 1 (.ref h1.objs.size))=h2 at x2 x3 x4 |-;unfold setFlight;refine zwb (wpAny_field (x:=.ref h1.objs.size) x2 rfl rfl ?_);rw[if_pos (show(Value.ref h1.objs.size != Value.none)=true from rfl)];refine wpAny_setField x3 rfl (by rw[size_toArray,sz11];decide) ?_
 show Q () { s with heap:=h2.update h1.objs.size (Obj.mapFields fun x=>x.setIfInBounds 3 Value.none) }
 have y1:∀b,b≠h1.objs.size->(h2.update h1.objs.size (Obj.mapFields fun x=>x.setIfInBounds 3 Value.none)).get? b=h2.get? b:=fun b hb'=>Heap.get?_update_ne _ _ _ _ hb';have y2:(h2.update h1.objs.size (Obj.mapFields fun x=>x.setIfInBounds 3 Value.none)).get? h1.objs.size=some { cls:=.type "traceback",data:=.fields (cells.toArray.setIfInBounds 3 .none) }:=Heap.get?_update_self _ x3 rfl;have kp:∀b o,s.heap.get? b=some o->(∀vs,o.data≠.fields vs)->∃sl,(h2.update h1.objs.size (Obj.mapFields fun x=>x.setIfInBounds 3 Value.none)).get? b=some { o with slots:=sl }:=fun b o hbo hd=>by
  obtain⟨sl',hs'⟩:=sl b o hbo;have n1:b≠h1.objs.size:=ne_of_lt (Heap.lt_size hs');have n2:b≠e:=fun z=>by rw[z,he] at hbo;cases hbo;exact hd _ rfl
  exact⟨sl',by rw[y1 b n1];exact x4 b _ n2 hs'⟩
 refine q _ (fun b o hbo=>?_) (fl.of_keeps fun b o hbo hd=>?_) ?_ kp
 ·have n0:b∉List.filterMap (fun x:Env=>x.frame) (env::outer):=fun z=>by
   rw[(fl.mem z).1] at hbo;cases hbo
  have hs':=(oth b n0).trans (hst b o hbo);have n1:b≠h1.objs.size:=ne_of_lt (Heap.lt_size hs');have n2:b≠e:=fun z=>by rw[z,hb] at hbo;cases hbo
  rw[y1 b n1];exact x4 b o n2 hs'
 ·obtain⟨sl',hs'⟩:=kp b o hbo hd
  exact⟨_,hs',rfl⟩
 ·exists h1.objs.size,_,_,(by rw[y1 e (Ne.symm ne)];exact x2),?_,ne,y2,rfl,?_
  ·cases z:base.get? h1.objs.size with
   | none=>rfl
   | some o=>
    have:=Heap.lt_size (hst _ o z)
    rw[<- sz] at this;exact absurd this (lt_irrefl _)
  ·rw[Array.getElem?_setIfInBounds_self_of_lt (by rw[size_toArray,sz11];decide)]
theorem zfv(fr:A.frames=some (env::outer))(fl:s.heap.FunFrames base (env::outer))(hfl:env.frame=some L)(hst:base.StaysIn s.heap)(hb:base.get? e=none)
  (he:s.heap.get? e=some (zcl C od t .none)\/TrS s.heap base e C od t)
  (q:∀h':Heap,base.StaysIn h'->h'.FunFrames base (env::outer)->TrS h' base e C od t->s.heap.UpToSlots h'->Q () { s with heap:=h' }) :
  wpAny M A (noteFrame (.ref e) env) (fun _ s'=>wpAny M A (setFlight (.ref e) none) Q E s') E s:=by
 unfold noteFrame;rw[hfl];dsimp only;rcases he with he|⟨tb,oT,ts,h1,h2,h3,h4,h5,h6⟩
 ·refine zwb (wpAny_field (x:=Value.none) he rfl rfl ?_)
  rw[if_neg (show ¬(Value.none != Value.none)=true by decide)]
  exact zfU fr fl hfl he hst hb q
 ·refine zwb (wpAny_field (x:=.ref tb) h1 rfl rfl ?_)
  rw[if_pos (show(Value.ref tb != Value.none)=true from rfl)];refine zwb (wpAny_field (x:=Value.none) h4 h5 h6 ?_);rw[if_neg (show ¬(Value.none==rawInt (L:Nat))=true from fun z=>by cases z)]
  have l3 : 3<ts.size:=by
   have:=(Array.getElem?_eq_some_iff.mp h6).1
   exact this
  refine zwb (wpAny_setField h4 h5 l3 ?_);have z1:∀b,b≠tb->(s.heap.update tb (Obj.mapFields fun x=>x.setIfInBounds 3 Value.none)).get? b=s.heap.get? b:=fun b hb'=>Heap.get?_update_ne _ _ _ _ hb';have up:s.heap.UpToSlots (s.heap.update tb (Obj.mapFields fun x=>x.setIfInBounds 3 Value.none)):=fun b o hbo hd=>by
   have n:b≠tb:=fun z=>by rw[z,h4] at hbo;cases hbo;exact hd _ h5
   exact⟨o.slots,by rw[z1 b n];exact hbo⟩
  refine zfU (s:={ s with heap:=s.heap.update tb (Obj.mapFields fun x=>x.setIfInBounds 3 Value.none) }) fr (fl.of_keeps fun b o hbo hd=>?_) hfl (tb0:=.ref tb) (by rw[z1 e (Ne.symm h3)];exact h1) (fun b o hbo=>?_) hb fun h' a1 a2 a3 a4=>q h' a1 a2 a3 (up.trans a4)
  ·obtain⟨sl,hs⟩:=up b o hbo hd
   exact⟨_,hs,rfl⟩
  ·have n:b≠tb:=fun z=>by rw[z,h2] at hbo;cases hbo
   show(s.heap.update tb (Obj.mapFields fun x=>x.setIfInBounds 3 Value.none)).get? b=some o;rw[z1 b n];exact hst b o hbo
def FlS(B:Heap)(l:List Env)(e C:Addr)(od:Option Addr)(t:Addr)(h:Heap):Prop:=B.StaysIn h/\B.get? e=none/\h.FunFrames B l/\TrS h B e C od t
structure j4(P:Program)(w:World)(outer:List Env)(H:Hp)(s:Shared)(C:Addr)(od:Option Addr)(t:Addr)(H':Hp)(ea:Addr)(s':Shared):Prop where
 os:s'.os=s.os
 bare:AllBare s'.gens
 un:Un (frs outer) [] H H' s.heap s'.heap
 hok:HOk P w H' s'.heap
 nt:H' ea=none
 fly:∃B,FlS B outer ea C od t s'.heap/\(∀b u,H' b=some u->∃o,B.get? b=some o)/\(∀b o,s.heap.get? b=some o->H b=none->b∉frs outer->B.get? b=some o)/\
  ∀b o,s.heap.get? b=some o->b∉frs outer->∃o',B.get? b=some o'
abbrev CXs(P:Program)(w:World):CXT:=fun outer H s E e s'=>∃ea C od t H',e=.ref ea/\j4 P w outer H s C od t H' ea s'/\E (.ref C) od H'
variable {X:Cx}{pins:PnL}{σ:St}{H H':Hp}{s':Shared}{ea:Addr}
theorem zdS(I:Inv X pins σ H s)(hstk:X.stack=X.env::X.outer)(hfl:X.env.frame=some X.env.locals)(hex:X.ex=[])(hx:H ea=some (ud ea C od t))(hnew:X.H₀ ea=none):
  wpAny M X.A (leaving X.env (.ref ea)) (fun _ s''=>j4 X.prog X.w X.outer X.H₀ X.s₀ C od t (drop H ea) ea s'') E s:=by
 have fr:=qI hstk hfl;have he:=zaz I hx;have fl:s.heap.FunFrames (hideAll s.heap (ea::frs X.stack)) (X.env::X.outer):=by
  have:=I.stack
  rw[hstk] at this;refine PySem.W.funFrames_hide this fun env he b hb=>?_;rw[hstk];exact mem_cons_of_mem _ (List.mem_filterMap.mpr ⟨env,he,hb⟩)
 have fr0:=I.ok.frames;rw[hstk] at fr0;have neL:∀b o,X.s₀.heap.get? b=some o->b≠X.env.locals:=fun b o e=>ne_of_lt (lt_of_lt_of_le (Heap.lt_size e) I.ok.above);have noEx:∀b:Addr,b∉X.ex:=fun b=>by rw[hex];simp
 have inB:∀b o,s.heap.get? b=some o->b≠ea->b∉frs X.stack->(hideAll s.heap (ea::frs X.stack)).get? b=some o:=fun b o e n1 n=>PySem.W.hideAll_get _ e (fun z=>(List.mem_cons.mp z).elim n1 n);have trB:∀b u,H b=some u->b∉frs X.stack:=fun b u e n=>by rw[I.stkFree b n] at e;cases e
 have eaS:∀u,X.s₀.heap.get? ea=some u->False:=fun u e=>by
  have:=I.base.free ea u e hnew (noEx ea)
  rw[hx] at this;cases this
 unfold leaving;refine zwb (zfv fr0 fl hfl (fun b o q=>PySem.W.of_hideAll _ q) (hideAll_none _ mem_cons_self) (.inl he) fun h2 x1 x2 x3 x4=>?_);have stay:∀b o,s.heap.get? b=some o->b≠ea->b∉frs X.stack->h2.get? b=some o:=fun b o e n1 n=>x1 b o (inB b o e n1 n);have x2':h2.FunFrames (hideAll s.heap (ea::frs X.stack)) X.outer:=by
  unfold Heap.FunFrames at x2;exact x2.2.2
 have nEa:∀b o,X.s₀.heap.get? b=some o->b≠ea:=fun b o e z=>by subst z;exact eaS o e
 exists I.os,I.bare,⟨fun b o e n hb _=>?_,fun b o e n hb _=>?_,fun b o e n _=>?_,fun b o e _=>?_,fun b xs e=>?_,fun b u v e=>?_,fun b ps e=>?_⟩,?_,zdT,?_
 ·refine stay b o (I.base.keep b o e n hb (noEx b)) (nEa b o e) ?_
  rw[fr];exact fun z=>(List.mem_cons.mp z).elim (neL b o e) hb
 ·obtain⟨sl,e1⟩:=I.base.slot b o e n hb (noEx b)
  obtain⟨_,o',ho',hd⟩:=I.funs.mem hb;rw[e1] at ho';cases ho';obtain⟨sl2,e2⟩:=x4 b _ e1 hd;exact⟨sl2,e2⟩
 ·rw[wA (nEa b o e)]
  exact I.base.free b o e n (noEx b)
 ·obtain⟨o1,e1⟩:=I.base.there b o e (noEx b)
  by_cases hb:b∈frs X.stack
  ·obtain⟨_,o',ho',hd⟩:=I.stack.mem hb
   obtain⟨sl2,e2⟩:=x4 b o' ho' hd;exact⟨_,e2⟩
  ·exact⟨o1,stay b o1 e1 (nEa b o e) hb⟩
 ·have e1:=I.base.tups b xs e
  rw[wA (fun z=>by rw[z,hx] at e1;cases e1)];exact e1
 ·have e1:=I.base.frzs b u v e
  rw[wA (fun z=>by rw[z,hx] at e1;cases e1)];exact e1
 ·obtain⟨more,e1⟩:=I.base.tbls b ps e
  exact⟨more,by rw[wA (fun z=>by rw[z,hx] at e1;cases e1)];exact e1⟩
 ·exact(I.hok.drop hx).sameAt fun b u o e q=>stay b o q (vK e).1 (trB b u (vK e).2)
 ·exists _,⟨x1,hideAll_none _ mem_cons_self,x2',x3⟩,fun b u e=>?_,fun b o e n hb=>?_,fun b o e hb=>?_
  ·obtain⟨n1,e⟩:=vK e
   obtain⟨o,q⟩:=I.hok.rec e;exact⟨o,inB b o q n1 (trB b u e)⟩
  ·refine inB b o (I.base.keep b o e n hb (noEx b)) (nEa b o e) ?_
   rw[fr];exact fun z=>(List.mem_cons.mp z).elim (neL b o e) hb
  ·obtain⟨o1,e1⟩:=I.base.there b o e (noEx b)
   exists o1,inB b o1 e1 (nEa b o e) ?_;rw[fr];exact fun z=>(List.mem_cons.mp z).elim (neL b o e) hb
theorem zhm(I:Inv X pins σ H s)(hstk:X.stack=X.env::X.outer)(hfl:X.env.frame=some X.env.locals)(hex:X.ex=[])(F:j4 X.prog X.w X.stack H s C od t H' ea s'):
  wpAny M X.A (leaving X.env (.ref ea)) (fun _ s''=>j4 X.prog X.w X.outer X.H₀ X.s₀ C od t H' ea s'') E s':=by
 have fr:=qI hstk hfl;have fr0:=I.ok.frames;rw[hstk] at fr0;obtain⟨B,fl,tr,old,olds⟩:=F.fly;have neL:∀b o,X.s₀.heap.get? b=some o->b≠X.env.locals:=fun b o e=>ne_of_lt (lt_of_lt_of_le (Heap.lt_size e) I.ok.above);have noEx:∀b:Addr,b∉X.ex:=fun b=>by rw[hex];simp
 have nst:∀b o,X.s₀.heap.get? b=some o->b∉frs X.outer->b∉frs X.stack:=fun b o e hb=>by
  rw[fr];exact fun z=>(List.mem_cons.mp z).elim (neL b o e) hb
 have fl':=fl;rw[hstk] at fl';unfold leaving;refine zwb (zfv fr0 fl'.2.2.1 hfl fl'.1 fl'.2.1 (.inr fl'.2.2.2) fun h2 y1 y2 y3 x2=>?_);have x1:FlS B X.outer ea C od t h2:=⟨y1,fl'.2.1,(by unfold Heap.FunFrames at y2;exact y2.2.2),y3⟩
 have oldB:∀b o,X.s₀.heap.get? b=some o->X.H₀ b=none->b∉frs X.outer->B.get? b=some o:=fun b o e n hb=>
  old b o (I.base.keep b o e n hb (noEx b)) (I.base.free b o e n (noEx b)) (nst b o e hb)
 exists F.os.trans I.os,F.bare,⟨fun b o e n hb _=>x1.1 b o (oldB b o e n hb),fun b o e n hb _=>?_,fun b o e n _=>?_,fun b o e _=>?_,fun b xs e=>F.un.tups b xs (I.base.tups b xs e),fun b o u e=>F.un.frzs b o u (I.base.frzs b o u e),fun b ps e=>?_⟩,F.hok.sameAt fun b u o e q=>?_,F.nt,⟨B,x1,tr,oldB,fun b o e hb=>?_⟩
 ·obtain⟨sl,e1⟩:=I.base.slot b o e n hb (noEx b)
  obtain⟨sl1,e2⟩:=F.un.any e1 (I.base.free b o e n (noEx b)) (by simp)
  have hd:∀vs,o.data≠.fields vs:=by
   obtain⟨_,o',ho',hd⟩:=I.funs.mem hb;rw[e1] at ho';cases ho';exact hd
  obtain⟨sl2,e3⟩:=x2 b _ e2 hd;exact⟨sl2,e3⟩
 ·obtain⟨o',e1⟩:=I.base.there b o e (noEx b)
  exact F.un.free b o' e1 (I.base.free b o e n (noEx b)) (by simp)
 ·obtain⟨o1,e1⟩:=I.base.there b o e (noEx b)
  obtain⟨o2,e2⟩:=F.un.there b o1 e1 (by simp)
  by_cases hb:b∈frs X.stack
  ·obtain⟨_,o',ho',hd⟩:=fl.2.2.1.mem hb
   obtain⟨sl2,e3⟩:=x2 b o' ho' hd;exact⟨_,e3⟩
  ·obtain⟨o3,e3⟩:=olds b o1 e1 hb
   exact⟨o3,x1.1 b o3 e3⟩
 ·obtain⟨m1,e1⟩:=I.base.tbls b ps e
  obtain⟨m2,e2⟩:=F.un.tbls b _ e1;exact⟨m1++m2,by rw[e2,Array.append_assoc]⟩
 ·obtain⟨o3,e3⟩:=tr b u e
  have e4:=fl.1 b o3 e3;rw[q] at e4;cases e4;exact x1.1 b o e3
 ·obtain⟨o1,e1⟩:=I.base.there b o e (noEx b)
  exact olds b o1 e1 (nst b o e hb)
abbrev j9(ea C:Addr)(od:Option Addr)(t:Addr):HO:=.ext fun h=>∃tb,h.get? ea=some (zcl C od t tb)
theorem zhp{P:Program}{w:World}{H:Hp}{h:Heap}{ea C t:Addr}{od:Option Addr}{tb:Value}(e:h.get? ea=some (zcl C od t tb)):yu P w H h ea (j9 ea C od t):=
 ⟨⟨tb,e⟩,⟨_,e⟩,fun g1 g2 ⟨tb',q⟩ k=>⟨tb',k _ q⟩⟩
variable {h5:Heap}
theorem j4.move{P:Program}{w:World}{l:List Env}{B:Heap}(F:j4 P w l H s C od t H' ea s')(fl:FlS B l ea C od t s'.heap)(tr:∀b u,H' b=some u->∃o,B.get? b=some o)
  (old:∀b o,s.heap.get? b=some o->H b=none->b∉frs l->B.get? b=some o) (olds:∀b o,s.heap.get? b=some o->b∉frs l->∃o',B.get? b=some o')
  (fl5:FlS B l ea C od t h5) (up:s'.heap.UpToSlots h5):j4 P w l H s C od t H' ea { s' with heap:=h5 }:=by
 exists F.os,F.bare,⟨fun b o e n hb _=>fl5.1 b o (old b o e n hb),fun b o e n hb _=>?_,F.un.free,fun b o e _=>?_,F.un.tups,F.un.frzs,F.un.tbls⟩,F.hok.sameAt fun b u o e q=>?_,F.nt,⟨B,fl5,tr,old,olds⟩
 ·obtain⟨sl,e1⟩:=F.un.slot b o e n hb (by simp)
  obtain⟨_,o',ho',hd⟩:=fl.2.2.1.mem hb;rw[e1] at ho';cases ho';obtain⟨sl2,e2⟩:=up b _ e1 hd;exact⟨sl2,e2⟩
 ·by_cases hb:b∈frs l
  ·obtain⟨_,o',ho',hd⟩:=fl5.2.2.1.mem hb
   exact⟨o',ho'⟩
  ·obtain⟨o3,e3⟩:=olds b o e hb
   exact⟨o3,fl5.1 b o3 e3⟩
 ·obtain⟨o3,e3⟩:=tr b u e
  have e4:=fl.1 b o3 e3;rw[q] at e4;cases e4;exact fl5.1 b o e3
theorem zhR{B:Heap}{l:List Env}{Q:Unit->Shared->Prop}(fl:FlS B l ea C od t s.heap)(q:∀h':Heap,FlS B l ea C od t h'->s.heap.UpToSlots h'->Q () { s with heap:=h' }):wpAny M A (setFlight (.ref ea) none) Q E s:=by
 obtain⟨f1,f2,f3,tb,oT,ts,h1,h2,h3,h4,h5,h6⟩:=fl;unfold setFlight;refine zwb (wpAny_field (x:=.ref tb) h1 rfl rfl ?_);rw[if_pos (show(Value.ref tb != Value.none)=true from rfl)];have l3 : 3<ts.size:=(Array.getElem?_eq_some_iff.mp h6).1;refine wpAny_setField h4 h5 l3 ?_;show Q () { s with heap:=s.heap.update tb (Obj.mapFields fun x=>x.setIfInBounds 3 Value.none) }
 have z1:∀b,b≠tb->(s.heap.update tb (Obj.mapFields fun x=>x.setIfInBounds 3 Value.none)).get? b=s.heap.get? b:=fun b hb'=>Heap.get?_update_ne _ _ _ _ hb';have up:s.heap.UpToSlots (s.heap.update tb (Obj.mapFields fun x=>x.setIfInBounds 3 Value.none)):=fun b o hbo hd=>by
  have n:b≠tb:=fun z=>by rw[z,h4] at hbo;cases hbo;exact hd _ h5
  exact⟨o.slots,by rw[z1 b n];exact hbo⟩
 obtain⟨oc,odd,da,osl⟩:=oT;have h5':da=.fields ts:=h5;subst h5';have z2:(s.heap.update tb (Obj.mapFields fun x=>x.setIfInBounds 3 Value.none)).get? tb=some ⟨oc,odd,.fields (ts.setIfInBounds 3 .none),osl⟩:=Heap.get?_update_self _ h4 rfl;refine q _ ⟨fun b o hbo=>?_,f2,f3.of_keeps fun b o hbo hd=>?_,tb,_,_,(by rw[z1 ea (Ne.symm h3)];exact h1),h2,h3,z2,rfl,?_⟩ up
 ·have n:b≠tb:=fun z=>by rw[z,h2] at hbo;cases hbo
  rw[z1 b n];exact f1 b o hbo
 ·obtain⟨sl,hs⟩:=up b o hbo hd
  exact⟨_,hs,rfl⟩
 ·rw[Array.getElem?_setIfInBounds_self_of_lt l3]
theorem j4.track{B:Heap}(I:Inv X pins σ H s)(F:j4 X.prog X.w X.stack H s C od t H' ea s')(fl:FlS B X.stack ea C od t s'.heap)(old:∀b o,s.heap.get? b=some o->H b=none->b∉frs X.stack->B.get? b=some o):
  Inv X pins σ (upd H' ea (j9 ea C od t)) s':=by
 have I1:Inv X pins σ H' s':=I.call' F.os F.un F.hok F.bare fun b z=>nomatch z;obtain⟨tb,oT,ts,he,_⟩:=fl.2.2.2;have nfr:ea∉frs X.stack:=fun z=>by
  obtain⟨_,o',ho',hd'⟩:=fl.2.2.1.mem z;rw[he] at ho';cases ho';exact hd' _ rfl
 have nold:∀b o,s.heap.get? b=some o->H b=none->b≠ea:=fun b o e n z=>by
  subst z
  have:=old b o e n nfr
  rw[fl.2.1] at this;cases this
 refine I1.track F.nt (zhp he) (fun u e n hx=>?_) (fun z=>?_) (fun x c e z=>?_) fun p hp=>?_
 ·by_cases hb:ea∈X.fs
  ·obtain⟨_,o',ho',hd'⟩:=I1.funs.mem hb
   rw[he] at ho';cases ho';exact hd' _ rfl
  ·exact nold ea u (I.base.keep ea u e n hb hx) (I.base.free ea u e n hx) rfl
 ·obtain⟨m,⟨oL,es,ep,hoL,hdL,_⟩,_⟩:=I1.loc
  rw[z,he] at hoL;cases hoL;cases hdL
 ·obtain⟨v,oc,hoc,hdc⟩:=I1.cell x c e
  rw[z,he] at hoc;cases hoc;cases hdc
 ·obtain⟨q1,q2,_⟩:=I.pin p hp
  exact nold p.1 p.2 q1 q2
def zdl(X:Cx)(E:XK):Prop:=∀(pins:PnL) (σ : St) (H:Hp) (s:Shared) (ea C:Addr) (od:Option Addr) (t:Addr),Inv X pins σ H s->H ea=some (ud ea C od t)->X.H₀ ea=none->E (.ref C) od (drop H ea)->X.xe (.ref ea) s
inductive zcyJ(K:Frag)(H0:Hp)(E:XK)(x:V)(H1:Hp):Prop|mk(ea C:Addr)(od:Option Addr)(t:Addr):x=.ref ea->H1 ea=some (ud ea C od t)->xU K C->zf5 K C=true->H0 ea=none->(E (.ref C) od (drop H1 ea))->zcyJ K H0 E x H1
def zcy(K:Frag)(H0:Hp)(E:XK)(te:TE):TS:=fun _ σ H=>te σ H fun x H1=>zcyJ K H0 E x H1
end
section
variable {X:Cx}{E:XK}{pos:Pos}{e:Expr}{te:TE}
theorem xZ(hX:zdl X E)(hc:X.calm=true)(he:PE X e te):PS X (.Raise (some e) none pos) (zcy X.K X.H₀ E te):=by
 exists ?_;intro pins s σ H D I h;rw[arm_exec_Raise];refine zwb (wpAny_standAt ?_);unfold raiseStmt;show wpAny _ _ (do
  let xv <- (do
   let v <- eval e X.env
   standAt pos
   pure v)
  _) _ _ _
 refine zwb (zwb (thn (he pins s σ H _ I h) fun u s1 ⟨x,H1,I1,rx,ea,C,od,t,ex,hx,c,m,hn,q⟩=>?_));subst ex;obtain rfl:u=Value.ref ea:=rx;refine zwb (wpAny_standAt (zwp ?_));have ho:=zaz I1 hx;have XO:=zcu I1.kIn m;obtain⟨nm,q',N,bs,bm,sn,sub,ab,col,dd,k0,k1,k2,k3,k5,hC,b1,b2,b3,b4⟩:=XO.ob;have hq:X.xe (.ref ea) s1:=hX pins σ H1 s1 ea C od t I1 hx hn q;have LT:Looks (model X.prog X.w) s1.heap (typeOf (.ref ea)) (.ref C):=(PySem.W.Looks.ld ho).andThen .now;have LTC:Looks (model X.prog X.w) s1.heap (typeOf (.ref C)) (.type "type"):=(PySem.W.Looks.ld hC).andThen .now;have LB:=PySem.W.looks_mroIn (M:=model X.prog X.w) I1.kIn c.be;have LIs:Looks (model X.prog X.w) s1.heap (isType (.ref ea)) false:=(PySem.W.Looks.ld ho).andThen .now;have hcalm:=I1.ok.hd hc;obtain⟨hh,g,d,tk,os⟩:=s1;dsimp only;refine zwb (zwp (zwb (wpAny_holding ?_)));unfold excFromValue isExcClass;refine zwb (zwb (LIs.at ?_));rw[if_neg zft];refine zwp ?_;rw[if_neg zft];unfold isInstance;refine zwb (zwb (LT.at (LB.at ?_)));rw[if_pos rfl];refine zwp ?_;dsimp only;refine zwb (LIs.at ?_);rw[if_neg zft];unfold raisedInstance;refine zwb (zwb (LT.at (zwb (LTC.at ?_))));rw[if_pos (by decide)]
 refine zwp (zwb ?_);unfold setFlight;refine zwb (wpAny_field (x:=Value.none) ho rfl rfl ?_);rw[if_neg (show ¬(Value.none != Value.none)=true by decide)]
 refine zwp ?_;unfold raiseNew;refine zwb (wpAny_handled_none hcalm ?_);exact wpAny_throw hq
variable {P:Program}{w:World}{K:Frag}{mg:Str->Option Value}{base:Heap}{N:List Str}{qual:Str}{scope:Scope}{f:Addr}{cd:Value}{A:Around}{outer:List Env}{s:Shared}{H:Hp}{E':XK}
theorem xD:zdl (qa (CXs P w) P w K mg base N qual scope f cd A outer s H E) E:=fun pins σ H1 s1 ea C od t I hx hn q=>by
 refine wpAny_mono (zdS I rfl rfl rfl hx hn) (fun _ s2 F=>?_) fun _ _ z=>z;exact⟨ea,_,_,_,_,rfl,F,q⟩
theorem ze4(hE:∀c d H,E' c d H->E c d H):xm (CXs P w) (qa (CXs P w) P w K mg base N qual scope f cd A outer s H E) E':=fun pins σ H1 s1 e s' I q=>by
 obtain⟨ea,C,od,t,H',rfl,F,q⟩:=q;refine wpAny_mono (zhm I rfl rfl rfl F) (fun _ s2 F2=>?_) fun _ _ z=>z;exact⟨ea,C,od,t,H',rfl,F2,hE _ _ _ q⟩
theorem Fun.okS{x:Str}{st:Stmt}{fd:FuncData}{ps:List Str}{k:Nat}{sp:Sp}(F:Fun K x qual st f fd)(S:zu N ps (zj st))(len:∀vs H Q E,sp vs H Q E->vs.length=ps.length)
  (hbody:∀(cdv:Value) (A:Around) (outer:List Env) (s:Shared) (H:Hp) (vs:List V) (Q:VK) (E:XK),yj k (A.deeper (envOfC qual (zj st) s.heap.objs.size f cdv))->sp vs H Q E->
   ∃t,PSs (qa (CXs P w) P w K mg base N qual (zj st) f cdv A outer s H E) (yc st) t/\t { nx:=fun _ H'=>Q .non H',rt:=Q } (vR N vs) H):zA P w K mg base (CXs P w) (k+1) f fd ps sp:=by
 obtain⟨oc,od,kV,doc,pm,an,cdv,ct,osl,rfl,lk,hcd⟩:=F.ex;exact zfQ lk hcd S len fun A outer s H vs Q E hr hsp=>hbody cdv A outer s H vs Q E hr hsp
structure uC(P:Program)(w:World)(K:Frag)(mg:Str->Option Value)(base:Heap)(k:Nat)(x:Str)(f:Addr)(fd:FuncData)(ps:List Str)(sp:Sp):Prop where
 ok:zA P w K mg base (CXs P w) k f fd ps sp
 mg:mg x=some (.ref f)
 kp:keepIn K (.ref f)=true
 bd:z8 K fd ps []
variable {k:Nat}{fd:FuncData}{ps:List Str}{sp:Sp}{x:Str}{p:Pos}{es:List Expr}{t:TA}
theorem cS(c:uC X.prog X.w X.K X.mg X.base k x f fd ps sp)(hp:xm (CXs X.prog X.w) X E)(hr:yj k X.A)(ha:PA X (e::es) t)(hg:Gl X x:=by rfl)(hdb:(x==("__debug__" : Str))=false:=by decide)
  (h1:vO e=false:=by rfl) (h2:es.any vO=false:=by rfl):PE X (.Call (.Name x p) (e::es) [] pos) (zcA sp [] E t):=
 zcU c.ok hr hg c.mg c.kp c.bd .nil hp ha hdb (xf h1) (x8 h2)
abbrev HK:=Addr->Option Addr->Addr->Addr->w4->St->Hp->Prop
structure PH(X:Cx)(hs:List ExceptHandler)(th:HK):Prop where
 run:∀(pins:PnL) (σ : St) (H1:Hp) (s1:Shared) (H':Hp) (ea C:Addr) (od:Option Addr) (t:Addr) (s5:Shared) (D:w4),Inv X pins σ H1 s1->j4 X.prog X.w X.stack H1 s1 C od t H' ea s5->th C od t ea D σ H'->wpAny (model X.prog X.w) X.A (handleBy (.ref ea) X.env hs) (SP X pins D) X.xe s5
def hNo(K:Frag)(C':Addr)(ts:TS)(xk:HK):HK:=fun C od t ea D σ H'=>
 (exmOne K (.ref C) (.ref C')=some true/\ts D σ (upd H' ea (j9 ea C od t)))\/(exmOne K (.ref C) (.ref C')=some false/\xk C od t ea D σ H')
variable {hs:List ExceptHandler}{th:HK}{c n:Str}{C':Addr}{i:Nat}{ts:TS}{b₀:Stmt}{suite:List Stmt}{np hpos:Pos}
theorem zeZ:PH X [] (fun _ _ _ _ _ _ _=>False):=⟨fun _ _ _ _ _ _ _ _ _ _ _ _ _ h=>h.elim⟩
theorem zjP(hg:Gl X c)(hm:X.mg c=some (.ref C'))(hs':∀ea,PSs (X.suite ea) (b₀::suite) ts)(hr:PH X hs th)
  (hd:(c==("__debug__" : Str))=false:=by decide):PH X (.ExceptHandler (some (.Name c np)) none (b₀::suite) hpos::hs) (hNo X.K C' ts th):=by
 exists fun pins σ H1 s1 H' ea C od t s5 D I1 F5 h=>?_;obtain⟨B,fl,tr,old,olds⟩:=F5.fly;have I5:Inv X pins σ H' s5:=I1.call' F5.os F5.un F5.hok F5.bare fun b z=>nomatch z;have LT:Looks (model X.prog X.w) s5.heap (typeOf (.ref ea)) (.ref C):=by
  obtain⟨tb,oT,ts',he,_⟩:=fl.2.2.2;exact(PySem.W.Looks.ld he).andThen .now
 refine wpAny_handleBy_cons (codeAny_handlers_test (xW (I5.suite ea) hg hm ?_ hd)) (by intro z;cases z)
 rcases h with ⟨hx,h⟩|⟨hx,h⟩
 ·refine(exm_one (M:=model X.prog X.w) (h:=s5.heap) I5.kIn LT hx) _ _ _ _ (fun _ _ z=>z) ?_
  refine codeAny_handlers_suite (zhR fl fun h6 fl6 up6=>?_);have F6:=F5.move fl tr old olds fl6 up6;have I6:=F6.track I1 fl6 old;refine wpAny_mono ((hs' ea) pins _ _ _ D (I6.suite ea) h) (fun f s8 h8=>?_) fun _ _ z=>z.elim;show SP X pins D f s8;cases f with
  | next=>
   obtain⟨σ',H2,I8,q8⟩:=h8;exact⟨_,H2,yL I1.ok I8,q8⟩
  | brk=>
   obtain⟨σ',H2,I8,q8⟩:=h8;exact⟨_,H2,yL I1.ok I8,q8⟩
  | cont=>
   obtain⟨σ',H2,I8,q8⟩:=h8;exact⟨_,H2,yL I1.ok I8,q8⟩
  | ret u=>
   obtain⟨v,σ',H2,I8,rv,q8⟩:=h8;exact⟨v,_,H2,yL I1.ok I8,rv,q8⟩
 ·refine(exm_one (M:=model X.prog X.w) (h:=s5.heap) I5.kIn LT hx) _ _ _ _ (fun _ _ z=>z) ?_
  exact hr.run pins σ H1 s1 H' ea C od t s5 D I1 F5 h
def jk(X:Cx)(pins:PnL)(σ : St)(E:XK):Prop:=∀(H:Hp) (s:Shared) (e:Value) (s':Shared),Inv X pins σ H s->CXs X.prog X.w X.stack H s E e s'->X.xe e s'
def zjm(tb:XK->TS)(th:HK):TS:=fun D σ H=>tb (fun cls od H'=>∃C,cls=.ref C/\∀t ea,H' ea=none->th C od t ea D σ H') D σ H
variable {st:Stmt}{h₀:ExceptHandler}{tb:XK->TS}
theorem zcO(hstk:X.stack=X.env::X.outer)(hfl:X.env.frame=some X.env.locals)(hh:PH X (h₀::hs) th)
  (hb:∀(pins:PnL) (σ : St) (xe:VSP) (E:XK),jk (X.wish xe) pins σ E->PS1 (X.wish xe) pins σ st (tb E)):PS X (.Try [st] (h₀::hs) [] [] pos) (zjm tb th):=by
 exists ?_;intro pins s σ H D I h;have fr0:=I.ok.frames;rw[hstk] at fr0;refine wpAny_Try_except ?_;have key:jk (X.wish (zjl X pins D (h₀::hs))) pins σ (fun cls od H'=>∃C,cls=.ref C/\∀t ea,H' ea=none->th C od t ea D σ H'):=by
  intro H1 s1 e s2 I1 q;obtain⟨ea,C,od,t,H',rfl,F,C0,e0,q⟩:=q;cases e0;have I1:=I1.unwish;have F:j4 X.prog X.w X.stack H1 s1 C od t H' ea s2:=F;obtain⟨B,fl,tr,old,olds⟩:=F.fly;have fl':=fl;rw[hstk] at fl';refine zfv fr0 fl'.2.2.1 hfl fl'.1 fl'.2.1 (.inr fl'.2.2.2) fun h5 y1 y2 y3 y4=>?_;have fl5:FlS B X.stack ea C od t h5:=by rw[hstk];exact⟨y1,fl'.2.1,y2,y3⟩
  have F5:=F.move fl tr old olds fl5 y4;exact hh.run pins σ H1 s1 H' ea C od t _ D I1 F5 (q t ea F.nt)
 have run:=(hb pins σ _ _ key).run s H D (I.wish _) h;refine wpAny_execs_cons (thn run fun f s1 q=>?_)
 ·cases f with
  | next=>exact wpAny_execs_nil (wpAny_execs_nil (SP.unwish (f:=.next) q))
  | ret v=>exact SP.unwish (f:=.ret v) q
  | brk=>exact SP.unwish (f:=.brk) q
  | cont=>exact SP.unwish (f:=.cont) q
variable {pins:PnL}{σ:St}{m:Str}{apos:Pos}{C:Addr}{dvs:List V}{ds:List Value}
theorem zgE(M:Mk X.K C f)(F:zA X.prog X.w X.K X.mg X.base (CXs X.prog X.w) k f fd ps sp)(hr:yj (k+1) X.A)(hg:Gl X x)(hm:X.mg x=some (.ref C))(hb:z8 X.K fd ps ds)(hd:zX dvs ds)(hp:jk X pins σ E)
  (ha:PA X (e::es) t) (hdb:(x==("__debug__" : Str))=false:=by decide) (he:starEach (e::es) X.env=(false,eval e X.env)::starEach es X.env:=by rfl) (hpl:(backTo pos (starEach es X.env)).any (·.1)=false:=by rfl) :
  PE1 X pins σ (.Call (.Name x p) (e::es) [] pos) (zd8 C sp dvs E t):=by
 exists fun s H Q I h=>?_;refine wpAny_Call_Name_kw (xW I hg hm ?_ hdb);refine callWith_K (h₀:=X.base) I.ok.mod.kin M.kp (thn (ha pos pins s σ H _ I h) fun us s1 ⟨vs,H1,I1,r,q⟩=>⟨I1.kIn,?_⟩) he hpl;have hq:=q (s1.heap.objs.size+1) s1.heap.objs.size (I1.hok.fresh (le_succ _)) (I1.hok.fresh (le_refl _)) (ne_of_lt (lt_succ_self _));have I2:=Inv.made (C:=C) I1;have r2:zX (V.ref (s1.heap.objs.size+1)::(vs++dvs)) (Value.ref (s1.heap.objs.size+1)::(us++ds)):=.cons rfl (r.append hd);have hl:(Value.ref (s1.heap.objs.size+1)::us++ds).length=ps.length:=by
  have e:=r2.length;rw[F.len _ _ _ _ hq] at e;exact e.symm
 refine wpAny_call (za8 (f:=f) I1.kIn M.makes M.init (beq_iff_eq.mp M.fn) (codeAny_mono (F.run _ X.stack _ _ ⟨Value.ref (s1.heap.objs.size+1)::us,[]⟩ (Value.ref (s1.heap.objs.size+1)::(us++ds)) _ _ E (hr.make C us [])
  (I2.env0.make C us []) (hb _ (Value.ref (s1.heap.objs.size+1)::us) I2.kIn hl) r2 hq) fun r s' hq'=>?_))
 cases r with
 | error e=>exact hp _ _ e s' I2 hq'
 | ok fl=>
  cases fl with
  | ret u=>
   obtain⟨v,H',I3,rv,ev,q3⟩:=I2.after hq';subst ev;exact⟨rv,⟨V.ref (s1.heap.objs.size+1),H',I3,rfl,q3⟩⟩
  | next=>exact False.elim hq'
  | brk=>exact False.elim hq'
  | cont=>exact False.elim hq'
end
section
variable {X:Cx}{pins:PnL}{σ:St}{H:Hp}{s:Shared}{x C t:Addr}{f:Str}{A:Around}{E:VSP}
theorem zhj{b:Bool}{dx:Addr}{fs:List (Str×V)}{v:V}{Q:VSP}(I:Inv X pins σ H s)(e:H x=some (j9 x C (some dx) t))(ed:H dx=some (.xd fs))(c:xU X.K C)(m:j3 X.K C)(n:yt X.K C f)(l:fs.lookup f=some v)
  (h:∀u s',Inv X pins σ H s'->ya v u->Q u s'):wpAny (model X.prog X.w) A (getAttr (.ref x) f b) Q E s:=by
 obtain⟨tb,hx⟩:=(I.hok x _ e).1;obtain⟨mA,ns,r⟩:=I.hok dx _ ed;obtain⟨u,hu,ru⟩:=xY (v:=v) (o:=mA f) (by rw[<- l];exact r f)
 exact zhi c m I.kIn n hx rfl rfl rfl ns hu (qG ru) (h u _ (I.tok _) ru)
inductive zhCJ(K:Frag)(f:Str)(Q:VK)(x:V)(H1:Hp):Prop|mk(a C t dx:Addr)(fs:List (Str×V))(v:V):x=.ref a->H1 a=some (j9 a C (some dx) t)->H1 dx=some (.xd fs)->xU K C->j3 K C->yt K C f->fs.lookup f=some v->(Q v H1)->zhCJ K f Q x H1
def zhC(K:Frag)(ta:TE)(f:Str):TE:=fun σ H Q=>ta σ H fun x H1=>zhCJ K f Q x H1
variable {e:Expr}{pos:Pos}{ta:TE}
theorem zgA(he:PE X e ta)(hb:attributeBase e f X.env (eval e X.env)=eval e X.env):PE X (.Attribute e f pos) (zhC X.K ta f):=by
 exists ?_;intro pins s σ H Q I h;refine zdi hb (thn (he pins s σ H _ I h) fun u s1 ⟨x,H1,I1,rx,a,C,t,dx,fs,v,ex,ea,ed,c,m,n,l,q⟩=>?_);subst ex;obtain rfl:u=Value.ref a:=rx;exact zhj I1 ea ed c m n l fun u' s2 I2 ru=>⟨v,H1,I2,ru,q⟩
end
end L2
namespace L2
open PySem PySem.Spec PyProof.Rows PySem.Builtin
section
variable {prog:Program}{w:World}{A:Around}{E:VSP}{s:Shared}{it ea C t:Addr}{od:Option Addr}{tb:Value}{x left step:Int}{Q:Option Value->Shared->Prop}
end
end L2
namespace L2
open PySem PySem.Spec PyProof.Rows
structure zkj(ea:Addr)(P:Program)(w:World)(K:Frag)(tg:Expr)(J:It)(fp:List Addr)(it:Addr)(tn:Nat->Heap->Prop):Prop where
 mem:it∈fp
 obj:∀i h,tn i h->∀b∈fp,∃o,h.get? b=some o/\∀v,o.data≠.cell v
 keep:∀i h h',tn i h->(∀b∈fp,∀o,h.get? b=some o->h'.get? b=some o)->tn i h'
 item:∀(X:Cx),X.prog=P->X.w=w->X.K=K->X.A.handled=some (.ref ea)->∀(i:Nat) (pins:PnL) (s:Shared) (σ : St) (H:Hp) (E:VSP),Inv X pins σ H s->(∀b∈fp,vc X pins H b)->tn i s.heap->J.go i H->
  wpAny (model P w) X.A (pyNext (.ref it)) (fun r s1=>∃u,r=some u/\
   wpAny (model P w) X.A (letOwnedTupleGo tg (.ref it) u) (fun _ s2=>∃x H',Inv X pins σ H' s2/\ya x u/\J.yld i H x H'/\tn (i+1) s2.heap/\∀b∈fp,H' b=none) E s1) E s
 done:∀(X:Cx),X.prog=P->X.w=w->X.K=K->X.A.handled=some (.ref ea)->∀(i:Nat) (pins:PnL) (s:Shared) (σ : St) (H:Hp) (E:VSP),Inv X pins σ H s->(∀b∈fp,vc X pins H b)->tn i s.heap->J.stop i H->
  wpAny (model P w) X.A (pyNext (.ref it)) (fun r s1=>r=none/\Inv X pins σ H s1) E s
 self:∀(A:Around) (i:Nat) (s:Shared) (Q:VSP) (E:VSP),tn i s.heap->Q (.ref it) s->wpAny (model P w) A (pyIter (.ref it)) Q E s
def zlj(X:Cx)(ea:Addr)(pins:PnL)(σ : St)(tg:Expr)(R:It->Hp->Prop)(itv:Value)(s2:Shared):Prop:=
 ∃(it:Addr) (fp:List Addr) (tn:Nat->Heap->Prop) (J:It) (H':Hp),itv=.ref it/\Inv X pins σ H' s2/\zkj ea X.prog X.w X.K tg J fp it tn/\tn 0 s2.heap/\(∀b∈fp,vc X pins H' b)/\R J H'
section
variable {X:Cx}{tg:Expr}
variable {pins:PnL}{σ:St}{s:Shared}{sc:Scope}{fr Nc:List Str}{caps:List (Option Nat)}{elt iter:Expr}{ifs:List Expr}{g:TG}{tt:TT}{te:TE}{ow:List Nat}{pos pos2:Pos}{E:VSP}
variable {hs:List ExceptHandler}{th:HK}{c n:Str}{C':Addr}{i:Nat}{ts:TS}{b₀:Stmt}{suite:List Stmt}{np hpos:Pos}
def zk2(K:Frag)(C':Addr)(i:Nat)(ts:Addr->TS)(xk:HK):HK:=fun C od t ea D σ H'=>
 (exmOne K (.ref C) (.ref C')=some true/\ts ea (zhS D i) (σ.set i (some (.ref ea))) (upd H' ea (j9 ea C od t)))\/(exmOne K (.ref C) (.ref C')=some false/\xk C od t ea D σ H')
end
end L2
namespace L2
open PySem PySem.Spec PyProof.Rows PySem.Builtin
section
variable {prog:Program}{w:World}{A:Around}{E:VSP}{s:Shared}{it l ea C t:Addr}{od:Option Addr}{tb:Value}{i:Nat}{items:Array Value}{Q:Option Value->Shared->Prop}
variable {X:Cx}{tg:Expr}
variable {sc:Scope}{elt iter:Expr}{ifs:List Expr}{g:TG}{tt:TT}{te:TE}{ow:List Nat}{pos:Pos}
end
end L2
namespace L2
open PySem PySem.Spec PyProof.Rows
section
variable {X:Cx}
theorem ze0{X:Cx}{K:Frag}{e:Expr}{f:Str}{pos:Pos}{ta:TE}(hK:X.K=K)(he:PE X e ta)(hb:attributeBase e f X.env (eval e X.env)=eval e X.env):PE X (.Attribute e f pos) (zhC K ta f):=hK ▸ zgA he hb
variable {hs:List ExceptHandler}{th:HK}{c n:Str}{C':Addr}{i:Nat}{ts:TS}{b₀:Stmt}{suite:List Stmt}{np hpos:Pos}
theorem ziA{tsA:Addr->TS}(hN:X.N.Nodup)(hi:X.N[i]?=some n)(hk:X.env.scope.names.lookup n=some .local)(hg:Gl X c)(hm:X.mg c=some (.ref C'))(hs':∀ea,PSs (X.suite ea) (b₀::suite) (tsA ea))(hr:PH X hs th)
  (hd:(c==("__debug__" : Str))=false:=by decide):PH X (.ExceptHandler (some (.Name c np)) (some n) (b₀::suite) hpos::hs) (zk2 X.K C' i tsA th):=by
 exists fun pins σ H1 s1 H' ea C od t s5 D I1 F5 h=>?_;obtain⟨B,fl,tr,old,olds⟩:=F5.fly;have I5:Inv X pins σ H' s5:=I1.call' F5.os F5.un F5.hok F5.bare fun b z=>nomatch z;have LT:Looks (model X.prog X.w) s5.heap (typeOf (.ref ea)) (.ref C):=by
  obtain⟨tb,oT,ts',he,_⟩:=fl.2.2.2;exact(PySem.W.Looks.ld he).andThen .now
 refine wpAny_handleBy_cons (codeAny_handlers_test (xW (I5.suite ea) hg hm ?_ hd)) (by intro z;cases z)
 rcases h with ⟨hx,h⟩|⟨hx,h⟩
 ·refine(exm_one (M:=model X.prog X.w) (h:=s5.heap) I5.kIn LT hx) _ _ _ _ (fun _ _ z=>z) ?_
  refine codeAny_handlers_suite_as (zhR fl fun h6 fl6 up6=>?_);have F6:=F5.move fl tr old olds fl6 up6;have I6:=F6.track I1 fl6 old;refine vd (v:=.ref ea) I6 hN hi (.inl hk) rfl (fun s7 I7=>?_) (.inr hk);refine wpAny_mono ((hs' ea) pins s7 _ _ (zhS D i) (I7.suite ea) h) (fun f s8 h8=>?_) fun _ _ z=>z.elim;show wpAny (model X.prog X.w) X.A (do bindName X.env n .none;unbindBehindTheSuite X.env n hpos) (fun _ s9=>SP X pins D f s9) X.xe s8
  cases f with
  | next=>
   obtain⟨σ',H2,I8,q8⟩:=h8;exact vF (yL I1.ok I8) hN hi hk fun s9 I9=>⟨_,H2,I9,q8⟩
  | brk=>
   obtain⟨σ',H2,I8,q8⟩:=h8;exact vF (yL I1.ok I8) hN hi hk fun s9 I9=>⟨_,H2,I9,q8⟩
  | cont=>
   obtain⟨σ',H2,I8,q8⟩:=h8;exact vF (yL I1.ok I8) hN hi hk fun s9 I9=>⟨_,H2,I9,q8⟩
  | ret u=>
   obtain⟨v,σ',H2,I8,rv,q8⟩:=h8;exact vF (yL I1.ok I8) hN hi hk fun s9 I9=>⟨v,_,H2,I9,rv,q8⟩
 ·refine(exm_one (M:=model X.prog X.w) (h:=s5.heap) I5.kIn LT hx) _ _ _ _ (fun _ _ z=>z) ?_
  exact hr.run pins σ H1 s1 H' ea C od t s5 D I1 F5 h
variable {P:Program}{w:World}{K:Frag}{mg:Str->Option Value}{base:Heap}
variable {k:Nat}{f ea:Addr}{fd:FuncData}{ps:List Str}{sp:Addr->Sp}{x:Str}{p pos:Pos}{e:Expr}{es:List Expr}{t:TA}
theorem zdr{K:Frag}{H3:Hp}{o:HO}{l b:Addr}{zs:List V}(hl:∃zs,H3 l=some (.lst zs))(hz:SqT K H3 b zs):SqT K (upd H3 l o) b zs:=by
 obtain⟨ws,hl⟩:=hl;rcases hz with (z|⟨u,z⟩)|z
 ·refine .inl (.inl ?_)
  rw[zg (fun e=>by subst e;rw[hl] at z;cases z)]
  exact z
 ·refine .inl (.inr ⟨u,?_⟩)
  rw[zg (fun e=>by subst e;rw[hl] at z;cases z)]
  exact z
 ·exact .inr z
theorem yS{K:Frag}{ok ok':Addr->Prop}{H:Hp}{o:HO}{l:Addr}{zs:List V}(hl:H l=some (.lst zs))(hk:∀b,ok b->ok' b/\b≠l){n:Nat}{x:V}{d:Dt}(h:zz K ok H n x d):zz K ok' (upd H l o) n x d:=
 h.frame (fun a xs z=>zdr ⟨_,hl⟩ z) fun a xs oa z=>⟨(hk a oa).1,by rw[zg (hk a oa).2];exact z⟩
end
end L2
namespace K62
open PySem L2 PyProof.Rows
inductive zh4(K:Frag)(nm:Str)(vs:List V)(H:Hp)(Q:VK)(E:XK):Prop|mk(x C t:Addr)(v:V):vs=[.ref x,v]->H x=some (ud x C none t)->j3 K C->yt K C nm->(∀dx,H dx=none->Q .non (upd (upd H x (ud x C (some dx) t)) dx (.xd [(nm,v)])))->zh4 K nm vs H Q E
section
variable {P:Program}{w:World}{K:Frag}{mg:Str->Option Value}{base:Heap}{f:Addr}{fd:FuncData}
theorem zh8:zu ["self","number"] ["self","number"] (zj zev):=fsc
theorem vE(F:Fun K "__init__" "Misfit.__init__" zev f fd):zA P w K mg base CX0 1 f fd ["self","number"] (zh4 K "number"):=by
 refine F.ok zh8 (fun cdv A outer s H vs Q E hr h=>?_);obtain⟨x,C,t,v,rfl,hx,m,n,q⟩:=h;exists _,zf (zgu (pv 0) (pv 1) rfl),?_;exact⟨_,rfl,_,rfl,x,C,t,rfl,hx,m,n,q⟩
theorem zbJ{H H2:Hp}{x d:Addr}{o o' o'':HO}(s:zq H H2)(hx:H2 x=none)(hd:upd H2 x o d=none):zq H (drop (upd (upd (upd H2 x o) x o') d o'') x):=fun b u e=>by
 have nx:b≠x:=zi (s _ _ e) hx;have e2:upd H2 x o b=some u:=by rw[zg nx];exact s _ _ e
 rw[wA nx,zg (zi e2 hd),zg nx];exact e2
theorem zfW{H2:Hp}{x d:Addr}{o o' o'':HO}(hd:upd H2 x o d=none):drop (upd (upd (upd H2 x o) x o') d o'') x d=some o'':=by
 have:d≠x:=fun z=>by rw[z,za] at hd;cases hd
 rw[wA this,za]
structure uQ(P:Program)(w:World)(K:Frag)(mg:Str->Option Value)(base:Heap)(x:Str)(C g:Addr)(gd:FuncData)(a nm:Str):Prop where
 call:zdj K C g
 set:j3 K C
 no:yt K C nm
 ex:xU K C
 gl:mg x=some (.ref C)
 ok:zA P w K mg base CX0 1 g gd ["self",a] (zh4 K nm)
 bd:z8 K gd ["self",a] []
structure X6(P:Program)(w:World)(K:Frag)(mg:Str->Option Value)(base:Heap)(cl:Nat->Addr)(g:Addr)(gd:FuncData):Prop where
 x0:uQ P w K mg base "Doubled" (cl 0) g gd "number" "number"
 x1:uQ P w K mg base "Over" (cl 1) g gd "number" "number"
 x2:uQ P w K mg base "Barred" (cl 2) g gd "number" "number"
 x3:uQ P w K mg base "Again" (cl 3) g gd "number" "number"
 x4:uQ P w K mg base "Strange" (cl 4) g gd "number" "number"
 x5:uQ P w K mg base "Lacking" (cl 5) g gd "number" "number"
def wD(z:Str):Nat:=if z="doubled" then 0 else if z="over" then 1 else if z="barred" then 2 else if z="again" then 3 else if z="strange" then 4 else 5
theorem zcY(z:Str):wD z<6:=by
 unfold wD
 repeat' split
 all_goals decide
inductive jm(cl:Nat->Addr)(vs:List V)(H:Hp)(Q:VK)(E:XK):Prop|mk(z:Str)(n:Nat):vs=[.str z,.int (n:Nat)]->(∀(d:Addr) (H':Hp),zq H H'->H' d=some (.xd [("number",.int (n:Nat))])->E (.ref (cl (wD z))) (some d) H')->jm cl vs H Q E
theorem zeo:zu ["word","number"] ["word","number"] (zj zah):=fsc
theorem zdH{cl:Nat->Addr}{g:Addr}{gd:FuncData}(F:Fun K "refuse" "refuse" zah f fd)(X':X6 P w K mg base cl g gd):zA P w K mg base (CXs P w) 3 f fd ["word","number"] (jm cl):=by
 refine F.okS zeo (fun vs H Q E h=>?_) (fun cdv A outer s H vs Q E hr h=>?_)
 ·obtain⟨z,n,rfl,_⟩:=h
  rfl
 obtain⟨z,n,rfl,q⟩:=h;refine⟨_,zk (zT (zv yA (pv 0) zw (zJ _)) (zf (xZ xD rfl (wL X'.x0.call X'.x0.ok hr rfl X'.x0.gl X'.x0.bd yo (ac (pv 1) zc)))) zG)
  (zk (zT (zv yA (pv 0) zw (zJ _)) (zf (xZ xD rfl (wL X'.x1.call X'.x1.ok hr rfl X'.x1.gl X'.x1.bd yo (ac (pv 1) zc)))) zG)
  (zk (zT (zv yA (pv 0) zw (zJ _)) (zf (xZ xD rfl (wL X'.x2.call X'.x2.ok hr rfl X'.x2.gl X'.x2.bd yo (ac (pv 1) zc)))) zG)
  (zk (zT (zv yA (pv 0) zw (zJ _)) (zf (xZ xD rfl (wL X'.x3.call X'.x3.ok hr rfl X'.x3.gl X'.x3.bd yo (ac (pv 1) zc)))) zG)
  (zk (zT (zv yA (pv 0) zw (zJ _)) (zf (xZ xD rfl (wL X'.x4.call X'.x4.ok hr rfl X'.x4.gl X'.x4.bd yo (ac (pv 1) zc)))) zG)
  (zf (xZ xD rfl (wL X'.x5.call X'.x5.ok hr rfl X'.x5.gl X'.x5.bd yo (ac (pv 1) zc)))))))),?_⟩
 have go:∀{x:Str}{C:Addr}(X':uQ P w K mg base x C g gd "number" "number") (Dn:w4),(C=cl (wD z))->zcy K H E (zd7 C (zh4 K "number") E0 (zaK (j6 1) zdq)) Dn [some (.str z),some (.int (n:Nat))] H:=fun {x C} X' Dn hC=>by
  subst hC;exists _,rfl,by show 1<=sizeLine;decide,fun x tu hxn htn hne=>?_
  exists x,_,tu,_,rfl,za,X'.set,X'.no,fun d hd=>⟨rfl,x,_,some d,tu,rfl,?_,X'.ex,X'.call.ob,hxn,?_⟩
  ·have:x≠d:=fun z=>by rw[<- z,za] at hd;cases hd
   rw[zg this,za]
  ·exact q d _ (zbJ (zq.refl _) hxn hd) (zfW hd)
 exists _,rfl,rfl,_,rfl,?_;by_cases h0:z="doubled"
 ·refine dT (congrArg V.str h0) ?_
  refine go X'.x0 _ (congrArg cl (Eq.symm ?_));unfold wD;exact if_pos h0
 refine dF (fun e=>h0 (V.str.inj e)) ?_;exists _,rfl,rfl,_,rfl,?_;by_cases h1:z="over"
 ·refine dT (congrArg V.str h1) ?_
  refine go X'.x1 _ (congrArg cl (Eq.symm ?_));unfold wD;rw[if_neg h0];exact if_pos h1
 refine dF (fun e=>h1 (V.str.inj e)) ?_;exists _,rfl,rfl,_,rfl,?_;by_cases h2:z="barred"
 ·refine dT (congrArg V.str h2) ?_
  refine go X'.x2 _ (congrArg cl (Eq.symm ?_));unfold wD;rw[if_neg h0];rw[if_neg h1];exact if_pos h2
 refine dF (fun e=>h2 (V.str.inj e)) ?_;exists _,rfl,rfl,_,rfl,?_;by_cases h3:z="again"
 ·refine dT (congrArg V.str h3) ?_
  refine go X'.x3 _ (congrArg cl (Eq.symm ?_));unfold wD;rw[if_neg h0];rw[if_neg h1];rw[if_neg h2];exact if_pos h3
 refine dF (fun e=>h3 (V.str.inj e)) ?_;exists _,rfl,rfl,_,rfl,?_;by_cases h4:z="strange"
 ·refine dT (congrArg V.str h4) ?_
  refine go X'.x4 _ (congrArg cl (Eq.symm ?_));unfold wD;rw[if_neg h0];rw[if_neg h1];rw[if_neg h2];rw[if_neg h3];exact if_pos h4
 refine dF (fun e=>h4 (V.str.inj e)) ?_;have h5:cl 5=cl (wD z):=congrArg cl (by unfold wD;rw[if_neg h0,if_neg h1,if_neg h2,if_neg h3,if_neg h4])
 exact go X'.x5 { nx:=fun _ H'=>Q .non H',rt:=Q } h5
theorem yx.same{K:Frag}{H H':Hp}{a:Addr}{ct:List zY}(h:yx K H a ct)(s:zq H H'):yx K H' a ct:=by
 obtain⟨⟨xs,h1,h2⟩,l1,l2⟩:=h;exact⟨⟨xs,s.seq h1,zm (fun _ _ z=>z.same s) h2⟩,l1,l2⟩
def ptF(f l1 l2:Addr):List (Str×V):=zN "pairs" (.ref l2) (zN "things" (.ref l1) (zN "kept_form" (.ref f) []))
theorem zgt{f l1 l2:Addr}:(ptF f l1 l2).lookup ("kept_form" : Str)=some (.ref f):=by
 unfold ptF;rw[zo,if_neg (by decide +kernel),zo,if_neg (by decide +kernel),zo,if_pos rfl]
theorem zdx{f l1 l2:Addr}:(ptF f l1 l2).lookup ("things" : Str)=some (.ref l1):=by
 unfold ptF;rw[zo,if_neg (by decide +kernel),zo,if_pos rfl]
theorem zeS{f l1 l2:Addr}:(ptF f l1 l2).lookup ("pairs" : Str)=some (.ref l2):=by
 unfold ptF;rw[zo,if_pos rfl]
theorem qt{f l1 l2:Addr}{m:Str}(h1:¬m="kept_form")(h2:¬m="things")(h3:¬m="pairs"):(ptF f l1 l2).lookup m=none:=by
 unfold ptF;rw[zo,if_neg h3,zo,if_neg h2,zo,if_neg h1];rfl
def wZ(K:Frag)(CP:Addr)(N:Addr->Prop)(H:Hp)(p f:Addr)(ts:List Int)(ps:List (Str×Int)):Prop:=
 ∃dx l1 l2 ys,H p=some (.ins CP dx (ptF f l1 l2))/\H l1=some (.lst (ts.map V.int))/\H l2=some (.lst ys)/\Paired (zz K T' H 1) ys (ps.map yr)/\N l1/\N l2
structure PtC(K:Frag)(CP:Addr):Prop where
 cl:Cls K CP
 n1:yt K CP "kept_form"
 n2:yt K CP "things"
 n3:yt K CP "pairs"
def nlF(ms:List (Str×Nat)):Option (Str×Nat):=ms.find? fun m=>decide (m.1≠"lacking")
inductive uE(K:Frag)(c:C5)(CF:Addr)(cl:Nat->Addr)(vs:List V)(H:Hp)(Q:VK)(E:XK):Prop|mk(f a:Addr)(rows:List Rw)(bars:List Str)(ct:List zY):vs=[.ref f,.ref a]->xJ c CF H f rows bars->yx K H a ct->(nlF (y9 rows bars ct)=none->∀H',zq H H'->Q .non H')->((∀m,nlF (y9 rows bars ct)=some m->∀(d:Addr) (H':Hp),zq H H'->H' d=some (.xd [("number",.int (m.2:Nat))])->E (.ref (cl (wD m.1))) (some d) H'))->uE K c CF cl vs H Q E
inductive zaP(K:Frag)(c:C5)(CF CP:Addr)(cl:Nat->Addr)(vs:List V)(H:Hp)(Q:VK)(E:XK):Prop|mk(p f a dx:Addr)(rows:List Rw)(bars:List Str)(ct:List zY):vs=[.ref p,.ref f,.ref a]->H p=some (.ins CP dx [])->xJ c CF H f rows bars->yx K H a ct->(nlF (y9 rows bars ct)=none->∀H',SX p H H'->wZ K CP (fun b=>H b=none) H' p f (zH ct) (zD ct)->Q .non H')->((∀m,nlF (y9 rows bars ct)=some m->∀(d:Addr) (H':Hp),zq H H'->H' d=some (.xd [("number",.int (m.2:Nat))])->E (.ref (cl (wD m.1))) (some d) H'))->zaP K c CF CP cl vs H Q E
theorem zgc{K:Frag}{H:Hp}{p C dx:Addr}{fs:List (Str×V)}{o:HO}(hp:H p=some (.ins C dx fs)){b:Addr}{zs:List V}(h:SqT K H b zs):SqT K (upd H p o) b zs:=by
 rcases h with (z|⟨u,z⟩)|z
 ·exact .inl (.inl (by rw[zg (yR z hp (by intro e;cases e))];exact z))
 ·exact .inl (.inr ⟨u,by rw[zg (yR z hp (by intro e;cases e))];exact z⟩)
 ·exact .inr z
theorem zgd{K:Frag}{H:Hp}{p C dx:Addr}{fs:List (Str×V)}{o:HO}(hp:H p=some (.ins C dx fs)){b:Addr}{zs:List V}(h:SqL K H b zs):SqL K (upd H p o) b zs:=by
 rcases h with (z|⟨u,z⟩)|z
 ·exact .inl (.inl (by rw[zg (yR z hp (by intro e;cases e))];exact z))
 ·exact .inl (.inr ⟨u,by rw[zg (yR z hp (by intro e;cases e))];exact z⟩)
 ·exact .inr z
theorem jt{K:Frag}{H:Hp}{p C dx:Addr}{fs:List (Str×V)}{o:HO}{n:Nat}{x:V}{d:Dt}(hp:H p=some (.ins C dx fs))(h:zz K T' H n x d):zz K T' (upd H p o) n x d:=
 h.frame (fun _ _ z=>zgc hp z) fun b _ _ z=>⟨True.intro,by rw[zg (yR z hp (by intro e;cases e))];exact z⟩
theorem yx.setp{K:Frag}{H:Hp}{p C dx a:Addr}{fs:List (Str×V)}{o:HO}{ct:List zY}(h:yx K H a ct)(hp:H p=some (.ins C dx fs)):yx K (upd H p o) a ct:=by
 obtain⟨⟨xs,h1,h2⟩,l1,l2⟩:=h;exact⟨⟨xs,zgd hp h1,zm (fun _ _ z=>jt hp z) h2⟩,l1,l2⟩
variable {CF CP N:Addr}{c:C5}{m:MA}
theorem jq:zu ["form","call","word","number"] ["form","call"] (zj zak):=fsc
theorem zdG{cl:Nat->Addr}{g1 g2:Addr}{d1 d2:FuncData}(F:Fun K "refuse_first_things" "refuse_first_things" zak f fd)(c1:zE P w K mg base 5 "misfits" g1 d1 ["form","call"] (zeg K c CF))(c2:uC P w K mg base 3 "refuse" g2 d2 ["word","number"] (jm cl)):zA P w K mg base (CXs P w) 6 f fd ["form","call"] (uE K c CF cl):=by
 refine F.okS jq (fun vs H Q E h=>?_) (fun cdv A outer s H vs Q E hr h=>?_)
 ·obtain⟨f,a,rows,bars,ct,rfl,_⟩:=h
  rfl
 obtain⟨f,a,rows,bars,ct,rfl,hF,hC,q1,q2⟩:=h;have hr3:yj 3 _:=hr.mono (by decide)
 refine⟨_,zf (yz PassesOwn.leaving rfl (z9 (cF c1 hr (ac (pv 0) (ac (pv 1) zc)))) (yO rfl (zF (zr (i:=2) jq.nd rfl (Or.inl rfl)) (zF (zr (i:=3) jq.nd rfl (Or.inl rfl)) yv)))
   (zf (zT (zv zhO (pv 2) zw (zJ _)) (zf (zI (cS c2 (ze4 fun _ _ _ z=>z) hr3 (ac (pv 2) (ac (pv 3) zc))))) zG))),?_⟩
 exists _,rfl,_,rfl,f,a,rows,bars,ct,rfl,hF,hC,fun l H1 s1 ⟨us,nl,el,ml⟩=>?_;exists l,rfl,⟨_,zh el⟩,yJ (K:=K) (a:=l) (xs:=us.map V.ref) (fun i σ H'=>∃v2 v3,σ=[some (.ref f),some (.ref a),v2,v3]/\H'=H1/\∀m∈(y9 rows bars ct).take i,m.1="lacking") ⟨_,_,rfl,rfl,fun m h=>by simp at h⟩ (fun i σ H' _ ⟨_,_,_,e,_⟩=>by rw[e];exact zh el) ?_ ?_
 ·rintro i x σ H' hx ⟨v2,v3,rfl,rfl,hall⟩
  obtain⟨u,hu,rfl⟩:=xV hx;obtain⟨mm,hm,tm⟩:=xi ml hu;exists u,_,rfl,zB tm,rfl,_,_,rfl,_,_,rfl,rfl,?_;exists _,rfl,rfl,_,rfl,?_;have hi:i<(y9 rows bars ct).length:=(List.getElem?_eq_some_iff.mp hm).1;have em:(y9 rows bars ct)[i]=mm:=(List.getElem?_eq_some_iff.mp hm).2;by_cases hw:mm.1="lacking"
  ·refine zj7 (by rw[hw]) ?_
   exists _,_,rfl,rfl,fun m' h'=>?_;rw[take_succ_eq_append_getElem hi,em] at h';rcases List.mem_append.mp h' with h'|h'
   ·exact hall m' h'
   ·rw[List.mem_singleton.mp h'];exact hw
  ·have hnl:nlF (y9 rows bars ct)=some mm:=by
    unfold nlF;have e:y9 rows bars ct=(y9 rows bars ct).take i++mm::(y9 rows bars ct).drop (i+1):=by
     conv=>lhs;rw[<- take_append_drop i (y9 rows bars ct)]
     rw[List.drop_eq_getElem_cons hi,em]
    rw[e,find?_append,List.find?_eq_none.mpr (fun m' h'=>by rw[hall m' h'];decide +kernel)]
    rw[find?_cons,decide_eq_true hw];rfl
   have hne:(!decide (V.str mm.1=V.str "lacking"))=true:=by
    rw[decide_eq_false (fun e=>hw (V.str.inj e))];rfl
   refine jU hne ?_;exact⟨_,rfl,_,rfl,mm.1,mm.2,rfl,fun d H3 s3 hd=>q2 mm hnl d H3 (s1.trans s3) hd⟩
 ·rintro σ H' ⟨v2,v3,rfl,rfl,hall⟩
  refine q1 ?_ _ s1;unfold nlF;rw[length_map,ml.length,take_length] at hall;exact List.find?_eq_none.mpr (fun m' h'=>by rw[hall m' h'];decide +kernel)
theorem zep:zu ["self","form","call","things","pairs"] ["self","form","call"] (zj zal):=fsc
theorem ziO{cl:Nat->Addr}{g1 g2:Addr}{d1 d2:FuncData}(F:Fun K "__init__" "Part.__init__" zal f fd)(PC':PtC K CP)(c1:uC P w K mg base 6 "refuse_first_things" g1 d1 ["form","call"] (uE K c CF cl))(c2:zE P w K mg base 1 "laid" g2 d2 ["call"] (vW K)):zA P w K mg base (CXs P w) 7 f fd ["self","form","call"] (zaP K c CF CP cl):=by
 refine F.okS zep (fun vs H Q E h=>?_) (fun cdv A outer s H vs Q E hr h=>?_)
 ·obtain⟨p,f,a,dx,rows,bars,ct,rfl,_⟩:=h
  rfl
 obtain⟨p,f,a,dx,rows,bars,ct,rfl,hp,hF,hC,q,q2⟩:=h;have hr1:yj 1 _:=hr.mono (by decide)
 refine⟨_,zk (zI (cS c1 (ze4 fun _ _ _ z=>z) hr (ac (pv 1) (ac (pv 2) zc))))
  (zk (xT (pv 0) (pv 1) rfl)
  (zk (jC (cF c2 hr1 (ac (pv 2) zc)) (yO rfl (zF (zr (i:=3) zep.nd rfl (Or.inl rfl)) (zF (zr (i:=4) zep.nd rfl (Or.inl rfl)) yv))))
  (zk (xT (pv 0) (pv 3) rfl)
  (zf (xT (pv 0) (pv 4) rfl))))),?_⟩
 exists _,rfl,_,rfl,f,a,rows,bars,ct,rfl,hF,hC,fun hnl H1 s1=>?_,fun m hm d H1 s1 hd=>q2 m hm d H1 s1 hd;exists _,rfl,_,rfl,p,CP,dx,_,rfl,s1 _ _ hp,PC'.cl,PC'.n1,(by show 0+1<=1000;decide),?_
 have hp1:=s1 _ _ hp;have hC1:=(hC.same s1).setp (o:=.ins CP dx (zN "kept_form" (.ref f) [])) hp1;have x2:SX p H (upd H1 p (.ins CP dx (zN "kept_form" (.ref f) []))):=(SX.refl.same s1).upd;have p2:upd H1 p (.ins CP dx (zN "kept_form" (.ref f) [])) p=some (.ins CP dx (zN "kept_form" (.ref f) [])):=za;show vV _ _ _ _ (upd H1 p (.ins CP dx (zN "kept_form" (.ref f) [])));generalize upd H1 p (.ins CP dx (zN "kept_form" (.ref f) []))=H2 at hC1 x2 p2 |-;obtain⟨⟨xs,hx,hc⟩,lt,lp⟩:=hC1;exists _,rfl,a,ct,xs,rfl,hx,hc,lt,lp,fun t H3 s3 ⟨l1,l2,ys,n1,n2,n12,nt,et,e1,e2,gp⟩=>?_;exists t,_,rfl,zB et,rfl,_,_,rfl,_,_,rfl,rfl,?_;have p3:=s3 _ _ p2;exists _,rfl,_,rfl,p,CP,dx,_,rfl,p3,PC'.cl,PC'.n2,(by show 1+1<=1000;decide),?_
 have x4:SX p H (upd H3 p (.ins CP dx (zN "things" (.ref l1) (zN "kept_form" (.ref f) [])))):=(x2.same s3).upd;have p4:upd H3 p (.ins CP dx (zN "things" (.ref l1) (zN "kept_form" (.ref f) []))) p=some (.ins CP dx (zN "things" (.ref l1) (zN "kept_form" (.ref f) []))):=za;have e14:upd H3 p (.ins CP dx (zN "things" (.ref l1) (zN "kept_form" (.ref f) []))) l1=some (.lst ((zH ct).map V.int)):=by rw[zg (yR e1 p3 (by intro z;cases z))];exact e1
 have e24:upd H3 p (.ins CP dx (zN "things" (.ref l1) (zN "kept_form" (.ref f) []))) l2=some (.lst ys):=by rw[zg (yR e2 p3 (by intro z;cases z))];exact e2
 have g4:Paired (zz K T' (upd H3 p (.ins CP dx (zN "things" (.ref l1) (zN "kept_form" (.ref f) [])))) 1) ys ((zD ct).map yr):=zm (fun _ _ z=>jt p3 z) gp;show vV _ _ _ _ (upd H3 p (.ins CP dx (zN "things" (.ref l1) (zN "kept_form" (.ref f) []))));generalize upd H3 p (.ins CP dx (zN "things" (.ref l1) (zN "kept_form" (.ref f) [])))=H4 at x4 p4 e14 e24 g4 |-;exists _,rfl,_,rfl,p,CP,dx,_,rfl,p4,PC'.cl,PC'.n3,(by show 2+1<=1000;decide),?_
 have bk:∀{b:Addr},H2 b=none->H b=none:=fun {b} h=>by
  cases e:H b with
  | none=>rfl
  | some u=>
   have ne:b≠p:=fun z=>by rw[z,p2] at h;cases h
   rw[x2 _ _ e ne] at h;cases h
 refine q hnl _ x4.upd ⟨dx,l1,l2,ys,za,?_,?_,zm (fun _ _ z=>jt p4 z) g4,bk n1,bk n2⟩
 ·rw[zg (yR e14 p4 (by intro z;cases z))];exact e14
 ·rw[zg (yR e24 p4 (by intro z;cases z))];exact e24
theorem zaN{K:Frag}{H3:Hp}{o:HO}{l b:Addr}{zs:List V}(hl:H3 l=none\/(∃zs,H3 l=some (.lst zs)))(hz:SqT K H3 b zs):SqT K (upd H3 l o) b zs:=by
 rcases hz with (z|⟨u,z⟩)|z
 ·refine .inl (.inl ?_)
  have:b≠l:=fun e=>by
   subst e;rcases hl with e|⟨_,e⟩
   ·rw[e] at z;cases z
   ·rw[e] at z;cases z
  rw[zg this];exact z
 ·refine .inl (.inr ⟨u,?_⟩)
  have:b≠l:=fun e=>by
   subst e;rcases hl with e|⟨_,e⟩
   ·rw[e] at z;cases z
   ·rw[e] at z;cases z
  rw[zg this];exact z
 ·exact .inr z
def plain(ts:List Int)(ps:List (Str×Int)):List zY:=ts.map .one++ps.map fun p=>.named p.1 p.2
theorem wY{ts:List Int}{i:Nat}{x:V}(h:(ts.map V.int)[i]?=some x):∃t,ts[i]?=some t/\x=.int t:=by
 rw[getElem?_map] at h;cases e:ts[i]? with
 | none=>rw[e] at h;cases h
 | some it=>rw[e] at h;exact⟨it,rfl,(Option.some.inj h).symm⟩
def zfz(p:Str×Int):zY:=.named p.1 p.2
theorem ndT:([Str.ofString "thing"]:List Str).Nodup:=by decide +kernel
theorem ndN:([Str.ofString "name",Str.ofString "thing"]:List Str).Nodup:=by decide +kernel
theorem yN{K:Frag}{ok:Addr->Prop}{H3:Hp}{o:HO}{l:Addr}(hl:H3 l=none\/(∃zs,H3 l=some (.lst zs))):∀{xs:List V}{c:List zY},(∀it∈c,∃ds,zV it=.tup ds)->Paired (zz K ok H3 1) xs (c.map zV)->Paired (zz K ok (upd H3 l o) 1) xs (c.map zV)
 | _,[],_,r=>by cases r;exact .nil
 | _,it::c,hc,r=>by
  cases r with
  | cons h r=>
   refine .cons ?_ (yN hl (fun j hj=>hc j (mem_cons_of_mem _ hj)) r);obtain⟨ds,e⟩:=hc it (by simp)
   rw[e] at h |-;obtain⟨b,ws,rfl,hS',r'⟩:=yZ h;exact .tup (zaN hl hS') (zm (fun _ _ z=>z) r')
theorem xy(it:zY):∃ds,zV it=.tup ds:=by cases it <;> exact⟨_,rfl⟩
theorem xq{α : Type}{l:List α}{i:Nat}{x : α}(h:l[i]?=some x):l.take (i+1)=l.take i++[x]:=by
 rw[take_add_one,h];rfl
theorem xQ(ts:List Int)(ps:List (Str×Int)):zH (plain ts ps)=ts:=by
 unfold zH plain;rw[map_append,flatten_append,map_map,map_map];have h1:(ts.map (itT ∘ zY.one)).flatten=ts:=by
  induction ts with
  | nil=>rfl
  | cons t ts ih=>rw[map_cons,flatten_cons,ih];rfl
 have h2:(ps.map (itT ∘ fun p=>zY.named p.1 p.2)).flatten=[]:=by
  induction ps with
  | nil=>rfl
  | cons t ts ih=>rw[map_cons,flatten_cons,ih];rfl
 rw[h1,h2,append_nil]
theorem xt(ts:List Int)(ps:List (Str×Int)):zD (plain ts ps)=ps:=by
 unfold zD plain;rw[map_append,flatten_append,map_map,map_map];have h1:(ts.map (itP ∘ zY.one)).flatten=[]:=by
  induction ts with
  | nil=>rfl
  | cons t ts ih=>rw[map_cons,flatten_cons,ih];rfl
 have h2:(ps.map (itP ∘ fun p=>zY.named p.1 p.2)).flatten=ps:=by
  induction ps with
  | nil=>rfl
  | cons t ts ih=>rw[map_cons,flatten_cons,ih];rfl
 rw[h1,h2,nil_append]
inductive zjz(K:Frag)(vs:List V)(H:Hp)(Q:VK)(E:XK):Prop|mk(a b:Addr)(ts:List Int)(ps:List (Str×Int))(ys:List V):vs=[.ref a,.ref b]->SqL K H a (ts.map V.int)->SqL K H b ys->Paired (zz K T' H 1) ys (ps.map yr)->ts.length<=400->ps.length<=400->(∀(r:Addr) (xs:List V) (H':Hp),zq H H'->H r=none->H' r=some (.lst xs)->Paired (zz K T' H' 1) xs ((plain ts ps).map zV)->Q (.ref r) H')->zjz K vs H Q E
inductive vy(K:Frag)(CP:Addr)(vs:List V)(H:Hp)(Q:VK)(E:XK):Prop|mk(p f a:Addr)(N:Addr->Prop)(ts:List Int)(ps:List (Str×Int))(ct:List zY):vs=[.ref p,.ref a]->wZ K CP N H p f ts ps->yx K H a ct->ts.length+(zH ct).length<=400->ps.length+(zD ct).length<=400->(∀(l:Addr) (xs:List V) (H':Hp),zq H H'->H l=none->H' l=some (.lst xs)->Paired (zz K T' H' 1) xs ((plain (ts++zH ct) (ps++zD ct)).map zV)->Q (.ref l) H')->vy K CP vs H Q E
theorem yx.plain{K:Frag}{H:Hp}{l:Addr}{xs:List V}{ts:List Int}{ps:List (Str×Int)}(e:H l=some (.lst xs))(h:Paired (zz K T' H 1) xs ((plain ts ps).map zV))(lt:ts.length<=400)(lp:ps.length<=400):yx K H l (plain ts ps):=by
 exists ⟨xs,zh e,zm (fun _ _ z=>z.up.up) h⟩,?_,?_
 ·rw[xQ];omega
 ·rw[xt];omega
theorem zky:zu ["things","pairs"] ["things","pairs"] (zj sOf):=fsc
theorem zjU(F:Fun K "call_of" "call_of" sOf f fd):zA P w K mg base CX0 1 f fd ["things","pairs"] (zjz K):=by
 refine F.ok zky (fun cdv A outer s H vs Q E hr h=>?_);obtain⟨a,b,ts,ps,ys,rfl,ha,hb,hp,lt,lp,q⟩:=h;refine⟨_,zf (zy (zp yT (wx [] ["thing"] [none] rfl ⟨rfl,rfl,rfl,rfl⟩ (z9 (pv 0)) (ye 0) rfl rfl rfl
   (fun pins fp s H C=>⟨zr (i:=0) ndT rfl (Or.inl rfl) (.inr rfl),yH,zQ (ac zw (ac (pv 0) zc))⟩))
  (wx [] ["name","thing"] [none,none] rfl ⟨rfl,rfl,rfl,rfl⟩ (z9 (pv 1)) (xI (K:=K) (n:=2) 0 1) rfl rfl rfl
   (fun pins fp s H C=>⟨yO rfl (zF (zr (i:=0) ndN rfl (Or.inl rfl) (.inr rfl)) (zF (zr (i:=1) ndN rfl (Or.inl rfl) (.inr rfl)) yv)),yH,zQ (ac zw (ac (pv 0) (ac (pv 1) zc)))⟩)))),?_⟩
 exists _,rfl,a,rfl,⟨_,ha⟩,fun D hD=>?_;refine xx (K:=K) (xs:=ts.map V.int) (fun i zs H'=>zq H H'/\H' D=some (.lst zs)/\Paired (zz K T' H' 1) zs (((ts.take i).map zY.one).map zV)) ⟨zd hD _,za,.nil⟩ (fun i zs H' h=>h.1.seq ha) ?_ ?_
 ·rintro i x zs H' hi hx ⟨sH,hDz,hz⟩
  obtain⟨t,ht,rfl⟩:=wY hx;rw[length_map] at hi |-;have lz:zs.length=i:=by rw[hz.length];simp;omega
  exists fun _=>⟨_,rfl,yC,fun p hpn=>?_⟩,fun z=>absurd z (by decide)
  have nD:=zi hDz hpn;refine lcN.mk hi (yn (by omega)) (by rw[zg nD];exact hDz) (by omega) ⟨yd (yd sH (sH.free hpn) _) hD _,za,?_⟩
  rw[xq ht,map_append,map_append];refine zO (yN (.inr ⟨_,by rw[zg nD];exact hDz⟩) (fun it _=>xy it) (yN (.inl hpn) (fun it _=>xy it) hz)) (.cons (.tup (xs:=[.str "one",.int t]) (zB ?_) (.cons .str (.cons .int .nil))) .nil)
  rw[zg nD.symm,za]
 rintro zs H1 ⟨s1,hDz,hz⟩;rw[length_map,take_length] at hz;have lzs:zs.length=ts.length:=by rw[hz.length];simp
 exists _,rfl,b,rfl,⟨_,s1.seq hb⟩,fun D2 hD2=>?_;refine xx (K:=K) (xs:=ys) (fun i ws H'=>zq H1 H'/\H' D2=some (.lst ws)/\Paired (zz K T' H' 1) ws (((ps.take i).map zfz).map zV)) ⟨zd hD2 _,za,.nil⟩ (fun i zs H' h=>(s1.trans h.1).seq hb) ?_ ?_
 ·rintro i x ws H' hi hx ⟨sH,hDw,hw⟩
  obtain⟨d,hd,hx1⟩:=Paired.get hp hx;obtain⟨pr,hpr,rfl⟩:=uu hd;obtain⟨bb,rfl,hbb⟩:=vD (n:=0) hx1;have hbb2:=(s1.trans sH).sqT hbb;have lws:ws.length=i:=by
   rw[hw.length]
   have:i<ps.length:=by rw[hp.length,length_map] at hi;exact hi
   simp;omega
  exists bb,_,rfl,hbb2,rfl,_,_,rfl,_,_,rfl,rfl,⟨fun _=>⟨_,rfl,_,rfl,vX,fun p hpn=>?_⟩,fun z=>absurd z (by decide)⟩
  have nD:=zi hDw hpn;have ly:ys.length=ps.length:=by rw[hp.length,length_map]
  refine lcN.mk hi (yn (by omega)) (by rw[zg nD];exact hDw) (by omega) ⟨yd (yd sH (sH.free hpn) _) hD2 _,za,?_⟩
  rw[xq hpr,map_append,map_append];refine zO (yN (.inr ⟨_,by rw[zg nD];exact hDw⟩) (fun it _=>xy it) (yN (.inl hpn) (fun it _=>xy it) hw)) (.cons (.tup (xs:=[.str "named",.str pr.1,.int pr.2]) (zB ?_) (.cons .str (.cons .str (.cons .int .nil)))) .nil)
  rw[zg nD.symm,za]
 rintro ws H2 ⟨s2,hDw,hw⟩;have ly:ys.length=ps.length:=by rw[hp.length,length_map]
 rw[ly,take_length] at hw;have lws:ws.length=ps.length:=by rw[hw.length];simp
 exists D,D2,_,_,rfl,rfl,s2 _ _ hDz,hDw,yn (by omega),fun r hrn=>?_
 refine q r _ _ (s1.trans (s2.trans (zd hrn _))) (s1.free (s2.free hrn)) za ?_;unfold plain;rw[map_append];exact zO (yl (s2.trans (zd hrn _)) hz) (yl (zd hrn _) hw)
theorem zab:zu ["self","call","things","pairs"] ["self","call"] (zj ju):=fsc
theorem zfb{g1 g2:Addr}{d1 d2:FuncData}(F:Fun K "whole" "Part.whole" ju f fd)(PC':PtC K CP)(c1:zE P w K mg base 1 "laid" g1 d1 ["call"] (vW K))(c2:zE P w K mg base 1 "call_of" g2 d2 ["things","pairs"] (zjz K)):zA P w K mg base CX0 2 f fd ["self","call"] (vy K CP):=by
 refine F.ok zab (fun cdv A outer s H vs Q E hr h=>?_);obtain⟨p,f,a,N,ts,ps,ct,rfl,⟨dx,k1,k2,yk,hp,e1,e2,gp,_,_⟩,⟨⟨xs,hx,hc⟩,lt,lp⟩,lT,lP,q⟩:=h;refine⟨_,zk (jC (cF c1 hr (ac (pv 1) zc)) (yO rfl (zF (zr (i:=2) zab.nd rfl (Or.inl rfl)) (zF (zr (i:=3) zab.nd rfl (Or.inl rfl)) yv))))
  (zf (zy (cF c2 hr (ac (zp yT (yE (pv 0) rfl) (pv 2)) (ac (zp yT (yE (pv 0) rfl) (pv 3)) zc))))),?_⟩
 exists _,rfl,a,ct,xs,rfl,hx,hc,lt,lp,fun t H1 s1 ⟨l1,l2,ys,n1,n2,n12,nt,et,g1',g2',gy⟩=>?_;exists t,_,rfl,zB et,rfl,_,_,rfl,_,_,rfl,rfl,?_;have big : 1000<=sizeLine:=by decide
 exists _,rfl,p,CP,dx,_,_,rfl,s1 _ _ hp,PC'.cl,PC'.n2,zdx,_,rfl,k1,l1,_,_,rfl,rfl,s1 _ _ e1,g1',(by simp only[length_map];omega),fun p2 hp2=>?_
 rw[<- map_append]
 injections p2 hp2 H2 u2 f2
 have s2:=s1.trans u2;have lyk:yk.length=ps.length:=by rw[gp.length,length_map]
 have lys:ys.length=(zD ct).length:=by rw[gy.length,length_map]
 exists _,rfl,p,CP,dx,_,_,rfl,s2 _ _ hp,PC'.cl,PC'.n3,zeS,_,rfl,k2,l2,_,_,rfl,rfl,s2 _ _ e2,u2 _ _ g2',(by omega),fun p3 hp3=>?_
 have u3:=zd hp3 (.lst (yk++ys));have f3:upd H2 p3 (.lst (yk++ys)) p3=some (.lst (yk++ys)):=za;have g3:Paired (zz K T' (upd H2 p3 (.lst (yk++ys))) 1) (yk++ys) ((ps++zD ct).map yr):=by
  rw[map_append];exact zO (zm (fun _ _ z=>z.same (s2.trans u3)) gp) (zm (fun _ _ z=>z.same (u2.trans u3)) gy)
 generalize upd H2 p3 (.lst (yk++ys))=H3 at u3 f3 g3 |-;exists p2,p3,ts++zH ct,ps++zD ct,yk++ys,rfl,zh (u3 _ _ f2),zh f3,g3,by rw[length_append];exact lT,by rw[length_append];exact lP,fun r xs' H4 s4 nr er pr'=>?_
 exact q r xs' H4 (s2.trans (u3.trans s4)) ((s2.trans u3).free nr) er pr'
end
end K62
namespace L2
open PySem PySem.Spec PyProof.Rows
theorem zg6{n:Nat}(h:n<=1000):n<=sizeLine:=le_of_lt (zK h)
theorem qL{α : Type}{ys:List α}{i:Nat}{y : α}(keep : α->Bool)(hy:ys[i]?=some y):(ys.take (i+1)).filter keep=(ys.take i).filter keep++(if keep y=true then [y] else []):=by
 have hi:i<ys.length:=(List.getElem?_eq_some_iff.mp hy).1;have e:ys[i]=y:=(List.getElem?_eq_some_iff.mp hy).2;rw[take_succ_eq_append_getElem hi,filter_append,e,filter_cons];rfl
theorem zhn{α : Type}{ys:List α}{i:Nat}(keep : α->Bool):((ys.take i).filter keep).length<=i:=by
 have:=length_filter_le keep (ys.take i)
 rw[length_take] at this;omega
theorem zcd{α : Type}{K:Frag}{a:Addr}{xs:List V}{caps:List (Option Nat)}{g:TG}{tt:TT}{te:TE}{σ : L2.St}{H1:Hp}{Q:VK}{D:Addr}(ys:List α)(keep : α->Bool)(out : α->V)(hD:H1 D=none)(ha:SqL K H1 a xs)(hl:xs.length=ys.length)(hn:xs.length<=1000)
  (hs:∀(i:Nat) (x:V) (y : α) (H:Hp) (N:VK) (S:Hp->Prop),xs[i]?=some x->ys[i]?=some y->zq H1 H->(∀H',zq H H'->keep y=true->N (out y) H')->(∀H',zq H H'->keep y=false->S H')->g x (xl caps σ) H fun σ2 H2=>tt σ2 H2 fun ok H3=>(ok=true->te σ2 H3 N)/\(ok=false->S H3))
  (hd:∀H,zq H1 H->H D=some (.lst ((ys.filter keep).map out))->Q (.ref D) H):LCr (Itl K a) caps g tt te σ H1 Q D:=by
 refine xx (K:=K) (xs:=xs) (fun i zs H'=>zq H1 H'/\H' D=some (.lst zs)/\zs=((ys.take i).filter keep).map out) ⟨zd hD _,za,rfl⟩ (fun i zs H' h=>h.1.seq ha) ?_ ?_
 ·rintro i x zs H' hlt hx ⟨sH,hDy,ez⟩
  obtain⟨y,hy⟩:∃y,ys[i]?=some y:=⟨_,getElem?_eq_getElem (by omega)⟩
  refine hs i x y H' _ _ hx hy sH (fun H2 s2 hk=>?_) (fun H2 s2 hk=>?_)
  ·refine lcN.mk hlt (zg6 hn) (s2 _ _ hDy) (by rw[ez,length_map];exact zhn _) ⟨fun b' u e=>?_,za,?_⟩
   ·rw[zg (zi e hD)]
    exact s2 _ _ (sH b' u e)
   ·rw[ez,qL keep hy,if_pos hk,map_append]
    rfl
  ·refine lcS.mk hlt ⟨sH.trans s2,s2 _ _ hDy,?_⟩
   rw[ez,qL keep hy,if_neg (by rw[hk];exact zft),append_nil]
 ·rintro zs H2 ⟨s2,hDy,ez⟩
  rw[take_of_length_le (by omega)] at ez
  rw[ez] at hDy;exact hd H2 s2 hDy
end L2
namespace L2
open PySem PySem.Spec PyProof.Rows PySem.Builtin
section
variable {prog:Program}{w:World}{A:Around}{E:VSP}{s:Shared}{it l ea C t:Addr}{od:Option Addr}{tb:Value}{i:Nat}{items:Array Value}{Q:Option Value->Shared->Prop}
variable {tt:Addr}
end
end L2
namespace L2
open PySem PySem.Spec PyProof.Rows
section
variable {X:Cx}{tg:Expr}
theorem qe{X:Cx}:xC X (.builtin "len") (fun xs H Q=>∃(a:Addr) (S:Str->Bool) (n:Nat),xs=[.ref a]/\H a=some (wc X.prog X.w a S n)/\Q (.int n) H):=by
 intro pins s σ H xs us Q I r h;obtain⟨a,S,n,rfl,e,q⟩:=h;obtain⟨u,rfl,ru⟩:=wG r;cases ru;obtain⟨o,es,ep,t,ho,hx,hd,_,_,hb,hf,hn⟩:=(I.hok a _ e).1;have h63:(es.size:Int)<2 ^ 63:=by
  have:scanBound<2 ^ 63:=by unfold scanBound;decide
  omega
 refine call_len_set ho hx hd hf h63 ?_;exact⟨.int es.size,H,I.tok _,⟨_,rfl⟩,by rw[hn];exact q⟩
theorem zf4{α : Type}{R:Addr->α->Prop}{us:List Addr}{rows:List α}(h:Paired R us rows)(keep : α->Bool):∃vs:List Addr,((us.zip rows).filter fun p=>keep p.2).map (fun p=>V.ref p.1)=vs.map V.ref/\Paired R vs (rows.filter keep):=by
 induction h with
 | nil=>exact⟨[],rfl,.nil⟩
 | cons r t ih=>
  rename_i u y us ys;obtain⟨vs,e,p⟩:=ih;rw[List.zip_cons_cons,filter_cons,filter_cons];cases hk:keep y with
  | true=>
   exists u::vs,?_,?_
   ·rw[if_pos rfl,map_cons,e]
    rfl
   ·rw[if_pos rfl]
    exact .cons r p
  | false=>exact⟨vs,by rw[if_neg zft,e],by rw[if_neg zft];exact p⟩
theorem qV{α : Type}{R:Addr->α->Prop}{us:List Addr}{rows:List α}(h:Paired R us rows)(keep : α->Bool)(out : α->V):((us.zip rows).filter fun p=>keep p.2).map (fun p=>out p.2)=(rows.filter keep).map out:=by
 induction h with
 | nil=>rfl
 | cons r t ih=>
  rename_i u y us ys;rw[List.zip_cons_cons,filter_cons,filter_cons];cases hk:keep y with
  | true=>rw[if_pos rfl,if_pos rfl,map_cons,map_cons,ih]
  | false=>rw[if_neg zft,if_neg zft,ih]
theorem jP{α : Type}{K:Frag}{a:Addr}{us:List Addr}{rows:List α}{caps:List (Option Nat)}{g:TG}{tt:TT}{te:TE}{σ : L2.St}{H1:Hp}{Q:VK}{D:Addr}(R:Hp->Addr->α->Prop)(keep : α->Bool)(out:Addr->α->V)(hD:H1 D=none)(ha:H1 a=some (.lst (us.map V.ref)))(hu:Paired (R H1) us rows)(hn:rows.length<=1000)
  (hs:∀(i:Nat) (u:Addr) (y : α) (H:Hp) (N:VK) (S:Hp->Prop),us[i]?=some u->rows[i]?=some y->R H1 u y->zq H1 H->(∀H',zq H H'->keep y=true->N (out u y) H')->(∀H',zq H H'->keep y=false->S H')->g (.ref u) (xl caps σ) H fun σ2 H2=>tt σ2 H2 fun ok H3=>(ok=true->te σ2 H3 N)/\(ok=false->S H3))
  (hd:∀H,zq H1 H->H D=some (.lst (((us.zip rows).filter fun p=>keep p.2).map fun p=>out p.1 p.2))->Q (.ref D) H):LCr (Itl K a) caps g tt te σ H1 Q D:=by
 have hl:us.length=rows.length:=hu.length;have lz:(us.zip rows).length=rows.length:=by rw[List.length_zip,hl,Nat.min_self]
 refine zcd (K:=K) (xs:=us.map V.ref) (us.zip rows) (fun p=>keep p.2) (fun p=>out p.1 p.2) hD (zh ha) (by rw[length_map,lz,hl]) (by rw[length_map,hl];exact hn) (fun i x y H N S hx hy sH n1 s1=>?_) hd
 have hi:i<rows.length:=by rw[<- lz];exact(List.getElem?_eq_some_iff.mp hy).1
 have e1:(us.zip rows)[i]?=some (us[i],rows[i]):=by
  rw[getElem?_eq_getElem (by omega),List.getElem_zip]
 rw[e1] at hy;cases hy;have hu1:us[i]?=some us[i]:=getElem?_eq_getElem (by omega)
 rw[getElem?_map,hu1] at hx;cases hx;obtain⟨d,hd',hr⟩:=Paired.get hu hu1;have e2:rows[i]?=some rows[i]:=getElem?_eq_getElem hi;rw[e2] at hd';cases hd';exact hs i us[i] rows[i] H N S hu1 e2 hr sH n1 s1
theorem zg7{K:Frag}{a:Addr}{xs:List V}{caps:List (Option Nat)}{g:TG}{tt:TT}{te:TE}{σ : St}{H1:Hp}{Q:VK}{D:Addr}(Pv:Nat->List V->Hp->Prop)(h0:Pv 0 [] (upd H1 D (.lst [])))
  (hl:∀i ys H,Pv i ys H->SqT K H a xs)
  (hs:∀i x ys H,i<xs.length->xs[i]?=some x->Pv i ys H->g x (xl caps σ) H fun σ2 H2=>tt σ2 H2 fun ok H3=>(ok=true->te σ2 H3 (lcN xs.length i D Pv ys))/\(ok=false->lcS xs.length i Pv ys H3))
  (hd:∀ys H,Pv xs.length ys H->Q (.ref D) H):LCr (Itt K a) caps g tt te σ H1 Q D:=by
 exists fun i m ys H=>m=xs.length - i/\i<=xs.length/\Pv i ys H,⟨xs.length,by simp,zero_le _,h0⟩,?_
 rintro i m ys H ⟨rfl,hi,p⟩;have q:=hl i ys H p;by_cases hlt:i<xs.length
 ·refine .inr ⟨⟨xs,xs[i],q,by simp [hlt]⟩,fun x H' y=>?_⟩
  obtain⟨e,y⟩:=y;subst e;exact hs i x ys _ hlt (y xs q) p
 ·have e:i=xs.length:=by omega
  subst e;exact .inl ⟨⟨xs,q,le_refl _⟩,hd ys H p⟩
theorem zfD{K:Frag}{a:Addr}{xs:List V}{m:Nat}{caps:List (Option Nat)}{g:TG}{tt:TT}{te:TE}{σ : St}{H1:Hp}{Q:VK}{D:Addr}(ds:List Dt)(hD:H1 D=none)(ha:SqT K H1 a xs)(hx:xs.length=ds.length)(hn:xs.length<=1000)
  (hs:∀(i:Nat) (x:V) (d:Dt) (H:Hp) (Qf:VK) (Qs:Hp->Prop),xs[i]?=some x->ds[i]?=some d->zq H1 H->(∀v H',zq H H'->zz K (fun a=>H a=none) H' m v d->Qf v H')->
   g x (xl caps σ) H fun σ2 H2=>tt σ2 H2 fun ok H3=>(ok=true->te σ2 H3 Qf)/\(ok=false->Qs H3))
  (hd:∀vs H,zq H1 H->H D=some (.lst vs)->Paired (zz K (fun a=>a≠D/\H1 a=none) H m) vs ds->Q (.ref D) H):LCr (Itt K a) caps g tt te σ H1 Q D:=by
 have sz : 1000<=sizeLine:=by decide
 refine zg7 (K:=K) (xs:=xs) (fun i ys H'=>zq H1 H'/\H' D=some (.lst ys)/\Paired (zz K (fun a=>a≠D/\H1 a=none) H' m) ys (ds.take i)) ⟨fun b u e=>by rw[zg (zi e hD)];exact e,za,.nil⟩ (fun i ys H h=>h.1.sqT ha) ?_ ?_
 ·rintro i x ys H hi hx' ⟨sH,hDy,hp⟩
  have hid:i<ds.length:=by omega
  have ed:ds[i]?=some ds[i]:=getElem?_eq_getElem hid;refine hs i x ds[i] H _ _ hx' ed sH fun v H' s' hv=>?_;have ly:ys.length<=i:=by rw[hp.length,length_take];omega
  refine lcN.mk hi (by omega) (s' _ _ hDy) (by omega) ⟨fun b u e=>?_,za,?_⟩
  ·rw[zg (zi e hD)]
   exact s' _ _ (sH _ _ e)
  ·rw[take_succ_eq_append_getElem hid]
   refine Paired.snoc (zm (fun _ _ z=>yS (s' _ _ hDy) (fun b o=>⟨o,o.1⟩) (z.same s')) hp) (yS (s' _ _ hDy) (fun b o=>?_) hv);have nb:b≠D:=fun e=>by subst e;rw[o] at hDy;cases hDy
   exact⟨⟨nb,sH.free o⟩,nb⟩
 ·rintro ys H ⟨sH,hDy,hp⟩
  rw[hx,take_length] at hp;exact hd ys H sH hDy hp
variable {pins:PnL}{σ:St}{e o:Expr}{es:List Expr}{ta:TE}{t:TA}{E:XK}{m:Str}{pos apos:Pos}{k:Nat}{f C:Addr}{fd:FuncData}{ps:List Str}{sp:Sp}
theorem zgD{pl:Sem Bool}(he:PE X o ta)(c:Cls X.K C)(hm:xw X.K C m f)(F:zA X.prog X.w X.K X.mg X.base (CXs X.prog X.w) k f fd ps sp)(hr:yj k X.A)(hb:z8 X.K fd ps [])(hp:jk X pins σ E)(ha:PA X (e::es) t)
  (hst:starEach (e::es) X.env=(false,eval e X.env)::starEach es X.env:=by rfl) (hpl:(backTo pos (starEach es X.env)).any (·.1)=false:=by rfl)
  (ht:eval (.Call (.Attribute o m apos) (e::es) [] pos) X.env=(do
   let ov <- eval o X.env
   standAt apos.atName
   let (f,first) <- holding [ov] (getMethod ov m pl)
   callWith pos f first (backTo pos (starEach (e::es) X.env)) (backToKw pos (keywordEach [] X.env))):=by rfl) :
  PE1 X pins σ (.Call (.Attribute o m apos) (e::es) [] pos) (zcz C m sp [] E ta t):=by
 exists fun s H Q I h=>?_;refine methodCall_KW (pl:=pl) (thn (he pins s σ H _ I h) fun u s1 ⟨x,H1,I1,rx,a,dx,fs,ex,ea,l,q⟩=>?_) ht;subst ex;obtain rfl:u=Value.ref a:=rx;refine wo I1 ea c hm l ?_;refine callWith_K (first:=[.ref a]) (h₀:=X.base) I.ok.mod.kin hm.kp (thn (ha pos pins s1 σ H1 _ I1 q) fun us s2 ⟨vs,H2,I2,r,q2⟩=>⟨I2.kIn,?_⟩) hst hpl
 have r2:zX ((.ref a::vs)++[]) ((.ref a::us)++[]):=zX.append (.cons rfl r) .nil;have hl:((.ref a::us)++[]:List Value).length=ps.length:=by rw[<- r2.length];exact F.len _ _ _ _ q2
 refine wpAny_call (codeAny_mono (F.run X.A X.stack s2 H2 ⟨.ref a::us,[]⟩ ((.ref a::us)++[]) ((.ref a::vs)++[]) Q E hr I2.env0 (hb s2 (.ref a::us) I2.kIn hl) r2 q2) fun r s' hq=>?_);cases r with
 | error e=>exact hp H2 s2 e s' I2 hq
 | ok fl=>
  cases fl with
  | ret u=>exact I2.after hq
  | next=>exact False.elim hq
  | brk=>exact False.elim hq
  | cont=>exact False.elim hq
variable {elts:List Expr}{x1:Nat}{tpos:Pos}
variable {P:Program}{w:World}{A:Around}{R:Result->Shared->Prop}{I:Addr}{fp wr:List Addr}{G:Array GenState->Array GenState->Prop}{n:Nat}{Pr:Nat->Value->Prop}{Sg:Nat->Shared->Prop}
theorem ziH{P:Program}{w:World}{X:Cx}:xm (CXs P w) X (fun _ _ _=>False):=fun pins σ H1 s1 e s' I q=>by
 obtain⟨_,_,_,_,_,_,_,q⟩:=q;exact q.elim
theorem zg9{β : Type}{K:Frag}{a:Addr}{xs:List V}{bs:List β}{caps:List (Option Nat)}{g:TG}{tt:TT}{te:TE}{σ : L2.St}{H1:Hp}{Q:VK}{D:Addr}(R':Hp->Addr->β->Prop)
  (sR':∀{H H' v r},R' H v r->zq H H'->R' H' v r) (uR':∀{H v r D ys o},R' H v r->H D=some (.lst ys)->R' (upd H D o) v r)
  (ha:SqL K H1 a xs) (hl:xs.length=bs.length) (hn:bs.length<=500) (hD:H1 D=none)
  (hs:∀(i:Nat) x b H (Qf:VK) (Qs:Hp->Prop),xs[i]?=some x->bs[i]?=some b->zq H1 H->(∀v H',zq H H'->R' H' v b->Qf (.ref v) H')->
   g x (xl caps σ) H fun σ2 H2=>tt σ2 H2 fun ok H3=>(ok=true->te σ2 H3 Qf)/\(ok=false->Qs H3))
  (hd:∀vs H,zq H1 H->H D=some (.lst (vs.map V.ref))->Paired (R' H) vs bs->Q (.ref D) H):LCr (Itl K a) caps g tt te σ H1 Q D:=by
 refine xx (K:=K) (xs:=xs) (fun i ys H'=>∃vs,ys=vs.map V.ref/\zq H1 H'/\H' D=some (.lst ys)/\Paired (R' H') vs (bs.take i)) ⟨[],rfl,zd hD _,za,.nil⟩ (fun i ys H' ⟨_,_,h,_⟩=>h.seq ha) ?_ ?_
 ·rintro i x ys H' hlt hx ⟨vs,rfl,sH,hDy,fv⟩
  have hi:i<bs.length:=by omega
  have hb:bs[i]?=some bs[i]:=getElem?_eq_getElem hi;have nl:(vs.map V.ref).length<=i:=by
   rw[length_map,fv.length,length_take];omega
  refine hs i x _ H' _ _ hx hb sH (fun v H2 s2 r2=>?_);have s3:zq H1 (upd H2 D (.lst (vs.map V.ref++[.ref v]))):=fun b o z=>by
   rw[zg (zi z hD)];exact s2 _ _ (sH b o z)
  refine lcN.mk hlt (le_of_lt (zK (by omega))) (s2 _ _ hDy) nl ⟨vs++[v],by rw[map_append];rfl,s3,za,?_⟩
  rw[take_succ_eq_append_getElem hi];exact Paired.snoc (zm (fun w r' z=>uR' (sR' z s2) (s2 _ _ hDy)) fv) (uR' r2 (s2 _ _ hDy))
 ·rintro ys H ⟨vs,rfl,sH,hDy,fv⟩
  rw[hl,take_length] at fv;exact hd vs H sH hDy fv
end
end L2
namespace L2
open PySem PyProof.Rows
def zhY(X:Cx)(ss:List Stmt):TS:=fun D σ H=>∃t,PSs X ss t/\t D σ H
theorem wU{X:Cx}{ss:List Stmt}:PSs X ss (zhY X ss):=⟨fun pins s σ H D I ⟨_,p,h⟩=>p pins s σ H D I h⟩
theorem zC{X:Cx}{st:Stmt}{xk:List Stmt}{t:TS}{D:L2.w4}{σ : L2.St}{H:Hp}(p:PS X st t)(h:vV t (zhY X xk) D σ H):zhY X (st::xk) D σ H:=⟨_,zk p wU,h⟩
end L2
namespace L2
open PySem PySem.Spec PyProof.Rows
section
variable {X:Cx}{pins:PnL}{σ:St}{H:Hp}{s:Shared}{ok:Addr->Prop}
end
section
variable {prog:Program}{w:World}{κ : Type}[DecidableEq κ] {knd:HeapKind prog w κ}{A:Around}{E:VSP}{s:Shared}
end
section
variable {X:Cx}{P:Program}{w:World}{pos:Pos}
variable {o e1 e2:Expr}{td:TE}{ta:TA}{apos cpos:Pos}
variable {A:Around}{E:VSP}{s:Shared}
variable {R:Result->Shared->Prop}{I:Addr}{fp wr:List Addr}{G:Array GenState->Array GenState->Prop}{n:Nat}{Pr:Nat->Value->Prop}{Sg:Nat->Shared->Prop}
end
namespace FS
end FS
section
variable {P:Program}{w:World}{A:Around}{E:VSP}{s:Shared}
end
end L2
namespace L2
open PySem PySem.Spec PyProof.Rows
section
variable {P:Program}{w:World}{A:Around}{E:VSP}{s:Shared}
variable {prog:Program}
variable {X:Cx}
end
end L2
namespace K62
open PySem L2 PyProof.Rows
theorem za1{l g:Nat}{r:Rw}{rs:List Rw}(hg:grp r.k=g)(hb:vq l g=false)(h:yW g rs=true):yW l (r::rs)=true:=by
 show(!vq l (grp r.k)&&yW (grp r.k) rs)=true;rw[hg,hb,h];rfl
theorem jG{g:Nat}(he:vq g g=false):∀(xs ys:List Rw) (l:Nat),vq l g=false->(∀r∈xs,grp r.k=g)->yW l ys=true->yW g ys=true->yW l (xs++ys)=true
 | [],_,_,_,_,h1,_=>h1
 | r::rs,ys,l,hb,hg,_,h2=>za1 (hg r mem_cons_self) hb (jG he rs ys g he (fun x hx=>hg x (mem_cons_of_mem _ hx)) h2 h2)
theorem zcV{g l:Nat}{xs ys:List Rw}(hl:xs.length<=1)(hb:vq l g=false)(hg:∀r∈xs,grp r.k=g)(h1:yW l ys=true)(h2:yW g ys=true):yW l (xs++ys)=true:=by
 match xs,hl with
 | [],_=>exact h1
 | [r],_=>exact za1 (hg r mem_cons_self) hb h2
theorem zgG{xs0 xs1 xs2 xs3:List Rw}(g0:∀r∈xs0,grp r.k=0)(g1:∀r∈xs1,grp r.k=1)(l1:xs1.length<=1)(g2:∀r∈xs2,grp r.k=2)(g3:∀r∈xs3,grp r.k=3)(l3:xs3.length<=1):yW 0 (xs0++(xs1++(xs2++xs3)))=true:=by
 have h3:∀l,l<=2->yW l xs3=true:=fun l hl=>by
  have:=zcV (g:=3) (l:=l) (ys:=[]) l3 (by match l,hl with|0,_=>rfl|1,_=>rfl|2,_=>rfl) g3 rfl rfl
  rwa [append_nil] at this
 have h2:∀l,l<=1->yW l (xs2++xs3)=true:=fun l hl=>jG (g:=2) rfl xs2 xs3 l (by match l,hl with|0,_=>rfl|1,_=>rfl) g2 (h3 l (by omega)) (h3 2 (by omega))
 have h1:yW 0 (xs1++(xs2++xs3))=true:=zcV (g:=1) l1 rfl g1 (h2 0 (by omega)) (h2 1 (by omega))
 exact jG (g:=0) rfl xs0 _ 0 rfl g0 h1 h1
theorem xN(a b:List Rw):nms (a++b)=nms a++nms b:=by unfold nms;rw[filter_append,map_append]
theorem jg(r:Rw):nms [r]=if xo r.k=true then [r.z] else []:=by
 unfold nms;cases h:xo r.k <;> simp [h]
structure zjd(mg:Str->Option Value):Prop where
 len:mg "len"=none
 range:mg "range"=none
 set:mg "set"=none
 en:mg "enumerate"=none
 list:mg "list"=none
 isi:mg "isinstance"=none
 bool:mg "bool"=none
 tuple:mg "tuple"=none
inductive qW(K:Frag)(vs:List V)(H:Hp)(Q:VK)(E:XK):Prop|mk(a:Addr)(ns:List Int)(k:Nat):vs=[.ref a,.int k]->SqL K H a (ns.map V.int)->ns.length<=63->(∀(n:Int) (H':Hp),zq H H'->Q (.int n) H')->qW K vs H Q E
def zaM(c k:Int):Int:=(c % 2147483647+97 * k+5) * 48271 % 2147483647 * ((c % 2147483647+97 * k+5) * 48271 % 2147483647) % 2147483629
inductive zbC(vs:List V)(H:Hp)(Q:VK)(E:XK):Prop|mk(c k:Int):vs=[.int c,.int k]->(Q (.int (zaM c k)) H)->zbC vs H Q E
def pnL(a b c q k:Nat):List Nat:=([97+a,97+b,97+c]).take (k % 4)++[97+(q+k) % 26]
def pn(a b c q k:Nat):Str:=⟨(pnL a b c q k).toArray⟩
def zaX(a b c q:Nat):List Str:=(List.range 8).map (pn a b c q)++[⟨(pnL a b c q 0++[97,97,97,97,97]).toArray⟩,⟨(pnL a b c q 1++[97,97,97,97,97]).toArray⟩]
def zcP:List Str:=(List.range 26).map fun k=>(⟨#[97+k]⟩:Str)
theorem wV{l:List Nat}(h1 : 1<=l.length)(h2:l.length<=8)(h3:∀c∈l,97<=c/\c<=122):xn ⟨l.toArray⟩=true:=by
 unfold xn;have e:(⟨l.toArray⟩:Str).length=l.length:=by show l.toArray.size=_;simp
 rw[e,decide_eq_true h1,decide_eq_true h2,Bool.true_and,Bool.true_and];show l.toArray.toList.all low=true;rw[all_eq_true];intro c hc;have hc':c∈l:=by simpa using hc
 obtain⟨g1,g2⟩:=h3 c hc';unfold low;rw[decide_eq_true g1,decide_eq_true g2];rfl
theorem xL(a b c q k:Nat):(pnL a b c q k).length=k % 4+1:=by
 unfold pnL;rw[length_append,length_take]
 have:k % 4<4:=mod_lt _ (by decide)
 show min (k % 4) 3+1=_;omega
theorem zcQ{a b c q k:Nat}(ha:a<26)(hb:b<26)(hc:c<26):∀x∈pnL a b c q k,97<=x/\x<=122:=by
 intro x hx;unfold pnL at hx;rcases List.mem_append.mp hx with hx|hx
 ·have:=mem_of_mem_take hx
  simp only[mem_cons,not_mem_nil,or_false] at this;omega
 ·rw[List.mem_singleton.mp hx]
  have:(q+k) % 26<26:=mod_lt _ (by decide)
  omega
theorem jb{l m:List Nat}(h:(⟨l.toArray⟩:Str)=⟨m.toArray⟩):l=m:=by
 have:l.toArray=m.toArray:=congrArg Str.cps h
 simpa using this
theorem zbZ{a b c q:Nat}(ha:a<26)(hb:b<26)(hc:c<26):∀z∈zaX a b c q,xn z=true:=by
 intro z hz;unfold zaX at hz;rcases List.mem_append.mp hz with hz|hz
 ·obtain⟨k,_,rfl⟩:=List.mem_map.mp hz
  refine wV (by rw[xL];omega) (by rw[xL];have:k % 4<4:=mod_lt _ (by decide);omega) (zcQ ha hb hc)
 ·have hx:∀k,∀x∈pnL a b c q k++[97,97,97,97,97],97<=x/\x<=122:=fun k x hx=>by
   rcases List.mem_append.mp hx with hx|hx
   ·exact zcQ ha hb hc x hx
   ·simp only[mem_cons,not_mem_nil,or_false] at hx
    omega
  simp only[mem_cons,not_mem_nil,or_false] at hz;rcases hz with rfl|rfl
  ·exact wV (by rw[length_append];simp) (by rw[length_append,xL];decide) (hx 0)
  ·exact wV (by rw[length_append];simp) (by rw[length_append,xL];decide) (hx 1)
theorem ziy{a b c q j k:Nat}(hj:j<8)(hk:k<8)(e:pn a b c q j=pn a b c q k):j=k:=by
 have h:=congrArg List.getLast? (jb e);unfold pnL at h;rw[List.getLast?_append,List.getLast?_append] at h;simp at h;omega
theorem zeU(a b c q:Nat):(zaX a b c q).Nodup:=by
 unfold zaX;refine List.nodup_append.mpr ⟨?_,?_,?_⟩
 ·refine List.pairwise_map.mpr (List.Pairwise.imp_of_mem ?_ List.nodup_range)
  intro x y hx hy ne e;exact ne (ziy (List.mem_range.mp hx) (List.mem_range.mp hy) e)
 ·refine List.nodup_cons.mpr ⟨fun h=>?_,by simp⟩
  have:=congrArg List.length (jb (List.mem_singleton.mp h))
  rw[length_append,length_append,xL,xL] at this;simp at this
 ·intro x hx y hy e
  obtain⟨k,_,rfl⟩:=List.mem_map.mp hx;have hk:k % 4<4:=mod_lt _ (by decide)
  simp only[mem_cons,not_mem_nil,or_false] at hy;rcases hy with rfl|rfl
  ·have:=congrArg List.length (jb e)
   rw[length_append,xL,xL] at this;simp at this;omega
  ·have:=congrArg List.length (jb e)
   rw[length_append,xL,xL] at this;simp at this;omega
theorem zb0:∀z∈zcP,xn z=true:=by decide +kernel
theorem zeV:zcP.Nodup:=by
 unfold zcP;refine List.pairwise_map.mpr (List.Pairwise.imp_of_mem ?_ List.nodup_range);intro x y hx hy ne e
 have:=congrArg Str.cps e
 simp at this;exact ne this
theorem zf3:∀m,m<26->(Str.ofString "abcdefghijklmnopqrstuvwxyz").cps.toList[m]?=some (97+m):=by decide +kernel
theorem vM{i:Int}(h0 : 0<=i)(h1:i<26):atI (Str.ofString "abcdefghijklmnopqrstuvwxyz").cps.toList i=some (97+i.toNat):=by
 obtain⟨m,rfl⟩:=Int.eq_ofNat_of_zero_le h0;exact xX (zf3 m (by omega))
theorem zh6(x y z:Nat):∀n,n<4->Txt.slice ⟨#[x,y,z]⟩ none (some ((n:Nat):Int))=⟨([x,y,z].take n).toArray⟩
 | 0,_=>rfl
 | 1,_=>rfl
 | 2,_=>rfl
 | 3,_=>rfl
 | n+4,h=>absurd h (by omega)
section
variable {P:Program}{w:World}{K:Frag}{mg:Str->Option Value}{base:Heap}{f:Addr}{fd:FuncData}
theorem zhL:zu ["_law_script","_law_k","_law_cells"] ["_law_script","_law_k"] (zj zin):=fsc
theorem ziR(F:Fun K "_law_nth" "_law_nth" zin f fd):zA P w K mg base CX0 1 f fd ["_law_script","_law_k"] (qW K):=by
 refine F.ok zhL (fun cdv A outer s H vs Q E hr h=>?_);obtain⟨a,ns,k,rfl,hS,l63,q⟩:=h;refine⟨_,zk (zx (i:=2) zhL.nd rfl (Or.inl rfl) (zp yT (y8 wu (pv 0) (yV (pv 1)) (yV (zp yB (pv 1) ze))) (zS (ac ze zc))))
  (zf (zy (zL yw (pv 2) ze (fun _ _=>rfl)))),?_⟩
 obtain⟨ms,em,lm,_⟩:=zf0 ns (some (k:Int)) (some ((k:Int)+1));exists _,rfl,_,rfl,_,rfl,_,rfl,_,_,rfl,rfl,_,rfl,a,_,rfl,hS,fun p hp=>?_;rw[em]
 injections p hp H1 u1 e1
 exists zaS,fun l hl=>?_;have u2:=zd hl (.lst [.int 0]);have big : 1000<=sizeLine:=by decide
 exists p,l,_,_,rfl,rfl,u2 _ _ e1,za,(by rw[length_map];show _+1<=_;omega),fun p3 hp3=>?_
 have u3:=zd hp3 (.lst (ms.map V.int++[.int 0]));have s3:=u1.trans (u2.trans u3);cases ms with
 | nil=>exact⟨_,rfl,p3,_,0,.int 0,rfl,rfl,zh za,rfl,q 0 _ s3⟩
 | cons x xs=>exact⟨_,rfl,p3,_,0,.int x,rfl,rfl,zh za,xX (j:=0) rfl,q x _ s3⟩
theorem zem:zu ["_law_cell","_law_k","_law_first"] ["_law_cell","_law_k"] (zj zez):=fsc
theorem zgN(F:Fun K "_law_stirred" "_law_stirred" zez f fd):zA P w K mg base CX0 1 f fd ["_law_cell","_law_k"] zbC:=by
 refine F.ok zem (fun cdv A outer s H vs Q E hr h=>?_);obtain⟨c,k,rfl,q⟩:=h;refine⟨_,zk (zx (i:=2) zem.nd rfl (Or.inl rfl) (zp zW (zp yG (zp yB (zp yB (zp zW (pv 0) ze) (zp yG ze (pv 1))) ze) ze) ze))
  (zf (zy (zp zW (zp yG (pv 2) (pv 2)) ze))),?_⟩
 exists _,rfl,_,_,rfl,rfl,zp2147483647,_,rfl,_,_,rfl,rfl,.inl ⟨by decide,by decide⟩,_,_,rfl,rfl,_,_,rfl,rfl,_,_,rfl,rfl,.inr ⟨by decide,by decide⟩,_,_,rfl,rfl,zp2147483647,?_
 have h1 : 0<=(c % 2147483647+97 * k+5) * 48271 % 2147483647:=emod_nonneg _ (by decide)
 have h2:(c % 2147483647+97 * k+5) * 48271 % 2147483647<2147483647:=emod_lt_of_pos _ (by decide)
 exact⟨_,rfl,_,rfl,_,_,rfl,rfl,.inl ⟨by omega,by omega⟩,_,_,rfl,rfl,(by show(0:Int)<2147483629;decide),q⟩
theorem zi6{k:Nat}(hk:k<5)(h:xo k=true):grp k=0\/grp k=2:=by
 rcases lt5 hk with rfl|rfl|rfl|rfl|rfl <;> first|(exact .inl rfl)|(exact .inr rfl)|(cases h)
theorem jh{xs:List Rw}{g:Nat}(hg:∀r∈xs,r.ok/\grp r.k=g)(h:g % 2=1):nms xs=[]:=by
 unfold nms;rw[List.filter_eq_nil_iff.mpr (fun r hr e=>?_)]
 ·rfl
 ·obtain⟨ho,q⟩:=hg r hr
  rcases zi6 ho.1 e with z|z <;> rw[z] at q <;> rw[<- q] at h <;> cases h
structure FS where
 (P T G B:List Rw) (L:List Str)
def FS.add(S:FS)(k:Nat)(z:Str)(b:Bool):FS:=match k with
 | 0=>{ S with P:=S.P++[⟨0,z,b⟩] }
 | 1=>{ S with P:=S.P++[⟨1,z,b⟩],L:=S.L++[z] }
 | 2=>{ S with T:=[⟨2,z,b⟩] }
 | 3=>{ S with G:=S.G++[⟨3,z,b⟩],L:=S.L++[z] }
 | _=>{ S with B:=[⟨4,z,b⟩] }
structure FM(i:Nat)(S:FS):Prop where
 okP:∀r∈S.P,r.ok/\grp r.k=0
 okT:∀r∈S.T,r.ok/\grp r.k=1
 okG:∀r∈S.G,r.ok/\grp r.k=2
 okB:∀r∈S.B,r.ok/\grp r.k=3
 lT:S.T.length<=1
 lB:S.B.length<=1
 nd:(nms S.P++nms S.G).Nodup
 sn:∀z∈nms S.P++nms S.G,z∈S.L
 ln:S.P.length+S.T.length+S.G.length+S.B.length<=i
 lL:S.L.length<=i
theorem uw{α : Type}{xs:List α}{y : α}{p : α->Prop}(h:∀x∈xs,p x)(hy:p y):∀x∈xs++[y],p x:=fun x hx=>by
 rcases List.mem_append.mp hx with hx|hx
 ·exact h x hx
 ·rw[List.mem_singleton.mp hx];exact hy
theorem FM.zero:FM 0 ⟨[],[],[],[],[]⟩:=by
 refine⟨?_,?_,?_,?_,?_,?_,?_,?_,?_,?_⟩ <;> first|exact(fun _ h=>nomatch h)|exact zero_le _|exact nodup_nil|exact le_refl _
theorem zfy{a b:List Str}{z:Str}(h:(a++b).Nodup)(hz:z∉a++b):(a++[z]++b).Nodup:=by
 have p:(a++[z]++b).Perm (z::(a++b)):=by
  rw[append_assoc];exact List.perm_middle
 exact p.nodup_iff.mpr (List.nodup_cons.mpr ⟨hz,h⟩)
theorem FM.add{i:Nat}{S:FS}{k:Nat}{z:Str}{b:Bool}(h:FM i S)(hk:k<5)(hz:xn z=true)(hn:xo k=true->z∉S.L):FM (i+1) (S.add k z b):=by
 have ln:=h.ln;have lL:=h.lL;have lT:=h.lT;have lB:=h.lB
 match k,hk with
 | 0,_=>
  have e:nms (S.P++[⟨0,z,b⟩])=nms S.P:=by rw[xN,jg];simp [xo]
  exact⟨uw h.okP ⟨⟨lt_of_sub_eq_succ rfl,hz⟩,rfl⟩,h.okT,h.okG,h.okB,h.lT,h.lB,by show(nms (S.P++_)++nms S.G).Nodup;rw[e];exact h.nd,by show ∀y∈nms (S.P++_)++nms S.G,y∈S.L;rw[e];exact h.sn,
   by show(S.P++[_]).length+S.T.length+S.G.length+S.B.length<=i+1;rw[length_append,length_singleton];omega,le_succ_of_le h.lL⟩
 | 1,_=>
  have e:nms (S.P++[⟨1,z,b⟩])=nms S.P++[z]:=by rw[xN,jg];simp [xo]
  have nz:z∉nms S.P++nms S.G:=fun m=>hn rfl (h.sn z m);refine⟨uw h.okP ⟨⟨lt_of_sub_eq_succ rfl,hz⟩,rfl⟩,h.okT,h.okG,h.okB,h.lT,h.lB,by show(nms (S.P++_)++nms S.G).Nodup;rw[e];exact zfy h.nd nz,?_,
   by show(S.P++[_]).length+S.T.length+S.G.length+S.B.length<=i+1;rw[length_append,length_singleton];omega,by show(S.L++[_]).length<=i+1;rw[length_append,length_singleton];omega⟩
  show ∀y∈nms (S.P++_)++nms S.G,y∈S.L++[z];rw[e];intro y hy;rw[mem_append,mem_append] at hy;rcases hy with (hy|hy)|hy
  ·exact mem_append_left _ (h.sn y (mem_append_left _ hy))
  ·exact mem_append_right _ hy
  ·exact mem_append_left _ (h.sn y (mem_append_right _ hy))
 | 2,_=>
  exists h.okP,fun r hr=>?_,h.okG,h.okB,le_refl _,h.lB,h.nd,h.sn,?_,le_succ_of_le h.lL
  ·rw[List.mem_singleton.mp hr];exact⟨⟨lt_of_sub_eq_succ rfl,hz⟩,rfl⟩
  ·show S.P.length+1+S.G.length+S.B.length<=i+1
   omega
 | 3,_=>
  have e:nms (S.G++[⟨3,z,b⟩])=nms S.G++[z]:=by rw[xN,jg];simp [xo]
  have nz:z∉nms S.P++nms S.G:=fun m=>hn rfl (h.sn z m);refine⟨h.okP,h.okT,uw h.okG ⟨⟨lt_of_sub_eq_succ rfl,hz⟩,rfl⟩,h.okB,h.lT,h.lB,?_,?_,
   by show S.P.length+S.T.length+(S.G++[_]).length+S.B.length<=i+1;rw[length_append,length_singleton];omega,by show(S.L++[_]).length<=i+1;rw[length_append,length_singleton];omega⟩
  ·show(nms S.P++nms (S.G++_)).Nodup
   rw[e,<- append_assoc]
   have:=zfy (a:=nms S.P++nms S.G) (b:=[]) (z:=z) (by rw[append_nil];exact h.nd) (by rw[append_nil];exact nz)
   rwa [append_nil] at this
  ·show ∀y∈nms S.P++nms (S.G++_),y∈S.L++[z]
   rw[e];intro y hy;rw[mem_append,mem_append] at hy;rcases hy with hy|hy|hy
   ·exact mem_append_left _ (h.sn y (mem_append_left _ hy))
   ·exact mem_append_left _ (h.sn y (mem_append_right _ hy))
   ·exact mem_append_right _ hy
 | 4,_=>
  exists h.okP,h.okT,h.okG,fun r hr=>?_,h.lT,le_refl _,h.nd,h.sn,?_,le_succ_of_le h.lL
  ·rw[List.mem_singleton.mp hr];exact⟨⟨lt_of_sub_eq_succ rfl,hz⟩,rfl⟩
  ·show S.P.length+S.T.length+S.G.length+1<=i+1
   omega
def FS.rows(S:FS):List Rw:=S.P++S.T++S.G++S.B
theorem FM.valid{i:Nat}{S:FS}{bars:List Str}(h:FM i S)(hi:i<=24)(lb:bars.length<=60)(bn:∀z∈bars,xn z=true)(bd:bars.Nodup)(bl:∀z∈bars,z∉S.L):zdk S.rows bars:=by
 have en:nms S.rows=nms S.P++nms S.G:=by
  unfold FS.rows;rw[xN,xN,xN,jh h.okT rfl,jh h.okB rfl,append_nil,append_nil]
 exists fun r hr=>?_,?_,lb,?_,bn,?_
 ·unfold FS.rows at hr
  rw[mem_append,mem_append,mem_append] at hr;rcases hr with ((hr|hr)|hr)|hr
  ·exact(h.okP r hr).1
  ·exact(h.okT r hr).1
  ·exact(h.okG r hr).1
  ·exact(h.okB r hr).1
 ·unfold FS.rows
  have:=h.ln
  simp only[length_append];omega
 ·unfold FS.rows
  rw[append_assoc,append_assoc];exact zgG (fun r hr=>(h.okP r hr).2) (fun r hr=>(h.okT r hr).2) h.lT (fun r hr=>(h.okG r hr).2) (fun r hr=>(h.okB r hr).2) h.lB
 ·rw[en]
  exact List.nodup_append.mpr ⟨h.nd,bd,fun x hx y hy e=>bl y hy (e ▸ h.sn x hx)⟩
theorem TAt.keep{H:Hp}{v D:Addr}{r:Rw}{o:HO}(h:TAt H v r)(hD:∀vs,H D≠some (.tup vs)):TAt (L2.upd H D o) v r:=by
 show L2.upd H D o v=_;rw[L2.zg (fun e=>by subst e;exact hD _ h)]
 exact h
def qh(H:Hp)(l:Addr)(rows:List Rw):Prop:=∃us:List Addr,H l=some (.lst (us.map V.ref))/\Paired (TAt H) us rows
theorem qh.same{H H':Hp}{l:Addr}{rows:List Rw}(h:qh H l rows)(s:zq H H'):qh H' l rows:=let ⟨us,h1,h2⟩:=h;⟨us,s _ _ h1,zZ s h2⟩
theorem qh.keep{H:Hp}{l D:Addr}{rows:List Rw}{o:HO}(h:qh H l rows)(ne:l≠D)(hD:∀vs,H D≠some (.tup vs)):qh (upd H D o) l rows:=
 let ⟨us,h1,h2⟩:=h
 ⟨us,by rw[zg ne];exact h1,zm (fun _ _ z=>z.keep hD) h2⟩
theorem qh.snoc{H:Hp}{l u:Addr}{rows:List Rw}{r:Rw}{us:List Addr}(h1:H l=some (.lst (us.map V.ref)))(h2:Paired (TAt H) us rows)(hu:TAt H u r):qh (upd H l (.lst (us.map V.ref++[.ref u]))) l (rows++[r]):=by
 have hD:∀vs,H l≠some (.tup vs):=fun vs e=>by rw[h1] at e;cases e
 exists us++[u],by rw[za,map_append];rfl,Paired.snoc (zm (fun _ _ z=>z.keep hD) h2) (hu.keep hD)
theorem xa{z:Str}:∀{zs:List Str},inV (.str z) (zs.map V.str)=decide (z∈zs)
 | []=>by simp [inV]
 | y::ys=>by
  have ih:=xa (z:=z) (zs:=ys);show(eqV (.str y) (.str z)||inV (.str z) (ys.map V.str))=_
  rw[ih]
  have:eqV (.str y) (.str z)=decide (z=y):=by
   show(y==z)=_;rw[Bool.eq_iff_iff,beq_iff_eq,decide_eq_true_eq];exact⟨Eq.symm,Eq.symm⟩
  rw[this];simp
theorem xA:∀{zs:List Str},(zs.map V.str).all xR=true
 | []=>rfl
 | _::ys=>by
  show(true&&(ys.map V.str).all xR)=true;rw[xA];rfl
theorem TAt.same{H H':Hp}{u:Addr}{r:Rw}(h:TAt H u r)(s:zq H H'):TAt H' u r:=s _ _ h
structure FI(H H':Hp)(lp lt ll:Addr)(S:FS):Prop where
 sm:zq H H'
 hp:qh H' lp S.P
 ht:qh H' lt S.G
 hl:H' ll=some (.lst (S.L.map V.str))
 n1:lp≠lt
 n2:lp≠ll
 n3:lt≠ll
 m1:H lp=none
 m2:H lt=none
 m3:H ll=none
variable {H H' H'':Hp}{lp lt ll u:Addr}{S:FS}{r:Rw}{z:Str}{b:Bool}
theorem FI.same(h:FI H H' lp lt ll S)(s:zq H' H''):FI H H'' lp lt ll S:=
 ⟨h.sm.trans s,h.hp.same s,h.ht.same s,s _ _ h.hl,h.n1,h.n2,h.n3,h.m1,h.m2,h.m3⟩
theorem FI.smU(h:FI H H' lp lt ll S){l:Addr}(hl:H l=none){o:HO}:zq H (upd H' l o):=fun b u e=>by rw[zg (zi e hl)];exact h.sm _ _ e
theorem FI.addL(h:FI H H' lp lt ll S):FI H (upd H' ll (.lst (S.L.map V.str++[.str z]))) lp lt ll { S with L:=S.L++[z] }:=by
 have hD:∀vs,H' ll≠some (.tup vs):=fun vs e=>by rw[h.hl] at e;cases e
 exact⟨h.smU h.m3,h.hp.keep h.n2 hD,h.ht.keep h.n3 hD,by rw[za,map_append];rfl,h.n1,h.n2,h.n3,h.m1,h.m2,h.m3⟩
theorem FI.addP{us:List Addr}(h:FI H H' lp lt ll S)(h1:H' lp=some (.lst (us.map V.ref)))(h2:Paired (TAt H') us S.P)(hu:TAt H' u r):FI H (upd H' lp (.lst (us.map V.ref++[.ref u]))) lp lt ll { S with P:=S.P++[r] }:=by
 have hD:∀vs,H' lp≠some (.tup vs):=fun vs e=>by rw[h1] at e;cases e
 exact⟨h.smU h.m1,.snoc h1 h2 hu,h.ht.keep h.n1.symm hD,by rw[zg h.n2.symm];exact h.hl,h.n1,h.n2,h.n3,h.m1,h.m2,h.m3⟩
theorem FI.addG{us:List Addr}(h:FI H H' lp lt ll S)(h1:H' lt=some (.lst (us.map V.ref)))(h2:Paired (TAt H') us S.G)(hu:TAt H' u r):FI H (upd H' lt (.lst (us.map V.ref++[.ref u]))) lp lt ll { S with G:=S.G++[r] }:=by
 have hD:∀vs,H' lt≠some (.tup vs):=fun vs e=>by rw[h1] at e;cases e
 exact⟨h.smU h.m2,h.hp.keep h.n1 hD,.snoc h1 h2 hu,by rw[zg h.n3.symm];exact h.hl,h.n1,h.n2,h.n3,h.m1,h.m2,h.m3⟩
structure VR(rows:List Rw):Prop where
 ok:∀r∈rows,r.ok
 l24:rows.length<=24
 ord:yW 0 rows=true
 nd:(nms rows).Nodup
theorem FM.vr{i:Nat}{S:FS}(h:FM i S)(hi:i<=24):VR S.rows:=by
 have v:=h.valid (bars:=[]) hi (zero_le _) (fun _ h=>nomatch h) nodup_nil (fun _ h=>nomatch h);exact⟨v.ok,v.l24,v.ord,by have:=v.nd;rwa [append_nil] at this⟩
theorem uo{r:Rw}(h:r.ok):atI (rv r) 0=some (.str (kw r.k)):=by
 obtain⟨k,z,b⟩:=r;rcases lt5 h.1 with e|e|e|e|e <;> (cases e;rfl)
theorem zap{r:Rw}(h:r.ok):atI (rv r) 1=some (.str r.z):=by
 obtain⟨k,z,b⟩:=r;rcases lt5 h.1 with e|e|e|e|e <;> (cases e;rfl)
theorem zfI{k:Nat}(h:k<5):inV (.str (kw k)) [.str "both",.str "tag"]=xo k:=zc3 k h
theorem zi4{k:Nat}(h:k<5):inV (.str (kw k)) [.str "seat",.str "both"]=wp k:=zfH k h
theorem zcW{R:Addr->Rw->Prop}{us:List Addr}{rows:List Rw}(h:Paired R us rows):((us.zip rows).filter fun p=>xo p.2.k).map (fun p=>V.str p.2.z)=(nms rows).map V.str:=by
 have:=qV h (fun r=>xo r.k) (fun r=>V.str r.z)
 rw[this];unfold nms;rw[map_map];rfl
inductive zcH(vs:List V)(H:Hp)(Q:VK)(E:XK):Prop|mk(la pa:Addr)(n:Int)(us:List Addr)(rows:List Rw)(zs:List Str):vs=[.ref la,.ref pa,.int n]->H la=some (.lst (us.map V.ref))->Paired (TAt H) us rows->VR rows->H pa=some (.lst (zs.map V.str))->zs.Nodup->zs.length<=26->(∀(l:Addr) (bars:List Str) (H':Hp),zq H H'->H l=none->H' l=some (.lst (bars.map V.str))->bars.Nodup->(∀z∈bars,z∈zs)->(∀z∈bars,z∉nms rows)->bars.length<=26->Q (.ref l) H')->zcH vs H Q E
theorem qx:([Str.ofString "_law_one"]:List Str).Nodup:=by decide +kernel
theorem uj:zu ["_law_row_here","_law_pool_here","_law_number","_law_known","_law_found","_law_name"] ["_law_row_here","_law_pool_here","_law_number"] (zj zeO):=fsc
theorem zfl(F:Fun K "_law_bars" "_law_bars" zeO f fd):zA P w K mg base CX0 1 f fd ["_law_row_here","_law_pool_here","_law_number"] zcH:=by
 refine F.ok uj (fun cdv A outer s H vs Q E hr h=>?_);obtain⟨la,pa,n,us,rows,zs,rfl,hla,hu,V1,hpa,zn,l26,q⟩:=h;refine⟨_,zk (vh (i:=3) [] ["_law_one"] [none] uj.nd rfl (Or.inl rfl) rfl ⟨rfl,rfl,rfl,rfl⟩ (z9 (pv 0)) (ye 0) rfl rfl rfl
   (fun pins fp s H C=>⟨zr (i:=0) qx rfl (Or.inl rfl) (.inr rfl),xM (zv (r:=rIn K false) xr (zL (r:=wS K) zU (pv 0) ze (fun _ _=>rfl)) (zS (ac zw (ac zw zc))) (by with_unfolding_all rfl)),zL (r:=wS K) zU (pv 0) ze (fun _ _=>rfl)⟩))
  (zk (zx (i:=4) uj.nd rfl (Or.inl rfl) (zS zc))
  (zk (yz PassesOwn.never rfl (z9 (pv 1)) (zr (i:=5) uj.nd rfl (Or.inl rfl))
   (zk (zT (wq (wC (zv xj (pv 5) (pv 3) (by with_unfolding_all rfl)) (xK (zv yA (zp zW (pv 2) ze) ze (zJ _))))) (zf (zI (yK PySem.F.plainAttrs_list PySem.F.slot_list_append PySem.F.type_list_append zP (pv 4) (ac (pv 5) zc)))) zG)
   (zf (zx (i:=2) uj.nd rfl (Or.inl rfl) (zp yf (pv 2) ze)))))
  (zf (zy (pv 4))))),?_⟩
 have l24:=V1.l24;exists _,rfl,la,rfl,⟨_,zh hla⟩,fun D hD=>?_;refine jP (K:=K) TAt (fun r=>xo r.k) (fun _ r=>.str r.z) hD hla hu (by omega) (fun i u r H' N S hu' hr' tr sH n1 s1=>?_) (fun H1 s1 hD1=>?_)
 ·have rk:=V1.ok r (mem_of_getElem? hr')
  have tu:=sH _ _ tr;exists _,rfl,u,_,0,_,rfl,rfl,zB tu,uo rk,yC,fun l hl=>?_;have s2:=zd hl (.lst [.str "both",.str "tag"]);exists l,_,rfl,.inl (zh za),rfl,rfl,_,rfl,?_;rw[if_neg zft,zfI rk.1];exact⟨fun e=>⟨_,rfl,u,_,1,_,rfl,rfl,zB (s2 _ _ tu),zap rk,n1 _ s2 e⟩,fun e=>s1 _ s2 e⟩
 rw[zcW hu] at hD1;exists wb,fun fo hfo=>?_;dsimp only[zM]
 injections fo hfo H2 s2 g2
 have s12:=s1.trans s2;have nD:=s2 _ _ hD1;have nfo:H fo=none:=s1.free hfo;have neD:D≠fo:=zi hD1 hfo;refine⟨_,rfl,pa,rfl,⟨_,zh (s12 _ _ hpa)⟩,yJ (K:=K) (a:=pa) (xs:=zs.map V.str) (fun i σ H'=>∃(m:Int) (bars:List Str) (v5:Option V),σ=[some (.ref la),some (.ref pa),some (.int m),some (.ref D),some (.ref fo),v5]/\zq H H'/\H' D=some (.lst ((nms rows).map V.str))/\H' fo=some (.lst (bars.map V.str))/\bars.Nodup/\(∀z∈bars,z∈zs.take i)/\(∀z∈bars,z∉nms rows)/\bars.length<=i)
  ⟨n,[],_,rfl,s12,nD,g2,nodup_nil,(fun _ h=>nomatch h),(fun _ h=>nomatch h),le_refl _⟩ (fun i σ H' _ ⟨_,_,_,_,sH,_⟩=>zh (sH _ _ hpa)) ?_ ?_⟩
 ·rintro i x σ H' hx ⟨m,bars,v5,rfl,sH,hD',hfo',bn,bz,bk,bl⟩
  obtain⟨z,hz,rfl⟩:=strs_at hx;have hi:i<zs.length:=(List.getElem?_eq_some_iff.mp hz).1;have ez:zs[i]=z:=(List.getElem?_eq_some_iff.mp hz).2;have tk:zs.take (i+1)=zs.take i++[z]:=by rw[take_succ_eq_append_getElem hi,ez]
  have zt:z∉zs.take i:=by
   have:=zn.sublist (List.take_sublist (i+1) zs)
   rw[tk] at this;exact fun h=>(List.nodup_append.mp this).2.2 z h z (List.mem_singleton.mpr rfl) rfl
  have skip:∃(m':Int) (bars:List Str) (v5:Option V),([some (.ref la),some (.ref pa),some (.int (m / 3)),some (.ref D),some (.ref fo),some (.str z)]:L2.St)=[some (.ref la),some (.ref pa),some (.int m'),some (.ref D),some (.ref fo),v5]/\zq H H'/\H' D=some (.lst ((nms rows).map V.str))/\H' fo=some (.lst (bars.map V.str))/\bars.Nodup/\(∀z∈bars,z∈zs.take (i+1))/\(∀z∈bars,z∉nms rows)/\bars.length<=i+1:=
   ⟨_,bars,_,rfl,sH,hD',hfo',bn,fun y hy=>by rw[tk];exact mem_append_left _ (bz y hy),bk,le_succ_of_le bl⟩
  exists _,rfl,_,rfl,D,_,rfl,.inl (zh hD'),rfl,xA,_,rfl,?_;by_cases hk:z∈nms rows
  ·refine j8 (by rw[if_pos rfl,xa,decide_eq_true hk];rfl) ?_
   refine xz ?_;exact⟨_,rfl,_,_,rfl,rfl,⟨by decide,by decide⟩,skip⟩
  refine jU (by rw[if_pos rfl,xa,decide_eq_false hk];rfl) ?_
  exists _,rfl,_,_,rfl,rfl,(by show(0:Int)<3;decide),rfl,_,rfl,?_
  refine vN (fun _=>?_) (fun _=>?_)
  ·exists _,rfl,.inl ⟨rfl,_,zh hfo'⟩,_,rfl,fo,_,_,rfl,rfl,hfo',zK (by rw[length_map];omega),?_
   exists _,rfl,_,_,rfl,rfl,⟨by decide,by decide⟩,?_
   refine⟨_,bars++[z],_,rfl,fun b u e=>by rw[zg (zi e nfo)];exact sH _ _ e,by rw[zg neD];exact hD',by rw[za,map_append];rfl,?_,?_,?_,by rw[length_append];exact succ_le_succ bl⟩
   ·exact List.nodup_append.mpr ⟨bn,by simp,fun x hx y hy e=>zt (by rw[<- List.mem_singleton.mp hy,<- e];exact bz x hx)⟩
   ·rw[tk]
    intro y hy;rcases List.mem_append.mp hy with hy|hy
    ·exact mem_append_left _ (bz y hy)
    ·exact mem_append_right _ hy
   ·intro y hy
    rcases List.mem_append.mp hy with hy|hy
    ·exact bk y hy
    ·rw[List.mem_singleton.mp hy];exact hk
  ·exact⟨_,rfl,_,_,rfl,rfl,⟨by decide,by decide⟩,skip⟩
 ·rintro σ H' ⟨m,bars,v5,rfl,sH,hD',hfo',bn,bz,bk,bl⟩
  rw[length_map] at bl;exact⟨_,rfl,q fo bars H' sH nfo hfo' bn (fun z hz=>mem_of_mem_take (bz z hz)) bk (by omega)⟩
end
end K62
namespace L2
open PySem PySem.Spec PyProof.Rows
theorem ze8{X:Cx}:OpR X (binaryOp .FloorDiv) (rI (fun _ j=>0<j/\j<=10 ^ 70) fun i j=>.int (i / j)):=opI fun i j _ _ _ _ _ hc q=>by
 have h1:(0:Int)<j:=hc.1;have h2:j<=10 ^ 70:=hc.2;refine floordiv_int (by omega) (by rw[Int.fdiv_eq_ediv_of_nonneg i (by omega)];exact q) (.inl (PyProof.noPylong_of_log2 ?_))
 rw[Nat.log2_lt (by omega)]
 have e:j.natAbs<=10 ^ 70:=by omega
 have:(10 ^ 70:Nat)<2 ^ 9000:=by decide +kernel
 omega
end L2
namespace K62
open PySem L2 PyProof.Rows
inductive zaO(vs:List V)(H:Hp)(Q:VK)(E:XK):Prop|mk(c k:Int):vs=[.int c,.int k]->(∀n:Int,Q (.int n) H)->zaO vs H Q E
inductive ug(vs:List V)(H:Hp)(Q:VK)(E:XK):Prop|mk(c:Int)(m:Nat)(b:Int):vs=[.int c,.int (m:Nat),.int b]->m<=30->0<b->b<=10 ^ 70->(∀(l:Addr) (ns:List Int) (H':Hp),zq H H'->H l=none->H' l=some (.lst (ns.map V.int))->ns.length<=m->Q (.ref l) H')->ug vs H Q E
def zdL(r:Int):Nat:=97+(r % 26).toNat
theorem zcZ(r:Int): 97<=zdL r/\zdL r<=122:=by
 have:=emod_nonneg r (show(26:Int)≠0 by decide)
 have:=emod_lt_of_pos r (show(0:Int)<26 by decide)
 unfold zdL;omega
def zeR:Nat->Int->Int
 | 0,r=>r
 | k+1,r=>zeR k r / 26
def qk(c:Nat):Nat->Int->List Nat
 | 0,_=>[c]
 | k+1,r=>qk c k r++[zdL (zeR k r)]
theorem vw{c:Nat}{r:Int}:∀k,(qk c k r).length=k+1
 | 0=>rfl
 | k+1=>by
  show(qk c k r++[_]).length=_;rw[length_append,vw k];rfl
theorem zaG{c:Nat}{r:Int}(h : 97<=c/\c<=122):∀k,∀x∈qk c k r,97<=x/\x<=122
 | 0,x,hx=>by rw[List.mem_singleton.mp hx];exact h
 | k+1,x,hx=>by
  rcases List.mem_append.mp hx with hx|hx
  ·exact zaG h k x hx
  ·rw[List.mem_singleton.mp hx];exact zcZ _
def zcv(n:Int):Str:=⟨(qk (zdL (n / 8)) (n % 8).toNat (n / 208)).toArray⟩
theorem zbx(n:Int):xn (zcv n)=true:=by
 have:=emod_nonneg n (show(8:Int)≠0 by decide)
 have:=emod_lt_of_pos n (show(0:Int)<8 by decide)
 exact wV (by rw[vw];omega) (by rw[vw];omega) (zaG (zcZ _) _)
inductive zhD(vs:List V)(H:Hp)(Q:VK)(E:XK):Prop|mk(n:Int):vs=[.int n]->(Q (.str (zcv n)) H)->zhD vs H Q E
theorem zd9(l:List Nat)(c:Nat):(⟨l.toArray⟩:Str)++(⟨#[c]⟩:Str)=⟨(l++[c]).toArray⟩:=by
 show(⟨l.toArray++#[c]⟩:Str)=_
 congr 1
 apply Array.ext'
 simp
section
variable {P:Program}{w:World}{K:Frag}{mg:Str->Option Value}{base:Heap}{f:Addr}{fd:FuncData}
theorem ui:zu ["_law_cell","_law_k","_law_first","_law_other","_law_great"] ["_law_cell","_law_k"] (zj zaf):=fsc
theorem zdF(F:Fun K "_law_strewn" "_law_strewn" zaf f fd):zA P w K mg base CX0 1 f fd ["_law_cell","_law_k"] zaO:=by
 refine F.ok ui (fun cdv A outer s H vs Q E hr h=>?_);obtain⟨c,k,rfl,q⟩:=h;refine zC (zx (i:=2) ui.nd rfl (Or.inl rfl) (zp zW (zp yG (zp yB (zp yB (zp zW (pv 0) ze) (zp yG ze (pv 1))) ze) ze) ze)) ?_;exists _,rfl,_,_,rfl,rfl,zp2147483647,_,rfl,_,_,rfl,rfl,.inl ⟨by decide,by decide⟩,_,_,rfl,rfl,_,_,rfl,rfl,_,_,rfl,rfl,.inr ⟨by decide,by decide⟩,_,_,rfl,rfl,zp2147483647,?_
 have h1 : 0<=(c % 2147483647+97 * k+5) * 48271 % 2147483647:=emod_nonneg _ (by decide)
 have h2:(c % 2147483647+97 * k+5) * 48271 % 2147483647<2147483647:=emod_lt_of_pos _ (by decide)
 generalize (c % 2147483647+97 * k+5) * 48271 % 2147483647=x at h1 h2 |-;dsimp only[zM];refine zC (zx (i:=3) ui.nd rfl (Or.inl rfl) (zp zW (zp yB (zp yB (zp yG (pv 2) (pv 2)) (zp yG ze (pv 1))) ze) ze)) ?_;exists _,rfl,_,rfl,_,_,rfl,rfl,.inl ⟨by omega,by omega⟩,_,rfl,_,_,rfl,rfl,.inl ⟨by decide,by decide⟩,_,_,rfl,rfl,_,_,rfl,rfl,_,_,rfl,rfl,(by show(0:Int)<2147483629;decide),?_
 have y1 : 0<=(x * x+31 * k+7) % 2147483629:=emod_nonneg _ (by decide)
 have y2:(x * x+31 * k+7) % 2147483629<2147483629:=emod_lt_of_pos _ (by decide)
 generalize (x * x+31 * k+7) % 2147483629=y at y1 y2 |-;dsimp only[zM];refine zC (zx (i:=4) ui.nd rfl (Or.inl rfl) (zp yB (zp yG (pv 2) ze) (pv 3))) ?_;exists _,rfl,_,_,rfl,rfl,.inr ⟨by decide,by decide⟩,_,rfl,_,_,rfl,rfl,?_
 obtain⟨g,eg,g1,g2⟩:∃g,x * 2147483629+y=g/\0<=g/\g<2 ^ 64:=⟨_,rfl,by omega,by omega⟩
 rw[eg];dsimp only[zM];exists _,zf (zy (zp yB (zp yf (zp yG (zp yG (pv 4) (pv 4)) (pv 4)) ze) (pv 3))),?_;exact⟨_,rfl,_,rfl,_,_,rfl,rfl,.inl ⟨by omega,by omega⟩,_,rfl,_,_,rfl,rfl,.inr ⟨by omega,by omega⟩,_,_,rfl,rfl,⟨by decide,by decide⟩,_,rfl,_,_,rfl,rfl,q _⟩
theorem wJ:zu ["_law_cell","_law_most","_law_base","_law_many","_law_rest","_law_found","_law_k"] ["_law_cell","_law_most","_law_base"] (zj zan):=fsc
theorem zdJ{g1:Addr}{e1:FuncData}(F:Fun K "_law_digits" "_law_digits" zan f fd)(hrg:mg "range"=none)(cS:zE P w K mg base 1 "_law_strewn" g1 e1 ["_law_cell","_law_k"] zaO):zA P w K mg base CX0 2 f fd ["_law_cell","_law_most","_law_base"] ug:=by
 refine F.ok wJ (fun cdv A outer s H vs Q E hr h=>?_);obtain⟨c,m,b,rfl,m30,b0,b1,q⟩:=h;refine zC (zx (i:=3) wJ.nd rfl (Or.inl rfl) (zp zW (pv 0) (zp yB (pv 1) ze))) ?_;exists _,rfl,_,rfl,_,_,rfl,rfl,_,_,rfl,rfl,(by show(0:Int)<((m:Nat):Int)+1;omega),?_
 have n0 : 0<=c % (((m:Nat):Int)+1):=emod_nonneg _ (by omega)
 have n1:c % (((m:Nat):Int)+1)<((m:Nat):Int)+1:=emod_lt_of_pos _ (by omega)
 obtain⟨N,eN⟩:=Int.eq_ofNat_of_zero_le n0;rw[eN];dsimp only[zM];refine zC (zx (i:=4) wJ.nd rfl (Or.inl rfl) (zp yf (pv 0) (zp yB (pv 1) ze))) ?_;exists _,rfl,_,rfl,_,_,rfl,rfl,_,_,rfl,rfl,⟨by omega,by omega⟩,?_
 generalize c / (((m:Nat):Int)+1)=r0;dsimp only[zM];refine zC (zx (i:=5) wJ.nd rfl (Or.inl rfl) (zS zc)) ?_;exists wb,fun lf hlf=>?_;have s1:=zd hlf (.lst []);have g1:upd H lf (.lst []) lf=some (.lst (([]:List Int).map V.int)):=za;generalize upd H lf (.lst [])=H1 at s1 g1 |-;dsimp only[zM];refine zC (yz PassesOwn.never rfl (x6 rfl hrg (ac (pv 3) zc)) (zr (i:=6) wJ.nd rfl (Or.inl rfl)) wU) ?_;exists _,rfl,(N:Int),rfl,by omega,by omega,?_
 refine vI (n:=(N:Int).toNat) (fun i σ H'=>∃(r:Int) (ns:List Int) (v6:Option V),σ=[some (.int c),some (.int (m:Nat)),some (.int b),some (.int N),some (.int r),some (.ref lf),v6]/\zq H H'/\H' lf=some (.lst (ns.map V.int))/\ns.length<=i) ⟨r0,[],_,rfl,s1,g1,le_refl _⟩ ?_ ?_
 ·rintro i σ H2 hi ⟨r,ns,v6,rfl,s2,hl2,ln⟩
  have add:∀x:Int,zq H (upd H2 lf (.lst (ns.map V.int++[.int x])))/\upd H2 lf (.lst (ns.map V.int++[.int x])) lf=some (.lst ((ns++[x]).map V.int))/\(ns++[x]).length<=i+1:=fun x=>⟨yd s2 hlf _,by rw[za,map_append];rfl,by rw[length_append];exact succ_le_succ ln⟩
  rw[Int.zero_add];dsimp only[zM];refine⟨_,zf (zT (zv yA (pv 4) ze (zJ _)) (zf (zI (yK PySem.F.plainAttrs_list PySem.F.slot_list_append PySem.F.type_list_append zP (pv 5) (ac (zp zW (cF cS hr (ac (pv 0) (ac (pv 6) zc))) (pv 2)) zc))))
   (zk (zI (yK PySem.F.plainAttrs_list PySem.F.slot_list_append PySem.F.type_list_append zP (pv 5) (ac (zp zW (pv 4) (pv 2)) zc))) (zf (zx (i:=4) wJ.nd rfl (Or.inl rfl) (zp ze8 (pv 4) (pv 2)))))),?_⟩
  exists _,rfl,rfl,_,rfl,?_;have sz:(ns.map V.int).length<sizeLine:=zK (by rw[length_map];omega)
  refine vN (fun _=>?_) (fun _=>?_)
  ·exists _,rfl,.inl ⟨rfl,_,zh hl2⟩,_,rfl,_,rfl,c,i,rfl,fun n=>?_
   exists _,rfl,_,_,rfl,rfl,b0,lf,_,_,rfl,rfl,hl2,sz,?_;exact⟨_,ns++[n % b],_,rfl,add _⟩
  ·exists _,rfl,.inl ⟨rfl,_,zh hl2⟩,_,rfl,_,rfl,_,_,rfl,rfl,b0,lf,_,_,rfl,rfl,hl2,sz,?_
   exact⟨_,rfl,_,rfl,_,_,rfl,rfl,⟨b0,b1⟩,_,ns++[r % b],_,rfl,add _⟩
 ·rintro σ H2 ⟨r,ns,v6,rfl,s2,hl2,ln⟩
  exact⟨_,zf (zy (pv 5)),_,rfl,q lf ns H2 s2 hlf hl2 (by omega)⟩
theorem qp:zu ["_law_number","_law_word_here","_law_rest","_law_k"] ["_law_number"] (zj zew):=fsc
theorem ziK(F:Fun K "_law_word" "_law_word" zew f fd)(hrg:mg "range"=none):zA P w K mg base CX0 1 f fd ["_law_number"] zhD:=by
 refine F.ok qp (fun cdv A outer s H vs Q E hr h=>?_);obtain⟨n,rfl,q⟩:=h;have l26:(Str.ofString "abcdefghijklmnopqrstuvwxyz").length<=sizeLine:=by decide +kernel
 have m0:∀x:Int,0<=x % 26:=fun x=>emod_nonneg _ (by decide)
 have m1:∀x:Int,x % 26<26:=fun x=>emod_lt_of_pos _ (by decide)
 refine zC (zx (i:=1) qp.nd rfl (Or.inl rfl) (zL uN zw (zp zW (zp yf (pv 0) ze) ze) (fun _ _=>rfl))) ?_;exists _,rfl,_,_,rfl,rfl,⟨by decide,by decide⟩,_,_,rfl,rfl,zp26,_,_,_,rfl,rfl,l26,vM (m0 _) (m1 _),?_
 dsimp only[zM];refine zC (zx (i:=2) qp.nd rfl (Or.inl rfl) (zp yf (pv 0) ze)) ?_;exists _,rfl,_,_,rfl,rfl,⟨by decide,by decide⟩,?_
 dsimp only[zM];refine zC (yz PassesOwn.never rfl (x6 rfl hrg (ac (zp zW (pv 0) ze) zc)) (zr (i:=3) qp.nd rfl (Or.inl rfl)) wU) ?_;have k0 : 0<=n % 8:=emod_nonneg _ (by decide)
 have k1:n % 8<8:=emod_lt_of_pos _ (by decide)
 exists _,rfl,_,_,rfl,rfl,zp8,n % 8,rfl,by omega,by omega,?_
 refine vI (n:=(n % 8).toNat) (fun i σ H'=>∃(v3:Option V),σ=[some (.int n),some (.str ⟨(qk (zdL (n / 8)) i (n / 208)).toArray⟩),some (.int (zeR i (n / 208))),v3]/\H=H') ⟨_,rfl,rfl⟩ ?_ ?_
 ·rintro i σ H2 hi ⟨v3,rfl,rfl⟩
  dsimp only[zM];exists _,zk (zx (i:=1) qp.nd rfl (Or.inl rfl) (zp xF (pv 1) (zL uN zw (zp zW (pv 2) ze) (fun _ _=>rfl)))) (zf (zx (i:=2) qp.nd rfl (Or.inl rfl) (zp yf (pv 2) ze))),?_;exists _,rfl,_,rfl,_,_,rfl,rfl,zp26,_,_,_,rfl,rfl,l26,vM (m0 _) (m1 _),_,_,rfl,rfl,(by show(List.toArray _).size+1<=sizeLine;rw[size_toArray,vw];exact yn (by omega)),?_
  exists _,rfl,_,_,rfl,rfl,⟨by decide,by decide⟩,some (.int (0+(i:Nat))),?_,rfl
  rw[zd9];rfl
 ·rintro σ H2 ⟨v3,rfl,rfl⟩
  exact⟨_,zf (zy (pv 1)),_,rfl,q⟩
theorem zgI{X:Cx}(hu:X.A.units+64<cLine):OpR X (compareOp .Eq) (fun x y H Q=>∃(a c:Addr) (xs:List V),x=.ref a/\y=.ref c/\H a=some (.lst xs)/\H c=some (.lst [])/\Q (.bl xs.isEmpty) H):=by
 intro pins s σ H x y v u Q I rx ry h;obtain⟨a,c,xs,rfl,rfl,ha,hc,q⟩:=h;cases xs with
 | nil=>exact zat hu pins s σ H _ _ v u Q I rx ry ⟨a,c,0,.lst [],fun _=>True,fun _=>True,rfl,rfl,by decide,zz.lst True.intro ha .nil,zz.lst True.intro hc .nil,q⟩
 | cons z zs=>exact zfa (by omega) pins s σ H _ _ v u Q I rx ry ⟨a,c,_,_,rfl,rfl,ha,hc,by simp,q⟩
structure PL(zs:List Str):Prop where
 nd:zs.Nodup
 nm:∀z∈zs,xn z=true
 pos : 0<zs.length
 le:zs.length<=26
inductive zed(vs:List V)(H:Hp)(Q:VK)(E:XK):Prop|mk(c:Int):vs=[.int c]->(∀(r:Addr) (zs:List Str) (H':Hp),zq H H'->H r=none->H' r=some (.lst (zs.map V.str))->PL zs->Q (.ref r) H')->zed vs H Q E
structure zkh(mg:Str->Option Value):Prop where
 range:mg "range"=none
 int:mg "int"=none
theorem zjZ:([Str.ofString "_law_sign"]:List Str).Nodup:=by decide +kernel
theorem zjY:([Str.ofString "_law_k",Str.ofString "_law_cell",Str.ofString "_law_letters",Str.ofString "_law_stem"]:List Str).Nodup:=by decide +kernel
theorem vZ:zu ["_law_cell","_law_letters","_law_pool_here","_law_number","_law_stem"] ["_law_cell"] (zj zeB):=fsc
theorem zgQ{g1 g2:Addr}{e1 e2:FuncData}(F:Fun K "_law_pool" "_law_pool" zeB f fd)(U:zkh mg)(cD:zE P w K mg base 2 "_law_digits" g1 e1 ["_law_cell","_law_most","_law_base"] ug)(cW:zE P w K mg base 1 "_law_word" g2 e2 ["_law_number"] zhD):zA P w K mg base CX0 3 f fd ["_law_cell"] zed:=by
 refine F.ok vZ (fun cdv A outer s H vs Q E hr h=>?_);obtain⟨cc,rfl,q⟩:=h;have hU:=hr.units;have hr1:yj 1 _:=hr.mono (by decide)
 refine zC (zx (i:=1) vZ.nd rfl (Or.inr rfl) zw) ?_;refine zC (zT (zv yA (zp zW (pv 0) ze) ze (zJ _)) wU zG) ?_;refine wQ (fun σ' H'=>σ'=[some (.int cc),some (.str "abcdefghijklmnopqrstuvwxyz"),none,none,none]/\H'=H) ?_ (fun key=>?_);rotate_left
 ·exists _,rfl,_,_,rfl,rfl,zp2,rfl,_,rfl,?_
  refine vN (fun _=>?_) (fun _=>?_);rotate_left
  ·exact key _ _ ⟨rfl,rfl⟩
  refine zC (zx (i:=2) vZ.nd rfl (Or.inl rfl) (zS zc)) ?_;exists wb,fun lf hlf=>?_;have s1:=zd hlf (.lst []);have g1:upd H lf (.lst []) lf=some (.lst (([]:List Str).map V.str)):=za;generalize upd H lf (.lst [])=H1 at s1 g1 |-;dsimp only[zM];refine zC (yz PassesOwn.never rfl (z9 (cF cD hr (ac (zp yf (pv 0) ze) (ac ze (ac (zp yG ze (zp jI ze ze)) zc))))) (zr (i:=3) vZ.nd rfl (Or.inl rfl)) wU) ?_;exists _,rfl,_,_,rfl,rfl,⟨by decide,by decide⟩,_,_,rfl,rfl,⟨by decide,by decide,by decide⟩,_,_,rfl,rfl,.inl ⟨by decide,by decide⟩,_,24,_,rfl,by decide,by decide,by decide,fun ld ds H2 s2 nld hld lds=>?_
  exists ld,rfl,⟨_,zh hld⟩,yJ (K:=K) (a:=ld) (xs:=ds.map V.int) (fun i σ H'=>∃(v3:Option V) (zs:List Str),σ=[some (.int cc),some (.str "abcdefghijklmnopqrstuvwxyz"),some (.ref lf),v3,none]/\zq H H'/\H' ld=some (.lst (ds.map V.int))/\H' lf=some (.lst (zs.map V.str))/\zs.Nodup/\(∀z∈zs,xn z=true)/\zs.length<=i) ⟨_,[],rfl,s1.trans s2,hld,s2 _ _ g1,nodup_nil,(fun _ h=>nomatch h),le_refl _⟩ (fun i σ H' _ ⟨_,_,_,_,e,_⟩=>zh e) ?_ ?_
  ·rintro i x σ H3 hx ⟨v3,zs,rfl,s3,hd3,hl3,zn,zb,zl⟩
   obtain⟨n,hn,rfl⟩:=wY hx;have hi:i<ds.length:=(List.getElem?_eq_some_iff.mp hn).1;dsimp only[zM];exists _,zf (zT (zv xj (cF cW hr1 (ac (pv 3) zc)) (pv 2) (by with_unfolding_all rfl)) (zf (zI (yK PySem.F.plainAttrs_list PySem.F.slot_list_append PySem.F.type_list_append zP (pv 2) (ac (cF cW hr1 (ac (pv 3) zc)) zc)))) zG),?_
   exists _,rfl,n,rfl,_,rfl,lf,_,rfl,.inl (zh hl3),rfl,xA,_,rfl,?_;by_cases hz:zcv n∈zs
   ·refine j8 (by rw[if_pos rfl,xa,decide_eq_true hz];rfl) ?_
    exact⟨_,zs,rfl,s3,hd3,hl3,zn,zb,le_succ_of_le zl⟩
   refine jU (by rw[if_pos rfl,xa,decide_eq_false hz];rfl) ?_
   exists _,rfl,.inl ⟨rfl,_,zh hl3⟩,_,rfl,n,rfl,lf,_,_,rfl,rfl,hl3,zK (by rw[length_map];omega),?_
   refine⟨_,zs++[zcv n],rfl,yd s3 hlf _,by rw[zg (Ne.symm (zi g1 nld))];exact hd3,by rw[za,map_append];rfl,List.nodup_append.mpr ⟨zn,by simp,fun x hx y hy e=>hz (by rw[<- List.mem_singleton.mp hy,<- e];exact hx)⟩,fun z h=>?_,by rw[length_append];exact succ_le_succ zl⟩
   rcases List.mem_append.mp h with h|h
   ·exact zb z h
   ·rw[List.mem_singleton.mp h];exact zbx n
  ·rintro σ H3 ⟨v3,zs,rfl,s3,hd3,hl3,zn,zb,zl⟩
   rw[length_map] at zl;exists _,zf (zy (zL yw (zS (ac (pv 2) (ac (zS (ac zw zc)) zc))) (cTy zd1 U.int PyProof.Rows.boot_int (ac (wz (zgI hU) (pv 2) (zS zc) (zJ _)) zc)) (fun _ _=>rfl))),?_;exists _,rfl,zaS,fun la hla=>?_
   injections la hla H4 s4 g4
   exists yC,fun lb hlb=>?_
   injections lb hlb H5 s5 g5
   exists _,rfl,wb,fun le hle=>?_
   injections le hle H6 s6 g6
   have s36:=s4.trans (s5.trans s6);cases zs with
   | nil=>exact⟨lf,le,_,rfl,rfl,s36 _ _ hl3,g6,.inr ⟨_,rfl,lb,_,_,.ref la,rfl,rfl,zh (s6 _ _ g5),rfl,q la ["a"] _ (s3.trans s36) (s3.free hla) ((s5.trans s6) _ _ g4) ⟨by decide +kernel,by decide +kernel,by decide,by decide⟩⟩⟩
   | cons z zs=>exact⟨lf,le,_,rfl,rfl,s36 _ _ hl3,g6,.inr ⟨_,rfl,lb,_,_,.ref lf,rfl,rfl,zh (s6 _ _ g5),rfl,q lf _ _ (s3.trans s36) hlf (s36 _ _ hl3) ⟨zn,zb,Nat.succ_pos _,by omega⟩⟩⟩
 rintro σ0 H0 ⟨rfl,rfl⟩;refine zC (zx (i:=0) vZ.nd rfl (Or.inr rfl) (zp yf (pv 0) ze)) ?_;exists _,rfl,_,_,rfl,rfl,⟨by decide,by decide⟩,?_
 generalize cc / 2=cc;dsimp only[zM];refine⟨_,zk (zT (zv yA (zp zW (zp yf (pv 0) ze) ze) ze (zJ _)) (zf (zy (wx [] ["_law_sign"] [none] rfl ⟨rfl,rfl,rfl,rfl⟩ (zeX (pv 1)) (ye 0) rfl rfl rfl
   (fun pins fp s H C=>⟨zr (i:=0) zjZ rfl (Or.inl rfl) (.inr rfl),yH,pv 0⟩)))) zG)
  (zk (zx (i:=4) vZ.nd rfl (Or.inr rfl) (zp xF (zp xF (zL uN (pv 1) (zp zW (pv 0) ze) (fun _ _=>rfl)) (zL uN (pv 1) (zp zW (zp yf (pv 0) ze) ze) (fun _ _=>rfl))) (zL uN (pv 1) (zp zW (zp yf (pv 0) ze) ze) (fun _ _=>rfl))))
  (zk (vh (i:=2) ["_law_stem","_law_letters","_law_cell"] ["_law_k","_law_cell","_law_letters","_law_stem"] [none,some 0,some 1,some 4] vZ.nd rfl (Or.inl rfl) rfl ⟨rfl,rfl,rfl,rfl⟩ (x6 rfl U.range (ac ze zc)) (ye 0) rfl rfl rfl
   (fun pins fp s H C=>⟨zr (i:=0) zjY rfl (Or.inl rfl) (.inr rfl),yH,zp xF (y8 zh7 (pv 3) wv (yV (zp zW (pv 0) ze))) (zL uN (pv 2) (zp zW (zp yB (zp yf (pv 1) ze) (pv 0)) ze) (fun _ _=>rfl))⟩))
  (zf (zy (zp yT (pv 2) (zS (ac (zp xF (zL yw (pv 2) ze (fun _ _=>rfl)) zw) (ac (zp xF (zL yw (pv 2) ze (fun _ _=>rfl)) zw) zc))))))))
  ,?_⟩
 exists _,rfl,_,_,rfl,rfl,⟨by decide,by decide⟩,_,_,rfl,rfl,zp8,rfl,_,rfl,?_
 have l26:(Str.ofString "abcdefghijklmnopqrstuvwxyz").cps.toList.length=26:=by decide +kernel
 refine vN (fun _=>?_) (fun _=>?_)
 ·exists _,rfl,_,rfl,fun D hD=>?_
  exists fun i m ys H'=>i<=26/\m=26 - i/\ys=((List.range i).map fun k=>(⟨#[97+k]⟩:Str)).map V.str/\H'=upd H0 D (.lst ys),⟨_,zero_le _,rfl,rfl,rfl⟩,?_;rintro i m ys H' ⟨hi,rfl,rfl,rfl⟩;have sz:(Str.ofString "abcdefghijklmnopqrstuvwxyz").cps.size=26:=by decide +kernel
  by_cases he:i=26
  ·subst he
   refine .inl ⟨by show(Str.ofString "abcdefghijklmnopqrstuvwxyz").cps.size<=26;rw[sz];exact le_refl _,?_⟩
   exact q D zcP _ (zd hD _) hD za ⟨zeV,zb0,by decide,by decide⟩
  ·refine .inr ⟨by show i<(Str.ofString "abcdefghijklmnopqrstuvwxyz").cps.size;rw[sz];omega,?_⟩
   rintro x H' ⟨rfl,ch,hc,rfl⟩;exists fun _=>?_,fun e=>Bool.noConfusion e;have hc':(Str.ofString "abcdefghijklmnopqrstuvwxyz").cps.toList[i]?=some ch:=by simpa using hc
   rw[zf3 i (by omega)] at hc'
   cases hc';exists _,rfl,za,?_,26 - (i+1),by omega,by omega,rfl,?_,?_
   ·rw[length_map,length_map,length_range]
    exact zK (by omega)
   ·rw[range_succ,map_append,map_append]
    rfl
   ·rw[ja]
 have x0 : 0<=cc % 26:=emod_nonneg _ (by decide)
 have x1:cc % 26<26:=emod_lt_of_pos _ (by decide)
 have y0 : 0<=cc / 26 % 26:=emod_nonneg _ (by decide)
 have y1:cc / 26 % 26<26:=emod_lt_of_pos _ (by decide)
 have z0 : 0<=cc / 676 % 26:=emod_nonneg _ (by decide)
 have z1:cc / 676 % 26<26:=emod_lt_of_pos _ (by decide)
 have big : 1000<=sizeLine:=by decide
 have l26':(Str.ofString "abcdefghijklmnopqrstuvwxyz").length<=sizeLine:=by decide +kernel
 exists _,rfl,_,rfl,_,_,rfl,rfl,zp26,_,_,_,rfl,rfl,l26',vM x0 x1,_,rfl,_,rfl,_,_,rfl,rfl,⟨by decide,by decide⟩,_,_,rfl,rfl,zp26,_,_,_,rfl,rfl,l26',vM y0 y1,_,_,rfl,rfl,(by show 1+1<=sizeLine;decide),_,rfl,_,rfl,_,_,rfl,rfl,⟨by decide,by decide⟩,_,_,rfl,rfl,zp26,_,_,_,rfl,rfl,l26',vM z0 z1,_,_,rfl,rfl,(by show 2+1<=sizeLine;decide),?_
 obtain⟨a,ea,ha⟩:∃a,a=(cc % 26).toNat/\a<26:=⟨_,rfl,by omega⟩
 obtain⟨b,eb,hb⟩:∃b,b=(cc / 26 % 26).toNat/\b<26:=⟨_,rfl,by omega⟩
 obtain⟨c,ec,hc⟩:∃c,c=(cc / 676 % 26).toNat/\c<26:=⟨_,rfl,by omega⟩
 rw[<- ea,<- eb,<- ec];obtain⟨qq,eq⟩:∃qq,qq=(cc / 17576 % 26).toNat:=⟨_,rfl⟩;have q0 : 0<=cc / 17576 % 26:=emod_nonneg _ (by decide)
 have st:((⟨#[97+a]⟩:Str)++(⟨#[97+b]⟩:Str))++(⟨#[97+c]⟩:Str)=⟨#[97+a,97+b,97+c]⟩:=rfl;rw[st];exists 8,rfl,by decide,by decide,fun D hD=>?_
 refine jQ (n:=8) (fun i ys H'=>zq H0 H'/\H' D=some (.lst ys)/\ys=((List.range i).map (pn a b c qq)).map V.str) ⟨zd hD _,za,rfl⟩ ?_ ?_
 ·rintro i ys H' hi ⟨sH,hDy,ey⟩
  exists fun _=>?_,fun e=>Bool.noConfusion e;have w0 : 0<=(cc / 17576+((0:Int)+(i:Int))) % 26:=emod_nonneg _ (by decide)
  have w1:(cc / 17576+((0:Int)+(i:Int))) % 26<26:=emod_lt_of_pos _ (by decide)
  have ew:((cc / 17576+((0:Int)+(i:Int))) % 26).toNat=(qq+i) % 26:=by omega
  have e4:((0:Int)+(i:Int)) % 4=((i % 4:Nat):Int):=by omega
  exists _,rfl,_,rfl,_,_,rfl,rfl,zp4,_,rfl,_,rfl,vX,_,rfl,_,rfl,_,_,rfl,rfl,⟨by decide,by decide⟩,_,rfl,_,_,rfl,rfl,_,_,rfl,rfl,zp26,_,_,_,rfl,rfl,l26',vM w0 w1,?_
  rw[ew,e4,zh6 _ _ _ _ (mod_lt _ (by decide))]
  have hl:(⟨(([97+a,97+b,97+c]:List Nat).take (i % 4)).toArray⟩:Str).length<=3:=by
   show(List.toArray _).size<=3;rw[size_toArray,length_take];show min _ 3<=3;omega
  exists _,_,rfl,rfl,le_trans (show _+1<=1000 by omega) big,?_
  refine lcN.mk hi (by decide) hDy (by rw[ey,length_map,length_map,length_range];exact le_refl _) ⟨fun b' u e=>by rw[zg (zi e hD)];exact sH _ _ e,za,?_⟩
  rw[ey,range_succ,map_append,map_append];show _++[V.str _]=_++[V.str (pn a b c qq i)]
  congr 3
  unfold pn pnL;show(⟨List.toArray _++#[97+(qq+i) % 26]⟩:Str)=_
  congr 1
  apply Array.ext'
  simp
 ·rintro ys H1 ⟨s1,hDy,ey⟩
  subst ey;have e0:atI (((List.range 8).map (pn a b c qq)).map V.str) 0=some (.str (pn a b c qq 0)):=rfl;have e1:atI (((List.range 8).map (pn a b c qq)).map V.str) 1=some (.str (pn a b c qq 1)):=rfl;exists _,rfl,_,rfl,D,_,0,_,rfl,rfl,zh hDy,e0,_,_,rfl,rfl,(by show 1+5<=sizeLine;decide),_,rfl,D,_,1,_,rfl,rfl,zh hDy,e1,_,_,rfl,rfl,(by show 2+5<=sizeLine;decide),yC,fun l2 hl2=>?_
  have s2:=zd hl2 (.lst [.str (pn a b c qq 0++"aaaaa"),.str (pn a b c qq 1++"aaaaa")]);exists D,l2,_,_,rfl,rfl,s2 _ _ hDy,za,zjD,fun r hr'=>?_;have s3:=zd hr' (.lst (((List.range 8).map (pn a b c qq)).map V.str++[.str (pn a b c qq 0++"aaaaa"),.str (pn a b c qq 1++"aaaaa")]));refine q r (zaX a b c qq) _ (s1.trans (s2.trans s3)) (s1.free (s2.free hr')) ?_ ⟨zeU a b c qq,zbZ ha hb hc,by show 0<10;decide,by show 10<=26;decide⟩
  rw[za];rfl
inductive zhF(K:Frag)(vs:List V)(H:Hp)(Q:VK)(E:XK):Prop|mk(a pa:Addr)(cs:List Int)(zs:List Str)(ends:Int):vs=[.ref a,.ref pa,.int ends]->SqL K H a (cs.map V.int)->cs.length<=22->H pa=some (.lst (zs.map V.str))->PL zs->(∀(la:Addr) (us:List Addr) (rows:List Rw) (H':Hp),zq H H'->H la=none->H' la=some (.lst (us.map V.ref))->Paired (TAt H') us rows->VR rows->(∀z∈nms rows,z∈zs)->(∃S:FS,rows=S.rows/\FM 24 S/\S.P.length+S.G.length<=22)->Q (.ref la) H')->zhF K vs H Q E
theorem uS:zu ["_law_numbers","_law_pool_here","_law_ends","_law_places","_law_tags","_law_used","_law_number","_law_name","_law_free","_law_tail"] ["_law_numbers","_law_pool_here","_law_ends"] (zj zil):=fsc
theorem ziN(F:Fun K "_law_row" "_law_row" zil f fd)(hln:mg "len"=none):zA P w K mg base CX0 1 f fd ["_law_numbers","_law_pool_here","_law_ends"] (zhF K):=by
 refine F.ok uS (fun cdv A outer s H vs Q E hr h=>?_);obtain⟨a,pa,cs,zs,ends,rfl,hS,l22,hpa,pz,q⟩:=h;have z0:=pz.pos;have z26:=pz.le;have hzn:=pz.nm;refine zC (zx (i:=3) uS.nd rfl (Or.inl rfl) (zS zc)) ?_;exists wb,fun lp hlp=>?_;dsimp only[zM]
 injections lp hlp H1 s1 g1
 refine zC (zx (i:=4) uS.nd rfl (Or.inl rfl) (zS zc)) ?_;exists wb,fun lt hlt=>?_;dsimp only[zM]
 injections lt hlt H2 s2 g2
 refine zC (zx (i:=5) uS.nd rfl (Or.inl rfl) (zS zc)) ?_;exists wb,fun ll hll=>?_;dsimp only[zM]
 injections ll hll H3 s3 g3
 have I0:FI H H3 lp lt ll ⟨[],[],[],[],[]⟩:=⟨s1.trans (s2.trans s3),⟨[],s3 _ _ (s2 _ _ g1),.nil⟩,⟨[],s3 _ _ g2,.nil⟩,g3,zi g1 hlt,zi (s2 _ _ g1) hll,zi g2 hll,hlp,s1.free hlt,(s1.trans s2).free hll⟩;have pick:∀(x:Int),∃j,x % (zs.length:Int)=((j:Nat):Int)/\∃h:j<zs.length,atI (zs.map V.str) (x % (zs.length:Int))=some (.str zs[j]):=fun x=>by
  have d0 : 0<=x % (zs.length:Int):=emod_nonneg _ (by omega)
  have d1:x % (zs.length:Int)<(zs.length:Int):=emod_lt_of_pos _ (by omega)
  obtain⟨j,hj⟩:=Int.eq_ofNat_of_zero_le d0;have hjl:j<zs.length:=by omega
  exact⟨j,hj,hjl,by rw[hj];exact xX (by rw[getElem?_map,getElem?_eq_getElem hjl];rfl)⟩
 have lz:((zs.map V.str).length:Int)=(zs.length:Int):=by rw[length_map]
 refine zC (yz PassesOwn.never rfl (z9 (pv 0)) (zr (i:=6) uS.nd rfl (Or.inl rfl)) wU) ?_;refine⟨_,rfl,a,rfl,⟨_,I0.sm.seq hS⟩,yJ (K:=K) (a:=a) (xs:=cs.map V.int) (fun i σ H'=>∃(S:FS) (v6 v7 v8 v9:Option V),σ=[some (.ref a),some (.ref pa),some (.int ends),some (.ref lp),some (.ref lt),some (.ref ll),v6,v7,v8,v9]/\FI H H' lp lt ll S/\FM i S/\S.T=[]/\S.B=[]/\∀y∈S.L,y∈zs)
  ⟨⟨[],[],[],[],[]⟩,_,_,_,_,rfl,I0,FM.zero,rfl,rfl,(fun y h=>nomatch h)⟩ (fun i σ H' _ ⟨_,_,_,_,_,_,h,_⟩=>h.sm.seq hS) ?_ ?_⟩
 ·rintro i x σ H5 hx ⟨S,v6,v7,v8,v9,rfl,I5,M4,eT,eB,pL⟩
  obtain⟨mm,hn,rfl⟩:=wY hx;have hi:i<cs.length:=(List.getElem?_eq_some_iff.mp hn).1;obtain⟨j,hj,hjl,hat⟩:=pick (mm / 16);have hpa5:=I5.sm _ _ hpa;dsimp only[zM];refine zC (zx (i:=7) uS.nd rfl (Or.inl rfl) (zL yw (pv 1) (zp zW (zp yf (pv 6) ze) (cB z7 hln PySem.boot_len (ac (pv 1) zc))) (fun _ _=>rfl))) ?_;exists _,rfl,_,rfl,_,_,rfl,rfl,⟨by decide,by decide⟩,_,rfl,pa,_,rfl,.inl (zh hpa5),_,_,rfl,rfl,(by rw[lz];omega),pa,_,_,.str zs[j],rfl,rfl,zh hpa5,(by rw[lz];exact hat),?_
  have hz:=hzn _ (getElem_mem hjl);have hzz:=getElem_mem hjl;generalize zs[j]=z at hz hzz |-;dsimp only[zM];refine zC (zx (i:=8) uS.nd rfl (Or.inl rfl) (wz yA (zp zW (zp yf (zp yf (pv 6) ze) (cB z7 hln PySem.boot_len (ac (pv 1) zc))) ze) ze (zJ _))) ?_;exists _,rfl,_,_,rfl,rfl,⟨by decide,by decide⟩,_,rfl,pa,_,rfl,.inl (zh hpa5),_,_,rfl,rfl,⟨by rw[lz];omega,by rw[lz];omega⟩,_,_,rfl,rfl,zp2,rfl,?_
  dsimp only[zM];generalize decide (_=V.int 1)=fb;exists _,zf (zT (zv vS (zp zW (pv 6) ze) ze (zJ _)) (zf (zI (yK PySem.F.plainAttrs_list PySem.F.slot_list_append PySem.F.type_list_append zP (pv 3) (ac (zQ (ac zw (ac (pv 7) (ac (pv 8) zc)))) zc)))) (zf (zT (wq (wC (zv vS (zp zW (pv 6) ze) ze (zJ _)) (xK (zv xj (pv 7) (pv 5) (by with_unfolding_all rfl))))) (zk (zI (yK PySem.F.plainAttrs_list PySem.F.slot_list_append PySem.F.type_list_append zP (pv 5) (ac (pv 7) zc))) (zf (zT (zv vS (zp zW (pv 6) ze) ze (zJ _)) (zf (zI (yK PySem.F.plainAttrs_list PySem.F.slot_list_append PySem.F.type_list_append zP (pv 3) (ac (zQ (ac zw (ac (pv 7) (ac (pv 8) zc)))) zc)))) (zf (zI (yK PySem.F.plainAttrs_list PySem.F.slot_list_append PySem.F.type_list_append zP (pv 4) (ac (zQ (ac zw (ac (pv 7) (ac (pv 8) zc)))) zc))))))) zG))),?_
  have lP:S.P.length<=24:=by have:=M4.ln;omega
  have lG:S.G.length<=24:=by have:=M4.ln;omega
  have lL:=M4.lL;exists _,rfl,_,_,rfl,rfl,zp16,_,_,rfl,rfl,_,rfl,?_;have fin:∀{k:Nat}{H':Hp},FI H H' lp lt ll (S.add k z fb)->k<5->k≠2->k≠4->(xo k=true->z∉S.L)->∃(S:FS) (v6 v7 v8 v9':Option V),([some (.ref a),some (.ref pa),some (.int ends),some (.ref lp),some (.ref lt),some (.ref ll),some (.int mm),some (.str z),some (.bl fb),v9]:L2.St)=[some (.ref a),some (.ref pa),some (.int ends),some (.ref lp),some (.ref lt),some (.ref ll),v6,v7,v8,v9']/\FI H H' lp lt ll S/\FM (i+1) S/\S.T=[]/\S.B=[]/\∀y∈S.L,y∈zs:=fun {k H'} I hk h2 h4 hn=>by
   exists S.add k z fb,_,_,_,_,rfl,I,M4.add hk hz hn,?_,?_,?_;rotate_left 2
   ·have two:∀y∈S.L++[z],y∈zs:=uw pL hzz
    rcases lt5 hk with rfl|rfl|rfl|rfl|rfl
    ·exact pL
    ·exact two
    ·exact pL
    ·exact two
    ·exact pL
   ·rcases lt5 hk with rfl|rfl|rfl|rfl|rfl
    ·exact eT
    ·exact eT
    ·exact absurd rfl h2
    ·exact eT
    ·exact absurd rfl h4
   ·rcases lt5 hk with rfl|rfl|rfl|rfl|rfl
    ·exact eB
    ·exact eB
    ·exact absurd rfl h2
    ·exact eB
    ·exact absurd rfl h4
  by_cases c1:mm % 16<4
  ·refine dT (by exact c1) ?_
   obtain⟨us,h1,h2⟩:=I5.hp;have hlu:us.length<=24:=by rw[h2.length];exact lP
   exists _,rfl,.inl ⟨rfl,_,zh h1⟩,_,rfl,_,rfl,vX,fun u hu=>?_;have s7:=zd hu (.tup [.str "seat",.str z,.bl fb]);have tu:TAt (upd H5 u (.tup [.str "seat",.str z,.bl fb])) u ⟨0,z,fb⟩:=za;exists lp,_,_,rfl,rfl,s7 _ _ h1,zK (by rw[length_map];omega),?_
   exact fin (k:=0) ((I5.same s7).addP (s7 _ _ h1) (zZ s7 h2) tu) (by decide) (by decide) (by decide) (fun e=>by cases e)
  refine dF (by exact c1) ?_
  exists _,rfl,_,_,rfl,rfl,zp16,_,_,rfl,rfl,_,rfl,?_;have skip:∃(S:FS) (v6 v7 v8 v9':Option V),([some (.ref a),some (.ref pa),some (.int ends),some (.ref lp),some (.ref lt),some (.ref ll),some (.int mm),some (.str z),some (.bl fb),v9]:L2.St)=[some (.ref a),some (.ref pa),some (.int ends),some (.ref lp),some (.ref lt),some (.ref ll),v6,v7,v8,v9']/\FI H H5 lp lt ll S/\FM (i+1) S/\S.T=[]/\S.B=[]/\∀y∈S.L,y∈zs:=
   ⟨S,_,_,_,_,rfl,I5,⟨M4.okP,M4.okT,M4.okG,M4.okB,M4.lT,M4.lB,M4.nd,M4.sn,le_succ_of_le M4.ln,le_succ_of_le M4.lL⟩,eT,eB,pL⟩
  by_cases c2:mm % 16<14
  rotate_left
  ·refine dF (by exact c2) ?_
   refine xz ?_;exact skip
  refine dT (by exact c2) ?_
  exists _,rfl,_,rfl,ll,_,rfl,.inl (zh I5.hl),rfl,xA,_,rfl,?_;by_cases hz1:z∈S.L
  ·refine j8 (by rw[if_pos rfl,xa,decide_eq_true hz1];rfl) ?_
   exact skip
  refine jU (by rw[if_pos rfl,xa,decide_eq_false hz1];rfl) ?_
  exists _,rfl,.inl ⟨rfl,_,zh I5.hl⟩,_,rfl,ll,_,_,rfl,rfl,I5.hl,zK (by rw[length_map];omega),?_
  have I6:=I5.addL (z:=z);dsimp only[zhB];generalize upd H5 ll (.lst (S.L.map V.str++[.str z]))=H6 at I6 |-;exists _,rfl,_,_,rfl,rfl,zp16,_,_,rfl,rfl,_,rfl,?_;by_cases c3:mm % 16<10
  ·refine dT (by exact c3) ?_
   obtain⟨us,h1,h2⟩:=I6.hp;have hlu:us.length<=24:=by rw[h2.length];exact lP
   exists _,rfl,.inl ⟨rfl,_,zh h1⟩,_,rfl,_,rfl,vX,fun u hu=>?_;have s7:=zd hu (.tup [.str "both",.str z,.bl fb]);have tu:TAt (upd H6 u (.tup [.str "both",.str z,.bl fb])) u ⟨1,z,fb⟩:=za;exists lp,_,_,rfl,rfl,s7 _ _ h1,zK (by rw[length_map];omega),?_
   exact fin (k:=1) ((I6.same s7).addP (s7 _ _ h1) (zZ s7 h2) tu) (by decide) (by decide) (by decide) (fun _=>hz1)
  ·refine dF (by exact c3) ?_
   obtain⟨us,h1,h2⟩:=I6.ht;have hlu:us.length<=24:=by rw[h2.length];exact lG
   exists _,rfl,.inl ⟨rfl,_,zh h1⟩,_,rfl,_,rfl,vX,fun u hu=>?_;have s7:=zd hu (.tup [.str "tag",.str z,.bl fb]);have tu:TAt (upd H6 u (.tup [.str "tag",.str z,.bl fb])) u ⟨3,z,fb⟩:=za;exists lt,_,_,rfl,rfl,s7 _ _ h1,zK (by rw[length_map];omega),?_
   exact fin (k:=3) ((I6.same s7).addG (s7 _ _ h1) (zZ s7 h2) tu) (by decide) (by decide) (by decide) (fun _=>hz1)
 ·rintro σ H4 ⟨S,v6,v7,v8,v9,rfl,I4,M4,eT,eB,pL⟩
  have hlen:=l22;rw[length_map] at M4;have one:∀{T:List Rw}{k:Nat}{z:Str},T=[⟨k,z,true⟩]\/T=[]->T.length<=1:=fun h=>by rcases h with rfl|rfl <;> simp
  have lP:=M4.ln;obtain⟨j,hj,hjl,hat⟩:=pick (ends / 4);have hpa4:=I4.sm _ _ hpa;refine zC (zx (i:=9) uS.nd rfl (Or.inl rfl) (zp ze6 (zS (ac (zQ (ac zw (ac (zL yw (pv 1) (zp zW (zp yf (pv 2) ze) (cB z7 hln PySem.boot_len (ac (pv 1) zc))) (fun _ _=>rfl)) zc))) zc)) (zp zW (pv 2) ze))) ?_;exists _,rfl,_,rfl,_,_,rfl,rfl,⟨by decide,by decide⟩,_,rfl,pa,_,rfl,.inl (zh hpa4),_,_,rfl,rfl,(by rw[lz];omega),pa,_,_,.str zs[j],rfl,rfl,zh hpa4,(by rw[lz];exact hat),yC,fun u1 hu1=>?_
  have hz1:=hzn _ (getElem_mem hjl);generalize zs[j]=z1 at hz1 |-;have s5:=zd hu1 (.tup [.str "tail",.str z1]);have tu1:TAt (upd H4 u1 (.tup [.str "tail",.str z1])) u1 ⟨2,z1,true⟩:=za;have I5:=I4.same s5;generalize upd H4 u1 (.tup [.str "tail",.str z1])=H5 at s5 tu1 I5 |-;exists zaS,fun l1 hl1=>?_;have s6:=zd hl1 (.lst [.ref u1]);have g6:upd H5 l1 (.lst [.ref u1]) l1=some (.lst [.ref u1]):=za;have I6:=I5.same s6;have tu1:=tu1.same s6;generalize upd H5 l1 (.lst [.ref u1])=H6 at s6 g6 I6 tu1 |-;have b0 : 0<=ends % 2:=emod_nonneg _ (by decide)
  have b1:ends % 2<2:=emod_lt_of_pos _ (by decide)
  exists _,rfl,_,_,rfl,rfl,zp2,l1,ends % 2,_,rfl,rfl,g6,by omega,by omega,(by show 1 * _<=sizeLine;exact yn (by omega)),fun p1 hp1=>?_
  obtain⟨usT,T1,eT1,hT1,hTT⟩:∃(us:List Addr) (T:List Rw),(List.replicate (ends % 2).toNat [V.ref u1]).flatten=us.map V.ref/\Paired (TAt H6) us T/\(T=[⟨2,z1,true⟩]\/T=[]):=by
   by_cases hb:ends % 2=1
   ·rw[hb];exact⟨[u1],_,rfl,.cons tu1 .nil,.inl rfl⟩
   ·rw[show ends % 2=0 by omega];exact⟨[],_,rfl,.nil,.inr rfl⟩
  rw[eT1];have s7:=zd hp1 (.lst (usT.map V.ref));have g7:upd H6 p1 (.lst (usT.map V.ref)) p1=some (.lst (usT.map V.ref)):=za;have I7:=I6.same s7;have hT1:=zZ s7 hT1;dsimp only[zM];generalize upd H6 p1 (.lst (usT.map V.ref))=H7 at s7 g7 I7 hT1 |-;have M7:FM (cs.length+1) { S with T:=T1 }:=by
   rcases hTT with rfl|rfl
   ·exact M4.add (k:=2) (b:=true) (by decide) hz1 (fun e=>by cases e)
   ·rw[show({ S with T:=[] }:FS)=S by cases S;cases eT;rfl]
    exact⟨M4.okP,M4.okT,M4.okG,M4.okB,M4.lT,M4.lB,M4.nd,M4.sn,le_succ_of_le M4.ln,le_succ_of_le M4.lL⟩
  obtain⟨us1,h11,h12⟩:=I7.hp;obtain⟨us3,h31,h32⟩:=I7.ht;have lT1:usT.length<=1:=by rw[hT1.length];exact one hTT
  have l1':us1.length=S.P.length:=h12.length;have l3':us3.length=S.G.length:=h32.length;exists _,zf (zy (zp yT (zp yT (zp yT (pv 3) (pv 9)) (pv 4)) (zp ze6 (zS (ac (zQ (ac zw (ac (zL yw (pv 1) (zp zW (zp yf (zp yf (pv 2) ze) (cB z7 hln PySem.boot_len (ac (pv 1) zc))) (cB z7 hln PySem.boot_len (ac (pv 1) zc))) (fun _ _=>rfl)) zc))) zc)) (zp zW (zp yf (pv 2) ze) ze)))),?_;exists _,rfl,_,rfl,lp,p1,_,_,rfl,rfl,h11,g7,yn (by rw[length_map,length_map];omega),fun x1 hx1=>?_
  rw[<- map_append]
  injections x1 hx1 H8 s8 g8
  exists _,rfl,x1,lt,_,_,rfl,rfl,g8,s8 _ _ h31,yn (by rw[length_map,length_map,length_append];omega),fun x2 hx2=>?_
  rw[<- map_append]
  injections x2 hx2 H9 s9 g9
  have I9:=I7.same (s8.trans s9);obtain⟨j2,hj2,hjl2,hat2⟩:=pick (ends / 4 / (zs.length:Int));have hpa9:=I9.sm _ _ hpa;exists _,rfl,_,rfl,_,_,rfl,rfl,⟨by decide,by decide⟩,_,rfl,pa,_,rfl,.inl (zh hpa9),_,_,rfl,rfl,⟨by rw[lz];omega,by rw[lz];omega⟩,_,rfl,pa,_,rfl,.inl (zh hpa9),_,_,rfl,rfl,(by rw[lz];omega),pa,_,_,.str zs[j2],rfl,rfl,zh hpa9,(by rw[lz];exact hat2),yC,fun u2 hu2=>?_
  have hz2:=hzn _ (getElem_mem hjl2);generalize zs[j2]=z2 at hz2 |-;have s10:=zd hu2 (.tup [.str "bag",.str z2]);have tu2:TAt (upd H9 u2 (.tup [.str "bag",.str z2])) u2 ⟨4,z2,true⟩:=za;generalize upd H9 u2 (.tup [.str "bag",.str z2])=H10 at s10 tu2 |-;exists zaS,fun l2 hl2=>?_;have s11:=zd hl2 (.lst [.ref u2]);have g11:upd H10 l2 (.lst [.ref u2]) l2=some (.lst [.ref u2]):=za;have tu2:=tu2.same s11;generalize upd H10 l2 (.lst [.ref u2])=H11 at s11 g11 tu2 |-;have c0 : 0<=ends / 2 % 2:=emod_nonneg _ (by decide)
  have c1:ends / 2 % 2<2:=emod_lt_of_pos _ (by decide)
  exists _,rfl,_,_,rfl,rfl,⟨by decide,by decide⟩,_,_,rfl,rfl,zp2,l2,ends / 2 % 2,_,rfl,rfl,g11,by omega,by omega,(by show 1 * _<=sizeLine;exact yn (by omega)),fun p2 hp2=>?_
  obtain⟨usB,B1,eB1,hB1,hBB⟩:∃(us:List Addr) (B:List Rw),(List.replicate (ends / 2 % 2).toNat [V.ref u2]).flatten=us.map V.ref/\Paired (TAt H11) us B/\(B=[⟨4,z2,true⟩]\/B=[]):=by
   by_cases hb:ends / 2 % 2=1
   ·rw[hb];exact⟨[u2],_,rfl,.cons tu2 .nil,.inl rfl⟩
   ·rw[show ends / 2 % 2=0 by omega];exact⟨[],_,rfl,.nil,.inr rfl⟩
  rw[eB1];have s12:=zd hp2 (.lst (usB.map V.ref));have g12:upd H11 p2 (.lst (usB.map V.ref)) p2=some (.lst (usB.map V.ref)):=za;have hB1:=zZ s12 hB1;generalize upd H11 p2 (.lst (usB.map V.ref))=H12 at s12 g12 hB1 |-;have s912:zq H9 H12:=s10.trans (s11.trans s12);have lB1:usB.length<=1:=by rw[hB1.length];exact one hBB
  exists x2,p2,_,_,rfl,rfl,s912 _ _ g9,g12,yn (by rw[length_map,length_map,length_append,length_append];omega),fun x3 hx3=>?_
  rw[<- map_append];have s13:=zd hx3 (.lst ((us1++usT++us3++usB).map V.ref));have M13:FM (cs.length+1+1) { S with T:=T1,B:=B1 }:=by
   rcases hBB with rfl|rfl
   ·exact M7.add (k:=4) (b:=true) (by decide) hz2 (fun e=>by cases e)
   ·rw[show({ S with T:=T1,B:=[] }:FS)={ S with T:=T1 } by cases S;cases eB;rfl]
    exact⟨M7.okP,M7.okT,M7.okG,M7.okB,M7.lT,M7.lB,M7.nd,M7.sn,le_succ_of_le M7.ln,le_succ_of_le M7.lL⟩
  have s713:=(s8.trans s9).trans (s912.trans s13);refine q x3 _ _ _ (I7.sm.trans s713) (I7.sm.free ((s8.trans s9).free (s912.free hx3))) za ?_ (FM.vr M13 (by omega)) (fun z hz=>pL z (M13.sn z (by
   have n1:nms T1=[]:=jh M13.okT rfl;have n2:nms B1=[]:=jh M13.okB rfl;unfold FS.rows at hz;rw[xN,xN,xN] at hz;dsimp only at hz;rw[n1,n2,append_nil,append_nil] at hz;exact hz))) ⟨_,rfl,⟨M13.okP,M13.okT,M13.okG,M13.okB,M13.lT,M13.lB,M13.nd,M13.sn,le_trans M13.ln (by omega),le_trans M13.lL (by omega)⟩,by show S.P.length+S.G.length<=22;omega⟩
  exact zO (zO (zO (zZ s713 h12) (zZ s713 hT1)) (zZ s713 h32)) (zZ s13 hB1)
theorem zbn(ns:List Int)(a b:Nat):∃ms:List Int,wO (ns.map V.int) (some (a:Int)) (some (b:Int))=ms.map V.int/\ms.length<=b - a:=by
 exists (ns.drop (min a ns.length)).take (min b ns.length - min a ns.length),?_,?_
 ·unfold wO
  rw[HT.zkm,HT.zkm,length_map,map_take,map_drop]
 ·rw[length_take,length_drop]
  omega
def zhw(H:Hp)(zs:List Str)(Q:VK):Prop:=∀(la:Addr) (us:List Addr) (rows:List Rw) (H':Hp),zq H H'->H la=none->H' la=some (.lst (us.map V.ref))->Paired (TAt H') us rows->VR rows->(∀z∈nms rows,z∈zs)->(∃S:FS,rows=S.rows/\FM 24 S/\S.P.length+S.G.length<=22)->Q (.ref la) H'
theorem zhw.of{H H1:Hp}{zs:List Str}{Q:VK}(h:zhw H zs Q)(s:zq H H1):zhw H1 zs Q:=fun la us rows H' s' n e p v z S=>h la us rows H' (s.trans s') (s.free n) e p v z S
inductive zeb(K:Frag)(vs:List V)(H:Hp)(Q:VK)(E:XK):Prop|mk(sa pa:Addr)(ns:List Int)(k:Nat)(zs:List Str)(ends:Int):vs=[.ref sa,.int (k:Nat),.ref pa,.int ends]->SqL K H sa (ns.map V.int)->ns.length<=63->(k=4\/k=5)->H pa=some (.lst (zs.map V.str))->PL zs->(zhw H zs Q)->zeb K vs H Q E
theorem zj3:([Str.ofString "_law_j",Str.ofString "_law_cell"]:List Str).Nodup:=by decide +kernel
theorem zen:zu ["_law_script","_law_k","_law_pool_here","_law_ends","_law_cells"] ["_law_script","_law_k","_law_pool_here","_law_ends"] (zj zag):=fsc
theorem zgP{g1 g2 g3 g4:Addr}{e1 e2 e3 e4:FuncData}(F:Fun K "_law_row_at" "_law_row_at" zag f fd)(hen:mg "enumerate"=none)(cN:zE P w K mg base 1 "_law_nth" g1 e1 ["_law_script","_law_k"] (qW K))(cR:zE P w K mg base 1 "_law_row" g2 e2 ["_law_numbers","_law_pool_here","_law_ends"] (zhF K))(cD:zE P w K mg base 2 "_law_digits" g3 e3 ["_law_cell","_law_most","_law_base"] ug)(cS:zE P w K mg base 1 "_law_stirred" g4 e4 ["_law_cell","_law_k"] zbC):zA P w K mg base CX0 3 f fd ["_law_script","_law_k","_law_pool_here","_law_ends"] (zeb K):=by
 refine F.ok zen (fun cdv A outer s H vs Q E hr h=>?_);obtain⟨sa,pa,ns,k,zs,ends,rfl,hS,h63,hk,hpa,pz,q⟩:=h;have hr1:yj 1 _:=hr.mono (by decide)
 refine zC (zT (zv yA (zp zW (cF cN hr1 (ac (pv 0) (ac ze zc))) ze) ze (zJ _)) (zf (zy (cF cR hr1 (ac (cF cD hr (ac (cF cN hr1 (ac (pv 0) (ac (pv 1) zc))) (ac ze (ac ze zc)))) (ac (pv 2) (ac (pv 3) zc)))))) zG) ?_;exists _,rfl,sa,ns,1,rfl,hS,h63,fun c1 H1 s1=>?_;exists _,_,rfl,rfl,zp2,rfl,_,rfl,?_;refine vN (fun _=>?_) (fun _=>?_)
 ·exists _,rfl,_,rfl,sa,ns,k,rfl,s1.seq hS,h63,fun c2 H2 s2=>?_
  exists c2,22,768,rfl,by decide,by decide,by decide,fun ld ds H3 s3 nld hld lds=>?_
  have s03:=s1.trans (s2.trans s3);exact⟨_,rfl,_,rfl,ld,pa,ds,zs,ends,rfl,zh hld,lds,s03 _ _ hpa,pz,q.of s03⟩
 obtain⟨a,b,ea,eb,hab⟩:∃a b:Nat,4+20 * (((k:Nat):Int) - 4)=((a:Nat):Int)/\24+20 * (((k:Nat):Int) - 4)=((b:Nat):Int)/\b - a<=20:=by
  rcases hk with rfl|rfl
  ·exact⟨4,24,rfl,rfl,by decide⟩
  ·exact⟨24,44,rfl,rfl,by decide⟩
 refine zC (zx (i:=4) zen.nd rfl (Or.inl rfl) (y8 wu (pv 0) (yV (zp yB ze (zp yG ze (zp jH (pv 1) ze)))) (yV (zp yB ze (zp yG ze (zp jH (pv 1) ze)))))) ?_;exists _,rfl,_,rfl,_,_,rfl,rfl,_,_,rfl,rfl,.inl ⟨by decide,by decide⟩,_,_,rfl,rfl,_,rfl,_,rfl,_,_,rfl,rfl,_,_,rfl,rfl,.inl ⟨by decide,by decide⟩,_,_,rfl,rfl,_,rfl,sa,_,rfl,s1.seq hS,fun ca hca=>?_
 obtain⟨cs,ec,lc⟩:=zbn ns a b;rw[ea,eb,ec];have s2:=zd hca (.lst (cs.map V.int));have g2:upd H1 ca (.lst (cs.map V.int)) ca=some (.lst (cs.map V.int)):=za;have s02:=s1.trans s2;generalize upd H1 ca (.lst (cs.map V.int))=H2 at s2 g2 s02 |-;dsimp only[zM];refine⟨_,zf (zy (cF cR hr1 (ac (wx [] ["_law_j","_law_cell"] [none,none] rfl ⟨rfl,rfl,rfl,rfl⟩ (ww rfl hen (ac (pv 4) zc)) (xI (K:=K) (n:=2) 0 1) rfl rfl rfl
   (fun pins fp s H C=>⟨yO rfl (zF (zr (i:=0) zj3 rfl (Or.inl rfl) (.inr rfl)) (zF (zr (i:=1) zj3 rfl (Or.inl rfl) (.inr rfl)) yv)),yH,cF cS hr1 (ac (pv 1) (ac (pv 0) zc))⟩)) (ac (pv 2) (ac (pv 3) zc))))),?_⟩
 exists _,rfl,ca,rfl,⟨_,zh g2⟩,fun D hD=>?_;refine zc0 (K:=K) (xs:=cs.map V.int) (fun i ys H'=>zq H2 H'/\H' D=some (.lst ys)/\∃ms:List Int,ys=ms.map V.int/\ms.length=i) ⟨zd hD _,za,[],rfl,rfl⟩ (fun i ys H' h=>h.1.seq (zh g2)) ?_ ?_
 ·rintro i x p ys H' hi hx ⟨sH,hDy,ms,ey,el⟩ hpn
  obtain⟨n,hn,rfl⟩:=wY hx;have sp:=zd hpn (.tup [.int (i:Nat),.int n]);exists p,_,rfl,zB za,rfl,_,_,rfl,_,_,rfl,rfl,?_;have sA:=sH.trans sp;have hDy:=sp _ _ hDy;generalize upd H' p (.tup [.int (i:Nat),.int n])=H3 at sp hDy sA |-;rw[length_map] at hi;exists fun _=>⟨_,rfl,_,rfl,n,_,rfl,?_⟩,fun z=>absurd z (by decide)
  exact lcN.mk (by rw[length_map];exact hi) (by rw[length_map];exact yn (by omega)) hDy (by rw[ey,length_map];omega) ⟨yd sA hD _,za,ms++[_],by rw[ey,map_append];rfl,by rw[length_append,el];rfl⟩
 ·rintro ys H3 ⟨sH,hDy,ms,ey,el⟩
  rw[length_map] at el;have s03:=s02.trans sH;exact⟨_,rfl,_,rfl,D,pa,ms,zs,ends,rfl,zh (by rw[hDy,ey]),by omega,s03 _ _ hpa,pz,q.of s03⟩
theorem zcw{κ : Type}[DecidableEq κ]{kvs:List (κ×V)}{k k' : κ}{v:V}:yi (y6 kvs k v) k'=if k'=k then some v else yi kvs k':=zaI kvs k k' v
theorem jM(r:Rw)(rs:List Rw):nms (r::rs)=(if xo r.k=true then [r.z] else [])++nms rs:=by
 have:=xN [r] rs
 rw[jg] at this;exact this
theorem jX{z:Str}:∀(rows:List Rw) (i:Nat) (acc:List (Key×V)),z∉nms rows->yi (yP i acc rows) (.inr z)=yi acc (.inr z)
 | [],_,_,_=>rfl
 | r::rs,i,acc,h=>by
  rw[jM] at h;have h2:z∉nms rs:=fun e=>h (mem_append_right _ e);show yi (yP (i+1) _ rs) (.inr z)=_;rw[jX rs (i+1) _ h2];split
  next e=>
   rw[zcw,if_neg];intro e2;rw[if_pos e] at h;exact h (by rw[Sum.inr.inj e2];exact mem_append_left _ (List.mem_singleton.mpr rfl))
  ·rfl
theorem zbk{r:Rw}(hb:xo r.k=true):∀(rows:List Rw) (i j:Nat) (acc:List (Key×V)),rows[j]?=some r->(nms rows).Nodup->yi (yP i acc rows) (.inr r.z)=some (.int ((i+j:Nat):Int))
 | [],_,_,_,h,_=>by simp at h
 | y::ys,i,0,acc,h,nd=>by
  have e:y=r:=by simpa using h
  subst e;rw[jM,if_pos hb] at nd;have hz:y.z∉nms ys:=(List.nodup_cons.mp nd).1;show yi (yP (i+1) (if xo y.k=true then y6 acc (.inr y.z) (.int i) else acc) ys) (.inr y.z)=_
  rw[jX ys (i+1) _ hz,if_pos hb,zcw,if_pos rfl];rfl
 | y::ys,i,j+1,acc,h,nd=>by
  rw[jM] at nd;have nd2:=(List.nodup_append.mp nd).2.1;show yi (yP (i+1) _ ys) (.inr r.z)=_;rw[zbk hb ys (i+1) j _ (by simpa using h) nd2,show i+1+j=i+(j+1) by omega]
theorem zfO{p:Str×Nat}:∀(zs:List Str) (i:Nat) (acc:List (Str×Nat)),p∈fpF i acc zs->p∈acc\/p.1∈zs
 | [],_,_,h=>.inl h
 | z::zs,i,acc,h=>by
  have h':p∈fpF (i+1) (if (acc.any fun p=>decide (p.1=z))=true then acc else acc++[(z,i)]) zs:=h
  rcases zfO zs (i+1) _ h' with h1|h1
  ·split at h1
   ·exact .inl h1
   ·rcases List.mem_append.mp h1 with h2|h2
    ·exact .inl h2
    ·rw[List.mem_singleton.mp h2]
     exact .inr mem_cons_self
  ·exact .inr (mem_cons_of_mem _ h1)
theorem zf8{rows:List Rw}{bars:List Str}{many:Nat}{zs:List Str}(h:∀z∈zs,xc rows bars many z=none):uZ rows bars many (fpZ zs)=[]:=by
 unfold uZ;rw[List.filterMap_eq_nil_iff];intro p hp;rcases zfO zs 0 [] hp with h1|h1
 ·cases h1
 ·rw[h p.1 h1]
  rfl
theorem zb8(a b:List (Str×Nat)):nlF (a++b)=(nlF a).or (nlF b):=find?_append
theorem zg4(many:Nat)(fk:List (Key×V))(rows:List Rw)(i:Nat):nlF (vT many fk i rows)=none:=by
 refine List.find?_eq_none.mpr fun m h=>?_
 have:m.1="lacking":=by
  induction rows generalizing i with
  | nil=>cases h
  | cons r rs ih=>
   rcases List.mem_append.mp h with h|h
   ·split at h
    ·rw[List.mem_singleton.mp h]
    ·cases h
   ·exact ih (i+1) h
 rw[this];decide +kernel
theorem zf7{a b:List (Str×Nat)}{z:Str}{v:V}(h:yi (kvP a) (.inr z)=some v):yi (kvP (a++b)) (.inr z)=some v:=by
 unfold yi at h |-;unfold kvP at h |-;rw[map_append,find?_append];cases e:(a.map fun p=>((Sum.inr p.1:Key),V.int (p.2:Nat))).find? fun kv=>decide (kv.1=.inr z) with
 | none=>rw[e] at h;cases h
 | some kv=>rw[e] at h;exact h
theorem zf6{a:List (Str×Nat)}{z:Str}{i:Nat}(h:(a.any fun p=>decide (p.1=z))=false):yi (kvP (a++[(z,i)])) (.inr z)=some (.int (i:Nat)):=by
 have e0:yi (kvP a) (.inr z)=none:=by
  rw[<- ji] at h;exact Option.not_isSome_iff_eq_none.mp (by rw[h];exact zft)
 unfold yi at e0 |-;unfold kvP at e0 |-;rw[map_append,find?_append];cases e:(a.map fun p=>((Sum.inr p.1:Key),V.int (p.2:Nat))).find? fun kv=>decide (kv.1=.inr z) with
 | none=>
  rw[Option.none_or,map_cons,find?_cons,decide_eq_true rfl];rfl
 | some kv=>rw[e] at e0;cases e0
theorem zby{z:Str}{v:V}:∀(zs:List Str) (i:Nat) (acc:List (Str×Nat)),yi (kvP acc) (.inr z)=some v->yi (kvP (fpF i acc zs)) (.inr z)=some v
 | [],_,_,h=>h
 | y::ys,i,acc,h=>by
  show yi (kvP (fpF (i+1) (if (acc.any fun p=>decide (p.1=y))=true then acc else acc++[(y,i)]) ys)) _=_
  split
  ·exact zby ys (i+1) acc h
  ·exact zby ys (i+1) _ (zf7 h)
theorem zhu{acc:List (Str×Nat)}{z:Str}:(acc.any fun p=>decide (p.1=z))=decide (z∈acc.map (·.1)):=by
 rw[Bool.eq_iff_iff,List.any_eq_true,decide_eq_true_eq,mem_map];exact⟨fun⟨p,h1,h2⟩=>⟨p,h1,of_decide_eq_true h2⟩,fun⟨p,h1,h2⟩=>⟨p,h1,decide_eq_true h2⟩⟩
theorem zbm:∀(zs:List Str) (i:Nat) (acc:List (Str×Nat)),(∀j y,zs[j]?=some y->y∉acc.map (·.1)++zs.take j)->j0 (kvP (fpF i acc zs)) i zs=[]
 | [],_,_,_=>rfl
 | y::ys,i,acc,hn=>by
  have hy:=hn 0 y rfl;rw[List.take_zero,append_nil] at hy;have hany:(acc.any fun p=>decide (p.1=y))=false:=by rw[zhu];exact decide_eq_false hy
  have ef:fpF i acc (y::ys)=fpF (i+1) (acc++[(y,i)]) ys:=by
   show fpF (i+1) (if (acc.any fun p=>decide (p.1=y))=true then acc else acc++[(y,i)]) ys=_
   rw[hany,if_neg zft]
  have em:∀k,(acc++[(y,i)]).map (·.1)++ys.take k=acc.map (·.1)++(y::ys).take (k+1):=fun k=>by simp
  show(if yi (kvP (fpF i acc (y::ys))) (.inr y)=some (.int (i:Nat)) then [] else [(("doubled" : Str),i)])++j0 (kvP (fpF i acc (y::ys))) (i+1) ys=_
  rw[ef,zby ys (i+1) _ (zf6 hany),if_pos rfl,nil_append];exact zbm ys (i+1) (acc++[(y,i)]) fun j x hx=>by
   rw[em];exact hn (j+1) x (by simpa using hx)
def qU(zs:List Str):Prop:=∀(j:Nat) (y:Str),zs[j]?=some y->y∉zs.take j
theorem zb9{rows:List Rw}{bars:List Str}{many:Nat}{zs:List Str}(hn:qU zs):nlF (qA rows bars many zs)=(nlF (vj rows many)).or (nlF (uZ rows bars many (fpZ zs))):=by
 have h':j0 (kvP (fpZ zs)) 0 zs=[]:=zbm zs 0 [] hn;unfold qA;rw[zb8,zb8,zb8,h',zg4,Option.or_none];rfl
theorem zgF{rows:List Rw}{many:Nat}(h:many<=plN rows\/(zR 2 0 rows).isSome=true):vj rows many=[]:=by
 unfold vj;rcases h with h|h
 ·split
  ·rfl
  ·rw[show many - plN rows=0 by omega]
   rfl
 ·rw[if_pos h]
theorem zc7{rows:List Rw}{bars:List Str}{many:Nat}{zs:List Str}(hn:qU zs)(ho:many<=plN rows\/(zR 2 0 rows).isSome=true)(hp:∀z∈zs,xc rows bars many z=none):nlF (qA rows bars many zs)=none:=by
 rw[zb9 hn,zgF ho,zf8 hp];rfl
theorem zb2{k:Nat}(h:k<5):wp k=decide (grp k=0):=by
 rcases lt5 h with rfl|rfl|rfl|rfl|rfl <;> rfl
theorem zhQ:∀(rows:List Rw) (l:Nat),1<=l->(∀r∈rows,r.ok)->yW l rows=true->rows.filter (fun r=>wp r.k)=[]
 | [],_,_,_,_=>rfl
 | r::rs,l,hl,hok,ho=>by
  have ho':(!vq l (grp r.k)&&yW (grp r.k) rs)=true:=ho;rw[Bool.and_eq_true] at ho';have hg : 1<=grp r.k:=by
   refine Nat.pos_of_ne_zero fun e=>?_;rw[e] at ho'
   have:vq l 0=true:=by
    unfold vq;rw[decide_eq_true (show 0<l by omega)]
    rfl
   rw[this] at ho';cases ho'.1
  have hb:wp r.k=false:=by rw[zb2 (hok r mem_cons_self).1];exact decide_eq_false (by omega)
  rw[filter_cons,hb,if_neg zft];exact zhQ rs (grp r.k) hg (fun x hx=>hok x (mem_cons_of_mem _ hx)) ho'.2
theorem jD:∀(rows:List Rw),(∀r∈rows,r.ok)->yW 0 rows=true->rows.filter (fun r=>wp r.k)=rows.take (plN rows)
 | [],_,_=>rfl
 | r::rs,hok,ho=>by
  have ho':(!vq 0 (grp r.k)&&yW (grp r.k) rs)=true:=ho;rw[Bool.and_eq_true] at ho';have hok':∀x∈rs,x.ok:=fun x hx=>hok x (mem_cons_of_mem _ hx);cases hb:wp r.k with
  | true=>
   have hg:grp r.k=0:=by
    rw[zb2 (hok r mem_cons_self).1] at hb;exact of_decide_eq_true hb
   rw[hg] at ho';have ih:=jD rs hok' ho'.2;have e:plN (r::rs)=plN rs+1:=by unfold plN;rw[filter_cons,hb,if_pos rfl];rfl
   rw[e,filter_cons,hb,if_pos rfl,List.take_succ_cons,ih]
  | false=>
   have hg : 1<=grp r.k:=by
    rw[zb2 (hok r mem_cons_self).1] at hb;exact Nat.pos_of_ne_zero (of_decide_eq_false hb)
   have h0:=zhQ rs (grp r.k) hg hok' ho'.2;have e:plN (r::rs)=0:=by unfold plN;rw[filter_cons,hb,if_neg zft,h0];rfl
   rw[e,filter_cons,hb,if_neg zft,h0];rfl
def zbf(rows:List Rw)(many:Nat):List Str:=(((rows.filter fun r=>wp r.k).take many).filter fun r=>decide (r.k=1)).map (·.z)
theorem zhg{rows:List Rw}(V1:VR rows){many:Nat}{z:Str}:z∈zbf rows many ↔ ∃(l:Nat) (r:Rw),rows[l]?=some r/\l<plN rows/\l<many/\r.k=1/\r.z=z:=by
 unfold zbf;rw[jD rows V1.ok V1.ord,List.take_take,mem_map];constructor
 ·rintro⟨r,hr,rfl⟩
  rw[List.mem_filter] at hr;obtain⟨l,hl⟩:=List.mem_iff_getElem?.mp hr.1;have hlt:=(List.getElem?_eq_some_iff.mp hl).1;rw[length_take] at hlt;rw[getElem?_take,if_pos (by omega)] at hl
  exact⟨l,r,hl,by omega,by omega,of_decide_eq_true hr.2,rfl⟩
 ·rintro⟨l,r,hl,h1,h2,hk,rfl⟩
  exists r,List.mem_filter.mpr ⟨List.mem_iff_getElem?.mpr ⟨l,?_⟩,decide_eq_true hk⟩,rfl;rw[getElem?_take,if_pos (by omega)]
  exact hl
theorem ziY{rows:List Rw}{z:Str}(h:z∈nms rows):∃(l:Nat) (r:Rw),rows[l]?=some r/\xo r.k=true/\r.z=z:=by
 unfold nms at h;obtain⟨r,hr,rfl⟩:=List.mem_map.mp h;rw[List.mem_filter] at hr;obtain⟨l,hl⟩:=List.mem_iff_getElem?.mp hr.1;exact⟨l,r,hl,hr.2,rfl⟩
theorem zhW{rows:List Rw}{bars:List Str}{many:Nat}{z:Str}(h:z∉bars)(hk:z∉nms rows):xc rows bars many z=if (zR 4 0 rows).isSome=true then none else some ("strange" : Str):=by
 have hv:=jX (z:=z) rows 0 [] hk;have e1:xc.lastD' z rows=none:=by unfold xc.lastD';rw[hv];rfl
 unfold xc;rw[if_neg h,e1]
theorem zhV{rows:List Rw}{bars:List Str}{many:Nat}{z:Str}(V1:VR rows)(h:z∉bars)(hg:z∉zbf rows many)(hk:z∈nms rows):xc rows bars many z=none:=by
 obtain⟨l,r,hl,hb,rfl⟩:=ziY hk;have hv:=zbk hb rows 0 l [] hl V1.nd;have e1:xc.lastD' r.z rows=some l:=by unfold xc.lastD';rw[hv,Nat.zero_add];rfl
 unfold xc;rw[if_neg h,e1];refine if_neg fun⟨h1,h2⟩=>hg ((zhg V1).mpr ⟨l,r,hl,h1,h2,?_,rfl⟩);have hm:r∈rows.filter fun r=>wp r.k:=by
  rw[jD rows V1.ok V1.ord];exact List.mem_iff_getElem?.mpr ⟨l,by rw[getElem?_take,if_pos h1];exact hl⟩
 have hp:wp r.k=true:=(List.mem_filter.mp hm).2;have ho:=(V1.ok r (mem_of_getElem? hl)).1;unfold wp at hp;unfold xo at hb;simp only[Bool.or_eq_true,beq_iff_eq] at hp hb;omega
theorem uV(kk:Nat):∀(rows:List Rw) (i:Nat),(zR kk i rows).isSome=rows.any fun r=>decide (r.k=kk)
 | [],_=>rfl
 | r::rs,i=>by
  show(if r.k=kk then some i else zR kk (i+1) rs).isSome=(decide (r.k=kk)||rs.any _)
  by_cases h:r.k=kk
  ·rw[if_pos h,decide_eq_true h];rfl
  ·rw[if_neg h,decide_eq_false h,Bool.false_or];exact uV kk rs (i+1)
def uF(rows:List Rw):List Str:=rows.map fun r=>kw r.k
theorem zhb:∀a,a<5->∀b,b<5->kw a=kw b->a=b:=by decide +kernel
theorem zaR{rows:List Rw}(hok:∀r∈rows,r.ok){kk:Nat}(h:kk<5):decide (kw kk∈uF rows)=(zR kk 0 rows).isSome:=by
 rw[uV,Bool.eq_iff_iff,decide_eq_true_eq,List.any_eq_true];unfold uF;rw[mem_map];exact⟨fun⟨r,h1,h2⟩=>⟨r,h1,decide_eq_true (zhb _ (hok r h1).1 _ h h2)⟩,fun⟨r,h1,h2⟩=>⟨r,h1,by rw[of_decide_eq_true h2]⟩⟩
theorem xE{K:Frag}{ok:Addr->Prop}{H3:Hp}{o:HO}{l:Addr}(hl:H3 l=none\/(∃zs,H3 l=some (.lst zs))):∀{ps:List (Str×Int)}{zs:List V},Paired (zz K ok H3 1) zs (ps.map yr)->Paired (zz K ok (upd H3 l o) 1) zs (ps.map yr)
 | [],_,r=>by cases r;exact .nil
 | p::ps,_,r=>by
  cases r with
  | cons h r=>
   refine .cons ?_ (xE hl r);obtain⟨b,ws,rfl,hS',r'⟩:=yZ h;exact .tup (zaN hl hS') (zm (fun _ _ z=>z) r')
theorem wN{c:List zY}{i:Nat}{d:Dt}(h:(c.map zV)[i]?=some d):∃it,c[i]?=some it/\zV it=d:=by
 rw[getElem?_map] at h;cases e:c[i]? with
 | none=>rw[e] at h;cases h
 | some it=>rw[e] at h;exact⟨it,rfl,Option.some.inj h⟩
theorem vz:zu ["_law_items_here","_law_things","_law_pairs","_law_item_here"] ["_law_items_here"] (zj zbR):=fsc
theorem zfj(F:Fun K "_law_laid" "_law_laid" zbR f fd)(U:zjd mg):zA P w K mg base CX0 1 f fd ["_law_items_here"] (vW K):=by
 refine F.ok vz (fun cdv A outer s H vs Q E hr h=>?_);obtain⟨a,c,xs,rfl,hS,hc,hT,hP,q⟩:=h;refine⟨_,zk (zx (i:=1) vz.nd rfl (Or.inl rfl) (zS zc)) (zk (zx (i:=2) vz.nd rfl (Or.inl rfl) (zS zc))
  (zk (yz PassesOwn.never rfl (z9 (pv 0)) (zr (i:=3) vz.nd rfl (Or.inl rfl))
   (zf (zT (zv yA (zL zU (pv 3) ze (fun _ _=>rfl)) zw (zJ _)) (zf (zI (yK PySem.F.plainAttrs_list PySem.F.slot_list_append PySem.F.type_list_append zP (pv 1) (ac (zL zU (pv 3) ze (fun _ _=>rfl)) zc))))
    (zf (zT (zv yA (zL zU (pv 3) ze (fun _ _=>rfl)) zw (zJ _)) (zf (zx (i:=1) vz.nd rfl (Or.inl rfl) (zp yT (pv 1) (cTy yq U.list PyProof.Rows.boot_list (ac (zL zU (pv 3) ze (fun _ _=>rfl)) zc)))))
     (zf (zT (zv yA (zL zU (pv 3) ze (fun _ _=>rfl)) zw (zJ _)) (zf (zI (yK PySem.F.plainAttrs_list PySem.F.slot_list_append PySem.F.type_list_append zP (pv 2) (ac (zQ (ac (zL zU (pv 3) ze (fun _ _=>rfl)) (ac (zL zU (pv 3) ze (fun _ _=>rfl)) zc))) zc))))
      (zf (zx (i:=2) vz.nd rfl (Or.inl rfl) (zp yT (pv 2) (cTy yq U.list PyProof.Rows.boot_list (ac (zL zU (pv 3) ze (fun _ _=>rfl)) zc))))))))))))
  (zf (zy (zQ (ac (pv 1) (ac (pv 2) zc))))))),?_⟩
 exists wb,fun l1 h1=>?_;exists wb,fun l2 h2=>?_;have n12:l1≠l2:=zi za h2;have f2:H l2=none:=(zd h1 _).free h2;have s0:zq H (upd (upd H l1 (.lst [])) l2 (.lst [])):=(zd h1 _).trans (zd h2 _);refine⟨_,rfl,a,rfl,⟨_,s0.seq hS⟩,yJ (K:=K) (a:=a) (xs:=xs) (fun i σ H2=>∃(l1 l2:Addr) (v3:Option V) (ys:List V),σ=[some (.ref a),some (.ref l1),some (.ref l2),v3]/\l1≠l2/\H l1=none/\H l2=none/\zq H H2/\H2 l1=some (.lst ((zH (c.take i)).map V.int))/\H2 l2=some (.lst ys)/\Paired (zz K T' H2 1) ys ((zD (c.take i)).map yr))
  ⟨l1,l2,_,[],rfl,n12,h1,f2,s0,by rw[zg n12,za];rfl,za,.nil⟩ (fun i σ H2 _ ⟨_,_,_,_,_,_,_,_,s2,_⟩=>s2.seq hS) ?_ ?_⟩
 ·clear n12 f2 s0 h2 h1 l1 l2
  rintro i y σ H2 hi ⟨l1,l2,v3,ys,rfl,n12,h1,f2,s2,g1,g2,gp⟩;obtain⟨d,hd,hy⟩:=Paired.get hc hi;obtain⟨it,hit,rfl⟩:=wN hd;have hy2:=hy.same s2;have eT:=wW c i it hit;have eP:=wm c i it hit;have lT:=wk c i;have lP:=wn c i;have lT1:=wk c (i+1);have lP1:=wn c (i+1);have lys:ys.length=(zD (c.take i)).length:=by rw[gp.length,length_map]
  cases it with
  | one t=>
   obtain⟨b,rfl,hb⟩:=wM hy2;exists _,rfl,b,_,_,.str "one",rfl,rfl,hb,rfl,rfl,_,rfl,?_;refine dT rfl ?_;exists _,rfl,.inl ⟨rfl,_,zh g1⟩,_,rfl,b,_,_,.int t,rfl,rfl,hb,rfl,l1,_,_,rfl,rfl,g1,?_,?_
   ·rw[length_map];exact zK (by omega)
   ·exists l1,l2,_,ys,rfl,n12,h1,f2,yd s2 h1 _,?_,?_,?_
    ·rw[za,eT,map_append];rfl
    ·rw[zg n12.symm];exact g2
    ·rw[eP];show Paired _ _ ((zD (c.take i)++[]).map yr);rw[append_nil];exact xE (.inr ⟨_,g1⟩) gp
  | row ts=>
   obtain⟨b,bl,rfl,hb,_,hbl⟩:=uy hy2;exists _,rfl,b,_,_,.str "row",rfl,rfl,hb,rfl,rfl,_,rfl,?_;refine dF ne1 ?_;exists _,rfl,b,_,_,.str "row",rfl,rfl,hb,rfl,rfl,_,rfl,?_;refine dT rfl ?_;exists _,rfl,_,rfl,b,_,_,.ref bl,rfl,rfl,hb,rfl,bl,_,rfl,.inl (zh hbl),fun l hl=>?_;have s3:=zd hl (.lst (ts.map V.int));have e1:(zH (c.take (i+1))).length=(zH (c.take i)).length+ts.length:=by rw[eT,length_append];rfl
   exists l1,l,_,_,rfl,rfl,s3 _ _ g1,za,(by rw[length_map,length_map];exact yn (by omega)),fun l' hl'=>?_
   have s4:=s3.trans (zd hl' (.lst ((zH (c.take i)).map V.int++ts.map V.int)));exists l',l2,_,ys,rfl,(zi (s3 _ _ g2) hl').symm,s2.free (s3.free hl'),f2,s2.trans s4,?_,s4 _ _ g2,?_
   ·rw[za,eT,map_append];rfl
   ·rw[eP];show Paired _ _ ((zD (c.take i)++[]).map yr);rw[append_nil];exact yF s4 gp
  | named z t=>
   obtain⟨b,rfl,hb⟩:=xH hy2;exists _,rfl,b,_,_,.str "named",rfl,rfl,hb,rfl,rfl,_,rfl,?_;refine dF ne2 ?_;exists _,rfl,b,_,_,.str "named",rfl,rfl,hb,rfl,rfl,_,rfl,?_;refine dF ne4 ?_;exists _,rfl,b,_,_,.str "named",rfl,rfl,hb,rfl,rfl,_,rfl,?_;refine dT rfl ?_;exists _,rfl,.inl ⟨rfl,_,zh g2⟩,_,rfl,b,_,_,.str z,rfl,rfl,hb,rfl,_,rfl,b,_,_,.int t,rfl,rfl,hb,rfl,yC,fun p hp=>?_;have np2:l2≠p:=zi g2 hp;have np1:l1≠p:=zi g1 hp;have fp:H p=none:=s2.free hp;exists l2,_,_,rfl,rfl,(by rw[zg np2];exact g2),?_,?_
   ·rw[lys];exact zK (by omega)
   ·exists l1,l2,_,ys++[.ref p],rfl,n12,h1,f2,yd (yd s2 fp _) f2 _,?_,za,?_
    ·rw[zg n12,zg np1,g1,eT];show _=some (HO.lst ((zH (c.take i)++[]).map V.int));rw[append_nil]
    ·rw[eP,map_append]
     refine zO (xE (.inr ⟨_,by rw[zg np2];exact g2⟩) (xE (.inl hp) gp)) (.cons (.tup (xs:=[.str z,.int t]) (zB ?_) (.cons .str (.cons .int .nil))) .nil)
     rw[zg np2.symm,za]
  | book ps=>
   obtain⟨b,bl,zs,rfl,hb,_,hbl,hz⟩:=vH hy2;exists _,rfl,b,_,_,.str "book",rfl,rfl,hb,rfl,rfl,_,rfl,?_;refine dF ne3 ?_;exists _,rfl,b,_,_,.str "book",rfl,rfl,hb,rfl,rfl,_,rfl,?_;refine dF ne5 ?_;exists _,rfl,b,_,_,.str "book",rfl,rfl,hb,rfl,rfl,_,rfl,?_;refine dF ne6 ?_;have lz:zs.length=ps.length:=by rw[hz.length,length_map]
   exists _,rfl,_,rfl,b,_,_,.ref bl,rfl,rfl,hb,rfl,bl,_,rfl,.inl (zh hbl),fun l hl=>?_;have s3:=zd hl (.lst zs);have e1:(zD (c.take (i+1))).length=(zD (c.take i)).length+ps.length:=by rw[eP,length_append];rfl
   exists l2,l,_,_,rfl,rfl,s3 _ _ g2,za,(by rw[lys,lz];exact yn (by omega)),fun l' hl'=>?_
   have s4:=s3.trans (zd hl' (.lst (ys++zs)));exists l1,l',_,ys++zs,rfl,zi (s3 _ _ g1) hl',h1,s2.free (s3.free hl'),s2.trans s4,?_,za,?_
   ·rw[s4 _ _ g1,eT];show _=some (HO.lst ((zH (c.take i)++[]).map V.int));rw[append_nil]
   ·rw[eP,map_append]
    exact zO (yF s4 gp) (yF s4 hz)
 ·rintro σ H2 ⟨l1,l2,v3,ys,rfl,n12,h1,f2,s2,g1,g2,gp⟩
  exists _,rfl,_,rfl,yC,fun p hp=>?_;have hl:xs.length=c.length:=by rw[hc.length,length_map]
  rw[hl,take_length] at g1 gp;refine q p _ (s2.trans (zd hp _)) ⟨l1,l2,ys,h1,f2,n12,s2.free hp,za,?_,?_,zm (fun _ _ z=>z.same (zd hp _)) gp⟩
  ·rw[zg (zi g1 hp)];exact g1
  ·rw[zg (zi g2 hp)];exact g2
theorem vL{xs:List V}{n:Nat}:wO xs none (some (n:Int))=xs.take n:=by
 unfold wO;rw[HT.zkm,HT.zjJ,List.drop_zero,Nat.sub_zero];by_cases h:n<=xs.length
 ·rw[Nat.min_eq_left h]
 ·rw[Nat.min_eq_right (by omega),take_of_length_le (le_refl _),take_of_length_le (by omega)]
theorem jF{α β : Type}{R : α->β->Prop}{a:List α}{c:List β}(h:Paired R a c):∀n,Paired R (a.take n) (c.take n):=by
 induction h with
 | nil=>intro n;rw[take_nil,take_nil];exact .nil
 | cons r _ ih=>
  intro n;cases n with
  | zero=>exact .nil
  | succ n=>exact .cons r (ih n)
abbrev wIn(K:Frag)(a b:Str):TT:=zcx (tOp (rIn K false) (tOp (wS K) (j6 0) (tC (.int 0))) (zjq (zaK (tC (.str a)) (zaK (tC (.str b)) zdq))))
variable {H:Hp}{a D:Addr}{us:List Addr}{rows:List Rw}{σ:L2.St}{Q:VK}
theorem zg8{ps:List (Str×Int)}{ys:List V}(hb:SqL K H a ys)(hp:Paired (zz K T' H 1) ys (ps.map yr))(lp:ps.length<=900)(hD:H D=none)
  (q:∀H',zq H H'->H' D=some (.lst ((ps.map (·.1)).map V.str))->Q (.ref D) H'):LCr (Itl K a) [none,none] (zi8 K 2 (zbg (zM 0) (zbg (zM 1) zi9))) zd6 (j6 0) σ H Q D:=by
 have ly:ys.length=ps.length:=by rw[hp.length,length_map]
 refine zcd (K:=K) (xs:=ys) ps (fun _=>true) (fun p=>.str p.1) hD hb ly (by omega) (fun i x y H' N S hx hy sH n1 s1=>?_) (fun H' sH hd=>q H' sH ?_)
 ·obtain⟨d,hd,hx1⟩:=Paired.get hp hx
  obtain⟨pr,hpr,rfl⟩:=uu hd;rw[hy] at hpr;cases hpr;obtain⟨bb,rfl,hbb⟩:=vD (n:=0) hx1;exact⟨bb,_,rfl,sH.sqT hbb,rfl,_,_,rfl,_,_,rfl,rfl,fun _=>⟨_,rfl,n1 _ (zq.refl _) rfl⟩,fun z=>absurd z (by decide)⟩
 ·rw[List.filter_eq_self.mpr (fun _ _=>rfl)] at hd
  rw[map_map];exact hd
theorem zfC(ha:H a=some (.lst (us.map V.ref)))(hu:Paired (TAt H) us rows)(V1:VR rows)(hD:H D=none)
  (q:∀H',zq H H'->H' D=some (.lst ((uF rows).map V.str))->Q (.ref D) H'):LCr (Itl K a) [none] (zM 0) zd6 (tOp (wS K) (j6 0) (tC (.int 0))) σ H Q D:=by
 have l24:=V1.l24;refine jP (K:=K) TAt (fun _=>true) (fun _ r=>.str (kw r.k)) hD ha hu (by omega) (fun i u r H' N S hu' hr' tr sH n1 s1=>?_) (fun H' sH hd=>q H' sH ?_)
 ·have rk:=V1.ok r (mem_of_getElem? hr')
  exact⟨fun _=>⟨_,rfl,u,_,0,_,rfl,rfl,zB (sH _ _ tr),uo rk,n1 _ (zq.refl _) rfl⟩,fun z=>absurd z (by decide)⟩
 ·rw[hd,qV hu (fun _=>true) (fun r=>V.str (kw r.k)),List.filter_eq_self.mpr (fun _ _=>rfl)]
  unfold uF;rw[map_map];rfl
theorem zfE(ha:H a=some (.lst (us.map V.ref)))(hu:Paired (TAt H) us rows)(V1:VR rows)(hD:H D=none)
  (q:∀H',zq H H'->H' D=some (.lst ((nms rows).map V.str))->Q (.ref D) H'):LCr (Itl K a) [none] (zM 0) (wIn K "both" "tag") (tOp (wS K) (j6 0) (tC (.int 1))) σ H Q D:=by
 have l24:=V1.l24;refine jP (K:=K) TAt (fun r=>xo r.k) (fun _ r=>.str r.z) hD ha hu (by omega) (fun i u r H' N S hu' hr' tr sH n1 s1=>?_) (fun H' sH hd=>q H' sH (by rw[hd,zcW hu]))
 have rk:=V1.ok r (mem_of_getElem? hr');have tu:=sH _ _ tr;exists _,rfl,u,_,0,_,rfl,rfl,zB tu,uo rk,yC,fun l hl=>?_;have s2:=zd hl (.lst [.str "both",.str "tag"]);exists l,_,rfl,.inl (zh za),rfl,rfl,_,rfl,?_;rw[if_neg zft,zfI rk.1];exact⟨fun e=>⟨_,rfl,u,_,1,_,rfl,rfl,zB (s2 _ _ tu),zap rk,n1 _ s2 e⟩,fun e=>s1 _ s2 e⟩
theorem zdM(ha:H a=some (.lst (us.map V.ref)))(hu:Paired (TAt H) us rows)(V1:VR rows)(hD:H D=none)
  (q:∀(H':Hp) (vs:List Addr),zq H H'->H' D=some (.lst (vs.map V.ref))->Paired (TAt H') vs (rows.filter fun r=>wp r.k)->Q (.ref D) H'):LCr (Itl K a) [none] (zM 0) (wIn K "seat" "both") (j6 0) σ H Q D:=by
 have l24:=V1.l24;refine jP (K:=K) TAt (fun r=>wp r.k) (fun u _=>.ref u) hD ha hu (by omega) (fun i u r H' N S hu' hr' tr sH n1 s1=>?_) (fun H' sH hd=>?_)
 ·have rk:=V1.ok r (mem_of_getElem? hr')
  have tu:=sH _ _ tr;exists _,rfl,u,_,0,_,rfl,rfl,zB tu,uo rk,yC,fun l hl=>?_;have s2:=zd hl (.lst [.str "seat",.str "both"]);exists l,_,rfl,.inl (zh za),rfl,rfl,_,rfl,?_;rw[if_neg zft,zi4 rk.1];exact⟨fun e=>⟨_,rfl,n1 _ s2 e⟩,fun e=>s1 _ s2 e⟩
 ·obtain⟨vs,e,p⟩:=zf4 hu (fun r=>wp r.k)
  rw[e] at hd;exact q H' vs sH hd (zZ sH p)
theorem zha{rs:List Rw}(ha:H a=some (.lst (us.map V.ref)))(hu:Paired (TAt H) us rs)(hok:∀r∈rs,r.ok)(hl:rs.length<=500)(hD:H D=none)
  (q:∀H',zq H H'->H' D=some (.lst (((rs.filter fun r=>decide (r.k=1)).map (·.z)).map V.str))->Q (.ref D) H'):LCr (Itl K a) [none] (zM 0) (zcx (tOp rEq (tOp (wS K) (j6 0) (tC (.int 0))) (tC (.str "both")))) (tOp (wS K) (j6 0) (tC (.int 1))) σ H Q D:=by
 refine jP (K:=K) TAt (fun r=>decide (r.k=1)) (fun _ r=>.str r.z) hD ha hu (by omega) (fun i u r H' N S hu' hr' tr sH n1 s1=>?_) (fun H' sH hd=>q H' sH ?_)
 ·have rk:=hok r (mem_of_getElem? hr')
  have tu:=sH _ _ tr;exists _,rfl,u,_,0,_,rfl,rfl,zB tu,uo rk,rfl,_,rfl,?_;have ek:decide (V.str (kw r.k)=V.str "both")=decide (r.k=1):=by
   rcases lt5 rk.1 with e|e|e|e|e <;> rw[e] <;> decide +kernel
  rw[ek];exact⟨fun e=>⟨_,rfl,u,_,1,_,rfl,rfl,zB tu,zap rk,n1 _ (zq.refl _) e⟩,fun e=>s1 _ (zq.refl _) e⟩
 ·rw[hd,qV hu (fun r=>decide (r.k=1)) (fun r=>V.str r.z),map_map]
  rfl
def zhA(rows:List Rw)(bars:List Str)(n:Nat)(zs:List Str):Prop:=qU zs/\(n<=plN rows\/(zR 2 0 rows).isSome=true)/\∀z∈zs,xc rows bars n z=none
inductive zea(K:Frag)(vs:List V)(H:Hp)(Q:VK)(E:XK):Prop|mk(la lb lt lp:Addr)(us:List Addr)(rows:List Rw)(bars:List Str)(ts:List Int)(ys:List V)(ps:List (Str×Int)):vs=[.ref la,.ref lb,.ref lt,.ref lp]->H la=some (.lst (us.map V.ref))->Paired (TAt H) us rows->VR rows->H lb=some (.lst (bars.map V.str))->H lt=some (.lst (ts.map V.int))->H lp=some (.lst ys)->Paired (zz K T' H 1) ys (ps.map yr)->ps.length<=900->(∀(b:Bool) (H':Hp),zq H H'->(b=true->zhA rows bars ts.length (ps.map (·.1)))->Q (.bl b) H')->zea K vs H Q E
end
end K62
namespace L2
open PySem PySem.Spec PyProof.Rows
def Cnt(val:Nat->Str)(i c:Nat):Prop:=c<=i/\(c=i->∀j,j<i->∀k,k<j->val k≠val j)
theorem Cnt.step{val:Nat->Str}{i c:Nat}{T:Str->Bool}(h:Cnt val i c)(hT:∀z,T z=true ↔ ∃j,j<i/\z=val j):Cnt val (i+1) (if T (val i) then c else c+1):=by
 by_cases e:T (val i)=true
 ·rw[if_pos e]
  exact⟨le_succ_of_le h.1,fun z=>absurd z (by have:=h.1;omega)⟩
 ·rw[if_neg e]
  exists succ_le_succ h.1,fun z j hj k hk=>?_;by_cases hji:j<i
  ·exact h.2 (by omega) j hji k hk
  ·have:j=i:=by omega
   subst this;exact fun z'=>e ((hT _).mpr ⟨k,hk,z'.symm⟩)
section
variable {P:Program}{w:World}{A:Around}{R:Result->Shared->Prop}{I:Addr}{fp wr:List Addr}{G:Array GenState->Array GenState->Prop}{n:Nat}{Pr:Nat->Value->Prop}{Sg:Nat->Shared->Prop}
theorem zfK{val:Nat->Str}{i:Nat}{T:Str->Bool}(hT:∀z,T z=true ↔ ∃j,j<i/\z=val j):∀z,(T z||decide (z=val i))=true ↔ ∃j,j<i+1/\z=val j:=fun z=>by
 rw[Bool.or_eq_true,hT,decide_eq_true_eq];constructor
 ·rintro (⟨j,hj,e⟩|e)
  ·exact⟨j,by omega,e⟩
  ·exact⟨i,by omega,e⟩
 ·rintro⟨j,hj,e⟩
  by_cases h:j<i
  ·exact .inl ⟨j,h,e⟩
  ·exact .inr (by rw[e,show j=i by omega])
theorem uR(W:WalksS P w A.in1 I fp wr G n Pr Sg)(a:Addr)(ha:a∉fp)(val:Nat->Str)(hv:∀i v,Pr i v->∃t,v=.str (val i) t)(hb:n+1<scanBound):
  ∀(k i:Nat) (s:Shared) (T:Str->Bool) (c:Nat),n - i=k->i<=n->Sg i s->Cnt val i c->(∀z,T z=true ↔ ∃j,j<i/\z=val j)->s.heap.SetOf (strKind P w) a T c->
   (∀s' c',Moved (a::wr) G s s'->Cnt val n c'->s'.heap.SetOf (strKind P w) a (seen val T i k) c'->R (.ok (.ret .none)) s')->
   codeAny (model P w) A (.builtin "set.update.loop" ⟨[.ref a,.ref I],[]⟩) R s
 | 0,i,s,T,c,hk,hi,hg,hc,hTz,hT,hR=>by
  have hw:a∉wr:=fun z=>ha (W.sub _ z);have ei:i=n:=by omega
  subst ei;refine codeAny_builtin PyProof.Rows.F.entry_set_update_loop ?_;rw[Around.under_plainId PyProof.Rows.F.plain_set_update_loop _];show wpAny _ A.in1 (pyNext (.ref I) >>= _) _ _ _;refine zwb (W.done s _ _ hg fun s' hm=>?_);show wpAny _ A.in1 (ret Value.none) _ _ _;refine zwp (hR s' c (hm.mono fun b z=>mem_cons_of_mem _ z) hc ?_);obtain⟨ob,es,ep,t,h1,h2⟩:=hT;exact⟨ob,es,ep,t,hm.heap a _ hw h1,h2⟩
 | k+1,i,s,T,c,hk,hi,hg,hc,hTz,hT,hR=>by
  have hw:a∉wr:=fun z=>ha (W.sub _ z);have hlt:i<n:=by omega
  refine codeAny_builtin PyProof.Rows.F.entry_set_update_loop ?_;rw[Around.under_plainId PyProof.Rows.F.plain_set_update_loop _];show wpAny _ A.in1 (pyNext (.ref I) >>= _) _ _ _;refine zwb (W.item i s _ _ hlt hg fun v s' hP hg' hm=>?_);obtain⟨t,rfl⟩:=hv i v hP;have hT':s'.heap.SetOf (strKind P w) a T c:=by
   obtain⟨ob,es,ep,tb,h1,h2⟩:=hT;exact⟨ob,es,ep,tb,hm.heap a _ hw h1,h2⟩
  show wpAny _ A.in1 (holding [Value.str (val i) t] (setAdd a (.str (val i) t)) >>= _) _ _ s';refine zwb (wpAny_holding ?_);unfold setAdd;refine wpAny_holding ?_;refine zwb ((strKind P w).pyHash (k:=val i) (strKind_is _ _ _ _) ?_);refine wpAny_setAddHashed_of (knd:=strKind P w) (s:={ s' with toks:=s'.toks+1 }) (strKind_is _ _ _ _) rfl hT' (by have:=hc.1;omega) fun h' hsb h3=>?_
  refine zwp ⟨plainId_quiet PyProof.Rows.F.plain_set_update_loop _,uR W a ha val hv hb k (i+1) _ _ _ (by omega) hlt (W.frame _ s' _ _ hg' (le_succ _) fun b hb' o e=>?_) (hc.step hTz) (zfK hTz) h3 fun s2 c2 hm2 hc2 h4=>?_⟩
  ·have:b≠a:=fun z=>ha (z ▸ hb')
   rw[hsb.2 b this];exact e
  ·refine hR s2 c2 (Moved.trans W.gtrans ((hm.mono fun b z=>mem_cons_of_mem _ z).then_heap (le_succ _) fun b o hb' e=>?_) hm2) hc2 h4
   have:b≠a:=fun z=>hb' (z ▸ mem_cons_self)
   rw[hsb.2 b this];exact e
abbrev ve(led:Bool):Obj:={ cls:=.type "set",dict:=none,data:=.set #[] 0 (.fresh 0 0 led) }
end
set_option maxHeartbeats 8000000 in
theorem zbs{P:Program}{w:World}{A:Around}{E:VSP}{s:Shared}{l:Addr}{items:Array Value}{zs:List Str}{Q:VSP}
  (hh:A.handled=none) (hl:s.heap.IsList l items) (hv:∀(i:Nat) (v:Value),items[i]?=some v->∃t,v=.str (zs.getD i "") t) (hb:items.size+1<scanBound)
  (h:∀(h':Heap) (tk c:Nat),h'.SetOf (strKind P w) s.heap.objs.size (seen (fun i=>zs.getD i "") (fun _=>false) 0 items.size) c->Cnt (fun i=>zs.getD i "") items.size c->(∀b o,b<s.heap.objs.size->s.heap.get? b=some o->h'.get? b=some o)->Q (.ref s.heap.objs.size) { s with heap:=h',toks:=tk }) :
  wpAny (model P w) A (call (.type "set") [.ref l]) Q E s:=by
 obtain⟨mc,mt,mro⟩:=PySem.F.called_set.mro;have q1:=PySem.F.called_set.made;have q2:=PySem.F.called_set.sub;have q3:=PySem.F.called_set.notType;have q4:=PySem.F.called_set.canCreate;have q5:=PySem.F.typeCall_set_1 (.ref l);refine wpAny_call (codeAny_of_tree ?_);show wpAny _ _ (callAny (.type "set") _) _ _ _;refine zwp ⟨Code.quiet_builtin _ (by decide +kernel),codeAny_builtin PySem.F.entry_type_call ?_⟩;rw[Around.under_plain (weight_type_call_type "set" [.ref l] []) rfl]
 repeat (any_goals first|assumption|wp_step)
 refine codeAny_mono (code_set_new_1 (.ref l) (E:=E) (Q₁:=fun obj s₁=>∃led:Bool,obj=.ref s.heap.objs.size/\s₁={ s with heap:=s.heap.push (ve led) }) fun led=>⟨led,rfl,rfl⟩) fun r s₁ hr=>?_
 rcases r with e|(_|_|_|obj)
 ·exact hr
 ·exact hr.elim
 ·exact hr.elim
 ·exact hr.elim
 ·obtain⟨led,rfl,rfl⟩:=hr
  have hS:(s.heap.push (ve led)).get? s.heap.objs.size=some (ve led):=zgs _ rfl;have hT:Shared.TypeIs { s with heap:=s.heap.push (ve led) } (.ref s.heap.objs.size) "set":=⟨_,hS,rfl⟩
  have q6:=PySem.F.called_set.init.lookup;have q7:=PySem.F.called_set.init.bind (.ref s.heap.objs.size)
  repeat (any_goals first|assumption|wp_step)
  refine codeAny_mono (codeAny_call_builtin (R:=wants (fun r s₂=>r=.none/\∃h' tk c,s₂={ s with heap:=h',toks:=tk }/\h'.SetOf (strKind P w) s.heap.objs.size (seen (fun i=>zs.getD i "") (fun _=>false) 0 items.size) c/\Cnt (fun i=>zs.getD i "") items.size c/\∀b o,b<s.heap.objs.size->s.heap.get? b=some o->h'.get? b=some o) E) PySem.F.called_set.init.plain PySem.F.entry_set_init (check_set_init_1 hT ?_)) fun r₂ s₂ hr₂=>?_
  ·obtain⟨ol,hol,hcl,nl,hdl⟩:=id hl
   obtain⟨ocls,odict,odata,oslots⟩:=ol;simp only at hcl hdl;subst hcl hdl;have hol':(s.heap.push (ve led)).get? l=_:=zgp (ve led) hol;have t1:=PySem.F.sub_list_set;have t2:=PySem.F.sub_list_frozenset;have t3:(Value.type "list"==Value.type "dict")=false:=by decide
   have hl1:(s.heap.push (ve led)).IsList l items:=⟨_,hol',rfl,nl,rfl⟩;have hlS:l<s.heap.objs.size:=Heap.lt_size hol;unfold Builtin.«set.__init__» noKeywords Builtin.Frozenset.updateFrom;generalize hq:pyIter=pit
   wp_walk
   subst hq;refine wpAny_pyIter_list hl1 (zwb (wpAny_runValue ?_));have hz:(s.heap.push (ve led)).objs.size=s.heap.objs.size+1:=Heap.size_push ..;have n1:l≠(s.heap.push (ve led)).objs.size:=by rw[hz];exact ne_of_lt (lt_succ_of_lt hlS)
   have n2:∀b:Addr,b<s.heap.objs.size->b∉[s.heap.objs.size,(s.heap.push (ve led)).objs.size]:=fun b hb' z=>by
    rw[hz] at z;rcases List.mem_cons.mp z with e|e
    ·exact ne_of_lt hb' e
    ·exact ne_of_lt (lt_succ_of_lt hb') (List.mem_singleton.mp e)
   have n3:s.heap.objs.size∉[(s.heap.push (ve led)).objs.size,l]:=fun z=>by
    rw[hz] at z;rcases List.mem_cons.mp z with e|e
    ·exact ne_of_lt (lt_succ_self _) e
    ·exact ne_of_gt hlS (List.mem_singleton.mp e)
   refine uR ((Walks.list (by simp [hh]) _ l n1 items).toS) s.heap.objs.size n3 (fun i=>zs.getD i "") hv hb items.size 0 _ (fun _=>false) 0 (by omega) (zero_le _) ⟨⟨_,zgs _ rfl,rfl,rfl⟩,hl1.push _⟩ ⟨le_refl _,fun _ j hj=>absurd hj (Nat.not_lt_zero _)⟩ (fun z=>Iff.intro (fun e=>absurd e (by decide)) (fun⟨j,hj,_⟩=>absurd hj (Nat.not_lt_zero _))) ?_ ?_
   ·exact(PyProof.Rows.setObjOf_fresh (knd:=strKind P w) led).setOf (zgp _ hS) (by unfold scanBound;omega)
   ·rintro⟨h',g',d',tk',os'⟩ c' hm hc' hS'
    have e1:g'=s.gens:=hm.gens;have e2:d'=s.drawn:=hm.drawn;have e3:os'=s.os:=hm.os;subst e1 e2 e3;show wpAny _ _ _ _ _ _;refine zwp ?_;show wpAny _ _ (ret Value.none) _ _ _;refine zwp ⟨rfl,h',tk',c',rfl,hS',hc',fun b o hb' e=>hm.heap b o (n2 b hb') (zgp _ (zgp _ e))⟩
  ·rcases r₂ with e|(_|_|_|ob2)
   ·exact hr₂
   ·exact hr₂.elim
   ·exact hr₂.elim
   ·exact hr₂.elim
   ·obtain⟨rfl,h',tk,c',rfl,hS',hc',hk'⟩:=hr₂
    repeat (any_goals first|assumption|wp_step)
    exact h _ _ _ hS' hc' hk'
theorem zjb{zs:List Str}{n:Nat}(h:n=zs.length->∀j,j<zs.length->∀k,k<j->zs.getD k ""≠zs.getD j "")(e:n=zs.length):zs.Nodup:=by
 rw[List.nodup_iff_pairwise_ne,List.pairwise_iff_getElem];intro i j hi hj hij
 have:=h e j hj i hij
 rw[getD_eq_getElem?_getD,getD_eq_getElem?_getD,getElem?_eq_getElem hi,getElem?_eq_getElem hj] at this;exact this
theorem zdZ{X:Cx}(hc:X.calm=true):xC X (.type "set") (fun xs H Q=>∃(p:Addr) (zs:List Str),xs=[.ref p]/\SqL X.K H p (zs.map V.str)/\zs.length<=900/\∀(l:Addr) (n:Nat),H l=none->n<=zs.length->(n=zs.length->zs.Nodup)->Q (.ref l) (upd H l (wc X.prog X.w l (fun z=>decide (z∈zs)) n))):=by
 intro pins s σ H xs us Q I r h;obtain⟨p,zs,rfl,hS,lz,q⟩:=h;obtain⟨u,rfl,ru⟩:=wG r;cases ru;obtain⟨its,rv,hp,hz⟩:=I.list hS;have hl:its.length=zs.length:=by rw[<- rv.length,length_map]
 have hb:its.toArray.size+1<scanBound:=by
  rw[size_toArray,hl];have : 1000<scanBound:=by unfold scanBound;decide
  omega
 refine zbs (I.ok.hd hc) hp.isList (fun i v e=>rv.strs_at i v (by simpa using e)) hb fun h' tk c hS' hc hk=>?_
 have hsz:its.toArray.size=zs.length:=by rw[size_toArray,hl]
 rw[hsz] at hS' hc;have eS:seen (fun i=>zs.getD i "") (fun _=>false) 0 zs.length=fun z=>decide (z∈zs):=funext (zaT zs);rw[eS] at hS';exists .ref s.heap.objs.size,_,I.laid (t':=tk) (fun b ob e=>hk b ob (Heap.lt_size e) e) (le_refl _) (jd hS'),rfl,q _ c (I.hok.fresh (le_refl _)) hc.1 (fun e=>zjb hc.2 e)
end L2
namespace K62
open PySem L2 PyProof.Rows
section
variable {P:Program}{w:World}{K:Frag}{mg:Str->Option Value}{base:Heap}{f:Addr}{fd:FuncData}
theorem zcX:([Str.ofString "_law_name",Str.ofString "_law_thing"]:List Str).Nodup:=by decide +kernel
theorem vY:zu ["_law_row_here","_law_bars_here","_law_things","_law_pairs","_law_name","_law_names","_law_sorts","_law_places","_law_gone","_law_known"] ["_law_row_here","_law_bars_here","_law_things","_law_pairs"] (zj zex):=fsc
theorem zfw{zs:List Str}(h:zs.Nodup):qU zs:=fun j y hy hm=>by
 obtain⟨k,hk,e⟩:=List.mem_iff_getElem.mp hm;rw[length_take] at hk;rw[List.getElem_take] at e;obtain⟨hj,e2⟩:=List.getElem?_eq_some_iff.mp hy
 have:=(List.pairwise_iff_getElem.mp (List.nodup_iff_pairwise_ne.mp h)) k j (by omega) hj (by omega)
 exact this (e.trans e2.symm)
theorem zgL(F:Fun K "_law_is_tame" "_law_is_tame" zex f fd)(U:zjd mg):zA P w K mg base CX0 1 f fd ["_law_row_here","_law_bars_here","_law_things","_law_pairs"] (zea K):=by
 refine F.ok vY (fun cdv A outer s H vs Q E hr h=>?_);obtain⟨la,lb,lt,lp,us,rows,bars,ts,ys,ps,rfl,hla,hu,V1,hlb,hlt,hlp,hp,l9,q⟩:=h;refine⟨_,zk (vh (i:=5) [] ["_law_name","_law_thing"] [none,none] vY.nd rfl (Or.inl rfl) rfl ⟨rfl,rfl,rfl,rfl⟩ (z9 (pv 3)) (xI (K:=K) (n:=2) 0 1) rfl rfl rfl
   (fun pins fp s H C=>⟨yO rfl (zF (zr (i:=0) zcX rfl (Or.inl rfl) (.inr rfl)) (zF (zr (i:=1) zcX rfl (Or.inl rfl) (.inr rfl)) yv)),yH,pv 0⟩))
  (zk (vh (i:=6) [] ["_law_one"] [none] vY.nd rfl (Or.inl rfl) rfl ⟨rfl,rfl,rfl,rfl⟩ (z9 (pv 0)) (ye 0) rfl rfl rfl
   (fun pins fp s H C=>⟨zr (i:=0) qx rfl (Or.inl rfl) (.inr rfl),yH,zL (r:=wS K) zU (pv 0) ze (fun _ _=>rfl)⟩))
  (zk (vh (i:=7) [] ["_law_one"] [none] vY.nd rfl (Or.inl rfl) rfl ⟨rfl,rfl,rfl,rfl⟩ (z9 (pv 0)) (ye 0) rfl rfl rfl
   (fun pins fp s H C=>⟨zr (i:=0) qx rfl (Or.inl rfl) (.inr rfl),xM (zv (r:=rIn K false) xr (zL (r:=wS K) zU (pv 0) ze (fun _ _=>rfl)) (zS (ac zw (ac zw zc))) (by with_unfolding_all rfl)),pv 0⟩))
  (zk (zT (wq (jB (zv vS (cB qe U.len PySem.boot_len (ac (cTy (zdZ rfl) U.set PyProof.Rows.boot_set (ac (pv 5) zc)) zc)) (cB z7 U.len PySem.boot_len (ac (pv 5) zc)) (zJ _))
    (jA (wq (wC (zv ze7 (cB z7 U.len PySem.boot_len (ac (pv 2) zc)) (cB z7 U.len PySem.boot_len (ac (pv 7) zc)) (zJ _)) (xK (zv xj zw (pv 6) (by with_unfolding_all rfl)))))))) (zf (zy vi)) zG)
  (zk (vh (i:=8) [] ["_law_one"] [none] vY.nd rfl (Or.inl rfl) rfl ⟨rfl,rfl,rfl,rfl⟩ (z9 (y8 wu (pv 7) wv (yV (cB z7 U.len PySem.boot_len (ac (pv 2) zc))))) (ye 0) rfl rfl rfl
   (fun pins fp s H C=>⟨zr (i:=0) qx rfl (Or.inl rfl) (.inr rfl),xM (zv yA (zL (r:=wS K) zU (pv 0) ze (fun _ _=>rfl)) zw (zJ _)),zL (r:=wS K) zU (pv 0) ze (fun _ _=>rfl)⟩))
  (zk (vh (i:=9) [] ["_law_one"] [none] vY.nd rfl (Or.inl rfl) rfl ⟨rfl,rfl,rfl,rfl⟩ (z9 (pv 0)) (ye 0) rfl rfl rfl
   (fun pins fp s H C=>⟨zr (i:=0) qx rfl (Or.inl rfl) (.inr rfl),xM (zv (r:=rIn K false) xr (zL (r:=wS K) zU (pv 0) ze (fun _ _=>rfl)) (zS (ac zw (ac zw zc))) (by with_unfolding_all rfl)),zL (r:=wS K) zU (pv 0) ze (fun _ _=>rfl)⟩))
  (zk (yz PassesOwn.never rfl (z9 (pv 5)) (zr (i:=4) vY.nd rfl (Or.inl rfl))
   (zf (zT (wq (jB (zv xr (pv 4) (pv 1) (by with_unfolding_all rfl)) (jB (zv xr (pv 4) (pv 8) (by with_unfolding_all rfl)) (jA (wq (wC (zv xj (pv 4) (pv 9) (by with_unfolding_all rfl)) (xK (zv xj zw (pv 6) (by with_unfolding_all rfl))))))))) (zf (zy vi)) zG)))
  (zf (zy vi)))))))),?_⟩
 have l24:=V1.l24;exists _,rfl,lp,rfl,⟨_,zh hlp⟩,fun D1 hD1=>?_;refine zg8 (zh hlp) hp l9 hD1 (fun H1 s1 e1=>?_);exists _,rfl,la,rfl,⟨_,zh (s1 _ _ hla)⟩,fun D2 hD2=>?_;refine zfC (s1 _ _ hla) (zZ s1 hu) V1 hD2 (fun H2 s2 e2=>?_);have s12:=s1.trans s2;exists _,rfl,la,rfl,⟨_,zh (s12 _ _ hla)⟩,fun D3 hD3=>?_;refine zdM (s12 _ _ hla) (zZ s12 hu) V1 hD3 (fun H3 vs s3 e3 p3=>?_);have s13:=s12.trans s3;have e1:=(s2.trans s3) _ _ e1;have e2:=s3 _ _ e2;have tl:decide (("tail" : Str)∈uF rows)=(zR 2 0 rows).isSome:=zaR V1.ok (kk:=2) (by decide)
 have bg:decide (("bag" : Str)∈uF rows)=(zR 4 0 rows).isSome:=zaR V1.ok (kk:=4) (by decide)
 have lvs:vs.length=plN rows:=by rw[p3.length];rfl
 have lns:(ps.map (·.1)).length<=900:=by rw[length_map];omega
 generalize ps.map (·.1)=ns at e1 q lns;dsimp only[zM];refine wQ (fun σ' H'=>σ'=[some (.ref la),some (.ref lb),some (.ref lt),some (.ref lp),none,some (.ref D1),some (.ref D2),some (.ref D3),none,none]/\zq H3 H'/\qU ns/\(ts.length<=plN rows\/(zR 2 0 rows).isSome=true)) ?_ (fun key=>?_);rotate_left
 ·exists _,rfl,D1,_,rfl,zh e1,lns,fun l4 n4 hl4 hle hnd=>?_
  have s4:=zd hl4 (wc P w l4 (fun z=>decide (z∈ns)) n4);have g4:upd H3 l4 (wc P w l4 (fun z=>decide (z∈ns)) n4) l4=some (wc P w l4 (fun z=>decide (z∈ns)) n4):=za;exists l4,_,n4,rfl,g4,?_;have s14:=s13.trans s4;have e1:=s4 _ _ e1;have e2:=s4 _ _ e2;have e3:=s4 _ _ e3;exists _,rfl,D1,_,rfl,.inl (zh e1),_,_,rfl,rfl,_,rfl,?_;by_cases c0:n4<ns.length
  ·refine dT (by rw[length_map];show((n4:Nat):Int)<(ns.length:Nat);omega) ?_
   refine uc ?_;exact q _ _ s14 (fun e=>absurd e (by decide))
  refine dF (by rw[length_map];show ¬((n4:Nat):Int)<(ns.length:Nat);omega) ?_
  have nd:qU ns:=zfw (hnd (by omega))
  exists _,rfl,lt,_,rfl,.inl (zh (s14 _ _ hlt)),_,rfl,D3,_,rfl,.inl (zh e3),_,_,rfl,rfl,_,rfl,?_;by_cases c1:plN rows<ts.length
  ·refine dT (by rw[length_map,length_map];show((vs.length:Nat):Int)<(ts.length:Nat);omega) ?_
   exists _,rfl,D2,_,rfl,.inl (zh e2),rfl,xA,_,rfl,?_;cases ht:(zR 2 0 rows).isSome with
   | true=>
    refine j8 (by rw[if_pos rfl,xa,tl,ht];rfl) ?_
    exact key _ _ ⟨rfl,s4,nd,.inr ht⟩
   | false=>
    refine jU (by rw[if_pos rfl,xa,tl,ht];rfl) ?_
    exact q _ _ s14 (fun e=>absurd e (by decide))
  ·refine dF (by rw[length_map,length_map];show ¬((vs.length:Nat):Int)<(ts.length:Nat);omega) ?_
   refine xz ?_;exact key _ _ ⟨rfl,s4,nd,.inl (by omega)⟩
 rintro σ4 H4 ⟨rfl,s4,nd,ho⟩;have s14:=s13.trans s4;have e1:=s4 _ _ e1;have e2:=s4 _ _ e2;have e3:=s4 _ _ e3;have p4:=zZ s4 p3;exists _,rfl,_,rfl,lt,_,rfl,.inl (zh (s14 _ _ hlt)),_,rfl,D3,_,rfl,zh e3,fun l5 hl5=>?_;rw[vL,<- map_take];have s5:=zd hl5 (.lst ((vs.take (ts.map V.int).length).map V.ref));have g5:upd H4 l5 (.lst ((vs.take (ts.map V.int).length).map V.ref)) l5=some (.lst ((vs.take (ts.map V.int).length).map V.ref)):=za;have p5:=jF (zZ s5 p4) (ts.map V.int).length;generalize upd H4 l5 (.lst ((vs.take (ts.map V.int).length).map V.ref))=H5 at s5 g5 p5 |-;exists l5,rfl,⟨_,zh g5⟩,fun D6 hD6=>?_;have okp:∀r∈(rows.filter fun r=>wp r.k).take (ts.map V.int).length,r.ok:=fun r hr=>V1.ok r (List.mem_filter.mp (mem_of_mem_take hr)).1;have lenp:((rows.filter fun r=>wp r.k).take (ts.map V.int).length).length<=500:=by
  have h1:=length_filter_le (fun r=>wp r.k) rows;rw[length_take];omega
 refine zha g5 p5 okp lenp hD6 (fun H6 s6 e6=>?_);rw[length_map] at e6;have e6:H6 D6=some (.lst ((zbf rows ts.length).map V.str)):=e6;have s16:=s14.trans (s5.trans s6);exists _,rfl,la,rfl,⟨_,zh (s16 _ _ hla)⟩,fun D7 hD7=>?_;refine zfE (s16 _ _ hla) (zZ s16 hu) V1 hD7 (fun H7 s7 e7=>?_);have s17:=s16.trans s7;have e6:=s7 _ _ e6;have e1:=(s5.trans (s6.trans s7)) _ _ e1;have e2:=(s5.trans (s6.trans s7)) _ _ e2;exists _,rfl,D1,rfl,⟨_,zh e1⟩,yJ (K:=K) (a:=D1) (xs:=ns.map V.str) (fun i σ H'=>∃v4,σ=[some (.ref la),some (.ref lb),some (.ref lt),some (.ref lp),v4,some (.ref D1),some (.ref D2),some (.ref D3),some (.ref D6),some (.ref D7)]/\H'=H7/\∀z∈ns.take i,xc rows bars ts.length z=none) ⟨_,rfl,rfl,fun z hz=>absurd hz (by simp)⟩ (fun i σ H' _ ⟨_,_,e,_⟩=>by rw[e];exact zh e1) ?_ ?_
 ·rintro i x σ H' hx ⟨v4,rfl,rfl,hn⟩
  obtain⟨z,hz,rfl⟩:=strs_at hx;have nxt:xc rows bars ts.length z=none->∀y∈ns.take (i+1),xc rows bars ts.length y=none:=fun hw y hy=>by
   rw[xq hz] at hy;rcases List.mem_append.mp hy with h|h
   ·exact hn y h
   ·rw[List.mem_singleton.mp h];exact hw
  have no:∀{b:Bool},b=false->(b=true->zhA rows bars ts.length ns):=fun e z=>by rw[e] at z;cases z
  exists _,rfl,_,rfl,lb,_,rfl,.inl (zh (s17 _ _ hlb)),rfl,xA,_,rfl,?_;by_cases hb:z∈bars
  ·refine jU (by rw[if_neg zft,xa,decide_eq_true hb]) ?_
   refine uc ?_;exact q _ _ s17 (no rfl)
  refine j8 (by rw[if_neg zft,xa,decide_eq_false hb]) ?_
  exists _,rfl,_,rfl,D6,_,rfl,.inl (zh e6),rfl,xA,_,rfl,?_;by_cases hg:z∈zbf rows ts.length
  ·refine jU (by rw[if_neg zft,xa,decide_eq_true hg]) ?_
   refine uc ?_;exact q _ _ s17 (no rfl)
  refine j8 (by rw[if_neg zft,xa,decide_eq_false hg]) ?_
  exists _,rfl,_,rfl,D7,_,rfl,.inl (zh e7),rfl,xA,_,rfl,?_;by_cases hk:z∈nms rows
  ·refine j8 (by rw[if_pos rfl,xa,decide_eq_true hk];rfl) ?_
   refine xz ?_;exact⟨_,rfl,rfl,nxt (zhV V1 hb hg hk)⟩
  refine jU (by rw[if_pos rfl,xa,decide_eq_false hk];rfl) ?_
  exists _,rfl,D2,_,rfl,.inl (zh e2),rfl,xA,_,rfl,?_;have hw:=zhW (many:=ts.length) hb hk;cases ht:(zR 4 0 rows).isSome with
  | true=>
   refine j8 (by rw[if_pos rfl,xa,bg,ht];rfl) ?_
   exact⟨_,rfl,rfl,nxt (by rw[hw,if_pos ht])⟩
  | false=>
   refine jU (by rw[if_pos rfl,xa,bg,ht];rfl) ?_
   exact q _ _ s17 (no rfl)
 ·rintro σ H' ⟨v4,rfl,rfl,hn⟩
  rw[length_map,take_length] at hn;exact q _ _ s17 (fun _=>⟨nd,ho,hn⟩)
theorem qC(c:List zY)(it:zY):zH (c++[it])=zH c++itT it:=by unfold zH;simp
theorem qD(c:List zY)(it:zY):zD (c++[it])=zD c++itP it:=by unfold zD;simp
inductive zcC(K:Frag)(vs:List V)(H:Hp)(Q:VK)(E:XK):Prop|mk(la lb li:Addr)(us:List Addr)(rows:List Rw)(bars:List Str)(zs:List V)(ct:List zY):vs=[.ref la,.ref lb,.ref li]->H la=some (.lst (us.map V.ref))->Paired (TAt H) us rows->VR rows->H lb=some (.lst (bars.map V.str))->H li=some (.lst zs)->Paired (zz K T' H 3) zs (ct.map zV)->ct.length<=100->(zH ct).length<=800->(zD ct).length<=800->(∀(l:Addr) (ks:List V) (kt:List zY) (H':Hp),zq H H'->H l=none->H' l=some (.lst ks)->Paired (zz K T' H' 3) ks (kt.map zV)->kt.length<=100->(zH kt).length<=800->(zD kt).length<=800->kt.length<=ct.length->(zH kt).length<=(zH ct).length->(zD kt).length<=(zD ct).length->nlF (y9 rows bars kt)=none->Q (.ref l) H')->zcC K vs H Q E
theorem zfB{rows:List Rw}{bars:List Str}:nlF (y9 rows bars [])=none:=zc7 (fun j y h=>by simp [yI,zD] at h) (.inl (zero_le _)) (fun z h=>by simp [yI,zD] at h)
theorem uh:zu ["_law_row_here","_law_bars_here","_law_items_here","_law_kept","_law_item_here","_law_things","_law_pairs"] ["_law_row_here","_law_bars_here","_law_items_here"] (zj zbK):=fsc
theorem zfd{g1 g2:Addr}{d1 d2:FuncData}(F:Fun K "_law_tamed" "_law_tamed" zbK f fd)(cL:zE P w K mg base 1 "_law_laid" g1 d1 ["_law_items_here"] (vW K))(cT:zE P w K mg base 1 "_law_is_tame" g2 d2 ["_law_row_here","_law_bars_here","_law_things","_law_pairs"] (zea K)):zA P w K mg base CX0 2 f fd ["_law_row_here","_law_bars_here","_law_items_here"] (zcC K):=by
 refine F.ok uh (fun cdv A outer s H vs Q E hr h=>?_);obtain⟨la,lb,li,us,rows,bars,zs,ct,rfl,hla,hu,V1,hlb,hli,hz,lc,lt,lp,q⟩:=h;refine⟨_,zk (zx (i:=3) uh.nd rfl (Or.inl rfl) (zS zc))
  (zk (yz PassesOwn.never rfl (z9 (pv 2)) (zr (i:=4) uh.nd rfl (Or.inl rfl))
   (zk (jC (cF cL hr (ac (zp yT (pv 3) (zS (ac (pv 4) zc))) zc)) (yO rfl (zF (zr (i:=5) uh.nd rfl (Or.inl rfl)) (zF (zr (i:=6) uh.nd rfl (Or.inl rfl)) yv))))
   (zf (zT (y7 (cF cT hr (ac (pv 0) (ac (pv 1) (ac (pv 5) (ac (pv 6) zc)))))) (zf (zI (yK PySem.F.plainAttrs_list PySem.F.slot_list_append PySem.F.type_list_append zP (pv 3) (ac (pv 4) zc)))) zG))))
  (zf (zy (pv 3)))),?_⟩
 exists wb,fun l hl=>?_;have s1:=zd hl (.lst []);have g1:upd H l (.lst []) l=some (.lst []):=za;have z1:Paired (zz K (fun b=>b≠l) (upd H l (.lst [])) 3) zs (ct.map zV):=zm (fun _ _ z=>(yU (fun b _ e=>fun h=>e (by rw[h];exact hl)) z).same s1) hz
 dsimp only[zM];generalize upd H l (.lst [])=H1 at s1 g1 z1 |-;refine⟨_,rfl,li,rfl,⟨_,zh (s1 _ _ hli)⟩,yJ (K:=K) (a:=li) (xs:=zs) (fun i σ H'=>∃(ks:List V) (kt:List zY) (v4 v5 v6:Option V),σ=[some (.ref la),some (.ref lb),some (.ref li),some (.ref l),v4,v5,v6]/\zq H H'/\H' l=some (.lst ks)/\Paired (zz K (fun b=>b≠l) H' 3) zs (ct.map zV)/\Paired (zz K (fun b=>b≠l) H' 3) ks (kt.map zV)/\kt.length<=i/\(zH kt).length<=(zH (ct.take i)).length/\(zD kt).length<=(zD (ct.take i)).length/\nlF (y9 rows bars kt)=none)
  ⟨[],[],_,_,_,rfl,s1,g1,z1,.nil,le_refl _,le_refl _,le_refl _,zfB⟩ (fun i σ H' _ ⟨_,_,_,_,_,_,sH,_⟩=>zh (sH _ _ hli)) ?_ ?_⟩
 ·rintro i x σ H2 hx ⟨ks,kt,v4,v5,v6,rfl,s2,e2,z2,k2,lk,lkt,lkp,lnl⟩
  obtain⟨d,hd,hxs⟩:=Paired.get z2 hx;obtain⟨it,hit,rfl⟩:=wN hd;have eT:=congrArg List.length (wW ct i it hit);have eP:=congrArg List.length (wm ct i it hit);rw[length_append] at eT eP;have bT:=wk ct (i+1);have bP:=wn ct (i+1);have lT2:=congrArg List.length (qC kt it);have lP2:=congrArg List.length (qD kt it);rw[length_append] at lT2 lP2;have hi:i<ct.length:=(List.getElem?_eq_some_iff.mp hit).1;have lks:ks.length=kt.length:=by rw[k2.length,length_map]
  exists _,rfl,_,rfl,zaS,fun l3 hl3=>?_;have s3:=zd hl3 (.lst [x]);exists l,l3,_,_,rfl,rfl,s3 _ _ e2,za,yn (by show ks.length+1<=1000;omega),fun l4 hl4=>?_
  have s4:=s3.trans (zd hl4 (.lst (ks++[x])));have g4:upd (upd H2 l3 (.lst [x])) l4 (.lst (ks++[x])) l4=some (.lst (ks++[x])):=za;generalize upd (upd H2 l3 (.lst [x])) l4 (.lst (ks++[x]))=H4 at s4 g4 |-;have c4:Paired (zz K T' H4 3) (ks++[x]) ((kt++[it]).map zV):=by
   rw[map_append];exact zO (zm (fun _ _ z=>(yU (fun _ _ _=>True.intro) z).same s4) k2) (.cons ((yU (fun _ _ _=>True.intro) hxs).same s4) .nil)
  exists l4,kt++[it],_,rfl,zh g4,c4,by omega,by omega,fun p H5 s5 two=>?_
  obtain⟨l1,l2,ys,n1,n2,n12,np,ep,e1,e2',gp⟩:=two;exists p,_,rfl,zB ep,rfl,_,_,rfl,_,_,rfl,rfl,?_;have s25:=s4.trans s5;have s05:=s2.trans s25;exists _,rfl,_,rfl,_,rfl,_,rfl,la,lb,l1,l2,us,rows,bars,_,ys,_,rfl,s05 _ _ hla,zZ s05 hu,V1,s05 _ _ hlb,e1,e2',gp,by omega,fun b H6 s6 hb6=>?_
  exists _,rfl,?_;have s26:=s25.trans s6;have e6:=s26 _ _ e2;have z6:Paired (zz K (fun b=>b≠l) H6 3) zs (ct.map zV):=yl s26 z2;have k6:Paired (zz K (fun b=>b≠l) H6 3) ks (kt.map zV):=yl s26 k2;refine vN (fun eb=>?_) (fun _=>?_)
  ·have tm:=hb6 eb
   exists _,rfl,.inl ⟨rfl,_,zh e6⟩,_,rfl,l,_,_,rfl,rfl,e6,zK (by omega),?_
   exists ks++[x],kt++[it],_,_,_,rfl,fun b u e=>by rw[zg (zi e hl)];exact(s2.trans s26) _ _ e,za,zm (fun _ _ z=>yS e6 (fun b o=>⟨o,o⟩) z) z6,?_,?_,by omega,by omega,zc7 tm.1 tm.2.1 tm.2.2
   ·rw[map_append]
    exact zO (zm (fun _ _ z=>yS e6 (fun b o=>⟨o,o⟩) z) k6) (.cons (yS e6 (fun b o=>⟨o,o⟩) (hxs.same s26)) .nil)
   ·rw[length_append]
    exact succ_le_succ lk
  ·exact⟨ks,kt,_,_,_,rfl,s2.trans s26,e6,z6,k6,le_succ_of_le lk,by omega,by omega,lnl⟩
 ·rintro σ H2 ⟨ks,kt,v4,v5,v6,rfl,s2,e2,z2,k2,lk,lkt,lkp,lnl⟩
  have lz:zs.length=ct.length:=by rw[hz.length,length_map]
  have b1:=wk ct zs.length;have b2:=wn ct zs.length;exact⟨_,rfl,q l ks kt H2 s2 hl e2 (zm (fun _ _ z=>yU (fun _ _ _=>True.intro) z) k2) (by omega) (by omega) (by omega) (by omega) (by omega) (by omega) lnl⟩
end
end K62
namespace L2
open PySem PySem.Spec PyProof.Rows
section
variable {X:Cx}{pins:PnL}{σ:St}{e o:Expr}{es:List Expr}{ta:TE}{t:TA}{E:XK}{CX:CXT}{m:Str}{pos apos:Pos}{k:Nat}{f C:Addr}{fd:FuncData}{ps:List Str}{sp:Sp}
theorem ze5{pl:Sem Bool}(he:PE1 X pins σ o ta)(c:Cls X.K C)(hm:xw X.K C m f)(F:zA X.prog X.w X.K X.mg X.base CX k f fd ps sp)(hr:yj k X.A)(hb:z8 X.K fd ps [])(hx:xm CX X E)(ha:PA X (e::es) t)
  (hst:starEach (e::es) X.env=(false,eval e X.env)::starEach es X.env:=by rfl) (hpl:(backTo pos (starEach es X.env)).any (·.1)=false:=by rfl)
  (ht:eval (.Call (.Attribute o m apos) (e::es) [] pos) X.env=(do
   let ov <- eval o X.env
   standAt apos.atName
   let (f,first) <- holding [ov] (getMethod ov m pl)
   callWith pos f first (backTo pos (starEach (e::es) X.env)) (backToKw pos (keywordEach [] X.env))):=by rfl) :
  PE1 X pins σ (.Call (.Attribute o m apos) (e::es) [] pos) (zcz C m sp [] E ta t):=by
 exists fun s H Q I h=>?_;refine methodCall_KW (pl:=pl) (thn (he.run s H _ I h) fun u s1 ⟨x,H1,I1,rx,a,dx,fs,ex,ea,l,q⟩=>?_) ht;subst ex;obtain rfl:u=Value.ref a:=rx;refine wo I1 ea c hm l ?_;refine callWith_K (first:=[.ref a]) (h₀:=X.base) I.ok.mod.kin hm.kp (thn (ha pos pins s1 σ H1 _ I1 q) fun us s2 ⟨vs,H2,I2,r,q2⟩=>⟨I2.kIn,?_⟩) hst hpl
 have r2:zX ((.ref a::vs)++[]) ((.ref a::us)++[]):=zX.append (.cons rfl r) .nil;have hl:((.ref a::us)++[]:List Value).length=ps.length:=by rw[<- r2.length];exact F.len _ _ _ _ q2
 refine wpAny_call (codeAny_mono (F.run X.A X.stack s2 H2 ⟨.ref a::us,[]⟩ ((.ref a::us)++[]) ((.ref a::vs)++[]) Q E hr I2.env0 (hb s2 (.ref a::us) I2.kIn hl) r2 q2) fun r s' hq=>?_);cases r with
 | error e=>exact hx pins σ _ _ e s' I2 hq
 | ok fl=>
  cases fl with
  | ret u=>exact I2.after hq
  | next=>exact False.elim hq
  | brk=>exact False.elim hq
  | cont=>exact False.elim hq
end
end L2
namespace K62
open PySem L2 PyProof.Rows
theorem jE{K:Frag}{ok ok':Addr->Prop}{H3:Hp}:∀{ps:List (Str×Int)}{zs:List V},Paired (zz K ok H3 1) zs (ps.map yr)->Paired (zz K ok' H3 1) zs (ps.map yr)
 | [],_,r=>by cases r;exact .nil
 | p::ps,_,r=>by
  cases r with
  | cons h r=>
   refine .cons ?_ (jE r);obtain⟨b,ws,rfl,hS',r'⟩:=yZ h;exact .tup hS' (zm (fun _ _ z=>z) r')
theorem qO{xs:List V}{n:Nat}:wO xs (some (n:Int)) none=xs.drop n:=by
 unfold wO;rw[HT.zkm,HT.zjJ];by_cases h:n<=xs.length
 ·rw[Nat.min_eq_left h]
  exact take_of_length_le (by rw[length_drop];exact le_refl _)
 ·rw[Nat.min_eq_right (by omega),List.drop_of_length_le (le_refl _),List.drop_of_length_le (by omega)]
  simp
inductive zbw:Dt->Prop where
 | int (i:Int):zbw (.int i)
 | str (z:Str):zbw (.str z)
 | row (ts:List Int):zbw (.lst (ts.map .int))
 | book (ps:List (Str×Int)):zbw (.lst (ps.map yr))
theorem zcg{K:Frag}{ok:Addr->Prop}{H:Hp}{x:V}{it:zY}(h:zz K ok H 3 x (zV it)):∃(a:Addr) (wd:Str) (xk:List V) (ds:List Dt),x=.ref a/\SqT K H a (.str wd::xk)/\xk≠[]/\xk.length<=2/\Paired (zz K ok H 2) xk ds/\zV it=.tup (.str wd::ds)/\∀d∈ds,zbw d:=by
 cases it with
 | one t=>
  obtain⟨a,rfl,ha⟩:=wM h;exact⟨a,_,_,_,rfl,ha,by simp,by show 1<=2;decide,.cons .int .nil,rfl,fun d hd=>by rw[List.mem_singleton.mp hd];exact .int t⟩
 | row ts=>
  obtain⟨a,b,rfl,ha,o,hb⟩:=uy h;exact⟨a,_,_,_,rfl,ha,by simp,by show 1<=2;decide,.cons (.lst o hb (xu ts)) .nil,rfl,fun d hd=>by rw[List.mem_singleton.mp hd];exact .row ts⟩
 | named z t=>
  obtain⟨a,rfl,ha⟩:=xH h;exists a,_,_,_,rfl,ha,by simp,by show 2<=2;decide,.cons .str (.cons .int .nil),rfl,fun d hd=>?_
  rcases List.mem_cons.mp hd with rfl|hd
  ·exact .str z
  ·rw[List.mem_singleton.mp hd];exact .int t
 | book ps=>
  obtain⟨a,b,ys,rfl,ha,o,hb,hy⟩:=vH h;exact⟨a,_,_,_,rfl,ha,by simp,by show 1<=2;decide,.cons (.lst o hb hy) .nil,rfl,fun d hd=>by rw[List.mem_singleton.mp hd];exact .book ps⟩
structure zcq(mg:Str->Option Value):Prop where
 isi:mg "isinstance"=none
 list:mg "list"=none
 tuple:mg "tuple"=none
 range:mg "range"=none
 len:mg "len"=none
 enum:mg "enumerate"=none
inductive qZ(K:Frag)(vs:List V)(H:Hp)(Q:VK)(E:XK):Prop|mk(a:Addr)(c:List zY)(xs:List V):vs=[.ref a]->SqL K H a xs->Paired (zz K T' H 3) xs (c.map zV)->c.length<=100->(∀(r:Addr) (ys:List V) (H':Hp),zq H H'->H r=none->H' r=some (.lst ys)->Paired (zz K (fun b=>H b=none/\b≠r) H' 3) ys (c.map zV)->Q (.ref r) H')->qZ K vs H Q E
abbrev zjN(K:Frag):List V->Hp->VK->Prop:=fun xs H Q=>∃(x:V) (T:String) (t:Value) (b:Bool),xs=[x,.ty T]/\wP K H x t/\kitOne K t (.type T)=some b/\Q (.bl b) H
abbrev zjM(K:Frag):List V->Hp->VK->Prop:=fun xs H Q=>∃p ys,xs=[.ref p]/\(SqL K H p ys\/SqT K H p ys)/\∀l,H l=none->Q (.ref l) (upd H l (.lst ys))
section
variable {P:Program}{w:World}{K:Frag}{mg:Str->Option Value}{base:Heap}{f CF:Addr}{fd:FuncData}{c:C5}
theorem zbI:zu ["_law_items_here","_law_made","_law_item_here"] ["_law_items_here"] (zj zeM):=fsc
theorem zg0(F:Fun K "_law_deep" "_law_deep" zeM f fd)(U:zcq mg):zA P w K mg base CX0 1 f fd ["_law_items_here"] (qZ K):=by
 refine F.ok zbI (fun cdv A outer s H vs Q E hr h=>?_);obtain⟨a,ct,vs,rfl,hli,hv,lct,q⟩:=h;refine⟨_,zk (zx (i:=1) zbI.nd rfl (Or.inl rfl) (zS zc))
  (zk (yz PassesOwn.never rfl (z9 (pv 0)) (zr (i:=2) zbI.nd rfl (Or.inl rfl))
   (zf (zI (yK PySem.F.plainAttrs_list PySem.F.slot_list_append PySem.F.type_list_append zP (pv 1) (ac (zp zgJ (y8 zel (pv 2) wv (yV ze)) (cTy qd U.tuple PyProof.Rows.boot_tuple (ac (wx [] ["_law_one"] [none] rfl ⟨rfl,rfl,rfl,rfl⟩ (ziz (y8 zel (pv 2) (yV ze) wv)) (ye 0) rfl rfl rfl
    (fun pins fp s H C=>⟨zr (i:=0) qx rfl (Or.inl rfl) (.inr rfl),yH,zaY (y7 (cB (r:=zjN K) vp U.isi boot_isinstance (ac (pv 0) (ac (zaq (v:=.ty "list") rfl U.list PyProof.Rows.boot_list rfl) zc)))) (cTy (r:=zjM K) yq U.list PyProof.Rows.boot_list (ac (pv 0) zc)) (pv 0)⟩)) zc))) zc)))))
  (zf (zy (pv 1)))),?_⟩
 exists wb,fun lh hlh=>?_;dsimp only[zM]
 injections lh hlh H14 s14 g14
 have lvs:vs.length=ct.length:=by rw[hv.length,length_map]
 refine⟨_,rfl,a,rfl,⟨_,s14.seq hli⟩,yJ (K:=K) (a:=a) (xs:=vs) (fun i σ H'=>∃(ks:List V) (v8:Option V),σ=[some (.ref a),some (.ref lh),v8]/\zq H H'/\H' lh=some (.lst ks)/\Paired (zz K (fun b=>H b=none/\b≠lh) H' 3) ks ((ct.take i).map zV))
  ⟨[],_,rfl,s14,g14,.nil⟩ (fun i σ H' _ ⟨_,_,_,sH,_⟩=>sH.seq hli) ?_ ?_⟩
 ·rintro i x σ H15 hx ⟨ks,v8,rfl,s15',elh,hk⟩
  obtain⟨d,hd,hxs⟩:=Paired.get hv hx;obtain⟨it,hit,rfl⟩:=wN hd;obtain⟨ia,wd,xk,ds,rfl,hsq,rne,lr,hrest,eit,hcp⟩:=zcg (hxs.same s15');have lks:ks.length<=i:=by rw[hk.length,length_map,length_take];omega
  have hi:i<ct.length:=(List.getElem?_eq_some_iff.mp hit).1;have l1 : 1<=xk.length:=Nat.one_le_iff_ne_zero.mpr fun e=>rne (List.eq_nil_of_length_eq_zero e);exists _,rfl,.inl ⟨rfl,_,zh elh⟩,_,rfl,_,rfl,ia,_,rfl,hsq,?_,fun p1 hp1=>?_
  ·rintro⟨_,e⟩
   have e':HT.sIx (V.str wd::xk).length (V.str wd::xk).length (some ((1:Nat):Int))=(V.str wd::xk).length:=e;rw[HT.zkm,length_cons] at e';omega
  rw[show wO (V.str wd::xk) none (some 1)=[V.str wd] from (vL (n:=1)).trans rfl]
  injections p1 hp1 H16 t1 u1
  exists _,rfl,_,rfl,ia,_,rfl,t1.sqT hsq,?_,fun p2 hp2=>?_
  ·rintro⟨e,_⟩
   have e':HT.sIx (V.str wd::xk).length 0 (some ((1:Nat):Int))=0:=e;rw[HT.zkm,length_cons] at e';omega
  rw[show wO (V.str wd::xk) (some 1) none=xk from (qO (n:=1)).trans rfl]
  injections p2 hp2 H17 t2 u2
  exists p2,rfl,⟨_,zB u2⟩,fun D hD=>?_;have hrest17:=zm (fun _ _ z=>zz.same (t1.trans t2) z) hrest;have s1517:=t1.trans t2;have nlh:H17 lh≠none:=by rw[s1517 _ _ elh];exact fun e=>by cases e
  refine zfD (K:=K) (m:=2) (xs:=xk) ds hD (zB u2) hrest.length (by omega) (fun j x d H' Qf Qs hxj hdj sH qf=>?_) (fun ws H18 s18 hDw hw=>?_)
  ·obtain⟨d',hd',hxd⟩:=Paired.get hrest17 hxj
   rw[hdj] at hd';cases hd';have hxd:=hxd.same sH;exists fun _=>?_,fun e=>Bool.noConfusion e;have hc:=hcp d (mem_of_getElem? hdj);cases hc with
   | int n=>
    have ex:=vf hxd;subst ex;exists _,rfl,_,_,_,_,rfl,.int n,zbb K,_,rfl,?_;refine xz ?_;exact⟨_,rfl,qf _ _ (zq.refl _) .int⟩
   | str z=>
    have ex:=wf hxd;subst ex;exists _,rfl,_,_,_,_,rfl,.str z,za9 K,_,rfl,?_;refine xz ?_;exact⟨_,rfl,qf _ _ (zq.refl _) .str⟩
   | row ts=>
    obtain⟨b,xs,ex,_,hb,hxs⟩:=um hxd;subst ex;exists _,rfl,_,_,_,_,rfl,.lst hb,wX K,_,rfl,?_;refine uc ?_;exists _,rfl,b,_,rfl,.inl (zh hb),fun l hl=>?_;rw[uH hxs];exact qf _ _ (zd hl _) (.lst hl za (xu ts))
   | book ps=>
    obtain⟨b,xs,ex,_,hb,hxs⟩:=um hxd;subst ex;exists _,rfl,_,_,_,_,rfl,.lst hb,wX K,_,rfl,?_;refine uc ?_;exists _,rfl,b,_,rfl,.inl (zh hb),fun l hl=>?_;exact qf _ _ (zd hl _) (.lst hl za (yF (zd hl _) (jE hxs)))
  exists D,ws,rfl,.inl ⟨zh hDw,fun t ht=>?_⟩;have t3:=zd ht (.tup ws);have u3:upd H18 t (.tup ws) t=some (.tup ws):=za;have hw3:=zm (fun _ _ z=>zz.same t3 z) hw;have s1719:=s18.trans t3;generalize upd H18 t (.tup ws)=H19 at t3 u3 hw3 s1719 |-;have s1519:=s1517.trans s1719;have lws:ws.length=xk.length:=by rw[hw.length,hrest.length]
  exists p1,t,_,_,rfl,rfl,zB ((t2.trans s1719) _ _ u1),zB u3,by simp,yn (by show 1+ws.length<=1000;omega),fun e=>?_,fun _ p hp=>?_
  ·rw[e] at lws
   simp at lws;omega
  have t4:=zd hp (.tup ([.str wd]++ws));have u4:upd H19 p (.tup ([.str wd]++ws)) p=some (.tup (.str wd::ws)):=za;have s1520:=s1519.trans t4;have hw4:=zm (fun _ _ z=>zz.same t4 z) hw3;generalize upd H19 p (.tup ([.str wd]++ws))=H20 at t4 u4 s1520 hw4 |-;have elh20:=s1520 _ _ elh;have s20:=s15'.trans s1520;have k20:=yl s1520 hk;have it20:zz K (fun b=>H b=none/\b≠lh) H20 3 (.ref p) (zV it):=by
   rw[eit];exact .tup (zB u4) (.cons .str (zm (fun _ _ z=>yU (fun b o _=>⟨(s15'.trans s1517).free o.2,fun e=>nlh (by rw[<- e];exact o.2)⟩) z) hw4))
  exists lh,_,_,rfl,rfl,elh20,zK (by omega),?_
  exists ks++[.ref p],_,rfl,fun b u e=>by rw[zg (zi e hlh)];exact s20 _ _ e,za,?_
  rw[xq hit,map_append];exact zO (zm (fun _ _ z=>yS elh20 (fun b o=>⟨o,o.2⟩) z) k20) (.cons (yS elh20 (fun b o=>⟨o,o.2⟩) it20) .nil)
 ·rintro σ H2 ⟨ks,v8,rfl,s2,e2,k2⟩
  rw[lvs,take_length] at k2;exact⟨_,rfl,q lh ks H2 s2 hlh e2 k2⟩
def Kp(W:Addr->Prop)(n:Nat)(H H':Hp):Prop:=∀b o,H b=some o->H' b=some o\/(W b/\∃xs ys,o=.lst xs/\H' b=some (.lst ys)/\ys.length<=xs.length+n)
theorem Kp.refl{W:Addr->Prop}{n:Nat}{H:Hp}:Kp W n H H:=fun b o h=>.inl h
theorem Kp.mono{W:Addr->Prop}{n m:Nat}{H H':Hp}(h:Kp W n H H')(hn:n<=m):Kp W m H H':=fun b o e=>(h b o e).imp id fun⟨w,xs,ys,e1,e2,e3⟩=>⟨w,xs,ys,e1,e2,by omega⟩
theorem Kp.weak{W W':Addr->Prop}{n:Nat}{H H':Hp}(h:Kp W n H H')(hw:∀b,W b->W' b):Kp W' n H H':=fun b o e=>(h b o e).imp id fun⟨w,z⟩=>⟨hw b w,z⟩
theorem Kp.keep{W:Addr->Prop}{n:Nat}{H H':Hp}{b:Addr}{o:HO}(h:Kp W n H H')(e:H b=some o)(w:¬W b):H' b=some o:=(h b o e).elim id fun⟨z,_⟩=>absurd z w
theorem Kp.tup{W:Addr->Prop}{n:Nat}{H H':Hp}{b:Addr}{xs:List V}(h:Kp W n H H')(e:H b=some (.tup xs)):H' b=some (.tup xs):=(h b _ e).elim id fun⟨_,_,_,z,_⟩=>by cases z
theorem Kp.lst{W:Addr->Prop}{n:Nat}{H H':Hp}{b:Addr}{xs:List V}(h:Kp W n H H')(e:H b=some (.lst xs)):∃ys,H' b=some (.lst ys)/\ys.length<=xs.length+n:=(h b _ e).elim (fun z=>⟨xs,z,Nat.le_add_right _ _⟩) fun⟨_,_,ys,z,e2,e3⟩=>by cases z;exact⟨ys,e2,e3⟩
theorem Kp.sqT{K:Frag}{W:Addr->Prop}{n:Nat}{H H':Hp}{b:Addr}{zs:List V}(h:Kp W n H H')(hz:SqT K H b zs):SqT K H' b zs:=by
 rcases hz with (z|⟨u,z⟩)|z
 ·exact .inl (.inl (h.tup z))
 ·refine .inl (.inr ⟨u,?_⟩)
  exact(h b _ z).elim id fun⟨_,_,_,e,_⟩=>by cases e
 ·exact .inr z
theorem Kp.grow{W:Addr->Prop}{n:Nat}{H H':Hp}{b:Addr}{xs ys:List V}{v:V}(h:Kp W n H H')(w:W b)(e:H b=some (.lst xs))(e':H' b=some (.lst ys))(l:ys.length<=xs.length+n):Kp W (n+1) H (upd H' b (.lst (ys++[v]))):=fun c o hc=>by
 by_cases hcb:c=b
 ·subst hcb
  rw[e] at hc;cases hc;exact .inr ⟨w,xs,_,rfl,za,by rw[length_append];show ys.length+1<=_;omega⟩
 ·rcases h c o hc with z|⟨w',z1,z2,z3,z4,z5⟩
  ·exact .inl (by rw[zg hcb];exact z)
  ·exact .inr ⟨w',z1,z2,z3,by rw[zg hcb];exact z4,by omega⟩
theorem Kp.same{W:Addr->Prop}{n:Nat}{H H' H'':Hp}(h:Kp W n H H')(s:zq H' H''):Kp W n H H'':=fun b o e=>(h b o e).imp (s _ _) fun⟨w,xs,ys,e1,e2,e3⟩=>⟨w,xs,ys,e1,s _ _ e2,e3⟩
inductive jc(K:Frag)(vs:List V)(H:Hp)(Q:VK)(E:XK):Prop|mk(a:Addr)(ct:List zY)(xs:List V)(W:Addr->Prop):vs=[.ref a]->H a=some (.lst xs)->W a->Paired (zz K (fun b=>W b/\b≠a) H 3) xs (ct.map zV)->ct.length<=100->(zH ct).length<=800->(zD ct).length<=800->(∀(n:Nat) (H':Hp),Kp W n H H'->Q .non H')->jc K vs H Q E
theorem zcL:zu ["_law_items_here","_law_item_here"] ["_law_items_here"] (zj zbT):=fsc
theorem zfo(F:Fun K "_law_grown" "_law_grown" zbT f fd):zA P w K mg base CX0 1 f fd ["_law_items_here"] (jc K):=by
 refine F.ok zcL (fun cdv A outer s H vs Q E hr h=>?_);obtain⟨a,ct,xs,W,rfl,ha,wa,hv,lct,lT,lP,q⟩:=h;have lxs:xs.length=ct.length:=by rw[hv.length,length_map]
 refine zC (yz PassesOwn.never rfl (z9 (pv 0)) (zr (i:=1) zcL.nd rfl (Or.inl rfl))
   (zk (zT (zv yA (zL zU (pv 1) ze (fun _ _=>rfl)) zw (zJ _)) (zf (zI (yK PySem.F.plainAttrs_list PySem.F.slot_list_append PySem.F.type_list_append zP (zL zU (pv 1) ze (fun _ _=>rfl)) (ac ze zc)))) zG)
   (zf (zT (zv yA (zL zU (pv 1) ze (fun _ _=>rfl)) zw (zJ _)) (zf (zI (yK PySem.F.plainAttrs_list PySem.F.slot_list_append PySem.F.type_list_append zP (zL zU (pv 1) ze (fun _ _=>rfl)) (ac (zQ (ac zw (ac ze zc))) zc)))) zG)))) ?_
 exists _,rfl,a,rfl,⟨_,zh ha⟩,yJ (K:=K) (a:=a) (xs:=xs) (fun i σ H'=>∃(v1:Option V),σ=[some (.ref a),v1]/\Kp (fun b=>W b/\b≠a) i H H') ⟨_,rfl,Kp.refl⟩ (fun i σ H' _ ⟨_,_,k⟩=>zh (k.keep ha (fun z=>z.2 rfl))) ?_ ?_
 ·rintro i x σ H2 hx ⟨v1,rfl,k2⟩
  obtain⟨d,hd,hy⟩:=Paired.get hv hx;obtain⟨it,hit,rfl⟩:=wN hd;have hi:i<ct.length:=(List.getElem?_eq_some_iff.mp hit).1;have eT:=wW ct i it hit;have eP:=wm ct i it hit;have bT:=wk ct (i+1);have bP:=wn ct (i+1);cases it with
  | one t=>
   obtain⟨b,rfl,hb⟩:=wM hy;have hb2:=k2.sqT hb;exists _,rfl,b,_,_,.str "one",rfl,rfl,hb2,rfl,rfl,_,rfl,?_;refine dF (by decide +kernel) ?_
   exists _,rfl,b,_,_,.str "one",rfl,rfl,hb2,rfl,rfl,_,rfl,?_;refine dF (by decide +kernel) ?_
   exact⟨_,rfl,k2.mono (le_succ _)⟩
  | row ts=>
   obtain⟨b,bl,rfl,hb,ob,hbl⟩:=uy hy;have hb2:=k2.sqT hb;obtain⟨ys,e2,l2⟩:=k2.lst hbl;have e0:(itT (zY.row ts)).length=ts.length:=rfl;have lts:ts.length<=800:=by rw[eT,length_append] at bT;omega
   exists _,rfl,b,_,_,.str "row",rfl,rfl,hb2,rfl,rfl,_,rfl,?_;refine dT rfl ?_;exists _,rfl,b,_,_,.ref bl,rfl,rfl,hb2,rfl,.inl ⟨rfl,_,zh e2⟩,bl,_,_,rfl,rfl,e2,zK (by rw[length_map] at l2;omega),?_
   have k3:=k2.grow (v:=.int 7) ob hbl e2 l2;exists _,rfl,b,_,_,.str "row",rfl,rfl,k3.sqT hb,rfl,rfl,_,rfl,?_;refine dF (by decide +kernel) ?_
   exact⟨_,rfl,k3⟩
  | named z t=>
   obtain⟨b,rfl,hb⟩:=xH hy;have hb2:=k2.sqT hb;exists _,rfl,b,_,_,.str "named",rfl,rfl,hb2,rfl,rfl,_,rfl,?_;refine dF ne4 ?_;exists _,rfl,b,_,_,.str "named",rfl,rfl,hb2,rfl,rfl,_,rfl,?_;refine dF (by decide +kernel) ?_
   exact⟨_,rfl,k2.mono (le_succ _)⟩
  | book ps=>
   obtain⟨b,bl,zs,rfl,hb,ob,hbl,hz⟩:=vH hy;have hb2:=k2.sqT hb;obtain⟨ys,e2,l2⟩:=k2.lst hbl;have lz:zs.length=ps.length:=by rw[hz.length,length_map]
   have e0:(itP (zY.book ps)).length=ps.length:=rfl;have lts:ps.length<=800:=by rw[eP,length_append] at bP;omega
   exists _,rfl,b,_,_,.str "book",rfl,rfl,hb2,rfl,rfl,_,rfl,?_;refine dF ne5 ?_;exists _,rfl,b,_,_,.str "book",rfl,rfl,hb2,rfl,rfl,_,rfl,?_;refine dT rfl ?_;exists _,rfl,b,_,_,.ref bl,rfl,rfl,hb2,rfl,.inl ⟨rfl,_,zh e2⟩,yC,fun p hp=>?_;have s3:=zd hp (.tup [.str "late",.int 7]);exists bl,_,_,rfl,rfl,s3 _ _ e2,zK (by omega),?_
   exact⟨_,rfl,(k2.same s3).grow ob hbl (s3 _ _ e2) l2⟩
 rintro σ H2 ⟨v1,rfl,k2⟩;have e2:=k2.keep ha (fun z=>z.2 rfl);refine zC (zI (yK PySem.F.plainAttrs_list PySem.F.slot_list_append PySem.F.type_list_append zP (pv 0) (ac (zQ (ac zw (ac ze zc))) zc))) ?_;exists _,rfl,.inl ⟨rfl,_,zh e2⟩,yC,fun p hp=>?_;have s3:=zd hp (.tup [.str "one",.int 8]);have e3:=s3 _ _ e2;have k3:=k2.same s3;generalize upd H2 p (.tup [.str "one",.int 8])=H3 at s3 e3 k3 |-;exists a,_,_,rfl,rfl,e3,zK (by omega),?_
 have k4:=(k3.weak (W':=W) (fun b z=>z.1)).grow (v:=.ref p) wa ha e3 (by omega)
 have e4:upd H3 a (.lst (xs++[.ref p])) a=some (.lst (xs++[.ref p])):=za;generalize upd H3 a (.lst (xs++[.ref p]))=H4 at k4 e4 |-;exists _,zf (zI (yK PySem.F.plainAttrs_list PySem.F.slot_list_append PySem.F.type_list_append zP (pv 0) (ac (zQ (ac zw (ac zw (ac ze zc)))) zc))),?_;exists _,rfl,.inl ⟨rfl,_,zh e4⟩,vX,fun p5 hp5=>?_;have s5:=zd hp5 (.tup [.str "named",.str "later",.int 8]);have e5:=s5 _ _ e4;have k5:=k4.same s5;generalize upd H4 p5 (.tup [.str "named",.str "later",.int 8])=H5 at s5 e5 k5 |-;exists a,_,_,rfl,rfl,e5,zK (by rw[length_append];show xs.length+1<=_;omega),?_
 exact q _ _ (k5.grow (v:=.ref p5) wa ha e5 (by rw[length_append];show xs.length+1<=_;omega))
def duT(cts:List (List zY)):List Int:=cts.flatMap zH
def duP(cts:List (List zY)):List (Str×Int):=cts.flatMap zD
theorem zbi{cts:List (List zY)}{i:Nat}{ct:List zY}(h:cts[i]?=some ct):duT (cts.take (i+1))=duT (cts.take i)++zH ct:=by
 unfold duT;rw[xq h,List.flatMap_append];simp
theorem zbj{cts:List (List zY)}{i:Nat}{ct:List zY}(h:cts[i]?=some ct):duP (cts.take (i+1))=duP (cts.take i)++zD ct:=by
 unfold duP;rw[xq h,List.flatMap_append];simp
structure w6(K:Frag)(H:Hp)(a:Addr)(ct:List zY):Prop where
 ok:yx K H a ct
 n:ct.length<=100
 t:(zH ct).length<=100
 p:(zD ct).length<=100
theorem w6.same{K:Frag}{H H':Hp}{a:Addr}{ct:List zY}(h:w6 K H a ct)(s:zq H H'):w6 K H' a ct:=⟨h.ok.same s,h.n,h.t,h.p⟩
inductive zhJ(K:Frag)(vs:List V)(H:Hp)(Q:VK)(E:XK):Prop|mk(a:Addr)(ls:List Addr)(cts:List (List zY)):vs=[.ref a]->H a=some (.lst (ls.map V.ref))->Paired (w6 K H) ls cts->cts.length<=4->(∀(r:Addr) (xs:List V) (H':Hp),zq H H'->H r=none->H' r=some (.lst xs)->Paired (zz K T' H' 1) xs ((plain (duT cts) (duP cts)).map zV)->Q (.ref r) H')->zhJ K vs H Q E
theorem zkV:([Str.ofString "_law_thing"]:List Str).Nodup:=by decide +kernel
theorem js:zu ["_law_some","_law_things","_law_pairs","_law_items_here","_law_here"] ["_law_some"] (zj zit):=fsc
theorem ziW{g1:Addr}{d1:FuncData}(F:Fun K "_law_due" "_law_due" zit f fd)(cL:zE P w K mg base 1 "_law_laid" g1 d1 ["_law_items_here"] (vW K)):zA P w K mg base CX0 2 f fd ["_law_some"] (zhJ K):=by
 refine F.ok js (fun cdv A outer s H vs Q E hr h=>?_);obtain⟨sa,ls,cts,rfl,hsa,hcs,l4,q⟩:=h;refine zC (zx (i:=1) js.nd rfl (Or.inl rfl) (zS zc)) ?_;exists wb,fun l1 hl1=>?_;dsimp only[zM]
 injections l1 hl1 H1 s1 g1
 refine zC (zx (i:=2) js.nd rfl (Or.inl rfl) (zS zc)) ?_;exists wb,fun l2 hl2=>?_;have s2:=zd hl2 (.lst []);have g2:upd H1 l2 (.lst []) l2=some (.lst []):=za;have g1:=s2 _ _ g1;have s2:=s1.trans s2;dsimp only[zM];generalize upd H1 l2 (.lst [])=H2 at s2 g1 g2 |-;refine zC (yz PassesOwn.never rfl (z9 (pv 0)) (zr (i:=3) js.nd rfl (Or.inl rfl))
  (zk (zx (i:=4) js.nd rfl (Or.inl rfl) (cF cL hr (ac (pv 3) zc)))
  (zk (zx (i:=1) js.nd rfl (Or.inl rfl) (zp yT (pv 1) (zL zU (pv 4) ze (fun _ _=>rfl))))
  (zf (zx (i:=2) js.nd rfl (Or.inl rfl) (zp yT (pv 2) (zL zU (pv 4) ze (fun _ _=>rfl)))))))) ?_
 refine⟨_,rfl,sa,rfl,⟨_,zh (s2 _ _ hsa)⟩,yJ (K:=K) (a:=sa) (xs:=ls.map V.ref) (fun i σ H'=>∃(l1 l2:Addr) (ys:List V) (v3 v4:Option V),σ=[some (.ref sa),some (.ref l1),some (.ref l2),v3,v4]/\zq H H'/\H' l1=some (.lst ((duT (cts.take i)).map V.int))/\H' l2=some (.lst ys)/\Paired (zz K T' H' 1) ys ((duP (cts.take i)).map yr)/\(duT (cts.take i)).length<=100 * i/\(duP (cts.take i)).length<=100 * i)
  ⟨l1,l2,[],_,_,rfl,s2,g1,g2,.nil,le_refl _,le_refl _⟩ (fun i σ H' _ ⟨_,_,_,_,_,_,sH,_⟩=>zh (sH _ _ hsa)) ?_ ?_⟩
 ·skip
  rintro i x σ H2 hx ⟨l1,l2,ys,v3,v4,rfl,s2,e1,e2,hy,b1,b2⟩;obtain⟨l,hl,rfl⟩:=xV hx;obtain⟨ct,hct,hC⟩:=xi hcs hl;have hi:i<cts.length:=(List.getElem?_eq_some_iff.mp hct).1;obtain⟨⟨⟨xs,h1,h2⟩,_,_⟩,nC,tC,pC⟩:=hC.same s2;exists _,rfl,l,ct,xs,rfl,h1,h2,by omega,by omega,fun p H3 s3 two=>?_
  obtain⟨m1,m2,zs,n1,n2,n12,np,ep,f1,f2,gp⟩:=two;dsimp only[zM];have lys:ys.length=(duP (cts.take i)).length:=by rw[hy.length,length_map]
  have lzs:zs.length=(zD ct).length:=by rw[gp.length,length_map]
  exists _,rfl,_,rfl,p,_,_,.ref m1,rfl,rfl,zB ep,rfl,l1,m1,_,_,rfl,rfl,s3 _ _ e1,f1,yn (by rw[length_map,length_map];omega),fun r1 hr1=>?_
  rw[<- map_append,<- zbi hct]
  injections r1 hr1 H4 s4 g4
  dsimp only[zM];exists _,rfl,_,rfl,p,_,_,.ref m2,rfl,rfl,zB (s4 _ _ ep),rfl,l2,m2,_,_,rfl,rfl,(s3.trans s4) _ _ e2,s4 _ _ f2,yn (by omega),fun r2 hr2=>?_
  have s5:=zd hr2 (.lst (ys++zs));exists r1,r2,ys++zs,_,_,rfl,s2.trans (s3.trans (s4.trans s5)),s5 _ _ g4,za,?_,?_,?_
  ·rw[zbj hct,map_append]
   exact zO (yF (s3.trans (s4.trans s5)) hy) (yF (s4.trans s5) gp)
  ·rw[zbi hct,length_append];omega
  ·rw[zbj hct,length_append];omega
 rintro σ H0 ⟨a,b,ys,v3,v4,rfl,s0,ha',hb',hp,lt,lp⟩;have ll:(ls.map V.ref).length=cts.length:=by rw[length_map,hcs.length]
 rw[ll,take_length] at ha' hp lt lp;have ha:=zh (K:=K) ha';have hb:=zh (K:=K) hb';have lt:(duT cts).length<=400:=by omega
 have lp:(duP cts).length<=400:=by omega
 have q':∀(r:Addr) (xs:List V) (H':Hp),zq H0 H'->H0 r=none->H' r=some (.lst xs)->Paired (zz K T' H' 1) xs ((plain (duT cts) (duP cts)).map zV)->Q (.ref r) H':=fun r xs H' s' n' e' p'=>q r xs H' (s0.trans s') (s0.free n') e' p';generalize duT cts=ts at *;generalize duP cts=ps at *;clear q;refine⟨_,zf (zy (zp yT (wx [] ["_law_thing"] [none] rfl ⟨rfl,rfl,rfl,rfl⟩ (z9 (pv 1)) (ye 0) rfl rfl rfl
   (fun pins fp s H C=>⟨zr (i:=0) zkV rfl (Or.inl rfl) (.inr rfl),yH,zQ (ac zw (ac (pv 0) zc))⟩))
  (wx [] ["_law_name","_law_thing"] [none,none] rfl ⟨rfl,rfl,rfl,rfl⟩ (z9 (pv 2)) (xI (K:=K) (n:=2) 0 1) rfl rfl rfl
   (fun pins fp s H C=>⟨yO rfl (zF (zr (i:=0) zcX rfl (Or.inl rfl) (.inr rfl)) (zF (zr (i:=1) zcX rfl (Or.inl rfl) (.inr rfl)) yv)),yH,zQ (ac zw (ac (pv 0) (ac (pv 1) zc)))⟩)))),?_⟩
 exists _,rfl,a,rfl,⟨_,ha⟩,fun D hD=>?_;refine xx (K:=K) (xs:=ts.map V.int) (fun i zs H'=>zq H0 H'/\H' D=some (.lst zs)/\Paired (zz K T' H' 1) zs (((ts.take i).map zY.one).map zV)) ⟨zd hD _,za,.nil⟩ (fun i zs H' h=>h.1.seq ha) ?_ ?_
 ·rintro i x zs H' hi hx ⟨sH,hDz,hz⟩
  obtain⟨t,ht,rfl⟩:=wY hx;rw[length_map] at hi |-;have lz:zs.length=i:=by rw[hz.length];simp;omega
  exists fun _=>⟨_,rfl,yC,fun p hpn=>?_⟩,fun z=>absurd z (by decide)
  have nD:=zi hDz hpn;refine lcN.mk hi (yn (by omega)) (by rw[zg nD];exact hDz) (by omega) ⟨yd (yd sH (sH.free hpn) _) hD _,za,?_⟩
  rw[xq ht,map_append,map_append];refine zO (yN (.inr ⟨_,by rw[zg nD];exact hDz⟩) (fun it _=>xy it) (yN (.inl hpn) (fun it _=>xy it) hz)) (.cons (.tup (xs:=[.str "one",.int t]) (zB ?_) (.cons .str (.cons .int .nil))) .nil)
  rw[zg nD.symm,za]
 rintro zs H1 ⟨s1,hDz,hz⟩;rw[length_map,take_length] at hz;have lzs:zs.length=ts.length:=by rw[hz.length];simp
 exists _,rfl,b,rfl,⟨_,s1.seq hb⟩,fun D2 hD2=>?_;refine xx (K:=K) (xs:=ys) (fun i ws H'=>zq H1 H'/\H' D2=some (.lst ws)/\Paired (zz K T' H' 1) ws (((ps.take i).map zfz).map zV)) ⟨zd hD2 _,za,.nil⟩ (fun i zs H' h=>(s1.trans h.1).seq hb) ?_ ?_
 ·rintro i x ws H' hi hx ⟨sH,hDw,hw⟩
  obtain⟨d,hd,hx1⟩:=Paired.get hp hx;obtain⟨pr,hpr,rfl⟩:=uu hd;obtain⟨bb,rfl,hbb⟩:=vD (n:=0) hx1;have hbb2:=(s1.trans sH).sqT hbb;have lws:ws.length=i:=by
   rw[hw.length]
   have:i<ps.length:=by rw[hp.length,length_map] at hi;exact hi
   simp;omega
  exists bb,_,rfl,hbb2,rfl,_,_,rfl,_,_,rfl,rfl,⟨fun _=>⟨_,rfl,_,rfl,vX,fun p hpn=>?_⟩,fun z=>absurd z (by decide)⟩
  have nD:=zi hDw hpn;have ly:ys.length=ps.length:=by rw[hp.length,length_map]
  refine lcN.mk hi (yn (by omega)) (by rw[zg nD];exact hDw) (by omega) ⟨yd (yd sH (sH.free hpn) _) hD2 _,za,?_⟩
  rw[xq hpr,map_append,map_append];refine zO (yN (.inr ⟨_,by rw[zg nD];exact hDw⟩) (fun it _=>xy it) (yN (.inl hpn) (fun it _=>xy it) hw)) (.cons (.tup (xs:=[.str "named",.str pr.1,.int pr.2]) (zB ?_) (.cons .str (.cons .str (.cons .int .nil)))) .nil)
  rw[zg nD.symm,za]
 rintro ws H2 ⟨s2,hDw,hw⟩;have ly:ys.length=ps.length:=by rw[hp.length,length_map]
 rw[ly,take_length] at hw;have lws:ws.length=ps.length:=by rw[hw.length];simp
 exists D,D2,_,_,rfl,rfl,s2 _ _ hDz,hDw,yn (by omega),fun r hrn=>?_
 refine q' r _ _ (s1.trans (s2.trans (zd hrn _))) (s1.free (s2.free hrn)) za ?_;unfold plain;rw[map_append];exact zO (yl (s2.trans (zd hrn _)) hz) (yl (zd hrn _) hw)
theorem wZ.imp{K:Frag}{CP p f:Addr}{N N':Addr->Prop}{H:Hp}{ts:List Int}{ps:List (Str×Int)}(h:wZ K CP N H p f ts ps)(i:∀b,N b->N' b):wZ K CP N' H p f ts ps:=
 let ⟨dx,l1,l2,ys,a,b,c,d,e,g⟩:=h;⟨dx,l1,l2,ys,a,b,c,d,i _ e,i _ g⟩
theorem wZ.same{K:Frag}{CP p f:Addr}{N:Addr->Prop}{H H':Hp}{ts:List Int}{ps:List (Str×Int)}(h:wZ K CP N H p f ts ps)(s:zq H H'):wZ K CP N H' p f ts ps:=
 let ⟨dx,l1,l2,ys,a,b,c,d,e,g⟩:=h;⟨dx,l1,l2,ys,s _ _ a,s _ _ b,s _ _ c,yF s d,e,g⟩
theorem za0{K:Frag}{W:Addr->Prop}{n:Nat}{H H':Hp}(k:Kp W n H H'):∀{ps:List (Str×Int)}{zs:List V},Paired (zz K T' H 1) zs (ps.map yr)->Paired (zz K T' H' 1) zs (ps.map yr)
 | [],_,r=>by cases r;exact .nil
 | p::ps,_,r=>by
  cases r with
  | cons h r=>
   refine .cons ?_ (za0 k r);obtain⟨b,ws,rfl,hS',r'⟩:=yZ h;exact .tup (k.sqT hS') (zm (fun _ _ z=>z) r')
theorem wZ.kp{K:Frag}{CP p f:Addr}{N W:Addr->Prop}{n:Nat}{H H':Hp}{ts:List Int}{ps:List (Str×Int)}(h:wZ K CP N H p f ts ps)(k:Kp W n H H')(hN:∀b,N b->¬W b)(hp:¬W p):wZ K CP N H' p f ts ps:=
 let ⟨dx,l1,l2,ys,a,b,c,d,e,g⟩:=h;⟨dx,l1,l2,ys,k.keep a hp,k.keep b (hN _ e),k.keep c (hN _ g),za0 k d,e,g⟩
abbrev ptN(rows:List Rw)(bars:List Str)(ts:List Int)(ps:List (Str×Int)):Option (Str×Nat):=nlF (y9 rows bars (plain ts ps))
inductive zec(K:Frag)(c:C5)(CF CP:Addr)(cl:Nat->Addr)(vs:List V)(H:Hp)(Q:VK)(E:XK):Prop|mk(p f a:Addr)(N:Addr->Prop)(rows:List Rw)(bars:List Str)(ts:List Int)(ps:List (Str×Int))(ct:List zY):vs=[.ref p,.ref a]->wZ K CP N H p f ts ps->xJ c CF H f rows bars->yx K H a ct->ts.length+(zH ct).length<=400->ps.length+(zD ct).length<=400->(ptN rows bars (ts++zH ct) (ps++zD ct)=none->∀(p':Addr) (H':Hp),zq H H'->H p'=none->wZ K CP (fun b=>H b=none) H' p' f (ts++zH ct) (ps++zD ct)->Q (.ref p') H')->((∀m,ptN rows bars (ts++zH ct) (ps++zD ct)=some m->∀(d:Addr) (H':Hp),zq H H'->H' d=some (.xd [("number",.int (m.2:Nat))])->E (.ref (cl (wD m.1))) (some d) H'))->zec K c CF CP cl vs H Q E
variable {CP MI:Addr}{cl:Nat->Addr}
theorem zjG:zu ["self","call"] ["self","call"] (zj ua):=fsc
theorem ziP{gP gW:Addr}{eP eW:FuncData}(F:Fun K "further" "Part.further" ua f fd)(PC':PtC K CP)(kP:qj P w K mg base (CXs P w) 7 "Part" CP gP eP ["self","form","call"] [] (zaP K c CF CP cl))(mW:xw K CP "whole" gW)(GW:zA P w K mg base CX0 2 gW eW ["self","call"] (vy K CP))(bW:z8 K eW ["self","call"] []):zA P w K mg base (CXs P w) 9 f fd ["self","call"] (zec K c CF CP cl):=by
 refine F.okS zjG (fun vs H Q E h=>?_) (fun cdv A outer s H vs Q E hr h=>?_)
 ·obtain⟨p,f,a,N,rows,bars,ts,ps,ct,rfl,_⟩:=h
  rfl
 obtain⟨p,f,a,N,rows,bars,ts,ps,ct,rfl,hP,hF,hC,lT,lP,q1,q2⟩:=h;have hr2:yj 2 _:=hr.mono (by decide)
 have hP':=hP;obtain⟨dx,l1,l2,ys,hp,e1,e2,gy,_,_⟩:=hP;exists _,zf (zy (cMk kP .nil (ze4 fun _ _ _ z=>z) hr (ac (yE (pv 0) rfl) (ac (vC (pv 0) PC'.cl mW GW hr2 bW .nil yo (ac (pv 1) zc)) zc)))),?_;exists _,rfl,p,CP,dx,_,_,rfl,hp,PC'.cl,PC'.n1,zgt,_,rfl,p,dx,_,rfl,hp,qt (by decide +kernel) (by decide +kernel) (by decide +kernel),_,rfl,p,f,a,N,ts,ps,ct,rfl,hP',hC,lT,lP,fun l xs H1 s1 nl el hx=>?_
 have hC1:yx K H1 l (plain (ts++zH ct) (ps++zD ct)):=.plain el hx (by rw[length_append];omega) (by rw[length_append];omega)
 intro x dy hx1 hdy hne;have smk:zq H1 (upd (upd H1 dy (.own x)) x (.ins CP dy [])):=yD hx1 hdy;have hx2:upd (upd H1 dy (.own x)) x (.ins CP dy []) x=some (.ins CP dy []):=za;generalize upd (upd H1 dy (.own x)) x (.ins CP dy [])=H2 at smk hx2 |-;have s2:=s1.trans smk;exists x,f,l,dy,rows,bars,_,rfl,hx2,hF.same s2,hC1.same smk,fun hn H3 sx pt=>⟨rfl,?_⟩,fun m hm d H3 s3 hd=>q2 m hm d H3 (s2.trans s3) hd;rw[xQ,xt] at pt;exact q1 hn x H3 (fun b u e=>sx b u (s2 _ _ e) (zi (s1 _ _ e) hx1)) (s1.free hx1) (pt.imp fun b e=>s2.free e)
structure uB(K:Frag)(cl:Nat->Addr)(MI:Addr)(i:Nat):Prop where
 ex:xU K (cl i)
 set:j3 K (cl i)
 no:yt K (cl i) "number"
 ce:exmOne K (.ref (cl i)) (.ref MI)=some true
inductive zek(K:Frag)(c:C5)(CF CP:Addr)(vs:List V)(H:Hp)(Q:VK)(E:XK):Prop|mk(p f a:Addr)(N:Addr->Prop)(rows:List Rw)(bars:List Str)(ts:List Int)(ps:List (Str×Int))(ct:List zY):vs=[.ref p,.ref a]->wZ K CP N H p f ts ps->xJ c CF H f rows bars->w6 K H a ct->ts.length<=100->ps.length<=100->(∀H',zq H H'->Q .non H')->((∀(p':Addr) (H':Hp),zq H H'->wZ K CP (fun _=>True) H' p' f (ts++zH ct) (ps++zD ct)->Q (.ref p') H'))->zek K c CF CP vs H Q E
inductive zcJ(K:Frag)(c:C5)(CF:Addr)(vs:List V)(H:Hp)(Q:VK)(E:XK):Prop|mk(f a:Addr)(rows:List Rw)(bars:List Str)(ct:List zY):vs=[.ref f,.ref a]->xJ c CF H f rows bars->yx K H a ct->(zH ct).length<=400->(zD ct).length<=400->(nlF (y9 rows bars ct)=none->∀(r:Addr) (xs:List V) (H':Hp),zq H H'->H r=none->H' r=some (.lst xs)->Paired (zz K T' H' 1) xs ((plain (zH ct) (zD ct)).map zV)->Q (.ref r) H')->((∀m,nlF (y9 rows bars ct)=some m->∀(t:Addr) (H':Hp),zq H H'->H' t=some (.tup [.int (m.2:Nat),.int 0])->Q (.ref t) H'))->zcJ K c CF vs H Q E
theorem uO{K:Frag}{H H1:Hp}{r:Addr}{ys:List V}{ds:List Dt}(h:Paired (zz K (fun b=>H b=none/\b≠r) H1 3) ys ds):Paired (zz K (fun b=>(H b=none/\H1 b≠none)/\b≠r) H1 3) ys ds:=
 zm (fun _ _ z=>yU (fun b o nn=>⟨⟨o.1,nn⟩,o.2⟩) z) h
theorem zax{H H1 H2 H3:Hp}{n:Nat}(s:zq H H2)(k:Kp (fun b=>H b=none/\H1 b≠none) n H2 H3):zq H H3:=fun b u e=>k.keep (s _ _ e) (fun z=>by rw[z.1] at e;cases e)
theorem zet:zu ["_law_part","_law_items_here","_law_handed","_law_found"] ["_law_part","_law_items_here"] (zj jw):=fsc
theorem ziV{g1 g2 gF:Addr}{d1 d2 eF:FuncData}(F:Fun K "_law_further" "_law_further" jw f fd)(PC':PtC K CP)(hmi:mg "Misfit"=some (.ref MI))(so:∀i,i<6->uB K cl MI i)(cD:zE P w K mg base 1 "_law_deep" g1 d1 ["_law_items_here"] (qZ K))(cG:zE P w K mg base 1 "_law_grown" g2 d2 ["_law_items_here"] (jc K))(mF:xw K CP "further" gF)(GF:zA P w K mg base (CXs P w) 9 gF eF ["self","call"] (zec K c CF CP cl))(bF:z8 K eF ["self","call"] []):zA P w K mg base CX0 10 f fd ["_law_part","_law_items_here"] (zek K c CF CP):=by
 refine F.ok zet (fun cdv A outer s H vs Q E hr h=>?_);obtain⟨p,f,a,N,rows,bars,ts,ps,ct,rfl,hP,hF,hC,lts,lps,q1,q2⟩:=h;have hr1:yj 1 _:=hr.mono (by decide)
 have hr9:yj 9 _:=hr.mono (by decide)
 obtain⟨⟨⟨xs,hx,hxs⟩,_,_⟩,nC,tC,pC⟩:=hC;refine zC (zx (i:=2) zet.nd rfl (Or.inl rfl) (cF cD hr1 (ac (pv 1) zc))) ?_;exists _,rfl,a,ct,xs,rfl,hx,hxs,nC,fun r ys H1 s1 nr er hy=>?_;dsimp only[zM];have hC1:yx K H1 r ct:=⟨⟨ys,zh er,zm (fun _ _ z=>yU (fun _ _ _=>True.intro) z) hy⟩,by omega,by omega⟩
 have hP1:=hP.same s1;obtain⟨dx,l1,l2,zs,hp,_⟩:=id hP1;refine⟨_,zk (zcO rfl rfl (zjP rfl hmi (fun ea=>zf (zy zb3)) zeZ)
   (fun pins σ xe E hp=>zeP (i:=3) zet.nd rfl (Or.inl rfl) (zgD (pv 0) PC'.cl mF GF hr9 bF hp (ac (pv 2) zc))))
  (zk (zI (cF cG hr1 (ac (pv 2) zc))) (zf (zy (pv 3)))),?_⟩
 exists _,rfl,p,dx,_,rfl,hp,qt (by decide +kernel) (by decide +kernel) (by decide +kernel),_,rfl,p,f,r,N,rows,bars,ts,ps,ct,rfl,hP1,hF.same s1,hC1,by omega,by omega,fun _ p' H2 s2 np' hp'=>?_,fun m hm d H2 s2 hd=>?_
 ·have s12:=s1.trans s2
  exists _,rfl,r,ct,ys,(fun b=>H b=none/\H1 b≠none),rfl,s2 _ _ er,⟨nr,by rw[er];exact fun e=>by cases e⟩,yl s2 (uO hy),nC,by omega,by omega,fun n H3 k3=>?_
  exact⟨_,rfl,q2 p' H3 (zax s12 k3) ((hp'.kp k3 (fun b e z=>z.2 e) (fun z=>z.2 np')).imp fun _ _=>True.intro)⟩
 ·have hi:=zcY m.1
  exists cl (wD m.1),rfl,fun tt ea hea=>.inl ⟨(so _ hi).ce,?_⟩;exact q1 _ (s1.trans (s2.trans (zd hea _)))
theorem zad:zu ["_law_taker","_law_given","_law_found","e"] ["_law_taker","_law_given"] (zj zbY):=fsc
theorem zfu{gP gW:Addr}{eP eW:FuncData}(F:Fun K "_law_again" "_law_again" zbY f fd)(PC':PtC K CP)(hmi:mg "Misfit"=some (.ref MI))(so:∀i,i<6->uB K cl MI i)(kP:qj P w K mg base (CXs P w) 7 "Part" CP gP eP ["self","form","call"] [] (zaP K c CF CP cl))(mW:xw K CP "whole" gW)(GW:zA P w K mg base CX0 2 gW eW ["self","call"] (vy K CP))(bW:z8 K eW ["self","call"] []):zA P w K mg base CX0 9 f fd ["_law_taker","_law_given"] (zcJ K c CF):=by
 refine F.ok zad (fun cdv A outer s H vs Q E hr h=>?_);obtain⟨f,a,rows,bars,ct,rfl,hF,hC,lT,lP,q1,q2⟩:=h;have hr2:yj 2 _:=hr.mono (by decide)
 refine⟨_,zk (zcO rfl rfl (ziA (i:=3) zad.nd rfl rfl rfl hmi (fun ea=>zf (zy (zQ (ac (ze0 (K:=K) rfl (pv 3) rfl) (ac ze zc))))) zeZ)
   (fun pins σ xe E hp=>zeP (i:=2) zad.nd rfl (Or.inl rfl) (ze5 (zgE kP.mkr kP.ok hr rfl kP.mg kP.bd .nil hp (ac (pv 0) (ac (pv 1) zc))) PC'.cl mW GW hr2 bW yo (ac (zS zc) zc))))
  (zf (zy (pv 2))),?_⟩
 exists _,rfl,_,rfl,fun x dx hx hdx hne=>?_;have smk:zq H (upd (upd H dx (.own x)) x (.ins CP dx [])):=yD hx hdx;have hx1:upd (upd H dx (.own x)) x (.ins CP dx []) x=some (.ins CP dx []):=za;generalize upd (upd H dx (.own x)) x (.ins CP dx [])=H1 at smk hx1 |-;exists x,f,a,dx,rows,bars,ct,rfl,hx1,hF.same smk,hC.same smk,fun hnl H2 sx pt=>?_,fun m hm d H2 s2 hd=>?_
 ·have s2:zq H H2:=fun b' u e=>sx b' u (smk _ _ e) (zi e hx)
  have pt':=pt;obtain⟨dy,l1,l2,zs,hp,_⟩:=pt;exists rfl,x,dy,_,rfl,hp,qt (by decide +kernel) (by decide +kernel) (by decide +kernel),wb,fun l hl=>?_
  injections l hl H3 s3 e3
  have hC3:yx K H3 l []:=⟨⟨[],zh e3,.nil⟩,zero_le _,zero_le _⟩;exists x,f,l,_,_,_,[],rfl,pt'.same s3,hC3,by show _+0<=_;omega,by show _+0<=_;omega,fun r xs H4 s4 nr er hr'=>?_
  have e1:zH ct++zH []=zH ct:=append_nil _;have e2:zD ct++zD []=zD ct:=append_nil _;rw[e1,e2] at hr';exact⟨_,rfl,q1 hnl r xs H4 (s2.trans (s3.trans s4)) (s2.free (s3.free nr)) er hr'⟩
 ·have hi:=zcY m.1
  exists cl (wD m.1),rfl,fun tt ea hea=>.inl ⟨(so _ hi).ce,?_⟩;have s3:=zd hea (j9 ea (cl (wD m.1)) (some d) tt);have e3:upd H2 ea (j9 ea (cl (wD m.1)) (some d) tt) ea=some (j9 ea (cl (wD m.1)) (some d) tt):=za;have hd3:=s3 _ _ hd;generalize upd H2 ea (j9 ea (cl (wD m.1)) (some d) tt)=H3 at s3 e3 hd3 |-;exists _,rfl,ea,cl (wD m.1),tt,d,_,.int (m.2:Nat),rfl,e3,hd3,(so _ hi).ex,(so _ hi).set,(so _ hi).no,rfl,yC,fun t ht=>?_;exact q2 m hm t _ (smk.trans (s2.trans (s3.trans (zd ht _)))) za
structure PtK(K:Frag)(mg:Str->Option Value)(CP:Addr):Prop where
 ty:∀(H:Hp) (p dx:Addr) (fs:List (Str×V)),H p=some (.ins CP dx fs)->wP K H (.ref p) (.ref CP)
 kt:kitOne K (.ref CP) (.ref CP)=some true
 mp:mg "Part"=some (.ref CP)
theorem zbe{K:Frag}{W:Addr->Prop}{n:Nat}{H H':Hp}(k:Kp W n H H'):∀{cs:List zY}{zs:List V},Paired (zz K T' H 1) zs (cs.map zV)->Paired (zz K T' H' 1) zs (cs.map zV)
 | [],_,r=>by cases r;exact .nil
 | it::cs,_,r=>by
  cases r with
  | cons h r=>
   refine .cons ?_ (zbe k r);obtain⟨ds,e⟩:=xy it;rw[e] at h |-;obtain⟨b,ws,rfl,hS',r'⟩:=yZ h;exact .tup (k.sqT hS') (zm (fun _ _ z=>z) r')
inductive zjw(K:Frag)(CP:Addr)(vs:List V)(H:Hp)(Q:VK)(E:XK):Prop|mk(p f a d:Addr)(N:Addr->Prop)(ts:List Int)(ps:List (Str×Int))(ct:List zY)(xs:List V):vs=[.ref p,.ref a,.ref d]->wZ K CP N H p f ts ps->w6 K H a ct->H d=some (.lst xs)->Paired (zz K T' H 1) xs ((plain (ts++zH ct) (ps++zD ct)).map zV)->ts.length<=200->ps.length<=200->(∀H',zq H H'->Q (.bl true) H')->zjw K CP vs H Q E
theorem zh9:zu ["_law_part","_law_items_here","_law_due_here","_law_handed","_law_found"] ["_law_part","_law_items_here","_law_due_here"] (zj zae):=fsc
theorem zjT{g1 g2 gW:Addr}{d1 d2 eW:FuncData}(F:Fun K "_law_whole_right" "_law_whole_right" zae f fd)(U:zcq mg)(PC':PtC K CP)(PK:PtK K mg CP)(cD:zE P w K mg base 1 "_law_deep" g1 d1 ["_law_items_here"] (qZ K))(cG:zE P w K mg base 1 "_law_grown" g2 d2 ["_law_items_here"] (jc K))(mW:xw K CP "whole" gW)(GW:zA P w K mg base CX0 2 gW eW ["self","call"] (vy K CP))(bW:z8 K eW ["self","call"] []):zA P w K mg base CX0 3 f fd ["_law_part","_law_items_here","_law_due_here"] (zjw K CP):=by
 refine F.ok zh9 (fun cdv A outer s H vs Q E hr h=>?_);obtain⟨p,f,a,d,N,ts,ps,ct,xs,rfl,hP,hC,hd,hdu,lts,lps,q⟩:=h;have hr1:yj 1 _:=hr.mono (by decide)
 have hr2:yj 2 _:=hr.mono (by decide)
 have hU:=hr.units;have hC0:=hC;obtain⟨⟨⟨zs,hx,hxs⟩,_,_⟩,nC,tC,pC⟩:=hC;refine zC (zx (i:=3) zh9.nd rfl (Or.inl rfl) (cF cD hr1 (ac (pv 1) zc))) ?_;exists _,rfl,a,ct,zs,rfl,hx,hxs,nC,fun r ys H1 s1 nr er hy=>?_;dsimp only[zM];have hC1:yx K H1 r ct:=⟨⟨ys,zh er,zm (fun _ _ z=>yU (fun _ _ _=>True.intro) z) hy⟩,by omega,by omega⟩
 have hP1:=hP.same s1;obtain⟨dx,l1,l2,ws,hp,_⟩:=id hP1;refine zC (zx (i:=4) zh9.nd rfl (Or.inl rfl) (vC (pv 0) PC'.cl mW GW hr2 bW .nil yo (ac (pv 3) zc))) ?_;exists _,rfl,p,dx,_,rfl,hp,qt (by decide +kernel) (by decide +kernel) (by decide +kernel),_,rfl,p,f,r,N,ts,ps,ct,rfl,hP1,hC1,by omega,by omega,fun fo us H2 s2 nfo efo hfo=>?_
 dsimp only[zM];have s12:=s1.trans s2;refine zC (zI (cF cG hr1 (ac (pv 3) zc))) ?_;exists _,rfl,r,ct,ys,(fun b=>H b=none/\H1 b≠none),rfl,s2 _ _ er,⟨nr,by rw[er];exact fun e=>by cases e⟩,yl s2 (uO hy),nC,by omega,by omega,fun n H3 k3=>?_
 have s03:=zax s12 k3;have efo3:=k3.keep efo (fun z=>z.2 nfo);have hfo3:=zbe k3 hfo;have hd3:=s03 _ _ hd;have hdu3:=yl s03 hdu;refine zC (zT (wq (jB (wj (y7 (cB zaD U.isi boot_isinstance (ac (pv 0) (ac (wy (v:=.ref CP) rfl PK.mp rfl) zc))))) (jB (wj (y7 (cB (r:=zjN K) vp U.isi boot_isinstance (ac (pv 4) (ac (zaq (v:=.ty "list") rfl U.list PyProof.Rows.boot_list rfl) zc))))) (jA (zv (ziI hU) (pv 4) (pv 2) (zJ _)))))) (zf (zy vi)) zG) ?_;exists _,rfl,_,_,_,_,rfl,PK.ty H3 p dx _ (k3.keep (s2 _ _ hp) (fun z=>?_)),PK.kt,_,rfl,?_
 ·have:=hP
  obtain⟨dx0,_,_,_,hp0,_⟩:=hP;rw[z.1] at hp0;cases hp0
 refine xz ?_;exists _,rfl,_,_,_,_,rfl,.lst efo3,wX K,_,rfl,?_;refine xz ?_;exists _,rfl,_,rfl,fo,d,1,.lst _,T',T',rfl,rfl,(by decide),.lst True.intro efo3 hfo3,.lst True.intro hd3 hdu3,?_
 exists _,rfl,?_;refine xz ?_;refine zC (zI (ziE PySem.F.plainAttrs_list PySem.F.slot_list_clear PySem.F.type_list_clear zfA (pv 4))) ?_;exists _,rfl,.inl ⟨rfl,_,zh efo3⟩,fo,_,rfl,rfl,efo3,?_;have s04:zq H (upd H3 fo (.lst [])):=fun b u e=>by
  have nb:b≠fo:=fun z=>by rw[z] at e;rw[s1 _ _ e] at nfo;cases nfo
  rw[zg nb];exact s03 _ _ e
 generalize upd H3 fo (.lst [])=H4 at s04 |-;have hP4:=hP.same s04;obtain⟨dx4,_,_,_,hp4,_⟩:=id hP4;obtain⟨⟨⟨zs4,hx4,hxs4⟩,_,_⟩,_,_,_⟩:=hC0.same s04;exists _,zf (zy (wz (zat hU) (vC (pv 0) PC'.cl mW GW hr2 bW .nil yo (ac (cTy (r:=zjM K) yq U.list PyProof.Rows.boot_list (ac (pv 1) zc)) zc)) (pv 2) (zJ _))),?_;exists _,rfl,p,dx4,_,rfl,hp4,qt (by decide +kernel) (by decide +kernel) (by decide +kernel),_,rfl,a,_,rfl,.inl hx4,fun l hl=>?_
 injections l hl H5 s5 e5
 have hC5:yx K H5 l ct:=⟨⟨zs4,zh e5,yl s5 hxs4⟩,by omega,by omega⟩
 exists p,f,l,N,ts,ps,ct,rfl,hP4.same s5,hC5,by omega,by omega,fun fo6 us6 H6 s6 nfo6 efo6 hfo6=>?_
 have s06:=s04.trans (s5.trans s6);exists _,rfl,fo6,d,1,.lst _,T',T',rfl,rfl,(by decide),.lst True.intro efo6 hfo6,.lst True.intro (s06 _ _ hd) (yl s06 hdu),?_
 exact q H6 s06
def zc2:zY->Bool
 | .one _=>true
 | _=>false
def zgK:zY->V
 | .one t=>.int t
 | _=>.non
theorem jK(ps:List (Str×Int)):∀ts:List Int,((plain ts ps).filter zc2).map zgK=ts.map V.int
 | []=>by
  show((([]:List zY)++ps.map fun p=>zY.named p.1 p.2).filter zc2).map zgK=[];rw[nil_append,List.filter_eq_nil_iff.mpr (fun x hx=>by obtain⟨p,_,rfl⟩:=List.mem_map.mp hx;exact zft)]
  rfl
 | t::ts=>by
  show(((zY.one t::plain ts ps)).filter zc2).map zgK=V.int t::ts.map V.int;rw[List.filter_cons_of_pos rfl,map_cons,jK ps ts];rfl
theorem qu{ts:List Int}{ps:List (Str×Int)}{it:zY}(h:it∈plain ts ps):(∃t,it=.one t)\/∃z t,it=.named z t:=by
 rcases List.mem_append.mp h with h|h
 ·obtain⟨t,_,rfl⟩:=List.mem_map.mp h
  exact .inl ⟨t,rfl⟩
 ·obtain⟨p,_,rfl⟩:=List.mem_map.mp h
  exact .inr ⟨_,_,rfl⟩
def msD(m:Str×Nat):Dt:=.tup [.str m.1,.int (m.2:Nat)]
theorem zau{K:Frag}{ok:Addr->Prop}{H:Hp}:∀{us:List Addr}{ms:List (Str×Nat)},wF H us ms->Paired (zz K ok H 1) (us.map V.ref) (ms.map msD)
 | [],_,h=>by cases h;exact .nil
 | u::us,_,h=>by
  cases h with
  | cons a b=>exact .cons (.tup (zB a) (.cons .str (.cons .int .nil))) (zau b)
abbrev uU:List zY:=[.row (xp 30),.row [4,3,2],.book [("late",1),("later",2)]]
theorem zch:(zH uU).length=33:=by decide +kernel
theorem zci:(zD uU).length=2:=by decide +kernel
def qw(T:List Int)(P:List (Str×Int)):List zY:=[.row (T.take 30),.row (T.drop 30),.book P]
theorem zar(T:List Int)(P:List (Str×Int)):zH (qw T P)=T:=by
 show T.take 30++(T.drop 30++([]++[]))=T;rw[append_nil,append_nil,take_append_drop]
theorem zas(T:List Int)(P:List (Str×Int)):zD (qw T P)=P:=by
 show[]++([]++(P++[]))=P;rw[append_nil];rfl
theorem vG(rows:List Rw)(bars:List Str)(T:List Int)(P:List (Str×Int)):y9 rows bars (qw T P)=y9 rows bars (plain T P):=by
 unfold y9 yI;rw[zar,zas,xQ,xt]
inductive zjB(K:Frag)(c:C5)(CF CP:Addr)(vs:List V)(H:Hp)(Q:VK)(E:XK):Prop|mk(f p f':Addr)(N:Addr->Prop)(rows:List Rw)(bars:List Str)(ts:List Int)(ps:List (Str×Int)):vs=[.ref f,.ref p]->xJ c CF H f rows bars->wZ K CP N H p f' ts ps->ts.length<=100->ps.length<=100->(∀H',zq H H'->Q (.bl true) H')->zjB K c CF CP vs H Q E
theorem zj4:([Str.ofString "_law_item_here"]:List Str).Nodup:=by decide +kernel
theorem zes:zu ["_law_taker","_law_part","_law_whole","_law_things","_law_pairs","_law_packed"] ["_law_taker","_law_part"] (zj zbQ):=fsc
theorem zjV{g1 g2 gW:Addr}{d1 d2 eW:FuncData}(F:Fun K "_law_long_right" "_law_long_right" zbQ f fd)(U:zcq mg)(PC':PtC K CP)(mW:xw K CP "whole" gW)(GW:zA P w K mg base CX0 2 gW eW ["self","call"] (vy K CP))(bW:z8 K eW ["self","call"] [])(cM:zE P w K mg base 5 "misfits" g1 d1 ["form","call"] (zeg K c CF))(cA:zE P w K mg base 9 "_law_again" g2 d2 ["_law_taker","_law_given"] (zcJ K c CF)):zA P w K mg base CX0 10 f fd ["_law_taker","_law_part"] (zjB K c CF CP):=by
 refine F.ok zes (fun cdv A outer s H vs Q E hr h=>?_);obtain⟨f,p,f',N,rows,bars,ts,ps,rfl,hF,hP,lts,lps,q⟩:=h;have hr2:yj 2 _:=hr.mono (by decide)
 have hr5:yj 5 _:=hr.mono (by decide)
 have hr9:yj 9 _:=hr.mono (by decide)
 have hU:=hr.units;obtain⟨dx,k1,k2,ws,hp,_⟩:=id hP;refine zC (zx (i:=2) zes.nd rfl (Or.inl rfl) (vC (pv 1) PC'.cl mW GW hr2 bW .nil yo (ac (zS (ac (zQ (ac zw (ac (cTy (zco rfl) U.list PyProof.Rows.boot_list (ac (cTy zf1 U.range PyProof.Rows.boot_range (ac ze zc)) zc)) zc))) (ac (zQ (ac zw (ac (zS (ac ze (ac ze (ac ze zc)))) zc))) (ac (zQ (ac zw (ac (zS (ac (zQ (ac zw (ac ze zc))) (ac (zQ (ac zw (ac ze zc))) zc))) zc))) zc)))) zc))) ?_;exists _,rfl,p,dx,_,rfl,hp,qt (by decide +kernel) (by decide +kernel) (by decide +kernel),?_
 exists 30,rfl,fun r1 hr1=>?_
 injections r1 hr1 H1 s1 e1
 exists r1,30,rfl,e1,by decide,fun l1 hl1=>?_
 have s2:=zd hl1 (.lst ((xp 30).map V.int));have e2:upd H1 l1 (.lst ((xp 30).map V.int)) l1=some (.lst ((xp 30).map V.int)):=za;have s2:=s1.trans s2;generalize upd H1 l1 (.lst ((xp 30).map V.int))=H2 at s2 e2 |-;exists yC,fun t1 ht1=>?_;have s3:=zd ht1 (.tup [.str "row",.ref l1]);have e3:upd H2 t1 (.tup [.str "row",.ref l1]) t1=some (.tup [.str "row",.ref l1]):=za;have i1:zz K T' (upd H2 t1 (.tup [.str "row",.ref l1])) 3 (.ref t1) (zV (.row (xp 30))):=.tup (zB e3) (.cons .str (.cons (.lst True.intro (s3 _ _ e2) (xu _)) .nil));have s3:=s2.trans s3;generalize upd H2 t1 (.tup [.str "row",.ref l1])=H3 at s3 i1 |-;exists vX,fun l2 hl2=>?_;have s4:=zd hl2 (.lst (([4,3,2]:List Int).map V.int));have e4:upd H3 l2 (.lst (([4,3,2]:List Int).map V.int)) l2=some (.lst (([4,3,2]:List Int).map V.int)):=za;have i1:=i1.same s4;have s4:=s3.trans s4;generalize hE4:upd H3 l2 (.lst (([4,3,2]:List Int).map V.int))=H4 at s4 e4 i1;have hE4':upd H3 l2 (.lst [.int 4,.int 3,.int 2])=H4:=hE4;rw[hE4'];exists yC,fun t2 ht2=>?_;have s5:=zd ht2 (.tup [.str "row",.ref l2]);have e5:upd H4 t2 (.tup [.str "row",.ref l2]) t2=some (.tup [.str "row",.ref l2]):=za;have i2:zz K T' (upd H4 t2 (.tup [.str "row",.ref l2])) 3 (.ref t2) (zV (.row [4,3,2])):=.tup (zB e5) (.cons .str (.cons (.lst True.intro (s5 _ _ e4) (xu _)) .nil));have i1:=i1.same s5;have s5:=s4.trans s5;generalize upd H4 t2 (.tup [.str "row",.ref l2])=H5 at s5 i1 i2 |-;exists yC,fun a1 ha1=>?_;have s6:=zd ha1 (.tup [.str "late",.int 1]);have e6:upd H5 a1 (.tup [.str "late",.int 1]) a1=some (.tup [.str "late",.int 1]):=za;have i1:=i1.same s6;have i2:=i2.same s6;have s6:=s5.trans s6;generalize upd H5 a1 (.tup [.str "late",.int 1])=H6 at s6 e6 i1 i2 |-;exists yC,fun a2 ha2=>?_;have s7:=zd ha2 (.tup [.str "later",.int 2]);have e7:upd H6 a2 (.tup [.str "later",.int 2]) a2=some (.tup [.str "later",.int 2]):=za;have i1:=i1.same s7;have i2:=i2.same s7;have e6:=s7 _ _ e6;have s7:=s6.trans s7;generalize upd H6 a2 (.tup [.str "later",.int 2])=H7 at s7 e6 e7 i1 i2 |-;exists yC,fun l3 hl3=>?_;have s8:=zd hl3 (.lst [.ref a1,.ref a2]);have e8:upd H7 l3 (.lst [.ref a1,.ref a2]) l3=some (.lst [.ref a1,.ref a2]):=za;have i1:=i1.same s8;have i2:=i2.same s8;have e6:=s8 _ _ e6;have e7:=s8 _ _ e7;have s8:=s7.trans s8;generalize upd H7 l3 (.lst [.ref a1,.ref a2])=H8 at s8 e6 e7 e8 i1 i2 |-;exists yC,fun t3 ht3=>?_;have s9:=zd ht3 (.tup [.str "book",.ref l3]);have e9:upd H8 t3 (.tup [.str "book",.ref l3]) t3=some (.tup [.str "book",.ref l3]):=za;have i3:zz K T' (upd H8 t3 (.tup [.str "book",.ref l3])) 3 (.ref t3) (zV (.book [("late",1),("later",2)])):=.tup (zB e9) (.cons .str (.cons (.lst True.intro (s9 _ _ e8) (.cons (.tup (zB (s9 _ _ e6)) (.cons .str (.cons .int .nil))) (.cons (.tup (zB (s9 _ _ e7)) (.cons .str (.cons .int .nil))) .nil))) .nil));have i1:=i1.same s9;have i2:=i2.same s9;have s9:=s8.trans s9;generalize upd H8 t3 (.tup [.str "book",.ref l3])=H9 at s9 i1 i2 i3 |-;exists vX,fun lh hlh=>?_;have s10:=zd hlh (.lst [.ref t1,.ref t2,.ref t3]);have e10:upd H9 lh (.lst [.ref t1,.ref t2,.ref t3]) lh=some (.lst [.ref t1,.ref t2,.ref t3]):=za;have i1:=i1.same s10;have i2:=i2.same s10;have i3:=i3.same s10;have s10:=s9.trans s10;generalize upd H9 lh (.lst [.ref t1,.ref t2,.ref t3])=H10 at s10 e10 i1 i2 i3 |-;have hC:yx K H10 lh uU:=⟨⟨_,zh e10,.cons i1 (.cons i2 (.cons i3 .nil))⟩,by rw[zch];decide,by rw[zci];decide⟩
 exists p,f',lh,N,ts,ps,uU,rfl,hP.same s10,hC,by rw[zch];omega,by rw[zci];omega,fun wl xs H11 s11 nwl ewl hxs=>?_
 have s011:=s10.trans s11;dsimp only[zM];have lT:(ts++zH uU).length<=140:=by rw[length_append,zch];omega
 have lP:(ps++zD uU).length<=140:=by rw[length_append,zci];omega
 generalize ts++zH uU=T at hxs lT;generalize ps++zD uU=P' at hxs lP;have hF11:=hF.same s011;have q:∀H',zq H11 H'->Q (.bl true) H':=fun H' s'=>q H' (s011.trans s');have hC11:yx K H11 wl (plain T P'):=.plain ewl hxs (by omega) (by omega)
 have lpl:(plain T P').length=T.length+P'.length:=by unfold plain;rw[length_append,length_map,length_map]
 have lxs:xs.length=(plain T P').length:=by rw[hxs.length,length_map]
 clear hC i1 i2 i3 e10 e6 e7 e8 e9 s11 s10 s9 s8 s7 s6 s5 s4 s3 s2 s1 hE4 hE4';refine zC (vh (i:=3) [] ["_law_item_here"] [none] zes.nd rfl (Or.inl rfl) rfl ⟨rfl,rfl,rfl,rfl⟩ (z9 (pv 2)) (ye 0) rfl rfl rfl
   (fun pins fp s H C=>⟨zr (i:=0) zj4 rfl (Or.inl rfl) (.inr rfl),xM (zv yA (zL (r:=wS K) zU (pv 0) ze (fun _ _=>rfl)) zw (zJ _)),zL (r:=wS K) zU (pv 0) ze (fun _ _=>rfl)⟩)) ?_
 exists _,rfl,wl,rfl,⟨_,zh ewl⟩,fun D1 hD1=>?_;refine zcd (K:=K) (xs:=xs) (plain T P') zc2 zgK hD1 (zh ewl) lxs (by omega) (fun i x y H' N S hx hy sH n1 s1=>?_) (fun H12 s12 hd=>?_)
 ·obtain⟨d,hd,hx1⟩:=Paired.get hxs hx
  obtain⟨it,hit,rfl⟩:=wN hd;rw[hy] at hit;cases hit;have hx1:=(hx1.same sH).up.up;rcases qu (mem_of_getElem? hy) with ⟨t,rfl⟩|⟨z,t,rfl⟩
  ·obtain⟨b,rfl,hb⟩:=wM hx1
   exact⟨_,rfl,b,_,_,.str "one",rfl,rfl,hb,rfl,rfl,_,rfl,fun _=>⟨_,rfl,b,_,_,.int t,rfl,rfl,hb,rfl,n1 _ (zq.refl _) rfl⟩,fun e=>absurd e (by decide +kernel)⟩
  ·obtain⟨b,rfl,hb⟩:=xH hx1
   exact⟨_,rfl,b,_,_,.str "named",rfl,rfl,hb,rfl,rfl,_,rfl,fun e=>absurd e (by decide +kernel),fun _=>s1 _ (zq.refl _) rfl⟩
 rw[jK] at hd;dsimp only[zM];refine zC (vh (i:=4) [] ["_law_item_here"] [none] zes.nd rfl (Or.inl rfl) rfl ⟨rfl,rfl,rfl,rfl⟩ (z9 (pv 2)) (ye 0) rfl rfl rfl
   (fun pins fp s H C=>⟨zr (i:=0) zj4 rfl (Or.inl rfl) (.inr rfl),xM (zv yA (zL (r:=wS K) zU (pv 0) ze (fun _ _=>rfl)) zw (zJ _)),zQ (ac (zL (r:=wS K) zU (pv 0) ze (fun _ _=>rfl)) (ac (zL (r:=wS K) zU (pv 0) ze (fun _ _=>rfl)) zc))⟩)) ?_
 exists _,rfl,wl,rfl,⟨_,zh (s12 _ _ ewl)⟩,fun D2 hD2=>?_;refine xx (K:=K) (xs:=xs) (fun i zs H'=>zq H12 H'/\H' D2=some (.lst zs)/\Paired (zz K T' H' 1) zs ((zD ((plain T P').take i)).map yr)/\zs.length<=i) ⟨zd hD2 _,za,.nil,le_refl _⟩ (fun i zs H' h=>zh ((s12.trans h.1) _ _ ewl)) ?_ ?_
 ·rintro i x zs H' hi hx ⟨sH,hDz,hz,lz⟩
  obtain⟨d,hd',hx1⟩:=Paired.get hxs hx;obtain⟨it,hit,rfl⟩:=wN hd';have hx1:=(hx1.same (s12.trans sH)).up.up;have eP:=wm _ i it hit;rcases qu (mem_of_getElem? hit) with ⟨t,rfl⟩|⟨z,t,rfl⟩
  ·obtain⟨b,rfl,hb⟩:=wM hx1
   exists _,rfl,b,_,_,.str "one",rfl,rfl,hb,rfl,rfl,_,rfl,fun e=>absurd e (by decide +kernel),fun _=>?_
   refine lcS.mk hi ⟨sH,hDz,?_,by omega⟩
   rw[eP];show Paired _ _ ((zD ((plain T P').take i)++[]).map yr);rw[append_nil];exact hz
  ·obtain⟨b,rfl,hb⟩:=xH hx1
   exists _,rfl,b,_,_,.str "named",rfl,rfl,hb,rfl,rfl,_,rfl,fun _=>?_,fun e=>absurd e (by decide +kernel)
   exists _,rfl,b,_,_,.str z,rfl,rfl,hb,rfl,_,rfl,b,_,_,.int t,rfl,rfl,hb,rfl,yC,fun p hp=>?_;have nD:=zi hDz hp;refine lcN.mk hi (yn (by omega)) (by rw[zg nD];exact hDz) lz ⟨yd (yd sH (sH.free hp) _) hD2 _,za,?_,by rw[length_append];show zs.length+1<=_;omega⟩
   rw[eP,map_append];refine zO (xE (.inr ⟨_,by rw[zg nD];exact hDz⟩) (xE (.inl hp) hz)) (.cons (.tup (xs:=[.str z,.int t]) (zB ?_) (.cons .str (.cons .int .nil))) .nil)
   rw[zg nD.symm,za]
 rintro zs H13 ⟨s13,hD2',hz,_⟩;rw[lxs,take_length,xt] at hz;have lz:zs.length=P'.length:=by rw[hz.length,length_map]
 have s23:=s12.trans s13;have hd:=s13 _ _ hd;dsimp only[zM];refine zC (zx (i:=5) zes.nd rfl (Or.inl rfl) (zS (ac (zQ (ac zw (ac (y8 wu (pv 3) wv (yV ze)) zc))) (ac (zQ (ac zw (ac (y8 wu (pv 3) (yV ze) wv) zc))) (ac (zQ (ac zw (ac (pv 4) zc))) zc))))) ?_;exists _,rfl,_,rfl,D1,_,rfl,zh hd,fun m1 hm1=>?_;rw[show wO (T.map V.int) none (some 30)=(T.take 30).map V.int from (vL (n:=30)).trans (by rw[map_take])]
 injections m1 hm1 H14 s1 e1
 exists yC,fun t1 ht1=>?_;have s2:=zd ht1 (.tup [.str "row",.ref m1]);have e2:upd H14 t1 (.tup [.str "row",.ref m1]) t1=some (.tup [.str "row",.ref m1]):=za;have i1:zz K T' (upd H14 t1 (.tup [.str "row",.ref m1])) 3 (.ref t1) (zV (.row (T.take 30))):=.tup (zB e2) (.cons .str (.cons (.lst True.intro (s2 _ _ e1) (xu _)) .nil));have s2:=s1.trans s2;generalize upd H14 t1 (.tup [.str "row",.ref m1])=H15 at s2 i1 |-;exists _,rfl,_,rfl,D1,_,rfl,zh (s2 _ _ hd),fun m2 hm2=>?_;rw[show wO (T.map V.int) (some 30) none=(T.drop 30).map V.int from (qO (n:=30)).trans (by rw[map_drop])]
 have s3:=zd hm2 (.lst ((T.drop 30).map V.int));have e3:upd H15 m2 (.lst ((T.drop 30).map V.int)) m2=some (.lst ((T.drop 30).map V.int)):=za;have i1:=i1.same s3;have s3:=s2.trans s3;generalize upd H15 m2 (.lst ((T.drop 30).map V.int))=H16 at s3 e3 i1 |-;exists yC,fun t2 ht2=>?_;have s4:=zd ht2 (.tup [.str "row",.ref m2]);have e4:upd H16 t2 (.tup [.str "row",.ref m2]) t2=some (.tup [.str "row",.ref m2]):=za;have i2:zz K T' (upd H16 t2 (.tup [.str "row",.ref m2])) 3 (.ref t2) (zV (.row (T.drop 30))):=.tup (zB e4) (.cons .str (.cons (.lst True.intro (s4 _ _ e3) (xu _)) .nil));have i1:=i1.same s4;have s4:=s3.trans s4;generalize upd H16 t2 (.tup [.str "row",.ref m2])=H17 at s4 i1 i2 |-;exists _,rfl,yC,fun t3 ht3=>?_;have s5:=zd ht3 (.tup [.str "book",.ref D2]);have e5:upd H17 t3 (.tup [.str "book",.ref D2]) t3=some (.tup [.str "book",.ref D2]):=za;have i1:=i1.same s5;have i2:=i2.same s5;have s5:=s4.trans s5;have i3:zz K T' (upd H17 t3 (.tup [.str "book",.ref D2])) 3 (.ref t3) (zV (.book P')):=.tup (zB e5) (.cons .str (.cons (.lst True.intro (s5 _ _ hD2') (yF s5 hz)) .nil));generalize upd H17 t3 (.tup [.str "book",.ref D2])=H18 at s5 i1 i2 i3 |-;exists vX,fun lk hlk=>?_;have s6:=zd hlk (.lst [.ref t1,.ref t2,.ref t3]);have e6:upd H18 lk (.lst [.ref t1,.ref t2,.ref t3]) lk=some (.lst [.ref t1,.ref t2,.ref t3]):=za;have hK:yx K (upd H18 lk (.lst [.ref t1,.ref t2,.ref t3])) lk (qw T P'):=⟨⟨_,zh e6,.cons (i1.same s6) (.cons (i2.same s6) (.cons (i3.same s6) .nil))⟩,by rw[zar];omega,by rw[zas];omega⟩
 have s6:=s23.trans (s5.trans s6);dsimp only[zM];generalize upd H18 lk (.lst [.ref t1,.ref t2,.ref t3])=H19 at s6 hK |-;have hC19:=hC11.same s6;have hF19:=hF11.same s6;exists _,zf (zy (ziF (wz (zat hU) (cF cM hr5 (ac (pv 0) (ac (pv 2) zc))) (cF cM hr5 (ac (pv 0) (ac (pv 5) zc))) (zJ _)) (ziC (wz (zat hU) (cF cA hr9 (ac (pv 0) (ac (pv 2) zc))) (cF cA hr9 (ac (pv 0) (ac (pv 5) zc))) (zJ _))))),?_;exists _,rfl,_,rfl,f,wl,rows,bars,_,rfl,hF19,hC19,fun la H20 s7 ⟨us,nl,el,ml⟩=>?_;exists _,rfl,_,rfl,f,lk,rows,bars,_,rfl,hF19.same s7,hK.same s7,fun lb H21 s8 ⟨us2,nl2,el2,ml2⟩=>?_;rw[vG] at ml2;exists la,lb,1,.lst ((y9 rows bars (plain T P')).map msD),T',T',rfl,rfl,by decide,.lst True.intro (s8 _ _ el) (zau (ml.same s8)),.lst True.intro el2 (zau ml2),_,rfl,?_
 refine uc ?_;have s9:=s7.trans s8;have s69:=s6.trans s9;have aT:(zH (plain T P')).length<=400:=by rw[xQ];omega
 have aP:(zD (plain T P')).length<=400:=by rw[xt];omega
 have bT:(zH (qw T P')).length<=400:=by rw[zar];omega
 have bP:(zD (qw T P')).length<=400:=by rw[zas];omega
 exists _,rfl,_,rfl,f,wl,rows,bars,_,rfl,hF19.same s9,hC19.same s9,aT,aP,fun hn r xs1 H22 s10 nr er hx1=>?_,fun m hm r H22 s10 er=>?_
 ·exists _,rfl,_,rfl,f,lk,rows,bars,_,rfl,hF19.same (s9.trans s10),hK.same (s9.trans s10),bT,bP,fun hn2 r2 xs2 H23 s11 nr2 er2 hx2=>?_,fun m hm=>?_
  ·rw[xQ,xt] at hx1
   rw[zar,zas] at hx2;exact⟨r,r2,1,.lst ((plain T P').map zV),T',T',rfl,rfl,by decide,.lst True.intro (s11 _ _ er) (yl s11 hx1),.lst True.intro er2 hx2,q _ (s69.trans (s10.trans s11))⟩
  ·rw[vG,hn] at hm
   cases hm
 ·exists _,rfl,_,rfl,f,lk,rows,bars,_,rfl,hF19.same (s9.trans s10),hK.same (s9.trans s10),bT,bP,fun hn2=>?_,fun m2 hm2 r2 H23 s11 er2=>?_
  ·rw[vG,hm] at hn2
   cases hn2
  ·rw[vG,hm] at hm2
   cases hm2;exact⟨r,r2,0,.tup [.int (m.2:Nat),.int 0],T',T',rfl,rfl,by decide,.tup (zB (s11 _ _ er)) (.cons .int (.cons .int .nil)),.tup (zB er2) (.cons .int (.cons .int .nil)),q _ (s69.trans (s10.trans s11))⟩
inductive zej(K:Frag)(vs:List V)(H:Hp)(Q:VK)(E:XK):Prop|mk(n:Int)(pa:Addr)(zs:List Str):vs=[.int n,.ref pa]->H pa=some (.lst (zs.map V.str))->PL zs->(∀(x:Addr) (it:zY) (H':Hp),zq H H'->zz K (fun b=>H b=none) H' 3 (.ref x) (zV it)->(itT it).length<=3->(itP it).length<=3->Q (.ref x) H')->zej K vs H Q E
theorem zdf{xs:List V}{i:Int}:∃k:Nat,wO xs none (some (i % 4))=xs.take k/\k<=3:=by
 have d0 : 0<=i % 4:=emod_nonneg _ (by decide)
 have d1:i % 4<4:=emod_lt_of_pos _ (by decide)
 obtain⟨k,hk⟩:=Int.eq_ofNat_of_zero_le d0;exact⟨k,by rw[hk];exact vL,by omega⟩
theorem v0:zu ["_law_number","_law_pool_here","_law_rest","_law_names","_law_j","_law_thing"] ["_law_number","_law_pool_here"] (zj zeH):=fsc
theorem zgW(F:Fun K "_law_item" "_law_item" zeH f fd)(U:zcq mg):zA P w K mg base CX0 1 f fd ["_law_number","_law_pool_here"] (zej K):=by
 refine F.ok v0 (fun cdv A outer s H vs Q E hr h=>?_);obtain⟨n,pa,zs,rfl,hpa,pz,q⟩:=h;have z0:=pz.pos;have z26:=pz.le;have pick:∀(x:Int),∃z:Str,atI (zs.map V.str) (x % (zs.length:Int))=some (.str z):=fun x=>by
  have d0 : 0<=x % (zs.length:Int):=emod_nonneg _ (by omega)
  have d1:x % (zs.length:Int)<(zs.length:Int):=emod_lt_of_pos _ (by omega)
  obtain⟨j,hj⟩:=Int.eq_ofNat_of_zero_le d0;have hjl:j<zs.length:=by omega
  exact⟨zs[j],by rw[hj];exact xX (by rw[getElem?_map,getElem?_eq_getElem hjl];rfl)⟩
 have lz:((zs.map V.str).length:Int)=(zs.length:Int):=by rw[length_map]
 refine zC (zx (i:=2) v0.nd rfl (Or.inl rfl) (zp yf (pv 0) ze)) ?_;exists _,rfl,_,_,rfl,rfl,⟨by decide,by decide⟩,?_
 dsimp only[zM];generalize n / 32=r0;refine zC (zx (i:=3) v0.nd rfl (Or.inl rfl) (zS zc)) ?_;exists wb,fun ln hln=>?_;have s1:=zd hln (.lst []);have e1:upd H ln (.lst []) ln=some (.lst (([]:List Str).map V.str)):=za;dsimp only[zM];generalize upd H ln (.lst [])=H1 at s1 e1 |-;refine zC (yz PassesOwn.never rfl (x6 rfl U.range (ac ze zc)) (zr (i:=4) v0.nd rfl (Or.inl rfl))
  (zk (zI (yK PySem.F.plainAttrs_list PySem.F.slot_list_append PySem.F.type_list_append zP (pv 3) (ac (zL yw (pv 1) (zp zW (pv 2) (cB z7 U.len PySem.boot_len (ac (pv 1) zc))) (fun _ _=>rfl)) zc)))
  (zf (zx (i:=2) v0.nd rfl (Or.inl rfl) (zp yf (pv 2) (cB z7 U.len PySem.boot_len (ac (pv 1) zc))))))) ?_
 exists 3,rfl,by decide,by decide,?_
 refine vI (n:=3) (fun j σ H'=>∃(r:Int) (ws:List Str) (v4:Option V),σ=[some (.int n),some (.ref pa),some (.int r),some (.ref ln),v4,none]/\zq H H'/\H' ln=some (.lst (ws.map V.str))/\ws.length=j) ⟨_,[],_,rfl,s1,e1,rfl⟩ ?_ ?_
 ·rintro j σ H2 hj ⟨r,ws,v4,rfl,s2,e2,lw⟩
  obtain⟨z,hat⟩:=pick r;have hpa2:=s2 _ _ hpa;exists _,rfl,.inl ⟨rfl,_,zh e2⟩,_,rfl,_,rfl,_,rfl,pa,_,rfl,.inl (zh hpa2),_,_,rfl,rfl,(by rw[lz];omega),pa,_,_,.str z,rfl,rfl,zh hpa2,(by rw[lz];exact hat),ln,_,_,rfl,rfl,e2,zK (by rw[length_map];omega),?_
  have s3:=yd s2 hln (.lst (ws.map V.str++[.str z]));have e3:upd H2 ln (.lst (ws.map V.str++[.str z])) ln=some (.lst ((ws++[z]).map V.str)):=by rw[za,map_append];rfl
  generalize upd H2 ln (.lst (ws.map V.str++[.str z]))=H3 at s3 e3 |-;exists _,rfl,_,rfl,pa,_,rfl,.inl (zh (s3 _ _ hpa)),_,_,rfl,rfl,⟨by rw[lz];omega,by rw[lz];omega⟩,?_
  exact⟨_,ws++[z],_,rfl,s3,e3,by rw[length_append,lw];rfl⟩
 rintro σ H2 ⟨r,ws,v4,rfl,s2,e2,lw⟩;obtain⟨z1,z2,z3,rfl⟩:∃z1 z2 z3,ws=[z1,z2,z3]:=by
  match ws,lw with
  | [a,b,c],_=>exact⟨a,b,c,rfl⟩
 dsimp only[zM];refine zC (zx (i:=5) v0.nd rfl (Or.inl rfl) (zp jH (zp zW (zp yf (pv 2) ze) ze) ze)) ?_;exists _,rfl,_,_,rfl,rfl,⟨by decide,by decide⟩,_,_,rfl,rfl,(by show(0:Int)<41;decide),_,_,rfl,rfl,?_
 dsimp only[zM];generalize r / 2 % 41 - 20=th0;refine zC (zT (zv yA (zp zW (pv 2) ze) ze (zJ _)) (zf (zx (i:=5) v0.nd rfl (Or.inl rfl) (zp yB (zp jH (zp zW (zp yf (pv 2) ze) (zp jH (zp yG ze (zp jI ze ze)) ze)) (zp jI ze ze)) ze))) zG) ?_;refine wQ (fun σ' H'=>∃th:Int,σ'=[some (.int n),some (.ref pa),some (.int r),some (.ref ln),v4,some (.int th)]/\H'=H2) ?_ (fun key=>?_);rotate_left
 ·exists _,rfl,_,_,rfl,rfl,zp2,rfl,_,rfl,?_
  refine vN (fun _=>?_) (fun _=>?_)
  ·exists _,rfl,_,_,rfl,rfl,⟨by decide,by decide⟩,_,_,rfl,rfl,⟨by decide,by decide,by decide⟩,_,_,rfl,rfl,.inl ⟨by decide,by decide⟩,_,_,rfl,rfl,_,_,rfl,rfl,(by decide +kernel),_,_,rfl,rfl,⟨by decide,by decide,by decide⟩,_,_,rfl,rfl,_,_,rfl,rfl,?_
   exact key _ _ ⟨_,rfl,rfl⟩
  ·exact key _ _ ⟨_,rfl,rfl⟩
 rintro σ3 H3 ⟨th,rfl,rfl⟩;refine zC (zT (zv vS (zp zW (pv 0) ze) ze (zJ _)) (zf (zy (zQ (ac zw (ac (pv 5) zc))))) zG) ?_;exists _,rfl,_,_,rfl,rfl,zp8,_,_,rfl,rfl,_,rfl,?_;refine vN (fun _=>?_) (fun _=>?_)
 ·exists _,rfl,yC,fun t ht=>?_
  exact q t (.one th) _ (s2.trans (zd ht _)) (.tup (zB za) (.cons .str (.cons .int .nil))) (by show 1<=3;decide) (by show 0<=3;decide)
 refine zC (zT (zv yA (zp zW (pv 0) ze) ze (zJ _)) (zf (zy (zQ (ac zw (ac (y8 wu (zS (ac (pv 5) (ac ze (ac ze zc)))) wv (yV (zp zW (zp yf (pv 0) ze) ze))) zc))))) zG) ?_;exists _,rfl,_,_,rfl,rfl,zp8,rfl,_,rfl,?_;refine vN (fun _=>?_) (fun _=>?_)
 ·exists _,rfl,vX,fun l hl=>?_
  have s3:=zd hl (.lst (([th,0,1]:List Int).map V.int));have e3:upd H3 l (.lst (([th,0,1]:List Int).map V.int)) l=some (.lst (([th,0,1]:List Int).map V.int)):=za;generalize hE:upd H3 l (.lst (([th,0,1]:List Int).map V.int))=H4 at s3 e3;have hE':upd H3 l (.lst [.int th,.int 0,.int 1])=H4:=hE;rw[hE'];obtain⟨k,ek,hk⟩:=zdf (xs:=([th,0,1]:List Int).map V.int) (i:=n / 8);exists _,rfl,_,_,rfl,rfl,⟨by decide,by decide⟩,_,_,rfl,rfl,zp4,_,rfl,l,_,rfl,zh e3,fun l5 hl5=>?_
  rw[ek,<- map_take]
  injections l5 hl5 H5 s5 e5
  exists yC,fun t ht=>?_;have s6:=zd ht (.tup [.str "row",.ref l5]);exact q t (.row (([th,0,1]:List Int).take k)) _ (s2.trans (s3.trans (s5.trans s6))) (.tup (zB za) (.cons .str (.cons (.lst ((s2.trans s3).free hl5) (s6 _ _ e5) (xu _)) .nil))) (by show(([th,0,1]:List Int).take k).length<=3;rw[length_take];exact Nat.min_le_right _ _) (by show 0<=3;decide)
 refine zC (zT (zv vS (zp zW (pv 0) ze) ze (zJ _)) (zf (zy (zQ (ac zw (ac (zL yw (pv 3) ze (fun _ _=>rfl)) (ac (pv 5) zc)))))) zG) ?_;exists _,rfl,_,_,rfl,rfl,zp8,_,_,rfl,rfl,_,rfl,?_;refine vN (fun _=>?_) (fun _=>?_)
 ·exists _,rfl,ln,_,0,.str z1,rfl,rfl,zh e2,rfl,_,rfl,vX,fun t ht=>?_
  exact q t (.named z1 th) _ (s2.trans (zd ht _)) (.tup (zB za) (.cons .str (.cons .str (.cons .int .nil)))) (by show 0<=3;decide) (by show 1<=3;decide)
 exists _,zf (zy (zQ (ac zw (ac (y8 wu (zS (ac (zQ (ac (zL yw (pv 3) ze (fun _ _=>rfl)) (ac (pv 5) zc))) (ac (zQ (ac (zL yw (pv 3) ze (fun _ _=>rfl)) (ac ze zc))) (ac (zQ (ac (zL yw (pv 3) ze (fun _ _=>rfl)) (ac (zjQ zhX ze) zc))) zc)))) wv (yV (zp zW (zp yf (pv 0) ze) ze))) zc)))),?_;exists _,rfl,ln,_,0,.str z1,rfl,rfl,zh e2,rfl,_,rfl,yC,fun u1 hu1=>?_;have s5:=zd hu1 (.tup [.str z1,.int th]);have t1:upd H3 u1 (.tup [.str z1,.int th]) u1=some (.tup [.str z1,.int th]):=za;have e5:=s5 _ _ e2;generalize upd H3 u1 (.tup [.str z1,.int th])=H5 at s5 t1 e5 |-;exists _,rfl,ln,_,1,.str z2,rfl,rfl,zh e5,rfl,yC,fun u2 hu2=>?_;have s6:=zd hu2 (.tup [.str z2,.int 0]);have t2:upd H5 u2 (.tup [.str z2,.int 0]) u2=some (.tup [.str z2,.int 0]):=za;have e6:=s6 _ _ e5;have t1:=s6 _ _ t1;have s6:=s5.trans s6;generalize upd H5 u2 (.tup [.str z2,.int 0])=H6 at s6 t1 t2 e6 |-;exists _,rfl,ln,_,2,.str z3,rfl,rfl,zh e6,rfl,_,rfl,yC,fun u3 hu3=>?_;have s7:=zd hu3 (.tup [.str z3,.int (-1)]);have t3:upd H6 u3 (.tup [.str z3,.int (-1)]) u3=some (.tup [.str z3,.int (-1)]):=za;have t1:=s7 _ _ t1;have t2:=s7 _ _ t2;have s7:=s6.trans s7;generalize upd H6 u3 (.tup [.str z3,.int (-1)])=H7 at s7 t1 t2 t3 |-;exists vX,fun lq hlq=>?_;have s8:=zd hlq (.lst [.ref u1,.ref u2,.ref u3]);have g8:upd H7 lq (.lst [.ref u1,.ref u2,.ref u3]) lq=some (.lst [.ref u1,.ref u2,.ref u3]):=za;have t1:=s8 _ _ t1;have t2:=s8 _ _ t2;have t3:=s8 _ _ t3;have s8:=s7.trans s8;generalize upd H7 lq (.lst [.ref u1,.ref u2,.ref u3])=H8 at s8 g8 t1 t2 t3 |-;have hp3:Paired (zz K T' H8 1) [.ref u1,.ref u2,.ref u3] (([(z1,th),(z2,0),(z3,-1)]:List (Str×Int)).map yr):=
  .cons (.tup (zB t1) (.cons .str (.cons .int .nil))) (.cons (.tup (zB t2) (.cons .str (.cons .int .nil))) (.cons (.tup (zB t3) (.cons .str (.cons .int .nil))) .nil))
 obtain⟨k,ek,hk⟩:=zdf (xs:=[V.ref u1,V.ref u2,V.ref u3]) (i:=n / 8);exists _,rfl,_,_,rfl,rfl,⟨by decide,by decide⟩,_,_,rfl,rfl,zp4,_,rfl,lq,_,rfl,zh g8,fun l5 hl5=>?_
 rw[ek];have s9:=zd hl5 (.lst (([V.ref u1,V.ref u2,V.ref u3]).take k));have g9:upd H8 l5 (.lst (([V.ref u1,V.ref u2,V.ref u3]).take k)) l5=some (.lst (([V.ref u1,V.ref u2,V.ref u3]).take k)):=za;have hp9:Paired (zz K T' (upd H8 l5 (.lst (([V.ref u1,V.ref u2,V.ref u3]).take k))) 1) (([V.ref u1,V.ref u2,V.ref u3]).take k) ((([(z1,th),(z2,0),(z3,-1)]:List (Str×Int)).take k).map yr):=by
  rw[map_take];exact jF (yF s9 hp3) k
 generalize upd H8 l5 (.lst (([V.ref u1,V.ref u2,V.ref u3]).take k))=H9 at s9 g9 hp9 |-;exists yC,fun t ht=>?_;have s10:=zd ht (.tup [.str "book",.ref l5]);exact q t (.book (([(z1,th),(z2,0),(z3,-1)]:List (Str×Int)).take k)) _ (s2.trans (s8.trans (s9.trans s10))) (.tup (zB za) (.cons .str (.cons (.lst ((s2.trans s8).free hl5) (s10 _ _ g9) (jE (yF s10 hp9))) .nil))) (by show 0<=3;decide) (by show(([(z1,th),(z2,0),(z3,-1)]:List (Str×Int)).take k).length<=3;rw[length_take];exact Nat.min_le_right _ _)
theorem zaL(c k:Int): 0<=zaM c k/\zaM c k<2147483629:=⟨emod_nonneg _ (by decide),emod_lt_of_pos _ (by decide)⟩
inductive zcI(K:Frag)(vs:List V)(H:Hp)(Q:VK)(E:XK):Prop|mk(sa pa:Addr)(ns:List Int)(k b:Nat)(zs:List Str):vs=[.ref sa,.int (k:Nat),.int (b:Nat),.int 6,.ref pa]->SqL K H sa (ns.map V.int)->ns.length<=63->H pa=some (.lst (zs.map V.str))->PL zs->(∀(r:Addr) (xs:List V) (ct:List zY) (H':Hp),zq H H'->H r=none->H' r=some (.lst xs)->Paired (zz K (fun b=>H b=none) H' 3) xs (ct.map zV)->ct.length<=6->(zH ct).length<=18->(zD ct).length<=18->Q (.ref r) H')->zcI K vs H Q E
theorem zkW:([Str.ofString "_law_number",Str.ofString "_law_pool_here"]:List Str).Nodup:=by decide +kernel
theorem vA:zu ["_law_script","_law_k","_law_begin","_law_most","_law_pool_here","_law_numbers","_law_j","_law_cell","_law_great"] ["_law_script","_law_k","_law_begin","_law_most","_law_pool_here"] (zj zbS):=fsc
theorem zfn{g1 g2 g3 g4:Addr}{d1 d2 d3 d4:FuncData}(F:Fun K "_law_items" "_law_items" zbS f fd)(U:zcq mg)(cN:zE P w K mg base 1 "_law_nth" g1 d1 ["_law_script","_law_k"] (qW K))(cD:zE P w K mg base 2 "_law_digits" g2 d2 ["_law_cell","_law_most","_law_base"] ug)(cS:zE P w K mg base 1 "_law_stirred" g3 d3 ["_law_cell","_law_k"] zbC)(cI:zE P w K mg base 1 "_law_item" g4 d4 ["_law_number","_law_pool_here"] (zej K)):zA P w K mg base CX0 3 f fd ["_law_script","_law_k","_law_begin","_law_most","_law_pool_here"] (zcI K):=by
 refine F.ok vA (fun cdv A outer s H vs Q E hr h=>?_);obtain⟨sa,pa,ns,k,b,zs,rfl,hS,h63,hpa,pz,q⟩:=h;have hr1:yj 1 _:=hr.mono (by decide)
 have hr2:yj 2 _:=hr.mono (by decide)
 refine⟨_,zk (zT (zv yA (zp zW (cF cN hr1 (ac (pv 0) (ac ze zc))) ze) ze (zJ _)) (zf (zx (i:=5) vA.nd rfl (Or.inl rfl) (cF cD hr2 (ac (cF cN hr1 (ac (pv 0) (ac (pv 1) zc))) (ac (pv 3) (ac (zp yG (zp yG (zp yG ze (zp jI ze ze)) ze) (zp jI ze ze)) zc))))))
   (zk (zx (i:=5) vA.nd rfl (Or.inl rfl) (zS zc))
   (zf (yz PassesOwn.never rfl (ww rfl U.enum (ac (y8 wu (pv 0) (yV (pv 2)) (yV (zp yB (pv 2) (pv 3)))) zc)) (yO rfl (zF (zr (i:=6) vA.nd rfl (Or.inl rfl)) (zF (zr (i:=7) vA.nd rfl (Or.inl rfl)) yv)))
    (zk (zx (i:=8) vA.nd rfl (Or.inl rfl) (zp yB (zp yG (cF cS hr1 (ac (pv 7) (ac (zp yB (pv 6) ze) zc))) ze) (cF cS hr1 (ac (pv 7) (ac (zp yB (pv 6) ze) zc)))))
    (zf (zI (yK PySem.F.plainAttrs_list PySem.F.slot_list_append PySem.F.type_list_append zP (pv 5) (ac (zp yB (zp yf (zp yG (zp yG (pv 8) (pv 8)) (pv 8)) ze) (pv 8)) zc)))))))))
  (zf (zy (wx ["_law_pool_here"] ["_law_number","_law_pool_here"] [none,some 4] rfl ⟨rfl,rfl,rfl,rfl⟩ (z9 (pv 5)) (ye 0) rfl rfl rfl
   (fun pins fp s H C=>⟨zr (i:=0) zkW rfl (Or.inl rfl) (.inr rfl),yH,cF cI hr1 (ac (pv 0) (ac (pv 1) zc))⟩)))),?_⟩
 have z0:=pz.pos;refine wQ (fun σ' H'=>∃(ln:Addr) (ds:List Int) (v6 v7 v8:Option V),σ'=[some (.ref sa),some (.int (k:Nat)),some (.int (b:Nat)),some (.int 6),some (.ref pa),some (.ref ln),v6,v7,v8]/\zq H H'/\H' ln=some (.lst (ds.map V.int))/\ds.length<=6) ?_ (fun key=>?_);rotate_left
 ·exists _,rfl,sa,ns,1,rfl,hS,h63,fun c1 H1 s1=>?_
  exists _,_,rfl,rfl,zp2,rfl,_,rfl,?_;refine vN (fun _=>?_) (fun _=>?_)
  ·exists _,rfl,_,rfl,sa,ns,k,rfl,s1.seq hS,h63,fun c2 H2 s2=>?_
   exists _,rfl,_,_,rfl,rfl,⟨by decide,by decide,by decide⟩,_,_,rfl,rfl,.inl ⟨by decide,by decide⟩,_,_,rfl,rfl,.inr ⟨by decide,by decide⟩,_,_,rfl,rfl,⟨by decide,by decide,by decide⟩,_,_,rfl,rfl,.inl ⟨by decide,by decide⟩,c2,6,_,rfl,by decide,by decide +kernel,by decide +kernel,fun ld ds H3 s3 nld hld lds=>?_
   exact key _ _ ⟨ld,ds,_,_,_,rfl,s1.trans (s2.trans s3),hld,lds⟩
  ·exists wb,fun ln hln=>?_
   have s2:=zd hln (.lst []);have e2:upd H1 ln (.lst []) ln=some (.lst (([]:List Int).map V.int)):=za;have s12:=s1.trans s2;dsimp only[zM];generalize upd H1 ln (.lst [])=H2 at s2 e2 s12 |-;exists _,rfl,_,rfl,_,rfl,_,rfl,_,rfl,_,_,rfl,rfl,_,rfl,sa,_,rfl,s12.seq hS,fun p2 hp2=>?_;obtain⟨ms,em,lm⟩:=zbn ns b (b+6);rw[show wO (ns.map V.int) (some ((b:Nat):Int)) (some (((b:Nat):Int)+6))=ms.map V.int from em];have lm:ms.length<=6:=by omega
   have s3:=zd hp2 (.lst (ms.map V.int));have g3:upd H2 p2 (.lst (ms.map V.int)) p2=some (.lst (ms.map V.int)):=za;have e3:=s3 _ _ e2;have s13:=s12.trans s3;have fl:H ln=none:=s1.free hln;generalize upd H2 p2 (.lst (ms.map V.int))=H3 at s3 g3 e3 s13 |-;have np:p2≠ln:=fun e=>by rw[e,e2] at hp2;cases hp2
   refine⟨p2,rfl,⟨_,zh g3⟩,vn (K:=K) (a:=p2) (xs:=ms.map V.int) (fun i σ H'=>∃(ds:List Int) (v6 v7 v8:Option V),σ=[some (.ref sa),some (.int (k:Nat)),some (.int (b:Nat)),some (.int 6),some (.ref pa),some (.ref ln),v6,v7,v8]/\zq H H'/\H' p2=some (.lst (ms.map V.int))/\H' ln=some (.lst (ds.map V.int))/\ds.length=i)
    ⟨[],_,_,_,rfl,s13,g3,e3,rfl⟩ (fun i σ H' _ ⟨_,_,_,_,_,_,e,_⟩=>zh e) ?_ ?_⟩
   rotate_left
   ·rintro σ H4 ⟨ds,v6,v7,v8,rfl,s4,_,e4,ld⟩
    exact key _ _ ⟨ln,ds,_,_,_,rfl,s4,e4,by rw[ld,length_map];exact lm⟩
   rintro i x p σ H4 hx ⟨ds,v6,v7,v8,rfl,s4,g4,e4,ld⟩ hpn;obtain⟨n,hn,rfl⟩:=wY hx;have hi:i<ms.length:=(List.getElem?_eq_some_iff.mp hn).1;have sp:=zd hpn (.tup [.int (i:Nat),.int n]);exists p,_,rfl,zB za,rfl,_,_,rfl,_,_,rfl,rfl,?_;have g5:=sp _ _ g4;have e5:=sp _ _ e4;have s5:=s4.trans sp;generalize upd H4 p (.tup [.int (i:Nat),.int n])=H5 at sp g5 e5 s5 |-;exists _,rfl,_,rfl,_,_,rfl,rfl,n,_,rfl,?_;obtain⟨m0,m1⟩:=zaL n ((i:Nat)+31);generalize zaM n ((i:Nat)+31)=mm at m0 m1 |-;exists _,_,rfl,rfl,.inr ⟨by decide,by decide⟩,_,rfl,_,rfl,_,_,rfl,rfl,n,_,rfl,?_
   obtain⟨k0,k1⟩:=zaL n ((i:Nat)+57);generalize zaM n ((i:Nat)+57)=kk at k0 k1 |-;exists _,_,rfl,rfl,?_;dsimp only[zM];have b0 : 0<=mm * 2147483629+kk:=by omega
   have b1:mm * 2147483629+kk<2 ^ 63:=by omega
   generalize mm * 2147483629+kk=gg at b0 b1 |-;exists _,rfl,.inl ⟨rfl,_,zh e5⟩,_,rfl,_,rfl,_,_,rfl,rfl,.inl ⟨by omega,by omega⟩,_,rfl,_,_,rfl,rfl,.inr ⟨by omega,by omega⟩,_,_,rfl,rfl,⟨by decide,by decide⟩,_,rfl,_,_,rfl,rfl,ln,_,_,rfl,rfl,e5,zK (by rw[length_map];omega),?_
   refine⟨ds++[gg * gg * gg / 11+gg],_,_,_,rfl,yd s5 fl _,?_,?_,by rw[length_append,ld];rfl⟩
   ·rw[zg np];exact g5
   ·rw[za,map_append];rfl
 rintro σ9 H9 ⟨ln,ds,v6,v7,v8,rfl,s9,e9,ld⟩;exists _,rfl,ln,rfl,⟨_,zh e9⟩,fun D hD=>?_;have fD:=s9.free hD;refine xx (K:=K) (xs:=ds.map V.int) (fun i ys H'=>∃ct:List zY,zq H9 H'/\H' D=some (.lst ys)/\Paired (zz K (fun b=>H b=none/\b≠D) H' 3) ys (ct.map zV)/\ct.length=i/\(zH ct).length<=3 * i/\(zD ct).length<=3 * i)
  ⟨[],zd hD _,za,.nil,rfl,le_refl _,le_refl _⟩ (fun i ys H' ⟨_,sH,_⟩=>zh (sH _ _ e9)) ?_ ?_
 ·rintro i x ys H' hi hx ⟨ct,sH,hDy,hy,lc,lt,lp⟩
  obtain⟨n,hn,rfl⟩:=wY hx;have lys:ys.length=ct.length:=by rw[hy.length,length_map]
  have hi':i<ds.length:=(List.getElem?_eq_some_iff.mp hn).1;exists fun _=>?_,fun e=>Bool.noConfusion e;exists _,rfl,_,rfl,n,pa,zs,rfl,(s9.trans sH) _ _ hpa,pz,fun y it H2 s2 hs l1 l2=>?_;have sH2:=sH.trans s2;have nD:∀b:Addr,H' b=none->b≠D:=fun b e z=>by rw[z,hDy] at e;cases e
  refine lcN.mk hi (yn (by rw[length_map];omega)) (s2 _ _ hDy) (by omega) ⟨ct++[it],fun b u e=>by rw[zg (zi e hD)];exact sH2 _ _ e,za,?_,by rw[length_append,lc];rfl,?_,?_⟩
  ·rw[map_append]
   exact zO (zm (fun _ _ z=>yS (s2 _ _ hDy) (fun b o=>⟨o,o.2⟩) (z.same s2)) hy) (.cons (yS (ok:=fun b=>H b=none/\b≠D) (s2 _ _ hDy) (fun b o=>⟨o,o.2⟩) (yU (fun b o _=>⟨(s9.trans sH).free o,nD b o⟩) hs)) .nil)
  ·rw[qC,length_append];omega
  ·rw[qD,length_append];omega
 ·rintro ys H2 ⟨ct,s2,hDy,hy,lc,lt,lp⟩
  rw[length_map] at lc lt lp;exact q D ys ct H2 (s9.trans s2) fD hDy (zm (fun _ _ z=>yU (fun b o _=>o.1) z) hy) (by omega) (by omega) (by omega)
def zje(H:Hp)(la:Addr)(rows:List Rw):Prop:=∃us:List Addr,H la=some (.lst (us.map V.ref))/\Paired (TAt H) us rows
theorem PAt.upd{c:C5}{H:Hp}{v D:Addr}{r:Rw}{ys:List V}{o:HO}(h:PAt c H v r)(hD:H D=some (.lst ys)):PAt c (upd H D o) v r:=by
 obtain⟨dx,h⟩:=h;exists dx,?_;rw[zg (fun e=>by rw[e,hD] at h;cases h)]
 exact h
inductive zcG(c:C5)(CF:Addr)(vs:List V)(H:Hp)(Q:VK)(E:XK):Prop|mk(la lb:Addr)(rows:List Rw)(bars:List Str):vs=[.ref la,.ref lb]->zje H la rows->H lb=some (.lst (bars.map V.str))->zdk rows bars->(∀(f:Addr) (H':Hp),zq H H'->vt c CF H H' f rows bars->xJ c CF H' f rows bars->Q (.ref f) H')->zcG c CF vs H Q E
theorem zkU:([Str.ofString "_law_one"]:List Str).Nodup:=by decide +kernel
theorem zgk:zu ["_law_row_here","_law_bars_here"] ["_law_row_here","_law_bars_here"] (zj zeJ):=fsc
theorem zfk{gF g1:Addr}{eF e1:FuncData}(F:Fun K "_law_form" "_law_form" zeJ f fd)(hlst:mg "list"=none)(mCF:mg "Form"=some (.ref CF))(MF:Mk K CF gF)(GF:zA P w K mg base CX0 3 gF eF ["self","parameters","bars"] (zjC c CF))(bF:z8 K eF ["self","parameters","bars"] [])(cP:zE P w K mg base 5 "parameter_of" g1 e1 ["told"] (zhG K c)):zA P w K mg base CX0 6 f fd ["_law_row_here","_law_bars_here"] (zcG c CF):=by
 refine F.ok zgk (fun cdv A outer s H vs Q E hr h=>?_);obtain⟨la,lb,rows,bars,rfl,⟨us,hla,hu⟩,hlb,V1,q⟩:=h;have hr4:yj 4 _:=hr.mono (by decide)
 have lu:us.length=rows.length:=hu.length;have l24:=V1.l24;have l60:=V1.l60;refine⟨_,zf (zy (zcR MF GF hr4 rfl mCF bF .nil yo (ac (wx [] ["_law_one"] [none] rfl ⟨rfl,rfl,rfl,rfl⟩ (z9 (pv 0)) (ye 0) rfl rfl rfl
   (fun pins fp s H C=>⟨zr (i:=0) zkU rfl (Or.inl rfl) (.inr rfl),yH,cF cP hr (ac (pv 0) zc)⟩)) (ac (cTy yq hlst PyProof.Rows.boot_list (ac (pv 1) zc)) zc)))),?_⟩
 exists _,rfl,la,rfl,⟨_,zh hla⟩,fun D hD=>?_;refine zg9 (K:=K) (bs:=rows) (PAt c) PAt.same PAt.upd (zh hla) (by rw[length_map,lu]) (by omega) hD (fun i x r H' Qf Qs hx hr' sH qf=>?_) fun ps H1 s1 e1 p1=>?_
 ·obtain⟨u,hu',rfl⟩:=xV hx
  obtain⟨r2,hr2',tr⟩:=xi hu hu';rw[hr'] at hr2';cases hr2';have rk:=V1.ok r (mem_of_getElem? hr');exact⟨fun _=>⟨_,rfl,u,r.k,.str r.z,r.b,rfl,rk.1,sH _ _ tr,.inl ⟨r.z,rfl,za5 rk.2⟩,rk.2,fun o dx H5 s5 ho=>qf o H5 s5 ⟨dx,ho⟩⟩,fun e=>Bool.noConfusion e⟩
 exists _,rfl,lb,_,rfl,.inl (zh (s1 _ _ hlb)),fun l2 hl2=>?_;have s2:=zd hl2 (.lst (bars.map V.str));have g2:upd H1 l2 (.lst (bars.map V.str)) l2=some (.lst (bars.map V.str)):=za;have e2:=s2 _ _ e1;have p2:=xh s2 p1;generalize upd H1 l2 (.lst (bars.map V.str))=H2 at s2 g2 e2 p2 |-;have s02:=s1.trans s2;intro x dx hx hdx hne;have smk:zq H2 (upd (upd H2 dx (.own x)) x (.ins CF dx [])):=yD hx hdx;have hx1:upd (upd H2 dx (.own x)) x (.ins CF dx []) x=some (.ins CF dx []):=za;generalize upd (upd H2 dx (.own x)) x (.ins CF dx [])=H5 at smk hx1 |-;exists x,D,dx,.ref l2,ps,rows,bars,rfl,hx1,smk _ _ e2,xh smk p2,.inr ⟨l2,rfl,smk _ _ g2⟩,V1,fun H6 sx F6 L6=>?_;exact⟨rfl,q x H6 (fun b' u e=>sx b' u (smk _ _ (s02 _ _ e)) (zi (s02 _ _ e) hx)) (F6.of (s02.trans smk)) ⟨let ⟨dx,fs,lr,lb,ld,ps,h1,h2,h3,h4,h5,h6,_,_⟩:=F6;⟨dx,fs,lr,lb,ld,ps,h1,h2,h3,h4,h5,h6⟩,by omega,by omega,V1.ok⟩⟩
theorem vt.kp{c:C5}{CF f:Addr}{H0 H H':Hp}{rows:List Rw}{bars:List Str}{W:Addr->Prop}{n:Nat}(h:vt c CF H0 H f rows bars)(k:Kp W n H H')(hN:∀b,H0 b=none->¬W b):xB c CF H' f rows bars:=
 let ⟨dx,fs,lr,lb,ld,ps,h1,h2,h3,h4,h5,h6,n1,n2⟩:=h
 ⟨dx,fs,lr,lb,ld,ps,(k _ _ h1).elim id (fun⟨_,_,_,e,_⟩=>by cases e),h2,k.keep h3 (hN _ n1),zm (fun _ _ z=>z.imp fun _ e=>(k _ _ e).elim id (fun⟨_,_,_,e',_⟩=>by cases e')) h4,k.keep h5 (hN _ n2),(k _ _ h6).elim id (fun⟨_,_,_,e,_⟩=>by cases e)⟩
inductive qX(K:Frag)(vs:List V)(H:Hp)(Q:VK)(E:XK):Prop|mk(a:Addr)(ns:List Int):vs=[.ref a]->SqL K H a (ns.map V.int)->ns.length<=63->(∀H',Q (.bl true) H')->qX K vs H Q E
theorem zke(a:List zY):duT [a]=zH a/\duP [a]=zD a:=⟨by unfold duT;simp,by unfold duP;simp⟩
theorem zhq(a b:List zY):duT [a,b]=zH a++zH b/\duP [a,b]=zD a++zD b:=⟨by unfold duT;simp,by unfold duP;simp⟩
theorem zkd(a b d:List zY):duT [a,b,d]=zH a++zH b++zH d/\duP [a,b,d]=zD a++zD b++zD d:=⟨by unfold duT;simp,by unfold duP;simp⟩
def vU(K:Frag)(D:Addr)(H:Hp)(a:Addr)(ct:List zY):Prop:=∃xs,H a=some (.lst xs)/\a≠D/\Paired (zz K (fun b=>b≠D) H 3) xs (ct.map zV)/\ct.length<=6/\(zH ct).length<=18/\(zD ct).length<=18
theorem vU.same{K:Frag}{D a:Addr}{H H':Hp}{ct:List zY}(h:vU K D H a ct)(s:zq H H'):vU K D H' a ct:=let ⟨xs,a1,a2,a3,a4⟩:=h;⟨xs,s _ _ a1,a2,yl s a3,a4⟩
theorem vU.upd{K:Frag}{D a:Addr}{H:Hp}{ys:List V}{o:HO}{ct:List zY}(h:vU K D H a ct)(hD:H D=some (.lst ys)):vU K D (L2.upd H D o) a ct:=let ⟨xs,a1,a2,a3,a4⟩:=h;⟨xs,by rw[zg a2];exact a1,a2,zm (fun _ _ z=>yS hD (fun b o=>⟨o,o⟩) z) a3,a4⟩
theorem vU.s{K:Frag}{D a:Addr}{H:Hp}{ct:List zY}(h:vU K D H a ct):w6 K H a ct:=let ⟨xs,a1,a2,a3,a4,a5,a6⟩:=h;⟨⟨⟨xs,zh a1,zm (fun _ _ z=>yU (fun _ _ _=>True.intro) z) a3⟩,by omega,by omega⟩,by omega,by omega,by omega⟩
theorem zj2:([Str.ofString "_law_k",Str.ofString "_law_pool_here",Str.ofString "_law_script"]:List Str).Nodup:=by decide +kernel
theorem w5:zu ["_law_script","_law_pool_here","_law_row_here","_law_bars_here","_law_first","_law_k","_law_some","_law_handed","_law_taker","_law_part","_law_other","_law_more"] ["_law_script"] (zj ziq):=fsc
theorem zds{p x a:Addr}{N:Addr->Prop}{rows:List Rw}{bars:List Str}{ts:List Int}{ps:List (Str×Int)}{ct:List zY}{H:Hp}{Q:VK}{E:XK}(hP:wZ K CP N H p x ts ps)(hF:xJ c CF H x rows bars)(hC:w6 K H a ct)(l1:ts.length<=100)(l2:ps.length<=100)(key:∀(v:V) (H':Hp),zq H H'->(v=.non\/∃p',v=.ref p'/\wZ K CP (fun _=>True) H' p' x (ts++zH ct) (ps++zD ct))->Q v H'):zek K c CF CP [.ref p,.ref a] H Q E:=
 ⟨p,x,a,N,rows,bars,ts,ps,ct,rfl,hP,hF,hC,l1,l2,fun H' s=>key _ H' s (.inl rfl),fun p' H' s z=>key _ H' s (.inr ⟨p',rfl,z⟩)⟩
theorem ziU{f1 f2 f3 f4 f5 f6 f7 f8 f9 g1 g2 g3 g4 gP:Addr}{e1 e2 e3 e4 e5 e6 e7 e8 e9 h1 h2 h3 h4 eP:FuncData}(F:Fun K "law" "law" ziq f fd)(U:zcq mg)(cN:zE P w K mg base 1 "_law_nth" f1 e1 ["_law_script","_law_k"] (qW K))(cPo:zE P w K mg base 3 "_law_pool" f2 e2 ["_law_cell"] zed)(cRo:zE P w K mg base 3 "_law_row_at" f3 e3 ["_law_script","_law_k","_law_pool_here","_law_ends"] (zeb K))(cBa:zE P w K mg base 1 "_law_bars" f4 e4 ["_law_row_here","_law_pool_here","_law_number"] zcH)(cIt:zE P w K mg base 3 "_law_items" f5 e5 ["_law_script","_law_k","_law_begin","_law_most","_law_pool_here"] (zcI K))(cTa:zE P w K mg base 2 "_law_tamed" f6 e6 ["_law_row_here","_law_bars_here","_law_items_here"] (zcC K))(cDe:zE P w K mg base 1 "_law_deep" f7 e7 ["_law_items_here"] (qZ K))(cFo:zE P w K mg base 6 "_law_form" f8 e8 ["_law_row_here","_law_bars_here"] (zcG c CF))(kP:qj P w K mg base (CXs P w) 7 "Part" CP gP eP ["self","form","call"] [] (zaP K c CF CP cl))(cGr:zE P w K mg base 1 "_law_grown" f9 e9 ["_law_items_here"] (jc K))(cLR:zE P w K mg base 10 "_law_long_right" g1 h1 ["_law_taker","_law_part"] (zjB K c CF CP))(cWR:zE P w K mg base 3 "_law_whole_right" g2 h2 ["_law_part","_law_items_here","_law_due_here"] (zjw K CP))(cDu:zE P w K mg base 2 "_law_due" g3 h3 ["_law_some"] (zhJ K))(cFu:zE P w K mg base 10 "_law_further" g4 h4 ["_law_part","_law_items_here"] (zek K c CF CP)):zA P w K mg base CX0 11 f fd ["_law_script"] (qX K):=by
 refine F.ok w5 (fun cdv A outer s H vs Q E hr h=>?_);obtain⟨sa,ns,rfl,hS,h63,q⟩:=h;have hr1:yj 1 _:=hr.mono (by decide)
 have hr2:yj 2 _:=hr.mono (by decide)
 have hr3:yj 3 _:=hr.mono (by decide)
 have hr6:yj 6 _:=hr.mono (by decide)
 have hr8:yj 8 _:=hr.mono (by decide)
 have hr10:yj 10 _:=hr.mono (by decide)
 refine zC (zx (i:=1) w5.nd rfl (Or.inr rfl) (cF cPo hr3 (ac (cF cN hr1 (ac (pv 0) (ac ze zc))) zc))) ?_;exists _,rfl,sa,ns,1,rfl,hS,h63,fun c0 H1 s1=>⟨c0,rfl,fun pa zs H2 s2 npa hpa pz=>?_⟩;have s12:=s1.trans s2;dsimp only[zM];refine zC (zx (i:=2) w5.nd rfl (Or.inl rfl) (cF cRo hr3 (ac (pv 0) (ac ze (ac (pv 1) (ac (cF cN hr1 (ac (pv 0) (ac ze zc))) zc)))))) ?_;exists _,rfl,_,rfl,_,rfl,sa,ns,0,rfl,s12.seq hS,h63,fun en H3 s3=>?_;exists sa,pa,ns,4,zs,en,rfl,(s12.trans s3).seq hS,h63,.inl rfl,s3 _ _ hpa,pz,fun la us rows H4 s4 nla hla hu V1 hnm _=>?_;have s14:=s12.trans (s3.trans s4);have hpa4:=(s3.trans s4) _ _ hpa;dsimp only[zM];refine zC (zx (i:=3) w5.nd rfl (Or.inl rfl) (cF cBa hr1 (ac (pv 2) (ac (pv 1) (ac (cF cN hr1 (ac (pv 0) (ac ze zc))) zc))))) ?_;exists _,rfl,_,rfl,_,rfl,sa,ns,2,rfl,s14.seq hS,h63,fun bn H5 s5=>?_;exists la,pa,bn,us,rows,zs,rfl,s5 _ _ hla,zZ s5 hu,V1,s5 _ _ hpa4,pz.nd,pz.le,fun lb bars H6 s6 nlb hlb bnd bz bk bl=>?_;have s56:=s5.trans s6;have s16:=s14.trans s56;have hla6:=s56 _ _ hla;have hu6:=zZ s56 hu;have hpa6:=s56 _ _ hpa4;have VV:zdk rows bars:=⟨V1.ok,V1.l24,by omega,V1.ord,fun z hz=>pz.nm z (bz z hz),List.nodup_append.mpr ⟨V1.nd,bnd,fun x hx y hy e=>bk y hy (e ▸ hx)⟩⟩
 dsimp only[zM];refine zC (zx (i:=4) w5.nd rfl (Or.inl rfl) (cF cTa hr2 (ac (pv 2) (ac (pv 3) (ac (cF cIt hr3 (ac (pv 0) (ac ze (ac ze (ac ze (ac (pv 1) zc)))))) zc))))) ?_;exists _,rfl,_,rfl,_,rfl,_,rfl,sa,pa,ns,7,24,zs,rfl,s16.seq hS,h63,hpa6,pz,fun li xs ct H7 s7 nli hli hx lc lt lp=>?_;exists la,lb,li,us,rows,bars,xs,ct,rfl,s7 _ _ hla6,zZ s7 hu6,V1,s7 _ _ hlb,hli,zm (fun _ _ z=>yU (fun _ _ _=>True.intro) z) hx,by omega,by omega,by omega,fun lf ks c0 H8 s8 nlf hlf hk _ _ _ k1 k2 k3 hnl=>?_
 have s78:=s7.trans s8;have s18:=s16.trans s78;have hla8:=s78 _ _ hla6;have hu8:=zZ s78 hu6;have hpa8:=s78 _ _ hpa6;have hlb8:=s78 _ _ hlb;have hCf:w6 K H8 lf c0:=⟨⟨⟨ks,zh hlf,hk⟩,by omega,by omega⟩,by omega,by omega,by omega⟩
 clear hli hx lc lt lp;dsimp only[zM];refine zC (vh (i:=6) ["_law_script","_law_pool_here"] ["_law_k","_law_pool_here","_law_script"] [none,some 1,some 0] w5.nd rfl (Or.inl rfl) rfl ⟨rfl,rfl,rfl,rfl⟩ (x6 rfl U.range (ac ze zc)) (ye 0) rfl rfl rfl
   (fun pins fp s H C=>⟨zr (i:=0) zj2 rfl (Or.inl rfl) (.inr rfl),yH,cF cIt hr3 (ac (pv 2) (ac (zp yB ze (pv 0)) (ac (zp yB ze (zp yG ze (pv 0))) (ac ze (ac (pv 1) zc)))))⟩)) ?_
 exists 3,rfl,by decide,by decide,fun D hD=>?_
 refine jQ (n:=3) (fun j ys H'=>∃(as:List Addr) (cts:List (List zY)),zq H8 H'/\H' D=some (.lst ys)/\ys=as.map V.ref/\Paired (vU K D H') as cts/\as.length=j) ⟨[],[],zd hD _,za,rfl,.nil,rfl⟩ ?_ ?_
 ·rintro j ys H' hj ⟨as,cts,sH,hDy,rfl,hc,lj⟩
  exists fun _=>?_,fun e=>Bool.noConfusion e;exists _,rfl,_,rfl,_,_,rfl,rfl,_,rfl,_,_,rfl,rfl,.inl ⟨by decide,by decide⟩,_,_,rfl,rfl,_,rfl,sa,pa,ns,8+(0+j),30+6 * (0+j),zs,?_,(s18.trans sH).seq hS,h63,sH _ _ hpa8,pz,fun r xs ct H2 s2 nr er hx lc lt lp=>?_
  ·rfl
  have nD:∀b:Addr,H' b=none->b≠D:=fun b e z=>by rw[z,hDy] at e;cases e
  have cd:vU K D H2 r ct:=⟨xs,er,nD _ nr,zm (fun _ _ z=>yU (fun b o _=>nD b o) z) hx,lc,lt,lp⟩;refine lcN.mk hj (by decide) (s2 _ _ hDy) (by rw[length_map];omega) ⟨as++[r],cts++[ct],fun b u e=>by rw[zg (zi e hD)];exact(sH.trans s2) _ _ e,za,by rw[map_append];rfl,Paired.snoc (zm (fun _ _ z=>(z.same s2).upd (s2 _ _ hDy)) hc) (cd.upd (s2 _ _ hDy)),by rw[length_append,lj];rfl⟩
 rintro ys H9 ⟨as,cts,s9,hD9,rfl,hc9,l3⟩;have hc9:Paired (w6 K H9) as cts:=zm (fun _ _ z=>z.s) hc9;obtain⟨a0,a1,a2,rfl⟩:∃a0 a1 a2,as=[a0,a1,a2]:=by
  match as,l3 with
  | [a,b,d],_=>exact⟨a,b,d,rfl⟩
 have s19:=s18.trans s9;have hCf9:=hCf.same s9;obtain⟨⟨⟨kf,hkf,hkfs⟩,_,_⟩,nf,_,_⟩:=id hCf9;dsimp only[zM];refine zC (zx (i:=7) w5.nd rfl (Or.inl rfl) (cF cDe hr1 (ac (pv 4) zc))) ?_;exists _,rfl,lf,c0,kf,rfl,hkf,hkfs,nf,fun lh hs H10 s10 nlh elh hhs=>?_;have hCh:yx K H10 lh c0:=⟨⟨hs,zh elh,zm (fun _ _ z=>yU (fun _ _ _=>True.intro) z) hhs⟩,by omega,by omega⟩
 have s8a:=s9.trans s10;dsimp only[zM];refine zC (zx (i:=8) w5.nd rfl (Or.inl rfl) (cF cFo hr6 (ac (pv 2) (ac (pv 3) zc)))) ?_;exists _,rfl,_,rfl,la,lb,rows,bars,rfl,⟨us,s8a _ _ hla8,zZ s8a hu8⟩,s8a _ _ hlb8,VV,fun fo H11 s11 hFN hF=>?_;dsimp only[zM];refine zC (zx (i:=9) w5.nd rfl (Or.inl rfl) (cMk kP .nil ziH hr8 (ac (pv 8) (ac (pv 7) zc)))) ?_;exists _,rfl,_,rfl,fun x dx hx hdx hne=>?_;have smk:zq H11 (upd (upd H11 dx (.own x)) x (.ins CP dx [])):=yD hx hdx;have hx1:upd (upd H11 dx (.own x)) x (.ins CP dx []) x=some (.ins CP dx []):=za;generalize upd (upd H11 dx (.own x)) x (.ins CP dx [])=H12 at smk hx1 |-;have s12':=s11.trans smk;exists x,fo,lh,dx,rows,bars,c0,rfl,hx1,hF.same smk,hCh.same s12',fun _ H13 sx pt=>⟨rfl,?_⟩,fun m hm=>?_;rotate_left
 ·rw[hnl] at hm
  cases hm
 have s13:zq H11 H13:=fun b' u e=>sx b' u (smk _ _ e) (zi e hx);have sA:=s11.trans s13;dsimp only[zM];refine zC (zI (cF cGr hr1 (ac (pv 7) zc))) ?_;exists _,rfl,lh,c0,hs,(fun b=>H9 b=none/\H10 b≠none),rfl,sA _ _ elh,⟨nlh,by rw[elh];exact fun e=>by cases e⟩,yl sA (uO hhs),nf,by omega,by omega,fun n H14 k14=>?_
 have s914:zq H9 H14:=zax (s10.trans sA) k14;have nW:∀b,H10 b=none->¬(H9 b=none/\H10 b≠none):=fun b e z=>z.2 e;have hF14:xJ c CF H14 fo rows bars:=⟨(hFN.same s13).kp k14 nW,hF.lr,hF.lb,hF.ok⟩;have pt14:=pt.kp k14 (fun b e=>nW b (s12'.free e)) (nW x (s11.free hx));have lc1:=hCf.t;have q:∀H',zq H14 H'->Q (.bl true) H':=fun H' _=>q H';refine zC (zT (wj (y7 (cF cLR hr10 (ac (pv 8) (ac (pv 9) zc))))) (zf (zy vi)) zG) ?_;exists _,rfl,_,rfl,fo,x,fo,_,rows,bars,_,_,rfl,hF14,pt14,by omega,by omega,fun H15 s15=>?_
 exists _,rfl,?_;refine xz ?_;have s915:=s914.trans s15;have hD:=s915 _ _ hD9;have hc:=zm (fun _ _ z=>w6.same z s915) hc9;have hCf:=hCf9.same s915;have pt:=pt14.same s15;have hF:=hF14.same s15;have q:∀H',zq H15 H'->Q (.bl true) H':=fun H' s=>q H' (s15.trans s);have hR:H15 x≠none:=fun e=>by obtain⟨_,_,_,_,e',_⟩:=pt;rw[e] at e';cases e'
 clear s15 s915 s914 hc9 hCf9 pt14 hF14 hD9 s8a s12' sA s13 smk s11 s10 s19 s9 s18 s78 s8 s7 s16 s56 s6 s5 s14 s4 s3 s12 s2 s1 hla8 hu8 hpa8 hlb8 hla6 hu6 hpa6 hpa4 hdx hx hne hhs elh hCh hkfs hkf;cases hc with
 | cons h0 hc=>
 cases hc with
 | cons h1 hc=>
 cases hc with
 | cons h2 hc=>
 cases hc;rename_i c1 c2 c3;have hget:∀i:Nat,i<3->∃(a:Addr) (ct:List zY),([a0,a1,a2].map V.ref)[i]?=some (.ref a)/\w6 K H15 a ct:=fun i hi=>match i,hi with
  | 0,_=>⟨_,_,rfl,h0⟩
  | 1,_=>⟨_,_,rfl,h1⟩
  | 2,_=>⟨_,_,rfl,h2⟩
 refine zC (yz PassesOwn.never rfl (x6 rfl U.range (ac ze zc)) (zr (i:=5) w5.nd rfl (Or.inl rfl)) wU) ?_;exists 3,rfl,by decide,by decide,?_
 rw[show(3:Int).toNat=3 from rfl];refine vI (n:=3) (fun i σ H'=>∃(v5 v10 v11:Option V),σ=[some (.ref sa),some (.ref pa),some (.ref la),some (.ref lb),some (.ref lf),v5,some (.ref D),some (.ref lh),some (.ref fo),some (.ref x),v10,v11]/\zq H15 H') ⟨_,_,_,rfl,zq.refl _⟩ ?_ ?_
 ·rintro i σ H1 hi ⟨v5,v10,v11,rfl,s1⟩
  rw[Int.zero_add];obtain⟨ai,ci,gi,hci⟩:=hget i hi;obtain⟨aj,cj,gj,hcj⟩:=hget ((i+1) % 3) (mod_lt _ (by decide))
  dsimp only[zM];refine zC (zT (wj (y7 (cF cWR hr3 (ac (pv 9) (ac (zL yw (pv 6) (pv 5) (fun _ _=>rfl)) (ac (cF cDu hr2 (ac (zS (ac (pv 4) (ac (zL yw (pv 6) (pv 5) (fun _ _=>rfl)) zc))) zc)) zc)))))) (zf (zy vi)) zG) ?_;exists _,rfl,_,rfl,_,rfl,D,_,i,_,rfl,rfl,zh (s1 _ _ hD),xX gi,_,rfl,_,rfl,_,rfl,D,_,i,_,rfl,rfl,zh (s1 _ _ hD),xX gi,yC,fun w1 hw1=>?_;have s2:=zd hw1 (.lst [.ref lf,.ref ai]);have e2:upd H1 w1 (.lst [.ref lf,.ref ai]) w1=some (.lst [.ref lf,.ref ai]):=za;have s02:=s1.trans s2;generalize upd H1 w1 (.lst [.ref lf,.ref ai])=H2 at s2 e2 s02 |-;exists w1,[lf,ai],[c0,ci],rfl,e2,.cons (hCf.same s02) (.cons (hci.same s02) .nil),(by show 2<=4;decide),fun r xs H3 s3 nr er hxs=>?_
  have s03:=s02.trans s3;rw[(zhq _ _).1,(zhq _ _).2] at hxs;exists x,fo,ai,r,_,_,_,ci,xs,rfl,pt.same s03,hci.same s03,er,hxs,by omega,by omega,fun H4 s4=>?_
  have s04:=s03.trans s4;exists _,rfl,?_;refine xz ?_;clear s2 s02 s3 s03 s4 e2 hw1 er hxs nr;refine zC (zT (wj (y7 (cF cWR hr3 (ac (pv 9) (ac (zS zc) (ac (cF cDu hr2 (ac (zS (ac (pv 4) zc)) zc)) zc)))))) (zf (zy vi)) zG) ?_;exists _,rfl,wb,fun w0 hw0=>?_;have s5:=zd hw0 (.lst []);have e5:upd H4 w0 (.lst []) w0=some (.lst []):=za;have s05:=s04.trans s5;generalize upd H4 w0 (.lst [])=H5 at s5 e5 s05 |-;exists _,rfl,zaS,fun w1 hw1=>?_;have s6:=zd hw1 (.lst [.ref lf]);have e6:upd H5 w1 (.lst [.ref lf]) w1=some (.lst [.ref lf]):=za;have s06:=s05.trans s6;have e5:=s6 _ _ e5;generalize upd H5 w1 (.lst [.ref lf])=H6 at s6 e5 e6 s06 |-;exists w1,[lf],[c0],rfl,e6,.cons (hCf.same s06) .nil,(by show 1<=4;decide),fun r xs H7 s7 nr er hxs=>?_
  have s07:=s06.trans s7;rw[(zke _).1,(zke _).2] at hxs;exists x,fo,w0,r,_,_,_,[],xs,rfl,pt.same s07,⟨⟨⟨[],zh (s7 _ _ e5),.nil⟩,by decide,by decide⟩,by decide,by decide,by decide⟩,er,(by show Paired _ _ ((plain (zH c0++[]) (zD c0++[])).map zV);rw[append_nil,append_nil];exact hxs),by omega,by omega,fun H8 s8=>?_
  have s08:=s07.trans s8;exists _,rfl,?_;refine xz ?_;clear s5 s05 s6 s06 s7 s07 s8 s04 e5 e6 hw0 hw1 er hxs nr;refine zC (zx (i:=10) w5.nd rfl (Or.inl rfl) (cF cFu hr10 (ac (pv 9) (ac (zL yw (pv 6) (pv 5) (fun _ _=>rfl)) zc)))) ?_;exists _,rfl,_,rfl,_,rfl,D,_,i,_,rfl,rfl,zh (s08 _ _ hD),xX gi,?_;dsimp only[zdq,append_nil];refine zds (pt.same s08) (hF.same s08) (hci.same s08) (by omega) (by omega) fun v H9 s9 hv=>?_
  have s09:=s08.trans s9;dsimp only[zM];refine zC (zx (i:=11) w5.nd rfl (Or.inl rfl) (zL yw (pv 6) (zp zW (zp yB (pv 5) ze) ze) (fun _ _=>rfl))) ?_;exists _,rfl,_,rfl,_,_,rfl,rfl,_,_,rfl,rfl,(by show(0:Int)<3;decide),?_
  rw[show((i:Int)+1) % 3=(((i+1) % 3:Nat):Int) by omega]
  exists D,_,_,_,rfl,rfl,zh (s09 _ _ hD),xX gj,?_;dsimp only[zM];exists _,zf (zT (wq (wC (zv zgH (pv 10) zb3 (zJ _)) (xK (wj (y7 (cF cWR hr3 (ac (pv 10) (ac (pv 11) (ac (cF cDu hr2 (ac (zS (ac (pv 4) (ac (zL yw (pv 6) (pv 5) (fun _ _=>rfl)) (ac (pv 11) zc)))) zc)) zc))))))))) (zf (zy vi)) zG),?_;rcases hv with rfl|⟨p',rfl,hp'⟩
  ·exact⟨_,rfl,rfl,_,rfl,⟨_,_,_,rfl,s09⟩⟩
  exists _,rfl,rfl,_,rfl,?_;exists _,rfl,_,rfl,_,rfl,_,rfl,_,rfl,D,_,i,_,rfl,rfl,zh (s09 _ _ hD),xX gi,_,rfl,vX,fun w1 hw1=>?_;have s2:=zd hw1 (.lst [.ref lf,.ref ai,.ref aj]);have e2:upd H9 w1 (.lst [.ref lf,.ref ai,.ref aj]) w1=some (.lst [.ref lf,.ref ai,.ref aj]):=za;have s02:=s09.trans s2;have hp':=hp'.same s2;generalize upd H9 w1 (.lst [.ref lf,.ref ai,.ref aj])=H10 at s2 e2 s02 hp' |-;exists w1,[lf,ai,aj],[c0,ci,cj],rfl,e2,.cons (hCf.same s02) (.cons (hci.same s02) (.cons (hcj.same s02) .nil)),(by show 3<=4;decide),fun r xs H11 s3 nr er hxs=>?_
  have s03:=s02.trans s3;rw[(zkd _ _ _).1,(zkd _ _ _).2] at hxs;have li:=hci.t;have lj:=hci.p;exists p',fo,aj,r,_,_,_,cj,xs,rfl,hp'.same s3,hcj.same s03,er,hxs,by rw[length_append];omega,by rw[length_append];omega,fun H12 s4=>?_
  exact⟨_,rfl,⟨_,_,_,rfl,s03.trans s4⟩⟩
 ·rintro σ H1 ⟨v5,v10,v11,rfl,s1⟩
  exists _,zf (zy (cF cWR hr3 (ac (pv 9) (ac (zL yw (pv 6) ze (fun _ _=>rfl)) (ac (cF cDu hr2 (ac (zS (ac (pv 4) (ac (zL yw (pv 6) ze (fun _ _=>rfl)) zc))) zc)) zc))))),?_;exists _,rfl,_,rfl,D,_,0,_,rfl,rfl,zh (s1 _ _ hD),rfl,_,rfl,_,rfl,D,_,0,_,rfl,rfl,zh (s1 _ _ hD),rfl,yC,fun w1 hw1=>?_;have s2:=zd hw1 (.lst [.ref lf,.ref a0]);have e2:upd H1 w1 (.lst [.ref lf,.ref a0]) w1=some (.lst [.ref lf,.ref a0]):=za;have s02:=s1.trans s2;generalize upd H1 w1 (.lst [.ref lf,.ref a0])=H2 at s2 e2 s02 |-;exists w1,[lf,a0],[c0,c1],rfl,e2,.cons (hCf.same s02) (.cons (h0.same s02) .nil),(by show 2<=4;decide),fun r xs H3 s3 nr er hxs=>?_
  have s03:=s02.trans s3;rw[(zhq _ _).1,(zhq _ _).2] at hxs;exact⟨x,fo,a0,r,_,_,_,c1,xs,rfl,pt.same s03,h0.same s03,er,hxs,by omega,by omega,fun H4 s4=>q _ (s03.trans s4)⟩
end
end K62
namespace L2
open PySem PySem.Spec PyProof.Rows
section
variable {P:Program}{w:World}{K:Frag}{mg:Str->Option Value}{base h:Heap}{x q p p2 p3 p4 p5:Str}{st:Stmt}{f C T:Addr}{fd:FuncData}{sp:Sp}{k n:Nat}
structure TB(P:Program)(w:World)(K:Frag)(mg:Str->Option Value)(base:Heap):Prop where
 mgo:∀{x:Str}{v:Value},nsIn K mainGlobals x=some (some v)->mg x=some v
structure GD(K:Frag)(x:Str)(st:Stmt)(f:Addr)(fd:FuncData):Prop where
 a:nsIn K mainGlobals x=some (some (.ref f))
 F:Fun K x x st f fd
structure MD(K:Frag)(C:Addr)(x q:Str)(st:Stmt)(f:Addr)(fd:FuncData):Prop where
 m:xw K C x f
 F:Fun K x q st f fd
structure DD(K:Frag)(C:Addr)(x q:Str)(st:Stmt)(f:Addr)(fd:FuncData)(ds:List Value):Prop where
 m:xw K C x f
 F:qi K x q st f fd ds
structure CD(K:Frag)(x:Str)(C:Addr):Prop where
 a:nsIn K mainGlobals x=some (some (.ref C))
 c:Cls K C
 ms:makesIn K C=true
 kc:keepIn K (.ref C)=true
theorem zlf{oc:Value}{od an:Option Addr}{osl:Array (Option Value)}{kV doc pm cdv ct:Value}(a:nsIn K mainGlobals x=some (some (.ref f)))(l:K.lookup f=some ⟨oc,od,.func (fnOf x x (yg st) (yc st) (zj st) .none kV doc pm an cdv ct),osl⟩)
  (c:codeIn K cdv x=true) (k:keepIn K (.ref f)=true):GD K x st f (fnOf x x (yg st) (yc st) (zj st) .none kV doc pm an cdv ct):=⟨a,zfM l c k⟩
theorem zle{oc:Value}{od an:Option Addr}{osl:Array (Option Value)}{kV doc pm cdv ct:Value}(a:findIn K (.ref C) x=some (some (.ref f)))(i:isFn K (.ref f)=true)(l:K.lookup f=some ⟨oc,od,.func (fnOf x q (yg st) (yc st) (zj st) .none kV doc pm an cdv ct),osl⟩)
  (c:codeIn K cdv q=true) (k:keepIn K (.ref f)=true):MD K C x q st f (fnOf x q (yg st) (yc st) (zj st) .none kV doc pm an cdv ct):=⟨⟨a,i,k⟩,zfM l c k⟩
theorem zlg{oc oT:Value}{od an dT:Option Addr}{osl sT:Array (Option Value)}{kV doc pm cdv ct d:Value}(a:findIn K (.ref C) x=some (some (.ref f)))(i:isFn K (.ref f)=true)(l:K.lookup f=some ⟨oc,od,.func (fnOf x q (yg st) (yc st) (zj st) (.ref T) kV doc pm an cdv ct),osl⟩)
  (c:codeIn K cdv q=true) (k:keepIn K (.ref f)=true) (t:K.lookup T=some ⟨oT,dT,.seq #[d] n,sT⟩):DD K C x q st f (fnOf x q (yg st) (yc st) (zj st) (.ref T) kV doc pm an cdv ct) [d]:=⟨⟨a,i,k⟩,zhk (items:=[d]) l c k t rfl⟩
theorem zlh(a:nsIn K mainGlobals x=some (some (.ref C)))(pg:plainGet K C Str.empty=true)(hd:hasDictIn K C=true)(po:plainOver K C=true)(sa:findIn K (.ref C) "__setattr__"=some (some (.builtin "object.__setattr__")))(mk:makesIn K C=true)(kc:keepIn K (.ref C)=true):CD K x C:=⟨a,⟨pg,hd,po,sa⟩,mk,kc⟩
theorem Fun.b1(F:Fun K x q st f fd)(h:∀(kV doc pm:Value) (an:Option Addr) (cdv ct u:Value),bindArgs (fnOf x q (yg st) (yc st) (zj st) .none kV doc pm an cdv ct) ⟨[u],[]⟩=pure [(p,u)]:=by intros;rfl):z8 K fd [p] []:=
 F.binds fun _ _ _ _ _ _ us hl=>match us,hl with|[_],_=>h _ _ _ _ _ _ _
theorem Fun.b2(F:Fun K x q st f fd)(h:∀(kV doc pm:Value) (an:Option Addr) (cdv ct u u2:Value),bindArgs (fnOf x q (yg st) (yc st) (zj st) .none kV doc pm an cdv ct) ⟨[u,u2],[]⟩=pure [(p,u),(p2,u2)]:=by intros;rfl):z8 K fd [p,p2] []:=
 F.binds fun _ _ _ _ _ _ us hl=>match us,hl with|[_,_],_=>h _ _ _ _ _ _ _ _
theorem Fun.b3(F:Fun K x q st f fd)(h:∀(kV doc pm:Value) (an:Option Addr) (cdv ct u u2 u3:Value),bindArgs (fnOf x q (yg st) (yc st) (zj st) .none kV doc pm an cdv ct) ⟨[u,u2,u3],[]⟩=pure [(p,u),(p2,u2),(p3,u3)]:=by intros;rfl):z8 K fd [p,p2,p3] []:=
 F.binds fun _ _ _ _ _ _ us hl=>match us,hl with|[_,_,_],_=>h _ _ _ _ _ _ _ _ _
theorem Fun.b4(F:Fun K x q st f fd)(h:∀(kV doc pm:Value) (an:Option Addr) (cdv ct u u2 u3 u4:Value),bindArgs (fnOf x q (yg st) (yc st) (zj st) .none kV doc pm an cdv ct) ⟨[u,u2,u3,u4],[]⟩=pure [(p,u),(p2,u2),(p3,u3),(p4,u4)]:=by intros;rfl):z8 K fd [p,p2,p3,p4] []:=
 F.binds fun _ _ _ _ _ _ us hl=>match us,hl with|[_,_,_,_],_=>h _ _ _ _ _ _ _ _ _ _
theorem Fun.b5(F:Fun K x q st f fd)(h:∀(kV doc pm:Value) (an:Option Addr) (cdv ct u u2 u3 u4 u5:Value),bindArgs (fnOf x q (yg st) (yc st) (zj st) .none kV doc pm an cdv ct) ⟨[u,u2,u3,u4,u5],[]⟩=pure [(p,u),(p2,u2),(p3,u3),(p4,u4),(p5,u5)]:=by intros;rfl):z8 K fd [p,p2,p3,p4,p5] []:=
 F.binds fun _ _ _ _ _ _ us hl=>match us,hl with|[_,_,_,_,_],_=>h _ _ _ _ _ _ _ _ _ _ _
theorem GD.c1(g:GD K x st f fd)(B:TB P w K mg base)(ok:zA P w K mg base CX0 k f fd [p] sp)(h:∀(kV doc pm:Value) (an:Option Addr) (cdv ct u:Value),bindArgs (fnOf x x (yg st) (yc st) (zj st) .none kV doc pm an cdv ct) ⟨[u],[]⟩=pure [(p,u)]:=by intros;rfl):zE P w K mg base k x f fd [p] sp:=⟨ok,B.mgo g.a,g.F.kp,g.F.b1 h⟩
theorem GD.c2(g:GD K x st f fd)(B:TB P w K mg base)(ok:zA P w K mg base CX0 k f fd [p,p2] sp)(h:∀(kV doc pm:Value) (an:Option Addr) (cdv ct u u2:Value),bindArgs (fnOf x x (yg st) (yc st) (zj st) .none kV doc pm an cdv ct) ⟨[u,u2],[]⟩=pure [(p,u),(p2,u2)]:=by intros;rfl):zE P w K mg base k x f fd [p,p2] sp:=⟨ok,B.mgo g.a,g.F.kp,g.F.b2 h⟩
theorem GD.c3(g:GD K x st f fd)(B:TB P w K mg base)(ok:zA P w K mg base CX0 k f fd [p,p2,p3] sp)(h:∀(kV doc pm:Value) (an:Option Addr) (cdv ct u u2 u3:Value),bindArgs (fnOf x x (yg st) (yc st) (zj st) .none kV doc pm an cdv ct) ⟨[u,u2,u3],[]⟩=pure [(p,u),(p2,u2),(p3,u3)]:=by intros;rfl):zE P w K mg base k x f fd [p,p2,p3] sp:=⟨ok,B.mgo g.a,g.F.kp,g.F.b3 h⟩
theorem GD.c4(g:GD K x st f fd)(B:TB P w K mg base)(ok:zA P w K mg base CX0 k f fd [p,p2,p3,p4] sp)(h:∀(kV doc pm:Value) (an:Option Addr) (cdv ct u u2 u3 u4:Value),bindArgs (fnOf x x (yg st) (yc st) (zj st) .none kV doc pm an cdv ct) ⟨[u,u2,u3,u4],[]⟩=pure [(p,u),(p2,u2),(p3,u3),(p4,u4)]:=by intros;rfl):zE P w K mg base k x f fd [p,p2,p3,p4] sp:=⟨ok,B.mgo g.a,g.F.kp,g.F.b4 h⟩
theorem GD.c5(g:GD K x st f fd)(B:TB P w K mg base)(ok:zA P w K mg base CX0 k f fd [p,p2,p3,p4,p5] sp)(h:∀(kV doc pm:Value) (an:Option Addr) (cdv ct u u2 u3 u4 u5:Value),bindArgs (fnOf x x (yg st) (yc st) (zj st) .none kV doc pm an cdv ct) ⟨[u,u2,u3,u4,u5],[]⟩=pure [(p,u),(p2,u2),(p3,u3),(p4,u4),(p5,u5)]:=by intros;rfl):zE P w K mg base k x f fd [p,p2,p3,p4,p5] sp:=⟨ok,B.mgo g.a,g.F.kp,g.F.b5 h⟩
theorem GD.law(g:GD K x st f fd)(h:∀(kV doc pm:Value) (an:Option Addr) (cdv ct u:Value),bindArgs (fnOf x x (yg st) (yc st) (zj st) .none kV doc pm an cdv ct) ⟨[u],[]⟩=pure [(p,u)]:=by intros;rfl):∀(s:Shared) (v:Value),BindsTo s fd ⟨[v],[]⟩ [(p,v)]:=by
 obtain⟨oc,od,kV,doc,pm,an,cdv,ct,osl,rfl,lk,hcd⟩:=g.F.ex;exact fun s v=>.of_eq (h kV doc pm an cdv ct v)
theorem DD.b0{d:Value}(D:DD K C x q st f fd [d])(h:∀(T:Addr) (kV doc pm:Value) (an:Option Addr) (cdv ct u u2 u3:Value),∃k:Option (Array Value)->Sem (List (Str×Value)),bindArgs (fnOf x q (yg st) (yc st) (zj st) (.ref T) kV doc pm an cdv ct) ⟨[u,u2,u3],[]⟩=seqItems? (.ref T) >>= k/\k (some [d].toArray)=pure [(p,u),(p2,u2),(p3,u3)]:=by exact fun _ _ _ _ _ _ _ _ _ _=>⟨_,rfl,rfl⟩):z8 K fd [p,p2,p3] []:=
 fun _ us KX hl=>match us,hl with|[_,_,_],_=>D.F.bindsTo (fun _ _ _ _ _ _ _=>h _ _ _ _ _ _ _ _ _ _) KX
end
end L2
def PySem.W.Fast.tw17598934885498790326:Unit:=()
def PySem.W.Fast.tw10832303012408265448:Unit:=()
def PySem.W.Fast.tw6869460430420492394:Unit:=()
def PySem.W.Fast.tw8916324771834483016:Unit:=()
def PySem.W.Fast.tw14786676028700467212:Unit:=()
def PySem.W.Fast.tw4367128988643964741:Unit:=()
def PySem.W.Fast.tw3492816656422504742:Unit:=()
def PySem.W.Fast.tw17738240944926821482:Unit:=()
def PySem.W.Fast.tw12514693046128223421:Unit:=()
def PySem.W.Fast.tw12940515175328343980:Unit:=()
def PySem.W.Fast.tw15221349529256754716:Unit:=()
def PySem.W.Fast.tw3843085141180295426:Unit:=()
def PySem.W.Fast.tw10249859979802649983:Unit:=()
def PySem.W.Fast.tw16619164991881739213:Unit:=()
def PySem.W.Fast.tw10275494104758205199:Unit:=()
def PySem.W.Fast.tw10330006357358609362:Unit:=()
def PySem.W.Fast.tw10228733387829778880:Unit:=()
def PySem.W.Fast.tw7156325831326602798:Unit:=()
def PySem.W.Fast.tw3330334169211698631:Unit:=()
def PySem.W.Fast.tw10004762350311226745:Unit:=()
def PySem.W.Fast.tw788984866240484953:Unit:=()
def PySem.W.Fast.tw17532971722170560053:Unit:=()
def PySem.W.Fast.tw16686396874010565118:Unit:=()
def PySem.W.Fast.tw2677771901037545332:Unit:=()
def PySem.W.Fast.tw6466808923611735592:Unit:=()
def PySem.W.Fast.tw8161363571922914380:Unit:=()
def PySem.W.Fast.tw2857252598864288977:Unit:=()
def PySem.W.Fast.tw7147805579426137919:Unit:=()
def PySem.W.Fast.tw11854240483887898351:Unit:=()
def PySem.W.Fast.tw4594763320883573706:Unit:=()
def PySem.W.Fast.tw4076478128625426648:Unit:=()
def PySem.W.Fast.tw17749835828456098583:Unit:=()
def PySem.W.Fast.tw14229363462110385359:Unit:=()
def PySem.W.Fast.tw10599144140300380738:Unit:=()
def PySem.W.Fast.tw16662283195314751728:Unit:=()
def PySem.W.Fast.tw2011382710093428218:Unit:=()
def PySem.W.Fast.tw14302343318552841102:Unit:=()
def PySem.W.Fast.tw16010043610648340638:Unit:=()
def PySem.W.Fast.tw1910088029638417201:Unit:=()
def PySem.W.Fast.tw14852317951644126571:Unit:=()
def PySem.W.Fast.tw7917654272976420298:Unit:=()
def PySem.W.Fast.tw13299951457330486337:Unit:=()
def PySem.W.Fast.tw6398719377376022437:Unit:=()
def PySem.W.Fast.tw4089847002040245581:Unit:=()
def PySem.W.Fast.tw5539823060783073801:Unit:=()
def PySem.W.Fast.tw8506885536684587121:Unit:=()
def PySem.W.Fast.tw11388019022343655036:Unit:=()
def PySem.W.Fast.tw4666229244739273641:Unit:=()
def PySem.W.Fast.tw17262619187518849358:Unit:=()
def PySem.W.Fast.tw9599677201965679861:Unit:=()
def PySem.W.Fast.tw17460886882403866105:Unit:=()
def PySem.W.Fast.tw3093835232438820111:Unit:=()
def PySem.W.Fast.tw15583690530367579632:Unit:=()
def PySem.W.Fast.tw2747418859196873739:Unit:=()
def PySem.W.Fast.tw14893842866251493864:Unit:=()
def PySem.W.Fast.tw425949315807531938:Unit:=()
def PySem.W.Fast.tw8185897811703559084:Unit:=()
def PySem.W.Fast.tw10992759619754580920:Unit:=()
def PySem.W.Fast.tw9034569669340075555:Unit:=()
def PySem.W.Fast.tw13894177176228402386:Unit:=()
def PySem.W.Fast.tw14119485616740219370:Unit:=()
def PySem.W.Fast.tw1797620438743540591:Unit:=()
def PySem.W.Fast.tw14002751857190519019:Unit:=()
def PySem.W.Fast.tw14300094248487788984:Unit:=()
def PySem.W.Fast.tw10124041255939754301:Unit:=()
def PySem.W.Fast.tw53308572973299733:Unit:=()
def PySem.W.Fast.tw17240536449428395329:Unit:=()
def PySem.W.Fast.tw13410661781480352947:Unit:=()
def PySem.W.Fast.tw3654951086701503107:Unit:=()
def PySem.W.Fast.tw4273878069364815211:Unit:=()
def PySem.W.Fast.tw9051713432818131911:Unit:=()
def PySem.W.Fast.tw9284785209255194336:Unit:=()
def PySem.W.Fast.tw17118601948367143279:Unit:=()
def PySem.W.Fast.tw15453657013121765183:Unit:=()
def PySem.W.Fast.tw10641977506140205178:Unit:=()
namespace K62
open PySem L2 PyProof.Rows
theorem zhc{w:World}{K:Frag}{Gr:Addr}{es:Array DictEntry}{n:Nat}{t0 t1 t2 t3 t4:Tok}(hl:K.lookup Gr=some ⟨.type "dict",none,.dict es n,#[]⟩)(hk:KeysLit w.params es.toList)(h0:nsIn K Gr "seat"=some (some (.int 0 t0)))(h1:nsIn K Gr "both"=some (some (.int 0 t1)))(h2:nsIn K Gr "tail"=some (some (.int 1 t2)))
  (h3:nsIn K Gr "tag"=some (some (.int 2 t3))) (h4:nsIn K Gr "bag"=some (some (.int 3 t4))):zjh w K Gr zhf:=by
 exists ⟨es,n,hl,hk⟩,fun x v h=>?_;unfold zhf at h;by_cases e0:x="seat"
 ·subst e0;rw[lookup_cons_self] at h;cases h;exact⟨_,h0,_,rfl⟩
 rw[lookup_cons,beq_eq_false_iff_ne.mpr e0] at h;by_cases e1:x="both"
 ·subst e1;rw[lookup_cons_self] at h;cases h;exact⟨_,h1,_,rfl⟩
 rw[lookup_cons,beq_eq_false_iff_ne.mpr e1] at h;by_cases e2:x="tail"
 ·subst e2;rw[lookup_cons_self] at h;cases h;exact⟨_,h2,_,rfl⟩
 rw[lookup_cons,beq_eq_false_iff_ne.mpr e2] at h;by_cases e3:x="tag"
 ·subst e3;rw[lookup_cons_self] at h;cases h;exact⟨_,h3,_,rfl⟩
 rw[lookup_cons,beq_eq_false_iff_ne.mpr e3] at h;by_cases e4:x="bag"
 ·subst e4;rw[lookup_cons_self] at h;cases h;exact⟨_,h4,_,rfl⟩
 rw[lookup_cons,beq_eq_false_iff_ne.mpr e4] at h;cases h
theorem zk4{l:PySem.W.OpenLaw}{w:World}{K:Frag}{h:Heap}{mg:Str->Option Value}{fa D C0 C1 C2 C3 C4 FM f1 f2 f3 f4 f5 f6 f7 f8 f9 f10 f11 f12 f13 f14 f15 f16 f17 f18 f19 f20 f21 f22 f23 f24 f25 f26 f27 f28 PT f29 f30 f31 f32 f33 f34 f35 f36 f37 f38 f39 f40 f41 f42 f43 f44 f45 f46 f47 f48 f49 f50 f51 f52 f53 f54 f55 f56 f57 f58 f59 f60 f61 f62 f63 f64 f65 f66 E9 E10 E11 E12 E13 E14 E15:Addr}{e1 e2 e3 e4 e5 e6 e7 e8 e9 e10 e11 e12 e13 e14 e15 e16 e17 e18 e19 e20 e21 e22 e23 e24 e25 e26 e27 e28 e29 e30 e31 e32 e33 e34 e35 e36 e37 e38 e39 e40 e41 e42 e43 e44 e45 e46 e47 e48 e49 e50 e51 e52 e53 e54 e55 e56 e57 e58 e59 e60 e61 e62 e63 e64 e65 e66:FuncData}{tP tB tO sg Gr:Addr}{tL tN tMP tMB ktP0 ktP1 ktB0 ktB1 ktO0 ktO1 ktO2 ksg0 ksg1 kG0 kG1 kG2 kG3 kG4:Tok}{odtP odtB odtO odsg:Option Addr}{ntP ntB ntO nsg nG:Nat}{sltP sltB sltO slsg:Array (Option Value)}{esG:Array DictEntry}(X:K.In h)(G:h.Ns mainGlobals mg)(hfa:mg "law"=some (.ref fa))
  (cD:CD K "Parameter" D)
  (cC0:CD K "Seat" C0)
  (nC0:findIn K (.ref C0) "word"=some none/\findIn K (.ref C0) "name"=some none/\findIn K (.ref C0) "may_lack"=some none)
  (cC1:CD K "Both" C1)
  (nC1:findIn K (.ref C1) "word"=some none/\findIn K (.ref C1) "name"=some none/\findIn K (.ref C1) "may_lack"=some none)
  (cC2:CD K "Tail" C2)
  (nC2:findIn K (.ref C2) "word"=some none/\findIn K (.ref C2) "name"=some none/\findIn K (.ref C2) "may_lack"=some none)
  (cC3:CD K "Tag" C3)
  (nC3:findIn K (.ref C3) "word"=some none/\findIn K (.ref C3) "name"=some none/\findIn K (.ref C3) "may_lack"=some none)
  (cC4:CD K "Bag" C4)
  (nC4:findIn K (.ref C4) "word"=some none/\findIn K (.ref C4) "name"=some none/\findIn K (.ref C4) "may_lack"=some none)
  (cFM:CD K "Form" FM)
  (nFM:findIn K (.ref FM) "row"=some none/\findIn K (.ref FM) "bar_names"=some none/\findIn K (.ref FM) "place_count"=some none/\findIn K (.ref FM) "tail_number"=some none/\findIn K (.ref FM) "bag_number"=some none/\findIn K (.ref FM) "doors"=some none)
  (g1:GD K "is_name" sIs f1 e1)
  (g2:MD K D "__init__" "Parameter.__init__" zbO f2 e2)
  (g3:MD K D "free" "Parameter.free" zeI f3 e3)
  (g4:MD K D "by_place" "Parameter.by_place" jy f4 e4)
  (g5:MD K D "by_name" "Parameter.by_name" zao f5 e5)
  (g6:MD K D "takes_one" "Parameter.takes_one" zij f6 e6)
  (g7:MD K D "told" "Parameter.told" zjI f7 e7)
  (g8:DD K C0 "__init__" "Seat.__init__" zeA f8 e8 [Value.bool false])
  (g9:DD K C1 "__init__" "Both.__init__" zeN f9 e9 [Value.bool false])
  (g10:MD K C2 "__init__" "Tail.__init__" zey f10 e10)
  (g11:DD K C3 "__init__" "Tag.__init__" zik f11 e11 [Value.bool false])
  (g12:MD K C4 "__init__" "Bag.__init__" ziu f12 e12)
  (g13:DD K FM "__init__" "Form.__init__" zbW f13 e13 [Value.none])
  (g14:MD K FM "keep" "Form.keep" zeG f14 e14)
  (g15:MD K FM "parameters" "Form.parameters" zbV f15 e15)
  (g16:MD K FM "bars" "Form.bars" zbX f16 e16)
  (g17:MD K FM "places" "Form.places" jx f17 e17)
  (g18:MD K FM "tail" "Form.tail" zbU f18 e18)
  (g19:MD K FM "bag" "Form.bag" zeL f19 e19)
  (g20:MD K FM "number_of" "Form.number_of" zeK f20 e20)
  (g21:MD K FM "told" "Form.told" zis f21 e21)
  (g22:GD K "parameter_of" zim f22 e22)
  (g23:GD K "refuse_too_many" zbM f23 e23)
  (g24:GD K "refuse_bad_order" zaj f24 e24)
  (g25:GD K "refuse_bars_without_name" zbN f25 e25)
  (g26:GD K "refuse_twice" zai f26 e26)
  (g27:GD K "number_of_word" zeD f27 e27)
  (yM:nsIn K mainGlobals "Misfit"=some (some (.ref E15)))
  (g28:MD K E15 "__init__" "Misfit.__init__" zev f28 e28)
  (cPT:CD K "Part" PT)
  (nPT:findIn K (.ref PT) "kept_form"=some none/\findIn K (.ref PT) "things"=some none/\findIn K (.ref PT) "pairs"=some none)
  (g29:MD K PT "__init__" "Part.__init__" zal f29 e29)
  (g30:MD K PT "whole" "Part.whole" ju f30 e30)
  (g31:MD K PT "further" "Part.further" ua f31 e31)
  (g32:GD K "laid" zeE f32 e32)
  (g33:GD K "misfits" jv f33 e33)
  (g34:GD K "shape" zbL f34 e34)
  (g35:GD K "first_numbers" zam f35 e35)
  (g36:GD K "misfits_of" zio f36 e36)
  (g37:GD K "overs" zbP f37 e37)
  (g38:GD K "unwelcomes" zii f38 e38)
  (g39:GD K "lackings" zeF f39 e39)
  (g40:GD K "one_entry" zeC f40 e40)
  (g41:GD K "refuse" zah f41 e41)
  (g42:GD K "refuse_first_things" zak f42 e42)
  (g43:GD K "call_of" sOf f43 e43)
  (g44:GD K "_law_nth" zin f44 e44)
  (g45:GD K "_law_stirred" zez f45 e45)
  (g46:GD K "_law_strewn" zaf f46 e46)
  (g47:GD K "_law_digits" zan f47 e47)
  (g48:GD K "_law_word" zew f48 e48)
  (g49:GD K "_law_pool" zeB f49 e49)
  (g50:GD K "_law_row" zil f50 e50)
  (g51:GD K "_law_bars" zeO f51 e51)
  (g52:GD K "_law_form" zeJ f52 e52)
  (g53:GD K "_law_row_at" zag f53 e53)
  (g54:GD K "_law_item" zeH f54 e54)
  (g55:GD K "_law_items" zbS f55 e55)
  (g56:GD K "_law_laid" zbR f56 e56)
  (g57:GD K "_law_is_tame" zex f57 e57)
  (g58:GD K "_law_tamed" zbK f58 e58)
  (g59:GD K "_law_due" zit f59 e59)
  (g60:GD K "_law_whole_right" zae f60 e60)
  (g61:GD K "_law_deep" zeM f61 e61)
  (g62:GD K "_law_grown" zbT f62 e62)
  (g63:GD K "_law_further" jw f63 e63)
  (g64:GD K "_law_again" zbY f64 e64)
  (g65:GD K "_law_long_right" zbQ f65 e65)
  (g66:GD K "law" ziq f66 e66)
  (zisinstance:nsIn K mainGlobals "isinstance"=some none)
  (zstr:nsIn K mainGlobals "str"=some none)
  (zbool:nsIn K mainGlobals "bool"=some none)
  (zlen:nsIn K mainGlobals "len"=some none)
  (zall:nsIn K mainGlobals "all"=some none)
  (zrange:nsIn K mainGlobals "range"=some none)
  (zlist:nsIn K mainGlobals "list"=some none)
  (zenumerate:nsIn K mainGlobals "enumerate"=some none)
  (zset:nsIn K mainGlobals "set"=some none)
  (zint:nsIn K mainGlobals "int"=some none)
  (ztuple:nsIn K mainGlobals "tuple"=some none)
  (gL:nsIn K mainGlobals "LETTERS"=some (some (.str letters tL)))
  (gN:nsIn K mainGlobals "LONGEST"=some (some (.int 8 tN)))
  (gMP:nsIn K mainGlobals "MOST_PARAMETERS"=some (some (.int 24 tMP)))
  (gMB:nsIn K mainGlobals "MOST_BARS"=some (some (.int 60 tMB)))
  (ytP:nsIn K mainGlobals "BY_PLACE"=some (some (.ref tP)))
  (utP:K.lookup tP=some ⟨.type "tuple",odtP,.seq #[.str "seat" ktP0,.str "both" ktP1] ntP,sltP⟩)
  (ytB:nsIn K mainGlobals "BY_NAME"=some (some (.ref tB)))
  (utB:K.lookup tB=some ⟨.type "tuple",odtB,.seq #[.str "both" ktB0,.str "tag" ktB1] ntB,sltB⟩)
  (ytO:nsIn K mainGlobals "OF_ONE_THING"=some (some (.ref tO)))
  (utO:K.lookup tO=some ⟨.type "tuple",odtO,.seq #[.str "seat" ktO0,.str "both" ktO1,.str "tag" ktO2] ntO,sltO⟩)
  (ysg:nsIn K mainGlobals "SINGLE_GROUPS"=some (some (.ref sg)))
  (usg:K.lookup sg=some ⟨.type "tuple",odsg,.seq #[.int 1 ksg0,.int 3 ksg1] nsg,slsg⟩)
  (yGr:nsIn K mainGlobals "GROUPS"=some (some (.ref Gr)))
  (lGr:K.lookup Gr=some ⟨.type "dict",none,.dict esG nG,#[]⟩)
  (kGr:KeysLit w.params esG.toList)
  (eG0:nsIn K Gr "seat"=some (some (.int 0 kG0)))
  (eG1:nsIn K Gr "both"=some (some (.int 0 kG1)))
  (eG2:nsIn K Gr "tail"=some (some (.int 1 kG2)))
  (eG3:nsIn K Gr "tag"=some (some (.int 2 kG3)))
  (eG4:nsIn K Gr "bag"=some (some (.int 3 kG4)))
  (dga:j5 K D "__init__" f2)
  (h0:findIn K (.ref C0) "free"=some (some (.ref f3))/\findIn K (.ref C0) "by_place"=some (some (.ref f4))/\findIn K (.ref C0) "by_name"=some (some (.ref f5))/\findIn K (.ref C0) "takes_one"=some (some (.ref f6))/\findIn K (.ref C0) "told"=some (some (.ref f7)))
  (h1:findIn K (.ref C1) "free"=some (some (.ref f3))/\findIn K (.ref C1) "by_place"=some (some (.ref f4))/\findIn K (.ref C1) "by_name"=some (some (.ref f5))/\findIn K (.ref C1) "takes_one"=some (some (.ref f6))/\findIn K (.ref C1) "told"=some (some (.ref f7)))
  (h2:findIn K (.ref C2) "free"=some (some (.ref f3))/\findIn K (.ref C2) "by_place"=some (some (.ref f4))/\findIn K (.ref C2) "by_name"=some (some (.ref f5))/\findIn K (.ref C2) "takes_one"=some (some (.ref f6))/\findIn K (.ref C2) "told"=some (some (.ref f7)))
  (h3:findIn K (.ref C3) "free"=some (some (.ref f3))/\findIn K (.ref C3) "by_place"=some (some (.ref f4))/\findIn K (.ref C3) "by_name"=some (some (.ref f5))/\findIn K (.ref C3) "takes_one"=some (some (.ref f6))/\findIn K (.ref C3) "told"=some (some (.ref f7)))
  (h4:findIn K (.ref C4) "free"=some (some (.ref f3))/\findIn K (.ref C4) "by_place"=some (some (.ref f4))/\findIn K (.ref C4) "by_name"=some (some (.ref f5))/\findIn K (.ref C4) "takes_one"=some (some (.ref f6))/\findIn K (.ref C4) "told"=some (some (.ref f7)))
  (qcP:findIn K (.ref PT) "__class__"=some (some (.builtin "object.__class__"))/\mroIn K PT (.type "object")=some true)
  (qkP:kitOne K (.ref PT) (.ref PT)=some true)
  (xg:specialIn K (.builtin "object.__class__") "__get__"=some (some (.builtin "getset_descriptor.__get__"))/\PySem.W.takesIn K (.builtin "object.__class__")=some true)
  (yE9:nsIn K mainGlobals "Doubled"=some (some (.ref E9)))
  (yE10:nsIn K mainGlobals "Over"=some (some (.ref E10)))
  (yE11:nsIn K mainGlobals "Barred"=some (some (.ref E11)))
  (yE12:nsIn K mainGlobals "Again"=some (some (.ref E12)))
  (yE13:nsIn K mainGlobals "Strange"=some (some (.ref E13)))
  (yE14:nsIn K mainGlobals "Lacking"=some (some (.ref E14)))
  (ec9:(clsIn K E9).isSome=true/\L2.zf5 K E9=true/\L2.zjj K E9=true)
  (ec10:(clsIn K E10).isSome=true/\L2.zf5 K E10=true/\L2.zjj K E10=true)
  (ec11:(clsIn K E11).isSome=true/\L2.zf5 K E11=true/\L2.zjj K E11=true)
  (ec12:(clsIn K E12).isSome=true/\L2.zf5 K E12=true/\L2.zjj K E12=true)
  (ec13:(clsIn K E13).isSome=true/\L2.zf5 K E13=true/\L2.zjj K E13=true)
  (ec14:(clsIn K E14).isSome=true/\L2.zf5 K E14=true/\L2.zjj K E14=true)
  (ea9:findIn K (.ref E9) "__getattribute__"=some (some (.builtin "BaseException.__getattribute__"))/\findIn K (.ref E9) "__getattr__"=some none/\findIn K (.ref E9) "__class__"=some (some (.builtin "object.__class__"))/\mroIn K E9 (.type "BaseException")=some true/\mroIn K E9 (.type "object")=some true/\keepIn K (.ref E9)=true/\findIn K (.ref E9) "__init__"=some (some (.ref f28))/\specialIn K (.ref E9) "__call__"=some (some (.builtin "type.__call__"))/\instIn K (.ref E9) (.type "type")=some true/\findIn K (.ref E9) "__setattr__"=some (some (.builtin "object.__setattr__"))/\findIn K (.ref E9) "number"=some none)
  (ea10:findIn K (.ref E10) "__getattribute__"=some (some (.builtin "BaseException.__getattribute__"))/\findIn K (.ref E10) "__getattr__"=some none/\findIn K (.ref E10) "__class__"=some (some (.builtin "object.__class__"))/\mroIn K E10 (.type "BaseException")=some true/\mroIn K E10 (.type "object")=some true/\keepIn K (.ref E10)=true/\findIn K (.ref E10) "__init__"=some (some (.ref f28))/\specialIn K (.ref E10) "__call__"=some (some (.builtin "type.__call__"))/\instIn K (.ref E10) (.type "type")=some true/\findIn K (.ref E10) "__setattr__"=some (some (.builtin "object.__setattr__"))/\findIn K (.ref E10) "number"=some none)
  (ea11:findIn K (.ref E11) "__getattribute__"=some (some (.builtin "BaseException.__getattribute__"))/\findIn K (.ref E11) "__getattr__"=some none/\findIn K (.ref E11) "__class__"=some (some (.builtin "object.__class__"))/\mroIn K E11 (.type "BaseException")=some true/\mroIn K E11 (.type "object")=some true/\keepIn K (.ref E11)=true/\findIn K (.ref E11) "__init__"=some (some (.ref f28))/\specialIn K (.ref E11) "__call__"=some (some (.builtin "type.__call__"))/\instIn K (.ref E11) (.type "type")=some true/\findIn K (.ref E11) "__setattr__"=some (some (.builtin "object.__setattr__"))/\findIn K (.ref E11) "number"=some none)
  (ea12:findIn K (.ref E12) "__getattribute__"=some (some (.builtin "BaseException.__getattribute__"))/\findIn K (.ref E12) "__getattr__"=some none/\findIn K (.ref E12) "__class__"=some (some (.builtin "object.__class__"))/\mroIn K E12 (.type "BaseException")=some true/\mroIn K E12 (.type "object")=some true/\keepIn K (.ref E12)=true/\findIn K (.ref E12) "__init__"=some (some (.ref f28))/\specialIn K (.ref E12) "__call__"=some (some (.builtin "type.__call__"))/\instIn K (.ref E12) (.type "type")=some true/\findIn K (.ref E12) "__setattr__"=some (some (.builtin "object.__setattr__"))/\findIn K (.ref E12) "number"=some none)
  (ea13:findIn K (.ref E13) "__getattribute__"=some (some (.builtin "BaseException.__getattribute__"))/\findIn K (.ref E13) "__getattr__"=some none/\findIn K (.ref E13) "__class__"=some (some (.builtin "object.__class__"))/\mroIn K E13 (.type "BaseException")=some true/\mroIn K E13 (.type "object")=some true/\keepIn K (.ref E13)=true/\findIn K (.ref E13) "__init__"=some (some (.ref f28))/\specialIn K (.ref E13) "__call__"=some (some (.builtin "type.__call__"))/\instIn K (.ref E13) (.type "type")=some true/\findIn K (.ref E13) "__setattr__"=some (some (.builtin "object.__setattr__"))/\findIn K (.ref E13) "number"=some none)
  (ea14:findIn K (.ref E14) "__getattribute__"=some (some (.builtin "BaseException.__getattribute__"))/\findIn K (.ref E14) "__getattr__"=some none/\findIn K (.ref E14) "__class__"=some (some (.builtin "object.__class__"))/\mroIn K E14 (.type "BaseException")=some true/\mroIn K E14 (.type "object")=some true/\keepIn K (.ref E14)=true/\findIn K (.ref E14) "__init__"=some (some (.ref f28))/\specialIn K (.ref E14) "__call__"=some (some (.builtin "type.__call__"))/\instIn K (.ref E14) (.type "type")=some true/\findIn K (.ref E14) "__setattr__"=some (some (.builtin "object.__setattr__"))/\findIn K (.ref E14) "number"=some none)
  (em9:exmOne K (.ref E9) (.ref E15)=some true)
  (em10:exmOne K (.ref E10) (.ref E15)=some true)
  (em11:exmOne K (.ref E11) (.ref E15)=some true)
  (em12:exmOne K (.ref E12) (.ref E15)=some true)
  (em13:exmOne K (.ref E13) (.ref E15)=some true)
  (em14:exmOne K (.ref E14) (.ref E15)=some true)
  : ∃fd:FuncData,(∀(s:Shared) (v:Value),BindsTo s fd ⟨[v],[]⟩ [("_law_script",v)])/\∀base:Heap,K.In base->base.Ns mainGlobals mg->zA l.prog w K mg base CX0 11 fa fd ["_law_script"] (qX K):=by
 have e:=hfa.symm.trans (mg_of X G g66.a);cases e;have no:∀{x:Str},nsIn K mainGlobals x=some none->mg x=none:=fun z=>PySem.W.mg_none_of X G z;have T:zki K mg:=⟨no zisinstance,no zstr,no zbool,no zlen,no zall,no zrange,⟨tL,mg_of X G gL⟩,⟨tN,mg_of X G gN⟩,u7 K,zcf K,zbd K,zba K,zav K,zbc K,zce K,zaw K⟩;have Wd:Wds K mg tP tB tO:=⟨mg_of X G ytP,mg_of X G ytB,mg_of X G ytO,fun H=>.inr ⟨_,_,_,utP,rfl,rfl,yC,.cons ⟨_,rfl⟩ (.cons ⟨_,rfl⟩ (.nil))⟩,fun H=>.inr ⟨_,_,_,utB,rfl,rfl,yC,.cons ⟨_,rfl⟩ (.cons ⟨_,rfl⟩ (.nil))⟩,fun H=>.inr ⟨_,_,_,utO,rfl,rfl,vX,.cons ⟨_,rfl⟩ (.cons ⟨_,rfl⟩ (.cons ⟨_,rfl⟩ (.nil)))⟩⟩;have TF:zbt w K mg Gr sg:=⟨no zlen,no zenumerate,no zlist,no zset,⟨tMP,mg_of X G gMP⟩,⟨tMB,mg_of X G gMB⟩,mg_of X G yGr,zhc lGr kGr eG0 eG1 eG2 eG3 eG4,mg_of X G ysg,fun H=>.inr ⟨_,_,_,usg,rfl,rfl,yC,.cons ⟨_,rfl⟩ (.cons ⟨_,rfl⟩ .nil)⟩⟩;have pc0:PC K ⟨f3,f4,f5,f6,f7⟩ C0:=⟨cC0.c,nC0.1,nC0.2.1,nC0.2.2,⟨h0.1,g3.m.fn,g3.F.kp⟩,⟨h0.2.1,g4.m.fn,g4.F.kp⟩,⟨h0.2.2.1,g5.m.fn,g5.F.kp⟩,⟨h0.2.2.2.1,g6.m.fn,g6.F.kp⟩,⟨h0.2.2.2.2,g7.m.fn,g7.F.kp⟩⟩;have pc1:PC K ⟨f3,f4,f5,f6,f7⟩ C1:=⟨cC1.c,nC1.1,nC1.2.1,nC1.2.2,⟨h1.1,g3.m.fn,g3.F.kp⟩,⟨h1.2.1,g4.m.fn,g4.F.kp⟩,⟨h1.2.2.1,g5.m.fn,g5.F.kp⟩,⟨h1.2.2.2.1,g6.m.fn,g6.F.kp⟩,⟨h1.2.2.2.2,g7.m.fn,g7.F.kp⟩⟩;have pc2:PC K ⟨f3,f4,f5,f6,f7⟩ C2:=⟨cC2.c,nC2.1,nC2.2.1,nC2.2.2,⟨h2.1,g3.m.fn,g3.F.kp⟩,⟨h2.2.1,g4.m.fn,g4.F.kp⟩,⟨h2.2.2.1,g5.m.fn,g5.F.kp⟩,⟨h2.2.2.2.1,g6.m.fn,g6.F.kp⟩,⟨h2.2.2.2.2,g7.m.fn,g7.F.kp⟩⟩;have pc3:PC K ⟨f3,f4,f5,f6,f7⟩ C3:=⟨cC3.c,nC3.1,nC3.2.1,nC3.2.2,⟨h3.1,g3.m.fn,g3.F.kp⟩,⟨h3.2.1,g4.m.fn,g4.F.kp⟩,⟨h3.2.2.1,g5.m.fn,g5.F.kp⟩,⟨h3.2.2.2.1,g6.m.fn,g6.F.kp⟩,⟨h3.2.2.2.2,g7.m.fn,g7.F.kp⟩⟩;have pc4:PC K ⟨f3,f4,f5,f6,f7⟩ C4:=⟨cC4.c,nC4.1,nC4.2.1,nC4.2.2,⟨h4.1,g3.m.fn,g3.F.kp⟩,⟨h4.2.1,g4.m.fn,g4.F.kp⟩,⟨h4.2.2.1,g5.m.fn,g5.F.kp⟩,⟨h4.2.2.2.1,g6.m.fn,g6.F.kp⟩,⟨h4.2.2.2.2,g7.m.fn,g7.F.kp⟩⟩;have PP:Pcs K ⟨f3,f4,f5,f6,f7⟩ ⟨C0,C1,C2,C3,C4⟩:=fun k hk=>by
  rcases lt5 hk with rfl|rfl|rfl|rfl|rfl
  ·exact pc0
  ·exact pc1
  ·exact pc2
  ·exact pc3
  ·exact pc4
 have FK:FC K FM:=⟨cFM.c,nFM.1,nFM.2.1,nFM.2.2.1,nFM.2.2.2.1,nFM.2.2.2.2.1,nFM.2.2.2.2.2⟩
 let cl:Nat->Addr:=fun j=>match j with|0=>E9|1=>E10|2=>E11|3=>E12|4=>E13|_=>E14
 have ex9:xU K E9:=⟨ec9.1,ea9.1,ea9.2.1,ea9.2.2.1,xg.1,xg.2,ea9.2.2.2.1,ea9.2.2.2.2.1⟩;have so9:uB K cl E15 0:=⟨ex9,⟨ec9.2.2,ea9.2.2.2.2.2.2.2.2.2.1,ea9.2.2.2.2.1⟩,ea9.2.2.2.2.2.2.2.2.2.2,em9⟩;have ex10:xU K E10:=⟨ec10.1,ea10.1,ea10.2.1,ea10.2.2.1,xg.1,xg.2,ea10.2.2.2.1,ea10.2.2.2.2.1⟩;have so10:uB K cl E15 1:=⟨ex10,⟨ec10.2.2,ea10.2.2.2.2.2.2.2.2.2.1,ea10.2.2.2.2.1⟩,ea10.2.2.2.2.2.2.2.2.2.2,em10⟩;have ex11:xU K E11:=⟨ec11.1,ea11.1,ea11.2.1,ea11.2.2.1,xg.1,xg.2,ea11.2.2.2.1,ea11.2.2.2.2.1⟩;have so11:uB K cl E15 2:=⟨ex11,⟨ec11.2.2,ea11.2.2.2.2.2.2.2.2.2.1,ea11.2.2.2.2.1⟩,ea11.2.2.2.2.2.2.2.2.2.2,em11⟩;have ex12:xU K E12:=⟨ec12.1,ea12.1,ea12.2.1,ea12.2.2.1,xg.1,xg.2,ea12.2.2.2.1,ea12.2.2.2.2.1⟩;have so12:uB K cl E15 3:=⟨ex12,⟨ec12.2.2,ea12.2.2.2.2.2.2.2.2.2.1,ea12.2.2.2.2.1⟩,ea12.2.2.2.2.2.2.2.2.2.2,em12⟩;have ex13:xU K E13:=⟨ec13.1,ea13.1,ea13.2.1,ea13.2.2.1,xg.1,xg.2,ea13.2.2.2.1,ea13.2.2.2.2.1⟩;have so13:uB K cl E15 4:=⟨ex13,⟨ec13.2.2,ea13.2.2.2.2.2.2.2.2.2.1,ea13.2.2.2.2.1⟩,ea13.2.2.2.2.2.2.2.2.2.2,em13⟩;have ex14:xU K E14:=⟨ec14.1,ea14.1,ea14.2.1,ea14.2.2.1,xg.1,xg.2,ea14.2.2.2.1,ea14.2.2.2.2.1⟩;have so14:uB K cl E15 5:=⟨ex14,⟨ec14.2.2,ea14.2.2.2.2.2.2.2.2.2.1,ea14.2.2.2.2.1⟩,ea14.2.2.2.2.2.2.2.2.2.2,em14⟩;have so:∀i,i<6->uB K cl E15 i:=fun i hi=>match i,hi with|0,_=>so9|1,_=>so10|2,_=>so11|3,_=>so12|4,_=>so13|5,_=>so14|l+6,h=>absurd h (by omega)
 have UL:zjd mg:=⟨no zlen,no zrange,no zset,no zenumerate,no zlist,no zisinstance,no zbool,no ztuple⟩;have UQ:zcq mg:=⟨no zisinstance,no zlist,no ztuple,no zrange,no zlen,no zenumerate⟩;have UO:zkh mg:=⟨no zrange,no zint⟩;have PC:PtC K PT:=⟨cPT.c,nPT.1,nPT.2.1,nPT.2.2⟩;have PK:PtK K mg PT:=⟨fun H p dx fs e=>wP.ins (C:=PT) e cPT.c qcP.1 xg.1 xg.2 qcP.2,qkP,mg_of X G cPT.a⟩;exists _,g66.law,fun base KB GB=>?_;have B:TB l.prog w K mg base:=⟨fun e=>mg_of X G e⟩;have x9:uQ l.prog w K mg base "Doubled" (cl 0) f28 _ "number" "number":=⟨⟨ec9.2.1,ea9.2.2.2.2.2.2.1,g28.m.fn,ea9.2.2.2.2.2.2.2.1,ea9.2.2.2.2.2.2.2.2.1,ea9.2.2.2.2.2.1⟩,⟨ec9.2.2,ea9.2.2.2.2.2.2.2.2.2.1,ea9.2.2.2.2.1⟩,ea9.2.2.2.2.2.2.2.2.2.2,ex9,mg_of X G yE9,vE g28.F,g28.F.b2⟩;have x10:uQ l.prog w K mg base "Over" (cl 1) f28 _ "number" "number":=⟨⟨ec10.2.1,ea10.2.2.2.2.2.2.1,g28.m.fn,ea10.2.2.2.2.2.2.2.1,ea10.2.2.2.2.2.2.2.2.1,ea10.2.2.2.2.2.1⟩,⟨ec10.2.2,ea10.2.2.2.2.2.2.2.2.2.1,ea10.2.2.2.2.1⟩,ea10.2.2.2.2.2.2.2.2.2.2,ex10,mg_of X G yE10,vE g28.F,g28.F.b2⟩;have x11:uQ l.prog w K mg base "Barred" (cl 2) f28 _ "number" "number":=⟨⟨ec11.2.1,ea11.2.2.2.2.2.2.1,g28.m.fn,ea11.2.2.2.2.2.2.2.1,ea11.2.2.2.2.2.2.2.2.1,ea11.2.2.2.2.2.1⟩,⟨ec11.2.2,ea11.2.2.2.2.2.2.2.2.2.1,ea11.2.2.2.2.1⟩,ea11.2.2.2.2.2.2.2.2.2.2,ex11,mg_of X G yE11,vE g28.F,g28.F.b2⟩;have x12:uQ l.prog w K mg base "Again" (cl 3) f28 _ "number" "number":=⟨⟨ec12.2.1,ea12.2.2.2.2.2.2.1,g28.m.fn,ea12.2.2.2.2.2.2.2.1,ea12.2.2.2.2.2.2.2.2.1,ea12.2.2.2.2.2.1⟩,⟨ec12.2.2,ea12.2.2.2.2.2.2.2.2.2.1,ea12.2.2.2.2.1⟩,ea12.2.2.2.2.2.2.2.2.2.2,ex12,mg_of X G yE12,vE g28.F,g28.F.b2⟩;have x13:uQ l.prog w K mg base "Strange" (cl 4) f28 _ "number" "number":=⟨⟨ec13.2.1,ea13.2.2.2.2.2.2.1,g28.m.fn,ea13.2.2.2.2.2.2.2.1,ea13.2.2.2.2.2.2.2.2.1,ea13.2.2.2.2.2.1⟩,⟨ec13.2.2,ea13.2.2.2.2.2.2.2.2.2.1,ea13.2.2.2.2.1⟩,ea13.2.2.2.2.2.2.2.2.2.2,ex13,mg_of X G yE13,vE g28.F,g28.F.b2⟩;have x14:uQ l.prog w K mg base "Lacking" (cl 5) f28 _ "number" "number":=⟨⟨ec14.2.1,ea14.2.2.2.2.2.2.1,g28.m.fn,ea14.2.2.2.2.2.2.2.1,ea14.2.2.2.2.2.2.2.2.1,ea14.2.2.2.2.2.1⟩,⟨ec14.2.2,ea14.2.2.2.2.2.2.2.2.2.1,ea14.2.2.2.2.1⟩,ea14.2.2.2.2.2.2.2.2.2.2,ex14,mg_of X G yE14,vE g28.F,g28.F.b2⟩;have X6:X6 l.prog w K mg base cl f28 _:=⟨x9,x10,x11,x12,x13,x14⟩;have cI:=g1.c1 B (zjW g1.F T);have GP:zA l.prog w K mg base CX0 2 f2 _ ["self","word","name","may_lack"] (spP K ⟨f3,f4,f5,f6,f7⟩):=zfg g2.F cI;have mD:=mg_of X G cD.a;have UC:zhU l.prog w K mg base ⟨C0,C1,C2,C3,C4⟩ f8 f9 f10 f11 f12 _ _ _ _ _:=⟨⟨⟨cC0.ms,g8.m.at_,g8.m.fn,cC0.kc⟩,zgO g8.F pc0 dga mD GP g2.F.b4,mg_of X G cC0.a,g8.b0⟩,⟨⟨cC1.ms,g9.m.at_,g9.m.fn,cC1.kc⟩,zg1 g9.F pc1 dga mD GP g2.F.b4,mg_of X G cC1.a,g9.b0⟩,⟨⟨cC2.ms,g10.m.at_,g10.m.fn,cC2.kc⟩,zgM g10.F pc2 dga mD GP g2.F.b4,mg_of X G cC2.a,g10.F.b2⟩,⟨⟨cC3.ms,g11.m.at_,g11.m.fn,cC3.kc⟩,ziM g11.F pc3 dga mD GP g2.F.b4,mg_of X G cC3.a,g11.b0⟩,⟨⟨cC4.ms,g12.m.at_,g12.m.fn,cC4.kc⟩,ziX g12.F pc4 dga mD GP g2.F.b4,mg_of X G cC4.a,g12.F.b2⟩⟩;have GF:zA l.prog w K mg base CX0 1 f3 _ ["self"] (zbE K ⟨f3,f4,f5,f6,f7⟩):=zgX g3.F;have GQ:zA l.prog w K mg base CX0 1 f4 _ ["self"] (qY K ⟨f3,f4,f5,f6,f7⟩ bpL):=za3 g4.F Wd;have GN:zA l.prog w K mg base CX0 1 f5 _ ["self"] (qY K ⟨f3,f4,f5,f6,f7⟩ bnL):=zb7 g5.F Wd;have cM1:=g23.c2 B (zgT g23.F TF);have cM2:=g24.c1 B (zfi g24.F TF PP);have cM3:=g25.c1 B (zff g25.F cI);have cM4:=g26.c2 B (zfc g26.F TF PP GN g5.F.b1);have cW:=g27.c2 B (zgS g27.F TF PP);have GK:=zgV g14.F TF PP FK cW GQ g4.F.b1 GN g5.F.b1;have GI:=zfr g13.F FK g14.m cM1 cM2 cM3 cM4 GK (g14.F.b3);have Gpa:zA l.prog w K mg base CX0 1 f15 _ ["self"] (zbD ⟨C0,C1,C2,C3,C4⟩ FM):=zfq g15.F TF FK;have Gba:zA l.prog w K mg base CX0 1 f16 _ ["self"] (zbF ⟨C0,C1,C2,C3,C4⟩ FM):=zfs g16.F TF FK;have Gpl:zA l.prog w K mg base CX0 1 f17 _ ["self"] (uf ⟨C0,C1,C2,C3,C4⟩ FM):=zb6 g17.F FK;have Gta:zA l.prog w K mg base CX0 1 f18 _ ["self"] (uD ⟨C0,C1,C2,C3,C4⟩ FM 2):=zfp g18.F FK;have Gbg:zA l.prog w K mg base CX0 1 f19 _ ["self"] (uD ⟨C0,C1,C2,C3,C4⟩ FM 4):=zgZ g19.F FK;have Gnu:zA l.prog w K mg base CX0 1 f20 _ ["self","name"] (zef ⟨C0,C1,C2,C3,C4⟩ FM):=zgY g20.F FK;have cL:=g32.c1 B (zgU g32.F);have cSh:=g34.c1 B (zfe g34.F (no zlen) cL);have cFn:=g35.c1 B (zdI g35.F (no zenumerate));have cOv:=g37.c2 B (zfh g37.F (no zrange) FK g18.m Gta (g18.F.b1) g17.m Gpl (g17.F.b1));have cUn:=g38.c3 B (ziL g38.F (no zset) FK g16.m Gba (g16.F.b1) g20.m Gnu (g20.F.b2) g19.m Gbg (g19.F.b1) g17.m Gpl (g17.F.b1));have cEn:=g40.c4 B (zgR g40.F PP GQ g4.F.b1 GN g5.F.b1);have cLa:=g39.c3 B (zfm g39.F (no zenumerate) PP FK g15.m Gpa (g15.F.b1) GF g3.F.b1 cEn);have cMo:=g36.c3 B (ziS g36.F (no zenumerate) cFn cOv cUn cLa);have cMi:=g33.c2 B (ziT g33.F cSh cMo);have cRe:uC l.prog w K mg base 3 "refuse" f41 _ ["word","number"] (jm cl):=⟨zdH g41.F X6,B.mgo g41.a,g41.F.kp,g41.F.b2⟩;have cRf:uC l.prog w K mg base 6 "refuse_first_things" f42 _ ["form","call"] (uE K ⟨C0,C1,C2,C3,C4⟩ FM cl):=⟨zdG g42.F cMi cRe,B.mgo g42.a,g42.F.kp,g42.F.b2⟩;have kP:qj l.prog w K mg base (CXs l.prog w) 7 "Part" PT f29 _ ["self","form","call"] [] (zaP K ⟨C0,C1,C2,C3,C4⟩ FM PT cl):=⟨⟨cPT.ms,g29.m.at_,g29.m.fn,cPT.kc⟩,ziO g29.F PC cRf cL,mg_of X G cPT.a,g29.F.b3⟩;have cOf:=g43.c2 B (zjU g43.F);have GW:zA l.prog w K mg base CX0 2 f30 _ ["self","call"] (vy K PT):=zfb g30.F PC cL cOf;have GPF:zA l.prog w K mg base (CXs l.prog w) 9 f31 _ ["self","call"] (zec K ⟨C0,C1,C2,C3,C4⟩ FM PT cl):=ziP g31.F PC kP g30.m GW (g30.F.b2);have cPf:=g22.c1 B (ziQ g22.F UC);have cN:=g44.c2 B (ziR g44.F);have cSt:=g45.c2 B (zgN g45.F);have cSw:=g46.c2 B (zdF g46.F);have cDg:=g47.c3 B (zdJ g47.F (no zrange) cSw);have cWd:=g48.c1 B (ziK g48.F (no zrange));have cPl:=g49.c1 B (zgQ g49.F UO cDg cWd);have cRo:=g50.c3 B (ziN g50.F (no zlen));have cBr:=g51.c3 B (zfl g51.F);have cFo:=g52.c2 B (zfk g52.F (no zlist) (mg_of X G cFM.a) ⟨cFM.ms,g13.m.at_,g13.m.fn,cFM.kc⟩ GI g13.b0 cPf);have cRa:=g53.c4 B (zgP g53.F (no zenumerate) cN cRo cDg cSt);have cI1:=g54.c2 B (zgW g54.F UQ);have cIt:=g55.c5 B (zfn g55.F UQ cN cDg cSt cI1);have cLl:=g56.c1 B (zfj g56.F UL);have cTm:=g57.c4 B (zgL g57.F UL);have cTd:=g58.c3 B (zfd g58.F cLl cTm);have cDu:=g59.c1 B (ziW g59.F cLl);have cDe:=g61.c1 B (zg0 g61.F UQ);have cGr:=g62.c1 B (zfo g62.F);have cWR:=g60.c3 B (zjT g60.F UQ PC PK cDe cGr g30.m GW (g30.F.b2));have cFu:=g63.c2 B (ziV g63.F PC (mg_of X G yM) so cDe cGr g31.m GPF (g31.F.b2));have cAg:=g64.c2 B (zfu g64.F PC (mg_of X G yM) so kP g30.m GW (g30.F.b2));have cLR:=g65.c2 B (zjV g65.F UQ PC g30.m GW (g30.F.b2) cMi cAg);exact ziU g66.F UQ cN cPl cRa cBr cIt cTd cDe cFo kP cGr cLR cWR cDu cFu
theorem zli{l:PySem.W.OpenLaw}{q:Program}{loose:List Str}{XP:(Str->Option Value)->Heap->Prop}{YP:World->Heap->Prop}{d:DefRec}{K:Params->Frag}(hn:l.most=some 63)(hdf:d.params.defaults=[])
  (hY:∀(w:World) (h:Heap),YP w h->(K w.params).In h)
  (F:∀(w:World) (mg:Str->Option Value) (fa:Addr) (h:Heap),(K w.params).In h->h.Ns mainGlobals mg->mg d.name=some (.ref fa)->
   ∃fd:FuncData,(∀(s:Shared) (u:Value),BindsTo s fd ⟨[u],[]⟩ [("_law_script",u)])/\∀base:Heap,(K w.params).In base->base.Ns mainGlobals mg->zA l.prog w (K w.params) mg base CX0 11 fa fd ["_law_script"] (qX (K w.params))) :
  PySem.W.WalkO q loose XP YP l.row.toRowW d [] (fun f vs=>PySem.call f vs):=
 L2.zjk (n:=63) (k:=11) (x:="_law_script") (CX:=fun _=>CX0) (sp:=fun w=>qX (K w.params)) hn (by decide) hdf ⟨rfl,by decide,by decide,rfl⟩ hY F (fun _ _ a ns hl hb _ hS=>⟨a,ns,rfl,hS,hl,fun _=>rfl⟩) fun _ _ _ _ _ z=>z
end K62
open PySem PySem.W PyProof.Rows
set_option maxRecDepth 100000 in
set_option maxHeartbeats 0 in
theorem PySem.Challenge.cw_callbinds_k62_whole_calls_of_parts_holds : PySem.Challenge.rw_callbinds_k62_whole_calls_of_parts.Holds := by
 w_on; o_law; k_head; (case hw => w_witness2)
 k_fill
 refine K62.zli (l := PySem.Challenge.rw_callbinds_k62_whole_calls_of_parts) rfl rfl (fun w h Y => PySem.W.kIn_of Y) ?F
 case F =>
  intro w mg fa h KX G hmg
  refine' K62.zk4 KX G hmg ?cD ?cC0 ?nC0 ?cC1 ?nC1 ?cC2 ?nC2 ?cC3 ?nC3 ?cC4 ?nC4 ?cFM ?nFM ?g1 ?g2 ?g3 ?g4 ?g5 ?g6 ?g7 ?g8 ?g9 ?g10 ?g11 ?g12 ?g13 ?g14 ?g15 ?g16 ?g17 ?g18 ?g19 ?g20 ?g21 ?g22 ?g23 ?g24 ?g25 ?g26 ?g27 ?yM ?g28 ?cPT ?nPT ?g29 ?g30 ?g31 ?g32 ?g33 ?g34 ?g35 ?g36 ?g37 ?g38 ?g39 ?g40 ?g41 ?g42 ?g43 ?g44 ?g45 ?g46 ?g47 ?g48 ?g49 ?g50 ?g51 ?g52 ?g53 ?g54 ?g55 ?g56 ?g57 ?g58 ?g59 ?g60 ?g61 ?g62 ?g63 ?g64 ?g65 ?g66 ?zisinstance ?zstr ?zbool ?zlen ?zall ?zrange ?zlist ?zenumerate ?zset ?zint ?ztuple ?gL ?gN ?gMP ?gMB ?ytP ?utP ?ytB ?utB ?ytO ?utO ?ysg ?usg ?yGr ?lGr ?kGr ?eG0 ?eG1 ?eG2 ?eG3 ?eG4 ?dga ?h0 ?h1 ?h2 ?h3 ?h4 ?qcP ?qkP ?xg ?yE9 ?yE10 ?yE11 ?yE12 ?yE13 ?yE14 ?ec9 ?ec10 ?ec11 ?ec12 ?ec13 ?ec14 ?ea9 ?ea10 ?ea11 ?ea12 ?ea13 ?ea14 ?em9 ?em10 ?em11 ?em12 ?em13 ?em14
  (case cD | cC0 => apply L2.zlh <;> k_is)
  (case nC0 => exact ⟨by k_is, by k_is, by k_is⟩)
  (case cC1 => apply L2.zlh <;> k_is)
  (case nC1 => exact ⟨by k_is, by k_is, by k_is⟩)
  (case cC2 => apply L2.zlh <;> k_is)
  (case nC2 => exact ⟨by k_is, by k_is, by k_is⟩)
  (case cC3 => apply L2.zlh <;> k_is)
  (case nC3 => exact ⟨by k_is, by k_is, by k_is⟩)
  (case cC4 => apply L2.zlh <;> k_is)
  (case nC4 => exact ⟨by k_is, by k_is, by k_is⟩)
  (case cFM => apply L2.zlh <;> k_is)
  (case nFM => exact ⟨by k_is, by k_is, by k_is, by k_is, by k_is, by k_is⟩)
  (case g1 => apply L2.zlf <;> k_is)
  (case g2 | g3 | g4 | g5 | g6 | g7 => apply L2.zle <;> k_is)
  (case g8 | g9 => apply L2.zlg <;> k_is)
  (case g10 => apply L2.zle <;> k_is)
  (case g11 => apply L2.zlg <;> k_is)
  (case g12 => apply L2.zle <;> k_is)
  (case g13 => apply L2.zlg <;> k_is)
  (case g14 | g15 | g16 | g17 | g18 | g19 | g20 | g21 => apply L2.zle <;> k_is)
  (case g22 | g23 | g24 | g25 | g26 | g27 => apply L2.zlf <;> k_is)
  (case yM => k_is)
  (case g28 => apply L2.zle <;> k_is)
  (case cPT => apply L2.zlh <;> k_is)
  (case nPT => exact ⟨by k_is, by k_is, by k_is⟩)
  (case g29 | g30 | g31 => apply L2.zle <;> k_is)
  (case g32 | g33 | g34 | g35 | g36 | g37 | g38 | g39 | g40 | g41 | g42 | g43 | g44 | g45 | g46 | g47 | g48 | g49 | g50 | g51 | g52 | g53 | g54 | g55 | g56 | g57 | g58 | g59 | g60 | g61 | g62 | g63 | g64 | g65 | g66 => apply L2.zlf <;> k_is)
  (case zisinstance | zstr | zbool | zlen | zall | zrange | zlist | zenumerate | zset | zint | ztuple | gL | gN | gMP | gMB | ytP | utP | ytB | utB | ytO | utO | ysg | usg | yGr | lGr => k_is)
  (case kGr => k_keys)
  (case eG0 | eG1 | eG2 | eG3 | eG4 => k_is)
  (case dga => exact ⟨by k_is, by k_is, by k_is, by k_is⟩)
  (case h0 | h1 | h2 | h3 | h4 => exact ⟨by k_is, by k_is, by k_is, by k_is, by k_is⟩)
  (case qcP => exact ⟨by k_is, by k_is⟩)
  (case qkP => kit_is)
  (case xg => exact ⟨by k_is, by k_is⟩)
  (case yE9 | yE10 | yE11 | yE12 | yE13 | yE14 => k_is)
  (case ec9 | ec10 | ec11 | ec12 | ec13 | ec14 => exact ⟨by first | kernel_rfl | exact rfl, by first | kernel_rfl | exact rfl, by first | kernel_rfl | exact rfl⟩)
  (case ea9 | ea10 | ea11 | ea12 | ea13 | ea14 => exact ⟨by k_is, by k_is, by k_is, by k_is, by k_is, by k_is, by k_is, by k_is, by k_is, by k_is, by k_is⟩)
  (case em9 | em10 | em11 | em12 | em13 | em14 => kts_exm)
#print axioms PySem.Challenge.cw_callbinds_k62_whole_calls_of_parts_holds
