import PyProof.Rows.All
import Wide.All
import OpenK.AllK
import Wide.FinOn
import Lean
import PyProof.EqAt
import PyProof.EqKinds
import PyProof.TupleCall
import KE.KTryMore
import PyProof.ExcAttrAll.ValueError
import KE.KRevIter
import PyProof.SetNew
import PyProof.SetRoads
import PyProof.Rows.SetObj
import PyProof.DictCompW
import PyProof.DictItems
import PyProof.Rows.SetFrom
import PyProof.ListRange
import PyProof.Rows.Range3
import KE.IntBitsLaws
import PyProof.AttrMissHeap
import PyProof.FactsAll.bool_1
import KE.KDictOf
import PyProof.WalkInts
import PyProof.P3Eq
import PyProof.Rows.SortStr
import PyProof.Rows.SortWalk
import PyProof.NeData
import PyProof.DictRoadsH
import PyProof.FactsAll.set
import PyProof.CollectWalk
import PyProof.CollectIter
import KE.RegKIsAll
import KE.RegKTryMore
import PySem.Challenge.RW_callbinds_k64_whole_part_of_a_part
set_option Elab.async false
set_option linter.all false
set_option maxRecDepth 100000
set_option maxHeartbeats 4000000
open Nat (lt_of_lt_of_le lt_irrefl ne_of_lt le_trans le_of_lt ne_of_gt le_refl zero_le lt_succ_self le_succ succ_le_succ lt_trans lt_succ_of_lt mod_lt lt_of_sub_eq_succ le_succ_of_le succ_pos min_eq_left lt_or_ge)
open List (filterMap_cons mem_cons_self mem_cons_of_mem mem_append_left getElem?_set_self getElem?_set_ne mem_append_right length_cons map_cons length_map append_nil of_mem_zip length_take getElem?_map take_sublist mem_of_getElem? length_append length_drop size_toArray all_cons any_cons replicate_succ flatten_cons append_assoc length_singleton nil_append find?_cons cons_append length_nil map_nil lookup_cons length_set getElem?_eq_getElem getD_eq_getElem?_getD all_eq_true getElem_mem take_of_length_le map_map take_add_one map_append drop_eq_getElem_cons take_succ_eq_append_getElem filter_append drop_length length_filter_le take_length mem_append mem_of_mem_drop mem_of_mem_take map_take map_drop flatten_append take_append_drop length_range range_succ any_map any_append any_eq_true contains_cons lookup_cons_self find?_append filter_cons mem_cons not_mem_nil nodup_nil mem_map take_zero getElem?_take take_take take_nil drop_nil drop_eq_nil_of_le drop_left)
open Option (getD_none map_some isSome_map or_none)
open Int (eq_ofNat_of_zero_le emod_nonneg emod_lt_of_pos)
open PySem.W (instObj methodObj hideAll hideAll_none lookIn plainGet plainGet_of plainOver takerIn makesIn emptyDict kitOne kia_one callWith_K methodCall_KW fnOf codeIn KeysLit nsIn exmOne mg_of Frag findIn specialIn keepIn isFn hasDictIn clsIn mroIn instIn Looks)
local macro_rules|`(tactic|exists $xs,*)=>`(tactic|refine ⟨$xs,*⟩)
section
set_option hygiene false in
local macro_rules|`($s:ident[$i]'$x)=>`(zE (zx (i:=$i) ($s).nd rfl (Or.inl rfl) $x) ?_)
set_option hygiene false in
local macro_rules|`(⋯)=>`(by decide)
set_option hygiene false in
local macro_rules|`(∅)=>`(by omega)
set_option hygiene false in
local macro_rules|`(~~~$x)=>`(some (.ref $x))
set_option hygiene false in
local macro_rules|`(↥$x)=>`(zD P w K mg base CX0 $x)
set_option hygiene false in
local macro_rules|`(⇑$x)=>`(zH P w K mg base $x)
set_option hygiene false in
local macro_rules|`(tactic|specialize $s)=>`(tactic|refine F.ok $s (fun cdv A outer s H vs Q E hr h=>?_))
set_option hygiene false in
local macro_rules|`(tactic|and_intros)=>`(tactic|(refine ⟨?_⟩;intro pins s σ H Q I h))
set_option hygiene false in
local macro_rules|`(tactic|exfalso)=>`(tactic|dsimp only[zK])
set_option hygiene false in
local macro_rules|`(↑$x)=>`(PySem.wpAny (PySem.model ($x).prog ($x).w) ($x).A)
namespace L2
open PySem PySem.Spec PyProof.Rows
theorem zp2147483647:(0:Int)<2147483647:=by decide
theorem zp26:(0:Int)<26:=by decide
theorem zp8:(0:Int)<8:=by decide
theorem zp2:(0:Int)<2:=by decide
theorem zp4:(0:Int)<4:=by decide
theorem zp16:(0:Int)<16:=by decide
abbrev aA:=@List.length_map
abbrev aB:=@List.getElem?_eq_getElem
abbrev aC:=@decide_eq_true
abbrev aD:=@decide_eq_false
abbrev aE:=@List.map_append
abbrev aG:=@List.length_append
abbrev aH:=@List.mem_of_getElem?
abbrev aI:=@PySem.Heap.lt_size
abbrev aJ:=@if_neg
abbrev aK:=@if_pos
abbrev PnL:=List (Addr×Obj)
abbrev VSP:=Value->Shared->Prop
theorem xS : 0<=sizeLine:=by decide
theorem jy : 1<=sizeLine:=by decide
theorem yA : 2<=sizeLine:=by decide
theorem jx : 3<=sizeLine:=by decide
theorem zmU : 4<=sizeLine:=by decide
theorem zmT : 5<=sizeLine:=by decide
theorem zlW : 6<=sizeLine:=by decide
theorem zlX : 10<=sizeLine:=by decide
abbrev zwb:=@wpAny_bind
abbrev zwp:=@wpAny_pure
abbrev zft:=@Bool.false_ne_true
abbrev zgp:=@Heap.get?_push_of_some
abbrev zgs:=@Heap.get?_push_size
abbrev Key:=Sum Int Str
def qR:Key->Value->Bool
 | .inl k,v=>Value.isInt k v
 | .inr x,v=>Value.isStrOf x v
def znl(w:World):Key->Int
 | .inl k=>hashInt k
 | .inr x=>hashStr w x
theorem yQ:∀{k:Key}{v:Value},qR k v=true->(∃i t,k=Sum.inl i/\v=Value.int i t)\/(∃x t,k=Sum.inr x/\v=Value.str x t)
 | .inl i,v,h=>by
  obtain⟨t,e⟩:=Value.isInt_shape (k:=i) (v:=v) h;exact .inl ⟨i,t,rfl,e⟩
 | .inr x,v,h=>by
  obtain⟨t,e⟩:=Value.isStrOf_shape (x:=x) (v:=v) h;exact .inr ⟨x,t,rfl,e⟩
theorem zfh(i:Int)(t:Tok):qR (.inl i) (.int i t)=true:=by simp [qR,Value.isInt]
theorem zfg(x:Str)(t:Tok):qR (.inr x) (.str x t)=true:=by simp [qR,Value.isStrOf]
theorem zlj(a b:Int):decide ((Sum.inl a:Key)=Sum.inl b)=(a==b):=by
 by_cases e:a=b
 ·subst e;simp
 ·have h:¬(Sum.inl a:Key)=Sum.inl b:=fun q=>e (Sum.inl.inj q)
  rw[aD h];exact(beq_eq_false_iff_ne.mpr e).symm
theorem zhG(a b:Str):decide ((Sum.inr a:Key)=Sum.inr b)=decide (a=b):=by
 by_cases e:a=b
 ·subst e;simp
 ·have h:¬(Sum.inr a:Key)=Sum.inr b:=fun q=>e (Sum.inr.inj q)
  rw[aD h,aD e]
theorem zli(a:Int)(b:Str):decide ((Sum.inl a:Key)=Sum.inr b)=false:=aD (fun q=>nomatch q)
theorem zlh(a:Str)(b:Int):decide ((Sum.inr a:Key)=Sum.inl b)=false:=aD (fun q=>nomatch q)
def yD(prog:Program)(w:World):PySem.KeyKind prog w Key where
 is:=qR
 hash:=znl w
 inj:=fun v a b ha hb=>by
  rcases yQ ha with ⟨i,t,rfl,rfl⟩|⟨x,t,rfl,rfl⟩
  ·rcases yQ hb with ⟨j,u,rfl,e⟩|⟨y,u,rfl,e⟩
   ·injection e with e1 _;rw[e1]
   ·exact nomatch e
  ·rcases yQ hb with ⟨j,u,rfl,e⟩|⟨y,u,rfl,e⟩
   ·exact nomatch e
   ·injection e with e1 _;rw[e1]
 byValue:=fun k v h=>by
  rcases yQ h with ⟨i,t,rfl,rfl⟩|⟨x,t,rfl,rfl⟩ <;> rfl
 pyHash:=fun hv h=>by
  rcases yQ hv with ⟨i,t,rfl,rfl⟩|⟨x,t,rfl,rfl⟩
  ·exact wpAny_pyHash_int h
  ·exact wpAny_pyHash_str h
 eqBool:=fun hu hv h=>by
  rcases yQ hu with ⟨i,t,rfl,rfl⟩|⟨x,t,rfl,rfl⟩
  ·rcases yQ hv with ⟨j,u,rfl,rfl⟩|⟨y,u,rfl,rfl⟩
   ·rw[zlj] at h;exact wpAny_eqBool_int h
   ·rw[zli] at h;exact SeqAt.EqAt.int_str i t y u _ _ _ _ h
  ·rcases yQ hv with ⟨j,u,rfl,rfl⟩|⟨y,u,rfl,rfl⟩
   ·rw[zlh] at h;exact SeqAt.EqAt.str_int x t j u _ _ _ _ h
   ·rw[zhG] at h;exact wpAny_eqBool_str h
 «strs»:=fun k x t v h=>by
  rcases yQ h with ⟨i,u,rfl,e⟩|⟨y,u,rfl,e⟩
  ·exact nomatch e
  ·injection e with e1 _
   subst e1;cases v <;> rfl
theorem zcd(prog:Program)(w:World)(i:Int)(t:Tok):(yD prog w).is (.inl i) (.int i t)=true:=zfh i t
theorem zcc(prog:Program)(w:World)(x:Str)(t:Tok):(yD prog w).is (.inr x) (.str x t)=true:=zfg x t
inductive V where
 | non|bl (b:Bool)|int (i:Int)|str (x:Str)|byt (b:Array UInt8)|flt (b:UInt64)|ref (a:Addr)|ty (n:String)
 deriving DecidableEq
def yf:V->Value->Prop
 | .non,u=>u=Value.none
 | .bl b,u=>u=Value.bool b
 | .int i,u=>∃t,u=Value.int i t
 | .str x,u=>∃t,u=Value.str x t
 | .byt b,u=>∃t,u=Value.bytes b t
 | .flt b,u=>∃t,u=Value.float b t
 | .ref a,u=>u=Value.ref a
 | .ty n,u=>u=Value.type n
abbrev yb:List V->List Value->Prop:=Paired yf
theorem yb.length(r:yb xs us):xs.length=us.length:=Paired.length r
theorem yb.get:∀{xs:List V}{us:List Value}{i:Nat}{x:V},yb xs us->xs[i]?=some x->∃u,us[i]?=some u/\yf x u
 | _,_,_,_,.nil,e=>by simp at e
 | _,_,0,_,.cons r _,e=>by simp at e;subst e;exact⟨_,rfl,r⟩
 | _,_,i+1,x,.cons _ t,e=>by
  obtain⟨u,h1,h2⟩:=yb.get (i:=i) (x:=x) t (by simpa using e)
  exact⟨u,by simpa using h1,h2⟩
theorem yb.append:∀{xs ys:List V}{us ws:List Value},yb xs us->yb ys ws->yb (xs++ys) (us++ws)
 | _,_,_,_,.nil,s=>s
 | _,_,_,_,.cons r t,s=>.cons r (yb.append t s)
theorem yb.take:∀{xs:List V}{us:List Value}(n:Nat),yb xs us->yb (xs.take n) (us.take n)
 | _,_,0,_=>.nil
 | _,_,_+1,.nil=>.nil
 | _,_,n+1,.cons r t=>.cons r (yb.take n t)
theorem yb.drop:∀{xs:List V}{us:List Value}(n:Nat),yb xs us->yb (xs.drop n) (us.drop n)
 | _,_,0,r=>r
 | _,_,_+1,.nil=>.nil
 | _,_,n+1,.cons _ t=>yb.drop n t
def uY:Option V->Option Value->Prop
 | some v,some u=>yf v u
 | none,none=>True
 | _,_=>False
def KV{κ : Type}:List (κ×V)->List (κ×Value)->Prop:=Paired fun (p : κ×V) (q : κ×Value)=>p.1=q.1/\yf p.2 q.2
def kV:Key->V
 | .inl i=>.int i
 | .inr x=>.str x
inductive HO where
 | lst (xs:List V)
 | tup (xs:List V)
 | dK (kvs:List (Key×V))|dT (kvs:List (List Key×V))
 | set (S:Int->Bool) (n:Nat)
 | ins (C dx:Addr) (fs:List (Str×V))
 | own (x:Addr)
 | xd (fs:List (Str×V))
 | met (f x:Addr)
 | rng (lo hi:Int)
 | frz (o:Obj) (u:HO)
 | tbl (ps:Array Value)
 | ext (φ : Heap->Prop)
abbrev Hp:=Addr->Option HO
def upd(H:Hp)(a:Addr)(o:HO):Hp:=fun b=>if b=a then some o else H b
theorem za:upd H a o a=some o:=by unfold upd;rw[aK rfl]
theorem zj(h:b≠a):upd H a o b=H b:=by unfold upd;rw[aJ h]
theorem j5:upd (upd H a o) a u=upd H a u:=by
 funext b;unfold upd;split <;> rfl
theorem xq{H:Hp}{a b:Addr}{o u:HO}(h:H a=some o)(h':H b=some u)(d:o≠u):a≠b:=by
 intro e;subst e;rw[h] at h';exact d (Option.some.inj h')
theorem zi{H:Hp}{a b:Addr}{o:HO}(h:H a=some o)(h':H b=none):a≠b:=by
 intro e;subst e;rw[h] at h';cases h'
section
variable (P:Program) (w:World)
def yR(H:Hp)(h:Heap)(a:Addr):HO->Prop
 | .lst xs=>xs.length<=sizeLine/\∃(its:List Value) (n:Nat),yb xs its/\h.get? a=some { cls:=.type "list",data:=.seq its.toArray n }
 | .tup xs=>xs.length<=sizeLine/\∃its:List Value,yb xs its/\IsTup h a its.toArray
 | .dK kvs=>kvs.length<=sizeLine/\(a==sysModules)=false/\∃vs,KV kvs vs/\h.DictOf (yD P w) a vs
 | .dT kvs=>kvs.length<=sizeLine/\(a==sysModules)=false/\∃xs:List (List Key×Addr×Value),
   Paired (fun (p:List Key×V) (q:List Key×Addr×Value)=>p.1=q.1/\H q.2.1=some (.tup (p.1.map kV))/\yf p.2 q.2.2) kvs xs/\
   ∃o es ep,h.get? a=some o/\o.ExactDict/\o.data=.dict es ep/\es.toList=xs.map (entryOfKey (tupleKind (yD P w)))/\(xs.map (·.1)).Nodup
 | .set S n=>h.SetOf (intKind P w) a S n
 | .ins C dx fs=>H dx=some (.own a)/\fs.length<=1000/\dx≠a/\h.get? a=some (instObj C dx)/\
   ∃mA,h.Ns1 dx mA/\(∀f,uY (fs.lookup f) (mA f))/\PySem.Within mA (fs.map (·.1))
 | .own _=>∃o,h.get? a=some o
 | .xd fs=>∃mA,h.Ns1 a mA/\∀f,uY (fs.lookup f) (mA f)
 | .rng lo hi=>∃t u v,h.get? a=some { cls:=.type "range",data:=.fields #[.int lo t,.int hi u,.int 1 v] }
 | .frz o u=>h.get? a=some o/\yR H h a u
 | .tbl ps=>h.get? a=some { cls:=.none,data:=.fields ps }
 | .met f x=>h.get? a=some (methodObj (.ref f) (.ref x))
 | .ext φ=>φ h/\(∃o,h.get? a=some o)/\∀h1 h2:Heap,φ h1->(∀o,h1.get? a=some o->h2.get? a=some o)->φ h2
def HOk(H:Hp)(h:Heap):Prop:=∀a o,H a=some o->yR P w H h a o
end
section
variable {w:World}{H H':Hp}{h h':Heap}{o:HO}
theorem yR.lt(x:yR P w H h a o):a<h.objs.size:=by
 cases o with
 | lst xs=>obtain⟨_,_,_,_,e⟩:=x;exact aI e
 | tup xs=>obtain⟨_,_,_,p⟩:=x;exact p.lt
 | dK kvs=>obtain⟨_,_,_,_,o,_,_,e,_⟩:=x;exact aI e
 | dT kvs=>obtain⟨_,_,_,_,o,_,_,e,_⟩:=x;exact aI e
 | set S n=>obtain⟨o,_,_,_,e,_⟩:=x;exact aI e
 | ins C dx fs=>obtain⟨_,_,_,e,_⟩:=x;exact aI e
 | own y=>obtain⟨_,e⟩:=x;exact aI e
 | xd fs=>obtain⟨_,⟨_,_,_,e,_⟩,_⟩:=x;exact aI e
 | rng lo hi=>obtain⟨_,_,_,e⟩:=x;exact aI e
 | frz ob u=>obtain⟨e,_⟩:=x;exact aI e
 | tbl ps=>exact aI (show h.get? a=some _ from x)
 | met f y=>exact aI (show h.get? a=some _ from x)
 | ext φ=>obtain⟨_,⟨_,e⟩,_⟩:=x;exact aI e
theorem wX{α β : Type}{F G : α->β->Prop}:∀{l₁:List α}{l₂:List β},Paired F l₁ l₂->(∀a b,F a b->G a b)->Paired G l₁ l₂
 | _,_,.nil,_=>.nil
 | _,_,.cons r t,f=>.cons (f _ _ r) (wX t f)
theorem zu{α β : Type}{F G : α->β->Prop}(f:∀a b,F a b->G a b){l₁:List α}{l₂:List β}(r:Paired F l₁ l₂):Paired G l₁ l₂:=wX r f
theorem yR.stay(x:yR P w H h a o)(k:∀b u,(b=a\/H b=some (.own a))->h.get? b=some u->h'.get? b=some u)
  (ho:∀b,H b=some (.own a)->H' b=some (.own a)) (ht:∀b xs,H b=some (.tup xs)->H' b=some (.tup xs)):yR P w H' h' a o:=by
 induction o with
 | lst xs=>obtain⟨z,its,n,r,e⟩:=x;exact⟨z,its,n,r,k _ _ (.inl rfl) e⟩
 | tup xs=>obtain⟨z,its,r,ob,e,c⟩:=x;exact⟨z,its,r,ob,k _ _ (.inl rfl) e,c⟩
 | dK kvs=>obtain⟨z,y,vs,r,ob,es,ep,e,c⟩:=x;exact⟨z,y,vs,r,ob,es,ep,k _ _ (.inl rfl) e,c⟩
 | dT kvs=>
  obtain⟨z,y,xs,r,ob,es,ep,e,c⟩:=x;exact⟨z,y,xs,wX r fun p q z=>⟨z.1,ht _ _ z.2.1,z.2.2⟩,ob,es,ep,k _ _ (.inl rfl) e,c⟩
 | set S n=>obtain⟨ob,es,ep,t,e,c⟩:=x;exact⟨ob,es,ep,t,k _ _ (.inl rfl) e,c⟩
 | ins C dx fs=>
  obtain⟨d,z,ne,e,mA,⟨od,es,ep,e2,c⟩,r⟩:=x;exact⟨ho _ d,z,ne,k _ _ (.inl rfl) e,mA,⟨od,es,ep,k _ _ (.inr d) e2,c⟩,r⟩
 | own y=>obtain⟨ob,e⟩:=x;exact⟨ob,k _ _ (.inl rfl) e⟩
 | xd fs=>obtain⟨mA,⟨od,es,ep,e,c⟩,r⟩:=x;exact⟨mA,⟨od,es,ep,k _ _ (.inl rfl) e,c⟩,r⟩
 | rng lo hi=>obtain⟨t,u,v,e⟩:=x;exact⟨t,u,v,k _ _ (.inl rfl) e⟩
 | frz ob u ih=>obtain⟨e,q⟩:=x;exact⟨k _ _ (.inl rfl) e,ih q⟩
 | tbl ps=>
  have e:h.get? a=some { cls:=.none,data:=.fields ps }:=x;show h'.get? a=some { cls:=.none,data:=.fields ps };exact k a _ (.inl rfl) e
 | met f y=>
  have e:h.get? a=some (methodObj (.ref f) (.ref y)):=x;show h'.get? a=some (methodObj (.ref f) (.ref y));exact k a _ (.inl rfl) e
 | ext φ=>obtain⟨p,⟨o,e⟩,st⟩:=x;exact⟨st _ _ p fun o q=>k _ _ (.inl rfl) q,⟨o,k _ _ (.inl rfl) e⟩,st⟩
theorem HOk.lt(x:HOk P w H h)(e:H a=some o):a<h.objs.size:=(x a o e).lt
theorem HOk.fresh(x:HOk P w H h)(e:h.objs.size<=a):H a=none:=by
 cases q:H a with
 | none=>rfl
 | some u=>exact absurd (lt_of_lt_of_le (x.lt q) e) (lt_irrefl _)
theorem HOk.kept(x:HOk P w H h)(k:∀b u,h.get? b=some u->h'.get? b=some u):HOk P w H h':=fun a o e=>
 (x a o e).stay (fun b u _ q=>k b u q) (fun _ q=>q) fun _ _ q=>q
theorem HOk.laid(x:HOk P w H h)(k:∀b u,h.get? b=some u->h'.get? b=some u)(hp:h.objs.size<=a)(new:yR P w (upd H a o) h' a o):HOk P w (upd H a o) h':=fun b u e=>by
 have hn:=x.fresh hp;by_cases hb:b=a
 ·subst hb;rw[za] at e;cases e;exact new
 ·rw[zj hb] at e
  exact(x b u e).stay (fun c v _ q=>k c v q) (fun c q=>by rw[zj (zi q hn)];exact q) fun c xs q=>by rw[zj (zi q hn)];exact q
def Rd(H:Hp)(a:Addr)(u:HO):Prop:=H a=some u\/∃o,H a=some (.frz o u)
theorem Rd.ok(r:Rd H a u)(x:HOk P w H h):yR P w H h a u:=by
 rcases r with r|⟨o,r⟩
 ·exact x a u r
 ·obtain⟨_,q⟩:=x a _ r
  exact q
def Mut:Option HO->Prop
 | some (.lst _)=>True
 | some (.dK _)=>True
 | some (.dT _)=>True
 | some (.set _ _)=>True
 | some (.ins _ _ _)=>True
 | some (.ext _)=>True
 | _=>False
variable {x e:Addr}{o':HO}
theorem HOk.write(ok:HOk P w H h)(mu:Mut (H x))(he:e=x\/H e=some (.own x))(k:∀b u,b≠e->h.get? b=some u->h'.get? b=some u)(heo:∃u,h'.get? e=some u)
  (new:yR P w (upd H x o') h' x o'):HOk P w (upd H x o') h':=fun b u q=>by
 have nown:∀c y,H c=some (.own y)->c≠x:=fun c y r z=>by subst z;rw[r] at mu;exact mu
 have ntup:∀c xs,H c=some (.tup xs)->c≠x:=fun c xs r z=>by subst z;rw[r] at mu;exact mu
 by_cases hb:b=x
 ·subst hb;rw[za] at q;cases q;exact new
 ·rw[zj hb] at q
  by_cases hbe:b=e
  ·have q':H b=some (.own x):=by
    rcases he with z|z
    ·exact absurd (hbe.trans z) hb
    ·rw[hbe];exact z
   rw[q] at q';cases q';obtain⟨v,hv⟩:=heo;exact⟨v,by rw[hbe];exact hv⟩
  ·refine(ok b u q).stay (fun c v hc r=>k c v ?_ r) (fun c r=>by rw[zj (nown c b r)];exact r) fun c xs r=>by rw[zj (ntup c xs r)];exact r
   rcases hc with rfl|hc
   ·exact hbe
   ·rintro rfl
    rcases he with z|z
    ·exact nown c b hc z
    ·rw[hc] at z;cases z;exact hb rfl
structure Un(fs ex:List Addr)(H H':Hp)(h h':Heap):Prop where
 keep:∀b o,h.get? b=some o->H b=none->b∉fs->b∉ex->h'.get? b=some o
 slot:∀b o,h.get? b=some o->H b=none->b∈fs->b∉ex->∃sl,h'.get? b=some { o with slots:=sl }
 free:∀b o,h.get? b=some o->H b=none->b∉ex->H' b=none
 there:∀b o,h.get? b=some o->b∉ex->∃o',h'.get? b=some o'
 tups:∀b xs,H b=some (.tup xs)->H' b=some (.tup xs)
 frzs:∀b o u,H b=some (.frz o u)->H' b=some (.frz o u)
 tbls:∀b ps,H b=some (.tbl ps)->∃more,H' b=some (.tbl (ps++more))
variable {fs fs' ex ex':List Addr}
theorem Un.any(u:Un fs ex H H1 h h1)(q:h.get? b=some ob)(n:H b=none)(hx:b∉ex):∃sl,h1.get? b=some { ob with slots:=sl }:=by
 by_cases hb:b∈fs
 ·exact u.slot b ob q n hb hx
 ·exact⟨ob.slots,u.keep b ob q n hb hx⟩
theorem Un.kept(k:∀b u,h.get? b=some u->h'.get? b=some u):Un fs ex H H h h':=
 ⟨fun b ob q _ _ _=>k b ob q,fun b ob q _ _ _=>⟨ob.slots,k b ob q⟩,fun _ _ _ n _=>n,fun b ob q _=>⟨ob,k b ob q⟩,fun _ _ q=>q,fun _ _ _ q=>q,fun _ ps q=>⟨#[],by rw[q];simp⟩⟩
theorem Un.refl:Un fs ex H H h h:=Un.kept fun _ _ q=>q
theorem Un.laid(k:∀b u,h.get? b=some u->h'.get? b=some u)(hp:h.objs.size<=a)(hn:H a=none):Un fs ex H (upd H a o) h h' where
 keep:=fun b u q _ _ _=>k b u q
 slot:=fun b u q _ _ _=>⟨u.slots,k b u q⟩
 free:=fun b u q n _=>by rw[zj (ne_of_lt (lt_of_lt_of_le (aI q) hp))];exact n
 there:=fun b u q _=>⟨u,k b u q⟩
 tups:=fun b xs q=>by rw[zj (zi q hn)];exact q
 frzs:=fun b u xs q=>by rw[zj (zi q hn)];exact q
 tbls:=fun b ps q=>⟨#[],by rw[zj (zi q hn),q];simp⟩
theorem Un.write(mu:Mut (H x))(he:e=x\/H e=some (.own x))(k:∀b u,b≠e->h.get? b=some u->h'.get? b=some u)(heo:∃u,h'.get? e=some u):Un fs ex H (upd H x o) h h':=by
 have hx:∀b,H b=none->b≠x:=fun b n z=>by subst z;rw[n] at mu;exact mu
 have hb:∀b,H b=none->b≠e:=fun b n z=>by
  subst z;rcases he with r|r
  ·exact hx b n r
  ·rw[n] at r;cases r
 have hm:∀b u,H b=some u->¬Mut (some u)->b≠x:=fun b u q nm z=>by subst z;rw[q] at mu;exact nm mu
 refine⟨fun b u q n _ _=>k b u (hb b n) q,fun b u q n _ _=>⟨u.slots,k b u (hb b n) q⟩,fun b u q n _=>by rw[zj (hx b n)];exact n,fun b u q _=>?_,
  fun b xs q=>by rw[zj (hm b _ q fun z=>z)];exact q,fun b u xs q=>by rw[zj (hm b _ q fun z=>z)];exact q,fun b ps q=>⟨#[],by rw[zj (hm b _ q fun z=>z),q];simp⟩⟩
 by_cases hbe:b=e
 ·subst hbe;exact heo
 ·exact⟨u,k b u hbe q⟩
def trk(h:Heap)(H:Hp):List Addr:=(List.range h.objs.size).filter fun a=>(H a).isSome
def zbv(h:Heap)(H:Hp):Heap:=hideAll h (trk h H)
theorem zfk(h:Heap)(H:Hp):(zbv h H).objs.size=h.objs.size:=PySem.W.hideAll_size _ _
theorem zhL{h:Heap}{H:Hp}{b:Addr}{o:Obj}(e:h.get? b=some o)(n:H b=none):(zbv h H).get? b=some o:=
 PySem.W.hideAll_get _ e fun hm=>by
  have q:(H b).isSome=true:=(List.mem_filter.mp hm).2;rw[n] at q;simp at q
theorem zje{h:Heap}{H:Hp}{b:Addr}{o:Obj}(e:(zbv h H).get? b=some o):h.get? b=some o/\H b=none:=by
 have e':h.get? b=some o:=PySem.W.of_hideAll (trk h H) e;exists e',?_;cases q:H b with
 | none=>rfl
 | some x=>
  have hm:b∈trk h H:=List.mem_filter.mpr ⟨List.mem_range.mpr (aI e'),by simp [q]⟩
  have z:(zbv h H).get? b=none:=hideAll_none (trk h H) hm;rw[z] at e;cases e
def zjJ(g h:Heap)(L:Addr):List (Addr×Obj):=(List.range h.objs.size).filterMap fun a=>if a=L\/(g.get? a).isSome=true then none else (h.get? a).map fun o=>(a,o)
def wu(g h:Heap)(L d:Addr):List (Addr×Obj):=(zjJ g h L).filter fun p=>decide (p.1≠d)
structure Mod(K:Frag)(mg:Str->Option Value)(base:Heap):Prop where
 kin:K.In base
 glob:base.Ns mainGlobals mg
 blt:∃mb,base.Ns builtinsNs mb/\∀x:Str,x≠"__name__"->mb x=bootBuiltins x
 nolimit:base.NoLimit
structure Cx where
 prog:Program
 w:World
 K:Frag
 mg:Str->Option Value
 base:Heap
 A:Around
 N:List Str
 s₀:Shared
 H₀:Hp
 env:Env
 outer:List Env
 stack:List Env
 ex:List Addr
 fn:Str->Bool
 calm:Bool
 pn:List (Addr×Obj)
 xe:Value->Shared->Prop
def frs(l:List Env):List Addr:=l.filterMap (·.frame)
end
abbrev Cx.fs(X:Cx):List Addr:=frs X.outer
def Vis(sc:Scope)(x:Str):Prop:=sc.names.lookup x=some .local\/sc.names.lookup x=some .cell\/sc.names.lookup x=some .free
def Loc(sc:Scope)(x:Str):Prop:=sc.names.lookup x=some .local\/sc.names.lookup x=some .cell
def znw(env:Env)(h:Heap)(m:Str->Option Value)(x:Str)(u:Value):Prop:=
 (env.kindOf x=some .local/\m x=some u)\/((env.kindOf x=some .cell\/env.kindOf x=some .free)/\∃c,env.cells.lookup x=some c/\h.IsCell c (some u))
structure Cx.Ok(X:Cx):Prop where
 mod:Mod X.K X.mg X.base
 kind:X.env.scope.kind=.function
 glob:X.env.globals=mainGlobals
 blt:X.env.builtins=builtinsNs
 above:X.s₀.heap.objs.size<=X.env.locals
 inj:∀x y c,X.env.cells.lookup x=some c->X.env.cells.lookup y=some c->x=y
 has:∀x,(X.env.kindOf x=some .cell\/X.env.kindOf x=some .free)->∃c,X.env.cells.lookup x=some c
 cab:∀x c,X.fn x=true->X.env.cells.lookup x=some c->X.s₀.heap.objs.size<=c
 hd:X.calm=true->X.A.handled=none
 frames:X.A.frames=some X.stack
 stk:X.stack=X.outer\/(X.stack=X.env::X.outer/\X.env.frame=some X.env.locals)
 exf:∀b∈X.ex,b≠X.env.locals/\∀x c,X.env.cells.lookup x=some c->c≠b
 bs:∀b o,X.base.get? b=some o->X.s₀.heap.get? b=some o/\X.H₀ b=none
 bsz:X.base.objs.size<=X.s₀.heap.objs.size
 noex:∀b o,X.base.get? b=some o->b∉X.ex
 exfs:∀b∈X.ex,b∉X.fs
 funs:X.s₀.heap.FunFrames X.base X.outer
 frf:∀b∈X.fs,X.H₀ b=none
structure Inv(X:Cx)(pins:PnL)(σ : List (Option V))(H:Hp)(s:Shared):Prop where
 ok:X.Ok
 os:s.os=X.s₀.os
 bare:AllBare s.gens
 base:Un X.fs X.ex X.H₀ H X.s₀.heap s.heap
 loc:∃m,s.heap.Ns X.env.locals m/\∀(i:Nat) (x:Str) (v:V),X.N[i]?=some x->σ[i]?=some (some v)->Vis X.env.scope x->∃u,yf v u/\znw X.env s.heap m x u
 cell:∀x c,X.env.cells.lookup x=some c->∃v,s.heap.IsCell c v
 free:H X.env.locals=none
 freeC:∀x c,X.env.cells.lookup x=some c->H c=none
 pin:∀p∈X.pn++pins,s.heap.get? p.1=some p.2/\H p.1=none/\p.1≠X.env.locals/\p.1∉X.fs/\∀v,p.2.data≠.cell v
 hok:HOk X.prog X.w H s.heap
 len : σ.length=X.N.length
section
variable {X:Cx}{pins:PnL}{σ:List (Option V)}{H H':Hp}{s:Shared}
theorem Cx.Ok.nofr(ok:X.Ok)(e:X.base.get? b=some o):b∉X.fs:=fun hb=>by
 have:=(ok.funs.mem hb).1
 rw[e] at this;cases this
theorem Inv.bs(I:Inv X pins σ H s):∀b o,X.base.get? b=some o->s.heap.get? b=some o/\H b=none:=fun b o e=>
 ⟨I.base.keep b o (I.ok.bs b o e).1 (I.ok.bs b o e).2 (I.ok.nofr e) (I.ok.noex b o e),I.base.free b o (I.ok.bs b o e).1 (I.ok.bs b o e).2 (I.ok.noex b o e)⟩
theorem Inv.bk(I:Inv X pins σ H s):∀b o,X.base.get? b=some o->s.heap.get? b=some o:=fun b o e=>(I.bs b o e).1
theorem Inv.mod(I:Inv X pins σ H s):Mod X.K X.mg X.base:=I.ok.mod
theorem Inv.kIn(I:Inv X pins σ H s):X.K.In s.heap:=I.ok.mod.kin.keeps I.bk
theorem Inv.lt(I:Inv X pins σ H s):X.env.locals<s.heap.objs.size:=let ⟨_,hn,_⟩:=I.loc;hn.lt
theorem Inv.sz(I:Inv X pins σ H s):X.s₀.heap.objs.size<=s.heap.objs.size:=le_trans I.ok.above (le_of_lt I.lt)
theorem Inv.nofs(I:Inv X pins σ H s)(h:s.heap.objs.size<=a):a∉X.fs:=fun hb=>by
 obtain⟨_,o,ho,_⟩:=I.ok.funs.mem hb;exact absurd (lt_of_lt_of_le (aI ho) (le_trans I.sz h)) (lt_irrefl _)
theorem Inv.cne(I:Inv X pins σ H s):∀x c,X.env.cells.lookup x=some c->c≠X.env.locals:=fun x c e z=>by
 obtain⟨v,o,ho,hd⟩:=I.cell x c e;obtain⟨m,⟨o',es,ep,ho',hd',_⟩,_⟩:=I.loc;rw[z,ho'] at ho;cases ho;rw[hd'] at hd;cases hd
theorem Inv.funs(I:Inv X pins σ H s):s.heap.FunFrames X.base X.outer:=by
 have all:∀(l:List Env),(∀b∈frs l,b∈X.fs)->X.s₀.heap.FunFrames X.base l->s.heap.FunFrames X.base l:=by
  intro l;induction l with
  | nil=>intro _ _;trivial
  | cons env r ih=>
   intro hs hl;obtain⟨hk,⟨L,o,hf,hn,ho,hd⟩,hr⟩:=hl;have hL:L∈X.fs:=hs L (by unfold frs;rw[filterMap_cons,hf];exact mem_cons_self)
   obtain⟨sl,e⟩:=I.base.slot L o ho (I.ok.frf L hL) hL fun z=>I.ok.exfs L z hL;exact⟨hk,⟨L,_,hf,hn,e,hd⟩,ih (fun b hb=>hs b (by unfold frs;rw[filterMap_cons,hf];exact mem_cons_of_mem _ hb)) hr⟩
 exact all X.outer (fun _ hb=>hb) I.ok.funs
theorem Inv.stack(I:Inv X pins σ H s):s.heap.FunFrames X.base X.stack:=by
 rcases I.ok.stk with e|⟨e,hf⟩
 ·rw[e];exact I.funs
 ·rw[e]
  obtain⟨m,hn,_⟩:=I.loc;refine .cons (by rw[I.ok.kind];decide) hf hn ?_ I.funs
  exact Heap.get?_none_of_le (le_trans I.ok.bsz I.ok.above)
theorem Inv.stkSub(I:Inv X pins σ H s):∀b∈frs X.stack,b∈X.env.locals::X.fs:=fun b hb=>by
 rcases I.ok.stk with e|⟨e,hf⟩
 ·rw[e] at hb;exact mem_cons_of_mem _ hb
 ·rw[e] at hb
  unfold frs at hb;rw[filterMap_cons,hf] at hb;exact hb
theorem Inv.stkFree(I:Inv X pins σ H s):∀b∈frs X.stack,H b=none:=fun b hb=>by
 rcases List.mem_cons.mp (I.stkSub b hb) with e|hb
 ·rw[e];exact I.free
 ·obtain⟨_,o,ho,_⟩:=I.ok.funs.mem hb
  exact I.base.free b o ho (I.ok.frf b hb) fun z=>I.ok.exfs b z hb
theorem Inv.step{h':Heap}{g':Array GenState}{t':Nat}{d':Drawn}{ch:List Addr}(I:Inv X pins σ H s)
  (hch:∀b∈ch,(b∈X.ex\/X.s₀.heap.objs.size<=b)/\b≠X.env.locals/\(∀x c,X.env.cells.lookup x=some c->c≠b)/\∀p∈X.pn++pins,p.1≠b)
  (keep:∀b o,b≠X.env.locals->b∉X.fs->b∉ch->s.heap.get? b=some o->H b=none->h'.get? b=some o)
  (slot:∀b o,b≠X.env.locals->b∈X.fs->b∉ch->s.heap.get? b=some o->H b=none->∃sl,h'.get? b=some { o with slots:=sl }) (free:∀b o,b∉ch->s.heap.get? b=some o->H b=none->H' b=none)
  (there:∀b o,b∉ch->s.heap.get? b=some o->∃o',h'.get? b=some o')
  (tups:∀b xs,H b=some (.tup xs)->H' b=some (.tup xs)) (frzs:∀b o u,H b=some (.frz o u)->H' b=some (.frz o u)) (tbls:∀b ps,H b=some (.tbl ps)->∃more,H' b=some (.tbl (ps++more)))
  (ns:∀m,s.heap.Ns X.env.locals m->h'.Ns X.env.locals m) (hok:HOk X.prog X.w H' h') (hg:AllBare g') :
  Inv X pins σ H' { s with heap:=h',gens:=g',drawn:=d',toks:=t' }:=by
 have neL:∀b o,X.s₀.heap.get? b=some o->b≠X.env.locals:=fun b o e=>ne_of_lt (lt_of_lt_of_le (aI e) I.ok.above);have neC:∀b o,X.s₀.heap.get? b=some o->b∉X.ex->b∉ch:=fun b o e hx hb=>by
  rcases (hch b hb).1 with z|z
  ·exact hx z
  ·exact absurd (lt_of_lt_of_le (aI e) z) (lt_irrefl _)
 have cellK:∀x c,X.env.cells.lookup x=some c->∀v,s.heap.IsCell c v->h'.IsCell c v:=fun x c e v ⟨o,ho,hd⟩=>by
  have nch:c∉ch:=fun z=>(hch c z).2.2.1 x c e rfl;by_cases hc:c∈X.fs
  ·obtain⟨sl,q⟩:=slot c o (I.cne x c e) hc nch ho (I.freeC x c e)
   exact⟨_,q,hd⟩
  ·exact⟨o,keep c o (I.cne x c e) hc nch ho (I.freeC x c e),hd⟩
 exists I.ok,I.os,hg,⟨fun b o e n hb hx=>?_,fun b o e n hb hx=>?_,fun b o e n hx=>?_,fun b o e hx=>?_,fun b xs e=>tups b xs (I.base.tups b xs e),fun b o xs e=>frzs b o xs (I.base.frzs b o xs e),fun b ps e=>?_⟩,?_,fun x c e=>?_,?_,fun x c e=>?_,fun p hp=>?_,hok,I.len
 ·exact keep b o (neL b o e) hb (neC b o e hx) (I.base.keep b o e n hb hx) (I.base.free b o e n hx)
 ·obtain⟨sl,e1⟩:=I.base.slot b o e n hb hx
  obtain⟨sl',e2⟩:=slot b _ (neL b o e) hb (neC b o e hx) e1 (I.base.free b o e n hx);exact⟨sl',e2⟩
 ·obtain⟨o',e1⟩:=I.base.there b o e hx
  exact free b o' (neC b o e hx) e1 (I.base.free b o e n hx)
 ·obtain⟨o',e1⟩:=I.base.there b o e hx
  exact there b o' (neC b o e hx) e1
 ·obtain⟨m1,e1⟩:=I.base.tbls b ps e
  obtain⟨m2,e2⟩:=tbls b _ e1;exact⟨m1++m2,by rw[e2,Array.append_assoc]⟩
 ·obtain⟨m,hn,hl⟩:=I.loc
  exists m,ns m hn,fun i x v e1 e2 e3=>?_;obtain⟨u,r,l⟩:=hl i x v e1 e2 e3;exists u,r,?_;rcases l with l|⟨k,c,e,z⟩
  ·exact .inl l
  ·exact .inr ⟨k,c,e,cellK x c e _ z⟩
 ·obtain⟨v,z⟩:=I.cell x c e
  exact⟨v,cellK x c e v z⟩
 ·obtain⟨m,⟨o,_,_,ho,_⟩,_⟩:=I.loc
  exact free _ o (fun z=>(hch _ z).2.1 rfl) ho I.free
 ·obtain⟨v,o,ho,hd⟩:=I.cell x c e
  exact free c o (fun z=>(hch c z).2.2.1 x c e rfl) ho (I.freeC x c e)
 ·obtain⟨e,n,ne,nf,d⟩:=I.pin p hp
  have nch:p.1∉ch:=fun z=>(hch p.1 z).2.2.2 p hp rfl;exact⟨keep p.1 p.2 ne nf nch e n,free p.1 p.2 nch e n,ne,nf,d⟩
theorem Inv.un{t':Nat}(I:Inv X pins σ H s)(u:Un X.fs [] H H' s.heap h')(hok:HOk X.prog X.w H' h'):Inv X pins σ H' { s with heap:=h',toks:=t' }:=by
 obtain⟨m,⟨o,es,ep,ho,r⟩,_⟩:=id I.loc;obtain⟨sl,hL⟩:=u.any ho I.free (by simp)
 exact I.step (g':=s.gens) (d':=s.drawn) (ch:=[]) (fun _ z=>nomatch z) (fun b o _ hb _ e n=>u.keep b o e n hb (by simp)) (fun b o _ hb _ e n=>u.slot b o e n hb (by simp)) (fun b o _ e n=>u.free b o e n (by simp)) (fun b o _ e=>u.there b o e (by simp)) u.tups u.frzs u.tbls (fun m' hm=>by
  obtain⟨o',es',ep',ho',r'⟩:=hm;rw[ho] at ho';cases ho';exact⟨_,es',ep',hL,r'⟩) hok I.bare
theorem Inv.call{t':Nat}(I:Inv X pins σ H s)(u:Un (frs X.stack) ch H H' s.heap h')(hok:HOk X.prog X.w H' h')(hg:AllBare g')
  (hch:∀b∈ch,(b∈X.ex\/X.s₀.heap.objs.size<=b)/\b≠X.env.locals/\(∀x c,X.env.cells.lookup x=some c->c≠b)/\∀p∈X.pn++pins,p.1≠b) :
  Inv X pins σ H' { s with heap:=h',gens:=g',drawn:=d',toks:=t' }:=by
 obtain⟨m,⟨o,es,ep,ho,r⟩,_⟩:=id I.loc;obtain⟨sl,hL⟩:=u.any ho I.free fun z=>(hch _ z).2.1 rfl;exact I.step (ch:=ch) hch (fun b o hL hb hc e n=>u.keep b o e n (fun z=>(List.mem_cons.mp (I.stkSub b z)).elim hL hb) hc) (fun b o _ _ hc e n=>u.any e n hc) (fun b o hc e n=>u.free b o e n hc) (fun b o hc e=>u.there b o e hc) u.tups u.frzs u.tbls (fun m' hm=>by
  obtain⟨o',es',ep',ho',r'⟩:=hm;rw[ho] at ho';cases ho';exact⟨_,es',ep',hL,r'⟩) hok hg
theorem Inv.turned{t':Nat}(I:Inv X pins σ H s)(k:∀b o,b≠it->s.heap.get? b=some o->h'.get? b=some o)(hn:H it=none)(hL:it≠X.env.locals)
  (h1:it∈X.ex\/X.s₀.heap.objs.size<=it) (h2:∀x c,X.env.cells.lookup x=some c->c≠it) (h3:∀p∈X.pn++pins,p.1≠it):Inv X pins σ H { s with heap:=h',toks:=t' }:=by
 have nit:∀b u,H b=some u->b≠it:=fun b u e z=>by rw[z,hn] at e;cases e
 refine I.step (g':=s.gens) (d':=s.drawn) (ch:=[it]) (fun b hb=>?_) (fun b o _ _ hc e _=>k b o (fun z=>hc (by simp [z])) e) (fun b o _ _ hc e _=>⟨o.slots,k b o (fun z=>hc (by simp [z])) e⟩) (fun _ _ _ _ n=>n)
  (fun b o hc e=>⟨o,k b o (fun z=>hc (by simp [z])) e⟩) (fun _ _ e=>e) (fun _ _ _ e=>e) (fun b ps e=>⟨#[],by rw[e];simp⟩) (fun m hm=>?_) (fun b u e=>?_) I.bare
 ·have e:b=it:=by simpa using hb
  subst e;exact⟨h1,hL,h2,h3⟩
 ·obtain⟨o,es,ep,ho,r⟩:=hm
  exact⟨o,es,ep,k _ o (Ne.symm hL) ho,r⟩
 ·refine(I.hok b u e).stay (fun c v hc q=>k c v ?_ q) (fun _ q=>q) fun _ _ q=>q
  rcases hc with z|z
  ·rw[z];exact nit b u e
  ·exact nit c _ z
theorem Inv.tok(I:Inv X pins σ H s)(t:Nat):Inv X pins σ H { s with toks:=t }:=I.un (h':=s.heap) (t':=t) Un.refl I.hok
theorem Inv.kept{t':Nat}(I:Inv X pins σ H s)(k:∀b u,s.heap.get? b=some u->h'.get? b=some u):Inv X pins σ H { s with heap:=h',toks:=t' }:=I.un (Un.kept k) (I.hok.kept k)
theorem Inv.laid{t':Nat}(I:Inv X pins σ H s)(k:∀b u,s.heap.get? b=some u->h'.get? b=some u)(hp:s.heap.objs.size<=a)(new:yR X.prog X.w (upd H a o) h' a o):
  Inv X pins σ (upd H a o) { s with heap:=h',toks:=t' }:=I.un (Un.laid k hp (I.hok.fresh hp)) (I.hok.laid k hp new)
theorem Inv.write{t':Nat}(I:Inv X pins σ H s)(mu:Mut (H x))(he:e=x\/H e=some (.own x))(k:∀b u,b≠e->s.heap.get? b=some u->h'.get? b=some u)(heo:∃u,h'.get? e=some u)
  (new:yR X.prog X.w (upd H x o) h' x o):Inv X pins σ (upd H x o) { s with heap:=h',toks:=t' }:=I.un (Un.write mu he k heo) (I.hok.write mu he k heo new)
theorem Inv.weak(I:Inv X pins σ H s)(hl : σ'.length=σ.length)(w:∀(i:Nat) v,σ'[i]?=some (some v)->σ[i]?=some (some v)):Inv X pins σ' H s:=
 ⟨I.ok,I.os,I.bare,I.base,let ⟨m,hn,hl'⟩:=I.loc;⟨m,hn,fun i x v e1 e2 e3=>hl' i x v e1 (w i v e2) e3⟩,I.cell,I.free,I.freeC,I.pin,I.hok,hl.trans I.len⟩
theorem Inv.pins_of(I:Inv X pins σ H s)(h:∀p∈pins',s.heap.get? p.1=some p.2/\H p.1=none/\p.1≠X.env.locals/\p.1∉X.fs/\∀v,p.2.data≠.cell v):Inv X pins' σ H s:=
 ⟨I.ok,I.os,I.bare,I.base,I.loc,I.cell,I.free,I.freeC,fun p hp=>(List.mem_append.mp hp).elim (fun z=>I.pin p (mem_append_left _ z)) (h p),I.hok,I.len⟩
theorem qH{N:List Str}(hN:N.Nodup){i j:Nat}{x:Str}(a:N[i]?=some x)(b:N[j]?=some x):i=j:=by
 obtain⟨h1,e1⟩:=List.getElem?_eq_some_iff.mp a;obtain⟨h2,e2⟩:=List.getElem?_eq_some_iff.mp b;exact(List.getElem_inj hN).mp (e1.trans e2.symm)
theorem zau{E:VSP}{i:Nat}{Q:Unit->Shared->Prop}(I:Inv X pins σ H s)(hN:X.N.Nodup)(hi:X.N[i]?=some x)(hx:Loc X.env.scope x)(r:yf v u)
  (h:∀s',Inv X pins (σ.set i (some v)) H s'->(∃a,Heap.SameBut a s.heap s'.heap/\(a=X.env.locals\/X.env.cells.lookup x=some a))->Q () s') (hf:X.fn x=true\/X.env.scope.names.lookup x=some .local:=by first|exact .inl rfl|exact .inr rfl|assumption):wpAny M A (storeName X.env x u) Q E s:=by
 obtain⟨m,hn,hl⟩:=id I.loc;have hcls:(X.env.scope.kind==.class||(X.env.scope.kind==.module&&X.env.locals != X.env.globals))=false:=by rw[I.ok.kind];rfl
 have hiσ : i<σ.length:=by rw[I.len];exact(List.getElem?_eq_some_iff.mp hi).1
 have cne:=I.cne;have tracked:∀{a:Addr}{h':Heap},(∃o,s.heap.get? a=some o/\H a=none)->Heap.SameBut a s.heap h'->HOk X.prog X.w H h':=fun {a h'} ha hs b ob e=>by
  obtain⟨_,_,hfree⟩:=ha;refine(I.hok b ob e).stay (fun c w' hc q=>(hs.2 c ?_).trans q) (fun _ q=>q) fun _ _ q=>q;rintro rfl;rcases hc with rfl|hc
  ·rw[hfree] at e;cases e
  ·rw[hfree] at hc;cases hc
 rcases hx with hk|hk
 ·refine wpAny_storeName_local hk hn (fun h' hn' hs=>?_) hcls
  obtain⟨oL,_,_,hoL,_⟩:=id hn;refine h _ ⟨I.ok,I.os,I.bare,⟨fun b o e n hb hx=>?_,fun b o e n hb hx=>?_,I.base.free,fun b o e hx=>?_,I.base.tups,I.base.frzs,I.base.tbls⟩,⟨_,hn',fun j y v' e1 e2 e3=>?_⟩,fun y c e=>?_,I.free,I.freeC,fun p hp=>?_,tracked ⟨oL,hoL,I.free⟩ hs,by simpa using I.len⟩ ⟨_,hs,.inl rfl⟩
  ·exact(hs.2 b (ne_of_lt (lt_of_lt_of_le (aI e) I.ok.above))).trans (I.base.keep b o e n hb hx)
  ·obtain⟨sl,e1⟩:=I.base.slot b o e n hb hx
   exact⟨sl,(hs.2 b (ne_of_lt (lt_of_lt_of_le (aI e) I.ok.above))).trans e1⟩
  ·obtain⟨o',e1⟩:=I.base.there b o e hx
   exact⟨o',(hs.2 b (ne_of_lt (lt_of_lt_of_le (aI e) I.ok.above))).trans e1⟩
  ·by_cases hj:j=i
   ·subst hj
    rw[hi] at e1;cases e1;rw[getElem?_set_self hiσ] at e2;cases e2;exact⟨u,r,.inl ⟨hk,by simp⟩⟩
   ·rw[getElem?_set_ne (Ne.symm hj)] at e2
    obtain⟨u',r',q⟩:=hl j y v' e1 e2 e3;exists u',r',?_;rcases q with ⟨k,e⟩|⟨k,c,e,z⟩
    ·refine .inl ⟨k,?_⟩
     have:y≠x:=fun e=>hj (qH hN e1 (e ▸ hi))
     simp [this,e]
    ·exact .inr ⟨k,c,e,z.sameBut hs (cne y c e)⟩
  ·obtain⟨w',z⟩:=I.cell y c e
   exact⟨w',z.sameBut hs (cne y c e)⟩
  ·obtain⟨e,n,ne,nf,d⟩:=I.pin p hp
   exact⟨(hs.2 p.1 ne).trans e,n,ne,nf,d⟩
 ·have hfn:X.fn x=true:=by
   rcases hf with z|z
   ·exact z
   ·rw[z] at hk;cases hk
  obtain⟨c,hc⟩:=I.ok.has x (.inl hk);obtain⟨w',z⟩:=I.cell x c hc;refine wpAny_storeName_cell I.ok.kind hk hc z (fun h' hc' hs=>?_);obtain⟨oc,hoc,hocd⟩:=id z;refine h { s with heap:=h' } ⟨I.ok,I.os,I.bare,⟨fun b o e n hb hx=>?_,fun b o e n hb hx=>?_,I.base.free,fun b o e hx=>?_,I.base.tups,I.base.frzs,I.base.tbls⟩,⟨m,hn.sameBut hs (Ne.symm (cne x c hc)),fun j y v' e1 e2 e3=>?_⟩,fun y c' e=>?_,I.free,I.freeC,fun p hp=>?_,tracked ⟨oc,hoc,I.freeC x c hc⟩ hs,by simpa using I.len⟩ ⟨c,hs,.inr hc⟩
  ·exact(hs.2 b (ne_of_lt (lt_of_lt_of_le (aI e) (I.ok.cab x c hfn hc)))).trans (I.base.keep b o e n hb hx)
  ·obtain⟨sl,e1⟩:=I.base.slot b o e n hb hx
   exact⟨sl,(hs.2 b (ne_of_lt (lt_of_lt_of_le (aI e) (I.ok.cab x c hfn hc)))).trans e1⟩
  ·obtain⟨o',e1⟩:=I.base.there b o e hx
   exact⟨o',(hs.2 b (ne_of_lt (lt_of_lt_of_le (aI e) (I.ok.cab x c hfn hc)))).trans e1⟩
  ·by_cases hj:j=i
   ·subst hj
    rw[hi] at e1;cases e1;rw[getElem?_set_self hiσ] at e2;cases e2;exact⟨u,r,.inr ⟨.inl hk,c,hc,hc'⟩⟩
   ·rw[getElem?_set_ne (Ne.symm hj)] at e2
    obtain⟨u',r',q⟩:=hl j y v' e1 e2 e3;exists u',r',?_;rcases q with q|⟨k,c',e,z'⟩
    ·exact .inl q
    ·refine .inr ⟨k,c',e,z'.sameBut hs ?_⟩
     rintro rfl;exact hj (qH hN e1 (I.ok.inj _ _ _ e hc ▸ hi))
  ·by_cases hcc:c'=c
   ·subst hcc;exact⟨_,hc'⟩
   ·obtain⟨w2,z2⟩:=I.cell y c' e
    exact⟨w2,z2.sameBut hs hcc⟩
  ·obtain⟨e,n,ne,nf,d⟩:=I.pin p hp
   exists (hs.2 p.1 ?_).trans e,n,ne,nf,d;intro q;rw[q,hoc] at e;have q':oc=p.2:=Option.some.inj e;exact d w' (by rw[<- q'];exact hocd)
theorem vO{E:VSP}{i:Nat}{Q:Unit->Shared->Prop}(I:Inv X pins σ H s)(hN:X.N.Nodup)(hi:X.N[i]?=some x)(hx:Loc X.env.scope x)(r:yf v u)
  (h:∀s',Inv X pins (σ.set i (some v)) H s'->Q () s') (hf:X.fn x=true\/X.env.scope.names.lookup x=some .local:=by first|exact .inl rfl|exact .inr rfl|assumption):wpAny M A (storeName X.env x u) Q E s:=
 zau I hN hi hx r (fun s' I' _=>h s' I') hf
theorem Inv.call'(I:Inv X pins σ H s)(ho:s'.os=s.os)(u:Un (frs X.stack) ch H H' s.heap s'.heap)(hok:HOk X.prog X.w H' s'.heap)(hg:AllBare s'.gens)
  (hch:∀b∈ch,(b∈X.ex\/X.s₀.heap.objs.size<=b)/\b≠X.env.locals/\(∀x c,X.env.cells.lookup x=some c->c≠b)/\∀p∈X.pn++pins,p.1≠b):Inv X pins σ H' s':=by
 obtain⟨h',g',d',t',o'⟩:=s';have e:o'=s.os:=ho;subst e;exact I.call (g':=g') (t':=t') (d':=d') u hok hg hch
abbrev XK:=Value->Option Addr->Hp->Prop
abbrev St:=List (Option V)
abbrev VK:=V->Hp->Prop
abbrev TE:=St->Hp->VK->Prop
abbrev TT:=St->Hp->(Bool->Hp->Prop)->Prop
abbrev TA:=St->Hp->(List V->Hp->Prop)->Prop
structure vH where
 nx:St->Hp->Prop
 rt:VK
 bk:St->Hp->Prop:=fun _ _=>False
 ct:St->Hp->Prop:=fun _ _=>False
abbrev TS:=vH->St->Hp->Prop
def EP(X:Cx)(pins:PnL)(σ : St)(Q:VK)(u:Value)(s':Shared):Prop:=∃v H',Inv X pins σ H' s'/\yf v u/\Q v H'
def TP(X:Cx)(pins:PnL)(σ : St)(Q:Bool->Hp->Prop)(b:Bool)(s':Shared):Prop:=∃H',Inv X pins σ H' s'/\Q b H'
def AP(X:Cx)(pins:PnL)(σ : St)(Q:List V->Hp->Prop)(us:List Value)(s':Shared):Prop:=∃vs H',Inv X pins σ H' s'/\yb vs us/\Q vs H'
def SP(X:Cx)(pins:PnL)(D:vH)(f:Flow)(s':Shared):Prop:=
 match f with
 | .next=>∃σ' H',Inv X pins σ' H' s'/\D.nx σ' H'
 | .brk=>∃σ' H',Inv X pins σ' H' s'/\D.bk σ' H'
 | .cont=>∃σ' H',Inv X pins σ' H' s'/\D.ct σ' H'
 | .ret u=>∃v σ' H',Inv X pins σ' H' s'/\yf v u/\D.rt v H'
structure PE(X:Cx)(e:Expr)(t:TE):Prop where
 run:∀(pins:PnL) (s:Shared) (σ : St) (H:Hp) (Q:VK),Inv X pins σ H s->t σ H Q->↑X (eval e X.env) (EP X pins σ Q) X.xe s
instance {X:Cx}{e:Expr}{t:TE}:CoeFun (PE X e t) (fun _=>∀(pins:PnL) (s:Shared) (σ : St) (H:Hp) (Q:VK),Inv X pins σ H s->t σ H Q->↑X (eval e X.env) (EP X pins σ Q) X.xe s):=⟨PE.run⟩
structure PT(X:Cx)(e:Expr)(t:TT):Prop where
 run:∀(pins:PnL) (s:Shared) (σ : St) (H:Hp) (Q:Bool->Hp->Prop),Inv X pins σ H s->t σ H Q->↑X (isTrue e X.env (eval e X.env)) (TP X pins σ Q) X.xe s
instance {X:Cx}{e:Expr}{t:TT}:CoeFun (PT X e t) (fun _=>∀(pins:PnL) (s:Shared) (σ : St) (H:Hp) (Q:Bool->Hp->Prop),Inv X pins σ H s->t σ H Q->↑X (isTrue e X.env (eval e X.env)) (TP X pins σ Q) X.xe s):=⟨PT.run⟩
structure PW(X:Cx)(e:Expr)(t:TT):Prop where
 run:∀(whole:Sem Value) (pins:PnL) (s:Shared) (σ : St) (H:Hp) (Q:Bool->Hp->Prop),Inv X pins σ H s->t σ H Q->↑X (isTrue e X.env whole) (TP X pins σ Q) X.xe s
instance {X:Cx}{e:Expr}{t:TT}:CoeFun (PW X e t) (fun _=>∀(whole:Sem Value) (pins:PnL) (s:Shared) (σ : St) (H:Hp) (Q:Bool->Hp->Prop),Inv X pins σ H s->t σ H Q->↑X (isTrue e X.env whole) (TP X pins σ Q) X.xe s):=⟨PW.run⟩
theorem xy{t:TT}(h:PW X e t):PT X e t:=⟨h _⟩
structure PA(X:Cx)(es:List Expr)(t:TA):Prop where
 run:∀(pos:Pos) (pins:PnL) (s:Shared) (σ : St) (H:Hp) (Q:List V->Hp->Prop),Inv X pins σ H s->t σ H Q->↑X (spliced (backTo pos (starEach es X.env))) (AP X pins σ Q) X.xe s
instance {X:Cx}{es:List Expr}{t:TA}:CoeFun (PA X es t) (fun _=>∀(pos:Pos) (pins:PnL) (s:Shared) (σ : St) (H:Hp) (Q:List V->Hp->Prop),Inv X pins σ H s->t σ H Q->↑X (spliced (backTo pos (starEach es X.env))) (AP X pins σ Q) X.xe s):=⟨PA.run⟩
structure PS(X:Cx)(st:Stmt)(t:TS):Prop where
 run:∀(pins:PnL) (s:Shared) (σ : St) (H:Hp) (D:vH),Inv X pins σ H s->t D σ H->↑X (exec st X.env) (SP X pins D) X.xe s
instance {X:Cx}{st:Stmt}{t:TS}:CoeFun (PS X st t) (fun _=>∀(pins:PnL) (s:Shared) (σ : St) (H:Hp) (D:vH),Inv X pins σ H s->t D σ H->↑X (exec st X.env) (SP X pins D) X.xe s):=⟨PS.run⟩
structure PSs(X:Cx)(st:List Stmt)(t:TS):Prop where
 run:∀(pins:PnL) (s:Shared) (σ : St) (H:Hp) (D:vH),Inv X pins σ H s->t D σ H->↑X (execs st X.env) (SP X pins D) X.xe s
instance {X:Cx}{st:List Stmt}{t:TS}:CoeFun (PSs X st t) (fun _=>∀(pins:PnL) (s:Shared) (σ : St) (H:Hp) (D:vH),Inv X pins σ H s->t D σ H->↑X (execs st X.env) (SP X pins D) X.xe s):=⟨PSs.run⟩
theorem thn{α : Type}{t:Sem α}{Q Q' : α->Shared->Prop}{E:VSP}(h:wpAny M A t Q E s)(hQ:∀a s,Q a s->Q' a s):wpAny M A t Q' E s:=wpAny_mono h hQ fun _ _ x=>x
inductive zny(i:Nat)(σ : St)(H:Hp)(Q:VK):Prop where
 | mk (v:V) (e : σ[i]?=some (some v)) (q:Q v H)
def ja(i:Nat):TE:=fun σ H Q=>zny i σ H Q
def tC(v:V):TE:=fun _ H Q=>Q v H
theorem zkV{i:Nat}(hN:X.N[i]?=some x)(hv:Vis X.env.scope x)(hd:(x==("__debug__" : Str))=false:=by decide)(hcd:(x==("__classdict__" : Str))=false:=by decide):PE X (.Name x pos) (ja i):=by
 and_intros;obtain⟨v,e,h⟩:=h;obtain⟨m,hn,hl⟩:=I.loc;obtain⟨u,r,l⟩:=hl i x v hN e hv;have fin:EP X pins σ Q u s:=⟨v,H,I,r,h⟩;rcases l with ⟨hk,hm⟩|⟨hk,c,hc,hcell⟩
 ·exact wpAny_Name (wpAny_loadName_local I.ok.kind hk hn hm fin) hd
 ·rcases hk with hk|hk
  ·exact wpAny_Name (wpAny_loadName_cell I.ok.kind hk hc hcell fin) hd
  ·exact wpAny_Name (wpAny_loadName_free I.ok.kind hk hc hcell fin hcd) hd
theorem zf{i j pos}:PE X (.Constant (.int i) j pos) (tC (.int i)):=⟨fun _ _ _ H _ I h=>wpAny_Constant_int ⟨.int i,H,I.tok _,⟨_,rfl⟩,h⟩⟩
theorem vo{b j pos}:PE X (.Constant (.bool b) j pos) (tC (.bl b)):=⟨fun _ _ _ H _ I h=>Constant_bool ⟨.bl b,H,I,rfl,h⟩⟩
theorem jA{j pos}:PE X (.Constant .none j pos) (tC .non):=⟨fun _ _ _ H _ I h=>Constant_none ⟨.non,H,I,rfl,h⟩⟩
theorem zy{x j pos}:PE X (.Constant (.str x) j pos) (tC (.str x)):=⟨fun _ _ _ H _ I h=>Calls.Constant_str ⟨.str x,H,I.tok _,⟨_,rfl⟩,h⟩⟩
def Gl(X:Cx)(x:Str):Prop:=X.env.kindOf x=some .globalImplicit
theorem vE{E:VSP}{Q:VSP}(I:Inv X pins σ H s)(hg:Gl X x)(hm:X.mg x=some u)(h:Q u s)
  (hd:(x==("__debug__" : Str))=false:=by decide):↑X (eval (.Name x pos) X.env) Q E s:=
 Calls.Name_function_global I.ok.kind hg (Calls.loadGlobal_global (by rw[I.ok.glob];exact I.mod.glob.keeps I.bk) hm h) hd
theorem uV{E:VSP}{Q:VSP}(I:Inv X pins σ H s)(hg:Gl X x)(hm:X.mg x=none)(hv:bootBuiltins x=some u)(h:Q u s)
  (hn:x≠"__name__":=by decide) (hd:(x==("__debug__" : Str))=false:=by decide):↑X (eval (.Name x pos) X.env) Q E s:=by
 obtain⟨mb,h1,h2⟩:=I.mod.blt;exact Calls.Name_function_global I.ok.kind hg (Calls.loadGlobal_builtin (by rw[I.ok.glob];exact I.mod.glob.keeps I.bk) hm (by rw[I.ok.blt];exact h1.keeps I.bk) ((h2 x hn).trans hv) h) hd
theorem xH(hg:Gl X x)(hm:X.mg x=some u)(r:yf v u)(hd:(x==("__debug__" : Str))=false:=by decide):PE X (.Name x pos) (tC v):=⟨fun _ _ _ H _ I h=>vE I hg hm ⟨v,H,I,r,h⟩ hd⟩
theorem ziO(hg:Gl X x)(hm:X.mg x=none)(hv:bootBuiltins x=some u)(r:yf v u)(hn:x≠"__name__":=by decide)(hd:(x==("__debug__" : Str))=false:=by decide):PE X (.Name x pos) (tC v):=⟨fun _ _ _ H _ I h=>uV I hg hm hv ⟨v,H,I,r,h⟩ hn hd⟩
variable {a b:Expr}{ta tb:TE}
structure PC(X:Cx)(op:CmpOp)(a b:Expr)(t:TE):Prop where
 run:∀(pins:PnL) (s:Shared) (σ : St) (H:Hp) (Q:VK),Inv X pins σ H s->t σ H Q->
  ↑X (eval a X.env) (fun v s₁=>↑X (eval b X.env) (fun u s₂=>↑X (compareOp op v u) (EP X pins σ Q) X.xe s₂) X.xe s₁) X.xe s
instance {X:Cx}{op:CmpOp}{a b:Expr}{t:TE}:CoeFun (PC X op a b t) (fun _=>∀(pins:PnL) (s:Shared) (σ : St) (H:Hp) (Q:VK),Inv X pins σ H s->t σ H Q->
  ↑X (eval a X.env) (fun v s₁=>↑X (eval b X.env) (fun u s₂=>↑X (compareOp op v u) (EP X pins σ Q) X.xe s₂) X.xe s₁) X.xe s):=⟨PC.run⟩
theorem zcb(b:Expr)(h:op≠.In)(h2:op≠.NotIn):behindInMarks op b=false:=by
 have e1:(op==CmpOp.In)=false:=by cases op <;> first|rfl|exact absurd rfl h
 have e2:(op==CmpOp.NotIn)=false:=by cases op <;> first|rfl|exact absurd rfl h2
 cases b <;> simp [behindInMarks,e1,e2]
def zmN(ta:TE):TE:=fun σ H Q=>ta σ H fun x H1=>Q (.bl (decide (x=.non))) H1
def zlL(ta:TE):TE:=fun σ H Q=>ta σ H fun x H1=>Q (.bl (!decide (x=.non))) H1
theorem yf.none_iff(r:yf x v):(v==Value.none)=decide (x=.non):=by
 cases x with
 | non=>cases r;rfl
 | bl _=>cases r;rfl
 | int _=>obtain⟨t,rfl⟩:=r;rfl
 | str _=>obtain⟨t,rfl⟩:=r;rfl
 | byt _=>obtain⟨t,rfl⟩:=r;rfl
 | flt _=>obtain⟨t,rfl⟩:=r;rfl
 | ref _=>cases r;rfl
 | ty _=>cases r;rfl
theorem wA{j pos'}(ha:PE X a ta):PC X .Is a (.Constant .none j pos') (zmN ta):=by
 and_intros;refine thn (ha pins s σ H _ I h) fun v s1 ⟨x,H1,I1,r1,q1⟩=>?_;exact Constant_none (is_none_gen ⟨.bl _,H1,I1,by rw[r1.none_iff];rfl,q1⟩)
theorem zbo{j pos'}(ha:PE X a ta):PC X .IsNot a (.Constant .none j pos') (zlL ta):=by
 and_intros;refine thn (ha pins s σ H _ I h) fun v s1 ⟨x,H1,I1,r1,q1⟩=>?_;exact Constant_none (isnot_none_gen ⟨.bl _,H1,I1,by rw[r1.none_iff];rfl,q1⟩)
def tB(t:TE):TT:=fun σ H Q=>t σ H fun x H1=>∃c,x=.bl c/\Q c H1
theorem zgJ{t:TE}(h:PC X op a b t)(h1:behindInMarks op b=false:=by first|exact zcb _ ⋯ ⋯|rfl):PE X (.Compare a [op] [b] pos) t:=⟨fun pins s σ H Q I hw=>wpAny_Compare1 (h pins s σ H Q I hw) h1⟩
theorem xT{t:TE}(h:PC X op a b t)(h1:behindInMarks op b=false:=by first|exact zcb _ ⋯ ⋯|rfl):PT X (.Compare a [op] [b] pos) (tB t):=by
 exists ?_;intro pins s σ H Q I hw;refine wpAny_isTrue_Compare1 (thn (h pins s σ H _ I hw) fun v s1 h1=>thn h1 fun u s2 h2=>thn h2 fun c s3 ⟨x,H1,I1,r1,q1⟩=>?_) h1;obtain⟨d,rfl,q⟩:=q1;cases r1;exact wpAny_truthy_bool ⟨H1,I1,q⟩
theorem y7{t:TE}(h:PE X e t)(he:∀whole,isTrue e X.env whole=(do let v <- whole;standAt e.pos;holding [v] (truthy v)):=by intro _;rfl):PT X e (tB t):=by
 exists ?_;intro pins s σ H Q I hw;refine isTrue_plain (thn (h pins s σ H _ I hw) fun v s1 ⟨x,H1,I1,r1,q1⟩=>?_) (he _);obtain⟨d,rfl,q⟩:=q1;cases r1;exact wpAny_truthy_bool ⟨H1,I1,q⟩
variable {tA tB':TT}
def zmS(t u:TT):TT:=fun σ H Q=>t σ H fun c H1=>if c=true then u σ H1 Q else Q false H1
def tOr(t u:TT):TT:=fun σ H Q=>t σ H fun c H1=>if c=true then Q true H1 else u σ H1 Q
def zmM(t:TT):TT:=fun σ H Q=>t σ H fun c H1=>Q (!c) H1
theorem y9(ha:PT X a tA):PW X (.BoolOp .And [a] pos) tA:=by
 exists ?_;intro wh pins s σ H Q I h;refine isTrue_and (thn (ha pins s σ H Q I h) fun c s1 e=>?_);cases c with
 | true=>exact isTrue_and_nil e
 | false=>exact e
theorem vV(ha:PT X a tA):PW X (.BoolOp .Or [a] pos) tA:=by
 exists ?_;intro wh pins s σ H Q I h;refine isTrue_or (thn (ha pins s σ H Q I h) fun c s1 e=>?_);cases c with
 | false=>exact isTrue_or_nil e
 | true=>exact e
theorem xr{pos:Pos}{wu:List Expr}(ha:PT X a tA)(hb:PW X (.BoolOp .And (b::wu) pos) tB'):PW X (.BoolOp .And (a::b::wu) pos) (zmS tA tB'):=by
 exists ?_;intro wh pins s σ H Q I h;refine isTrue_and (thn (ha pins s σ H _ I h) fun c s1 ⟨H1,I1,q1⟩=>?_);cases c with
 | true=>exact hb wh pins s1 σ H1 Q I1 q1
 | false=>exact⟨H1,I1,q1⟩
theorem jh{pos:Pos}{wu:List Expr}(ha:PT X a tA)(hb:PW X (.BoolOp .Or (b::wu) pos) tB'):PW X (.BoolOp .Or (a::b::wu) pos) (tOr tA tB'):=by
 exists ?_;intro wh pins s σ H Q I h;refine isTrue_or (thn (ha pins s σ H _ I h) fun c s1 ⟨H1,I1,q1⟩=>?_);cases c with
 | true=>exact⟨H1,I1,q1⟩
 | false=>exact hb wh pins s1 σ H1 Q I1 q1
theorem vA(ha:PT X a tA):PT X (.UnaryOp .Not a pos) (zmM tA):=by
 and_intros;exact isTrue_not (ha pins s σ H (fun c H1=>Q (!c) H1) I h)
def zlP(ta tb:TE):TE:=fun σ H Q=>ta σ H fun x H1=>∃c,x=.bl c/\if c=true then tb σ H1 Q else Q (.bl false) H1
def zlK(ta:TE):TE:=fun σ H Q=>ta σ H fun x H1=>∃c,x=.bl c/\Q (.bl (!c)) H1
theorem zgE{op}{t:TE}(h:PE X a t):PE X (.BoolOp op [a] pos) t:=⟨fun pins s σ H Q I hw=>BoolOp_one (h pins s σ H Q I hw)⟩
theorem zgL{pos:Pos}{wu:List Expr}(ha:PE X a ta)(hb:PE X (.BoolOp .And (b::wu) pos) tb):PE X (.BoolOp .And (a::b::wu) pos) (zlP ta tb):=by
 and_intros;refine BoolOp_and (thn (ha pins s σ H _ I h) fun v s1 ⟨x,H1,I1,r1,q1⟩=>?_);obtain⟨c,rfl,q1⟩:=q1;cases r1;refine wpAny_truthy_bool ?_;cases c with
 | true=>exact hb pins s1 σ H1 Q I1 q1
 | false=>exact⟨.bl false,H1,I1,rfl,q1⟩
theorem zgF(ha:PE X a ta):PE X (.UnaryOp .Not a pos) (zlK ta):=by
 and_intros;refine UnaryOp_ (thn (ha pins s σ H _ I h) fun v s1 ⟨x,H1,I1,r1,q1⟩=>?_);obtain⟨c,rfl,q1⟩:=q1;cases r1;exact not_of (wpAny_truthy_bool ⟨.bl (!c),H1,I1,rfl,q1⟩)
def tIf(t:TT)(ta tb:TE):TE:=fun σ H Q=>t σ H fun c H1=>if c=true then ta σ H1 Q else tb σ H1 Q
theorem qE(hc:PT X c tA)(ha:PE X a ta)(hb:PE X b tb):PE X (.IfExp c a b pos) (tIf tA ta tb):=by
 and_intros;refine wpAny_IfExp (thn (hc pins s σ H _ I h) fun d s1 ⟨H1,I1,q1⟩=>?_);cases d with
 | true=>exact ha pins s1 σ H1 Q I1 q1
 | false=>exact hb pins s1 σ H1 Q I1 q1
def SqL(K:Frag)(H:Hp)(a:Addr)(xs:List V):Prop:=
 Rd H a (.lst xs)\/
  ∃(o:Obj) (its:Array Value) (n:Nat),K.lookup a=some o/\o.cls=.type "list"/\o.dict=none/\o.data=.seq its n/\its.size<=sizeLine/\yb xs its.toList
def SqT(K:Frag)(H:Hp)(a:Addr)(xs:List V):Prop:=
 Rd H a (.tup xs)\/
  ∃(o:Obj) (its:Array Value) (n:Nat),K.lookup a=some o/\o.cls=.type "tuple"/\o.data=.seq its n/\its.size<=sizeLine/\yb xs its.toList
def zns:Value->Option V
 | .none=>some .non
 | .bool b=>some (.bl b)
 | .int i _=>some (.int i)
 | .str x _=>some (.str x)
 | .bytes b _=>some (.byt b)
 | .float b _=>some (.flt b)
 | .ref a=>some (.ref a)
 | .type n=>some (.ty n)
 | _=>none
theorem yf.abs(r:yf x u):zns u=some x:=by
 cases x with
 | non=>cases r;rfl
 | bl _=>cases r;rfl
 | int _=>obtain⟨t,rfl⟩:=r;rfl
 | str _=>obtain⟨t,rfl⟩:=r;rfl
 | byt _=>obtain⟨t,rfl⟩:=r;rfl
 | flt _=>obtain⟨t,rfl⟩:=r;rfl
 | ref _=>cases r;rfl
 | ty _=>cases r;rfl
theorem yf.inj(r:yf x u)(q:yf y u):x=y:=Option.some.inj (r.abs.symm.trans q.abs)
theorem yb.inj:∀{xs ys:List V}{us:List Value},yb xs us->yb ys us->xs=ys
 | _,_,_,.nil,.nil=>rfl
 | _,_,_,.cons r t,.cons r' t'=>by rw[r.inj r',yb.inj t t']
end
section
variable {X:Cx}{pins:PnL}{σ:St}{H:Hp}{s:Shared}{a:Addr}{xs ys:List V}
theorem zh{K:Frag}(h:H a=some (.lst xs)):SqL K H a xs:=.inl (.inl h)
theorem zF{K:Frag}(h:H a=some (.tup xs)):SqT K H a xs:=.inl (.inl h)
theorem Inv.list(I:Inv X pins σ H s)(h:SqL X.K H a xs):∃its:List Value,yb xs its/\PlainL s.heap a its.toArray/\xs.length<=sizeLine:=by
 rcases h with h|⟨o,its,n,hk,hc,hd,hs,hz,r⟩
 ·obtain⟨z,its,n,r,e⟩:=h.ok I.hok
  exact⟨its,r,⟨_,n,e,rfl,rfl,rfl⟩,z⟩
 ·exists its.toList,r,⟨o,n,I.kIn a o hk,hc,hd,by simpa using hs⟩,?_
  have e:=r.length;simp only[Array.length_toList] at e;omega
theorem Inv.tuple(I:Inv X pins σ H s)(h:SqT X.K H a xs):∃its:List Value,yb xs its/\IsTup s.heap a its.toArray/\xs.length<=sizeLine:=by
 rcases h with h|⟨o,its,n,hk,hc,hs,hz,r⟩
 ·obtain⟨z,its,r,p⟩:=h.ok I.hok
  exact⟨its,r,p,z⟩
 ·exists its.toList,r,⟨o,I.kIn a o hk,hc,n,by simpa using hs⟩,?_
  have e:=r.length;simp only[Array.length_toList] at e;omega
theorem Inv.list_inj(I:Inv X pins σ H s)(h:SqL X.K H a xs)(h':SqL X.K H a ys):xs=ys:=by
 obtain⟨its,r,⟨o,n,e,_,_,d⟩,_⟩:=I.list h;obtain⟨its',r',⟨o',n',e',_,_,d'⟩,_⟩:=I.list h';rw[e] at e';cases e';rw[d] at d';injection d' with d1 _
 have:its=its':=by simpa using congrArg Array.toList d1
 subst this;exact r.inj r'
abbrev Cx.wish(X:Cx)(E:VSP):Cx:={ X with xe:=E }
abbrev Cx.nox(X:Cx):Cx:=X.wish fun _ _=>False
theorem Cx.Ok.wish(ok:X.Ok)(E:VSP):(X.wish E).Ok:=
 ⟨ok.mod,ok.kind,ok.glob,ok.blt,ok.above,ok.inj,ok.has,ok.cab,ok.hd,ok.frames,ok.stk,ok.exf,ok.bs,ok.bsz,ok.noex,ok.exfs,ok.funs,ok.frf⟩
theorem Cx.Ok.unwish{E:VSP}(ok:(X.wish E).Ok):X.Ok:=
 ⟨ok.mod,ok.kind,ok.glob,ok.blt,ok.above,ok.inj,ok.has,ok.cab,ok.hd,ok.frames,ok.stk,ok.exf,ok.bs,ok.bsz,ok.noex,ok.exfs,ok.funs,ok.frf⟩
variable {E:VSP}
theorem Inv.wish(I:Inv X pins σ H s)(E:VSP):Inv (X.wish E) pins σ H s:=⟨I.ok.wish E,I.os,I.bare,I.base,I.loc,I.cell,I.free,I.freeC,I.pin,I.hok,I.len⟩
theorem Inv.unwish(I:Inv (X.wish E) pins σ H s):Inv X pins σ H s:=⟨I.ok.unwish,I.os,I.bare,I.base,I.loc,I.cell,I.free,I.freeC,I.pin,I.hok,I.len⟩
theorem SP.unwish(h:SP (X.wish E) pins D f s'):SP X pins D f s':=by
 cases f with
 | next=>obtain⟨σ',H',I,q⟩:=h;exact⟨σ',H',I.unwish,q⟩
 | brk=>obtain⟨σ',H',I,q⟩:=h;exact⟨σ',H',I.unwish,q⟩
 | cont=>obtain⟨σ',H',I,q⟩:=h;exact⟨σ',H',I.unwish,q⟩
 | ret u=>obtain⟨v,σ',H',I,r,q⟩:=h;exact⟨v,σ',H',I.unwish,r,q⟩
theorem PSs.nox{st:List Stmt}{t:TS}(h:PSs X.nox st t):PSs X st t:=⟨fun pins s σ H D I hw=>
 wpAny_mono (h pins s σ H D (I.wish _) hw) (fun _ _ q=>q.unwish) fun _ _ z=>False.elim z⟩
variable {t u:TS}{te:TE}
def zjO:TS:=fun D σ H=>D.nx σ H
def vN(t u:TS):TS:=fun D σ H=>t { D with nx:=u D } σ H
theorem zI:PSs X [] zjO:=⟨fun _ _ σ H _ I h=>wpAny_execs_nil ⟨σ,H,I,h⟩⟩
theorem zm{st:Stmt}{wu:List Stmt}(h1:PS X st t)(h2:PSs X wu u):PSs X (st::wu) (vN t u):=by
 exists ?_;intro pins s σ H D I h;refine wpAny_execs_cons (thn (h1 pins s σ H { D with nx:=u D } I h) fun f s1 q=>?_)
 cases f with
 | next=>
  obtain⟨σ',H',I',q⟩:=q;exact h2 pins s1 σ' H' D I' q
 | ret v=>exact q
 | brk=>exact q
 | cont=>exact q
theorem zg{st:Stmt}(h1:PS X st t):PSs X [st] t:=by
 exists ?_;intro pins s σ H D I h;refine wpAny_execs_cons (thn (h1 pins s σ H D I h) fun f s1 q=>?_);cases f with
 | next=>exact wpAny_execs_nil q
 | ret v=>exact q
 | brk=>exact q
 | cont=>exact q
theorem Inv.quiet(I:Inv X pins σ H s):interactive X.env=false:=by simp [interactive,I.ok.kind]
def zlN(te:TE):TS:=fun D σ H=>te σ H fun _ H1=>D.nx σ H1
theorem zW(he:PE X e te)(hs:swapsWith e none pos.line X.env=pure false:=by rfl):PS X (.Expr e pos) (zlN te):=by
 exists ?_;intro pins s σ H D I h;exact wpAny_Expr_any (thn (he pins s σ H _ I h) fun v s1 ⟨x,H1,I1,r1,q1⟩=>⟨σ,H1,I1,q1⟩) I.quiet hs
def zmL(te:TE):TS:=fun D σ H=>te σ H D.rt
theorem zA(he:PE X e te):PS X (.Return (some e) pos) (zmL te):=by
 exists ?_;intro pins s σ H D I h;exact wpAny_Return_some (thn (he pins s σ H _ I h) fun v s1 ⟨x,H1,I1,r1,q1⟩=>⟨x,σ,H1,I1,r1,q1⟩)
def zmO(c:TT)(t u:TS):TS:=fun D σ H=>c σ H fun b H1=>if b=true then t D σ H1 else u D σ H1
theorem zS{pos:Pos}{c:Expr}{a b:List Stmt}{tc:TT}(hc:PT X c tc)(ha:PSs X a t)(hb:PSs X b u):PS X (.If c a b pos) (zmO tc t u):=by
 exists ?_;intro pins s σ H D I h;refine wpAny_If (thn (hc pins s σ H _ I h) fun d s1 ⟨H1,I1,q1⟩=>?_);cases d with
 | true=>exact ha pins s1 σ H1 D I1 q1
 | false=>exact hb pins s1 σ H1 D I1 q1
abbrev TG:=V->St->Hp->(St->Hp->Prop)->Prop
abbrev TGs:=List V->St->Hp->(St->Hp->Prop)->Prop
structure PG(X:Cx)(target:Expr)(t:TG):Prop where
 run:∀(pins:PnL) (s:Shared) (σ : St) (H:Hp) (v:V) (u:Value) (Q:St->Hp->Prop),Inv X pins σ H s->yf v u->t v σ H Q->
  ↑X (assign target X.env u) (fun _ s'=>∃σ' H',Inv X pins σ' H' s'/\Q σ' H') X.xe s
instance {X:Cx}{target:Expr}{t:TG}:CoeFun (PG X target t) (fun _=>∀(pins:PnL) (s:Shared) (σ : St) (H:Hp) (v:V) (u:Value) (Q:St->Hp->Prop),Inv X pins σ H s->yf v u->t v σ H Q->
  ↑X (assign target X.env u) (fun _ s'=>∃σ' H',Inv X pins σ' H' s'/\Q σ' H') X.xe s):=⟨PG.run⟩
structure PGs(X:Cx)(ts:List Expr)(t:TGs):Prop where
 run:∀(pins:PnL) (s:Shared) (σ : St) (H:Hp) (vs:List V) (us:List Value) (Q:St->Hp->Prop),Inv X pins σ H s->yb vs us->t vs σ H Q->
  ↑X (assignInOrder ((assignEach ts X.env).map (·.2)) us) (fun _ s'=>∃σ' H',Inv X pins σ' H' s'/\Q σ' H') X.xe s
instance {X:Cx}{ts:List Expr}{t:TGs}:CoeFun (PGs X ts t) (fun _=>∀(pins:PnL) (s:Shared) (σ : St) (H:Hp) (vs:List V) (us:List Value) (Q:St->Hp->Prop),Inv X pins σ H s->yb vs us->t vs σ H Q->
  ↑X (assignInOrder ((assignEach ts X.env).map (·.2)) us) (fun _ s'=>∃σ' H',Inv X pins σ' H' s'/\Q σ' H') X.xe s):=⟨PGs.run⟩
def zK(i:Nat):TG:=fun v σ H Q=>Q (σ.set i (some v)) H
theorem zr{i:Nat}(hN:X.N.Nodup)(hi:X.N[i]?=some x)(hx:Loc X.env.scope x)(hf:X.fn x=true\/X.env.scope.names.lookup x=some .local:=by first|exact .inl rfl|exact .inr rfl|assumption):PG X (.Name x pos) (zK i):=by
 exists ?_;intro pins s σ H v u Q I r h;exact wpAny_assign_Name (vO I hN hi hx r (fun s' I'=>⟨_,H,I',h⟩) hf)
def zjv:TGs:=fun vs σ H Q=>vs=[]/\Q σ H
def qU(t:TG)(u:TGs):TGs:=fun vs σ H Q=>∃v r,vs=v::r/\t v σ H fun σ' H'=>u r σ' H' Q
theorem yi:PGs X [] zjv:=by
 exists ?_;intro pins s σ H vs us Q I r h;obtain⟨e,h⟩:=h;subst e;cases r;exact assignInOrder_nil ⟨σ,H,I,h⟩
theorem zB{t:TG}{u:TGs}(h1:PG X e t)(h2:PGs X es u)
  (hs:(assignEach (e::es) X.env).map (·.2)=assign e X.env::(assignEach es X.env).map (·.2):=by rfl):PGs X (e::es) (qU t u):=by
 exists ?_;intro pins s σ H vs us Q I r h;obtain⟨v,vr,e1,h⟩:=h;subst e1;cases r with
 | cons r rr=>
  rw[hs];refine assignInOrder_cons (thn (h1 pins s σ H _ _ _ I r h) fun _ s1 ⟨σ1,H1,I1,q1⟩=>?_);exact h2 pins s1 σ1 H1 _ _ Q I1 rr q1
inductive zlpJ(K:Frag)(n:Nat)(t:TGs)(v:V)(σ:St)(H:Hp)(Q:St->Hp->Prop):Prop|mk(a xs:_):v=.ref a->SqT K H a xs->xs.length=n->(t xs σ H Q)->zlpJ K n t v σ H Q
def zlp(K:Frag)(n:Nat)(t:TGs):TG:=fun v σ H Q=>zlpJ K n t v σ H Q
theorem yB{k:Nat}{t:TGs}{n:Nat}(hc:X.calm=true)(h:PGs X es t)
  (hn:(assignEach es X.env).length=n:=by rfl) (hst:(assignEach es X.env).findIdx? (·.1)=none:=by rfl):PG X (.Tuple es k pos) (zlp X.K n t):=by
 exists ?_;intro pins s σ H v u Q I r hw;obtain⟨a,xs,e1,hq,hl,hw⟩:=hw;subst e1;cases r;obtain⟨its,rv,ht,hz⟩:=I.tuple hq;refine assign_Tuple_tuple (I.ok.hd hc) ht (by simp [hn,<- hl,rv.length]) hst fun h' hx=>?_
 have I1:Inv X pins σ H { s with heap:=h' }:=I.kept (t':=s.toks) fun b o e=>hx b o (ne_of_lt (aI e)) e
 exact h pins _ σ H xs _ Q I1 (by simpa using rv) hw
def zii(te:TE)(g:TG):TS:=fun D σ H=>te σ H fun x H1=>g x σ H1 D.nx
theorem vW{te:TE}{g:TG}(he:PE X e te)(hg:PG X tg g)(hs:swapsWithSole [tg] e pos.line X.env=pure false:=by rfl)(hw:swappedStores [tg] e X.env=pure none:=by rfl)
  (h1:(assignEach [tg] X.env).map (·.2)=[assign tg X.env]:=by rfl):PS X (.Assign [tg] e pos) (zii te g):=by
 exists ?_;intro pins s σ H D I h;refine wpAny_Assign_stores (thn (he pins s σ H _ I h) fun v s1 ⟨x,H1,I1,r1,q1⟩=>?_) hs hw;rw[h1];exact thn (hg pins s1 σ H1 x v _ I1 r1 q1) fun _ s2 q=>q
theorem zx{i:Nat}{te:TE}(hN:X.N.Nodup)(hi:X.N[i]?=some x)(hx:Loc X.env.scope x)(he:PE X e te)(hs:swapsWith e (some (.Name x pos')) pos.line X.env=pure false:=by rfl)(hf:X.fn x=true\/X.env.scope.names.lookup x=some .local:=by first|exact .inl rfl|exact .inr rfl|assumption):
  PS X (.Assign [.Name x pos'] e pos) (zii te (zK i)):=by
 exists ?_;intro pins s σ H D I h;refine wpAny_Assign_Name (thn (he pins s σ H _ I h) fun v s1 ⟨y,H1,I1,r1,q1⟩=>?_) hs;exact vO I1 hN hi hx r1 (fun s2 I2=>⟨_,H1,I2,q1⟩) hf
structure It where
 go:Nat->Hp->Prop
 yld:Nat->Hp->V->Hp->Prop
 stop:Nat->Hp->Prop
def vt(X:Cx)(pins:PnL)(H:Hp)(b:Addr):Prop:=
 H b=none/\b≠X.env.locals/\b∉X.fs/\(b∈X.ex\/X.s₀.heap.objs.size<=b)/\(∀x c,X.env.cells.lookup x=some c->c≠b)/\∀p∈X.pn++pins,p.1≠b
theorem Inv.fpOk(I:Inv X pins σ H s)(hb:s.heap.objs.size<=b)(hn:H' b=none):vt X pins H' b:=by
 exists hn,ne_of_gt (lt_of_lt_of_le I.lt hb),I.nofs hb,.inr (le_trans I.sz hb),fun x c e z=>?_,fun p hp z=>?_
 ·obtain⟨v,q⟩:=I.cell x c e
  exact absurd (lt_of_lt_of_le q.lt (by rw[z];exact hb)) (lt_irrefl _)
 ·exact absurd (lt_of_lt_of_le (aI (I.pin p hp).1) (by rw[z];exact hb)) (lt_irrefl _)
structure zbD(P:Program)(w:World)(K:Frag)(tg:Expr)(J:It)(fp:List Addr)(it:Addr)(tn:Nat->Heap->Prop):Prop where
 mem:it∈fp
 obj:∀i h,tn i h->∀b∈fp,∃o,h.get? b=some o/\∀v,o.data≠.cell v
 keep:∀i h h',tn i h->(∀b∈fp,∀o,h.get? b=some o->h'.get? b=some o)->tn i h'
 item:∀(X:Cx),X.prog=P->X.w=w->X.K=K->X.calm=true->∀(i:Nat) (pins:PnL) (s:Shared) (σ : St) (H:Hp) (E:VSP),Inv X pins σ H s->(∀b∈fp,vt X pins H b)->tn i s.heap->J.go i H->
  wpAny (model P w) X.A (pyNext (.ref it)) (fun r s1=>∃u,r=some u/\
   wpAny (model P w) X.A (letOwnedTupleGo tg (.ref it) u) (fun _ s2=>∃x H',Inv X pins σ H' s2/\yf x u/\J.yld i H x H'/\tn (i+1) s2.heap/\∀b∈fp,H' b=none) E s1) E s
 done:∀(X:Cx),X.prog=P->X.w=w->X.K=K->X.calm=true->∀(i:Nat) (pins:PnL) (s:Shared) (σ : St) (H:Hp) (E:VSP),Inv X pins σ H s->(∀b∈fp,vt X pins H b)->tn i s.heap->J.stop i H->
  wpAny (model P w) X.A (pyNext (.ref it)) (fun r s1=>r=none/\Inv X pins σ H s1) E s
 self:∀(A:Around) (i:Nat) (s:Shared) (Q:VSP) (E:VSP),tn i s.heap->Q (.ref it) s->wpAny (model P w) A (pyIter (.ref it)) Q E s
abbrev TI:=St->Hp->(It->Hp->Prop)->Prop
def PIE(X:Cx)(pins:PnL)(σ : St)(tg:Expr)(R:It->Hp->Prop)(itv:Value)(s2:Shared):Prop:=
 ∃(it:Addr) (fp:List Addr) (tn:Nat->Heap->Prop) (J:It) (H':Hp),itv=.ref it/\Inv X pins σ H' s2/\zbD X.prog X.w X.K tg J fp it tn/\tn 0 s2.heap/\(∀b∈fp,vt X pins H' b)/\R J H'
structure PI(X:Cx)(tg iter:Expr)(wi:TI):Prop where
 run:∀(pins:PnL) (s:Shared) (σ : St) (H:Hp) (R:It->Hp->Prop),Inv X pins σ H s->wi σ H R->
  ↑X (eval iter X.env) (fun v s1=>↑X (pyIter v) (PIE X pins σ tg R) X.xe s1) X.xe s
instance {X:Cx}{tg iter:Expr}{wi:TI}:CoeFun (PI X tg iter wi) (fun _=>∀(pins:PnL) (s:Shared) (σ : St) (H:Hp) (R:It->Hp->Prop),Inv X pins σ H s->wi σ H R->
  ↑X (eval iter X.env) (fun v s1=>↑X (pyIter v) (PIE X pins σ tg R) X.xe s1) X.xe s):=⟨PI.run⟩
theorem zeu{M:Model}{A:Around}{E:VSP}{s:Shared}{tg:Expr}{it:Addr}{u:Value}{o:Obj}{n:String}{vs:Array Value}{Q:Unit->Shared->Prop}(ho:s.heap.get? it=some o)(hc:o.cls=.type n)(hd:o.data=.fields vs)
  (hn:["enumerate","zip","dict_itemiterator","dict_reverseitemiterator","odict_iterator","itertools.zip_longest","itertools.pairwise"].contains n=false) (hQ:Q () s):wpAny M A (letOwnedTupleGo tg (.ref it) u) Q E s:=by
 unfold letOwnedTupleGo;cases tg <;> first
  | exact zwp hQ
  | (cases u <;> first
    | exact zwp hQ
    | (refine zwb (wpAny_load ho ?_)
       rw[hc,hd];show wpAny M A (if (["enumerate","zip","dict_itemiterator","dict_reverseitemiterator","odict_iterator","itertools.zip_longest","itertools.pairwise"].contains n&&vs[0]?==some (rawInt _))=true then _ else _) Q E s
       rw[aJ (by intro h;rw[hn,Bool.false_and] at h;cases h)]
       exact zwp hQ))
def Itl(K:Frag)(a:Addr):It:=
 ⟨fun i H=>∃xs x,SqL K H a xs/\xs[i]?=some x,fun i H x H'=>H'=H/\∀xs,SqL K H a xs->xs[i]?=some x,fun i H=>∃xs,SqL K H a xs/\xs.length<=i⟩
def Itr(lo:Int)(n:Nat):It:=⟨fun i _=>i<n,fun i H x H'=>H'=H/\x=.int (lo+i),fun i _=>n<=i⟩
theorem zeN{P:Program}{w:World}{K:Frag}{tg:Expr}(a it:Addr):zbD P w K tg (Itl K a) [it] it (fun i h=>h.IsListIter it a i) where
 mem:=by simp
 obj:=fun i h st b hb=>by
  have e:b=it:=by simpa using hb
  subst e;obtain⟨o,e,c,d⟩:=st;exact⟨o,e,fun v z=>by rw[d] at z;cases z⟩
 keep:=fun i h h' st k=>st.at fun o e=>k it (by simp) o e
 item:=by
  intro X hP hw hK hc i pins s σ H E I hf st hg;subst hP hw hK;obtain⟨xs,x,hq,hx⟩:=hg;obtain⟨its,rv,p,hz⟩:=I.list hq;obtain⟨u,hu,ru⟩:=rv.get hx;obtain⟨f0,f1,f2,f3,f4,f5⟩:=hf it (by simp)
  refine wpAny_pyNext_list_item st p.isList (x:=u) (by simpa using hu) fun h' st' sb=>?_
  have I1:Inv X pins σ H { s with heap:=h' }:=I.turned (t':=s.toks) (fun b o hb e=>(sb.2 b hb).trans e) f0 f1 f3 f4 f5
  obtain⟨o,e,c,d⟩:=id st';exact⟨u,rfl,zeu (s:={ s with heap:=h' }) e c d ⋯ ⟨x,H,I1,ru,⟨rfl,fun ys hy=>by rw[I.list_inj hy hq];exact hx⟩,st',fun b hb=>(hf b hb).1⟩⟩
 done:=by
  intro X hP hw hK hc i pins s σ H E I hf st hg;subst hP hw hK;obtain⟨xs,hq,hx⟩:=hg;obtain⟨its,rv,p,hz⟩:=I.list hq;obtain⟨f0,f1,f2,f3,f4,f5⟩:=hf it (by simp)
  have hl:=rv.length;exact wpAny_pyNext_list_end (I.ok.hd hc) st p.isList (by simp;omega) fun h' eb=>⟨rfl,I.turned (t':=s.toks) (fun b o hb e=>eb b o hb e) f0 f1 f3 f4 f5⟩
 self:=fun _ _ _ _ _ st h=>wpAny_pyIter_listiter st h
theorem zcE{P:Program}{w:World}{K:Frag}{tg:Expr}(it:Addr)(lo:Int)(n:Nat):zbD P w K tg (Itr lo n) [it] it (fun i h=>IsRangeIter h it (lo+(i:Nat) * 1) ((n:Int) - (i:Nat)) 1) where
 mem:=by simp
 obj:=fun i h st b hb=>by
  have e:b=it:=by simpa using hb
  subst e;exact⟨_,st,fun v z=>by
   have z':Data.fields _=Data.cell v:=z;cases z'⟩
 keep:=fun i h h' st k=>k it (by simp) _ st
 item:=by
  intro X hP hw hK hc i pins s σ H E I hf st hg;subst hP hw hK;obtain⟨f0,f1,f2,f3,f4,f5⟩:=hf it (by simp)
  have W:=Walks.range (prog:=X.prog) (w:=X.w) (I.ok.hd hc) it lo 1 n;refine W.item i s _ _ hg st fun v h' tk hv st' kk=>?_;obtain⟨t,rfl⟩:=hv;have I1:Inv X pins σ H { s with heap:=h',toks:=tk }:=I.turned (fun b o hb e=>kk b o (by simpa using hb) e) f0 f1 f3 f4 f5
  exists _,rfl,zeu (s:={ s with heap:=h',toks:=tk }) (n:="range_iterator") st' rfl rfl ⋯ ⟨.int (lo+i),H,I1,⟨t,?_⟩,⟨rfl,rfl⟩,st',fun b hb=>(hf b hb).1⟩
  rw[Int.mul_one]
 done:=by
  intro X hP hw hK hc i pins s σ H E I hf st hg;subst hP hw hK;obtain⟨f0,f1,f2,f3,f4,f5⟩:=hf it (by simp)
  exact wpAny_pyNext_range_end (I.ok.hd hc) st (by have:n<=i:=hg;omega) fun h' eb=>⟨rfl,I.turned (t':=s.toks) (fun b o hb e=>eb b o hb e) f0 f1 f3 f4 f5⟩
 self:=fun _ _ _ _ _ st h=>wpAny_pyIter_rangeiter st h
inductive zmvJ(K:Frag)(R:It->Hp->Prop)(x:V)(H1:Hp):Prop|mk(a:_):x=.ref a->(∃xs,SqL K H1 a xs)->(R (Itl K a) H1)->zmvJ K R x H1
def zmv(K:Frag)(tl:TE):TI:=fun σ H R=>tl σ H fun x H1=>zmvJ K R x H1
theorem z7{tl:TE}(hl:PE X l tl):PI X tg l (zmv X.K tl):=by
 exists ?_;intro pins s σ H R I h;refine thn (hl pins s σ H _ I h) fun v s1 ⟨x,H1,I1,r1,q1⟩=>?_;obtain⟨a,e,⟨xs,hq⟩,q⟩:=q1;subst e;cases r1;obtain⟨its,rv,p,hz⟩:=I1.list hq;refine wpAny_pyIter_list p.isList ?_;exists s1.heap.objs.size,[s1.heap.objs.size],_,_,H1,rfl,I1.kept (t':=s1.toks) fun b o e=>zgp _ e,zeN a _,⟨_,zgs _ rfl,rfl,rfl⟩,fun b hb=>?_,q;have e:b=s1.heap.objs.size:=by simpa using hb
 subst e;exact I1.fpOk (le_refl _) (I1.hok.fresh (le_refl _))
theorem zbX{tg:Expr}{pins:PnL}{σ : St}{H:Hp}{s:Shared}{R:It->Hp->Prop}{E:VSP}{lo hi:Int}{t u v:Tok}{tk:Nat}(I:Inv X pins σ H s)(h1 : -(2 ^ 62)<=lo)(h2:lo<2 ^ 62)(h3 : -(2 ^ 62)<=hi)(h4:hi<2 ^ 62)
  (q:R (Itr lo (hi - lo).toNat) H):↑X (pyIter (.ref s.heap.objs.size)) (PIE X pins σ tg R) E { s with heap:=s.heap.push { cls:=.type "range",data:=.fields #[.int lo t,.int hi u,.int 1 v] },toks:=tk }:=by
 refine wpAny_pyIter_range (IsRange.new ..) (small_one h1 h2 h3 h4) ?_;have I1:Inv X pins σ H { s with heap:=s.heap.push { cls:=.type "range",data:=.fields #[.int lo t,.int hi u,.int 1 v] },toks:=tk }:=I.kept fun b o e=>zgp _ e
 refine⟨(s.heap.push { cls:=.type "range",data:=.fields #[.int lo t,.int hi u,.int 1 v] }).objs.size,[(s.heap.push { cls:=.type "range",data:=.fields #[.int lo t,.int hi u,.int 1 v] }).objs.size],_,_,H,rfl,
  I1.kept (t':=tk) fun b o e=>zgp _ e,zcE _ lo (hi - lo).toNat,?_,fun b hb=>?_,q⟩
 ·have e1:lo+((0:Nat):Int) * 1=lo:=by simp
  have e2:(((hi - lo).toNat:Nat):Int) - ((0:Nat):Int)=Builtin.Range.rangeSize lo hi 1:=by rw[rangeSize_one];split <;> omega
  show IsRangeIter _ _ (lo+((0:Nat):Int) * 1) ((((hi - lo).toNat:Nat):Int) - ((0:Nat):Int)) 1;rw[e1,e2];exact zgs _ rfl
 ·have e:b=(s.heap.push { cls:=.type "range",data:=.fields #[.int lo t,.int hi u,.int 1 v] }).objs.size:=by simpa using hb
  subst e;exact I1.fpOk (le_refl _) (I1.hok.fresh (le_refl _))
inductive zmuJ(R:It->Hp->Prop)(vs:List V)(H1:Hp):Prop|mk(j:Int):vs=[.int j]->-(2 ^ 62)<=j->j<2 ^ 62->(R (Itr 0 j.toNat) H1)->zmuJ R vs H1
def zmu(ta:TA):TI:=fun σ H R=>ta σ H fun vs H1=>zmuJ R vs H1
inductive zmtJ(R:It->Hp->Prop)(vs:List V)(H1:Hp):Prop|mk(i j:Int):vs=[.int i,.int j]->(-(2 ^ 62)<=i/\i<2 ^ 62/\-(2 ^ 62)<=j/\j<2 ^ 62)->(R (Itr i (j - i).toNat) H1)->zmtJ R vs H1
def zmt(ta:TA):TI:=fun σ H R=>ta σ H fun vs H1=>zmtJ R vs H1
theorem vm{tg:Expr}{a:Expr}{ta:TA}{p pos:Pos}(hg:Gl X "range")(hm:X.mg "range"=none)(ha:PA X [a] ta)(hs:starEach [a] X.env=[(false,eval a X.env)]:=by rfl):PI X tg (.Call (.Name "range" p) [a] [] pos) (zmu ta):=by
 exists ?_;intro pins s σ H R I h;refine Call_ (uV I hg hm boot_range (PyProof.Rows.callWith_type1 (thn (ha pos pins s σ H _ I h) fun us s1 ⟨vs,H1,I1,r1,q1⟩=>?_) hs rfl));obtain⟨j,e,q1,q2,q⟩:=q1;subst e;cases r1 with
 | cons r rr=>
  cases rr;obtain⟨t,rfl⟩:=r;exact call_range_1 (zbX I1 ∅ ∅ q1 q2 (by simpa using q))
theorem zeW{tg:Expr}{a b:Expr}{ta:TA}{p pos:Pos}(hg:Gl X "range")(hm:X.mg "range"=none)(ha:PA X [a,b] ta)(hs:starEach [a,b] X.env=[(false,eval a X.env),(false,eval b X.env)]:=by rfl)(hs2:starEach [b] X.env=[(false,eval b X.env)]:=by rfl):
  PI X tg (.Call (.Name "range" p) [a,b] [] pos) (zmt ta):=by
 exists ?_;intro pins s σ H R I h;refine Call_ (uV I hg hm boot_range (PyProof.Rows.callWith_type1 (thn (ha pos pins s σ H _ I h) fun us s1 ⟨vs,H1,I1,r1,q1⟩=>?_) (by rw[hs,hs2]) (by rw[hs2];rfl)))
 obtain⟨i,j,e,⟨q1,q2,q3,q4⟩,q⟩:=q1;subst e;cases r1 with
 | cons r rr=>
  cases rr with
  | cons r' rr=>
   cases rr;obtain⟨t,rfl⟩:=r;obtain⟨t',rfl⟩:=r';exact call_range_2 (zbX I1 q1 q2 q3 q4 q)
def zmQ(wi:TI)(g:TG)(tb:TS):TS:=fun D σ H=>wi σ H fun J H1=>∃W:Nat->Nat->St->Hp->Prop,(∃m,W 0 m σ H1)/\∀i m σ H,W i m σ H->
 (J.stop i H/\D.nx σ H)\/(J.go i H/\∃N:St->Hp->Prop,(∀σ' H',N σ' H'->∃m',m'<m/\W (i+1) m' σ' H')/\∀x H',J.yld i H x H'->g x σ H' fun σ2 H2=>tb { D with nx:=N,ct:=N,bk:=D.nx } σ2 H2)
def uS(fp:List Addr)(h:Heap):List (Addr×Obj):=fp.filterMap fun b=>(h.get? b).map fun o=>(b,o)
theorem xD(hb:b∈fp)(e:h.get? b=some o):(b,o)∈uS fp h:=List.mem_filterMap.mpr ⟨b,hb,by rw[e];rfl⟩
theorem zfb(hp:p∈uS fp h):p.1∈fp/\h.get? p.1=some p.2:=by
 obtain⟨b,hb,e⟩:=List.mem_filterMap.mp hp;cases q:h.get? b with
 | none=>rw[q] at e;cases e
 | some o=>
  rw[q] at e;have e':(b,o)=p:=Option.some.inj e;subst e';exact⟨hb,q⟩
theorem Inv.pinned(I:Inv X pins σ H s)(hf:∀b∈fp,vt X pins H b)(ho:∀b∈fp,∃o,s.heap.get? b=some o/\∀v,o.data≠.cell v):Inv X (pins++uS fp s.heap) σ H s:=
 I.pins_of fun p hp=>(List.mem_append.mp hp).elim (fun z=>I.pin p (mem_append_right _ z)) fun z=>by
  obtain⟨hb,e⟩:=zfb z;obtain⟨f0,f1,f2,_⟩:=hf p.1 hb;obtain⟨o,e',d⟩:=ho p.1 hb;rw[e] at e';cases e';exact⟨e,f0,f1,f2,d⟩
theorem Inv.unpinned(I:Inv X (pins++pl) σ H s):Inv X pins σ H s:=I.pins_of fun p hp=>I.pin p (mem_append_right _ (mem_append_left _ hp))
theorem yS{wi:TI}{g:TG}{tb:TS}(hp:PassesOwn (model X.prog X.w) X.A X.env X.xe)(hc:X.calm=true)(hi:PI X tg iter wi)(hg:PG X tg g)(hb:PSs X body tb)
  (hs:∀x,foldedSetIterable iter X.env x=pure x:=by intro _;rfl):PS X (.For tg iter body [] pos) (zmQ wi g tb):=by
 exists ?_;intro pins s σ H D I h;refine wpAny_For (thn (hi pins s σ H _ I h) fun v s1 h1=>thn h1 fun itv s2 h2=>?_) hs;obtain⟨it,fp,tn,J,H2,e,I2,T,st2,f2,W,⟨m0,w0⟩,turn⟩:=h2;subst e;have stat:∀{H':Hp},(∀b∈fp,H' b=none)->∀b∈fp,vt X pins H' b:=fun hn b hb=>⟨hn b hb,(f2 b hb).2⟩;refine codeAny_forLoop_any (fun n s'=>∃i σ' H',Inv X pins σ' H' s'/\tn i s'.heap/\(∀b∈fp,H' b=none)/\W i n σ' H') ?_ m0 ⟨0,σ,H2,I2,st2,fun b hb=>(f2 b hb).1,w0⟩;rintro n s3 ⟨i,σ3,H3,I3,st3,fr3,w3⟩;rcases turn i n σ3 H3 w3 with ⟨stop,qn⟩|⟨go,N,hN,step⟩
 ·refine wpAny_passesOwn hp (thn (T.done X rfl rfl rfl hc i pins s3 σ3 H3 X.xe I3 (stat fr3) st3 stop) fun r s4 ⟨hr,I4⟩=>?_)
  subst hr;exact wpAny_execs_nil ⟨σ3,H3,I4,qn⟩
 ·refine wpAny_passesOwn hp (thn (T.item X rfl rfl rfl hc i pins s3 σ3 H3 X.xe I3 (stat fr3) st3 go) fun r s4 ⟨u,hr,h4⟩=>?_)
  subst hr;refine wpAny_passesOwn hp (thn h4 fun _ s5 ⟨x,H5,I5,r5,y5,st5,fr5⟩=>?_);have I5':=I5.pinned (stat fr5) (T.obj _ _ st5);refine wpAny_passesOwn hp (thn (hg _ s5 σ3 H5 x u _ I5' r5 (step x H5 y5)) fun _ s6 ⟨σ6,H6,I6,q6⟩=>?_);refine wpAny_passesOwn hp (thn (hb _ s6 σ6 H6 _ I6 q6) fun f s7 q7=>?_);have again:∀{σ7:St}{H7:Hp},Inv X (pins++uS fp s5.heap) σ7 H7 s7->N σ7 H7->∃m,m<n/\∃i σ' H',Inv X pins σ' H' s7/\tn i s7.heap/\(∀b∈fp,H' b=none)/\W i m σ' H':=fun {σ7 H7} I7 n7=>by
   obtain⟨m',hm,w7⟩:=hN σ7 H7 n7;exists m',hm,i+1,σ7,H7,I7.unpinned,T.keep _ _ _ st5 fun b hb o e=>(I7.pin (b,o) (mem_append_right _ (mem_append_right _ (xD hb e)))).1,fun b hb=>?_,w7;obtain⟨o,e,d⟩:=T.obj _ _ st5 b hb;exact(I7.pin (b,o) (mem_append_right _ (mem_append_right _ (xD hb e)))).2.1
  cases f with
  | next=>obtain⟨σ7,H7,I7,n7⟩:=q7;exact again I7 n7
  | cont=>obtain⟨σ7,H7,I7,n7⟩:=q7;exact again I7 n7
  | brk=>obtain⟨σ7,H7,I7,q7⟩:=q7;exact⟨σ7,H7,I7.unpinned,q7⟩
  | ret v=>obtain⟨x7,σ7,H7,I7,r7,q7⟩:=q7;exact⟨x7,σ7,H7,I7.unpinned,r7,q7⟩
theorem xE{K:Frag}{a:Addr}{xs:List V}{g:TG}{tb:TS}{D:vH}{σ : St}{H:Hp}(Pv:Nat->St->Hp->Prop)(h0:Pv 0 σ H)(hl:∀i σ H,i<=xs.length->Pv i σ H->SqL K H a xs)
  (hs:∀i x σ H,xs[i]?=some x->Pv i σ H->g x σ H fun σ2 H2=>tb { D with nx:=Pv (i+1),ct:=Pv (i+1),bk:=D.nx } σ2 H2) (hd:∀σ H,Pv xs.length σ H->D.nx σ H) :
  ∃W:Nat->Nat->St->Hp->Prop,(∃m,W 0 m σ H)/\∀i m σ H,W i m σ H->
   ((Itl K a).stop i H/\D.nx σ H)\/((Itl K a).go i H/\∃N:St->Hp->Prop,(∀σ' H',N σ' H'->∃m',m'<m/\W (i+1) m' σ' H')/\∀x H',(Itl K a).yld i H x H'->g x σ H' fun σ2 H2=>tb { D with nx:=N,ct:=N,bk:=D.nx } σ2 H2):=by
 exists fun i m σ H=>m=xs.length - i/\i<=xs.length/\Pv i σ H,⟨xs.length,by simp,zero_le _,h0⟩,?_
 rintro i m σ H ⟨rfl,hi,p⟩;have q:=hl i σ H hi p;by_cases hlt:i<xs.length
 ·refine .inr ⟨⟨xs,xs[i],q,by simp [hlt]⟩,Pv (i+1),fun σ' H' p'=>⟨xs.length - (i+1),∅,rfl,hlt,p'⟩,fun x H' y=>?_⟩
  obtain⟨e,y⟩:=y;subst e;exact hs i x σ _ (y xs q) p
 ·have e:i=xs.length:=by omega
  subst e;exact .inl ⟨⟨xs,q,le_refl _⟩,hd σ H p⟩
theorem jK{lo:Int}{n:Nat}{g:TG}{tb:TS}{D:vH}{σ : St}{H:Hp}(Pv:Nat->St->Hp->Prop)(h0:Pv 0 σ H)
  (hs:∀i σ H,i<n->Pv i σ H->g (.int (lo+i)) σ H fun σ2 H2=>tb { D with nx:=Pv (i+1),ct:=Pv (i+1),bk:=D.nx } σ2 H2) (hd:∀σ H,Pv n σ H->D.nx σ H) :
  ∃W:Nat->Nat->St->Hp->Prop,(∃m,W 0 m σ H)/\∀i m σ H,W i m σ H->
   ((Itr lo n).stop i H/\D.nx σ H)\/((Itr lo n).go i H/\∃N:St->Hp->Prop,(∀σ' H',N σ' H'->∃m',m'<m/\W (i+1) m' σ' H')/\∀x H',(Itr lo n).yld i H x H'->g x σ H' fun σ2 H2=>tb { D with nx:=N,ct:=N,bk:=D.nx } σ2 H2):=by
 exists fun i m σ H=>m=n - i/\i<=n/\Pv i σ H,⟨n,by simp,zero_le _,h0⟩,?_
 rintro i m σ H ⟨rfl,hi,p⟩;by_cases hlt:i<n
 ·refine .inr ⟨hlt,Pv (i+1),fun σ' H' p'=>⟨n - (i+1),∅,rfl,hlt,p'⟩,fun x H' y=>?_⟩
  obtain⟨e,y⟩:=y;subst e y;exact hs i σ _ hlt p
 ·have e:i=n:=by omega
  subst e;exact .inl ⟨le_refl _,hd σ H p⟩
abbrev R2:=V->V->Hp->VK->Prop
def OpR(X:Cx)(f:Value->Value->Sem Value)(r:R2):Prop:=
 ∀(pins:PnL) s (σ:St) H x y v u (Q:VK),Inv X pins σ H s->yf x v->yf y u->r x y H Q->
  ↑X (f v u) (EP X pins σ Q) X.xe s
def UnR(X:Cx)(f:Value->Sem Value)(r:V->Hp->VK->Prop):Prop:=
 ∀(pins:PnL) s (σ:St) H x v (Q:VK),Inv X pins σ H s->yf x v->r x H Q->
  ↑X (f v) (EP X pins σ Q) X.xe s
def xQ(X:Cx)(f:Value)(r:List V->Hp->VK->Prop):Prop:=
 ∀(pins:PnL) s (σ:St) H xs us (Q:VK),Inv X pins σ H s->yb xs us->r xs H Q->
  ↑X (call f us) (EP X pins σ Q) X.xe s
def tOp(r:R2)(ta tb:TE):TE:=fun σ H Q=>ta σ H fun x H1=>tb σ H1 fun y H2=>r x y H2 Q
def tUn(r:V->Hp->VK->Prop)(ta:TE):TE:=fun σ H Q=>ta σ H fun x H1=>r x H1 Q
inductive IrI(C:Int->Int->Prop)(g:Int->Int->V)(x y:V)(H:Hp)(Q:VK):Prop where
 | mk (i j:Int) (e1:x=.int i) (e2:y=.int j) (c:C i j) (q:Q (g i j) H)
def rI(C:Int->Int->Prop)(g:Int->Int->V):R2:=fun x y H Q=>IrI C g x y H Q
inductive znx(g:Int->Int->V)(x y:V)(H:Hp)(Q:VK):Prop where
 | mk (i j:Int) (e1:x=.int i) (e2:y=.int j) (q:Q (g i j) H)
def rI0(g:Int->Int->V):R2:=fun x y H Q=>znx g x y H Q
def rU(g:Int->V):V->Hp->VK->Prop:=fun x H Q=>∃i,x=.int i/\Q (g i) H
end
section
variable {ta tb tc:TE}
theorem zlv(ha:PE X a ta)(hb:PE X b tb){R:V->V->Hp->Prop}(I:Inv X pins σ H s)
  (h:ta σ H fun x H1=>tb σ H1 fun y H2=>R x y H2) {Q:VSP}{f:Value->Value->Sem Value}
  (hf:∀v u s2 x y H2,Inv X pins σ H2 s2->yf x v->yf y u->R x y H2->↑X (f v u) Q X.xe s2) :
  ↑X (eval a X.env) (fun v s₁=>↑X (eval b X.env) (fun u s₂=>↑X (f v u) Q X.xe s₂) X.xe s₁) X.xe s:=by
 refine thn (ha pins s σ H _ I h) fun v s1 ⟨x,H1,I1,r1,q1⟩=>?_;refine thn (hb pins s1 σ H1 _ I1 q1) fun u s2 ⟨y,H2,I2,r2,q2⟩=>?_;exact hf v u s2 x y H2 I2 r1 r2 q2
theorem zo{r:R2}(ho:OpR X (binaryOp op) r)(ha:PE X a ta)(hb:PE X b tb):PE X (.BinOp a op b pos) (tOp r ta tb):=by
 and_intros;exact wpAny_BinOp (zlv ha hb I h fun v u s2 x y H2 I2 rx ry q=>ho pins s2 σ H2 x y v u Q I2 rx ry q)
theorem zl9{r:V->Hp->VK->Prop}(ho:UnR X (unaryOp op) r)(ha:PE X a ta):PE X (.UnaryOp op a pos) (tUn r ta):=by
 and_intros;exact UnaryOp_ (thn (ha pins s σ H _ I h) fun v s1 ⟨x,H1,I1,r1,q1⟩=>ho pins s1 σ H1 x v Q I1 r1 q1)
theorem opI{f:Value->Value->Sem Value}{C:Int->Int->Prop}{g:Int->Int->Int}
  (rule:∀(i j:Int) t u s (Q:VSP) (E:VSP),C i j->Q (.int (g i j) s.toks) { s with toks:=s.toks+1 }->↑X (f (.int i t) (.int j u)) Q E s) :
  OpR X f (rI C fun i j=>.int (g i j)):=by
 intro pins s σ H x y v u Q I rx ry h;obtain⟨i,j,rfl,rfl,hc,q⟩:=h;obtain⟨t,rfl⟩:=rx;obtain⟨t',rfl⟩:=ry;exact rule i j t t' s _ _ hc ⟨.int (g i j),H,I.tok _,⟨_,rfl⟩,q⟩
theorem zmb{f:Value->Value->Sem Value}{g:Int->Int->Int}
  (rule:∀(i j:Int) t u s (Q:VSP) (E:VSP),Q (.int (g i j) s.toks) { s with toks:=s.toks+1 }->↑X (f (.int i t) (.int j u)) Q E s) :
  OpR X f (rI0 fun i j=>.int (g i j)):=by
 intro pins s σ H x y v u Q I rx ry h;obtain⟨i,j,rfl,rfl,q⟩:=h;obtain⟨t,rfl⟩:=rx;obtain⟨t',rfl⟩:=ry;exact rule i j t t' s _ _ ⟨.int (g i j),H,I.tok _,⟨_,rfl⟩,q⟩
theorem zkZ{f:Value->Value->Sem Value}{g:Int->Int->Bool}
  (rule:∀(i j:Int) t u s (Q:VSP) (E:VSP),Q (.bool (g i j)) s->↑X (f (.int i t) (.int j u)) Q E s) :
  OpR X f (rI0 fun i j=>.bl (g i j)):=by
 intro pins s σ H x y v u Q I rx ry h;obtain⟨i,j,rfl,rfl,q⟩:=h;obtain⟨t,rfl⟩:=rx;obtain⟨t',rfl⟩:=ry;exact rule i j t t' s _ _ ⟨.bl (g i j),H,I,rfl,q⟩
def znC(i j:Int):Prop:=0<j/\j<1073741824
def znB(i j:Int):Prop:=0<=j/\j<=1000000/\i.natAbs<2 ^ 64
def zlC(i j:Int):Prop:=(-(2 ^ 64)<i/\i<2 ^ 64)\/(-(2 ^ 64)<j/\j<2 ^ 64)
theorem zlC.ok{i j:Int}(h:zlC i j):IntMulOk i j:=by
 rcases h with ⟨h1,h2⟩|⟨h1,h2⟩
 ·exact .of_left (intBits_le_64 h1 h2)
 ·exact .of_right (intBits_le_64 h1 h2)
theorem yF:OpR X (binaryOp .Add) (rI0 fun i j=>.int (i+j)):=zmb fun _ _ _ _ _ _ _ q=>add_int q
theorem jB:OpR X (binaryOp .Sub) (rI0 fun i j=>.int (i - j)):=zmb fun _ _ _ _ _ _ _ q=>sub_int q
theorem y8:OpR X (binaryOp .Mult) (rI zlC fun i j=>.int (i * j)):=opI fun _ _ _ _ _ _ _ hc q=>mul_int q hc.ok
theorem z8:OpR X (binaryOp .FloorDiv) (rI znC fun i j=>.int (i / j)):=opI fun i j _ _ _ _ _ hc q=>by
 have h1:(0:Int)<j:=hc.1;have h2:j<1073741824:=hc.2;exact floordiv_int ∅ (by rw[Int.fdiv_eq_ediv_of_nonneg i ∅];exact q) (.inl (PyProof.noPylong_small ∅))
theorem zR:OpR X (binaryOp .Mod) (rI (fun _ j=>0<j) fun i j=>.int (i % j)):=opI fun i j _ _ _ _ _ hc q=>by
 have h1:(0:Int)<j:=hc;exact mod_int' ∅ (by rw[Int.fmod_eq_emod_of_nonneg i ∅];exact q)
theorem jC:OpR X (binaryOp .Pow) (rI znB fun i j=>.int (i ^ j.toNat)):=opI fun _ _ _ _ _ _ _ hc q=>pow_int_small hc.1 hc.2.1 hc.2.2 q
theorem unI{f:Value->Sem Value}{g:Int->Int}
  (rule:∀(i:Int) t s (Q:VSP) (E:VSP),Q (.int (g i) s.toks) { s with toks:=s.toks+1 }->↑X (f (.int i t)) Q E s) :
  UnR X f (rU fun i=>.int (g i)):=by
 intro pins s σ H x v Q I rx h;obtain⟨i,rfl,q⟩:=h;obtain⟨t,rfl⟩:=rx;exact rule i t s _ _ ⟨.int (g i),H,I.tok _,⟨_,rfl⟩,q⟩
theorem zkb:UnR X (unaryOp .USub) (rU fun i=>.int (-i)):=unI fun _ _ _ _ _ q=>neg_int q
def zlZ:V->V->Bool
 | .non,.non=>true|.non,.int _=>true|.int _,.non=>true|.non,.bl _=>true|.bl _,.non=>true|.non,.str _=>true|.str _,.non=>true
 | .int _,.int _=>true|.bl _,.bl _=>true|.str _,.str _=>true|.byt _,.byt _=>true
 | .int _,.str _=>true|.str _,.int _=>true|.bl _,.str _=>true|.str _,.bl _=>true
 | _,_=>false
def rEq:R2:=fun x y H Q=>zlZ x y=true/\Q (.bl (decide (x=y))) H
def rNe:R2:=fun x y H Q=>zlZ x y=true/\Q (.bl (!decide (x=y))) H
theorem zeD{i j:Int}:decide (V.int i=V.int j)=(i==j):=by
 rw[Bool.eq_iff_iff];simp
theorem zh4:decide (V.bl i=V.bl j)=(i==j):=by
 rw[Bool.eq_iff_iff];simp
theorem zeC:decide (V.str i=V.str j)=(i==j):=by
 rw[Bool.eq_iff_iff];simp
theorem zeE:decide (V.byt i=V.byt j)=(i.toList==j.toList):=by
 rw[Bool.eq_iff_iff];cases i;cases j;simp
theorem yw{Q:VK}(I:Inv X pins σ H s)(q:Q (.bl k) H)(e:k=k'):EP X pins σ Q (.bool k') s:=by
 subst e;exact⟨.bl k,H,I,rfl,q⟩
theorem yK:OpR X (compareOp .Eq) rEq:=by
 intro pins s σ H x y v u Q I rx ry h;obtain⟨hs,q⟩:=h;cases x with
 | non=>
  cases rx;cases y with
  | non=>cases ry;exact PySem.EqNone.eq_none_none (yw I q (by simp))
  | bl j=>cases ry;exact PySem.EqNone.eq_none_bool (yw I q (by simp))
  | int j=>obtain⟨t',rfl⟩:=ry;exact PySem.EqNone.eq_none_int (yw I q (by simp))
  | str j=>obtain⟨t',rfl⟩:=ry;exact PySem.EqNone.eq_none_str (yw I q (by simp))
  | _=>exact absurd (show false=true from hs) zft
 | bl i=>
  cases rx;cases y with
  | non=>cases ry;exact PySem.EqNone.eq_bool_none (yw I q (by simp))
  | bl j=>cases ry;exact eq_bool (yw I q zh4)
  | str j=>obtain⟨t',rfl⟩:=ry;exact PySem.EqMixed.eq_bool_str (yw I q (by simp))
  | _=>exact absurd (show false=true from hs) zft
 | int i=>
  obtain⟨t,rfl⟩:=rx;cases y with
  | non=>cases ry;exact PySem.EqNone.eq_int_none (yw I q (by simp))
  | int j=>obtain⟨t',rfl⟩:=ry;exact eq_int (yw I q zeD)
  | str j=>obtain⟨t',rfl⟩:=ry;exact PySem.EqMixed.eq_int_str (yw I q (by simp))
  | _=>exact absurd (show false=true from hs) zft
 | str i=>
  obtain⟨t,rfl⟩:=rx;cases y with
  | non=>cases ry;exact PySem.EqNone.eq_str_none (yw I q (by simp))
  | bl j=>cases ry;exact PySem.EqMixed.eq_str_bool (yw I q (by simp))
  | int j=>obtain⟨t',rfl⟩:=ry;exact PySem.EqMixed.eq_str_int (yw I q (by simp))
  | str j=>obtain⟨t',rfl⟩:=ry;exact eq_str (yw I q zeC)
  | _=>exact absurd (show false=true from hs) zft
 | byt i=>
  obtain⟨t,rfl⟩:=rx;cases y with
  | byt j=>obtain⟨t',rfl⟩:=ry;exact PySem.W.eq_bytes (yw I q zeE)
  | _=>exact absurd (show false=true from hs) zft
 | _=>cases y <;> exact absurd (show false=true from hs) zft
theorem zb5:OpR X (compareOp .NotEq) rNe:=by
 intro pins s σ H x y v u Q I rx ry h;obtain⟨hs,q⟩:=h;cases x with
 | non=>
  cases rx;cases y with
  | non=>cases ry;exact PySem.EqNone.ne_none_none (yw I q (by simp))
  | bl j=>cases ry;exact PySem.EqNone.ne_none_bool (yw I q (by simp))
  | int j=>obtain⟨t',rfl⟩:=ry;exact PySem.EqNone.ne_none_int (yw I q (by simp))
  | str j=>obtain⟨t',rfl⟩:=ry;exact PySem.EqNone.ne_none_str (yw I q (by simp))
  | _=>exact absurd (show false=true from hs) zft
 | bl i=>
  cases rx;cases y with
  | non=>cases ry;exact PySem.EqNone.ne_bool_none (yw I q (by simp))
  | bl j=>cases ry;exact ne_bool (yw I q (congrArg not zh4))
  | str j=>obtain⟨t',rfl⟩:=ry;exact PySem.EqMixed.ne_bool_str (yw I q (by simp))
  | _=>exact absurd (show false=true from hs) zft
 | int i=>
  obtain⟨t,rfl⟩:=rx;cases y with
  | non=>cases ry;exact PySem.EqNone.ne_int_none (yw I q (by simp))
  | int j=>obtain⟨t',rfl⟩:=ry;exact ne_int (yw I q (congrArg not zeD))
  | str j=>obtain⟨t',rfl⟩:=ry;exact PySem.EqMixed.ne_int_str (yw I q (by simp))
  | _=>exact absurd (show false=true from hs) zft
 | str i=>
  obtain⟨t,rfl⟩:=rx;cases y with
  | non=>cases ry;exact PySem.EqNone.ne_str_none (yw I q (by simp))
  | bl j=>cases ry;exact PySem.EqMixed.ne_str_bool (yw I q (by simp))
  | int j=>obtain⟨t',rfl⟩:=ry;exact PySem.EqMixed.ne_str_int (yw I q (by simp))
  | str j=>obtain⟨t',rfl⟩:=ry;exact ne_str (yw I q (congrArg not zeC))
  | _=>exact absurd (show false=true from hs) zft
 | byt i=>
  obtain⟨t,rfl⟩:=rx;cases y with
  | byt j=>obtain⟨t',rfl⟩:=ry;exact PySem.W.ne_bytes (yw I q (congrArg not zeE))
  | _=>exact absurd (show false=true from hs) zft
 | _=>cases y <;> exact absurd (show false=true from hs) zft
theorem vX:OpR X (compareOp .Lt) (rI0 fun i j=>.bl (decide (i<j))):=zkZ fun _ _ _ _ _ _ _ q=>lt_int q
theorem zgQ:OpR X (compareOp .LtE) (rI0 fun i j=>.bl (decide (i<=j))):=zkZ fun _ _ _ _ _ _ _ q=>le_int q
theorem zgR:OpR X (compareOp .Gt) (rI0 fun i j=>.bl (decide (j<i))):=zkZ fun _ _ _ _ _ _ _ q=>gt_int q
theorem ze1:OpR X (compareOp .In) (fun x y H Q=>∃i j,x=.str i/\y=.str j/\Q (.bl (!(Builtin.Str.occurrences j i 0 j.length 1).isEmpty)) H):=by
 intro pins s σ H x y v u Q I rx ry h;obtain⟨i,j,rfl,rfl,q⟩:=h;obtain⟨t,rfl⟩:=rx;obtain⟨t',rfl⟩:=ry;exact in_str (yw I q rfl)
theorem OpR.or{f:Value->Value->Sem Value}{r r':R2}(h:OpR X f r)(h':OpR X f r'):OpR X f (fun x y H Q=>r x y H Q\/r' x y H Q):=by
 intro pins s σ H x y v u Q I rx ry q;rcases q with q|q
 ·exact h pins s σ H x y v u Q I rx ry q
 ·exact h' pins s σ H x y v u Q I rx ry q
theorem zM(b:Expr)(h:op≠.In:=by decide)(h2:op≠.NotIn:=by decide):behindInMarks op b=false:=by
 have e1:(op==CmpOp.In)=false:=by cases op <;> first|rfl|exact absurd rfl h
 have e2:(op==CmpOp.NotIn)=false:=by cases op <;> first|rfl|exact absurd rfl h2
 cases b <;> simp [behindInMarks,e1,e2]
theorem vB{r:R2}(ho:OpR X (compareOp op) r)(ha:PE X a ta)(hb:PE X b tb)(hm:behindInMarks op b=false):PE X (.Compare a [op] [b] pos) (tOp r ta tb):=by
 and_intros;exact wpAny_Compare1 (zlv ha hb I h fun v u s2 x y H2 I2 rx ry q=>ho pins s2 σ H2 x y v u Q I2 rx ry q) hm
inductive zmG(x:V)(H:Hp)(Q:Bool->Hp->Prop):Prop where
 | mk (k:Bool) (e:x=.bl k) (q:Q k H)
def zat(t:TE):TT:=fun σ H Q=>t σ H fun x H'=>zmG x H' Q
theorem zw{r:R2}(ho:OpR X (compareOp op) r)(ha:PE X a ta)(hb:PE X b tb)(hm:behindInMarks op b=false):PT X (.Compare a [op] [b] pos) (zat (tOp r ta tb)):=by
 and_intros;refine wpAny_isTrue_Compare1 (thn (ha pins s σ H _ I h) fun v s1 ⟨x,H1,I1,r1,q1⟩=>thn (hb pins s1 σ H1 _ I1 q1) fun u s2 ⟨y,H2,I2,r2,q2⟩=>
  thn (ho pins s2 σ H2 x y v u _ I2 r1 r2 q2) fun c s3 ⟨z,H3,I3,r3,k,e,q3⟩=>?_) hm
 subst e;cases r3;exact wpAny_truthy_bool ⟨H3,I3,q3⟩
def zkl(r r':R2)(ta tb tc:TE):TE:=fun σ H Q=>ta σ H fun x H1=>tb σ H1 fun y H2=>r x y H2 fun z H3=>∃k,z=.bl k/\
 (if k=true then tc σ H3 fun w' H4=>r' y w' H4 Q else Q (.bl false) H3)
theorem zgx{r r':R2}(ho:OpR X (compareOp op) r)(ho':OpR X (compareOp op') r')(ha:PE X a ta)(hb:PE X b tb)(hc:PE X c tc)
  (hm:lastMarks [op,op'] [b,c]=false:=by with_unfolding_all rfl):PT X (.Compare a [op,op'] [b,c] pos) (zat (zkl r r' ta tb tc)):=by
 and_intros;refine isTrue_chain (thn (ha pins s σ H _ I h) fun v s1 ⟨x,H1,I1,r1,q1⟩=>test_link (thn (hb pins s1 σ H1 _ I1 q1) fun u s2 ⟨y,H2,I2,r2,q2⟩=>
  thn (ho pins s2 σ H2 x y v u _ I2 r1 r2 q2) fun d s3 ⟨z,H3,I3,r3,k,e,q3⟩=>?_)) hm
 subst e;cases r3;refine wpAny_truthy_bool ?_;cases k with
 | false=>
  obtain⟨k',e',q'⟩:=q3;cases e';exact ite_ff ⟨H3,I3,q'⟩
 | true=>
  refine ite_tt (test_last (thn (hc pins s3 σ H3 _ I3 q3) fun w' s4 ⟨z',H4,I4,r4,q4⟩=>thn (ho' pins s4 σ H4 y z' u w' _ I4 r2 r4 q4) fun d' s5 ⟨z2,H5,I5,r5,k2,e2,q5⟩=>?_));subst e2;cases r5;exact wpAny_truthy_bool ⟨H5,I5,q5⟩
theorem qO:(sizeLine:Nat)<2 ^ 63:=by rw[sizeLine_eq];decide
theorem wn:OpR X (binaryOp .Add) (fun x y H Q=>∃i j,x=.str i/\y=.str j/\i.length+j.length<=sizeLine/\Q (.str (i++j)) H):=by
 intro pins s σ H x y v u Q I rx ry h;obtain⟨i,j,rfl,rfl,hz,q⟩:=h;obtain⟨t,rfl⟩:=rx;obtain⟨t',rfl⟩:=ry;exact add_str (fun t' tk=>⟨.str (i++j),H,I.tok _,⟨_,rfl⟩,q⟩) hz
theorem vd(r:yb [x] us):∃u,us=[u]/\yf x u:=by
 cases r with
 | cons r1 r2=>cases r2;exact⟨_,rfl,r1⟩
theorem zfF(r:yb [x,y] us):∃u w',us=[u,w']/\yf x u/\yf y w':=by
 cases r with
 | cons r1 r2=>
  cases r2 with
  | cons r3 r4=>cases r4;exact⟨_,_,rfl,r1,r3⟩
theorem zfB(hc:X.calm=true):xQ X (.builtin "max") (fun xs H Q=>∃i j,xs=[.int i,.int j]/\Q (.int (if j>i then j else i)) H):=by
 intro pins s σ H xs us Q I r h;obtain⟨i,j,rfl,q⟩:=h;obtain⟨u,w',rfl,⟨t,rfl⟩,⟨t',rfl⟩⟩:=zfF r;refine max_two_ints (I.ok.hd hc) fun h' tk k=>⟨_,H,I.kept k,?_,q⟩;by_cases hj:j>i
 ·rw[aK hj,aK hj];exact⟨_,rfl⟩
 ·rw[aJ hj,aJ hj];exact⟨_,rfl⟩
theorem zfC:xQ X (.type "int") (fun xs H Q=>(∃i,xs=[.int i]/\Q (.int i) H)\/∃k,xs=[.bl k]/\Q (.int (if k then 1 else 0)) H):=by
 intro pins s σ H xs us Q I r h;rcases h with ⟨i,rfl,q⟩|⟨k,rfl,q⟩
 ·obtain⟨u,rfl,t,rfl⟩:=vd r
  exact call_int_int ⟨.int i,H,I,⟨_,rfl⟩,q⟩
 ·obtain⟨u,rfl,r1⟩:=vd r
  cases r1;exact call_int_bool ⟨.int (if k then 1 else 0),H,I.tok _,⟨_,rfl⟩,q⟩
structure zdw(h:Heap)(x dx C:Addr)(mA:Str->Option Value):Prop where
 obj:h.get? x=some (instObj C dx)
 ns:h.Ns1 dx mA
 ne:dx≠x
theorem zaD{h:Heap}{dx:Addr}{mA:Str->Option Value}(n:h.Ns1 dx mA):∃od,h.get? dx=some od/\∀name,lookIn name od=some (mA name):=by
 obtain⟨o,es,ep,ho,hd,hk,_,hm⟩:=n;exists o,ho,fun name=>?_;have e:=hm name;unfold nsFind findBy at e;rw[<- Array.find?_toList] at e;unfold lookIn;rw[hd];dsimp only;split
 ·rename_i y q
  rw[q] at e;exact congrArg some e
 ·rename_i q
  rw[q] at e;have a:es.toList.any (·.refKey)=false:=by
   rw[List.any_eq_false];intro y hy;obtain⟨z,t,hkey⟩:=hk y (Array.mem_toList_iff.mp hy);simp [DictEntry.refKey,hkey]
  have a':¬es.toList.any (·.refKey)=true:=by rw[a];exact zft
  rw[aJ a'];exact congrArg some e
theorem zdw.look{mA:Str->Option Value}(I:zdw h x dx C mA):∃od,PySem.W.InstAt h x (instObj C dx) C (some od)/\∀name,lookIn name od=some (mA name):=
 let ⟨od,ho,hl⟩:=zaD I.ns
 ⟨od,⟨I.obj,rfl,rfl,ho⟩,hl⟩
variable {E:VSP}{mA:Str->Option Value}
theorem zjs{prog:Program}{w:World}{A:Around}{s:Shared}{K:Frag}{x dx C:Addr}{name:Str}{v:Value}{expr:Bool}{Q:VSP}(X:K.In s.heap)(I:zdw s.heap x dx C mA)(hg:plainGet K C name=true)(hh:hasDictIn K C=true)
  (ha:findIn K (.ref C) name=some none) (hv:mA name=some v) (hv':PySem.W.handedIn v=true) (h:Q v { s with toks:=s.toks+1 }) :
  wpAny (model prog w) A (getAttr (.ref x) name expr) Q E s:=by
 obtain⟨od,J,hl⟩:=I.look;exact PySem.W.get_value X J (plainGet_of hg).1 (PySem.W.findObj_own hh ha rfl (by rw[hl,hv])) hv' h
theorem zhM{prog:Program}{w:World}{A:Around}{s:Shared}{K:Frag}{x dx C f:Addr}{name:Str}{pl:Sem Bool}{Q:Value×List Value->Shared->Prop}(X:K.In s.heap)(I:zdw s.heap x dx C mA)(hg:plainGet K C name=true)
  (hf:findIn K (.ref C) name=some (~~~f)) (ht:isFn K (.ref f)=true) (hv:mA name=none) (h:Q (.ref f,[.ref x]) s) :
  wpAny (model prog w) A (getMethod (.ref x) name pl) Q E s:=by
 obtain⟨od,J,hl⟩:=I.look;exact PySem.W.method_fn X J (plainGet_of hg).1 (plainGet_of hg).2 hf (beq_iff_eq.mp ht) (by show(lookIn name od).map (·.isSome)=some false;rw[hl,hv];rfl) h
theorem zin{prog:Program}{w:World}{A:Around}{s:Shared}{K:Frag}{x dx C:Addr}{name:Str}{v:Value}{ns:List Str}{Q:Unit->Shared->Prop}(X:K.In s.heap)(I:zdw s.heap x dx C mA)
  (hs:findIn K (.ref C) "__setattr__"=some (some (.builtin "object.__setattr__"))) (hp:plainOver K C=true) (ht:takerIn K C name=some none) (hh:hasDictIn K C=true)
  (hw:PySem.Within mA ns) (hsz:ns.length<=sizeLine)
  (h:∀h',zdw h' x dx C (fun y=>if y=name then some v else mA y)->Heap.SameBut dx s.heap h'->Q () { s with heap:=h',toks:=s.toks+2 }) :
  wpAny (model prog w) A (setAttr (.ref x) name v) Q E s:=by
 obtain⟨od,J,hl⟩:=I.look;refine PySem.W.set_plain X J hs (PySem.W.osa_open (s:={ s with toks:=s.toks+1 }) (r:=none) X J hp ht fun b=>?_)
 obtain⟨cd,hc,hd'⟩:=PySem.W.any_some hh;have hx:s.heap.get? x=some ⟨.ref C,some dx,.plain,#[]⟩:=I.obj;refine zwb (zwp (zwb (zwb (wpAny_loadPart hx (zwb (PySem.W.Looks.here (s:={ s with toks:=s.toks+1 }) (PySem.W.looks_clsIn X hc) ?_))))))
 rw[hd'];refine zwp (a:=some dx) (zwb (zwp (zwb ?_)));refine wpAny_nsSet1 (s:={ s with toks:=s.toks+1 }) I.ns fun h' hn2 hs2=>?_
 obtain⟨oD,esD,epD,hoD,hdD,hcD⟩:=hn2.count (PySem.Within.cons name v hw);refine zwb (wpAny_lookBehind hoD (by rw[hdD];exact pastItsLine_dict (le_trans hcD (by rw[length_cons];omega))) ?_)
 exact zwp (h _ ⟨(hs2.2 _ (Ne.symm I.ne)).trans I.obj,hn2,I.ne⟩ hs2)
theorem zhv{s:Shared}{K:Frag}{f:Addr}{R:Result->Shared->Prop}{vs:List Value}{kw:List (Str×Value)}(X:K.In s.heap)(hm:makesIn K C=true)
  (hi:findIn K (.ref C) "__init__"=some (~~~f)) (hf:PySem.W.typeIn K (.ref f)=some (.type "function"))
  (h:codeAny (model prog w) (A.under (.builtin "type.__call__" ⟨.ref C::vs,kw⟩)) (.call (.ref f) ⟨.ref (s.heap.objs.size+1)::vs,kw⟩) (PySem.W.InitBack (s.heap.objs.size+1) R)
   { s with heap:=(s.heap.push emptyDict).push (instObj C s.heap.objs.size) }) :
  codeAny (model prog w) A (.call (.ref C) ⟨vs,kw⟩) R s:=by
 obtain⟨hh,g,d,t,os⟩:=s;exact PySem.W.make_core (PySem.W.makes_of X hm) (PySem.W.looks_findIn X hi) (fun self=>PySem.W.bind_fn X self hf) (.inl rfl) h
def z4(f:Str)(v:V):List (Str×V)->List (Str×V)
 | []=>[(f,v)]
 | (g,x)::r=>if g=f then (g,v)::r else (g,x)::z4 f v r
theorem zp(f g:Str)(v:V):∀fs:List (Str×V),(z4 f v fs).lookup g=if g=f then some v else fs.lookup g
 | []=>by
  show List.lookup g [(f,v)]=_;by_cases h:g=f
  ·have hb:(g==f)=true:=beq_iff_eq.mpr h
   simp only[List.lookup,hb,aK h]
  ·have hb:(g==f)=false:=beq_eq_false_iff_ne.mpr h
   simp only[List.lookup,hb,aJ h]
 | (k,x)::r=>by
  have ih:=zp f g v r;rw[show z4 f v ((k,x)::r)=(if k=f then (k,v)::r else (k,x)::z4 f v r) from rfl]
  by_cases hk:k=f
  ·rw[aK hk]
   by_cases h:g=k
   ·have hb:(g==k)=true:=beq_iff_eq.mpr h
    simp only[List.lookup,hb,aK (h.trans hk)]
   ·have hb:(g==k)=false:=beq_eq_false_iff_ne.mpr h
    simp only[List.lookup,hb,aJ (fun e:g=f=>h (e.trans hk.symm))]
  ·rw[aJ hk]
   by_cases h:g=k
   ·have hb:(g==k)=true:=beq_iff_eq.mpr h
    simp only[List.lookup,hb,aJ (fun e:g=f=>hk (h.symm.trans e))]
   ·have hb:(g==k)=false:=beq_eq_false_iff_ne.mpr h
    simp only[List.lookup,hb];exact ih
theorem jF(f:Str)(v:V):∀fs:List (Str×V),f∈(z4 f v fs).map (·.1)/\∀g,g∈fs.map (·.1)->g∈(z4 f v fs).map (·.1)
 | []=>⟨by simp [z4],fun g h=>by simp at h⟩
 | (k,x)::r=>by
  obtain⟨i1,i2⟩:=jF f v r;rw[show z4 f v ((k,x)::r)=(if k=f then (k,v)::r else (k,x)::z4 f v r) from rfl]
  by_cases hk:k=f
  ·rw[aK hk]
   subst hk;exact⟨by simp,fun g h=>by simpa using h⟩
  ·rw[aJ hk]
   exists ?_,fun g h=>?_
   ·rw[map_cons]
    exact mem_cons_of_mem _ i1
   ·rw[map_cons] at h |-
    rcases List.mem_cons.mp h with e|e
    ·exact List.mem_cons.mpr (.inl e)
    ·exact mem_cons_of_mem _ (i2 g e)
theorem jT(f:Str)(v:V):∀fs:List (Str×V),(z4 f v fs).length<=fs.length+1
 | []=>by simp [z4]
 | (k,x)::r=>by
  have ih:=jT f v r;rw[show z4 f v ((k,x)::r)=(if k=f then (k,v)::r else (k,x)::z4 f v r) from rfl]
  by_cases hk:k=f
  ·rw[aK hk,length_cons,length_cons];omega
  ·rw[aJ hk,length_cons,length_cons];omega
theorem wH(r:uY (some v) o):∃u,o=some u/\yf v u:=by
 cases o with
 | none=>exact(show False from r).elim
 | some u=>exact⟨u,rfl,r⟩
theorem uY.none_of(r:uY none o):o=none:=by
 cases o with
 | none=>rfl
 | some u=>exact(show False from r).elim
theorem zaK(r:yf v u):PySem.W.handedIn u=true:=by
 cases v with
 | non=>cases (show u=Value.none from r);rfl
 | bl b=>cases (show u=Value.bool b from r);rfl
 | int i=>obtain⟨t,e⟩:=(show ∃t,u=Value.int i t from r);cases e;rfl
 | str x=>obtain⟨t,e⟩:=(show ∃t,u=Value.str x t from r);cases e;rfl
 | byt b=>obtain⟨t,e⟩:=(show ∃t,u=Value.bytes b t from r);cases e;rfl
 | flt b=>obtain⟨t,e⟩:=(show ∃t,u=Value.float b t from r);cases e;rfl
 | ref a=>cases (show u=Value.ref a from r);rfl
 | ty n=>cases (show u=Value.type n from r);rfl
end
section
variable {P:Program}{w:World}{H H':Hp}{a C dx:Addr}{fs fs':List (Str×V)}
theorem qc(hok:HOk P w H h)(e:H a=some (.ins C dx fs)):∃mA,zdw h a dx C mA/\(∀f,uY (fs.lookup f) (mA f))/\PySem.Within mA (fs.map (·.1))/\fs.length<=1000/\H dx=some (.own a):=by
 obtain⟨d,z,ne,ob,mA,n,r,q⟩:=(show yR P w H h a (.ins C dx fs) from hok a _ e);exact⟨mA,⟨ob,n,ne⟩,r,q,z,d⟩
structure Cls(K:Frag)(C:Addr):Prop where
 pg:plainGet K C Str.empty=true
 hd:hasDictIn K C=true
 po:plainOver K C=true
 sa:findIn K (.ref C) "__setattr__"=some (some (.builtin "object.__setattr__"))
theorem Cls.get{K:Frag}{C:Addr}(c:Cls K C)(f:Str):plainGet K C f=true:=c.pg
def yJ(K:Frag)(C:Addr)(f:Str):Prop:=findIn K (.ref C) f=some none
theorem yJ.taker{K:Frag}{C:Addr}{f:Str}(n:yJ K C f):takerIn K C f=some none:=by
 unfold takerIn;rw[show findIn K (.ref C) f=some none from n];rfl
structure yW(K:Frag)(C:Addr)(m:Str)(f:Addr):Prop where
 at_:findIn K (.ref C) m=some (~~~f)
 fn:isFn K (.ref f)=true
 kp:keepIn K (.ref f)=true
variable {σ:St}{s:Shared}{f:Str}{v:V}{A:Around}{E:VSP}
theorem zdo{Q:VSP}(I:Inv X pins σ H s)(e:H a=some (.ins C dx fs))(c:Cls X.K C)(n:yJ X.K C f)(l:fs.lookup f=some v)
  (h:∀u s',Inv X pins σ H s'->yf v u->Q u s'):wpAny (model X.prog X.w) A (getAttr (.ref a) f b) Q E s:=by
 obtain⟨mA,O,r,_,_,_⟩:=qc I.hok e;obtain⟨u,hu,ru⟩:=wH (v:=v) (o:=mA f) (by rw[<- l];exact r f)
 exact zjs I.kIn O (c.get f) c.hd n hu (zaK ru) (h u _ (I.tok _) ru)
theorem vG{Q:Value×List Value->Shared->Prop}(I:Inv X pins σ H s)(e:H a=some (.ins C dx fs))(c:Cls X.K C)(k:yW X.K C m g)(l:fs.lookup m=none)
  (h:Q (.ref g,[.ref a]) s):wpAny (model X.prog X.w) A (getMethod (.ref a) m pl) Q E s:=by
 obtain⟨mA,O,r,_,_,_⟩:=qc I.hok e;have hn:mA m=none:=uY.none_of (by rw[<- l];exact r m)
 exact zhM I.kIn O (c.get m) k.at_ k.fn hn h
theorem zcL{Q:Unit->Shared->Prop}(I:Inv X pins σ H s)(e:H a=some (.ins C dx fs))(c:Cls X.K C)(n:yJ X.K C f)(hl:fs.length<1000)(ry:yf y u)
  (h:∀s',Inv X pins σ (upd H a (.ins C dx (z4 f y fs))) s'->Q () s'):wpAny (model X.prog X.w) A (setAttr (.ref a) f u) Q E s:=by
 obtain⟨mA,O,r,wi,_,ho⟩:=qc I.hok e;have hz:(fs.map (·.1)).length<=sizeLine:=by rw[aA,sizeLine_eq];omega
 refine zin I.kIn O c.sa c.po n.taker c.hd wi hz fun h' O' sb=>h _ ?_;have hd:∃o,h'.get? dx=some o:=let ⟨o,_,_,e',_⟩:=O'.ns;⟨o,e'⟩;refine I.write (x:=a) (e:=dx) (by rw[e];exact True.intro) (.inr ho) (fun b q hb z=>(sb.2 b hb).trans z) hd ?_
 exists by rw[zj O.ne];exact ho,?_,O.ne,O'.obj,_,O'.ns,fun g=>?_,fun g hg=>?_
 ·have:=jT f y fs;omega
 ·show uY ((z4 f y fs).lookup g) (if g=f then some u else mA g)
  rw[zp];by_cases q:g=f
  ·rw[aK q,aK q];exact ry
  ·rw[aJ q,aJ q];exact r g
 ·by_cases q:g=f
  ·rw[q];exact(jF f y fs).1
  ·refine(jF f y fs).2 g (wi g fun z=>hg ?_)
   show(if g=f then some u else mA g)=none
   rw[aJ q];exact z
theorem Inv.made(I:Inv X pins σ H s):Inv X pins σ (upd (upd H s.heap.objs.size (.own (s.heap.objs.size+1))) (s.heap.objs.size+1) (.ins C s.heap.objs.size []))
  { s with heap:=(s.heap.push emptyDict).push (instObj C s.heap.objs.size) }:=by
 have e1:(s.heap.push emptyDict).get? s.heap.objs.size=some emptyDict:=zgs s.heap rfl;have e2:((s.heap.push emptyDict).push (instObj C s.heap.objs.size)).get? (s.heap.objs.size+1)=some (instObj C s.heap.objs.size):=by
  have:=zgs (s.heap.push emptyDict) (o:=instObj C s.heap.objs.size) rfl
  rwa [Heap.size_push] at this
 have e3:(s.heap.push emptyDict).Ns s.heap.objs.size (fun _=>none):=⟨emptyDict,#[],_,e1,rfl,(fun e he=>absurd he (by simp)),fun _=>rfl⟩
 have I1:=I.laid (a:=s.heap.objs.size) (o:=.own (s.heap.objs.size+1)) (h':=s.heap.push emptyDict) (t':=s.toks) (fun b u q=>zgp _ q) (le_refl _) ⟨_,e1⟩;refine I1.laid (a:=s.heap.objs.size+1) (o:=.ins C s.heap.objs.size []) (t':=s.toks) (fun b u q=>zgp _ q) (Nat.le_of_eq (Heap.size_push _ _)) ?_;have ne:s.heap.objs.size≠s.heap.objs.size+1:=ne_of_lt (lt_succ_self _);exists by rw[zj ne,za],zero_le _,ne,e2,fun _=>none,(Heap.Ns1.of_empty e3).at fun o q=>zgp _ q,fun _=>True.intro,fun y hy=>absurd rfl hy
theorem zeH{Q:VSP}(hb:attributeBase e f env (eval e env)=eval e env)
  (h:wpAny (model prog w) A (eval e env) (fun o s₁=>wpAny (model prog w) A (getAttr o f true) Q E s₁) E s):wpAny (model prog w) A (eval (.Attribute e f pos) env) Q E s:=
 Attribute_any_ h (by rw[arm_eval_Attribute,hb])
inductive zlMJ(K:Frag)(f:Str)(Q:VK)(x:V)(H1:Hp):Prop|mk(a C dx fs v:_):x=.ref a->H1 a=some (.ins C dx fs)->Cls K C->yJ K C f->fs.lookup f=some v->(Q v H1)->zlMJ K f Q x H1
def zlM(K:Frag)(ta:TE)(f:Str):TE:=fun σ H Q=>ta σ H fun x H1=>zlMJ K f Q x H1
inductive zmXJ(K:Frag)(f:Str)(D:L2.vH)(σ:St)(y:V)(x:V)(H2:Hp):Prop|mk(a C dx fs:_):x=.ref a->H2 a=some (.ins C dx fs)->Cls K C->yJ K C f->fs.length<1000->(D.nx σ (upd H2 a (.ins C dx (z4 f y fs))))->zmXJ K f D σ y x H2
def zmX(K:Frag)(ta tv:TE)(f:Str):TS:=fun D σ H=>tv σ H fun y H1=>ta σ H1 fun x H2=>zmXJ K f D σ y x H2
variable {o e value:Expr}{ta tv:TE}
theorem yI(he:PE X e ta)(hb:attributeBase e f X.env (eval e X.env)=eval e X.env):PE X (.Attribute e f pos) (zlM X.K ta f):=by
 and_intros;refine zeH hb (thn (he pins s σ H _ I h) fun u s1 ⟨x,H1,I1,rx,a,C,dx,fs,v,ex,ea,c,n,l,q⟩=>?_);subst ex;obtain rfl:u=Value.ref a:=rx;exact zdo I1 ea c n l fun u' s2 I2 ru=>⟨v,H1,I2,ru,q⟩
theorem wz(ha:PE X o ta)(hv:PE X value tv)(hs:swapsWith value (some (.Attribute o f pos')) pos.line X.env=pure false):PS X (.Assign [.Attribute o f pos'] value pos) (zmX X.K ta tv f):=by
 exists ?_;intro pins s σ H D I h;refine plainObj_wpAny_Assign_Attribute (thn (hv pins s σ H _ I h) fun u s1 ⟨y,H1,I1,ry,q⟩=>thn (ha pins s1 σ H1 _ I1 q) fun ov s2 ⟨x,H2,I2,rx,a,C,dx,fs,ex,ea,c,n,l,q2⟩=>?_) hs;subst ex;obtain rfl:ov=Value.ref a:=rx;exact zcL I2 ea c n l ry fun s3 I3=>⟨σ,_,I3,q2⟩
variable {Q:VSP}{b:Bool}
inductive uJ(K:Frag)(H:Hp):V->Value->Prop where
 | non:uJ K H .non (.type "NoneType")
 | bl (x:Bool):uJ K H (.bl x) (.type "bool")
 | int (i:Int):uJ K H (.int i) (.type "int")
 | str (x:Str):uJ K H (.str x) (.type "str")
 | flt (x:UInt64):uJ K H (.flt x) (.type "float")
 | lst {a:Addr}{xs:List V}(e:H a=some (.lst xs)):uJ K H (.ref a) (.type "list")
 | frz {a:Addr}{o:Obj}{xs:List V}(e:H a=some (.frz o (.lst xs))):uJ K H (.ref a) (.type "list")
 | tup {a:Addr}{xs:List V}(e:H a=some (.tup xs)):uJ K H (.ref a) (.type "tuple")
 | dK {a:Addr}{kvs:List (Key×V)}(e:H a=some (.dK kvs)):uJ K H (.ref a) (.type "dict")
 | dT {a:Addr}{kvs:List (List Key×V)}(e:H a=some (.dT kvs)):uJ K H (.ref a) (.type "dict")
 | ins {a C dx:Addr}{fs:List (Str×V)}(e:H a=some (.ins C dx fs)) (cl:Cls K C) (ha:findIn K (.ref C) "__class__"=some (some (.builtin "object.__class__")))
   (hn:specialIn K (.builtin "object.__class__") "__get__"=some (some (.builtin "getset_descriptor.__get__"))) (htk:PySem.W.takesIn K (.builtin "object.__class__")=some true)
   (hm:mroIn K C (.type "object")=some true):uJ K H (.ref a) (.ref C)
theorem zfi(I:Inv X pins σ H s)(rx:yf x u)(ty:uJ X.K H x t)(e:kitOne X.K t c=some b)(h:∀tk,Q (.bool b) { s with toks:=tk }):
  wpAny (model X.prog X.w) A (call (.builtin "isinstance") [u,c]) Q E s:=by
 cases ty with
 | non=>cases (show u=Value.none from rx);exact kia_one PySem.W.kitx_none I.kIn True.intro e (fun z=>nomatch z) h
 | bl y=>cases (show u=Value.bool y from rx);exact kia_one PySem.W.kitx_bool I.kIn True.intro e (fun z=>nomatch z) h
 | int i=>obtain⟨t,q⟩:=(show ∃t,u=Value.int i t from rx);cases q;exact kia_one PySem.W.kitx_int I.kIn True.intro e (fun z=>nomatch z) h
 | str y=>obtain⟨t,q⟩:=(show ∃t,u=Value.str y t from rx);cases q;exact kia_one PySem.W.kitx_str I.kIn True.intro e (fun z=>nomatch z) h
 | flt y=>obtain⟨t,q⟩:=(show ∃t,u=Value.float y t from rx);cases q;exact kia_one PySem.W.kitx_float I.kIn True.intro e (fun z=>nomatch z) h
 | @lst a xs ea=>
  cases (show u=Value.ref a from rx);obtain⟨_,_,n,_,h1⟩:=(show yR X.prog X.w H s.heap a (.lst xs) from I.hok a _ ea);exact kia_one PySem.W.kitx_list I.kIn ⟨_,h1,rfl⟩ e (fun z=>nomatch z) h
 | @frz a ob xs ea=>
  cases (show u=Value.ref a from rx);obtain⟨_,_,_,n,_,h1⟩:=(show yR X.prog X.w H s.heap a (.frz ob (.lst xs)) from I.hok a _ ea);exact kia_one PySem.W.kitx_list I.kIn ⟨_,h1,rfl⟩ e (fun z=>nomatch z) h
 | @tup a xs ea=>
  cases (show u=Value.ref a from rx);obtain⟨_,_,_,p⟩:=(show yR X.prog X.w H s.heap a (.tup xs) from I.hok a _ ea);obtain⟨o,h1,h2,_⟩:=p;exact kia_one PySem.W.kitx_tuple I.kIn ⟨o,h1,h2⟩ e (fun z=>nomatch z) h
 | @dK a kvs ea=>
  cases (show u=Value.ref a from rx);obtain⟨_,_,vs,_,p⟩:=(show yR X.prog X.w H s.heap a (.dK kvs) from I.hok a _ ea);obtain⟨o,es,ep,h1,h2,_⟩:=p;exact kia_one PySem.W.kitx_dict I.kIn ⟨o,h1,h2.1⟩ e (fun z=>nomatch z) h
 | @dT a kvs ea=>
  cases (show u=Value.ref a from rx);obtain⟨_,_,xs,_,o,es,ep,h1,h2,_⟩:=(show yR X.prog X.w H s.heap a (.dT kvs) from I.hok a _ ea);exact kia_one PySem.W.kitx_dict I.kIn ⟨o,h1,h2.1⟩ e (fun z=>nomatch z) h
 | @ins a C dx fs ea cl ha hn htk hm=>
  cases (show u=Value.ref a from rx);obtain⟨mA,O,_⟩:=qc I.hok ea;obtain⟨od,J,_⟩:=O.look;exact kia_one (PySem.W.kitx_own (cl.get _) cl.hd ha hn htk hm) I.kIn J e (fun z=>nomatch z) h
structure yl(k:Nat)(A:Around):Prop where
 hd:A.handled=none
 dp:A.depth+3 * k+5<recursionLimit
 un:A.units+16 * k+200<cLine
 gd:A.guards=some []
theorem yl.mono{j k:Nat}(r:yl k A)(h:j<=k):yl j A:=⟨r.hd,by have:=r.dp;omega,by have:=r.un;omega,r.gd⟩
theorem yl.deeper{k:Nat}(r:yl (k+1) A)(env:Env):yl k (A.deeper env):=
 ⟨r.hd,by have:=r.dp;show A.depth+1+3 * k+5<_;omega,by have:=r.un;show A.units+3+16 * k+200<_;omega,r.gd⟩
theorem zdj:(A.under (.builtin "type.__call__" ⟨.ref C::us,kw⟩)).depth=A.depth+1:=by
 first|rfl|simp [Around.under,Code.weight,Code.isCreation,Code.isGuard,Code.isCaller,Code.frames,Code.isFrame,guardIds]
theorem zdi:(A.under (.builtin "type.__call__" ⟨.ref C::us,kw⟩)).units=A.units+1:=by
 first|rfl|simp [Around.under,Code.cUnits,Code.frames,Code.isFrame]
theorem yl.make{k:Nat}(r:yl (k+1) A)(C:Addr)(us:List Value)(kw:List (Str×Value)):yl k (A.under (.builtin "type.__call__" ⟨.ref C::us,kw⟩)):=
 ⟨r.hd,by have:=r.dp;rw[zdj];omega,by have:=r.un;rw[zdi];omega,r.gd⟩
theorem yl.depth{k:Nat}(r:yl k A):A.depth<recursionLimit:=by have:=r.dp;omega
theorem yl.units{k:Nat}(r:yl k A):A.units+64<cLine:=by have:=r.un;omega
theorem yl.units0{k:Nat}(r:yl k A):A.units<cLine:=by have:=r.un;omega
def zeP:TA:=fun _ H Q=>Q [] H
def qj(ta:TE)(tr:TA):TA:=fun σ H Q=>ta σ H fun x H1=>tr σ H1 fun xs H2=>Q (x::xs) H2
variable {te:TE}{t:TA}
theorem zc:PA X [] zeP:=⟨fun _ _ _ _ H Q I h=>Calls.spliced_nil ⟨[],H,I,.nil,h⟩⟩
theorem ziP(ha:PE X e te)(hr:PA X es t)(hs:starEach (e::es) X.env=(false,eval e X.env)::starEach es X.env:=by rfl):PA X (e::es) (qj te t):=by
 exists ?_;intro pos pins s σ H Q I h;rw[hs];show wpAny _ _ (spliced ((false,eval e X.env)::backTo pos (starEach es X.env))) _ _ s;refine Calls.spliced_cons (thn (ha pins s σ H _ I h) fun u s1 ⟨x,H1,I1,r1,q1⟩=>?_);exact thn (hr pos pins s1 σ H1 _ I1 q1) fun us s2 ⟨xs,H2,I2,r2,q2⟩=>⟨x::xs,H2,I2,.cons r1 r2,q2⟩
def zmJ(t:TA):TE:=fun σ H Q=>t σ H fun xs H1=>xs.length<=sizeLine/\∀p,H1 p=none->Q (.ref p) (upd H1 p (.tup xs))
def zki(t:TA):TE:=fun σ H Q=>t σ H fun xs H1=>xs.length<=sizeLine/\∀p,H1 p=none->Q (.ref p) (upd H1 p (.lst xs))
theorem zT{x1}(h:PA X es t):PE X (.Tuple es x1 pos) (zmJ t):=by
 exists ?_;intro pins s σ H Q I hq;refine wpAny_Tuple_spliced (thn (h pos pins s σ H _ I hq) fun us s1 ⟨xs,H1,I1,r,z,q⟩=>⟨by rw[<- r.length];exact z,?_⟩)
 have hf:H1 s1.heap.objs.size=none:=I1.hok.fresh (le_refl _);exists .ref s1.heap.objs.size,upd H1 s1.heap.objs.size (.tup xs),I1.laid (t':=s1.toks) (fun b u e=>zgp _ e) (le_refl _) ?_,rfl,q _ hf;exact⟨z,us,r,⟨_,zgs _ rfl,rfl,_,rfl⟩⟩
theorem zP(h:PA X es t):PE X (.List es pos) (zki t):=by
 exists ?_;intro pins s σ H Q I hq;refine wpAny_List_spliced (thn (h pos pins s σ H _ I hq) fun us s1 ⟨xs,H1,I1,r,z,q⟩=>⟨by rw[<- r.length];exact z,?_⟩)
 have hf:H1 s1.heap.objs.size=none:=I1.hok.fresh (le_refl _);exists .ref s1.heap.objs.size,upd H1 s1.heap.objs.size (.lst xs),I1.laid (t':=s1.toks) (fun b u e=>zgp _ e) (le_refl _) ?_,rfl,q _ hf;exact⟨z,us,0,r,zgs _ rfl⟩
abbrev Sp:=List V->Hp->VK->XK->Prop
abbrev CXT:=List Env->Hp->Shared->XK->Value->Shared->Prop
structure zdz(P:Program)(w:World)(K:Frag)(mg:Str->Option Value)(base:Heap)(A:Around)(outer:List Env)(s:Shared)(H:Hp):Prop where
 frames:A.frames=some outer
 mod:Mod K mg base
 bs:∀b o,base.get? b=some o->s.heap.get? b=some o/\H b=none
 bsz:base.objs.size<=s.heap.objs.size
 funs:s.heap.FunFrames base outer
 frf:∀b∈frs outer,H b=none
 hok:HOk P w H s.heap
 bare:AllBare s.gens
def CE(outer:List Env)(P:Program)(w:World)(H:Hp)(s:Shared)(Q:VK)(u:Value)(s':Shared):Prop:=
 ∃v H',s'.os=s.os/\AllBare s'.gens/\Un (frs outer) [] H H' s.heap s'.heap/\HOk P w H' s'.heap/\yf v u/\Q v H'
def CR(CX:CXT)(outer:List Env)(P:Program)(w:World)(H:Hp)(s:Shared)(Q:VK)(E:XK)(r:Result)(s':Shared):Prop:=
 match r with
 | .ok (.ret u)=>CE outer P w H s Q u s'
 | .ok _=>False
 | .error e=>CX outer H s E e s'
structure zD(P:Program)(w:World)(K:Frag)(mg:Str->Option Value)(base:Heap)(CX:CXT)(k:Nat)(f:Addr)(fd:FuncData)(ps:List Str)(sp:Sp):Prop where
 len:∀vs H Q E,sp vs H Q E->vs.length=ps.length
 run:∀(A:Around) (outer:List Env) (s:Shared) (H:Hp) (args:Args) (us:List Value) (vs:List V) (Q:VK) (E:XK),yl k A->zdz P w K mg base A outer s H->BindsTo s fd args (ps.zip us)->yb vs us->sp vs H Q E->
  codeAny (model P w) A (.call (.ref f) args) (CR CX outer P w H s Q E) s
theorem zdz.make{P:Program}{w:World}{K:Frag}{mg:Str->Option Value}{base:Heap}{A:Around}{outer:List Env}{s:Shared}{H:Hp}(e:zdz P w K mg base A outer s H)(C:Addr)(us:List Value)(kw:List (Str×Value)):
  zdz P w K mg base (A.under (.builtin "type.__call__" ⟨.ref C::us,kw⟩)) outer s H:=⟨by first|exact e.frames|(simpa [Around.under,Code.envs,Code.isFrame,pushEnvs] using e.frames),e.mod,e.bs,e.bsz,e.funs,e.frf,e.hok,e.bare⟩
theorem Inv.env0(I:Inv X pins σ H s):zdz X.prog X.w X.K X.mg X.base X.A X.stack s H:=
 ⟨I.ok.frames,I.ok.mod,I.bs,le_trans I.ok.bsz I.sz,I.stack,I.stkFree,I.hok,I.bare⟩
theorem Inv.after{Q:VK}(I:Inv X pins σ H s)(h:CE X.stack X.prog X.w H s Q u s'):EP X pins σ Q u s':=by
 obtain⟨v,H',os,bare,un,hok,r,q⟩:=h;obtain⟨hh,g,d,t,os'⟩:=s';obtain rfl:os'=s.os:=os;exact⟨v,H',I.call (h':=hh) (g':=g) (d':=d) (t':=t) (ch:=[]) un hok bare (fun b z=>absurd z (by simp)),r,q⟩
def zdL(sp:Sp)(dvs:List V)(E:XK)(t:TA):TE:=fun σ H Q=>t σ H fun vs H1=>sp (vs++dvs) H1 Q E
inductive zfKJ(C:Addr)(m:Str)(sp:Sp)(dvs:List V)(E:XK)(t:TA)(σ:St)(Q:VK)(x:V)(H1:Hp):Prop|mk(a dx fs:_):x=.ref a->H1 a=some (.ins C dx fs)->fs.lookup m=none->(t σ H1 fun vs H2=>sp (x::(vs++dvs)) H2 Q E)->zfKJ C m sp dvs E t σ Q x H1
def zfK(C:Addr)(m:Str)(sp:Sp)(dvs:List V)(E:XK)(ta:TE)(t:TA):TE:=fun σ H Q=>ta σ H fun x H1=>zfKJ C m sp dvs E t σ Q x H1
def zjP(C:Addr)(sp:Sp)(dvs:List V)(E:XK)(t:TA):TE:=fun σ H Q=>t σ H fun vs H1=>∀x dx,H1 x=none->H1 dx=none->dx≠x->
 sp (.ref x::(vs++dvs)) (upd (upd H1 dx (.own x)) x (.ins C dx [])) (fun v H2=>v=.non/\Q (.ref x) H2) E
def zU(K:Frag)(fd:FuncData)(ps:List Str)(ds:List Value):Prop:=
 ∀s us,K.In s.heap->(us++ds).length=ps.length->BindsTo s fd ⟨us,[]⟩ (ps.zip (us++ds))
theorem zU.all{K:Frag}{fd:FuncData}{ps:List Str}(h:∀us:List Value,us.length=ps.length->bindArgs fd ⟨us,[]⟩=pure (ps.zip us)):zU K fd ps []:=fun s us _ hl=>by
 rw[append_nil] at hl |-;exact .of_eq (h us hl)
def xW(CX:CXT)(X:Cx)(E:XK):Prop:=∀(pins:PnL) (σ:St) H s e s',Inv X pins σ H s->CX X.stack H s E e s'->X.xe e s'
end
section
variable {CX:CXT}{k:Nat}{f C:Addr}{sp:Sp}{x m:Str}{ta:TE}{t:TA}
theorem qB{Q:VK}(F:zD X.prog X.w X.K X.mg X.base CX k f fd ps sp)(hr:yl k X.A)(hb:zU X.K fd ps ds)(hd:yb dvs ds)(hx:xW CX X E)
  (I:Inv X pins σ H s) (r:yb vs us) (h:sp (vs++dvs) H Q E):↑X (call (.ref f) us) (EP X pins σ Q) X.xe s:=by
 have r2:yb (vs++dvs) (us++ds):=r.append hd;have hl:(us++ds).length=ps.length:=by rw[<- r2.length];exact F.len _ _ _ _ h
 refine wpAny_call (codeAny_mono (F.run X.A X.stack s H ⟨us,[]⟩ (us++ds) (vs++dvs) Q E hr I.env0 (hb s us I.kIn hl) r2 h) fun r s' hq=>?_);cases r with
 | error e=>exact hx pins σ H s e s' I hq
 | ok fl=>
  cases fl with
  | ret u=>exact I.after hq
  | next=>exact False.elim hq
  | brk=>exact False.elim hq
  | cont=>exact False.elim hq
theorem zee(F:zD X.prog X.w X.K X.mg X.base CX k f fd ps sp)(hr:yl k X.A)(hg:Gl X x)(hm:X.mg x= ~~~f)(hk:keepIn X.K (.ref f)=true)(hb:zU X.K fd ps ds)(hd:yb dvs ds)(hx:xW CX X E)
  (ha:PA X (e::es) t) (hdb:(x==("__debug__" : Str))=false:=by decide) (he:starEach (e::es) X.env=(false,eval e X.env)::starEach es X.env:=by rfl) (hpl:(backTo pos (starEach es X.env)).any (·.1)=false:=by rfl) :
  PE X (.Call (.Name x p) (e::es) [] pos) (zdL sp dvs E t):=by
 and_intros;refine wpAny_Call_Name_kw (vE I hg hm ?_ hdb);refine callWith_K (h₀:=X.base) I.ok.mod.kin hk (thn (ha pos pins s σ H _ I h) fun us s1 ⟨vs,H1,I1,r,q⟩=>⟨I1.kIn,?_⟩) he hpl;exact qB F hr hb hd hx I1 r q
theorem ur(he:PE X o ta)(c:Cls X.K C)(hm:yW X.K C m f)(F:zD X.prog X.w X.K X.mg X.base CX k f fd ps sp)(hr:yl k X.A)(hb:zU X.K fd ps ds)(hd:yb dvs ds)(hx:xW CX X E)(ha:PA X (e::es) t)
  (hst:starEach (e::es) X.env=(false,eval e X.env)::starEach es X.env:=by rfl) (hpl:(backTo pos (starEach es X.env)).any (·.1)=false:=by rfl)
  (ht:eval (.Call (.Attribute o m apos) (e::es) [] pos) X.env=(do
   let ov <- eval o X.env
   standAt apos.atName
   let (f,first) <- holding [ov] (getMethod ov m pl)
   callWith pos f first (backTo pos (starEach (e::es) X.env)) (backToKw pos (keywordEach [] X.env))):=by rfl) :
  PE X (.Call (.Attribute o m apos) (e::es) [] pos) (zfK C m sp dvs E ta t):=by
 and_intros;refine methodCall_KW (pl:=pl) (thn (he pins s σ H _ I h) fun u s1 ⟨x,H1,I1,rx,a,dx,fs,ex,ea,l,q⟩=>?_) ht;subst ex;obtain rfl:u=Value.ref a:=rx;refine vG I1 ea c hm l ?_;refine callWith_K (first:=[.ref a]) (h₀:=X.base) I.ok.mod.kin hm.kp (thn (ha pos pins s1 σ H1 _ I1 q) fun us s2 ⟨vs,H2,I2,r,q2⟩=>⟨I2.kIn,?_⟩) hst hpl
 exact qB (us:=.ref a::us) (vs:=.ref a::vs) F hr hb hd hx I2 (.cons rfl r) q2
theorem yc(he:PE X o ta)(c:Cls X.K C)(hm:yW X.K C m f)(F:zD X.prog X.w X.K X.mg X.base CX k f fd ps sp)(hr:yl k X.A)(hb:zU X.K fd ps ds)(hd:yb dvs ds)(hx:xW CX X E)
  (ht:eval (.Call (.Attribute o m apos) [] [] pos) X.env=(do
   let ov <- eval o X.env
   standAt apos.atName
   let (f,first) <- holding [ov] (getMethod ov m pl)
   callWith pos f first (backTo pos (starEach [] X.env)) (backToKw pos (keywordEach [] X.env))):=by rfl) :
  PE X (.Call (.Attribute o m apos) [] [] pos) (zfK C m sp dvs E ta zeP):=by
 and_intros;refine methodCall_KW (pl:=pl) (thn (he pins s σ H _ I h) fun u s1 ⟨x,H1,I1,rx,a,dx,fs,ex,ea,l,q⟩=>?_) ht;subst ex;obtain rfl:u=Value.ref a:=rx;refine vG I1 ea c hm l ?_;exact PySem.W.callWith_K0 (first:=[.ref a]) I1.kIn hm.kp (qB (us:=[.ref a]) (vs:=[.ref a]) F hr hb hd hx I1 (.cons rfl .nil) q)
structure Mk(K:Frag)(C f:Addr):Prop where
 makes:makesIn K C=true
 init:findIn K (.ref C) "__init__"=some (~~~f)
 fn:isFn K (.ref f)=true
 kp:keepIn K (.ref C)=true
theorem zgv{Q:VK}(M:Mk X.K C f)(F:zD X.prog X.w X.K X.mg X.base CX k f fd ps sp)(hr:yl (k+1) X.A)(hb:zU X.K fd ps ds)(hd:yb dvs ds)
  (hx:xW CX X E) (I:Inv X pins σ H s) (r:yb vs us)
  (h:∀x dx,H x=none->H dx=none->dx≠x->sp (.ref x::(vs++dvs)) (upd (upd H dx (.own x)) x (.ins C dx [])) (fun v H2=>v=.non/\Q (.ref x) H2) E) :
  ↑X (call (.ref C) us) (EP X pins σ Q) X.xe s:=by
 have hq:=h (s.heap.objs.size+1) s.heap.objs.size (I.hok.fresh (le_succ _)) (I.hok.fresh (le_refl _)) (ne_of_lt (lt_succ_self _));have I2:=Inv.made (C:=C) I;have r2:yb (V.ref (s.heap.objs.size+1)::(vs++dvs)) (Value.ref (s.heap.objs.size+1)::(us++ds)):=.cons rfl (r.append hd);have hl:(Value.ref (s.heap.objs.size+1)::us++ds).length=ps.length:=by
  have e:=r2.length;rw[F.len _ _ _ _ hq] at e;exact e.symm
 refine wpAny_call (zhv (f:=f) I.kIn M.makes M.init (beq_iff_eq.mp M.fn) (codeAny_mono (F.run _ X.stack _ _ ⟨Value.ref (s.heap.objs.size+1)::us,[]⟩ (Value.ref (s.heap.objs.size+1)::(us++ds)) _ _ E (hr.make C us [])
  (I2.env0.make C us []) (hb _ (Value.ref (s.heap.objs.size+1)::us) I2.kIn hl) r2 hq) fun r s' hq'=>?_))
 cases r with
 | error e=>exact hx pins σ _ _ e s' I2 hq'
 | ok fl=>
  cases fl with
  | ret u=>
   obtain⟨v,H',I3,rv,ev,q3⟩:=I2.after hq';subst ev;exact⟨rv,⟨V.ref (s.heap.objs.size+1),H',I3,rfl,q3⟩⟩
  | next=>exact False.elim hq'
  | brk=>exact False.elim hq'
  | cont=>exact False.elim hq'
theorem zec(M:Mk X.K C f)(F:zD X.prog X.w X.K X.mg X.base CX k f fd ps sp)(hr:yl (k+1) X.A)(hg:Gl X x)(hm:X.mg x= ~~~C)(hb:zU X.K fd ps ds)(hd:yb dvs ds)(hx:xW CX X E)
  (ha:PA X (e::es) t) (hdb:(x==("__debug__" : Str))=false:=by decide) (he:starEach (e::es) X.env=(false,eval e X.env)::starEach es X.env:=by rfl) (hpl:(backTo pos (starEach es X.env)).any (·.1)=false:=by rfl) :
  PE X (.Call (.Name x p) (e::es) [] pos) (zjP C sp dvs E t):=by
 and_intros;refine wpAny_Call_Name_kw (vE I hg hm ?_ hdb);refine callWith_K (h₀:=X.base) I.ok.mod.kin M.kp (thn (ha pos pins s σ H _ I h) fun us s1 ⟨vs,H1,I1,r,q⟩=>⟨I1.kIn,?_⟩) he hpl;exact zgv M F hr hb hd hx I1 r q
variable {te:TE}{tk:TA}
variable {g:List Value->List Value->List Value}{gV:List V->List V->List V}
structure zv(N P:List Str)(sc:Scope):Prop where
 kind:sc.kind=.function
 co:sc.isCoroutine=false
 gen:sc.isGenerator=false
 nd:N.Nodup
 pre:N.take P.length=P
 par:∀x∈P,sc.names.lookup x=some .local\/sc.names.lookup x=some .cell
 nofree:∀y∈sc.names,y.2≠.free
theorem fsc(a:sc.kind=.function:=by rfl)(b:sc.isCoroutine=false:=by rfl)(c:sc.isGenerator=false:=by rfl)(d:N.Nodup:=by decide +kernel)(e:N.take P.length=P:=by rfl)(f:∀x∈P,sc.names.lookup x=some .local\/sc.names.lookup x=some .cell:=by decide +kernel)(g:∀y∈sc.names,y.2≠.free:=by decide +kernel):zv N P sc:=⟨a,b,c,d,e,f,g⟩
theorem zaT{kindOf:Str->Option NameKind}{x:Str}:∀{binds:List (Str×Value)}{m:Str->Option Value},(∀v,(x,v)∉binds)->bindL kindOf binds m x=m x
 | [],_,_=>rfl
 | (n,v)::r,m,h=>by
  unfold bindL;rw[zaT fun w hw=>h w (mem_cons_of_mem _ hw)];split
  ·have:x≠n:=by rintro rfl;exact h v mem_cons_self
   simp [this]
  ·rfl
theorem zaV{kindOf:Str->Option NameKind}{x:Str}:∀{binds:List (Str×Value)}{m:Str->Option Value},(∀v,(x,v)∉binds)->bindC kindOf binds m x=m x
 | [],_,_=>rfl
 | (n,v)::r,m,h=>by
  unfold bindC;rw[zaV fun w hw=>h w (mem_cons_of_mem _ hw)];split
  ·rfl
  ·have:x≠n:=by rintro rfl;exact h v mem_cons_self
   simp [this]
theorem zaU{kindOf:Str->Option NameKind}{x:Str}{v:Value}:∀{P:List Str}{vs:List Value}{i:Nat}{m:Str->Option Value},P.Nodup->P[i]?=some x->vs[i]?=some v->kindOf x=some .local->
  bindL kindOf (P.zip vs) m x=some v
 | [],_,_,_,_,h,_,_=>by simp at h
 | _::_,[],_,_,_,_,h,_=>by simp at h
 | p::P,w::vs,0,m,nd,h1,h2,hk=>by
  simp at h1 h2;subst h1;subst h2;show bindL kindOf ((p,w)::P.zip vs) m p=_;unfold bindL;rw[zaT fun v hv=>(List.nodup_cons.mp nd).1 (of_mem_zip hv).1,aK hk];simp
 | p::P,w::vs,i+1,m,nd,h1,h2,hk=>by
  show bindL kindOf ((p,w)::P.zip vs) m x=_;unfold bindL;exact zaU (i:=i) (List.nodup_cons.mp nd).2 (by simpa using h1) (by simpa using h2) hk
theorem zaW{kindOf:Str->Option NameKind}{x:Str}{v:Value}:∀{P:List Str}{vs:List Value}{i:Nat}{m:Str->Option Value},P.Nodup->P[i]?=some x->vs[i]?=some v->kindOf x≠some .local->
  bindC kindOf (P.zip vs) m x=some v
 | [],_,_,_,_,h,_,_=>by simp at h
 | _::_,[],_,_,_,_,h,_=>by simp at h
 | p::P,w::vs,0,m,nd,h1,h2,hk=>by
  simp at h1 h2;subst h1;subst h2;show bindC kindOf ((p,w)::P.zip vs) m p=_;unfold bindC;rw[zaV fun v hv=>(List.nodup_cons.mp nd).1 (of_mem_zip hv).1,aJ hk];simp
 | p::P,w::vs,i+1,m,nd,h1,h2,hk=>by
  show bindC kindOf ((p,w)::P.zip vs) m x=_;unfold bindC;exact zaW (i:=i) (List.nodup_cons.mp nd).2 (by simpa using h1) (by simpa using h2) hk
def uK(N:List Str)(vs:List V):St:=vs.map some++List.replicate (N.length - vs.length) none
def zak(CX:CXT)(P:Program)(w:World)(K:Frag)(mg:Str->Option Value)(base:Heap)(N:List Str)(qual:Str)(scope:Scope)(f:Addr)(cd:Value)(A:Around)(outer:List Env)(s:Shared)(H:Hp)(E:XK):Cx where
 prog:=P
 w:=w
 K:=K
 mg:=mg
 base:=base
 A:=A.deeper (envOfC qual scope s.heap.objs.size f cd)
 N:=N
 s₀:=s
 H₀:=H
 env:=envOfC qual scope s.heap.objs.size f cd
 outer:=outer
 stack:=envOfC qual scope s.heap.objs.size f cd::outer
 ex:=[]
 calm:=true
 fn:=fun _=>true
 pn:=[]
 xe:=fun e s'=>wpAny (model P w) (A.deeper (envOfC qual scope s.heap.objs.size f cd)) (leaving (envOfC qual scope s.heap.objs.size f cd) e) (fun _ s''=>CX outer H s E e s'') (fun e' s''=>CX outer H s E e' s'') s'
theorem zcu{sc:Scope}{n:Nat}{x:Str}(h:sc.names.lookup x=some .cell):∃c,(cellsFrom n sc.names []).lookup x=some c:=by
 have q:=PySem.W.cellsFrom_some sc.names n [] (.inl h);exact Option.isSome_iff_exists.mp q
theorem zfj{CX:CXT}{P:Program}{w:World}{K:Frag}{mg:Str->Option Value}{base:Heap}{N ps:List Str}{qual:Str}{scope:Scope}{f:Addr}{cd:Value}{A:Around}{outer:List Env}{s s1:Shared}{H:Hp}{E:XK}{us:List Value}{vs:List V}
  (S:zv N ps scope) (hd:A.handled=none) (e0:zdz P w K mg base A outer s H) (hl:vs.length=ps.length) (r:yb vs us)
  (x:InCallC s s.heap.objs.size (bindL (envOfC qual scope s.heap.objs.size f cd).kindOf (ps.zip us) fun _=>none) (cellsFrom (s.heap.objs.size+1) scope.names []) (bindC (envOfC qual scope s.heap.objs.size f cd).kindOf (ps.zip us) fun _=>none) s1) :
  Inv (zak CX P w K mg base N qual scope f cd A outer s H E) [] (uK N vs) H s1:=by
 have hpl:ps.length<=N.length:=by have:=congrArg List.length S.pre;rw[length_take] at this;omega
 obtain⟨h1,tk,rfl,hk⟩:=x.done;have noA:∀b:Addr,b∉(zak CX P w K mg base N qual scope f cd A outer s H E).ex:=fun b z=>absurd (show b∈([]:List Addr) from z) (by simp)
 refine⟨⟨e0.mod,S.kind,rfl,rfl,le_refl _,fun y z c h1 h2=>?_,fun y hy=>?_,fun y c _ h=>?_,fun _=>hd,Around.frames_deeper e0.frames,.inr ⟨rfl,rfl⟩,fun b z=>absurd z (noA b),e0.bs,e0.bsz,fun b _ _=>noA b,fun b z=>absurd z (noA b),e0.funs,e0.frf⟩,
  rfl,e0.bare,Un.kept hk,⟨_,x.toInCall.ns,fun i y v h1 h2 h3=>?_⟩,fun y c h=>⟨_,x.cell y c h⟩,e0.hok.fresh (le_refl _),fun y c h=>?_,fun p hp=>absurd (show p∈([]:PnL) from hp) (by simp),e0.hok.kept hk,?_⟩
 ·exact name_of_addr x.apart (PySem.mem_of_lookup h1) (PySem.mem_of_lookup h2)
 ·have hy:scope.names.lookup y=some .cell\/scope.names.lookup y=some .free:=hy
  rcases hy with hy|hy
  ·exact zcu hy
  ·exact absurd rfl (S.nofree _ (PySem.mem_of_lookup hy))
 ·exact le_of_lt (x.above y c (PySem.mem_of_lookup h))
 ·have hi:i<vs.length:=by
   unfold uK at h2;by_cases hi:i<vs.length
   ·exact hi
   ·rw[List.getElem?_append_right (by simpa using hi)] at h2
    rw[List.getElem?_replicate] at h2;split at h2 <;> cases h2
  have ha:vs[i]?=some v:=by
   unfold uK at h2;rw[List.getElem?_append_left (by simpa using hi),getElem?_map] at h2
   cases e:vs[i]? with
   | none=>rw[e] at h2;cases h2
   | some a=>rw[e] at h2;cases h2;rfl
  obtain⟨u,hu,rv⟩:=r.get ha;have hp:ps[i]?=some y:=by
   rw[<- S.pre,List.getElem?_take_of_lt ∅];exact h1
  have ndP:ps.Nodup:=by rw[<- S.pre];exact S.nd.sublist (take_sublist _ _)
  exists u,rv,?_;rcases S.par y (aH hp) with k|k
  ·exact .inl ⟨k,zaU ndP hp hu k⟩
  ·obtain⟨c,e⟩:=zcu (n:=s.heap.objs.size+1) k
   refine .inr ⟨.inl k,c,e,?_⟩;have q:=x.cell y c e;rw[zaW ndP hp hu (by show scope.names.lookup y≠_;rw[k];decide)] at q
   exact q
 ·exact e0.hok.fresh (le_of_lt (x.above y c (PySem.mem_of_lookup h)))
 ·unfold uK
  show _=N.length;rw[aG,aA,List.length_replicate];omega
theorem zhR{CX:CXT}{P:Program}{w:World}{K:Frag}{mg:Str->Option Value}{base:Heap}{k:Nat}{f:Addr}{name qual:Str}{params:Arguments}{body:List Stmt}{scope:Scope}{dV kV doc pm cdv ct oc:Value}{an od:Option Addr}
  {osl:Array (Option Value)}{N ps:List Str}{sp:Sp}(lk:K.lookup f=some ⟨oc,od,.func (fnOf name qual params body scope dV kV doc pm an cdv ct),osl⟩) (hcd:codeIn K cdv qual=true) (S:zv N ps scope)
  (len:∀vs H Q E,sp vs H Q E->vs.length=ps.length)
  (hbody:∀(A:Around) (outer:List Env) (s:Shared) (H:Hp) (vs:List V) (Q:VK) (E:XK),yl k (A.deeper (envOfC qual scope s.heap.objs.size f cdv))->sp vs H Q E->
   ∃t,PSs (zak CX P w K mg base N qual scope f cdv A outer s H E) body t/\t { nx:=fun _ H'=>Q .non H',rt:=Q } (uK N vs) H) :
  zD P w K mg base CX (k+1) f (fnOf name qual params body scope dV kV doc pm an cdv ct) ps sp:=by
 exists len,fun A outer s H args us vs Q E hr e0 hb r hsp=>?_;have hl:=len _ _ _ _ hsp;have KX:K.In s.heap:=e0.mod.kin.keeps fun b o e=>(e0.bs b o e).1;have lim:s.heap.NoLimit:=e0.mod.nolimit.keeps fun b o e=>(e0.bs b o e).1;have hkind:∀y∈ps.zip us,scope.names.lookup y.1=some .local\/(scope.names.lookup y.1=some .cell/\((cellsFrom (s.heap.objs.size+1) scope.names []).lookup y.1).isSome=true):=fun⟨n,v⟩ hy=>by
  rcases S.par n (of_mem_zip hy).1 with q|q
  ·exact .inl q
  ·exact .inr ⟨q,PySem.W.cellsFrom_some _ _ _ (.inl q)⟩
 refine codeAny_call_function hr.depth (KX _ _ lk) rfl S.co S.gen rfl (PySem.W.codeRec_of KX hcd) (hb _ _ _ _ ?_);refine wpAny_newFunctionEnv_cells S.kind hkind fun env he s1 x=>?_;subst he;exists lim.keeps x.toInCall.keep,codeAny_func ?_;obtain⟨t,ht,hq⟩:=hbody A outer s H vs Q E (hr.deeper _) hsp;have I:Inv (zak CX P w K mg base N qual scope f cdv A outer s H E) [] (uK N vs) H s1:=zfj S hr.hd e0 hl r x;refine wpAny_mono (ht [] s1 (uK N vs) H _ I hq) (fun fl s' hs=>?_) fun e s' hs=>hs;have fin:∀{σ':St}{H':Hp}{v:V}{u:Value},Inv (zak CX P w K mg base N qual scope f cdv A outer s H E) [] σ' H' s'->yf v u->Q v H'->CE outer P w H s Q u s':=
  fun {σ' H' v u} J rv q=>⟨v,H',J.os,J.bare,J.base,J.hok,rv,q⟩
 cases fl with
 | ret u=>
  obtain⟨v,σ',H',J,rv,q⟩:=hs;exact fin J rv q
 | next=>
  obtain⟨σ',H',J,q⟩:=hs;exact fin (v:=V.non) (u:=Value.none) J rfl q
 | brk=>
  obtain⟨_,_,_,q⟩:=hs;exact False.elim q
 | cont=>
  obtain⟨_,_,_,q⟩:=hs;exact False.elim q
variable {r:List V->Hp->VK->Prop}
def tCB(r:List V->Hp->VK->Prop)(t:TA):TE:=fun σ H Q=>t σ H fun vs H1=>r vs H1 Q
theorem zgK{X:Cx}{p pos:Pos}{e:Expr}{es:List Expr}{id:String}(hc:xQ X (.builtin id) r)(hg:Gl X x)(hm:X.mg x=none)(hv:bootBuiltins x=some (.builtin id))(ha:PA X (e::es) t)(hn:x≠"__name__":=by decide)(hdb:(x==("__debug__" : Str))=false:=by decide)
  (he:starEach (e::es) X.env=(false,eval e X.env)::starEach es X.env:=by rfl) (hpl:(backTo pos (starEach es X.env)).any (·.1)=false:=by rfl):PE X (.Call (.Name x p) (e::es) [] pos) (tCB r t):=by
 and_intros;refine wpAny_Call_Name_kw (uV I hg hm hv ?_ hn hdb);exact PyProof.Rows.callWith_builtin1 (thn (ha pos pins s σ H _ I h) fun us s1 ⟨vs,H1,I1,r1,q1⟩=>hc pins s1 σ H1 vs us Q I1 r1 q1) he hpl
theorem zeY(hc:xQ X (.type T) r)(hg:Gl X x)(hm:X.mg x=none)(hv:bootBuiltins x=some (.type T))(ha:PA X (e::es) t)(hn:x≠"__name__":=by decide)(hdb:(x==("__debug__" : Str))=false:=by decide)
  (he:starEach (e::es) X.env=(false,eval e X.env)::starEach es X.env:=by rfl) (hpl:(backTo pos (starEach es X.env)).any (·.1)=false:=by rfl):PE X (.Call (.Name x p) (e::es) [] pos) (tCB r t):=by
 and_intros;refine wpAny_Call_Name_kw (uV I hg hm hv ?_ hn hdb);exact PyProof.Rows.callWith_type1 (thn (ha pos pins s σ H _ I h) fun us s1 ⟨vs,H1,I1,r1,q1⟩=>hc pins s1 σ H1 vs us Q I1 r1 q1) he hpl
theorem zdd(hc:xQ X (.type T) r)(hg:Gl X x)(hm:X.mg x=none)(hv:bootBuiltins x=some (.type T))(hn:x≠"__name__":=by decide)(hdb:(x==("__debug__" : Str))=false:=by decide):
  PE X (.Call (.Name x p) [] [] pos) (tCB r zeP):=by
 and_intros;refine wpAny_Call_Name_kw (uV I hg hm hv ?_ hn hdb);exact PyProof.Rows.callWith_type0 (hc pins s σ H [] [] Q I .nil h)
end
end L2
namespace HT
open PySem PyProof.Rows
section
open PySem.SeqAt
open PySem.AutoSeq1 (wpAny_loadPart')
open PySem.MeetsSeq PySem.MeetsSeq2 PySem.MeetsSeq3
end
section
def sIx(n d:Nat):Option Int->Nat
 | none=>d
 | some v=>if v<0 then (v+(n:Int)).toNat else min v.toNat n
theorem zl4(n d:Nat):sIx n d none=d:=rfl
theorem zmI(n d k:Nat):sIx n d (some (k:Int))=min k n:=by
 show(if (k:Int)<0 then ((k:Int)+(n:Int)).toNat else min (k:Int).toNat n)=min k n
 rw[L2.aJ ∅,Int.toNat_natCast]
end
end HT
namespace L2
open PySem PySem.Spec PyProof.Rows
abbrev TO:=St->Hp->(Option Int->Hp->Prop)->Prop
structure PO(X:Cx)(e:Option Expr)(t:TO):Prop where
 run:∀(pins:PnL) (s:Shared) (σ : St) (H:Hp) (Q:Option Int->Hp->Prop),Inv X pins σ H s->t σ H Q->
  ↑X (evalPart e X.env) (fun u s'=>∃o H',Inv X pins σ H' s'/\IsPart u o/\Q o H') X.xe s
instance {X:Cx}{e:Option Expr}{t:TO}:CoeFun (PO X e t) (fun _=>∀(pins:PnL) (s:Shared) (σ : St) (H:Hp) (Q:Option Int->Hp->Prop),Inv X pins σ H s->t σ H Q->
  ↑X (evalPart e X.env) (fun u s'=>∃o H',Inv X pins σ H' s'/\IsPart u o/\Q o H') X.xe s):=⟨PO.run⟩
def zig:TO:=fun _ H Q=>Q none H
def zlJ(t:TE):TO:=fun σ H Q=>t σ H fun x H1=>∃i,x=.int i/\Q (some i) H1
section
variable {te:TE}{lo hi:Option Expr}{tl th:TO}
theorem yU:PO X none zig:=by
 and_intros;rw[evalPart_none];exact zwp ⟨none,H,I,.none,h⟩
theorem yn(h:PE X e te):PO X (some e) (zlJ te):=by
 exists ?_;intro pins s σ H Q I hw;rw[evalPart_some];refine thn (h pins s σ H _ I hw) fun u s1 ⟨x,H1,I1,r1,q1⟩=>?_;obtain⟨i,rfl,q⟩:=q1;obtain⟨t,rfl⟩:=r1;exact⟨some i,H1,I1,.int i t,q⟩
def SlR(X:Cx)(r:V->Option Int->Option Int->Hp->VK->Prop):Prop:=
 ∀(pins:PnL) s (σ:St) H x v vl vu (lo hi:Option Int) sl (Q:VK),Inv X pins σ H s->yf x v->s.heap.IsSliceOf sl vl vu .none->IsPart vl lo->IsPart vu hi->r x lo hi H Q->
  ∃T id,typeLookup (.type T) "__getitem__"=pure (some (.builtin id))/\s.TypeIs v T/\↑X (getItem v (.ref sl)) (EP X pins σ Q) X.xe s
def tSl(r:V->Option Int->Option Int->Hp->VK->Prop)(te:TE)(tl th:TO):TE:=fun σ H Q=>te σ H fun x H1=>tl σ H1 fun l H2=>th σ H2 fun u H3=>r x l u H3 Q
theorem yp{r:V->Option Int->Option Int->Hp->VK->Prop}(hr:SlR X r)(he:PE X e te)(hl:PO X lo tl)(hu:PO X hi th):PE X (.Subscript e (.Slice lo hi none p2) pos) (tSl r te tl th):=by
 and_intros;refine Subscript_ (thn (he pins s σ H _ I h) fun v s1 ⟨x,H1,I1,r1,q1⟩=>?_);refine wpAny_Slice (thn (hl pins s1 σ H1 _ I1 q1) fun vl s2 ⟨l,H2,I2,pl,q2⟩=>thn (hu pins s2 σ H2 _ I2 q2) fun vu s3 ⟨u,H3,I3,pu,q3⟩=>?_);rw[evalPart_none];refine zwp ?_;have I4:Inv X pins σ H3 { s3 with heap:=s3.heap.push { cls:=.type "slice",data:=.fields #[vl,vu,.none] } }:=I3.kept (t':=s3.toks) fun b ob q=>zgp _ q
 obtain⟨T,id,hT,ht,hg⟩:=hr pins { s3 with heap:=s3.heap.push { cls:=.type "slice",data:=.fields #[vl,vu,.none] } } σ H3 x v vl vu l u s3.heap.objs.size Q I4 r1 (Heap.IsSliceOf.new ..) pl pu q3
 show ↑X (subscriptTail e (.Slice lo hi none p2) v (.ref s3.heap.objs.size)) (EP X pins σ Q) X.xe { s3 with heap:=s3.heap.push { cls:=.type "slice",data:=.fields #[vl,vu,.none] } }
 exact tail_any (ops:=[.ref s3.heap.objs.size,v]) ht hT hg (by with_unfolding_all rfl)
def wg(xs:List V)(lo hi:Option Int):List V:=(xs.drop (HT.sIx xs.length 0 lo)).take (HT.sIx xs.length xs.length hi - HT.sIx xs.length 0 lo)
theorem zcq(xs:List V)(lo hi:Option Int):(wg xs lo hi).length<=xs.length:=by
 unfold wg;rw[length_take,length_drop];omega
def ixN(n:Nat)(i:Int):Option Nat:=if 0<=i then (if i<n then some i.toNat else none) else if -(n:Int)<=i then some (i+n).toNat else none
def atI{α : Type}(xs:List α)(i:Int):Option α:=(ixN xs.length i).bind fun j=>xs[j]?
theorem zer{n:Nat}{i:Int}{j:Nat}(h:ixN n i=some j):seqIndex? i n=some j/\j<n/\-(n:Int)<=i/\i<n:=by
 unfold ixN at h;by_cases h0 : 0<=i
 ·rw[aK h0] at h
  by_cases h1:i<n
  ·rw[aK h1] at h
   have e:i.toNat=j:=Option.some.inj h;exact⟨by rw[seqIndex_of h0 h1,e],∅,∅,h1⟩
  ·rw[aJ h1] at h;cases h
 ·rw[aJ h0] at h
  by_cases h1 : -(n:Int)<=i
  ·rw[aK h1] at h
   have e:(i+n).toNat=j:=Option.some.inj h;exact⟨by rw[seqIndex_neg ∅ h1,e],∅,h1,∅⟩
  ·rw[aJ h1] at h;cases h
theorem zbB{α : Type}{xs:List α}{i:Int}{v : α}(h:atI xs i=some v):∃j,seqIndex? i xs.length=some j/\xs[j]?=some v/\j<xs.length/\-(xs.length:Int)<=i/\i<xs.length:=by
 unfold atI at h;cases e:ixN xs.length i with
 | none=>rw[e] at h;cases h
 | some j=>
  rw[e] at h;obtain⟨h1,h2,h3,h4⟩:=zer e;exact⟨j,h1,h,h2,h3,h4⟩
theorem wW{α : Type}{xs:List α}{j:Nat}{v : α}(h:xs[j]?=some v):atI xs (j:Int)=some v:=by
 have hj:j<xs.length:=(List.getElem?_eq_some_iff.mp h).1;have e:ixN xs.length (j:Int)=some j:=by
  unfold ixN;rw[aK ∅,aK ∅];simp
 unfold atI;rw[e];exact h
def zjM(b:Expr):Prop:=∀o i,subscripted b false o i=operate [o,i] (getItem o i)
def IxR(X:Cx)(r:R2):Prop:=
 ∀(value slice:Expr) (pins:PnL) s (σ:St) H x y v u (Q:VK),Inv X pins σ H s->yf x v->yf y u->r x y H Q->
  subscripted slice false v u=operate [v,u] (getItem v u)->↑X (subscriptTail value slice v u) (EP X pins σ Q) X.xe s
def MtR(X:Cx)(id:String)(r:V->List V->Hp->VK->Prop):Prop:=
 ∀(pins:PnL) s (σ:St) H x xs v us (Q:VK),Inv X pins σ H s->yf x v->yb xs us->r x xs H Q->
  ↑X (call (.builtin id) (v::us)) (EP X pins σ Q) X.xe s
variable {a b:Expr}{ta tb:TE}
theorem zV{r:R2}(hr:IxR X r)(ha:PE X a ta)(hb:PE X b tb)(hs:zjM b):PE X (.Subscript a b pos) (tOp r ta tb):=by
 and_intros;exact Subscript_ (zlv ha hb I h fun v u s2 x y H2 I2 rx ry q=>hr a b pins s2 σ H2 x y v u Q I2 rx ry q (hs _ _))
inductive znA(K:Frag)(x y:V)(H:Hp)(Q:VK):Prop where
 | mk (p:Addr) (xs:List V) (i:Int) (v:V) (e1:x=.ref p) (e2:y=.int i) (h:SqL K H p xs) (a:atI xs i=some v) (q:Q v H)
def zl8(K:Frag):R2:=fun x y H Q=>znA K x y H Q
inductive znz(K:Frag)(x y:V)(H:Hp)(Q:VK):Prop where
 | mk (p:Addr) (xs:List V) (i:Int) (v:V) (e1:x=.ref p) (e2:y=.int i) (h:SqT K H p xs) (a:atI xs i=some v) (q:Q v H)
def wv(K:Frag):R2:=fun x y H Q=>znz K x y H Q
inductive zm4J(x:V)(y:V)(H:Hp)(Q:VK):Prop|mk(z i c:_):x=.str z->y=.int i->z.length<=sizeLine->atI z.cps.toList i=some c->(Q (.str ⟨#[c]⟩) H)->zm4J x y H Q
def zm4:R2:=fun x y H Q=>zm4J x y H Q
theorem yO:IxR X (zl8 X.K):=by
 intro value slice pins s σ H x y v u Q I rx ry h hs;obtain⟨p,xs,i,z,rfl,rfl,hq,he,q⟩:=h;cases rx;obtain⟨t,rfl⟩:=ry;obtain⟨its,r,pl,hz⟩:=I.list hq;obtain⟨j,h1,h2,h3,h4,h5⟩:=zbB he;obtain⟨w,ew,rw'⟩:=r.get h2;have hl:=r.length;have hn:=qO;have fin:EP X pins σ Q w s:=⟨z,H,I,rw',q⟩;by_cases h0 : 0<=i
 ·have hj:i.toNat=j:=by
   rw[seqIndex_of h0 h5] at h1;exact Option.some.inj h1
  exact item_listR pl.isList h0 ∅ (by rw[hj];simpa using ew) fin hs
 ·have hj:(i+(its.toArray.size:Int)).toNat=j:=by
   rw[seqIndex_neg ∅ h4] at h1
   rw[size_toArray,<- hl];exact Option.some.inj h1
  exact subscriptTail_builtinR (x:=w) pl.isList.typeIs slot_list_getitem.lookup
   (wpAny_getItem_list_neg (Q:=fun r s'=>r=w/\EP X pins σ Q r s') pl.isList ∅ (by rw[size_toArray] <;> omega) ∅ (by rw[hj];simpa using ew) ⟨rfl,fin⟩) hs
theorem yd:IxR X (wv X.K):=by
 intro value slice pins s σ H x y v u Q I rx ry h hs;obtain⟨p,xs,i,z,rfl,rfl,hq,he,q⟩:=h;cases rx;obtain⟨t,rfl⟩:=ry;obtain⟨its,r,pl,hz⟩:=I.tuple hq;obtain⟨j,h1,h2,h3,h4,h5⟩:=zbB he;obtain⟨w,ew,rw'⟩:=r.get h2;have hl:=r.length;have hn:=qO;have fin:EP X pins σ Q w s:=⟨z,H,I,rw',q⟩;exact subscriptTail_builtinR (x:=w) pl.typeIs slot_tuple_getitem.lookup
  (getItem_tuple (j:=j) (Q:=fun r s'=>r=w/\EP X pins σ Q r s') pl ∅ ∅ (by rw[size_toArray,<- hl];exact h1) (by simpa using ew) ⟨rfl,fin⟩) hs
theorem jH:IxR X zm4:=by
 intro value slice pins s σ H x y v u Q I rx ry h hs;obtain⟨z,i,c,rfl,rfl,hz,he,q⟩:=h;obtain⟨t,rfl⟩:=rx;obtain⟨t',rfl⟩:=ry;obtain⟨j,h1,h2,h3,h4,h5⟩:=zbB he;have hl:z.cps.toList.length=z.length:=by simp [Str.length]
 rw[hl] at h1 h4 h5;have hn:=qO;exact tail_any (typeIs_str s z t) slot_str_getitem.lookup (getItem_str (c:=c) (by
  have e1:decide (i < -(2 ^ 63:Int))=false:=aD ∅
  have e2:decide (i>=2 ^ 63)=false:=aD ∅
  rw[e1,e2,Bool.or_false]) (by rw[h1];simpa using h2) ⟨.str ⟨#[c]⟩,H,I.tok _,⟨_,rfl⟩,q⟩) hs
theorem za5(lo hi:Option Int)(n:Nat):(sliceBounds lo hi none n).1=((HT.sIx n 0 lo:Nat):Int)/\(sliceBounds lo hi none n).2.1=((HT.sIx n n hi:Nat):Int)/\(sliceBounds lo hi none n).2.2=1:=by
 exists ?_,?_,rfl
 ·cases lo with
  | none=>simp [sliceBounds,HT.sIx]
  | some i=>
   simp only[sliceBounds,HT.sIx,getD_none,show(1:Int)>0 by decide,if_true]
   by_cases h:i<0
   ·simp only[h,if_true] <;> omega
   ·simp only[h,if_false] <;> omega
 ·cases hi with
  | none=>simp [sliceBounds,HT.sIx]
  | some i=>
   simp only[sliceBounds,HT.sIx,getD_none,show(1:Int)>0 by decide,if_true]
   by_cases h:i<0
   ·simp only[h,if_true] <;> omega
   ·simp only[h,if_false] <;> omega
theorem zai(its:List Value)(lo hi:Option Int):slicePick its.toArray lo hi none=((its.drop (HT.sIx its.length 0 lo)).take (HT.sIx its.length its.length hi - HT.sIx its.length 0 lo)).toArray:=by
 obtain⟨h1,h2,h3⟩:=za5 lo hi its.toArray.size;unfold slicePick;rw[h1,h2,h3];simp only[sliceRange_one,pick_run,size_toArray] <;> rfl
inductive zm0J(K:Frag)(x:V)(lo:Option Int)(hi:Option Int)(H:Hp)(Q:VK):Prop|mk(a xs:_):x=.ref a->SqL K H a xs->(∀p,H p=none->Q (.ref p) (upd H p (.lst (wg xs lo hi))))->zm0J K x lo hi H Q
def zm0(K:Frag):V->Option Int->Option Int->Hp->VK->Prop:=fun x lo hi H Q=>zm0J K x lo hi H Q
theorem yC:SlR X (zm0 X.K):=by
 intro pins s σ H x v vl vu lo hi sl Q I rx hs pl pu h;obtain⟨a,xs,rfl,hx,q⟩:=h;cases rx;obtain⟨its,r,ht,hz⟩:=I.list hx;have hlen:=r.length;exists "list",_,slot_list_getitem.lookup,ht.isList.typeIs,?_;refine wpAny_getItem_list_slice ht.isList hs pl pu .none (by simp) ?_ (by rw[size_toArray] <;> omega)
 rw[zai,<- hlen];exists .ref s.heap.objs.size,_,I.laid (t':=s.toks) (o:=.lst (wg xs lo hi)) (fun b ob q=>zgp _ q) (le_refl _) ?_,rfl,q _ (I.hok.fresh (le_refl _));exact⟨le_trans (zcq xs lo hi) hz,_,0,(r.drop (HT.sIx xs.length 0 lo)).take (HT.sIx xs.length xs.length hi - HT.sIx xs.length 0 lo),zgs _ rfl⟩
def wy:V->Bool
 | .non=>true
 | .bl _=>true
 | .int _=>true
 | .str _=>true
 | _=>false
def eqV:V->V->Bool
 | .non,.non=>true
 | .bl a,.bl b=>a==b
 | .bl a,.int b=>(if a then 1 else 0)==b
 | .int a,.bl b=>a==(if b then 1 else 0)
 | .int a,.int b=>a==b
 | .str a,.str b=>a==b
 | _,_=>false
theorem zhX(ry:yf y u)(rx:yf x v)(fy:wy y=true)(fx:wy x=true):SeqAt.EqAt A s u v (eqV y x):=by
 cases y with
 | non=>
  cases ry;cases x with
  | non=>cases rx;exact SeqAt.EqAt.same _
  | bl b=>cases rx;exact SeqAt.EqAt.none_bool b
  | int b=>obtain⟨t,rfl⟩:=rx;exact SeqAt.EqAt.none_int b t
  | str b=>obtain⟨t,rfl⟩:=rx;exact SeqAt.EqAt.none_str b t
  | _=>exact absurd (show false=true from fx) zft
 | bl a=>
  cases ry;cases x with
  | non=>cases rx;exact SeqAt.EqAt.bool_none a
  | bl b=>cases rx;exact SeqAt.EqAt.bool_bool a b
  | int b=>obtain⟨t,rfl⟩:=rx;exact SeqAt.EqAt.bool_int a b t
  | str b=>obtain⟨t,rfl⟩:=rx;exact SeqAt.EqAt.bool_str a b t
  | _=>exact absurd (show false=true from fx) zft
 | int a=>
  obtain⟨t',rfl⟩:=ry;cases x with
  | non=>cases rx;exact SeqAt.EqAt.int_none a t'
  | bl b=>cases rx;exact SeqAt.EqAt.int_bool a t' b
  | int b=>obtain⟨t,rfl⟩:=rx;exact SeqAt.EqAt.int_int a t' b t
  | str b=>obtain⟨t,rfl⟩:=rx;exact SeqAt.EqAt.int_str a t' b t
  | _=>exact absurd (show false=true from fx) zft
 | str a=>
  obtain⟨t',rfl⟩:=ry;cases x with
  | non=>cases rx;exact SeqAt.EqAt.str_none a t'
  | bl b=>cases rx;exact SeqAt.EqAt.str_bool a t' b
  | int b=>obtain⟨t,rfl⟩:=rx;exact SeqAt.EqAt.str_int a t' b t
  | str b=>obtain⟨t,rfl⟩:=rx;exact SeqAt.EqAt.str_str a t' b t
  | _=>exact absurd (show false=true from fx) zft
 | _=>exact absurd (show false=true from fy) zft
def eqU(x:V)(u:Value):Bool:=match u with
 | .none=>eqV .non x
 | .bool b=>eqV (.bl b) x
 | .int i _=>eqV (.int i) x
 | .str z _=>eqV (.str z) x
 | _=>false
theorem zhW(r:yf y u)(f:wy y=true):eqU x u=eqV y x:=by
 cases y with
 | non=>cases r;rfl
 | bl b=>cases r;rfl
 | int i=>obtain⟨t,rfl⟩:=r;rfl
 | str z=>obtain⟨t,rfl⟩:=r;rfl
 | _=>exact absurd (show false=true from f) zft
theorem jp{x:V}:∀{xs:List V}{us:List Value},yb xs us->xs.all wy=true->us.any (eqU x)=xs.any fun y=>eqV y x
 | _,_,.nil,_=>rfl
 | y::xs,u::us,.cons r t,f=>by
  rw[all_cons,Bool.and_eq_true] at f;rw[any_cons,any_cons,zhW r f.1,jp t f.2]
theorem vY{A:Around}{s:Shared}{x:V}{v:Value}(rx:yf x v)(fx:wy x=true):∀{xs:List V}{us:List Value},yb xs us->xs.all wy=true->∀u∈us,SeqAt.EqAt A s u v (eqU x u)
 | _,_,.nil,_=>fun u hu=>by cases hu
 | y::xs,u::us,.cons r t,f=>fun u' hu=>by
  rw[all_cons,Bool.and_eq_true] at f;rcases List.mem_cons.mp hu with rfl|hu
  ·rw[zhW r f.1];exact zhX r rx f.1 fx
  ·exact vY rx fx t f.2 u' hu
def inV(x:V)(xs:List V):Bool:=xs.any fun y=>eqV y x
inductive rInJ(K:Frag)(neg:Bool)(x:V)(y:V)(H:Hp)(Q:VK):Prop|mk(p xs:_):y=.ref p->(SqL K H p xs\/SqT K H p xs)->wy x=true->xs.all wy=true->(Q (.bl (if neg then !inV x xs else inV x xs)) H)->rInJ K neg x y H Q
def rIn(K:Frag)(neg:Bool):R2:=fun x y H Q=>rInJ K neg x y H Q
theorem yY:OpR X (compareOp .In) (rIn X.K false):=by
 intro pins s σ H x y v u Q I rx ry h;obtain⟨p,xs,rfl,hq,fx,fs,q⟩:=h;cases ry;rcases hq with hq|hq
 ·obtain⟨its,r,pl,hz⟩:=I.list hq
  refine SeqAt.in_listAt (eqU x) pl.isList (fun w hw=>vY rx fx r fs w (by simpa using hw)) ⟨.bl _,H,I,rfl,?_⟩
  rw[show its.toArray.any (eqU x)=its.any (eqU x) by simp,jp r fs]
  exact q
 ·obtain⟨its,r,pl,hz⟩:=I.tuple hq
  refine SeqAt.in_tupleAt (eqU x) pl (fun w hw=>vY rx fx r fs w (by simpa using hw)) ⟨.bl _,H,I,rfl,?_⟩
  rw[show its.toArray.any (eqU x)=its.any (eqU x) by simp,jp r fs]
  exact q
theorem yL:OpR X (compareOp .NotIn) (rIn X.K true):=by
 intro pins s σ H x y v u Q I rx ry h;obtain⟨p,xs,rfl,hq,fx,fs,q⟩:=h;cases ry;rcases hq with hq|hq
 ·obtain⟨its,r,pl,hz⟩:=I.list hq
  refine SeqAt.notIn_listAt (eqU x) pl.isList (fun w hw=>vY rx fx r fs w (by simpa using hw)) ⟨.bl _,H,I,rfl,?_⟩
  rw[show its.toArray.any (eqU x)=its.any (eqU x) by simp,jp r fs]
  exact q
 ·obtain⟨its,r,pl,hz⟩:=I.tuple hq
  refine SeqAt.notIn_tupleAt (eqU x) pl (fun w hw=>vY rx fx r fs w (by simpa using hw)) ⟨.bl _,H,I,rfl,?_⟩
  rw[show its.toArray.any (eqU x)=its.any (eqU x) by simp,jp r fs]
  exact q
theorem zO:xQ X (.builtin "len") (fun xs H Q=>∃p ys,xs=[.ref p]/\(SqL X.K H p ys\/SqT X.K H p ys)/\Q (.int ys.length) H):=by
 intro pins s σ H xs us Q I r h;obtain⟨p,ys,rfl,hq,q⟩:=h;obtain⟨u,rfl,rx⟩:=vd r;cases rx;have hn:=qO;rcases hq with hq|hq
 ·obtain⟨its,r',pl,hz⟩:=I.list hq
  have hlen:=r'.length;exact Calls.call_len_list pl.isList (by simp only[size_toArray] <;> omega) ⟨.int ys.length,H,I.tok _,⟨s.toks+1,by rw[size_toArray,hlen]⟩,q⟩
 ·obtain⟨its,r',pl,hz⟩:=I.tuple hq
  have hlen:=r'.length;exact len_tuple pl (by simp only[size_toArray] <;> omega) ⟨.int ys.length,H,I.tok _,⟨s.toks+1,by rw[size_toArray,hlen]⟩,q⟩
theorem zbA:xQ X (.builtin "len") (fun xs H Q=>∃z,xs=[.str z]/\z.length<=sizeLine/\Q (.int z.length) H):=by
 intro pins s σ H xs us Q I r h;obtain⟨z,rfl,hz,q⟩:=h;obtain⟨u,rfl,t,rfl⟩:=vd r;have hn:=qO;exact len_str ∅ ⟨.int z.length,H,I.tok _,⟨_,rfl⟩,q⟩
theorem yP:xQ X (.type "list") (fun xs H Q=>∃p ys,xs=[.ref p]/\(SqL X.K H p ys\/SqT X.K H p ys)/\∀l,H l=none->Q (.ref l) (upd H l (.lst ys))):=by
 intro pins s σ H xs us Q I r h;obtain⟨p,ys,rfl,hq,q⟩:=h;obtain⟨u,rfl,rx⟩:=vd r;cases rx;have fin:∀its,yb ys its->ys.length<=sizeLine->∀h' (c':Nat),(∀b o',s.heap.get? b=some o'->h'.get? b=some o')->
   h'.get? s.heap.objs.size=some { cls:=.type "list",dict:=none,data:=.seq its.toArray c',slots:=#[] }->EP X pins σ Q (.ref s.heap.objs.size) { s with heap:=h' }:=fun its r' hz h' c' kp e=>
  ⟨.ref s.heap.objs.size,_,I.laid (t':=s.toks) kp (le_refl _) (show yR X.prog X.w _ h' _ (.lst ys) from ⟨hz,its,c',r',e⟩),rfl,q _ (I.hok.fresh (le_refl _))⟩
 rcases hq with hq|hq
 ·obtain⟨its,r',pl,hz⟩:=I.list hq
  have hlen:=r'.length;obtain⟨o,ho,hc,n,hd⟩:=pl.isList;exact call_list_seq p (.inl rfl) ho hc hd (fun h' c' kp e=>fin its r' hz h' c' kp e) (by simp only[size_toArray] <;> omega)
 ·obtain⟨its,r',pl,hz⟩:=I.tuple hq
  have hlen:=r'.length;obtain⟨o,ho,hc,n,hd⟩:=pl;exact call_list_seq p (.inr rfl) ho hc hd (fun h' c' kp e=>fin its r' hz h' c' kp e) (by simp only[size_toArray] <;> omega)
def tyV(K:Frag)(T:String)(x:V)(H:Hp):Prop:=match x with
 | .str _=>T="str"
 | .int _=>T="int"
 | .ref p=>(T="list"/\∃xs,SqL K H p xs)\/(T="tuple"/\∃o,K.lookup p=some o/\o.cls=.type "tuple"/\o.dict=none)\/
   (T="dict"/\((∃kvs,H p=some (.dK kvs))\/∃kvs,H p=some (.dT kvs)))\/(T="set"/\∃S n,H p=some (.set S n))
 | _=>False
theorem zkd(I:Inv X pins σ H s)(r:yf x v)(ty:tyV X.K T x H):
  s.TypeIs v T/\∀a,v=.ref a->∃ob,s.heap.get? a=some ob/\ob.dict=none:=by
 cases x with
 | str z=>
  obtain⟨t,rfl⟩:=r;cases (show T="str" from ty);exact⟨typeIs_str s z t,fun _ e=>nomatch e⟩
 | int i=>
  obtain⟨t,rfl⟩:=r;cases (show T="int" from ty);exact⟨typeIs_int s i t,fun _ e=>nomatch e⟩
 | ref p=>
  cases r;rcases ty with ⟨rfl,xs,hq⟩|⟨rfl,o,hk,hc,hd⟩|⟨rfl,hk⟩|⟨rfl,S,n,hk⟩
  ·obtain⟨its,_,pl,_⟩:=I.list hq
   exists pl.isList.typeIs,fun a e=>?_;cases e;obtain⟨o,n,e,c,hd,_⟩:=pl;exact⟨o,e,hd⟩
  ·exists ⟨o,I.kIn p o hk,hc⟩,fun a e=>?_
   cases e;exact⟨o,I.kIn _ o hk,hd⟩
  ·have z:∃o,s.heap.get? p=some o/\o.ExactDict:=by
    rcases hk with ⟨kvs,hk⟩|⟨kvs,hk⟩
    ·obtain⟨_,_,_,_,o,_,_,e,ex,_⟩:=I.hok p _ hk
     exact⟨o,e,ex⟩
    ·obtain⟨_,_,_,_,o,_,_,e,ex,_⟩:=I.hok p _ hk
     exact⟨o,e,ex⟩
   obtain⟨o,e,ex⟩:=z;exists ⟨o,e,ex.1⟩,fun a e2=>?_;cases e2;exact⟨o,e,ex.2.1⟩
  ·obtain⟨o,_,_,_,e,ex,_⟩:=I.hok p _ hk
   exists ⟨o,e,ex.1⟩,fun a e2=>?_;cases e2;exact⟨o,e,ex.2.1⟩
 | _=>exact False.elim ty
def tBM(K:Frag)(T:String)(r:V->List V->Hp->VK->Prop)(to:TE)(t:TA):TE:=fun σ H Q=>to σ H fun x H1=>tyV K T x H1/\t σ H1 fun xs H2=>r x xs H2 Q
variable {to:TE}{t:TA}{r:V->List V->Hp->VK->Prop}
theorem xh{X:Cx}{e:Expr}{o:Expr}{es:List Expr}{name:Str}{apos cpos:Pos}{T id:String}(pa:PlainAttrs T)(slot:Slot T name id)(hty:typeOf (.builtin id)=pure (.type "method_descriptor"))(hm:MtR X id r)(ho:PE X o to)(ha:PA X (e::es) t)
  (hbase:attributeBase o name X.env (eval o X.env)=eval o X.env:=by rfl)
  (hfew:((backTo cpos (starEach (e::es) X.env)).all (fun x=>!x.1)&&(backToKw cpos (keywordEach [] X.env)).all (fun x=>x.1.isSome)
   && decide ((e::es).length+([]:List Keyword).length+(if ([]:List Keyword).isEmpty then 0 else 1)<30))=true:=by rfl)
  (hline:(apos.endLine==cpos.line)=true:=by rfl) (hs:starEach (e::es) X.env=(false,eval e X.env)::starEach es X.env:=by rfl) (hplain:(backTo cpos (starEach es X.env)).any (·.1)=false:=by rfl) :
  PE X (.Call (.Attribute o name apos) (e::es) [] cpos) (tBM X.K T r to t):=by
 and_intros;refine wpAny_Call_method_late hbase hfew hline rfl (thn (ho pins s σ H _ I h) fun v s1 ⟨x,H1,I1,r1,ty,q1⟩=>?_);obtain⟨h1,h2⟩:=zkd I1 r1 ty;exists T,id,pa,slot,hty,h1,h2,?_;have hA:=ha cpos pins s1 σ H1 _ I1 q1;rw[hs] at hA |-;refine Calls.callWith_builtin (by show(false||(backTo cpos (starEach es X.env)).any (·.1))=false;rw[hplain] <;> rfl) (Calls.evalArgs_plain ?_)
 exact thn hA fun us s2 ⟨vs,H2,I2,r2,q2⟩=>hm pins s2 σ H2 x vs v us Q I2 r1 r2 q2
def MtM(X:Cx)(id:String)(r:V->List V->Hp->VK->Prop):Prop:=
 ∀(pins:PnL) s (σ:St) H x xs v us (Q:VK),Inv X pins σ H s->yf x v->yb xs us->r x xs H Q->
  ↑X (call (.builtin id) (v::us)) (EP X pins σ Q) X.xe s
theorem yb.one:∀{x:V}{us:List Value},yb [x] us->∃u,us=[u]/\yf x u
 | _,_,.cons r .nil=>⟨_,rfl,r⟩
theorem yb.eraseIdx:∀{xs:List V}{us:List Value}(i:Nat),yb xs us->yb (xs.eraseIdx i) (us.eraseIdx i)
 | _,_,_,.nil=>.nil
 | _,_,0,.cons _ t=>t
 | _,_,i+1,.cons r t=>.cons r (yb.eraseIdx i t)
theorem yb.rep{xs:List V}{us:List Value}(h:yb xs us):∀k:Nat,yb (List.replicate k xs).flatten (List.replicate k us).flatten
 | 0=>.nil
 | k+1=>by
  rw[replicate_succ,replicate_succ,flatten_cons,flatten_cons];exact yb.append h (yb.rep h k)
theorem zaE{α : Type}:∀(l:List α) (i:Nat),(l.eraseIdx i).length<=l.length
 | [],_=>le_refl _
 | _::_,0=>le_succ _
 | _::r,i+1=>succ_le_succ (zaE r i)
theorem zaN(its:List Value):∀(k:Nat) (acc:List Value),
  List.foldl (fun x1 x2=>x1++x2) acc.toArray (List.replicate k its.toArray)=(acc++(List.replicate k its).flatten).toArray
 | 0,acc=>by simp
 | k+1,acc=>by
  have e:acc.toArray++its.toArray=(acc++its).toArray:=by simp
  have e2:(acc++its)++(List.replicate k its).flatten=acc++(List.replicate (k+1) its).flatten:=by
   rw[replicate_succ,flatten_cons,append_assoc]
  rw[<- e2,<- zaN its k (acc++its),<- e,replicate_succ,List.foldl_cons]
end
section
variable {H:Hp}{l b:Addr}{xs ys zs:List V}
theorem Inv.lset{X:Cx}{pins:PnL}{σ:St}{s:Shared}{its its':List Value}{n:Nat}{f:Array Value->Array Value}{t':Nat}(I:Inv X pins σ H s)(hH:H l=some (.lst xs))
  (e:s.heap.get? l=some { cls:=.type "list",data:=.seq its.toArray n }) (hf:f its.toArray=its'.toArray) (hv:yb ys its') (hz:ys.length<=sizeLine) :
  Inv X pins σ (upd H l (.lst ys)) { s with heap:=s.heap.update l (Obj.mapSeq f),toks:=t' }:=by
 have q:=PySem.IsL.update e f;rw[hf] at q;refine I.write (x:=l) (e:=l) (by rw[hH];exact trivial) (.inl rfl) (fun b' u hb hu=>(Heap.get?_update_other s.heap (Obj.mapSeq f) (Ne.symm hb)).trans hu) ⟨_,q⟩ ?_
 exact⟨hz,its',_,hv,q⟩
theorem Inv.lnew{t':Nat}(I:Inv X pins σ H s)(hv:yb ys its)(hz:ys.length<=sizeLine):
  Inv X pins σ (upd H s.heap.objs.size (.lst ys)) { s with heap:=s.heap.push { cls:=.type "list",data:=.seq its.toArray },toks:=t' }:=
 I.laid (fun _ _ q=>zgp _ q) (le_refl _) ⟨hz,its,0,hv,zgs _ rfl⟩
theorem Inv.fresh(I:Inv X pins σ H s):H s.heap.objs.size=none:=I.hok.fresh (le_refl _)
theorem Inv.lstM(I:Inv X pins σ H s)(hH:H l=some (.lst xs)):xs.length<=sizeLine/\∃(its:List Value) (n:Nat),yb xs its/\xs.length=its.length/\s.heap.get? l=some { cls:=.type "list",data:=.seq its.toArray n }:=by
 obtain⟨z,its,n,r,e⟩:=I.hok l _ hH;exact⟨z,its,n,r,r.length,e⟩
theorem zb9{n:Nat}(h:n<=sizeLine):Builtin.List.listTooLong n=false:=by
 unfold Builtin.List.listTooLong;exact aD ∅
inductive ziDJ(x:V)(vs:List V)(H:Hp)(Q:VK):Prop|mk(l xs y:_):x=.ref l->vs=[y]->H l=some (.lst xs)->xs.length<sizeLine->(Q .non (upd H l (.lst (xs++[y]))))->ziDJ x vs H Q
def ziD:V->List V->Hp->VK->Prop:=fun x vs H Q=>ziDJ x vs H Q
theorem z9:MtM X "list.append" ziD:=by
 intro pins s σ H x vs v us Q I rx rv h;obtain⟨l,xs,y,rfl,rfl,hH,hz,q⟩:=h;cases rx;obtain⟨u,rfl,ru⟩:=rv.one;obtain⟨z,its,n,r,hl,e⟩:=I.lstM hH;refine call_meets F.slot_list_append ⟨_,e,rfl⟩ F.entry_list_append (F.args_list_append_2 _ _) (PySem.list_append l its.toArray n u (by rw[size_toArray];omega)) ⟨e,?_⟩
 exists .non,_,I.lset (its':=its++[u]) hH e (by simp) (r.append (.cons ru .nil)) ?_,rfl,q
 rw[aG,length_singleton];omega
inductive ziCJ(x:V)(vs:List V)(H:Hp)(Q:VK):Prop|mk(l b xs zs:_):x=.ref l->vs=[.ref b]->H l=some (.lst xs)->H b=some (.lst zs)->xs.length+zs.length<=sizeLine->(Q .non (upd H l (.lst (xs++zs))))->ziCJ x vs H Q
def ziC:V->List V->Hp->VK->Prop:=fun x vs H Q=>ziCJ x vs H Q
theorem zaC:MtM X "list.extend" ziC:=by
 intro pins s σ H x vs v us Q I rx rv h;obtain⟨l,b,xs,zs,rfl,rfl,hH,hB,hz,q⟩:=h;cases rx;obtain⟨u,rfl,ru⟩:=rv.one;cases ru;obtain⟨z,its,n,r,hl,e⟩:=I.lstM hH;obtain⟨z2,its2,n2,r2,hl2,e2⟩:=I.lstM hB;have hsz:its.toArray.size+its2.toArray.size<=sizeLine:=by rw[size_toArray,size_toArray];omega
 have hlong:¬(!its.toArray.isEmpty&&Builtin.List.listTooLong (its.toArray.size+its2.toArray.size))=true:=by
  rw[zb9 hsz,Bool.and_false];exact zft
 refine call_meets F.slot_list_extend ⟨_,e,rfl⟩ F.entry_list_extend (F.args_list_extend_2 _ _)
  (AutoSeq1.list_extend_list_list_0 l its.toArray n b its2.toArray n2 hlong (by rw[size_toArray];omega) ∅) ⟨e,e2,?_⟩
 exists .non,_,I.lset (its':=its++its2) hH e (by simp) (r.append r2) ?_,rfl,q
 rw[aG];omega
inductive zkPJ(x:V)(vs:List V)(H:Hp)(Q:VK):Prop|mk(l xs i k y:_):x=.ref l->vs=[.int i]->H l=some (.lst xs)->-(2 ^ 63)<=i->i<2 ^ 63->seqIndex? i xs.length=some k->xs[k]?=some y->(Q y (upd H l (.lst (xs.eraseIdx k))))->zkPJ x vs H Q
def zkP:V->List V->Hp->VK->Prop:=fun x vs H Q=>zkPJ x vs H Q
theorem zhs:MtM X "list.pop" zkP:=by
 intro pins s σ H x vs v us Q I rx rv h;obtain⟨l,xs,i,k,y,rfl,rfl,hH,h1,h2,hk,hy,q⟩:=h;cases rx;obtain⟨u,rfl,ru⟩:=rv.one;obtain⟨t,rfl⟩:=ru;obtain⟨z,its,n,r,hl,e⟩:=I.lstM hH;obtain⟨w,hw,rw'⟩:=r.get hy;refine call_meets F.slot_list_pop ⟨_,e,rfl⟩ F.entry_list_pop (F.args_list_pop_2 _ _)
  (MeetsSeq.list_pop_at l its.toArray n i t k w (fitsIndex_both h1 h2) (by rw[size_toArray,<- hl];exact hk) (by rw[<- Array.getElem?_toList];exact hw) (by rw[size_toArray];omega)) ⟨e,?_⟩
 exists y,_,I.lset (its':=its.eraseIdx k) hH e ?_ (r.eraseIdx k) ?_,rw',q
 ·show its.toArray.eraseIdxIfInBounds k=(its.eraseIdx k).toArray
  rw[List.eraseIdxIfInBounds_toArray]
 ·have:=zaE xs k
  omega
inductive zm5J(x:V)(y:V)(H:Hp)(Q:VK):Prop|mk(l b xs zs:_):x=.ref l->y=.ref b->H l=some (.lst xs)->H b=some (.lst zs)->xs.length+zs.length<=sizeLine->(∀p,H p=none->Q (.ref p) (upd H p (.lst (xs++zs))))->zm5J x y H Q
def zm5:R2:=fun x y H Q=>zm5J x y H Q
theorem yr:OpR X (binaryOp .Add) zm5:=by
 intro pins s σ H x y v u Q I rx ry h;obtain⟨l,b,xs,zs,rfl,rfl,hH,hB,hz,q⟩:=h;cases rx;cases ry;obtain⟨z,its,n,r,hl,e⟩:=I.lstM hH;obtain⟨z2,its2,n2,r2,hl2,e2⟩:=I.lstM hB;refine PySem.P.add_list e e2 ?_ (by rw[size_toArray,size_toArray];omega)
 have ea:its.toArray++its2.toArray=(its++its2).toArray:=by simp
 rw[ea];exact⟨.ref _,_,I.lnew (t':=s.toks) (r.append r2) (by rw[aG];omega),rfl,q _ I.fresh⟩
inductive zm1J(x:V)(y:V)(H:Hp)(Q:VK):Prop|mk(l k xs:_):x=.ref l->y=.int k->H l=some (.lst xs)->-(2 ^ 63)<=k->k<2 ^ 63->xs.length * k.toNat<=sizeLine->(∀p,H p=none->Q (.ref p) (upd H p (.lst (List.replicate k.toNat xs).flatten)))->zm1J x y H Q
def zm1:R2:=fun x y H Q=>zm1J x y H Q
theorem zjk{α : Type}(xs:List α)(k:Nat):(List.replicate k xs).flatten.length=k * xs.length:=by
 induction k with
 | zero=>simp
 | succ k ih=>rw[replicate_succ,flatten_cons,aG,ih,Nat.succ_mul,Nat.add_comm]
theorem zgN:OpR X (binaryOp .Mult) zm1:=by
 intro pins s σ H x y v u Q I rx ry h;obtain⟨l,k,xs,rfl,rfl,hH,h1,h2,hz,q⟩:=h;cases rx;obtain⟨t,rfl⟩:=ry;obtain⟨z,its,n,r,hl,e⟩:=I.lstM hH;have hlen:its.toArray.size * k.toNat<=sizeLine:=by rw[size_toArray,<- hl];exact hz
 have hcap:¬its.toArray.size * k.toNat>(2 ^ 63 - 1) / 8:=by
  have:(sizeLine:Nat)<=(2 ^ 63 - 1) / 8:=by decide
  omega
 have hfit:¬(!Builtin.List.listFitsIndex k)=true:=by
  rw[fitsIndex_both h1 h2];exact zft
 have hlong:¬Builtin.List.listTooLong (its.toArray.size * k.toNat)=true:=by
  rw[zb9 hlen];exact zft
 have hnew:List.foldl (fun x1 x2=>x1++x2) #[] (List.replicate (if its.toArray.isEmpty=true then 0 else k.toNat) its.toArray)=(List.replicate k.toNat its).flatten.toArray:=by
  have f0:∀m:Nat,List.foldl (fun x1 x2=>x1++x2) #[] (List.replicate m its.toArray)=(List.replicate m its).flatten.toArray:=fun m=>by
   have:=zaN its m []
   rw[nil_append] at this;exact this
  rw[f0];cases its with
  | nil=>simp
  | cons a r'=>rw[aJ (by simp)]
 refine wpAny_binaryOp_repeat_ref (T:="list") (U:="int") ⋯ ⟨_,e,rfl⟩ (fun s'=>typeIs_int s' k t) noFill_list_mul F.fills_int_mul F.slot_int_rmul repeat_list F.slot_int_index.lookup
  (call_meets F.slot_int_rmul (typeIs_int s k t) F.entry_int_rmul (F.args_int_rmul_2 _ _) (int___rmul___int_list k t l its.toArray n)
   ⟨e,rfl,⟨_,e,rfl⟩,call_meets F.slot_list_mul ⟨_,e,rfl⟩ F.entry_list_mul (F.args_list_mul_2 _ _) (AutoListH.list___mul___list_int_3 l its.toArray n k t hfit hcap hlong) ⟨e,?_⟩⟩)
 rw[hnew];exact⟨.ref _,_,I.lnew (t':=s.toks) (r.rep k.toNat) (by rw[zjk,Nat.mul_comm];exact hz),rfl,q _ I.fresh⟩
variable {E:VSP}
end
section
variable {κ : Type}[DecidableEq κ]
def yq(kvs:List (κ×V))(k : κ):Option V:=(kvs.find? fun kv=>decide (kv.1=k)).map (·.2)
def xB(kvs:List (κ×V))(k : κ)(v:V):List (κ×V):=
 if (kvs.any fun kv=>decide (kv.1=k))=true then kvs.map (fun kv=>if kv.1=k then (kv.1,v) else kv) else kvs++[(k,v)]
theorem xz{p : κ×V}{r:List (κ×V)}{k : κ}(e:p.1=k):yq (p::r) k=some p.2:=by simp [yq,find?_cons,e]
theorem xA{p : κ×V}{r:List (κ×V)}{k : κ}(e:¬p.1=k):yq (p::r) k=yq r k:=by simp [yq,find?_cons,e]
theorem ve(k : κ):∀kvs:List (κ×V),(kvs.any fun kv=>decide (kv.1=k))=(yq kvs k).isSome
 | []=>rfl
 | p::r=>by
  rw[any_cons];by_cases e:p.1=k
  ·simp only[xz e,aC e,Bool.true_or,Option.isSome_some]
  ·rw[xA e,aD e,Bool.false_or];exact ve k r
theorem zbJ(k j : κ)(y:V):∀kvs:List (κ×V),yq (kvs.map fun kv=>if kv.1=k then (kv.1,y) else kv) j=(yq kvs j).map fun x=>if j=k then y else x
 | []=>rfl
 | p::r=>by
  have ih:=zbJ k j y r;rw[map_cons];by_cases h:p.1=k
  ·rw[aK h]
   by_cases e:p.1=j
   ·rw[xz (p:=(p.1,y)) e,xz e,map_some,aK (e.symm.trans h)]
   ·rw[xA (p:=(p.1,y)) e,xA e,ih]
  ·rw[aJ h]
   by_cases e:p.1=j
   ·rw[xz (p:=p) e,xz e,map_some,aJ (fun z=>h (e.trans z))]
   ·rw[xA (p:=p) e,xA e,ih]
theorem zas(k j : κ)(y:V):∀kvs:List (κ×V),yq kvs k=none->yq (kvs++[(k,y)]) j=if j=k then some y else yq kvs j
 | [],_=>by
  by_cases e:k=j
  ·rw[aK e.symm];exact xz (p:=(k,y)) e
  ·rw[aJ (fun z=>e z.symm)];exact xA (p:=(k,y)) e
 | p::r,hn=>by
  rw[cons_append];have hk:¬p.1=k:=fun z=>by rw[xz z] at hn;cases hn
  rw[xA hk] at hn;have ih:=zas k j y r hn;by_cases e:p.1=j
  ·rw[xz e,xz e,aJ (fun z=>hk (e.trans z))]
  ·rw[xA e,xA e,ih]
theorem zbI(kvs:List (κ×V))(k j : κ)(y:V):yq (xB kvs k y) j=if j=k then some y else yq kvs j:=by
 unfold xB;by_cases a:(kvs.any fun kv=>decide (kv.1=k))=true
 ·rw[aK a,zbJ]
  rw[ve] at a;by_cases e:j=k
  ·obtain⟨x,hx⟩:=Option.isSome_iff_exists.mp a
   rw[aK e,e,hx,map_some,aK rfl]
  ·rw[aJ e]
   cases yq kvs j with
   | none=>rfl
   | some x=>rw[map_some,aJ e]
 ·rw[aJ a]
  refine zas k j y kvs ?_;rw[ve] at a;cases q:yq kvs k with
  | none=>rfl
  | some x=>rw[q] at a;exact(a rfl).elim
theorem ww(kvs:List (κ×V))(k : κ)(v:V):(xB kvs k v).length<=kvs.length+1:=by
 unfold xB;split
 ·rw[aA];omega
 ·rw[aG,length_cons,length_nil];omega
theorem uY.isSome_eq(r:uY o u):o.isSome=u.isSome:=by
 cases o with
 | none=>cases u with
  | none=>rfl
  | some _=>exact(show False from r).elim
 | some _=>cases u with
  | none=>exact(show False from r).elim
  | some _=>rfl
theorem uY.getD(r:uY o u)(rd:yf d d'):yf (o.getD d) (u.getD d'):=by
 cases o with
 | none=>cases u with
  | none=>exact rd
  | some _=>exact(show False from r).elim
 | some _=>cases u with
  | none=>exact(show False from r).elim
  | some _=>exact r
theorem KV.val(r:KV kvs vs)(k : κ):uY (yq kvs k) (valueAt vs k):=by
 unfold KV at r;induction r with
 | nil=>exact True.intro
 | @cons p q ps qs h t ih=>
  obtain⟨h1,h2⟩:=h;by_cases e:p.1=k
  ·have e':q.1=k:=h1.symm.trans e
   have b:valueAt (q::qs) k=some q.2:=by simp [valueAt,find?_cons,e']
   rw[xz e,b];exact h2
  ·have e':¬q.1=k:=fun z=>e (h1.trans z)
   have b:valueAt (q::qs) k=valueAt qs k:=by simp [valueAt,find?_cons,e']
   rw[xA e,b];exact ih
theorem KV.any(r:KV kvs vs)(k : κ):(kvs.any fun kv=>decide (kv.1=k))=vs.any fun kv=>decide (kv.1=k):=by
 unfold KV at r;induction r with
 | nil=>rfl
 | cons h t ih=>rw[any_cons,any_cons,ih,h.1]
theorem KV.repl(r:KV kvs vs)(k : κ)(ry:yf y u):
  KV (kvs.map fun kv=>if kv.1=k then (kv.1,y) else kv) (vs.map fun kv=>if kv.1=k then (kv.1,u) else kv):=by
 unfold KV at r |-;induction r with
 | nil=>exact .nil
 | @cons p q ps qs h t ih=>
  rw[map_cons,map_cons];refine .cons ?_ ih;obtain⟨h1,h2⟩:=h;by_cases e:p.1=k
  ·rw[aK e,aK (h1.symm.trans e)];exact⟨h1,ry⟩
  ·rw[aJ e,aJ (fun z=>e (h1.trans z))];exact⟨h1,h2⟩
theorem KV.put(r:KV kvs vs)(k : κ)(ry:yf y u):KV (xB kvs k y) (stored vs k u):=by
 unfold xB stored;rw[r.any k];by_cases e:(vs.any fun kv=>decide (kv.1=k))=true
 ·rw[aK e,aK e];exact r.repl k ry
 ·rw[aJ e,aJ e];exact Paired.snoc r ⟨rfl,ry⟩
theorem KV.length(r:KV kvs vs):kvs.length=vs.length:=Paired.length r
end
theorem qS(r:yf (kV k) u):(yD P w).is k u=true:=by
 cases k with
 | inl i=>obtain⟨t,e⟩:=(show ∃t,u=Value.int i t from r);subst e;exact zcd P w i t
 | inr x=>obtain⟨t,e⟩:=(show ∃t,u=Value.str x t from r);subst e;exact zcc P w x t
theorem zaI{P:Program}{w:World}:∀{ks:List Key}{us:List Value},yb (ks.map kV) us->ItemsAre (yD P w) ks us
 | [],_,r=>by rw[map_nil] at r;cases r;exact .nil
 | k::ks,_,r=>by
  rw[map_cons] at r;cases r with
  | cons h t=>exact .cons (qS h) (zaI t)
abbrev KT(H:Hp):List (List Key×V)->List (List Key×Addr×Value)->Prop:=Paired fun p q=>p.1=q.1/\H q.2.1=some (.tup (p.1.map kV))/\yf p.2 q.2.2
theorem KT.val(r:KT H kvs xs)(k:List Key):uY (yq kvs k) ((atKey xs k).map (·.2)):=by
 induction r with
 | nil=>exact True.intro
 | @cons p q ps qs h t ih=>
  obtain⟨h1,_,h2⟩:=h;by_cases e:p.1=k
  ·have e':q.1=k:=h1.symm.trans e
   have b:atKey (q::qs) k=some q.2:=by simp [atKey,find?_cons,e']
   rw[xz e,b];exact h2
  ·have e':¬q.1=k:=fun z=>e (h1.trans z)
   have b:atKey (q::qs) k=atKey qs k:=by simp [atKey,find?_cons,e']
   rw[xA e,b];exact ih
theorem KT.repl(r:KT H kvs xs)(k:List Key)(ry:yf y u):
  KT H (kvs.map fun kv=>if kv.1=k then (kv.1,y) else kv) (xs.map (putAt k u)):=by
 induction r with
 | nil=>exact .nil
 | @cons p q ps qs h t ih=>
  rw[map_cons,map_cons];refine .cons ?_ ih;obtain⟨h1,h2,h3⟩:=h;unfold putAt;by_cases e:p.1=k
  ·rw[aK e,aK (h1.symm.trans e)];exact⟨h1,h2,ry⟩
  ·rw[aJ e,aJ (fun z=>e (h1.trans z))];exact⟨h1,h2,h3⟩
theorem KT.put(r:KT H kvs xs)(k:List Key)(hb:H b=some (.tup (k.map kV)))(ry:yf y u):
  KT H (xB kvs k y) (storedH xs k b u):=by
 have e:(kvs.any fun kv=>decide (kv.1=k))=(atKey xs k).isSome:=by
  rw[ve,(r.val k).isSome_eq,isSome_map]
 unfold xB storedH;rw[e];by_cases q:(atKey xs k).isSome=true
 ·rw[aK q,aK q];exact r.repl k ry
 ·rw[aJ q,aJ q];exact Paired.snoc r ⟨rfl,hb,ry⟩
theorem KT.keeps(r:KT H kvs xs)(ht:∀b ys,H b=some (.tup ys)->H' b=some (.tup ys)):KT H' kvs xs:=
 wX r fun _ _ z=>⟨z.1,ht _ _ z.2.1,z.2.2⟩
section
variable {a:Addr}
theorem zj0(ok:HOk P w H h)(e:Rd H a u):yR P w H h a u:=e.ok ok
theorem zaa(ok:HOk P w H h)(e:Rd H a (.dK kvs)):kvs.length<=sizeLine/\(a==sysModules)=false/\∃vs,KV kvs vs/\h.DictOf (yD P w) a vs:=
 show yR P w H h a (.dK kvs) from zj0 ok e
theorem zj7(ok:HOk P w H h)(e:H a=some (.dK kvs)):kvs.length<=sizeLine/\(a==sysModules)=false/\∃vs,KV kvs vs/\h.DictOf (yD P w) a vs:=zaa ok (.inl e)
theorem jG(ok:HOk P w H h)(e:H a=some (.tup (ks.map kV))):(tupleKind (yD P w)).is h ks a:=by
 obtain⟨_,its,r,o,h1,h2,n,h3⟩:=(show yR P w H h a (.tup (ks.map kV)) from ok a _ e);exact⟨o,its.toArray,n,h1,h2,h3,by simpa using zaI r⟩
theorem qX(ok:HOk P w H h)(e:Rd H a (.dT kvs)):kvs.length<=sizeLine/\(a==sysModules)=false/\
  ∃xs,KT H kvs xs/\h.DictOfH (tupleKind (yD P w)) a xs:=by
 obtain⟨z,y,xs,r,o,es,ep,h1,h2,h3,h4,h5⟩:=(show yR P w H h a (.dT kvs) from zj0 ok e);exists z,y,xs,r,o,es,ep,h1,h2,h3,h4,fun x hx=>?_,h5;have all:∀{l:List (List Key×V)}{m:List (List Key×Addr×Value)},KT H l m->∀x∈m,(tupleKind (yD P w)).is h x.1 x.2.1:=by
  intro l m q;induction q with
  | nil=>intro x hx;exact nomatch hx
  | @cons p q ps qs hq t ih=>
   intro x hx;rcases List.mem_cons.mp hx with e|hx
   ·subst e
    exact jG ok (by rw[<- hq.1];exact hq.2.1)
   ·exact ih x hx
 exact all r x hx
theorem zmy(ok:HOk P w H h)(e:H a=some (.dT kvs)):kvs.length<=sizeLine/\(a==sysModules)=false/\
  ∃xs,KT H kvs xs/\h.DictOfH (tupleKind (yD P w)) a xs:=qX ok (.inl e)
def zbF(H:Hp)(a:Addr)(y:V)(r:Option V):Prop:=
 (∃kvs k,Rd H a (.dK kvs)/\y=kV k/\r=yq kvs k)\/∃kvs k b,Rd H a (.dT kvs)/\y=.ref b/\H b=some (.tup (k.map kV))/\r=yq kvs k
def zmH(H:Hp)(a:Addr)(y v:V)(H':Hp):Prop:=
 (∃kvs k,H a=some (.dK kvs)/\y=kV k/\kvs.length<sizeLine/\H'=upd H a (.dK (xB kvs k v)))\/
 ∃kvs k b,H a=some (.dT kvs)/\y=.ref b/\H b=some (.tup (k.map kV))/\kvs.length<sizeLine/\H'=upd H a (.dT (xB kvs k v))
variable {σ:St}{y v:V}{o:Option V}{E:VSP}
theorem Inv.big(I:Inv X pins σ H s):sysModules<s.heap.objs.size:=by
 have h:mainGlobals<s.heap.objs.size:=(I.mod.glob.keeps I.bk).lt;exact lt_trans ⋯ h
theorem zfu{Q:VSP}(hu:A.units+1<cLine)(I:Inv X pins σ H s)(g:zbF H a y (some v))(ry:yf y u)(h:∀w' s',Inv X pins σ H s'->yf v w'->Q w' s'):
  wpAny (model X.prog X.w) A (getItem (.ref a) u) Q E s:=by
 rcases g with ⟨kvs,k,e,ey,l⟩|⟨kvs,k,b,e,ey,eb,l⟩
 ·subst ey
  obtain⟨z,hd,vs,rel,dd⟩:=zaa I.hok e;obtain⟨w',hw,rw'⟩:=wH (v:=v) (o:=valueAt vs k) (by rw[l];exact rel.val k)
  exact wpAny_getItem_of (qS ry) dd.mapOf hw (h w' _ (I.tok _) rw')
 ·subst ey
  cases (show u=Value.ref b from ry);obtain⟨z,hd,xs,rel,dd⟩:=qX I.hok e;obtain⟨w',hw,rw'⟩:=wH (v:=v) (o:=(atKey xs k).map (·.2)) (by rw[l];exact rel.val k)
  obtain⟨p,hp,hp2⟩:=Option.map_eq_some_iff.mp hw;refine wpAny_getItem_heap (tupleKind_room_in1 hu) (jG I.hok eb) dd hp ?_;rw[hp2];exact h w' _ (I.tok _) rw'
theorem znq{Q:VSP}(hu:A.units+1<cLine)(I:Inv X pins σ H s)(g:zbF H a y o)(ry:yf y u)(h:∀s',Inv X pins σ H s'->Q (.bool o.isSome) s'):
  wpAny (model X.prog X.w) A (compareOp .In u (.ref a)) Q E s:=by
 rcases g with ⟨kvs,k,e,ey,l⟩|⟨kvs,k,b,e,ey,eb,l⟩
 ·subst ey
  obtain⟨z,hd,vs,rel,dd⟩:=zaa I.hok e;refine wpAny_in_of (qS ry) hd dd.mapOf ?_;rw[<- (rel.val k).isSome_eq,<- l];exact h _ (I.tok _)
 ·subst ey
  cases (show u=Value.ref b from ry);obtain⟨z,hd,xs,rel,dd⟩:=qX I.hok e;refine wpAny_in_heap (tupleKind_room_in1 hu) (jG I.hok eb) hd dd ?_;have q:=(rel.val k).isSome_eq;rw[isSome_map] at q;rw[<- q,<- l];exact h _ (I.tok _)
theorem zjF{Q:VSP}(hu:A.units+1<cLine)(I:Inv X pins σ H s)(g:zbF H a y o)(ry:yf y u)(h:∀s',Inv X pins σ H s'->Q (.bool (!o.isSome)) s'):
  wpAny (model X.prog X.w) A (compareOp .NotIn u (.ref a)) Q E s:=by
 rcases g with ⟨kvs,k,e,ey,l⟩|⟨kvs,k,b,e,ey,eb,l⟩
 ·subst ey
  obtain⟨z,hd,vs,rel,dd⟩:=zaa I.hok e;refine wpAny_notIn_of (qS ry) hd dd.mapOf ?_;rw[<- (rel.val k).isSome_eq,<- l];exact h _ (I.tok _)
 ·subst ey
  cases (show u=Value.ref b from ry);obtain⟨z,hd,xs,rel,dd⟩:=qX I.hok e;refine wpAny_notIn_heap (tupleKind_room_in1 hu) (jG I.hok eb) hd dd ?_;have q:=(rel.val k).isSome_eq;rw[isSome_map] at q;rw[<- q,<- l];exact h _ (I.tok _)
theorem zby{t':Nat}(I:Inv X pins σ H s)(mu:Mut (H a))(hs:Heap.SameBut a s.heap h')(he:∃q,h'.get? a=some q)(new:yR X.prog X.w (upd H a ob) h' a ob):
  Inv X pins σ (upd H a ob) { s with heap:=h',toks:=t' }:=
 I.write (x:=a) (e:=a) mu (.inl rfl) (fun b q hb z=>(hs.2 b hb).trans z) he new
theorem zh2(z:kvs.length<=sizeLine)(hd:(a==sysModules)=false)(rel:KV kvs vs)(dd:h'.DictOf (yD P w) a vs):
  yR P w H' h' a (.dK kvs):=⟨z,hd,vs,rel,dd⟩
theorem zfs{Q:Unit->Shared->Prop}(hu:A.units+1<cLine)(I:Inv X pins σ H s)(g:zmH H a y v H')(ry:yf y u)(rv:yf v r)(h:∀s',Inv X pins σ H' s'->Q () s'):
  wpAny (model X.prog X.w) A (setItem (.ref a) u r) Q E s:=by
 rcases g with ⟨kvs,k,e,ey,l,eH⟩|⟨kvs,k,b,e,ey,eb,l,eH⟩
 ·subst ey eH
  obtain⟨z,hd,vs,rel,dd⟩:=zj7 I.hok e;have hz:vs.length<=sizeLine:=by rw[<- rel.length];exact z
  have hl:(xB kvs k v).length<=sizeLine:=by have:=ww kvs k v;omega
  refine wpAny_setItem_pairs (hsz:=hz) (qS ry) dd fun h' dd' hs=>h _ ?_;have he:∃q,h'.get? a=some q:=let ⟨q,_,_,hq,_⟩:=dd';⟨q,hq⟩;exact zby I (by rw[e];exact True.intro) hs he (zh2 hl hd (rel.put k rv) dd')
 ·subst ey eH
  cases (show u=Value.ref b from ry);obtain⟨z,hd,xs,rel,dd⟩:=zmy I.hok e;have hz:xs.length<=sizeLine:=by rw[<- Paired.length rel];exact z
  have hl:(xB kvs k v).length<=sizeLine:=by have:=ww kvs k v;omega
  refine wpAny_setItem_heap (hsz:=hz) (tupleKind_room_in1 hu) (jG I.hok eb) dd fun h' dd' hs=>h _ ?_;obtain⟨q,es,ep,hq,h2,h3,h4,_,h5⟩:=dd';refine zby I (by rw[e];exact True.intro) hs ⟨q,hq⟩ ⟨hl,hd,_,(rel.put k eb rv).keeps fun c ys ec=>?_,q,es,ep,hq,h2,h3,h4,h5⟩
  rw[zj (xq ec e (fun z=>nomatch z))];exact ec
def zlz(i:Expr):Prop:=∀ov iv,subscripted i false ov iv=operate [ov,iv] (getItem ov iv)
theorem zdM{prog:Program}{w:World}{A:Around}{E:VSP}{s:Shared}{env:Env}{value slice:Expr}{pos:Pos}{T id:String}{Q:VSP}
  (hl:typeLookup (.type T) "__getitem__"=pure (some (.builtin id))) (hs:zlz slice)
  (h:wpAny (model prog w) A (eval value env) (fun o s₁=>wpAny (model prog w) A (eval slice env) (fun i s₂=>s₂.TypeIs o T/\wpAny (model prog w) A (getItem o i) Q E s₂) E s₁) E s) :
  wpAny (model prog w) A (eval (.Subscript value slice pos) env) Q E s:=by
 refine Subscript_ (wpAny_mono h (fun o s₁ h₁=>wpAny_mono h₁ (fun i s₂ h₂=>?_) fun _ _ x=>x) fun _ _ x=>x);obtain⟨hT,h₂⟩:=h₂;unfold subscriptTail;refine zwb ?_;rw[getitemInPython_of_ne hT.not_modules];refine zwb (wpAny_specialOf hT hl ?_);have fin:wpAny (model prog w) A (subscripted slice false o i) (fun r s₃=>wpAny (model prog w) A (letTemporaryGo value o r >>= fun _=>pure r) Q E s₃) E s₂:=by
  rw[hs o i];exact wpAny_operating (wpAny_mono h₂ (fun r s₃ h₃=>zwb (wpAny_letTemporaryGo (zwp h₃))) fun _ _ x=>x)
 first
  | exact zwp (zwb fin)
  | exact zwb (zwp (zwb fin))
  | exact zwb fin
theorem zcn(I:Inv X pins σ H s)(g:zbF H a y o):s.TypeIs (.ref a) "dict":=by
 rcases g with ⟨kvs,k,e,_,_⟩|⟨kvs,k,b,e,_,_,_⟩
 ·obtain⟨_,_,vs,_,dd⟩:=zaa I.hok e
  exact dd.typeIs
 ·obtain⟨_,_,xs,_,dd⟩:=qX I.hok e
  exact dd.typeIs
inductive zlOJ(Q:VK)(x:V)(y:V)(H2:Hp):Prop|mk(a v:_):x=.ref a->zbF H2 a y (some v)->(Q v H2)->zlOJ Q x y H2
def zlO(td ty:TE):TE:=fun σ H Q=>td σ H fun x H1=>ty σ H1 fun y H2=>zlOJ Q x y H2
inductive zmRJ(Q:VK)(y:V)(x:V)(H2:Hp):Prop|mk(a o:_):x=.ref a->zbF H2 a y o->(Q (.bl o.isSome) H2)->zmRJ Q y x H2
def zmR(ty td:TE):TE:=fun σ H Q=>ty σ H fun y H1=>td σ H1 fun x H2=>zmRJ Q y x H2
inductive zihJ(Q:VK)(y:V)(x:V)(H2:Hp):Prop|mk(a o:_):x=.ref a->zbF H2 a y o->(Q (.bl (!o.isSome)) H2)->zihJ Q y x H2
def zih(ty td:TE):TE:=fun σ H Q=>ty σ H fun y H1=>td σ H1 fun x H2=>zihJ Q y x H2
inductive zl6J(D:L2.vH)(σ:St)(v:V)(x:V)(y:V)(H3:Hp):Prop|mk(a H4:_):x=.ref a->zmH H3 a y v H4->(D.nx σ H4)->zl6J D σ v x y H3
def zl6(td ty tv:TE):TS:=fun D σ H=>tv σ H fun v H1=>td σ H1 fun x H2=>ty σ H2 fun y H3=>zl6J D σ v x y H3
end
section
variable {X:Cx}{o i e value:Expr}{td ty tv:TE}
theorem zed(hu:X.A.units+1<cLine)(ho:PE X o td)(hi:PE X i ty)(hs:zlz i):PE X (.Subscript o i pos) (zlO td ty):=by
 and_intros;refine zdM PySem.F.slot_dict_getitem.lookup hs (thn (ho pins s σ H _ I h) fun u s1 ⟨x,H1,I1,rx,q1⟩=>thn (hi pins s1 σ H1 _ I1 q1) fun iv s2 ⟨y,H2,I2,ry,a,v,ex,g,q2⟩=>?_);subst ex;obtain rfl:u=Value.ref a:=rx;exact⟨zcn I2 g,zfu hu I2 g ry fun w' s3 I3 rw'=>⟨v,H2,I3,rw',q2⟩⟩
theorem zkY(hu:X.A.units+1<cLine)(hi:PE X i ty)(ho:PE X o td):PC X .In i o (zmR ty td):=by
 and_intros;refine thn (hi pins s σ H _ I h) fun iv s1 ⟨y,H1,I1,ry,q1⟩=>thn (ho pins s1 σ H1 _ I1 q1) fun u s2 ⟨x,H2,I2,rx,a,ov,ex,g,q2⟩=>?_;subst ex;obtain rfl:u=Value.ref a:=rx;exact znq hu I2 g ry fun s3 I3=>⟨.bl ov.isSome,H2,I3,rfl,q2⟩
theorem zeZ(hu:X.A.units+1<cLine)(hi:PE X i ty)(ho:PE X o td):PC X .NotIn i o (zih ty td):=by
 and_intros;refine thn (hi pins s σ H _ I h) fun iv s1 ⟨y,H1,I1,ry,q1⟩=>thn (ho pins s1 σ H1 _ I1 q1) fun u s2 ⟨x,H2,I2,rx,a,ov,ex,g,q2⟩=>?_;subst ex;obtain rfl:u=Value.ref a:=rx;exact zjF hu I2 g ry fun s3 I3=>⟨.bl (!ov.isSome),H2,I3,rfl,q2⟩
theorem ziG(hu:X.A.units+1<cLine)(ho:PE X o td)(hi:PE X i ty)(hv:PE X value tv)(hs:swapsWith value (some (.Subscript o i pos')) pos.line X.env=pure false):
  PS X (.Assign [.Subscript o i pos'] value pos) (zl6 td ty tv):=by
 exists ?_;intro pins s σ H D I h;refine wpAny_Assign_Subscript (thn (hv pins s σ H _ I h) fun r s1 ⟨v,H1,I1,rv,q1⟩=>thn (ho pins s1 σ H1 _ I1 q1) fun u s2 ⟨x,H2,I2,rx,q2⟩=>thn (hi pins s2 σ H2 _ I2 q2) fun iv s3 ⟨y,H3,I3,ry,a,H4,ex,g,q3⟩=>?_) hs;subst ex;obtain rfl:u=Value.ref a:=rx;exact zfs hu I3 g ry rv fun s4 I4=>⟨σ,H4,I4,q3⟩
theorem zh3(h:Heap)(hb:sysModules<h.objs.size):yR P w H (h.push { cls:=.type "dict",data:=.dict #[] }) h.objs.size (.dK []):=
 ⟨zero_le _,beq_eq_false_iff_ne.mpr (Ne.symm (ne_of_lt hb)),[],.nil,Heap.DictOf.new h⟩
def zkj:TE:=fun _ H Q=>∀p,H p=none->Q (.ref p) (upd H p (.dK []))
theorem zgH:PE X (.Dict [] [] pos) zkj:=⟨fun pins s σ H Q I h=>
 wpAny_Dict_empty ⟨.ref s.heap.objs.size,_,I.laid (a:=s.heap.objs.size) (o:=.dK []) (t':=s.toks) (fun _ _ q=>zgp _ q) (le_refl _) (zh3 s.heap I.big),rfl,h _ (I.hok.fresh (le_refl _))⟩⟩
def zkg:List (TE×TE)->St->Hp->(List (V×V)->Hp->Prop)->Prop
 | [],_,H,Q=>Q [] H
 | (tk,tv)::r,σ,H,Q=>tk σ H fun x H1=>tv σ H1 fun y H2=>zkg r σ H2 fun ps H3=>Q ((x,y)::ps) H3
structure M1(X:Cx)(o:Expr)(m:Str)(apos:Pos)(e:Expr)(cpos:Pos):Prop where
 base:attributeBase o m X.env (eval o X.env)=eval o X.env
 few:((backTo cpos (starEach [e] X.env)).all (fun x=>!x.1)&&(backToKw cpos (keywordEach [] X.env)).all (fun x=>x.1.isSome)
  && decide (([e]:List Expr).length+([]:List Keyword).length+(if ([]:List Keyword).isEmpty then 0 else 1)<30))=true
 line:(apos.endLine==cpos.line)=true
 trees:backTo cpos (starEach [e] X.env)=[(false,eval e X.env)]
def IsD(H:Hp)(a:Addr):Prop:=(∃kvs,Rd H a (.dK kvs))\/∃kvs,Rd H a (.dT kvs)
theorem zlk(I:Inv X pins σ H s)(d:IsD H a):
  s.TypeIs (.ref a) "dict"/\(∀b,Value.ref a=.ref b->∃ob,s.heap.get? b=some ob/\ob.dict=none)/\(a==sysModules)=false:=by
 rcases d with ⟨kvs,e⟩|⟨kvs,e⟩
 ·obtain⟨_,hd,vs,_,dd⟩:=zaa I.hok e
  exists dd.typeIs,fun b q=>?_,hd;cases q;obtain⟨ob,_,_,h1,h2,_⟩:=dd;exact⟨ob,h1,h2.2.1⟩
 ·obtain⟨_,hd,xs,_,dd⟩:=qX I.hok e
  exists dd.typeIs,fun b q=>?_,hd;cases q;obtain⟨ob,_,_,h1,h2,_⟩:=dd;exact⟨ob,h1,h2.2.1⟩
end
section
variable {σ:St}{a:Addr}{y d:V}{o:Option V}{E:VSP}
theorem zlt{Q:VSP}(hu:A.units+1<cLine)(I:Inv X pins σ H s)(g:zbF H a y o)(ry:yf y u)(h:∀w' s',Inv X pins σ H s'->yf (o.getD .non) w'->Q w' s'):
  wpAny (model X.prog X.w) A (call (.builtin "dict.get") [.ref a,u]) Q E s:=by
 rcases g with ⟨kvs,k,e,ey,l⟩|⟨kvs,k,b,e,ey,eb,l⟩
 ·subst ey
  obtain⟨z,hd,vs,rel,dd⟩:=zaa I.hok e;refine call_meetsIn PySem.F.slot_dict_get dd.typeIs PySem.F.entry_dict_get (PySem.F.args_dict_get_2 _ _) (meets_dict_get (yD X.prog X.w) a (qS ry) hd) ⟨_,dd.mapOf,h _ _ (I.tok _) ?_⟩;rw[l];exact(rel.val k).getD rfl
 ·subst ey
  cases (show u=Value.ref b from ry);obtain⟨z,hd,xs,rel,dd⟩:=qX I.hok e;refine call_meetsIn PySem.F.slot_dict_get dd.typeIs PySem.F.entry_dict_get (PySem.F.args_dict_get_2 _ _) (meetsH_dict_get (tupleKind (yD X.prog X.w)) a b hd) ⟨tupleKind_room_in1 hu,k,xs,jG I.hok eb,dd,h _ _ (I.tok _) ?_⟩;rw[l];exact(rel.val k).getD rfl
inductive zkkJ(ty:TE)(σ:St)(Q:VK)(x:V)(H1:Hp):Prop|mk(a:_):x=.ref a->IsD H1 a->(ty σ H1 fun y H2=>∃o,zbF H2 a y o/\Q (o.getD .non) H2)->zkkJ ty σ Q x H1
def zkk(td ty:TE):TE:=fun σ H Q=>td σ H fun x H1=>zkkJ ty σ Q x H1
end
section
variable {td ty tx:TE}
theorem zgI(hu:X.A.units+1<cLine)(ho:PE X o td)(he:PE X e ty)(m:M1 X o "get" apos e cpos):PE X (.Call (.Attribute o "get" apos) [e] [] cpos) (zkk td ty):=by
 and_intros;refine wpAny_Call_method m.base m.few m.line PySem.F.plainAttrs_dict PySem.F.slot_dict_get PySem.F.type_dict_get (thn (ho pins s σ H _ I h) fun u s1 ⟨x,H1,I1,rx,a,ex,d,q1⟩=>?_);subst ex;obtain rfl:u=Value.ref a:=rx;obtain⟨t1,t2,_⟩:=zlk I1 d;exists t1,t2,?_;rw[m.trees];refine Calls.callWith_builtin rfl (Calls.evalArgs_plain (Calls.spliced_cons (thn (he pins s1 σ H1 _ I1 q1) fun iv s2 ⟨y,H2,I2,ry,ov,g,q2⟩=>Calls.spliced_nil ?_)));exact zlt hu I2 g ry fun w' s3 I3 rw'=>⟨_,H2,I3,rw',q2⟩
variable {E:VSP}
end
end L2
namespace Att
open PySem PySem.W PySem.Calls PyProof.Rows
theorem j4:∀(ns:List Int) vs,WellAll P h vs (ns.map WData.int)->IntsAre vs ns:=by
 intro ns;induction ns with
 | nil=>
  intro vs w;rw[map_nil] at w;cases w;exact .nil
 | cons n ns ih=>
  intro vs w;rw[map_cons] at w;cases w with
  | cons a b=>
   cases a;exact .cons _ _ (ih _ b)
theorem zeR{l:OpenLaw}{n:Nat}(hn:l.most=some n){P:Params}{h:Heap}{args:List WData}{vals:List Value}
  (hpre:l.row.toRowW.claim.pre args=true) (hwl:WellAll P h vals args) :
  ∃a vs ns,vals=[Value.ref a]/\args=[WData.list (ns.map WData.int)]/\h.get? a=some { cls:=.type "list",data:=.seq vs.toArray }/\IntsAre vs ns/\ns.length<=n:=by
 have hsh:WShape.hasAll [] args [.list .int]=true:=(pre_splitW hpre).1;have hc:l.pre.holds [] { args:=args }=true:=(pre_splitW hpre).2;obtain⟨d,r,rfl,h1,h2⟩:=hasAllW_cons hsh;obtain rfl:=hasAllW_nil h2;obtain⟨xs,rfl,h3⟩:=hasW_list h1;obtain⟨ns,rfl⟩:=items_int h3;have hlen:ns.length<=n:=by
  unfold OpenLaw.pre at hc;have h4:(WTm.not (.lt (.lit (.int (n:Int))) (.len (.arg 0)))).holds [] { args:=[.list (ns.map .int)] }=true:=by
   have h4:=(holds_andW hc).1;rw[hn] at h4;exact h4
  have h5:=condW_of h4 (w_not (w_lt w_lit (w_len_list (w_arg rfl))));rw[L2.aA] at h5;refine Nat.le_of_not_lt fun q=>?_;have q':(n:Int)<((ns.length:Nat):Int):=by omega
  first
   | (rw[L2.aC q'] at h5;exact absurd h5 ⋯)
   | (simp at h5;omega)
 cases hwl with
 | cons w1 w2=>
  cases w2;cases w1 with
  | list ho hall=>exact⟨_,_,ns,rfl,rfl,ho,j4 ns _ hall,hlen⟩
theorem zeV(l:OpenLaw)(args:List WData):l.row.toRowW.claim.post args (.bool true) args=true:=
 postW_of (r:=l.row.toRowW) (X:=(true==true))
  (show WShape.has [] (.bool true) .bool=true by first|rfl|decide|simp [WShape.has,WShape.arms,WShape.armsAll])
  (show(WTm.eq .res (.lit (.bool true))).value [] { args:=args,res:=some (.bool true),after:=args }=some (.bool (true==true)) from w_eq_bool (w_res rfl) w_lit) rfl
section
def znk(h:Heap)(L d:Addr):List (Addr×Obj):=(List.range h.objs.size).filterMap fun a=>if a=L\/a=d then none else (h.get? a).map fun o=>(a,o)
end
end Att
namespace L2
open PySem PySem.Spec PyProof.Rows
theorem zar:∀{vs:List Value}{ns:List Int},IntsAre vs ns->yb (ns.map V.int) vs
 | _,_,.nil=>.nil
 | _,_,.cons n t h=>.cons ⟨t,rfl⟩ (zar h)
def zly(H:Hp):Prop:=∀b,H b=none\/∃o xs,H b=some (.frz o (.lst xs))
theorem zhD{P:Program}{w:World}{K:Frag}{mg mb:Str->Option Value}{CX:CXT}{k:Nat}{fa a:Addr}{fd:FuncData}{x:Str}{sp:Sp}{s₁:Shared}{vs:List Value}{ns:List Int}
  (KX:K.In s₁.heap) (hns:s₁.heap.Ns mainGlobals mg) (hb:s₁.heap.Ns builtinsNs mb) (hbb:∀x:Str,x≠"__name__"->mb x=bootBuiltins x) (hlim:s₁.heap.NoLimit) (hg:s₁.gens=#[])
  (ha:s₁.heap.get? a=some { cls:=.type "list",data:=.seq vs.toArray }) (hi:IntsAre vs ns) (hl:ns.length<=sizeLine) (hr:yl k callerA)
  (F:∀base:Heap,K.In base->base.Ns mainGlobals mg->zD P w K mg base CX k fa fd [x] sp) (hbind:∀(s:Shared) (u:Value),BindsTo s fd ⟨[u],[]⟩ [(x,u)])
  (hsp:∀H:Hp,zly H->SqL K H a (ns.map V.int)->sp [.ref a] H (fun v _=>v=.bl true) fun _ _ _=>False)
  (hCX:∀H e s',CX [] H s₁ (fun _ _ _=>False) e s'->False) :
  codeAny (model P w) callerA (.call (.ref fa) ⟨[.ref a],[]⟩) (fun r s'=>r=.ok (.ret (.bool true))/\OldK s₁.heap s'.heap/\s'.os=s₁.os/\AllBare s'.gens) s₁:=by
 have rv:=zar hi;have lenV:=hi.length;have core:∀H:Hp,zly H->SqL K H a (ns.map V.int)->HOk P w H s₁.heap->(∀b,H b≠none->b=a)->(H a≠none->K.lookup a=none)->
   codeAny (model P w) callerA (.call (.ref fa) ⟨[.ref a],[]⟩) (fun r s'=>r=.ok (.ret (.bool true))/\OldK s₁.heap s'.heap/\s'.os=s₁.os/\AllBare s'.gens) s₁:=by
  intro H hO hS hok hA hK;have base_of:∀{b:Addr}{o:Obj},s₁.heap.get? b=some o->H b=none->(zbv s₁.heap H).get? b=some o:=fun e n=>zhL e n;have noA:∀{b:Addr}{o:Obj}{es:Array DictEntry}{ep:Nat},s₁.heap.get? b=some o->o.data=.dict es ep->H b=none:=fun {b o es ep} e d=>by
   cases q:H b with
   | none=>rfl
   | some u=>
    have e':b=a:=hA b (by rw[q];simp)
    subst e';rw[ha] at e;cases e;have d':Data.seq vs.toArray _=Data.dict es ep:=d;cases d'
  have nsK:∀{b:Addr}{m:Str->Option Value},s₁.heap.Ns b m->(zbv s₁.heap H).Ns b m:=fun {b m} ⟨o,es,ep,e,d,r⟩=>⟨o,es,ep,base_of e (noA e d),d,r⟩;have hKb:K.In (zbv s₁.heap H):=fun b o e=>base_of (KX b o e) (by
   cases q:H b with
   | none=>rfl
   | some u=>
    have e':b=a:=hA b (by rw[q];simp)
    subst e';rw[hK (by rw[q];simp)] at e;cases e)
  have hM:Mod K mg (zbv s₁.heap H):=⟨hKb,nsK hns,⟨mb,nsK hb,hbb⟩,let ⟨mc,h1,h2⟩:=hlim;⟨mc,nsK h1,h2⟩⟩;have e0:zdz P w K mg (zbv s₁.heap H) callerA [] s₁ H:=⟨rfl,hM,fun b o e=>zje e,Nat.le_of_eq (zfk _ _),trivial,fun b hb=>absurd (show b∈([]:List Addr) from hb) (by simp),hok,.of_eq hg⟩
  refine codeAny_mono ((F _ hKb (nsK hns)).run callerA [] s₁ H ⟨[.ref a],[]⟩ [.ref a] [.ref a] _ _ hr e0 (hbind s₁ (.ref a)) (.cons rfl .nil) (hsp H hO hS)) fun r s' h=>?_;cases r with
  | error e=>exact(hCX H e s' h).elim
  | ok fl=>
   cases fl with
   | next=>exact False.elim h
   | brk=>exact False.elim h
   | cont=>exact False.elim h
   | ret u=>
    obtain⟨v,H',os,bare,un,hok',r',q⟩:=h;have q':v=.bl true:=q;subst q';obtain rfl:u=Value.bool true:=r';exists rfl,OldK.of_keep fun b o e=>?_,os,bare;cases q:H b with
    | none=>exact un.keep b o e q (by intro z;exact absurd (show b∈([]:List Addr) from z) (by simp)) (by simp)
    | some u=>
     rcases hO b with z|⟨ob,xs,z⟩
     ·rw[q] at z;cases z
     ·have z2:=un.frzs b ob _ z
      obtain⟨e1,_⟩:=hok b _ z;obtain⟨e2,_⟩:=hok' b _ z2;rw[e] at e1;cases e1;exact e2
 cases hk:K.lookup a with
 | some o=>
  have e:=KX a o hk;rw[ha] at e;cases e;refine core (fun _=>none) (fun _=>.inl rfl) (.inr ⟨_,vs.toArray,_,hk,rfl,rfl,rfl,by rw[size_toArray,lenV];exact hl,by simpa using rv⟩) (fun b u z=>by have z':(none:Option HO)=some u:=z;cases z') (fun b z=>absurd rfl z) fun z=>absurd rfl z
 | none=>
  refine core (fun b=>if b=a then some (.frz { cls:=.type "list",data:=.seq vs.toArray } (.lst (ns.map V.int))) else none) (fun b=>?_) (.inl (.inr ⟨{ cls:=.type "list",data:=.seq vs.toArray },aK rfl⟩)) (fun b u z=>?_) (fun b z=>?_) fun _=>hk
  ·by_cases hb:b=a
   ·exact .inr ⟨_,_,aK hb⟩
   ·exact .inl (aJ hb)
  ·by_cases hb:b=a
   ·have z':=(aK hb).symm.trans z
    cases z';subst hb;exact⟨ha,by rw[aA];exact hl,vs,_,rv,ha⟩
   ·have z':=(aJ hb).symm.trans z
    cases z'
  ·by_cases hb:b=a
   ·exact hb
   ·exact absurd (aJ hb) z
def yu(s:Stmt)(j:Nat):Stmt:=match s with
 | .ClassDef _ _ _ body _ _ _ _ _ _ _=>body.getD j (.Pass ⟨0,0,0,0⟩)
 | _=>.Pass ⟨0,0,0,0⟩
def yh(s:Stmt):Arguments:=match s with
 | .FunctionDef _ a _ _ _ _ _ _ _ _=>a
 | _=>{ posonlyargs:=[],args:=[],vararg:=none,kwonlyargs:=[],kw_defaults:=[],kwarg:=none,defaults:=[] }
def ye(s:Stmt):List Stmt:=match s with
 | .FunctionDef _ _ b _ _ _ _ _ _ _=>b
 | _=>[]
def zk(s:Stmt):Scope:=match s with
 | .FunctionDef _ _ _ _ _ _ sc _ _ _=>sc
 | _=>{ kind:=.function,names:=[],isGenerator:=false,isCoroutine:=false }
abbrev CX0:CXT:=fun _ _ _ _ _ _=>False
abbrev E0:XK:=fun _ _ _=>False
theorem zZ:xW CX0 X E0:=fun _ _ _ _ _ _ _ h=>h.elim
structure Fun(K:Frag)(x qual:Str)(st:Stmt)(f:Addr)(fd:FuncData):Prop where
 ex:∃(oc:Value) (od:Option Addr) (kV doc pm:Value) (an:Option Addr) (cdv ct:Value) (osl:Array (Option Value)),
  fd=fnOf x qual (yh st) (ye st) (zk st) .none kV doc pm an cdv ct/\K.lookup f=some ⟨oc,od,.func fd,osl⟩/\codeIn K cdv qual=true
 kp:keepIn K (.ref f)=true
section
variable {mg:Str->Option Value}
theorem Fun.ok{P:Program}{w:World}{K:Frag}{base:Heap}{x qual:Str}{st:Stmt}{f:Addr}{fd:FuncData}{N ps:List Str}{k:Nat}{sp:Sp}(F:Fun K x qual st f fd)(S:zv N ps (zk st))(hbody:∀(cdv:Value) (A:Around) (outer:List Env) (s:Shared) (H:Hp) (vs:List V) (Q:VK) (E:XK),yl k (A.deeper (envOfC qual (zk st) s.heap.objs.size f cdv))->sp vs H Q E->
   ∃t,PSs (zak CX0 P w K mg base N qual (zk st) f cdv A outer s H E).nox (ye st) t/\t { nx:=fun _ H'=>Q .non H',rt:=Q } (uK N vs) H) (len:∀vs H Q E,sp vs H Q E->vs.length=ps.length:=by intro vs H Q E h;first|(obtain⟨_,rfl,_⟩:=h;rfl)|(obtain⟨_,_,rfl,_⟩:=h;rfl)|(obtain⟨_,_,_,rfl,_⟩:=h;rfl)|(obtain⟨_,_,_,_,rfl,_⟩:=h;rfl)|(obtain⟨_,_,_,_,_,rfl,_⟩:=h;rfl)|(obtain⟨_,_,_,_,_,_,rfl,_⟩:=h;rfl)|(obtain⟨_,_,_,_,_,_,_,rfl,_⟩:=h;rfl)|(obtain⟨_,_,_,_,_,_,_,_,rfl,_⟩:=h;rfl)|(obtain⟨_,_,_,_,_,_,_,_,_,rfl,_⟩:=h;rfl)|(obtain⟨_,_,_,_,_,_,_,_,_,_,rfl,_⟩:=h;rfl)|(obtain⟨_,_,_,_,_,_,_,_,_,_,_,rfl,_⟩:=h;rfl)|(obtain⟨_,_,_,_,_,_,_,_,_,_,_,_,rfl,_⟩:=h;rfl)|(obtain⟨_,_,_,_,_,_,_,_,_,_,_,_,_,rfl,_⟩:=h;rfl)|(obtain⟨_,_,_,_,_,_,_,_,_,_,_,_,_,_,rfl,_⟩:=h;rfl)|(obtain⟨_,_,_,_,_,_,_,_,_,_,_,_,_,_,_,rfl,_⟩:=h;rfl)|(obtain⟨_,_,_,_,_,_,_,_,_,_,_,_,_,_,_,_,rfl,_⟩:=h;rfl)):zD P w K mg base CX0 (k+1) f fd ps sp:=by
 obtain⟨oc,od,kV,doc,pm,an,cdv,ct,osl,rfl,lk,hcd⟩:=F.ex;refine zhR lk hcd S len fun A outer s H vs Q E hr hsp=>?_;obtain⟨t,h,q⟩:=hbody cdv A outer s H vs Q E hr hsp;exact⟨t,h.nox,q⟩
theorem Fun.binds{K:Frag}{x qual:Str}{st:Stmt}{f:Addr}{fd:FuncData}{ps:List Str}(F:Fun K x qual st f fd)
  (h:∀(kV doc pm:Value) (an:Option Addr) (cdv ct:Value) (us:List Value),us.length=ps.length->bindArgs (fnOf x qual (yh st) (ye st) (zk st) .none kV doc pm an cdv ct) ⟨us,[]⟩=pure (ps.zip us)):zU K fd ps []:=by
 obtain⟨oc,od,kV,doc,pm,an,cdv,ct,osl,rfl,lk,hcd⟩:=F.ex;exact .all (h kV doc pm an cdv ct)
theorem zhN{K:Frag}{x qual:Str}{st:Stmt}{f:Addr}{oc:Value}{od an:Option Addr}{osl:Array (Option Value)}{kV doc pm cdv ct:Value}(l:K.lookup f=some ⟨oc,od,.func (fnOf x qual (yh st) (ye st) (zk st) .none kV doc pm an cdv ct),osl⟩)
  (c:codeIn K cdv qual=true) (k:keepIn K (.ref f)=true):Fun K x qual st f (fnOf x qual (yh st) (ye st) (zk st) .none kV doc pm an cdv ct):=⟨⟨oc,od,kV,doc,pm,an,cdv,ct,osl,rfl,l,c⟩,k⟩
theorem zes{k:Nat}(hr:yl k A):A.units+1<cLine:=Nat.lt_of_le_of_lt (Nat.add_le_add_left (by decide : 1<=64) _) hr.units
theorem zY{n:Nat}(h:n<=1000):n<sizeLine:=Nat.lt_of_le_of_lt h ⋯
theorem pv(i:Nat)(hN:X.N[i]?=some x:=by rfl)(hv:Vis X.env.scope x:=by first|exact Or.inl rfl|exact Or.inr (Or.inl rfl)|exact Or.inr (Or.inr rfl))(hd:(x==("__debug__" : Str))=false:=by decide)
  (hcd:(x==("__classdict__" : Str))=false:=by decide):PE X (.Name x pos) (ja i):=zkV hN hv hd hcd
theorem x8{A B:Prop}(h:B):if false=true then A else B:=by
 rw[aJ zft];exact h
theorem wZ{A B:Prop}(h:A):if true=true then A else B:=by
 rw[aK rfl];exact h
theorem wf{c A B:Prop}[Decidable c](h1:c->A)(h2:¬c->B):if c then A else B:=by
 by_cases h:c
 ·rw[aK h]
  exact h1 h
 ·rw[aJ h]
  exact h2 h
theorem zms{c A B:Prop}[Decidable c](hc:c)(h:B):if (!decide c)=true then A else B:=by
 rw[aC hc];exact x8 h
def zq(H H':Hp):Prop:=∀b o,H b=some o->H' b=some o
theorem zq.refl(H:Hp):zq H H:=fun _ _ h=>h
theorem zq.trans(a:zq H H1)(b:zq H1 H2):zq H H2:=fun c o h=>b c o (a c o h)
theorem zq.free(e:zq H H')(h:H' l=Option.none):H l=Option.none:=by
 cases q:H l with
 | none=>rfl
 | some o=>
  rw[e l o q] at h;cases h
theorem zq.seq{K:Frag}{H H':Hp}{a:Addr}{xs:List V}(e:zq H H')(h:SqL K H a xs):SqL K H' a xs:=by
 rcases h with (h|⟨o,h⟩)|h
 ·exact .inl (.inl (e _ _ h))
 ·exact .inl (.inr ⟨o,e _ _ h⟩)
 ·exact .inr h
end
section
variable {κ : Type}[DecidableEq κ]
end
def clB(env:Env)(fr:List Str):List (Str×Addr):=fr.map fun n=>(n,(env.cells.lookup n).getD 0)
theorem zct{env:Env}:∀{fr:List Str}{x:Str}{c:Addr},(clB env fr).lookup x=some c->x∈fr/\c=(env.cells.lookup x).getD 0
 | [],x,c,h=>by simp [clB] at h
 | n::r,x,c,h=>by
  have h':List.lookup x ((n,(env.cells.lookup n).getD 0)::clB env r)=some c:=h;rw[lookup_cons] at h';cases e:x==n with
  | true=>
   rw[e] at h';have e':x=n:=by simpa using e
   subst e';exact⟨mem_cons_self,(Option.some.inj h').symm⟩
  | false=>
   rw[e] at h';obtain⟨h1,h2⟩:=zct h';exact⟨mem_cons_of_mem _ h1,h2⟩
theorem zbz{env:Env}:∀{fr:List Str}{x:Str},x∈fr->(clB env fr).lookup x=some ((env.cells.lookup x).getD 0)
 | n::r,x,h=>by
  show List.lookup x ((n,(env.cells.lookup n).getD 0)::clB env r)=_;rw[lookup_cons];cases e:x==n with
  | true=>
   have e':x=n:=by simpa using e
   subst e';rfl
  | false=>
   rcases List.mem_cons.mp h with z|z
   ·subst z;simp at e
   ·exact zbz z
theorem vU{env:Env}:∀{names:List (Str×NameKind)}{x:Str}{k:NameKind},
  (names.map fun (n,k)=>if (k==NameKind.free&&env.scope.kind==.function&&env.kindOf n==some .cell) then (n,NameKind.cell) else (n,k)).lookup x=some k->
  ∃k0,(x,k0)∈names/\(k=k0\/(k0=.free/\k=.cell))
 | [],_,_,h=>by simp at h
 | (n,k0)::r,x,k,h=>by
  have h':List.lookup x ((if (k0==NameKind.free&&env.scope.kind==.function&&env.kindOf n==some .cell)=true then (n,NameKind.cell) else (n,k0)) ::
   (r.map fun (n,k)=>if (k==NameKind.free&&env.scope.kind==.function&&env.kindOf n==some .cell) then (n,NameKind.cell) else (n,k)))=some k:=h
  by_cases hc:(k0==NameKind.free&&env.scope.kind==.function&&env.kindOf n==some .cell)=true
  ·rw[aK hc,lookup_cons] at h'
   cases e:x==n with
   | true=>
    rw[e] at h';have e':x=n:=by simpa using e
    subst e';simp only[Bool.and_eq_true] at hc;exact⟨k0,mem_cons_self,.inr ⟨by simpa using hc.1.1,(Option.some.inj h').symm⟩⟩
   | false=>
    rw[e] at h';obtain⟨k1,h1,h2⟩:=vU h';exact⟨k1,mem_cons_of_mem _ h1,h2⟩
  ·rw[aJ hc,lookup_cons] at h'
   cases e:x==n with
   | true=>
    rw[e] at h';have e':x=n:=by simpa using e
    subst e';exact⟨k0,mem_cons_self,.inl (Option.some.inj h').symm⟩
   | false=>
    rw[e] at h';obtain⟨k1,h1,h2⟩:=vU h';exact⟨k1,mem_cons_of_mem _ h1,h2⟩
theorem vy{env:Env}(hk:env.scope.kind=.function):∀{names:List (Str×NameKind)}{x:Str},names.lookup x=some .free->env.kindOf x=some .cell->
  (names.map fun (n,k)=>if (k==NameKind.free&&env.scope.kind==.function&&env.kindOf n==some .cell) then (n,NameKind.cell) else (n,k)).lookup x=some .cell
 | [],_,h,_=>by simp at h
 | (n,k0)::r,x,h,hx=>by
  show List.lookup x ((if (k0==NameKind.free&&env.scope.kind==.function&&env.kindOf n==some .cell)=true then (n,NameKind.cell) else (n,k0)) ::
   (r.map fun (n,k)=>if (k==NameKind.free&&env.scope.kind==.function&&env.kindOf n==some .cell) then (n,NameKind.cell) else (n,k)))=some .cell
  rw[lookup_cons] at h;cases e:x==n with
  | true=>
   rw[e] at h;have e':x=n:=by simpa using e
   subst e';have h0:k0=.free:=Option.some.inj h;subst h0;rw[aK (by rw[hk,hx];decide),lookup_cons]
   simp
  | false=>
   rw[e] at h;have ih:=vy hk h hx;split
   ·rw[lookup_cons,e];exact ih
   ·rw[lookup_cons,e];exact ih
abbrev zQ(X:Cx)(pins:PnL)(sc:Scope)(fr Nc:List Str)(fp:List Addr)(s:Shared)(H:Hp)(C:Addr):Cx:=
 { prog:=X.prog,w:=X.w,K:=X.K,mg:=X.mg,base:=X.base,A:=X.A,N:=Nc,s₀:=s,H₀:=H,env:=compEnvC sc (clB X.env fr) C X.env,outer:=X.stack,stack:=X.stack,ex:=fp,fn:=fun _=>false,calm:=X.calm,pn:=X.pn++pins,xe:=fun _ _=>False }
structure y6(env:Env)(sc:Scope)(fr:List Str):Prop where
 kind:sc.kind=.function
 clos:closureFor sc env=pure (clB env fr)
 cells:(fr.all fun n=>(env.cells.lookup n).isSome)=true
 names:(sc.names.all fun y=>(y.2 != .cell)&&(y.2 != .free||fr.contains y.1)&&(y.2 != .local||sc.names.lookup y.1==some .local))=true
def w9(N Nc:List Str)(caps:List (Option Nat))(env:Env)(sc:Scope)(fr:List Str):Bool:=
 (Nc.zip caps).all fun p=>match p.2 with
  | none=>true
  | some j=>(N[j]?==some p.1)&&(env.kindOf p.1==some .cell)&&(sc.names.lookup p.1==some .free)&&fr.contains p.1
def xo(caps:List (Option Nat))(σ : St):St:=caps.map fun o=>match o with
 | none=>none
 | some j=>(σ[j]?).join
section
variable {X:Cx}{pins:PnL}{σ:St}{H:Hp}{s:Shared}
theorem y6.sub(B:y6 env sc fr)(h:(clB env fr).lookup x=some c):env.cells.lookup x=some c:=by
 obtain⟨h1,h2⟩:=zct h;have h3:=List.all_eq_true.mp B.cells x h1;obtain⟨d,hd⟩:=Option.isSome_iff_exists.mp h3;rw[hd] at h2 |-;rw[h2];rfl
theorem y6.free(B:y6 env sc fr)(h:(relabel sc env).names.lookup x=some k)(hk:k=.cell\/k=.free):x∈fr:=by
 obtain⟨k0,h1,h2⟩:=vU h;have h3:=List.all_eq_true.mp B.names _ h1;simp only[Bool.and_eq_true,Bool.or_eq_true,bne_iff_ne,ne_eq,List.contains_iff_mem] at h3;have h4:k0=.free:=by
  rcases h2 with h2|⟨h2,_⟩
  ·subst h2
   rcases hk with z|z
   ·exact absurd z h3.1.1
   ·exact z
  ·exact h2
 rcases h3.1.2 with z|z
 ·exact absurd h4 z
 ·exact z
theorem zeG(I:Inv X pins σ H s)(B:y6 X.env sc fr)(hf:∀b∈fp,vt X pins H b)(ho:∀b∈fp,∃o,s.heap.get? b=some o)(hC:s.heap.objs.size<=C):(zQ X pins sc fr Nc fp s H C).Ok where
 mod:=I.ok.mod
 kind:=B.kind
 glob:=I.ok.glob
 blt:=I.ok.blt
 above:=hC
 inj:=fun x y c h1 h2=>I.ok.inj x y c (B.sub h1) (B.sub h2)
 has:=fun x h=>by
  have hx:x∈fr:=by
   rcases h with h|h
   ·exact B.free h (.inl rfl)
   ·exact B.free h (.inr rfl)
  exact⟨_,zbz hx⟩
 cab:=fun x c h=>absurd h (by simp)
 hd:=I.ok.hd
 frames:=I.ok.frames
 stk:=.inl rfl
 exf:=fun b hb=>by
  obtain⟨o,e⟩:=ho b hb;exists fun z=>?_,fun x c h=>(hf b hb).2.2.2.2.1 x c (B.sub h);have z':b=C:=z
  have:=aI e
  rw[z'] at this;exact absurd (lt_of_lt_of_le this hC) (lt_irrefl _)
 bs:=I.bs
 bsz:=le_trans I.ok.bsz I.sz
 noex:=fun b o e hb=>by
  rcases (hf b hb).2.2.2.1 with z|z
  ·exact I.ok.noex b o e z
  ·exact absurd (lt_of_lt_of_le (aI (I.ok.bs b o e).1) z) (lt_irrefl _)
 exfs:=fun b hb h=>by
  rcases List.mem_cons.mp (I.stkSub b h) with z|z
  ·exact(hf b hb).2.1 z
  ·exact(hf b hb).2.2.1 z
 funs:=I.stack
 frf:=I.stkFree
theorem Inv.pin_lt(I:Inv X pins σ H s)(hp:p∈X.pn++pins):p.1<s.heap.objs.size:=aI (I.pin p hp).1
theorem zac{m:Str->Option Value}{t' n0:Nat}(I:Inv X pins σ H s)(B:y6 X.env sc fr)(hf:∀b∈fp,vt X pins H b)(ho:∀b∈fp,∃o,s.heap.get? b=some o)
  (hC:s.heap.objs.size<=C) (hD:s.heap.objs.size<=D) (hDC:D≠C) (keep:∀b o,s.heap.get? b=some o->h'.get? b=some o) (hl:h'.get? D=some { cls:=.type "list",data:=.seq ([]:List Value).toArray n0 }) (hn:h'.Ns C m)
  (hcap:w9 X.N Nc caps X.env sc fr=true) (hlen:caps.length=Nc.length) :
  Inv (zQ X pins sc fr Nc fp s H C) [] (xo caps σ) (upd H D (.lst [])) { s with heap:=h',toks:=t' }:=by
 have hk:X.env.scope.kind=.function:=I.ok.kind;have fresh:∀a,s.heap.objs.size<=a->H a=none:=fun a ha=>I.hok.fresh ha;exists zeG I B hf ho hC,rfl,I.bare,Un.laid keep hD (fresh D hD),⟨m,hn,fun i x v e1 e2 e3=>?_⟩,fun x c h=>?_,?_,fun x c h=>?_,fun p hp=>?_,?_,?_
 ·
  have e2':(caps[i]?).map (fun o=>match o with|none=>none|some j=>(σ[j]?).join)=some (some v):=by
   have:(xo caps σ)[i]?=some (some v):=e2
   unfold xo at this;rw[getElem?_map] at this;exact this
  cases hc:caps[i]? with
  | none=>rw[hc] at e2';cases e2'
  | some o=>
   rw[hc] at e2';cases o with
   | none=>simp at e2'
   | some j=>
    have e4:(σ[j]?).join=some v:=by simpa using e2'
    have e5 : σ[j]?=some (some v):=by
     cases q : σ[j]? with
     | none=>rw[q] at e4;cases e4
     | some w'=>rw[q] at e4;simp at e4;rw[e4]
    have e6:(Nc.zip caps)[i]?=some (x,some j):=by
     rw[List.getElem?_zip_eq_some];exact⟨e1,hc⟩
    have e7:=List.all_eq_true.mp hcap _ (aH e6);simp only[Bool.and_eq_true,beq_iff_eq,List.contains_iff_mem] at e7;obtain⟨⟨⟨a1,a2⟩,a3⟩,a4⟩:=e7;obtain⟨m0,hn0,hl0⟩:=I.loc;obtain⟨u,r,l⟩:=hl0 j x v a1 e5 (.inr (.inl a2));exists u,r,.inr ⟨.inl (vy hk a3 a2),_,zbz a4,?_⟩;rcases l with ⟨z,_⟩|⟨_,c,ec,hcell⟩
    ·rw[a2] at z;cases z
    ·have:(X.env.cells.lookup x).getD 0=c:=by rw[ec];rfl
     rw[this];exact hcell.keeps keep
 ·obtain⟨v,hv⟩:=I.cell x c (B.sub h)
  exact⟨v,hv.keeps keep⟩
 ·show upd H D (.lst []) C=none
  rw[zj (Ne.symm hDC)];exact fresh C hC
 ·obtain⟨v,hv⟩:=I.cell x c (B.sub h)
  have:c≠D:=fun z=>by have:=hv.lt;rw[z] at this;exact absurd (lt_of_lt_of_le this hD) (lt_irrefl _)
  rw[zj this];exact I.freeC x c (B.sub h)
 ·have hp':p∈X.pn++pins:=by simpa using hp
  obtain⟨e,n,ne,nf,d⟩:=I.pin p hp';have hlt:=I.pin_lt hp';exists keep _ _ e,?_,?_,fun z=>?_,d
  ·rw[zj (fun z=>by rw[z] at hlt;exact absurd (lt_of_lt_of_le hlt hD) (lt_irrefl _))];exact n
  ·intro z
   have z':p.1=C:=z;rw[z'] at hlt;exact absurd (lt_of_lt_of_le hlt hC) (lt_irrefl _)
  ·rcases List.mem_cons.mp (I.stkSub p.1 z) with q|q
   ·exact ne q
   ·exact nf q
 ·exact I.hok.laid keep hD ⟨zero_le _,[],n0,.nil,hl⟩
 ·show(xo caps σ).length=Nc.length
  unfold xo;rw[aA,hlen]
theorem uC(I:Inv X pins σ H s)(hf:∀b∈fp,vt X pins H b)(J:Inv (zQ X pins sc fr Nc fp s H C) pl σ' H' s'):Inv X pins σ H' s':=
 I.call' J.os J.base J.hok J.bare fun b hb=>⟨(hf b hb).2.2.2.1,(hf b hb).2.1,(hf b hb).2.2.2.2.1,(hf b hb).2.2.2.2.2⟩
theorem jO{t2:Nat}(I:Inv X pins σ H s)(J:Inv (zQ X pins sc fr Nc fp s H C) pl σ' H' s')(J2:Inv X pins σ2 H' s')(hs:Heap.SameBut C s'.heap h2):Inv X pins σ2 H' { s' with heap:=h2,toks:=t2 }:=by
 have hC:s.heap.objs.size<=C:=J.ok.above;refine J2.turned (it:=C) (fun b o hb e=>(hs.2 b hb).trans e) J.free ?_ (.inr (le_trans I.sz hC)) (fun x c h z=>?_) fun p hp z=>?_
 ·intro z
  have:=I.lt
  rw[<- z] at this;exact absurd (lt_of_lt_of_le this hC) (lt_irrefl _)
 ·obtain⟨v,hv⟩:=I.cell x c h
  have:=hv.lt
  rw[z] at this;exact absurd (lt_of_lt_of_le this hC) (lt_irrefl _)
 ·have:=I.pin_lt hp
  rw[z] at this;exact absurd (lt_of_lt_of_le this hC) (lt_irrefl _)
def zfJ:TT:=fun _ H Q=>Q true H
structure PIf(X:Cx)(ifs:List Expr)(t:TT):Prop where
 run:∀(pins:PnL) (s:Shared) (σ : St) (H:Hp) (Q:Bool->Hp->Prop),Inv X pins σ H s->t σ H Q->
  ↑X (forIn ifs true fun c r=>if r=true then do let ok <- isTrue c X.env (eval c X.env);pure (ForInStep.yield ok) else pure (ForInStep.yield r)) (TP X pins σ Q) X.xe s
instance {X:Cx}{ifs:List Expr}{t:TT}:CoeFun (PIf X ifs t) (fun _=>∀(pins:PnL) (s:Shared) (σ : St) (H:Hp) (Q:Bool->Hp->Prop),Inv X pins σ H s->t σ H Q->
  ↑X (forIn ifs true fun c r=>if r=true then do let ok <- isTrue c X.env (eval c X.env);pure (ForInStep.yield ok) else pure (ForInStep.yield r)) (TP X pins σ Q) X.xe s):=⟨PIf.run⟩
theorem yV:PIf X [] zfJ:=⟨fun _ _ _ H _ I h=>wpAny_tests_nil ⟨H,I,h⟩⟩
theorem xl{t:TT}(hc:PT X c t):PIf X [c] t:=⟨fun pins s σ H Q I h=>wpAny_tests_one (hc pins s σ H Q I h)⟩
def zaf(g:TG)(ow:List Nat):Prop:=
 ∀v (σ:St) H (Q:St->Hp->Prop),g v σ H Q->g v σ H fun σ2 H2=>Q σ2 H2/\σ2.length=σ.length/\∀i,i∉ow->σ2[i]?=σ[i]?
theorem ya(i:Nat):zaf (zK i) [i]:=fun v σ H Q h=>⟨h,length_set ..,fun j hj=>getElem?_set_ne (fun e=>hj (by simp [e]))⟩
theorem xY{K:Frag}{n:Nat}(i j:Nat):zaf (zlp K n (qU (zK i) (qU (zK j) zjv))) [i,j]:=by
 rintro v σ H Q ⟨a,xs,e1,e2,e3,v1,r1,e4,v2,r2,e5,e6,q⟩;exists a,xs,e1,e2,e3,v1,r1,e4,v2,r2,e5,e6,q,by rw[length_set,length_set],fun k hk=>?_
 have h1:i≠k:=fun e=>hk (by simp [e])
 have h2:j≠k:=fun e=>hk (by simp [e])
 rw[getElem?_set_ne h2,getElem?_set_ne h1]
variable {R:Result->Shared->Prop}
theorem uL(Ex:VSP)(hE:∀e s,Ex e s->notedBy (model prog w) A env (fun x s'=>R (.error x) s') e s)(I:Nat->Shared->Prop)
  (turn:∀n s,I n s->wpAny (model prog w) A (pyNext it) (fun r s₁=>match r with
   | none=>R (.ok .next) s₁
   | some v=>wpAny (model prog w) A (letOwnedTupleGo target it v) (fun _ s₀=>wpAny (model prog w) A (assign target env v) (fun _ s₂=>
     wpAny (model prog w) A (forIn ifs true fun c r=>if r=true then do let ok <- isTrue c env (eval c env);pure (ForInStep.yield ok) else pure (ForInStep.yield r)) (fun ok s₃=>
      if ok=true then wpAny (model prog w) A (eval elt env) (fun x s₄=>
       wpAny (model prog w) A (call (.builtin "list.append") [acc,x]) (fun _ s₅=>∃m,m<n/\I m s₅) Ex s₄) Ex s₃
      else ∃m,m<n/\I m s₃) Ex s₂) Ex s₀) Ex s₁) Ex s)
  (n:Nat) (h:I n s) :
  codeAny (model prog w) A (.compLoop (.ListComp elt [⟨target,iter,ifs,0⟩] scope pos) 0 it acc env) R s:=by
 refine codeAny_loop rfl I (fun n s hI=>?_) n h;show wpAny _ A ((compTurn (.ListComp elt [⟨target,iter,ifs,0⟩] scope pos) 0 it acc env).onRaise (fun x=>do noteFrame x env;theTreesLotGoes x)) _ _ s
 refine wpAny_noted ?_;rw[compTurn_list];refine zwb (wpAny_standAt (zwb (wpAny_mono (turn n s hI) (fun r s₁ h₁=>?_) hE)));cases r with
 | none=>exact zwp h₁
 | some v=>
  refine zwb (wpAny_mono h₁ (fun _ s₀ h₀=>?_) hE);refine zwb (wpAny_mono h₀ (fun _ s₂ h₂=>zwb (wpAny_mono h₂ (fun ok s₃ h₃=>?_) hE)) hE);cases ok with
  | false=>exact zwp ⟨rfl,h₃⟩
  | true=>
   exact zwb (zwb (wpAny_mono h₃ (fun x s₄ h₄=>zwb (wpAny_mono h₄ (fun _ s₅ h₅=>zwp (zwp ⟨rfl,h₅⟩)) hE)) hE))
def LCr(J:It)(caps:List (Option Nat))(g:TG)(tt:TT)(te:TE)(σ : St)(H1:Hp)(Q:VK)(D:Addr):Prop:=
 ∃W:Nat->Nat->List V->Hp->Prop,(∃m,W 0 m [] (upd H1 D (.lst [])))/\∀i m ys H,W i m ys H->
  (J.stop i H/\Q (.ref D) H)\/
  (J.go i H/\∀x H',J.yld i H x H'->g x (xo caps σ) H' fun σ2 H2=>tt σ2 H2 fun ok H3=>
   (ok=true->te σ2 H3 fun v H4=>H4 D=some (.lst ys)/\ys.length<sizeLine/\∃m',m'<m/\W (i+1) m' (ys++[v]) (upd H4 D (.lst (ys++[v]))))/\
   (ok=false->∃m',m'<m/\W (i+1) m' ys H3))
def tLC(wi:TI)(caps:List (Option Nat))(g:TG)(tt:TT)(te:TE):TE:=fun σ H Q=>wi σ H fun J H1=>∀D,H1 D=none->LCr J caps g tt te σ H1 Q D
variable {g:TG}{tt:TT}{te:TE}{E:VSP}
theorem zfw{tn:Nat->Heap->Prop}{J:It}{Q:VK}{RR:Value->Addr->Result->Shared->Prop}
  (hc:X.calm=true) (B:y6 X.env sc fr) (go:zaf g ow) (how:(ow.all fun i=>caps[i]?==some none)=true) (hcap:w9 X.N Nc caps X.env sc fr=true) (hlen:caps.length=Nc.length)
  (Ex:Addr->Addr->Value->Shared->Prop) (hb:∀D C,PG ((zQ X pins sc fr Nc fp s H2 C).wish (Ex D C)) tg g/\PIf ((zQ X pins sc fr Nc fp s H2 C).wish (Ex D C)) ifs tt/\PE ((zQ X pins sc fr Nc fp s H2 C).wish (Ex D C)) elt te)
  (I2:Inv X pins σ H2 s) (T:zbD X.prog X.w X.K tg J fp it tn) (st2:tn 0 s.heap) (f2:∀b∈fp,vt X pins H2 b) (h:∀D,H2 D=none->LCr J caps g tt te σ H2 Q D)
  (hE:∀D C e s',Ex D C e s'->notedBy (model X.prog X.w) X.A (compEnvC sc (clB X.env fr) C X.env) (fun x s3=>RR (.ref D) C (.error x) s3) e s')
  (fin:∀D C (σ':St) H' s',Inv (zQ X pins sc fr Nc fp s H2 C) [] σ' H' s'->Q (.ref D) H'->RR (.ref D) C (.ok .next) s') :
  ↑X (newList []) (fun acc s₃=>↑X (newFunctionEnv sc X.env.globals (clB X.env fr) [] X.env.qual none .none (some X.env)) (fun cenv s₄=>
   codeAny (model X.prog X.w) X.A (.compStart (.ListComp elt [⟨tg,iter,ifs,0⟩] sc pos) 0 (.ref it) acc { cenv with scope:=relabel sc X.env }) (RR acc cenv.locals) s₄) E s₃) E s:=by
 have hcell:∀y∈sc.names,y.2≠.cell:=fun y hy=>by
  have h3:=List.all_eq_true.mp B.names _ hy;simp only[Bool.and_eq_true,bne_iff_ne,ne_eq] at h3;exact h3.1.1
 refine wpAny_newObj_type (wpAny_newFunctionEnv hcell (by intro y hy;simp at hy) (fun h₁ hns₁ hsb₁=>?_) B.kind)
 dsimp only at hns₁ hsb₁ |-;generalize hH2:s.heap.push { cls:=.type "list",dict:=none,data:=.seq ([]:List Value).toArray }=H3 at hns₁ hsb₁ |-;have hCs:H3.objs.size=s.heap.objs.size+1:=by rw[<- hH2,Heap.size_push]
 have hDC:s.heap.objs.size≠H3.objs.size:=by rw[hCs];exact ne_of_lt (lt_succ_self _)
 have hC:s.heap.objs.size<=H3.objs.size:=by rw[hCs];exact le_succ _
 have old:∀b o,s.heap.get? b=some o->h₁.get? b=some o:=fun b o e=>
  hsb₁.extBut b o (ne_of_lt (lt_of_lt_of_le (aI e) hC)) (zgp _ (hH2 ▸ zgp _ e))
 have hD:h₁.get? s.heap.objs.size=some { cls:=.type "list",data:=.seq ([]:List Value).toArray }:=hsb₁.extBut _ _ hDC (zgp _ (hH2 ▸ zgs _ rfl));have ho:∀b∈fp,∃o,s.heap.get? b=some o:=fun b hb'=>let ⟨o,e,_⟩:=T.obj 0 _ st2 b hb';⟨o,e⟩
 let CC:Cx:=zQ X pins sc fr Nc fp s H2 H3.objs.size
 let xb:Value->Shared->Prop:=Ex s.heap.objs.size H3.objs.size
 have I4:∀t',Inv (CC.wish xb) [] (xo caps σ) (upd H2 s.heap.objs.size (.lst [])) { s with heap:=h₁,toks:=t' }:=fun t'=>
  (zac I2 B f2 ho hC (le_refl _) hDC old hD hns₁ hcap hlen).wish xb
 have ok:=(I4 0).ok;obtain⟨hbg,hbt,hbe⟩:=hb s.heap.objs.size H3.objs.size;obtain⟨W,⟨m0,w0⟩,turn⟩:=h s.heap.objs.size (I2.hok.fresh (le_refl _));have stat:∀{H':Hp},(∀b∈fp,H' b=none)->∀b∈fp,vt (CC.wish xb) [] H' b:=fun hn b hb'=>
  ⟨hn b hb',(ok.exf b hb').1,ok.exfs b hb',.inl hb',(ok.exf b hb').2,fun p hp=>(f2 b hb').2.2.2.2.2 p (by have hp':p∈(X.pn++pins)++[]:=hp;simpa using hp')⟩
 have hfp0:∀b∈fp,upd H2 s.heap.objs.size (.lst []) b=none:=fun b hb'=>by
  obtain⟨o,e⟩:=ho b hb';rw[zj (ne_of_lt (aI e))];exact(f2 b hb').1
 have loop:∀s₃:Shared,s₃={ s with heap:=h₁,toks:=s.toks+([]:List (Str×Value)).length }->
   codeAny (model X.prog X.w) X.A (.compLoop (.ListComp elt [⟨tg,iter,ifs,0⟩] sc pos) 0 (.ref it) (.ref s.heap.objs.size) (compEnvC sc (clB X.env fr) H3.objs.size X.env)) (RR (.ref s.heap.objs.size) H3.objs.size) s₃:=by
  rintro s₃ rfl;refine uL xb (hE _ _) (fun n s'=>∃i σ' H' ys,Inv (CC.wish xb) [] σ' H' s'/\tn i s'.heap/\(∀b∈fp,H' b=none)/\W i n ys H'/\
   (∀(k:Nat) v,(xo caps σ)[k]?=some (some v)->σ'[k]?=some (some v))) ?_ m0
   ⟨0,_,_,[],I4 _,T.keep _ _ _ st2 (fun b _ o e=>old b o e),hfp0,w0,fun _ _ e=>e⟩
  rintro n s3 ⟨i,σ3,H4,ys,I3,st3,fr3,w3,wk3⟩;have I3':Inv (CC.wish xb) [] (xo caps σ) H4 s3:=I3.weak (by rw[I3.len];exact(I4 0).len) wk3
  rcases turn i n ys H4 w3 with ⟨stop,qn⟩|⟨gg,step⟩
  ·refine thn (T.done (CC.wish xb) rfl rfl rfl hc i [] s3 _ H4 xb I3' (stat fr3) st3 stop) fun r s4 ⟨hr,I4'⟩=>?_
   subst hr;exact fin _ _ _ _ _ I4'.unwish qn
  ·refine thn (T.item (CC.wish xb) rfl rfl rfl hc i [] s3 _ H4 xb I3' (stat fr3) st3 gg) fun r s4 ⟨u,hr,h4⟩=>?_
   subst hr;refine thn h4 fun _ s5 ⟨x,H5,I5,r5,y5,st5,fr5⟩=>?_;have I5':=I5.pinned (stat fr5) (T.obj _ _ st5);refine thn (hbg _ s5 _ H5 x u _ I5' r5 (go _ _ _ _ (step x H5 y5))) fun _ s6 ⟨σ6,H6,I6,q6,l6,k6⟩=>?_;have wk6:∀(k:Nat) v,(xo caps σ)[k]?=some (some v)->σ6[k]?=some (some v):=fun k v e=>by
    rw[k6 k fun hk=>?_]
    ·exact e
    ·have h1:=List.all_eq_true.mp how k hk
     have h2:caps[k]?=some none:=by simpa using h1
     unfold xo at e;rw[getElem?_map,h2] at e;cases e
   refine thn (hbt _ s6 σ6 H6 _ I6 q6) fun ok s7 ⟨H7,I7,q7⟩=>?_;have again:∀{H8:Hp}{s8:Shared}{ys':List V},Inv (CC.wish xb) ([]++uS fp s5.heap) σ6 H8 s8->(∃m',m'<n/\W (i+1) m' ys' H8)->
     ∃m,m<n/\∃i σ' H' ys,Inv (CC.wish xb) [] σ' H' s8/\tn i s8.heap/\(∀b∈fp,H' b=none)/\W i m ys H'/\(∀(k:Nat) v,(xo caps σ)[k]?=some (some v)->σ'[k]?=some (some v)):=fun {H8 s8 ys'} I8 ⟨m',hm,w8⟩=>by
    exists m',hm,i+1,σ6,H8,ys',I8.unpinned,T.keep _ _ _ st5 fun b hb' o e=>(I8.pin (b,o) (mem_append_right _ (mem_append_right _ (xD hb' e)))).1,fun b hb'=>?_,w8,wk6;obtain⟨o,e,d⟩:=T.obj _ _ st5 b hb';exact(I8.pin (b,o) (mem_append_right _ (mem_append_right _ (xD hb' e)))).2.1
   cases ok with
   | false=>
    rw[aJ zft];exact again I7 (q7.2 rfl)
   | true=>
    rw[aK rfl];refine thn (hbe _ s7 σ6 H7 _ I7 (q7.1 rfl)) fun uv s8 ⟨v,H8,I8,r8,hD8,hz,q8⟩=>?_;refine thn (z9 (X:=CC.wish xb) _ s8 σ6 H8 (.ref s.heap.objs.size) [v] _ [uv] (fun _ H'=>H'=upd H8 s.heap.objs.size (.lst (ys++[v]))) I8 rfl (.cons r8 .nil) ⟨_,ys,v,rfl,rfl,hD8,hz,rfl⟩) fun _ s9 ⟨_,H9,I9,_,e9⟩=>?_;subst e9;exact again I9 q8
 exact codeAny_compStart_list (loop _ rfl) (T.self _ 0 _ _ _ (T.keep _ _ _ st2 (fun b _ o e=>old b o e)) (loop _ rfl))
theorem zcs{tn:Nat->Heap->Prop}{J:It}{Q:VK}{RR:Value->Addr->Result->Shared->Prop}
  (hc:X.calm=true) (B:y6 X.env sc fr) (go:zaf g ow) (how:(ow.all fun i=>caps[i]?==some none)=true) (hcap:w9 X.N Nc caps X.env sc fr=true) (hlen:caps.length=Nc.length)
  (hb:∀(pins:PnL) fp s H C,PG (zQ X pins sc fr Nc fp s H C) tg g/\PIf (zQ X pins sc fr Nc fp s H C) ifs tt/\PE (zQ X pins sc fr Nc fp s H C) elt te)
  (I2:Inv X pins σ H2 s) (T:zbD X.prog X.w X.K tg J fp it tn) (st2:tn 0 s.heap) (f2:∀b∈fp,vt X pins H2 b) (h:∀D,H2 D=none->LCr J caps g tt te σ H2 Q D)
  (fin:∀D C (σ':St) H' s',Inv (zQ X pins sc fr Nc fp s H2 C) [] σ' H' s'->Q (.ref D) H'->RR (.ref D) C (.ok .next) s') :
  ↑X (newList []) (fun acc s₃=>↑X (newFunctionEnv sc X.env.globals (clB X.env fr) [] X.env.qual none .none (some X.env)) (fun cenv s₄=>
   codeAny (model X.prog X.w) X.A (.compStart (.ListComp elt [⟨tg,iter,ifs,0⟩] sc pos) 0 (.ref it) acc { cenv with scope:=relabel sc X.env }) (RR acc cenv.locals) s₄) E s₃) E s:=
 zfw hc B go how hcap hlen (fun _ _ _ _=>False) (fun _ C=>hb pins fp s H2 C) I2 T st2 f2 h (fun _ _ _ _ z=>z.elim) fin
theorem y6.loc(B:y6 env sc fr):∀x∈sc.names,x.2=.local->sc.names.lookup x.1=some .local:=fun y hy e=>by
 have h3:=List.all_eq_true.mp B.names _ hy;simp only[Bool.and_eq_true,Bool.or_eq_true,bne_iff_ne,ne_eq,beq_iff_eq] at h3;rcases h3.2 with z|z
 ·exact absurd e z
 ·exact z
theorem wC{wi:TI}(fr Nc:List Str)(caps:List (Option Nat))(hc:X.calm=true)(B:y6 X.env sc fr)(hi:PI X tg iter wi)(go:zaf g ow)(how:(ow.all fun i=>caps[i]?==some none)=true)
  (hcap:w9 X.N Nc caps X.env sc fr=true) (hlen:caps.length=Nc.length)
  (hb:∀(pins:PnL) fp s H C,PG (zQ X pins sc fr Nc fp s H C) tg g/\PIf (zQ X pins sc fr Nc fp s H C) ifs tt/\PE (zQ X pins sc fr Nc fp s H C) elt te)
  (hs:∀x,foldedSetIterable iter X.env x=pure x:=by intro _;rfl):PE X (.ListComp elt [⟨tg,iter,ifs,0⟩] sc pos) (tLC wi caps g tt te):=by
 and_intros;rw[eval_ListComp];refine wpAny_comprehension_free (use:=none) rfl hs B.clos B.kind B.loc (thn (hi pins s σ H _ I h) fun v s1 h1=>thn h1 fun itv s2 h2=>?_);obtain⟨it,fp,tn,J,H2,e,I2,T,st2,f2,q⟩:=h2;subst e;refine zcs (RR:=fun acc C=>compPost (model X.prog X.w) X.A X.xe none (EP X pins σ Q) acc C) hc B go how hcap hlen hb I2 T st2 f2 q ?_;intro D C σ' H' s' J' qq;obtain⟨m,hn,_⟩:=J'.loc;exact⟨m,hn,fun h' hs'=>⟨.ref D,H',jO I2 J' (uC I2 f2 J') hs',rfl,qq⟩⟩
theorem wO{wi:TI}{i:Nat}(fr Nc:List Str)(caps:List (Option Nat))(hN:X.N.Nodup)(hix:X.N[i]?=some x)(hx:Loc X.env.scope x)(hc:X.calm=true)(B:y6 X.env sc fr)(hi:PI X tg iter wi)(go:zaf g ow)(how:(ow.all fun i=>caps[i]?==some none)=true)
  (hcap:w9 X.N Nc caps X.env sc fr=true) (hlen:caps.length=Nc.length)
  (hb:∀(pins:PnL) fp s H C,PG (zQ X pins sc fr Nc fp s H C) tg g/\PIf (zQ X pins sc fr Nc fp s H C) ifs tt/\PE (zQ X pins sc fr Nc fp s H C) elt te)
  (hsw:swapsWith (.ListComp elt [⟨tg,iter,ifs,0⟩] sc pos) (some (.Name x pos')) pos2.line X.env=pure true:=by rfl)
  (hs:∀x,foldedSetIterable iter X.env x=pure x:=by intro _;rfl) (hf:X.fn x=true\/X.env.scope.names.lookup x=some .local:=by first|exact .inl rfl|exact .inr rfl|assumption) :
  PS X (.Assign [.Name x pos'] (.ListComp elt [⟨tg,iter,ifs,0⟩] sc pos) pos2) (zii (tLC wi caps g tt te) (zK i)):=by
 exists ?_;intro pins s σ H D0 I h;rw[exec_Assign_Name_used _ _ _ _ hsw];refine zwb (wpAny_standAt (zwb ?_));show wpAny _ X.A (do let _ <- comprehension (.ListComp elt [⟨tg,iter,ifs,0⟩] sc pos) sc X.env _ (newList []) false (eval iter X.env) (some (assign (.Name x pos') X.env))) _ _ s
 refine zwb (wpAny_mono (wpAny_comprehension_free (use:=some (assign (.Name x pos') X.env)) (Q:=fun _ s'=>SP X pins D0 .next s') rfl hs B.clos B.kind B.loc
  (thn (hi pins s σ H _ I h) fun v s1 h1=>thn h1 fun itv s2 h2=>?_)) (fun _ s' hq=>zwp (zwp hq)) fun _ _ e=>e)
 obtain⟨it,fp,tn,J,H2,e,I2,T,st2,f2,q⟩:=h2;subst e;refine zcs (Q:=fun v H1=>zK i v σ H1 D0.nx) (RR:=fun acc C=>compPost (model X.prog X.w) X.A X.xe (some (assign (.Name x pos') X.env)) (fun _ s'=>SP X pins D0 .next s') acc C) hc B go how hcap hlen hb I2 T st2 f2 q ?_;intro D C σ' H' s' J' qq;have I':=uC I2 f2 J';obtain⟨m,hn,_⟩:=J'.loc;have hC:s2.heap.objs.size<=C:=J'.ok.above;show wpAny _ X.A (assign (.Name x pos') X.env (.ref D)) _ _ s';refine wpAny_assign_Name (zau (v:=.ref D) I' hN hix hx rfl (fun s'' I'' ⟨a,sb,ha⟩=>?_) hf);have haC:C≠a:=by
  rintro rfl;rcases ha with z|z
  ·have:=I2.lt
   rw[<- z] at this;exact absurd (lt_of_lt_of_le this hC) (lt_irrefl _)
  ·obtain⟨v,hv⟩:=I2.cell x C z
   exact absurd (lt_of_lt_of_le hv.lt hC) (lt_irrefl _)
 have hCH:H' C=none:=J'.free;exists m,hn.sameBut sb haC,fun h' hs'=>⟨_,H',?_,qq⟩;refine I''.turned (it:=C) (t':=s''.toks) (fun b o hb e=>(hs'.2 b hb).trans e) hCH ?_ (.inr (le_trans I2.sz hC)) (fun x c h z=>?_) fun p hp z=>?_
 ·intro z
  have:=I2.lt
  rw[<- z] at this;exact absurd (lt_of_lt_of_le this hC) (lt_irrefl _)
 ·obtain⟨v,hv⟩:=I2.cell x c h
  have:=hv.lt
  rw[z] at this;exact absurd (lt_of_lt_of_le this hC) (lt_irrefl _)
 ·have:=I2.pin_lt hp
  rw[z] at this;exact absurd (lt_of_lt_of_le this hC) (lt_irrefl _)
def Its(z:Str):It:=⟨fun i _=>i<z.cps.size,fun i H x H'=>H'=H/\∃c,z.cps[i]?=some c/\x=.str ⟨#[c]⟩,fun i _=>z.cps.size<=i⟩
theorem zfI{P:Program}{w:World}{K:Frag}{tg:Expr}(it:Addr)(z:Str)(t:Tok):zbD P w K tg (Its z) [it] it (fun i h=>h.IsStrIter it (strIterType z) z t i) where
 mem:=by simp
 obj:=fun i h st b hb=>by
  have e:b=it:=by simpa using hb
  subst e;obtain⟨o,e,_,d⟩:=st;exact⟨o,e,fun v q=>by rw[d] at q;cases q⟩
 keep:=fun i h h' st k=>by
  obtain⟨o,e,r⟩:=st;exact⟨o,k it (by simp) o e,r⟩
 item:=by
  intro X hP hw hK hc i pins s σ H E I hf st hg;subst hP hw hK;obtain⟨f0,f1,f2,f3,f4,f5⟩:=hf it (by simp)
  have hi:i<z.cps.size:=hg;have hx:z.cps[i]?=some z.cps[i]:=by simp [hi]
  have fin:∀h',h'.IsStrIter it (strIterType z) z t (i+1)->Heap.SameBut it s.heap h'->
    ∃u,some (Value.str ⟨#[z.cps[i]]⟩ s.toks)=some u/\↑X (letOwnedTupleGo tg (.ref it) u) (fun _ s2=>∃x H',Inv X pins σ H' s2/\yf x u/\(Its z).yld i H x H'/\s2.heap.IsStrIter it (strIterType z) z t (i+1)/\∀b∈[it],H' b=none) E { s with heap:=h',toks:=s.toks+1 }:=fun h' hit hs=>by
   have I1:Inv X pins σ H { s with heap:=h',toks:=s.toks+1 }:=I.turned (fun b o hb e=>(hs.2 b hb).trans e) f0 f1 f3 f4 f5
   obtain⟨o,e1,e2,e3⟩:=id hit;exists _,rfl,zeu (s:={ s with heap:=h',toks:=s.toks+1 }) e1 e2 e3 ?_ ⟨.str ⟨#[z.cps[i]]⟩,H,I1,⟨_,rfl⟩,⟨rfl,_,hx,rfl⟩,hit,fun b hb=>(hf b hb).1⟩
   unfold strIterType;split <;> decide
  cases ha:z.cps.all (·<128)
  ·have e:strIterType z="str_iterator":=by simp [strIterType,ha]
   rw[e] at st;exact wpAny_pyNext_wide_item st hx fun h' a b=>fin h' (e.symm ▸ a) b
  ·have e:strIterType z="str_ascii_iterator":=by simp [strIterType,ha]
   rw[e] at st;exact wpAny_pyNext_ascii_item st hx fun h' a b=>fin h' (e.symm ▸ a) b
 done:=by
  intro X hP hw hK hc i pins s σ H E I hf st hg;subst hP hw hK;obtain⟨f0,f1,f2,f3,f4,f5⟩:=hf it (by simp)
  have hi:z.cps.size<=i:=hg;have hx:z.cps[i]?=none:=by simp [hi]
  have fin:∀h',Heap.ExtBut it s.heap h'->(none:Option Value)=none/\Inv X pins σ H { s with heap:=h' }:=fun h' eb=>⟨rfl,I.turned (t':=s.toks) (fun b o hb e=>eb b o hb e) f0 f1 f3 f4 f5⟩
  cases ha:z.cps.all (·<128)
  ·have e:strIterType z="str_iterator":=by simp [strIterType,ha]
   rw[e] at st;exact wpAny_pyNext_wide_end (I.ok.hd hc) st hx fin
  ·have e:strIterType z="str_ascii_iterator":=by simp [strIterType,ha]
   rw[e] at st;exact wpAny_pyNext_ascii_end (I.ok.hd hc) st hx fin
 self:=fun A i s Q E st h=>by
  cases ha:z.cps.all (·<128)
  ·have e:strIterType z="str_iterator":=by simp [strIterType,ha]
   rw[e] at st;exact wpAny_pyIter_striter_wide st h
  ·have e:strIterType z="str_ascii_iterator":=by simp [strIterType,ha]
   rw[e] at st;exact wpAny_pyIter_striter_ascii st h
def znm(tl:TE):TI:=fun σ H R=>tl σ H fun x H1=>∃z,x=.str z/\R (Its z) H1
theorem zgB{tl:TE}(hl:PE X l tl):PI X tg l (znm tl):=by
 exists ?_;intro pins s σ H R I h;refine thn (hl pins s σ H _ I h) fun v s1 ⟨x,H1,I1,r1,q1⟩=>?_;obtain⟨z,e,q⟩:=q1;subst e;obtain⟨t,rfl⟩:=r1;refine wpAny_pyIter_strU ?_;exists s1.heap.objs.size,[s1.heap.objs.size],_,_,H1,rfl,I1.kept (t':=s1.toks) fun b o e=>zgp _ e,zfI _ z t,⟨_,zgs _ rfl,rfl,rfl⟩,fun b hb=>?_,q;have e:b=s1.heap.objs.size:=by simpa using hb
 subst e;exact I1.fpOk (le_refl _) (I1.hok.fresh (le_refl _))
inductive zmZJ(x:V)(lo:Option Int)(hi:Option Int)(H:Hp)(Q:VK):Prop|mk(z:_):x=.str z->z.length<=sizeLine->(Q (.str (Txt.slice z lo hi)) H)->zmZJ x lo hi H Q
def zmZ:V->Option Int->Option Int->Hp->VK->Prop:=fun x lo hi H Q=>zmZJ x lo hi H Q
theorem zkp:SlR X zmZ:=by
 intro pins s σ H x v vl vu lo hi sl Q I rx hs pl pu h;obtain⟨z,rfl,hz,q⟩:=h;obtain⟨t,rfl⟩:=rx;exists "str",_,F.slot_str_getitem.lookup,typeIs_str _ _ _,?_;have fin:∀t' k,EP X pins σ Q (.str (Txt.slice z lo hi) t') { s with toks:=k }:=fun t' k=>⟨.str (Txt.slice z lo hi),H,I.tok k,⟨t',rfl⟩,q⟩
 cases pl with
 | none=>
  cases pu with
  | none=>exact wpAny_getItem_str_slice (l:=none) (u:=none) (st:=none) hs rfl (post_val_or_str ⟨le_trans (Txt.slice_le z _ _) hz,fin⟩)
  | int j tj=>exact wpAny_getItem_str_slice (l:=none) (u:=some (j,tj)) (st:=none) hs rfl (post_val_or_str ⟨le_trans (Txt.slice_le z _ _) hz,fin⟩)
 | int i ti=>
  cases pu with
  | none=>exact wpAny_getItem_str_slice (l:=some (i,ti)) (u:=none) (st:=none) hs rfl (post_val_or_str ⟨le_trans (Txt.slice_le z _ _) hz,fin⟩)
  | int j tj=>exact wpAny_getItem_str_slice (l:=some (i,ti)) (u:=some (j,tj)) (st:=none) hs rfl (post_val_or_str ⟨le_trans (Txt.slice_le z _ _) hz,fin⟩)
theorem zfE(hc:X.calm=true):xQ X (.builtin "all") (fun xs H Q=>∃(p:Addr) (bs:List Bool),xs=[.ref p]/\SqL X.K H p (bs.map V.bl)/\Q (.bl (bs.all id)) H):=by
 intro pins s σ H xs us Q I r h;obtain⟨p,bs,rfl,hS,q⟩:=h;obtain⟨u,rfl,ru⟩:=vd r;cases ru;obtain⟨its,rv,hp,hz⟩:=I.list hS;have hlen:its.length=bs.length:=by rw[<- rv.length,aA]
 have hne:p≠s.heap.objs.size:=ne_of_lt (by obtain⟨_,e,_⟩:=hp.isList;exact aI e)
 refine call_all_walk (wpAny_pyIter_list hp.isList ?_);exists s.heap.objs.size,_,_,_,_,_,fun i=>bs.getD i false,rfl,Walks.list (A:=X.A.in1) (I.ok.hd hc) s.heap.objs.size p hne its.toArray,⟨⟨_,zgs _ rfl,rfl,rfl⟩,hp.isList.push _⟩,?_,fun h' tk k=>?_
 ·intro i v s' Q' E' hP hQ
  have hv:its[i]?=some v:=by simpa using hP
  have hi:i<bs.length:=by rw[<- hlen];exact(List.getElem?_eq_some_iff.mp hv).1
  obtain⟨u',e1,e2⟩:=rv.get (i:=i) (x:=V.bl bs[i]) (by rw[getElem?_map,aB hi];rfl)
  rw[hv] at e1;cases e1;cases e2;refine wpAny_truthy_bool ?_
  have:bs.getD i false=bs[i]:=by rw[getD_eq_getElem?_getD,aB hi];rfl
  rw[<- this];exact hQ
 ·have e:((List.range its.toArray.size).all fun i=>bs.getD i false)=bs.all id:=by
   rw[size_toArray,hlen,Bool.eq_iff_iff,all_eq_true,all_eq_true];constructor
   ·intro hh b hb
    obtain⟨i,hi,rfl⟩:=List.getElem_of_mem hb
    have:=hh i (List.mem_range.mpr hi)
    rw[getD_eq_getElem?_getD,aB hi] at this;exact this
   ·intro hh i hi
    have hi':=List.mem_range.mp hi;rw[getD_eq_getElem?_getD,aB hi'];exact hh _ (getElem_mem hi')
  rw[e];exact⟨.bl (bs.all id),H,I.kept (h':=h') (t':=tk) (fun b o q=>k b o (fun hm=>by
   have e:b=s.heap.objs.size:=by simpa using hm
   exact absurd (aI q) (by rw[e];exact lt_irrefl _)) (zgp _ q)),rfl,q⟩
theorem zcw:xQ X (.builtin "isinstance") (fun xs H Q=>∃x T t b,xs=[x,.ty T]/\uJ X.K H x t/\kitOne X.K t (.type T)=some b/\Q (.bl b) H):=by
 intro pins s σ H xs us Q I r h;obtain⟨x,T,t,b,rfl,ty,e,q⟩:=h;obtain⟨u,w',rfl,ru,rw'⟩:=zfF r;cases rw';exact zfi I ru ty e fun tk=>⟨.bl b,H,I.tok tk,rfl,q⟩
def uE:Expr->Bool
 | .Starred ..=>true
 | _=>false
theorem xG(h:uE e=false):starEach (e::es) env=(false,eval e env)::starEach es env:=by
 cases e <;> first|rfl|cases h
theorem wK{env:Env}{pos:Pos}:∀{es:List Expr},es.any uE=false->(backTo pos (starEach es env)).any (·.1)=false
 | [],_=>rfl
 | e::es,h=>by
  rw[any_cons,Bool.or_eq_false_iff] at h;rw[xG h.1];show(false||(backTo pos (starEach es env)).any (·.1))=false
  rw[wK h.2];rfl
end
section
variable {CX:CXT}{k:Nat}{f C:Addr}{fd:FuncData}{ps:List Str}{sp:Sp}{x m:Str}{te ta:TE}{t:TA}{r:List V->Hp->VK->Prop}
theorem ac(ha:PE X e te)(hr:PA X es t)(h:uE e=false:=by rfl):PA X (e::es) (qj te t):=ziP ha hr (xG h)
theorem cB{X:Cx}{p pos:Pos}{e:Expr}{es:List Expr}{id:String}(hc:xQ X (.builtin id) r)(hm:X.mg x=none)(hv:bootBuiltins x=some (.builtin id))(ha:PA X (e::es) t)(hg:Gl X x:=by rfl)(hn:x≠"__name__":=by decide)(hdb:(x==("__debug__" : Str))=false:=by decide)
  (h1:uE e=false:=by rfl) (h2:es.any uE=false:=by rfl):PE X (.Call (.Name x p) (e::es) [] pos) (tCB r t):=zgK hc hg hm hv ha hn hdb (xG h1) (wK h2)
theorem cTy(hc:xQ X (.type T) r)(hm:X.mg x=none)(hv:bootBuiltins x=some (.type T))(ha:PA X (e::es) t)(hg:Gl X x:=by rfl)(hn:x≠"__name__":=by decide)(hdb:(x==("__debug__" : Str))=false:=by decide)
  (h1:uE e=false:=by rfl) (h2:es.any uE=false:=by rfl):PE X (.Call (.Name x p) (e::es) [] pos) (tCB r t):=zeY hc hg hm hv ha hn hdb (xG h1) (wK h2)
structure zH(P:Program)(w:World)(K:Frag)(mg:Str->Option Value)(base:Heap)(k:Nat)(x:Str)(f:Addr)(fd:FuncData)(ps:List Str)(sp:Sp):Prop where
 ok:zD P w K mg base CX0 k f fd ps sp
 mg:mg x=some (.ref f)
 kp:keepIn K (.ref f)=true
 bd:zU K fd ps []
theorem cF(c:zH X.prog X.w X.K X.mg X.base k x f fd ps sp)(hr:yl k X.A)(ha:PA X (e::es) t)(hg:Gl X x:=by rfl)(hdb:(x==("__debug__" : Str))=false:=by decide)
  (h1:uE e=false:=by rfl) (h2:es.any uE=false:=by rfl):PE X (.Call (.Name x p) (e::es) [] pos) (zdL sp [] E0 t):=
 zee c.ok hr hg c.mg c.kp c.bd .nil zZ ha hdb (xG h1) (wK h2)
end
end L2
namespace L2
open PySem PyProof.Rows
theorem j3(K:Frag):kitOne K (.type "NoneType") (.type "str")=some false:=by kernel_rfl
theorem zdm(K:Frag):kitOne K (.type "int") (.type "str")=some false:=by kernel_rfl
theorem zcg(K:Frag):kitOne K (.type "bool") (.type "str")=some false:=by kernel_rfl
theorem zbu(K:Frag):kitOne K (.type "bool") (.type "bool")=some true:=by kernel_rfl
theorem zdl(K:Frag):kitOne K (.type "str") (.type "str")=some true:=by kernel_rfl
theorem zce(K:Frag):kitOne K (.type "list") (.type "str")=some false:=by kernel_rfl
theorem zbt(K:Frag):kitOne K (.type "tuple") (.type "str")=some false:=by kernel_rfl
theorem zcf(K:Frag):kitOne K (.type "dict") (.type "str")=some false:=by kernel_rfl
end L2
namespace L2
open PySem PySem.Spec PyProof.Rows
inductive Dt where
 | non|bl (b:Bool)|int (i:Int)|str (z:Str)|tup (ds:List Dt)|lst (ds:List Dt)
def jZ:V->Dt->Prop
 | .non,.non=>True
 | .bl a,.bl b=>a=b
 | .int a,.int b=>a=b
 | .str a,.str b=>a=b
 | _,_=>False
def zJ(K:Frag)(ok:Addr->Prop)(H:Hp):Nat->V->Dt->Prop
 | 0,x,d=>jZ x d
 | n+1,x,d=>jZ x d\/(∃a xs ds,x=.ref a/\d=.tup ds/\SqT K H a xs/\Paired (zJ K ok H n) xs ds)\/(∃a xs ds,x=.ref a/\d=.lst ds/\ok a/\H a=some (.lst xs)/\Paired (zJ K ok H n) xs ds)
section
variable {K:Frag}{ok ok':Addr->Prop}{H H':Hp}
theorem zJ.flat{n:Nat}(h:jZ x d):zJ K ok H n x d:=by
 cases n with
 | zero=>exact h
 | succ n=>exact .inl h
theorem zJ.int{n:Nat}{i:Int}:zJ K ok H n (.int i) (.int i):=.flat rfl
theorem zJ.str{n:Nat}:zJ K ok H n (.str z) (.str z):=.flat rfl
theorem zJ.non{n:Nat}:zJ K ok H n .non .non:=.flat True.intro
theorem zJ.tup{n:Nat}(h:SqT K H a xs)(r:Paired (zJ K ok H n) xs ds):zJ K ok H (n+1) (.ref a) (.tup ds):=.inr (.inl ⟨a,xs,ds,rfl,rfl,h,r⟩)
theorem zJ.lst{n:Nat}(o:ok a)(h:H a=some (.lst xs))(r:Paired (zJ K ok H n) xs ds):zJ K ok H (n+1) (.ref a) (.lst ds):=.inr (.inr ⟨a,xs,ds,rfl,rfl,o,h,r⟩)
theorem zJ.frame(hT:∀a xs,SqT K H a xs->SqT K H' a xs)(hL:∀a xs,ok a->H a=some (.lst xs)->ok' a/\H' a=some (.lst xs)):∀{n:Nat}{x:V}{d:Dt},zJ K ok H n x d->zJ K ok' H' n x d
 | 0,_,_,h=>h
 | n+1,x,d,h=>by
  rcases h with h|⟨a,xs,ds,e1,e2,h,r⟩|⟨a,xs,ds,e1,e2,o,h,r⟩
  ·exact .inl h
  ·exact .inr (.inl ⟨a,xs,ds,e1,e2,hT a xs h,zu (fun _ _ z=>zJ.frame hT hL z) r⟩)
  ·exact .inr (.inr ⟨a,xs,ds,e1,e2,(hL a xs o h).1,(hL a xs o h).2,zu (fun _ _ z=>zJ.frame hT hL z) r⟩)
theorem zJ.up:∀{n:Nat}{x:V}{d:Dt},zJ K ok H n x d->zJ K ok H (n+1) x d
 | 0,_,_,h=>.inl h
 | n+1,x,d,h=>by
  rcases h with h|⟨a,xs,ds,e1,e2,h,r⟩|⟨a,xs,ds,e1,e2,o,h,r⟩
  ·exact .inl h
  ·exact .inr (.inl ⟨a,xs,ds,e1,e2,h,zu (fun _ _ z=>zJ.up z) r⟩)
  ·exact .inr (.inr ⟨a,xs,ds,e1,e2,o,h,zu (fun _ _ z=>zJ.up z) r⟩)
theorem zq.sqT(e:zq H H')(h:SqT K H a xs):SqT K H' a xs:=by
 rcases h with (h|⟨o,h⟩)|h
 ·exact .inl (.inl (e _ _ h))
 ·exact .inl (.inr ⟨o,e _ _ h⟩)
 ·exact .inr h
theorem zJ.same{n:Nat}(e:zq H H')(h:zJ K ok H n x d):zJ K ok H' n x d:=h.frame (fun _ _ z=>e.sqT z) fun _ _ o z=>⟨o,e _ _ z⟩
theorem Paired.get{α β : Type}{F : α->β->Prop}:∀{l₁:List α}{l₂:List β}{i:Nat}{a : α},Paired F l₁ l₂->l₁[i]?=some a->∃b,l₂[i]?=some b/\F a b
 | _,_,_,_,.nil,e=>by simp at e
 | _,_,0,_,.cons r _,e=>by simp at e;subst e;exact⟨_,rfl,r⟩
 | _,_,i+1,a,.cons _ t,e=>by
  obtain⟨b,h1,h2⟩:=Paired.get (i:=i) (a:=a) t (by simpa using e)
  exact⟨b,by simpa using h1,h2⟩
theorem zaO(hx:jZ x d)(hy:jZ y d)(ru:yf x u)(rv:yf y v):SeqAt.EqAt A s u v true:=by
 cases d with
 | non=>
  cases x <;> try exact hx.elim
  cases y <;> try exact hy.elim
  cases ru;cases rv;exact SeqAt.EqAt.same _
 | bl b=>
  cases x <;> try exact hx.elim
  cases y <;> try exact hy.elim
  rename_i a c;obtain rfl:a=b:=hx;obtain rfl:c=a:=hy;cases ru;cases rv;exact SeqAt.EqAt.same _
 | int b=>
  cases x <;> try exact hx.elim
  cases y <;> try exact hy.elim
  rename_i a c;obtain rfl:a=b:=hx;obtain rfl:c=a:=hy;obtain⟨t,rfl⟩:=ru;obtain⟨t',rfl⟩:=rv
  have:=SeqAt.EqAt.int_int (A:=A) (s:=s) c t c t'
  simpa using this
 | str b=>
  cases x <;> try exact hx.elim
  cases y <;> try exact hy.elim
  rename_i a c;obtain rfl:a=b:=hx;obtain rfl:c=a:=hy;obtain⟨t,rfl⟩:=ru;obtain⟨t',rfl⟩:=rv
  have:=SeqAt.EqAt.str_str (A:=A) (s:=s) c t c t'
  simpa using this
 | tup ds=>cases x <;> exact hx.elim
 | lst ds=>cases x <;> exact hx.elim
theorem qV(h:jZ (.ref a) d):False:=by cases d <;> exact h
theorem uh(n:Nat):((List.range n).all fun _=>true)=true:=by rw[all_eq_true];intro _ _;rfl
theorem uA{X:Cx}{pins:PnL}{σ:St}{s:Shared}(I:Inv X pins σ H s):∀(n:Nat) {A:Around}{x y:V}{d:Dt}{u v:Value},zJ X.K ok H n x d->zJ X.K ok' H n y d->yf x u->yf y v->A.units+n<cLine->SeqAt.EqAt A s u v true
 | 0,A,x,y,d,u,v,hx,hy,ru,rv,_=>zaO hx hy ru rv
 | n+1,A,x,y,d,u,v,hx,hy,ru,rv,hu=>by
  have hin:A.in1.units+n<cLine:=by show A.units+1+n<cLine;omega
  rcases hx with hx|⟨a,xs,ds,rfl,rfl,hx,r⟩|⟨a,xs,ds,rfl,rfl,_,hx,r⟩
  ·rcases hy with hy|⟨b,ys,es,rfl,rfl,hy,q⟩|⟨b,ys,es,rfl,rfl,_,hy,q⟩
   ·exact zaO hx hy ru rv
   ·cases x <;> exact hx.elim
   ·cases x <;> exact hx.elim
  ·rcases hy with hy|⟨b,ys,es,rfl,e2,hy,q⟩|⟨b,ys,es,rfl,e2,_,hy,q⟩
   ·cases y <;> exact hy.elim
   ·cases e2
    cases ru;cases rv;by_cases hab:a=b
    ·subst hab;exact SeqAt.EqAt.same _
    ·obtain⟨ia,va,pa,_⟩:=I.tuple hx
     obtain⟨ib,vb,pb,_⟩:=I.tuple hy;have la:ia.length=ds.length:=by rw[<- va.length,r.length]
     have lb:ib.length=ds.length:=by rw[<- vb.length,q.length]
     have:=SeqAt.RcAt.tuples (A:=A) (s:=s) (e:=fun _=>true) (show s.heap.IsTuple a ia.toArray from pa) (show s.heap.IsTuple b ib.toArray from pb) ∅ (fun j h1 h2=>by
      have j1:j<ia.length:=by simpa using h1
      have j2:j<ib.length:=by simpa using h2
      have hxl:j<xs.length:=by rw[va.length];exact j1
      have hyl:j<ys.length:=by rw[vb.length];exact j2
      obtain⟨u',e1,e2⟩:=va.get (i:=j) (aB hxl);obtain⟨v',e3,e4⟩:=vb.get (i:=j) (aB hyl);obtain⟨d1,f1,f2⟩:=Paired.get r (aB hxl);obtain⟨d2,f3,f4⟩:=Paired.get q (aB hyl);rw[f1] at f3;cases f3;rw[aB j1] at e1;rw[aB j2] at e3;cases e1;cases e3;simpa using uA I n f2 f4 e2 e4 hin)
     rw[uh] at this;have z:(ia.toArray.size==ib.toArray.size)=true:=by simp [la,lb]
     rw[z] at this;exact SeqAt.EqAt.of_refs hab this
   ·cases e2
  ·rcases hy with hy|⟨b,ys,es,rfl,e2,hy,q⟩|⟨b,ys,es,rfl,e2,_,hy,q⟩
   ·cases y <;> exact hy.elim
   ·cases e2
   ·cases e2
    cases ru;cases rv;by_cases hab:a=b
    ·subst hab;exact SeqAt.EqAt.same _
    ·obtain⟨ia,va,pa,_⟩:=I.list (zh hx)
     obtain⟨ib,vb,pb,_⟩:=I.list (zh hy);have la:ia.length=ds.length:=by rw[<- va.length,r.length]
     have lb:ib.length=ds.length:=by rw[<- vb.length,q.length]
     have:=SeqAt.RcAt.lists (A:=A) (s:=s) (e:=fun _=>true) pa.isList pb.isList (by simp [la,lb]) ∅ (fun j h1 h2=>by
      have j1:j<ia.length:=by simpa using h1
      have j2:j<ib.length:=by simpa using h2
      have hxl:j<xs.length:=by rw[va.length];exact j1
      have hyl:j<ys.length:=by rw[vb.length];exact j2
      obtain⟨u',e1,e2⟩:=va.get (i:=j) (aB hxl);obtain⟨v',e3,e4⟩:=vb.get (i:=j) (aB hyl);obtain⟨d1,f1,f2⟩:=Paired.get r (aB hxl);obtain⟨d2,f3,f4⟩:=Paired.get q (aB hyl);rw[f1] at f3;cases f3;rw[aB j1] at e1;rw[aB j2] at e3;cases e1;cases e3;simpa using uA I n f2 f4 e2 e4 hin)
     rw[uh] at this;exact SeqAt.EqAt.of_refs hab this
theorem zd8(I:Inv X pins σ H s){n:Nat}(hx:zJ X.K ok H (n+1) (.ref a) d)(hy:zJ X.K ok' H (n+1) (.ref b) d)(hu:A.units+n+1<cLine):
  SeqAt.RcAt A s (.ref a) (.ref b) true/\SeqAt.RcNeAt A s (.ref a) (.ref b) false:=by
 have hin:A.in1.units+n<cLine:=by show A.units+1+n<cLine;omega
 rcases hx with hx|⟨a,xs,ds,e0,rfl,hx,r⟩|⟨a,xs,ds,e0,rfl,_,hx,r⟩
 ·exact(qV hx).elim
 ·cases e0
  rcases hy with hy|⟨b,ys,es,e1,e2,hy,q⟩|⟨b,ys,es,e1,e2,_,hy,q⟩
  ·exact(qV hy).elim
  ·cases e1;cases e2
   obtain⟨ia,va,pa,_⟩:=I.tuple hx;obtain⟨ib,vb,pb,_⟩:=I.tuple hy;have la:ia.length=ds.length:=by rw[<- va.length,r.length]
   have lb:ib.length=ds.length:=by rw[<- vb.length,q.length]
   have el:∀j (h1:j<ia.toArray.size) (h2:j<ib.toArray.size),SeqAt.EqAt A.in1 s ia.toArray[j] ib.toArray[j] true:=fun j h1 h2=>by
    have j1:j<ia.length:=by simpa using h1
    have j2:j<ib.length:=by simpa using h2
    have hxl:j<xs.length:=by rw[va.length];exact j1
    have hyl:j<ys.length:=by rw[vb.length];exact j2
    obtain⟨u',e1,e2⟩:=va.get (i:=j) (aB hxl);obtain⟨v',e3,e4⟩:=vb.get (i:=j) (aB hyl);obtain⟨d1,f1,f2⟩:=Paired.get r (aB hxl);obtain⟨d2,f3,f4⟩:=Paired.get q (aB hyl);rw[f1] at f3;cases f3;rw[aB j1] at e1;rw[aB j2] at e3;cases e1;cases e3;simpa using uA I n f2 f4 e2 e4 hin
   have z:(ia.toArray.size==ib.toArray.size)=true:=by simp [la,lb]
   have t1:=SeqAt.RcAt.tuples (A:=A) (s:=s) (e:=fun _=>true) (show s.heap.IsTuple a ia.toArray from pa) (show s.heap.IsTuple b ib.toArray from pb) ∅ el
   have t2:=SeqAt.RcNeAt.tuples (A:=A) (s:=s) (e:=fun _=>true) (show s.heap.IsTuple a ia.toArray from pa) (show s.heap.IsTuple b ib.toArray from pb) ∅ el
   rw[uh,z] at t1 t2;exact⟨t1,t2⟩
  ·cases e1;cases e2
 ·cases e0
  rcases hy with hy|⟨b,ys,es,e1,e2,hy,q⟩|⟨b,ys,es,e1,e2,_,hy,q⟩
  ·exact(qV hy).elim
  ·cases e1;cases e2
  ·cases e1;cases e2
   obtain⟨ia,va,pa,_⟩:=I.list (zh hx);obtain⟨ib,vb,pb,_⟩:=I.list (zh hy);have la:ia.length=ds.length:=by rw[<- va.length,r.length]
   have lb:ib.length=ds.length:=by rw[<- vb.length,q.length]
   have el:∀j (h1:j<ia.toArray.size) (h2:j<ib.toArray.size),SeqAt.EqAt A.in1 s ia.toArray[j] ib.toArray[j] true:=fun j h1 h2=>by
    have j1:j<ia.length:=by simpa using h1
    have j2:j<ib.length:=by simpa using h2
    have hxl:j<xs.length:=by rw[va.length];exact j1
    have hyl:j<ys.length:=by rw[vb.length];exact j2
    obtain⟨u',e1,e2⟩:=va.get (i:=j) (aB hxl);obtain⟨v',e3,e4⟩:=vb.get (i:=j) (aB hyl);obtain⟨d1,f1,f2⟩:=Paired.get r (aB hxl);obtain⟨d2,f3,f4⟩:=Paired.get q (aB hyl);rw[f1] at f3;cases f3;rw[aB j1] at e1;rw[aB j2] at e3;cases e1;cases e3;simpa using uA I n f2 f4 e2 e4 hin
   have t1:=SeqAt.RcAt.lists (A:=A) (s:=s) (e:=fun _=>true) pa.isList pb.isList (by simp [la,lb]) ∅ el
   have t2:=SeqAt.RcNeAt.lists (A:=A) (s:=s) (e:=fun _=>true) pa.isList pb.isList (by simp [la,lb]) ∅ el
   rw[uh] at t1 t2;exact⟨t1,t2⟩
inductive zj1J(K:Frag)(b:Bool)(x:V)(y:V)(H:Hp)(Q:VK):Prop|mk(a c:Addr)(n:Nat)(d:Dt)(ok ok':Addr->Prop):x=.ref a->y=.ref c->n<=20->zJ K ok H (n+1) x d->zJ K ok' H (n+1) y d->(Q (.bl b) H)->zj1J K b x y H Q
def zj1(K:Frag)(b:Bool):R2:=fun x y H Q=>zj1J K b x y H Q
theorem zgU(hu:X.A.units+64<cLine):OpR X (compareOp .Eq) (zj1 X.K true):=by
 intro pins s σ H x y v u Q I rx ry h;obtain⟨a,c,n,d,ok,ok',rfl,rfl,hn,hx,hy,q⟩:=h;cases rx;cases ry;exact(zd8 (A:=X.A) I hx hy ∅).1 X.prog X.w X.xe _ ⟨.bl true,H,I,rfl,q⟩
theorem zgO(hu:X.A.units+64<cLine):OpR X (compareOp .NotEq) (zj1 X.K false):=by
 intro pins s σ H x y v u Q I rx ry h;obtain⟨a,c,n,d,ok,ok',rfl,rfl,hn,hx,hy,q⟩:=h;cases rx;cases ry;exact(zd8 (A:=X.A) I hx hy ∅).2 X.prog X.w X.xe _ ⟨.bl false,H,I,rfl,q⟩
def Ite(K:Frag)(a:Addr):It:=
 ⟨fun i H=>∃xs x,SqL K H a xs/\xs[i]?=some x,fun i H x H'=>∃p y,x=.ref p/\H p=none/\(∀xs,SqL K H a xs->xs[i]?=some y)/\H'=upd H p (.tup [.int i,y]),fun i H=>∃xs,SqL K H a xs/\xs.length<=i⟩
theorem zeO{x1:Nat}(a e it:Addr)(hne:e≠it):
  zbD P w K (.Tuple elts x1 tpos) (Ite K a) [e,it] e (fun i h=>(∃old,IsEnum h e it (i:Int) old)/\h.IsListIter it a i) where
 mem:=by simp
 obj:=fun i h st b hb=>by
  rcases List.mem_cons.mp hb with rfl|hb
  ·obtain⟨⟨old,he⟩,_⟩:=st
   exact⟨_,he,fun v q=>by cases q⟩
  ·have e':b=it:=by simpa using hb
   subst e';obtain⟨_,o,ho,_,hd⟩:=st;exact⟨o,ho,fun v q=>by rw[hd] at q;cases q⟩
 keep:=fun i h h' st k=>by
  obtain⟨⟨old,he⟩,o,ho,r⟩:=st;exact⟨⟨old,k e (by simp) _ he⟩,o,k it (by simp) o ho,r⟩
 item:=by
  intro X hP hw hK hc i pins s σ H E I hf st hg;subst hP hw hK;obtain⟨f0,f1,f2,f3,f4,f5⟩:=hf e (by simp)
  obtain⟨g0,g1,g2,g3,g4,g5⟩:=hf it (by simp)
  obtain⟨⟨old,he⟩,hit⟩:=st;obtain⟨xs,x,hS,hx⟩:=hg;obtain⟨its,rv,hp,hz⟩:=I.list hS;obtain⟨u,hu,ru⟩:=rv.get hx;refine wpAny_pyNext_enum_item he hit hp.isList (x:=u) (by simpa using hu) hne fun h' he' hit' htup hsz hk=>?_
  have I0:Inv X pins σ H { s with heap:=h',toks:=s.toks+1 }:=by
   refine I.step (g':=s.gens) (d':=s.drawn) (ch:=[e,it]) (fun b hb=>?_) (fun b o _ _ hc' e1 _=>hk b o (fun z=>hc' (by simp [z])) (fun z=>hc' (by simp [z])) e1) (fun b o _ _ hc' e1 _=>⟨o.slots,hk b o (fun z=>hc' (by simp [z])) (fun z=>hc' (by simp [z])) e1⟩) (fun _ _ _ _ n=>n)
    (fun b o hc' e1=>⟨o,hk b o (fun z=>hc' (by simp [z])) (fun z=>hc' (by simp [z])) e1⟩) (fun _ _ e1=>e1) (fun _ _ _ e1=>e1) (fun b ps e1=>⟨#[],by rw[e1];simp⟩) (fun m hm=>?_) (fun b u' e1=>?_) I.bare
   ·rcases List.mem_cons.mp hb with rfl|hb
    ·exact⟨f3,f1,f4,f5⟩
    ·have e':b=it:=by simpa using hb
     subst e';exact⟨g3,g1,g4,g5⟩
   ·obtain⟨o,es,ep,ho,r⟩:=hm
    exact⟨o,es,ep,hk _ o (Ne.symm f1) (Ne.symm g1) ho,r⟩
   ·have nit:∀c v',H c=some v'->c≠e/\c≠it:=fun c v' q=>⟨fun z=>(by rw[z,f0] at q;cases q),fun z=>(by rw[z,g0] at q;cases q)⟩
    refine(I.hok b u' e1).stay (fun c v' hc' q=>?_) (fun _ q=>q) fun _ _ q=>q;rcases hc' with z|z
    ·subst z;exact hk c v' (nit c _ e1).1 (nit c _ e1).2 q
    ·exact hk c v' (nit c _ z).1 (nit c _ z).2 q
  have hfr:H s.heap.objs.size=none:=I.hok.fresh (le_refl _);have I1:Inv X pins σ (upd H s.heap.objs.size (.tup [.int i,x])) { s with heap:=h',toks:=s.toks+1 }:=by
   have hok:HOk X.prog X.w (upd H s.heap.objs.size (.tup [.int i,x])) h':=fun b o q=>by
    by_cases hb:b=s.heap.objs.size
    ·subst hb
     rw[za] at q;cases q;exact⟨by show 2<=sizeLine;decide,[.int i s.toks,u],.cons ⟨_,rfl⟩ (.cons ru .nil),⟨_,htup,rfl,_,rfl⟩⟩
    ·rw[zj hb] at q
     exact(I0.hok b o q).stay (fun _ _ _ z=>z) (fun c z=>by rw[zj (zi z hfr)];exact z) fun c xs' z=>by rw[zj (zi z hfr)];exact z
   refine I0.step (s:={ s with heap:=h',toks:=s.toks+1 }) (g':=s.gens) (d':=s.drawn) (h':=h') (t':=s.toks+1) (ch:=[s.heap.objs.size]) (fun b hb=>?_) (fun b o _ _ _ e1 _=>e1) (fun b o _ _ _ e1 _=>⟨o.slots,e1⟩) (fun b o hb e1 n=>by rw[zj (fun z=>hb (by simp [z]))];exact n)
    (fun b o _ e1=>⟨o,e1⟩) (fun b xs' e1=>by rw[zj (zi e1 hfr)];exact e1) (fun b o' u' e1=>by rw[zj (zi e1 hfr)];exact e1) (fun b ps e1=>⟨#[],by rw[zj (zi e1 hfr),e1];simp⟩) (fun m hm=>hm) hok I0.bare
   have e':b=s.heap.objs.size:=by simpa using hb
   subst e';exists .inr I.sz,fun z=>?_,fun y c h z=>?_,fun p hp' z=>?_
   ·have:=I.lt;rw[<- z] at this;exact absurd this (lt_irrefl _)
   ·obtain⟨v',hv⟩:=I.cell y c h
    have:=hv.lt;rw[z] at this;exact absurd this (lt_irrefl _)
   ·have:=I.pin_lt hp';rw[z] at this;exact absurd this (lt_irrefl _)
  exists _,rfl,wpAny_letOwnedTupleGo_enum he' fun h2 he2 hs2=>?_;have nes:s.heap.objs.size≠e:=fun z=>by
   have:=aI (show s.heap.get? e=some _ from he)
   rw[<- z] at this;exact absurd this (lt_irrefl _)
  have nis:s.heap.objs.size≠it:=fun z=>by
   obtain⟨o,ho,_⟩:=hit
   have:=aI ho
   rw[<- z] at this;exact absurd this (lt_irrefl _)
  have I2:Inv X pins σ (upd H s.heap.objs.size (.tup [.int i,x])) { s with heap:=h2,toks:=s.toks+1 }:=
   I1.turned (s:={ s with heap:=h',toks:=s.toks+1 }) (t':=s.toks+1) (it:=e) (fun b o hb q=>(hs2.2 b hb).trans q) (by rw[zj nes.symm];exact f0) f1 f3 f4 f5
  exists .ref s.heap.objs.size,_,I2,rfl,⟨_,x,rfl,hfr,fun xs' h'=>?_,rfl⟩,⟨⟨_,by simpa using he2⟩,?_⟩,fun b hb=>?_
  ·rw[I.list_inj h' hS];exact hx
  ·obtain⟨o,ho,r⟩:=hit'
   exact⟨o,(hs2.2 it (Ne.symm hne)).trans ho,r⟩
  ·rcases List.mem_cons.mp hb with rfl|hb
   ·rw[zj nes.symm];exact f0
   ·have e':b=it:=by simpa using hb
    subst e';rw[zj nis.symm];exact g0
 done:=by
  intro X hP hw hK hc i pins s σ H E I hf st hg;subst hP hw hK;obtain⟨⟨old,he⟩,hit⟩:=st;obtain⟨g0,g1,g2,g3,g4,g5⟩:=hf it (by simp)
  obtain⟨xs,hS,hle⟩:=hg;obtain⟨its,rv,hp,hz⟩:=I.list hS;have hx:its.toArray[i]?=none:=by simp [<- rv.length,hle]
  exact wpAny_pyNext_enum_end (I.ok.hd hc) he hit hp.isList hx fun h' eb=>⟨rfl,I.turned (t':=s.toks) (fun b o hb e1=>eb b o hb e1) g0 g1 g3 g4 g5⟩
 self:=fun A i s Q E st h=>by
  obtain⟨⟨old,he⟩,_⟩:=st;exact wpAny_pyIter_enum he h
variable {x1:Nat}
inductive zmwJ(K:Frag)(R:It->Hp->Prop)(vs:List V)(H1:Hp):Prop|mk(a:_):vs=[.ref a]->(∃xs,SqL K H1 a xs)->(R (Ite K a) H1)->zmwJ K R vs H1
def zmw(K:Frag)(ta:TA):TI:=fun σ H R=>ta σ H fun vs H1=>zmwJ K R vs H1
theorem wc{ta:TA}(hg:Gl X "enumerate")(hm:X.mg "enumerate"=none)(ha:PA X [l] ta)(hl:uE l=false:=by rfl):PI X (.Tuple elts x1 tpos) (.Call (.Name "enumerate" p) [l] [] pos) (zmw X.K ta):=by
 exists ?_;intro pins s σ H R I h;refine Call_ (uV I hg hm PyProof.Rows.boot_enumerate (PyProof.Rows.callWith_type1 (thn (ha pos pins s σ H _ I h) fun us s1 ⟨vs,H1,I1,r1,q1⟩=>?_) (xG hl) rfl));obtain⟨a,e,⟨xs,hS⟩,q⟩:=q1;subst e;obtain⟨u,rfl,ru⟩:=vd r1;cases ru;obtain⟨its,rv,hp,hz⟩:=I1.list hS;refine call_enumerate_list hp.isList fun h' he hit hsz hk=>?_;refine wpAny_pyIter_enum he ?_;have hfr:∀b,s1.heap.objs.size<=b->H1 b=none:=fun b hb=>I1.hok.fresh hb;have I2:Inv X pins σ H1 { s1 with heap:=h' }:=I1.kept (t':=s1.toks) hk
 exists s1.heap.objs.size+1,[s1.heap.objs.size+1,s1.heap.objs.size],_,_,H1,rfl,I2,zeO a _ _ (Nat.succ_ne_self _),⟨⟨_,he⟩,hit⟩,fun b hb=>?_,q;rcases List.mem_cons.mp hb with rfl|hb
 ·exact I1.fpOk (le_succ _) (hfr _ (le_succ _))
 ·have e':b=s1.heap.objs.size:=by simpa using hb
  subst e';exact I1.fpOk (le_refl _) (hfr _ (le_refl _))
end
end L2
namespace Att
open PySem PySem.W PySem.Calls PyProof.Rows
theorem zbU{ns:List Int}(h:WData.layableAll [WData.list (ns.map WData.int)]=true):∀n∈ns,Builtin.Int.intBits n<=1048576:=fun n hn=>
 PySem.intBits_le_of_layable (layable0_of_all (lay0_int (layableW_item (layW_cons h).1 (.int n) (List.mem_map.mpr ⟨n,hn,rfl⟩))))
theorem zjI{l:OpenLaw}{n:Nat}{q:Program}{loose:List Str}{XP:(Str->Option Value)->Heap->Prop}{YP:World->Heap->Prop}{d:DefRec}
  (hn:l.most=some n) (hdf:d.params.defaults=[])
  (call:∀(w:World) (s₀ s₁:Shared) (mg mb:Str->Option Value) (fa:Addr) (o:Obj) (pm cd doc:Value) (a:Addr) (vs:List Value) (ns:List Int),
   Ground q loose [] XP w s₀ mg mb s₁.heap->YP w s₁.heap->
   s₁.heap.get? fa=some o->o.data=.func (docDef d.name d.params d.body d.scope pm cd doc)->s₁.heap.CodeRec cd d.name->mg d.name=some (.ref fa)->
   s₁.heap.get? a=some { cls:=.type "list",data:=.seq vs.toArray }->IntsAre vs ns->ns.length<=n->(∀m∈ns,Builtin.Int.intBits m<=1048576)->s₁.gens=#[]->
   codeAny (model l.prog w) callerA (.call (.ref fa) ⟨[.ref a],[]⟩) (fun r s'=>r=.ok (.ret (.bool true))/\OldK s₁.heap s'.heap/\s'.os=s₁.os/\AllBare s'.gens) s₁) :
  WalkO q loose XP YP l.row.toRowW d [] (fun f vs=>PySem.call f vs):=by
 intro w s₀ s₁ mg mb G Y fa o pm cd doc dV kV ho hd hcd hD hmg hg args vals as hpre hlay hrd hwl hlo;obtain rfl:dV=.none:=Dflts.none hD hdf;obtain rfl:kV=.none:=Dflts.noKw hD;obtain⟨a,vs,ns,rfl,rfl,hobj,hints,hlen⟩:=zeR hn hpre hwl;refine enter_call (codeAny_mono (call w s₀ s₁ mg mb fa o pm cd doc a vs ns G Y ho (fd_plain hd) hcd hmg hobj hints hlen (zbU hlay) hg) fun r s' hq=>?_);obtain⟨rfl,h2,h3,h4⟩:=hq;exact⟨.inl ⟨.bool true,.bool true,[],rfl,fun _=>rfl,.bool true,zeV l _,fun _=>⟨List.Pairwise.nil,fun _ hm=>(nomatch hm)⟩⟩,h2,h3,h4⟩
end Att
namespace L2
open PySem PySem.Spec PyProof.Rows
theorem zlE{l:PySem.W.OpenLaw}{n k:Nat}{q:Program}{loose:List Str}{XP:(Str->Option Value)->Heap->Prop}{YP:World->Heap->Prop}{d:DefRec}{K:Params->Frag}{CX:World->CXT}{sp:World->Sp}{x:Str}
  (hn:l.most=some n) (hn2:n<=sizeLine) (hdf:d.params.defaults=[]) (hr:yl k callerA)
  (hY:∀(w:World) (h:Heap),YP w h->(K w.params).In h)
  (F:∀(w:World) (mg:Str->Option Value) (fa:Addr) (h:Heap),(K w.params).In h->h.Ns mainGlobals mg->mg d.name=some (.ref fa)->
   ∃fd:FuncData,(∀(s:Shared) (u:Value),BindsTo s fd ⟨[u],[]⟩ [(x,u)])/\
    ∀base:Heap,(K w.params).In base->base.Ns mainGlobals mg->zD l.prog w (K w.params) mg base (CX w) k fa fd [x] (sp w))
  (hsp:∀(w:World) (H:Hp) (a:Addr) (ns:List Int),ns.length<=n->(∀m∈ns,Builtin.Int.intBits m<=1048576)->zly H->SqL (K w.params) H a (ns.map V.int)->sp w [.ref a] H (fun v _=>v=.bl true) fun _ _ _=>False)
  (hCX:∀(w:World) (H:Hp) (s:Shared) (e:Value) (s':Shared),CX w [] H s (fun _ _ _=>False) e s'->False) :
  PySem.W.WalkO q loose XP YP l.row.toRowW d [] (fun f vs=>PySem.call f vs):=by
 refine Att.zjI hn hdf fun w s₀ s₁ mg mb fa o pm cd doc a vs ns G Y ho hd hcd hmg hobj hints hlen hbits hg=>?_;have KX:=hY w _ Y;obtain⟨fd,hb,hF⟩:=F w mg fa _ KX G.T.g hmg;exact zhD KX G.T.g G.T.b G.T.builtins G.T.nolimit hg hobj hints (le_trans hlen hn2) hr hF hb (fun H hO hS=>hsp w H a ns hlen hbits hO hS) fun H e s'=>hCX w H s₁ e s'
section
structure zap(K:Frag)(x qual:Str)(st:Stmt)(f:Addr)(fd:FuncData)(items:List Value):Prop where
 ex:∃(oc:Value) (od:Option Addr) (T:Addr) (kV doc pm:Value) (an:Option Addr) (cdv ct:Value) (osl:Array (Option Value)) (o:Obj) (n:Nat),
  fd=fnOf x qual (yh st) (ye st) (zk st) (.ref T) kV doc pm an cdv ct/\K.lookup f=some ⟨oc,od,.func fd,osl⟩/\codeIn K cdv qual=true/\K.lookup T=some o/\o.data=.seq items.toArray n
 kp:keepIn K (.ref f)=true
variable {mg:Str->Option Value}
theorem zap.ok{P:Program}{w:World}{K:Frag}{base:Heap}{x qual:Str}{st:Stmt}{f:Addr}{fd:FuncData}{items:List Value}{N ps:List Str}{k:Nat}{sp:Sp}(F:zap K x qual st f fd items)(S:zv N ps (zk st))(len:∀vs H Q E,sp vs H Q E->vs.length=ps.length)
  (hbody:∀(cdv:Value) (A:Around) (outer:List Env) (s:Shared) (H:Hp) (vs:List V) (Q:VK) (E:XK),yl k (A.deeper (envOfC qual (zk st) s.heap.objs.size f cdv))->sp vs H Q E->
   ∃t,PSs (zak CX0 P w K mg base N qual (zk st) f cdv A outer s H E).nox (ye st) t/\t { nx:=fun _ H'=>Q .non H',rt:=Q } (uK N vs) H):zD P w K mg base CX0 (k+1) f fd ps sp:=by
 obtain⟨oc,od,T,kV,doc,pm,an,cdv,ct,osl,o,n,rfl,lk,hcd,_,_⟩:=F.ex;refine zhR lk hcd S len fun A outer s H vs Q E hr hsp=>?_;obtain⟨t,h,q⟩:=hbody cdv A outer s H vs Q E hr hsp;exact⟨t,h.nox,q⟩
theorem zap.bindsTo{K:Frag}{x qual:Str}{st:Stmt}{f:Addr}{fd:FuncData}{items:List Value}(F:zap K x qual st f fd items){args:Args}{bs:List (Str×Value)}
  (h:∀(T:Addr) (kV doc pm:Value) (an:Option Addr) (cdv ct:Value),∃k:Option (Array Value)->Sem (List (Str×Value)),
   bindArgs (fnOf x qual (yh st) (ye st) (zk st) (.ref T) kV doc pm an cdv ct) args=seqItems? (.ref T) >>= k/\k (some items.toArray)=pure bs) {s:Shared}(KX:K.In s.heap):BindsTo s fd args bs:=by
 obtain⟨oc,od,T,kV,doc,pm,an,cdv,ct,osl,o,n,rfl,lk,hcd,lt,hs⟩:=F.ex;obtain⟨k,h1,h2⟩:=h T kV doc pm an cdv ct;exact BindsTo.of_defaults (T:=T) (n:=n) rfl (KX _ _ lt) hs h1 h2
theorem zjx{K:Frag}{x qual:Str}{st:Stmt}{f T:Addr}{oc:Value}{od an:Option Addr}{osl:Array (Option Value)}{kV doc pm cdv ct:Value}{o:Obj}{n:Nat}{items:List Value}
  (l:K.lookup f=some ⟨oc,od,.func (fnOf x qual (yh st) (ye st) (zk st) (.ref T) kV doc pm an cdv ct),osl⟩)
  (c:codeIn K cdv qual=true) (k:keepIn K (.ref f)=true) (lT:K.lookup T=some o) (hs:o.data=.seq items.toArray n) :
  zap K x qual st f (fnOf x qual (yh st) (ye st) (zk st) (.ref T) kV doc pm an cdv ct) items:=⟨⟨oc,od,T,kV,doc,pm,an,cdv,ct,osl,o,n,rfl,l,c,lT,hs⟩,k⟩
variable {CX:CXT}{k:Nat}{sp:Sp}{t tk:TA}{g:List Value->List Value->List Value}{gV:List V->List V->List V}
theorem xj{t u:TS}(R:St->Hp->Prop)(h2:∀σ H,R σ H->u D σ H)(h1:(∀σ H,R σ H->u D σ H)->t { D with nx:=u D } σ H):vN t u D σ H:=h1 h2
def lcN(n i:Nat)(D:Addr)(Pv:Nat->List V->Hp->Prop)(ys:List V):VK:=fun v H4=>H4 D=some (.lst ys)/\ys.length<sizeLine/\∃m',m'<n - i/\m'=n - (i+1)/\i+1<=n/\Pv (i+1) (ys++[v]) (upd H4 D (.lst (ys++[v])))
def lcS(n i:Nat)(Pv:Nat->List V->Hp->Prop)(ys:List V):Hp->Prop:=fun H4=>∃m',m'<n - i/\m'=n - (i+1)/\i+1<=n/\Pv (i+1) ys H4
theorem lcN.mk{n i:Nat}{Pv:Nat->List V->Hp->Prop}(hi:i<n)(hn:n<=sizeLine)(hD:H4 D=some (.lst ys))(hy:ys.length<=i)(p:Pv (i+1) (ys++[v]) (upd H4 D (.lst (ys++[v])))):lcN n i D Pv ys v H4:=
 ⟨hD,∅,n - (i+1),∅,rfl,hi,p⟩
theorem lcS.mk{n i:Nat}{Pv:Nat->List V->Hp->Prop}(hi:i<n)(p:Pv (i+1) ys H4):lcS n i Pv ys H4:=⟨n - (i+1),∅,rfl,hi,p⟩
theorem xx{K:Frag}{a:Addr}{xs:List V}{caps:List (Option Nat)}{g:TG}{tt:TT}{te:TE}{σ : St}{H1:Hp}{Q:VK}{D:Addr}(Pv:Nat->List V->Hp->Prop)(h0:Pv 0 [] (upd H1 D (.lst [])))
  (hl:∀i ys H,Pv i ys H->SqL K H a xs)
  (hs:∀i x ys H,i<xs.length->xs[i]?=some x->Pv i ys H->g x (xo caps σ) H fun σ2 H2=>tt σ2 H2 fun ok H3=>(ok=true->te σ2 H3 (lcN xs.length i D Pv ys))/\(ok=false->lcS xs.length i Pv ys H3))
  (hd:∀ys H,Pv xs.length ys H->Q (.ref D) H):LCr (Itl K a) caps g tt te σ H1 Q D:=by
 exists fun i m ys H=>m=xs.length - i/\i<=xs.length/\Pv i ys H,⟨xs.length,by simp,zero_le _,h0⟩,?_
 rintro i m ys H ⟨rfl,hi,p⟩;have q:=hl i ys H p;by_cases hlt:i<xs.length
 ·refine .inr ⟨⟨xs,xs[i],q,by simp [hlt]⟩,fun x H' y=>?_⟩
  obtain⟨e,y⟩:=y;subst e;exact hs i x ys _ hlt (y xs q) p
 ·have e:i=xs.length:=by omega
  subst e;exact .inl ⟨⟨xs,q,le_refl _⟩,hd ys H p⟩
theorem yH(hx:H x=none)(hd:H dx=none):zq H (upd (upd H dx (.own x)) x o1):=fun b u q=>by
 rw[zj (zi q hx),zj (zi q hd)];exact q
theorem ze(h:H p=none)(o:HO):zq H (upd H p o):=fun b u q=>by rw[zj (zi q h)];exact q
end
end L2
namespace L2
open PySem
theorem nS(h:H p=none)(e:upd H p o=H'):zq H H':=e ▸ ze h o
theorem nE(e:upd H p o=H'):H' p=some o:=e ▸ za
end L2
local macro_rules|`(tactic|injections $l:ident $h:ident $H:ident $s:ident $e:ident)=>`(tactic|(generalize hE:L2.upd _ $l _=$H:ident;have $s:ident:=L2.nS $h hE;have $e:ident:=L2.nE hE;clear hE))
namespace L2
open PySem PySem.Spec PyProof.Rows
theorem qP{lo:Int}{n:Nat}{g:TG}{tt:TT}{te:TE}{Q:VK}(Pv:Nat->List V->Hp->Prop)(h0:Pv 0 [] (upd H1 D (.lst [])))
  (hs:∀i ys H,i<n->Pv i ys H->g (.int (lo+i)) (xo caps σ) H fun σ2 H2=>tt σ2 H2 fun ok H3=>(ok=true->te σ2 H3 (lcN n i D Pv ys))/\(ok=false->lcS n i Pv ys H3))
  (hd:∀ys H,Pv n ys H->Q (.ref D) H):LCr (Itr lo n) caps g tt te σ H1 Q D:=by
 exists fun i m ys H=>m=n - i/\i<=n/\Pv i ys H,⟨n,by simp,zero_le _,h0⟩,?_
 rintro i m ys H ⟨rfl,hi,p⟩;by_cases hlt:i<n
 ·refine .inr ⟨hlt,fun x H' y=>?_⟩
  obtain⟨e,y⟩:=y;subst e y;exact hs i ys _ hlt p
 ·have e:i=n:=by omega
  subst e;exact .inl ⟨le_refl _,hd ys H p⟩
theorem zep{K:Frag}{a:Addr}{xs:List V}{caps:List (Option Nat)}{g:TG}{tt:TT}{te:TE}{σ : St}{H1:Hp}{Q:VK}{D:Addr}(Pv:Nat->List V->Hp->Prop)(h0:Pv 0 [] (upd H1 D (.lst [])))
  (hl:∀i ys H,Pv i ys H->SqL K H a xs)
  (hs:∀i x p ys H,i<xs.length->xs[i]?=some x->Pv i ys H->H p=none->g (.ref p) (xo caps σ) (upd H p (.tup [.int i,x])) fun σ2 H2=>tt σ2 H2 fun ok H3=>(ok=true->te σ2 H3 (lcN xs.length i D Pv ys))/\(ok=false->lcS xs.length i Pv ys H3))
  (hd:∀ys H,Pv xs.length ys H->Q (.ref D) H):LCr (Ite K a) caps g tt te σ H1 Q D:=by
 exists fun i m ys H=>m=xs.length - i/\i<=xs.length/\Pv i ys H,⟨xs.length,by simp,zero_le _,h0⟩,?_
 rintro i m ys H ⟨rfl,hi,p⟩;have q:=hl i ys H p;by_cases hlt:i<xs.length
 ·refine .inr ⟨⟨xs,xs[i],q,by simp [hlt]⟩,fun x H' y=>?_⟩
  obtain⟨pp,y,rfl,hp,y2,rfl⟩:=y;exact hs i y pp ys H hlt (y2 xs q) p hp
 ·have e:i=xs.length:=by omega
  subst e;exact .inl ⟨⟨xs,q,le_refl _⟩,hd ys H p⟩
theorem wx{K:Frag}{a:Addr}{xs:List V}{g:TG}{tb:TS}{D:vH}{σ : St}{H:Hp}(Pv:Nat->St->Hp->Prop)(h0:Pv 0 σ H)(hl:∀i σ H,i<=xs.length->Pv i σ H->SqL K H a xs)
  (hs:∀i x p σ H,xs[i]?=some x->Pv i σ H->H p=none->g (.ref p) σ (upd H p (.tup [.int i,x])) fun σ2 H2=>tb { D with nx:=Pv (i+1),ct:=Pv (i+1),bk:=D.nx } σ2 H2) (hd:∀σ H,Pv xs.length σ H->D.nx σ H) :
  ∃W:Nat->Nat->St->Hp->Prop,(∃m,W 0 m σ H)/\∀i m σ H,W i m σ H->
   ((Ite K a).stop i H/\D.nx σ H)\/((Ite K a).go i H/\∃N:St->Hp->Prop,(∀σ' H',N σ' H'->∃m',m'<m/\W (i+1) m' σ' H')/\∀x H',(Ite K a).yld i H x H'->g x σ H' fun σ2 H2=>tb { D with nx:=N,ct:=N,bk:=D.nx } σ2 H2):=by
 exists fun i m σ H=>m=xs.length - i/\i<=xs.length/\Pv i σ H,⟨xs.length,by simp,zero_le _,h0⟩,?_
 rintro i m σ H ⟨rfl,hi,p⟩;have q:=hl i σ H hi p;by_cases hlt:i<xs.length
 ·refine .inr ⟨⟨xs,xs[i],q,by simp [hlt]⟩,Pv (i+1),fun σ' H' p'=>⟨xs.length - (i+1),∅,rfl,hlt,p'⟩,fun x H' y=>?_⟩
  obtain⟨pp,y,rfl,hp,y2,rfl⟩:=y;exact hs i y pp σ H (y2 xs q) p hp
 ·have e:i=xs.length:=by omega
  subst e;exact .inl ⟨⟨xs,q,le_refl _⟩,hd σ H p⟩
section
variable {E:VSP}
theorem zaM{X:Cx}(hstk:X.stack=X.env::X.outer)(hfl:X.env.frame=some X.env.locals):frs X.stack=X.env.locals::frs X.outer:=by
 rw[hstk];unfold frs;rw[filterMap_cons,hfl]
theorem HOk.sameAt(x:HOk P w H h)(k:∀b u o,H b=some u->h.get? b=some o->h'.get? b=some o):HOk P w H h':=fun a o e=>
 (x a o e).stay (fun b u hb q=>by
  rcases hb with z|z
  ·exact k b o u (by rw[z];exact e) q
  ·exact k b _ u z q) (fun _ q=>q) fun _ _ q=>q
theorem HOk.rec(x:HOk P w H h)(e:H b=some u):∃o,h.get? b=some o:=by
 have q:=x b u e;cases u with
 | lst xs=>obtain⟨_,_,_,_,e⟩:=q;exact⟨_,e⟩
 | tup xs=>obtain⟨_,_,_,o,e,_⟩:=q;exact⟨_,e⟩
 | dK kvs=>obtain⟨_,_,_,_,o,_,_,e,_⟩:=q;exact⟨_,e⟩
 | dT kvs=>obtain⟨_,_,_,_,o,_,_,e,_⟩:=q;exact⟨_,e⟩
 | set S n=>obtain⟨o,_,_,_,e,_⟩:=q;exact⟨_,e⟩
 | ins C dx fs=>obtain⟨_,_,_,e,_⟩:=q;exact⟨_,e⟩
 | own y=>exact q
 | xd fs=>obtain⟨_,⟨o,_,_,e,_⟩,_⟩:=q;exact⟨_,e⟩
 | rng lo hi=>obtain⟨_,_,_,e⟩:=q;exact⟨_,e⟩
 | frz ob u=>obtain⟨e,_⟩:=q;exact⟨_,e⟩
 | tbl ps=>exact⟨_,q⟩
 | met f y=>exact⟨_,q⟩
 | ext φ=>exact q.2.1
end
section
variable {t:TA}
variable {mg:Str->Option Value}
variable {k:Nat}{sp:Sp}
def zaX(ea:Addr)(cls:Value)(h:Heap):Prop:=∃oe vs,h.get? ea=some oe/\oe.cls=cls/\oe.data=.fields vs
theorem Inv.track(I:Inv X pins σ H s)(hn:H a=none)(new:yR X.prog X.w (upd H a o) s.heap a o)(h0:∀u,X.s₀.heap.get? a=some u->X.H₀ a=none->a∉X.ex->False)(hL:X.env.locals≠a)
  (hc:∀x c,X.env.cells.lookup x=some c->c≠a) (hp:∀p∈X.pn++pins,p.1≠a):Inv X pins σ (upd H a o) s:=by
 exists I.ok,I.os,I.bare,⟨I.base.keep,I.base.slot,fun b u e n x=>?_,I.base.there,fun b xs e=>?_,fun b u v e=>?_,fun b ps e=>?_⟩,I.loc,I.cell,?_,fun x c e=>?_,fun p hp'=>?_,fun b u e=>?_,I.len
 ·have hb:b≠a:=fun z=>by subst z;exact h0 u e n x
  rw[zj hb];exact I.base.free b u e n x
 ·have e1:=I.base.tups b xs e
  rw[zj (zi e1 hn)];exact e1
 ·have e1:=I.base.frzs b u v e
  rw[zj (zi e1 hn)];exact e1
 ·obtain⟨more,e1⟩:=I.base.tbls b ps e
  exact⟨more,by rw[zj (zi e1 hn)];exact e1⟩
 ·rw[zj hL];exact I.free
 ·rw[zj (hc x c e)];exact I.freeC x c e
 ·obtain⟨q1,q2,q3⟩:=I.pin p hp'
  exact⟨q1,by rw[zj (hp p hp')];exact q2,q3⟩
 ·by_cases hb:b=a
  ·subst hb;rw[za] at e;cases e;exact new
  ·rw[zj hb] at e
   exact(I.hok b u e).stay (fun _ _ _ q=>q) (fun c q=>by rw[zj (zi q hn)];exact q) fun c xs q=>by rw[zj (zi q hn)];exact q
end
section
variable {X:Cx}{pins:PnL}{σ:St}{H:Hp}{s:Shared}{A:Around}{E:VSP}{i:Nat}
theorem uy{Q:Unit->Shared->Prop}(I:Inv X pins σ H s)(hN:X.N.Nodup)(hi:X.N[i]?=some n)(hk:X.env.scope.names.lookup n=some .local)(h:∀s',Inv X pins (σ.set i none) H s'->Q () s'):
  wpAny M A (do bindName X.env n .none;unbindBehindTheSuite X.env n pos) Q E s:=by
 refine zwb (wpAny_bindName (vO (v:=.non) (u:=.none) I hN hi (.inl hk) rfl (fun s1 I1=>?_) (.inr hk)));unfold unbindBehindTheSuite;refine wpAny_onRaise ?_;have hiσ : i<σ.length:=by rw[I.len];exact(List.getElem?_eq_some_iff.mp hi).1
 have hcls:(X.env.scope.kind==.class||(X.env.scope.kind==.module&&X.env.locals != X.env.globals))=false:=by rw[I.ok.kind];rfl
 obtain⟨m,hn,hl⟩:=id I1.loc;obtain⟨u0,_,lk⟩:=hl i n .non hi (by rw[getElem?_set_self hiσ]) (.inl hk)
 have hv:m n=some u0:=by
  rcases lk with ⟨_,e⟩|⟨z,_⟩
  ·exact e
  ·have z':X.env.scope.names.lookup n=some .cell\/X.env.scope.names.lookup n=some .free:=z
   rw[hk] at z';rcases z' with z'|z' <;> cases z'
 refine wpAny_unbindName_local hk hn hv hcls fun h2 u hn2 hs=>h _ ?_;have old:∀b o,X.s₀.heap.get? b=some o->b≠X.env.locals:=fun b o e=>ne_of_lt (lt_of_lt_of_le (aI e) I1.ok.above);refine⟨I1.ok,I1.os,I1.bare,⟨fun b o e z hb hx=>(hs.2 b (old b o e)).trans (I1.base.keep b o e z hb hx),fun b o e z hb hx=>?_,I1.base.free,fun b o e hx=>?_,I1.base.tups,I1.base.frzs,I1.base.tbls⟩,⟨_,hn2,fun j y v e1 e2 e3=>?_⟩,fun y c e=>?_,I1.free,I1.freeC,fun p hp=>?_,fun b ob e=>?_,by rw[length_set];exact I.len⟩
 ·obtain⟨sl,e1⟩:=I1.base.slot b o e z hb hx
  exact⟨sl,(hs.2 b (old b o e)).trans e1⟩
 ·obtain⟨o',e1⟩:=I1.base.there b o e hx
  exact⟨o',(hs.2 b (old b o e)).trans e1⟩
 ·by_cases hj:j=i
  ·subst hj
   rw[getElem?_set_self hiσ] at e2;cases e2
  ·rw[getElem?_set_ne (Ne.symm hj)] at e2
   obtain⟨u',r',q⟩:=hl j y v e1 (by rw[getElem?_set_ne (Ne.symm hj)];exact e2) e3
   exists u',r',?_;rcases q with ⟨k,e⟩|⟨k,c,e,z⟩
   ·have ny:y≠n:=fun w=>hj (qH hN e1 (w ▸ hi))
    exact .inl ⟨k,by simp [ny,e]⟩
   ·exact .inr ⟨k,c,e,z.sameBut hs (I1.cne y c e)⟩
 ·obtain⟨w',z⟩:=I1.cell y c e
  exact⟨w',z.sameBut hs (I1.cne y c e)⟩
 ·obtain⟨e,z,ne,nf,d⟩:=I1.pin p hp
  exact⟨(hs.2 p.1 ne).trans e,z,ne,nf,d⟩
 ·refine(I1.hok b ob e).stay (fun c w' hc q=>(hs.2 c fun z=>?_).trans q) (fun _ q=>q) fun _ _ q=>q
  rcases hc with w1|w1
  ·rw[<- w1,z,I1.free] at e;cases e
  ·rw[z,I1.free] at w1;cases w1
structure PE1(X:Cx)(pins:PnL)(σ : St)(e:Expr)(t:TE):Prop where
 run:∀(s:Shared) (H:Hp) (Q:VK),Inv X pins σ H s->t σ H Q->↑X (eval e X.env) (EP X pins σ Q) X.xe s
structure PS1(X:Cx)(pins:PnL)(σ : St)(st:Stmt)(t:TS):Prop where
 run:∀(s:Shared) (H:Hp) (D:vH),Inv X pins σ H s->t D σ H->↑X (exec st X.env) (SP X pins D) X.xe s
end
section
variable {te ta:TE}{t tr:TA}{k:Nat}{sp:Sp}
theorem zkN{i:Nat}(hN:X.N.Nodup)(hi:X.N[i]?=some x)(hx:Loc X.env.scope x)(he:PE1 X pins σ e te)(hs:swapsWith e (some (.Name x pos')) pos.line X.env=pure false:=by rfl)
  (hf:X.fn x=true\/X.env.scope.names.lookup x=some .local:=by first|exact .inl rfl|exact .inr rfl|assumption):PS1 X pins σ (.Assign [.Name x pos'] e pos) (zii te (zK i)):=by
 exists fun s H D I h=>?_;refine wpAny_Assign_Name (thn (he.run s H _ I h) fun v s1 ⟨y,H1,I1,r1,q1⟩=>?_) hs;exact vO I1 hN hi hx r1 (fun s2 I2=>⟨_,H1,I2,q1⟩) hf
abbrev Cx.suite(X:Cx)(ea:Addr):Cx:={ X with A:=X.A.mark (~~~ea),calm:=false,xe:=fun _ _=>False }
theorem Inv.suite(I:Inv X pins σ H s)(ea:Addr):Inv (X.suite ea) pins σ H s:=
 ⟨⟨I.ok.mod,I.ok.kind,I.ok.glob,I.ok.blt,I.ok.above,I.ok.inj,I.ok.has,I.ok.cab,(fun z=>Bool.noConfusion z),I.ok.frames,I.ok.stk,I.ok.exf,I.ok.bs,I.ok.bsz,I.ok.noex,I.ok.exfs,I.ok.funs,I.ok.frf⟩,I.os,I.bare,I.base,I.loc,I.cell,I.free,I.freeC,I.pin,I.hok,I.len⟩
theorem wY(hok:X.Ok)(I:Inv (X.suite ea) pins σ H s):Inv X pins σ H s:=
 ⟨hok,I.os,I.bare,I.base,I.loc,I.cell,I.free,I.freeC,I.pin,I.hok,I.len⟩
def zj6(D:vH)(i:Nat):vH:={ nx:=fun σ H=>D.nx (σ.set i none) H,rt:=D.rt,bk:=fun σ H=>D.bk (σ.set i none) H,ct:=fun σ H=>D.ct (σ.set i none) H }
abbrev zlF(X:Cx)(pins:PnL)(D:vH)(hs:List ExceptHandler):Value->Shared->Prop:=fun e s₁=>
 ↑X (noteFrame e X.env) (fun _ s₂=>↑X (setFlight e none) (fun _ s₃=>↑X (handleBy e X.env hs) (SP X pins D) X.xe s₃) X.xe s₂) X.xe s₁
variable {i:Nat}{tb:XK->TS}{ts:TS}{ok:Value->Prop}
end
end L2
namespace L2
open PySem PySem.W PySem.Builtin PySem.Builtin.ObjectAttr PySem.Builtin.Getset_descriptor PySem.Spec PyProof.Rows
structure xF(K:Frag)(D:Addr):Prop where
 cd:(clsIn K D).isSome=true
 ga:findIn K (.ref D) "__getattribute__"=some (some (.builtin "BaseException.__getattribute__"))
 no:findIn K (.ref D) "__getattr__"=some none
 cl:findIn K (.ref D) "__class__"=some (some (.builtin "object.__class__"))
 gt:specialIn K (.builtin "object.__class__") "__get__"=some (some (.builtin "getset_descriptor.__get__"))
 tk:takesIn K (.builtin "object.__class__")=some true
 be:mroIn K D (.type "BaseException")=some true
 ob:mroIn K D (.type "object")=some true
section
variable {E:VSP}
theorem zaX.ty(e:zaX x (.ref D) h):Looks M h (typeOf (.ref x)) (.ref D):=by
 obtain⟨oe,vs,h1,h2,h3⟩:=e;exact h2 ▸ (Looks.ld h1).andThen .now
theorem zjC{prog:Program}{w:World}{A:Around}{s:Shared}{K:Frag}{x D:Addr}{R:Result->Shared->Prop}{tp:Value}(c:xF K D)(X:K.In s.heap)(e:zaX x (.ref D) s.heap)(h:R (.ok (.ret (.ref D))) s):
  codeAny (model prog w) A (.call (.builtin "getset_descriptor.__get__") ⟨[.builtin "object.__class__",.ref x,tp],[]⟩) R s:=by
 obtain⟨hh,g,dr,t,os⟩:=s;have LT:=e.ty (M:=model prog w);have LM:=looks_mroIn (M:=model prog w) X c.ob;refine codeAny_call_builtin KF.slot_gs.plain KF.entry_gs ?_;refine KF.slot_gs.check _ _ _ _ _ _ _ _ KF.type_class (KF.args_gs _ _ _) ?_;unfold Builtin.«getset_descriptor.__get__»;unfold descrGet;rw[dga_obj (.builtin "object.__class__") tp x];refine zwb (zwp ?_);unfold descrGetter;unfold descrCheckInstance descrNameAndClass;unfold isInstance;simp only[KF.owner_class]
 repeat lk
 exists Code.quiet_builtin _ (by decide +kernel),?_
 refine codeAny_builtin KF.entry_class ?_;unfold Builtin.«object.__class__»;unfold shownTypeOf
 repeat lk
 exact h
theorem zfq{prog:Program}{w:World}{A:Around}{s:Shared}{K:Frag}{x D:Addr}{Q:Option Value->Shared->Prop}(c:xF K D)(X:K.In s.heap)(e:zaX x (.ref D) s.heap)(h:Q (~~~D) { s with toks:=s.toks+1 }):wpAny (model prog w) A (getAttr? (.ref x) "__class__") Q E s:=by
 obtain⟨hh,g,dr,t,os⟩:=s;have LT:=e.ty (M:=model prog w);have LG:=looks_findIn (M:=model prog w) X c.ga;have LN:=looks_findIn (M:=model prog w) X c.no;have LC:=looks_findIn (M:=model prog w) X c.cl;have LB:=looks_mroIn (M:=model prog w) X c.be;have L2:=looks_specialIn (M:=model prog w) X c.gt;have L3:=looks_takesIn (M:=model prog w) X c.tk;unfold getAttr?;unfold getAttrBy? getAttrBy;refine zwb (wpAny_mkText (zwb (wpAny_attempt ?_)));refine wpAny_holding (zwb (LT.at (zwb (LG.at ?_))));have hne:(onTheHeap (Value.ref D)&&Value.builtin "BaseException.__getattribute__"==Value.builtin "object.__getattribute__")=false:=by
  rw[show(Value.builtin "BaseException.__getattribute__"==Value.builtin "object.__getattribute__")=false from by decide +kernel,Bool.and_false]
 dsimp only;rw[hne];rw[aJ zft];unfold getAttrByItsOwn hookBefore;rw[aK (show onTheHeap (Value.ref D)=true from rfl)];refine zwb (LN.at (zwb (wpAny_attempt (wpAny_holding ?_))));unfold callGetattribute boundAndCalled;rw[aJ (by simp)]
 have fb:=PySem.F.attrBase_ValueError.ga;rw[fb.bind (.ref x)];refine zwb (zwp ?_);refine wpAny_call (codeAny_call_builtin fb.plain F.entry_bexc_ga ?_);have ck:∀(Q':Unit->Shared->Prop) (E':VSP) (A':Around),Q' () ⟨hh,g,dr,t+1,os⟩->wpAny (model prog w) A' (checkBuiltinCall "BaseException.__getattribute__" ⟨[.ref x,.str "__class__" t],[]⟩) Q' E' ⟨hh,g,dr,t+1,os⟩:=by
  intro Q' E' A' q';have k1:builtinKind "BaseException.__getattribute__"=some .slot:=by decide +kernel
  have k2:splitId "BaseException.__getattribute__"=some ("BaseException","__getattribute__"):=by decide +kernel
  have k3:=F.args_bexc_ga (.ref x) (.str "__class__" t);simp only[checkBuiltinCall,k1,k2];refine zwb ?_;unfold isInstance
  repeat (first|lk|wp_step)
  exact q'
 refine ck _ _ _ ?_;unfold Builtin.«object.__getattribute__»;unfold find getOf dataDescriptor?
 repeat (first|lk|wp_step)
 refine wpAny_run (zjC (s:=⟨hh,g,dr,t+1,os⟩) c X e ?_);refine zwp (zwp ?_);show wpAny _ _ (handedOut (Value.ref D)) _ _ _;rw[handedOut_of (show handedIn (Value.ref D)=true from rfl)];exact zwp (zwp h)
theorem zhF{K:Frag}{x D:Addr}(c:xF K D):KitX K (.ref x) (.ref D) (zaX x (.ref D)) where
 ty:=fun _ _ _ e=>e.ty
 it:=fun _ _ X _=>by
  obtain⟨cd,hc⟩:=Option.isSome_iff_exists.mp c.cd;unfold clsIn at hc;split at hc
  ·rename_i c' d' cd' sl' ho
   intro A' Q' E' s' k q;unfold isType;unfold loadHead;exact zwb (wpAny_loadPart (k _ _ (X _ _ ho)) (zwp q))
  ·cases hc
 ne:=fun h tp dd its n sl X htp=>by
  obtain⟨cd,hc⟩:=Option.isSome_iff_exists.mp c.cd;refine Bool.eq_false_iff.mpr fun q=>?_;have z:D=tp:=Value.ref.inj (beq_iff_eq.mp q);subst z;unfold clsIn at hc;split at hc
  ·rename_i c' d' cd' sl' ho
   have w:=(X _ _ ho).symm.trans htp;cases w
  ·cases hc
 ca:=fun X e k=>zfq c X e k
end
end L2
namespace L2
open PySem PySem.Spec PyProof.Rows
section
variable {mg:Str->Option Value}
variable {k:Nat}{sp:Sp}{t:TA}
end
section
variable {w:World}{E:VSP}{n:Int}
variable {o i:Expr}{to ti:TE}
inductive zm3J(x:V)(y:V)(H:Hp)(Q:VK):Prop|mk(a c:Addr)(xs ys:List V):x=.ref a->y=.ref c->H a=some (.lst xs)->H c=some (.lst ys)->xs.length≠ys.length->(Q (.bl false) H)->zm3J x y H Q
def zm3:R2:=fun x y H Q=>zm3J x y H Q
theorem zb6(hu:X.A.units<cLine):OpR X (compareOp .Eq) zm3:=by
 intro pins s σ H x y v u Q I rx ry h;obtain⟨a,c,xs,ys,rfl,rfl,ha,hc,hn,q⟩:=h;cases rx;cases ry;obtain⟨its,r,pl,_⟩:=I.list (zh ha);obtain⟨its2,r2,pl2,_⟩:=I.list (zh hc);have e1:=r.length;have e2:=r2.length;exact PySem.SeqAt.eq_list_lengthsAt pl.isList pl2.isList (by simp only[size_toArray,bne_iff_ne];omega) hu ⟨.bl false,H,I,rfl,q⟩
variable {te:TE}{C:Addr}{x:Str}
theorem wk{H H1:Hp}{x dx:Addr}{o1 o2:HO}(hx:H x=none)(hd:H dx=none)(s:zq (upd (upd H dx (.own x)) x o1) H1):zq H (upd H1 x o2):=fun b u q=>by
 rw[zj (zi q hx)];exact s _ _ (yH hx hd b u q)
structure jq(P:Program)(w:World)(K:Frag)(mg:Str->Option Value)(base:Heap)(CX:CXT)(k:Nat)(x:Str)(C i:Addr)(fd:FuncData)(ps:List Str)(ds:List Value)(sp:Sp):Prop where
 mkr:Mk K C i
 ok:zD P w K mg base CX k i fd ps sp
 mg:mg x=some (.ref C)
 bd:zU K fd ps ds
end
section
variable {CX:CXT}{k:Nat}{C i f:Addr}{sp:Sp}{E:XK}{x m:Str}{es:List Expr}{t tk:TA}{g:List Value->List Value->List Value}{gV:List V->List V->List V}
theorem cMk(c:jq X.prog X.w X.K X.mg X.base CX k x C i fd ps ds sp)(hd:yb dvs ds)(hp:xW CX X E)(hr:yl (k+1) X.A)(ha:PA X (e::es) t)(hg:Gl X x:=by rfl)(hdb:(x==("__debug__" : Str))=false:=by decide)
  (h1:uE e=false:=by rfl) (h2:es.any uE=false:=by rfl):PE X (.Call (.Name x p) (e::es) [] pos) (zjP C sp dvs E t):=zec c.mkr c.ok hr hg c.mg c.bd hd hp ha hdb (xG h1) (wK h2)
structure zah(K:Frag)(C:Addr)(m:Str)(f:Addr):Prop where
 ga:specialIn K (.ref C) "__getattribute__"=some (some (.builtin "type.__getattribute__"))
 rd:PySem.W.readsIn K C (.type "type")=true
 fc:PySem.W.findCls K (.ref C) (.type "type") m=some (.val (.ref f))
 kp:keepIn K (.ref f)=true
theorem zb2(B:zah X.K C m f)(hm:X.mg x= ~~~C)(F:zD X.prog X.w X.K X.mg X.base CX k f fd ps sp)(hr:yl k X.A)(hb:zU X.K fd ps [])(hx:xW CX X E)(ha:PA X (e::es) t)(hg:Gl X x:=by rfl)
  (hdb:(x==("__debug__" : Str))=false:=by decide) (h1:uE e=false:=by rfl) (h2:es.any uE=false:=by rfl)
  (ht:eval (.Call (.Attribute (.Name x p) m apos) (e::es) [] pos) X.env=(do
   let ov <- eval (.Name x p) X.env
   standAt apos.atName
   let (f,first) <- holding [ov] (getMethod ov m pl)
   callWith pos f first (backTo pos (starEach (e::es) X.env)) (backToKw pos (keywordEach [] X.env))):=by rfl) :
  PE X (.Call (.Attribute (.Name x p) m apos) (e::es) [] pos) (zdL sp [] E t):=by
 and_intros;refine methodCall_KW (pl:=pl) (vE I hg hm ?_ hdb) ht;refine PySem.W.method_cls I.kIn B.ga (PySem.W.cls_value I.kIn B.rd B.fc rfl ?_);have It:=I.tok (s.toks+1);refine callWith_K (first:=[]) (h₀:=X.base) I.ok.mod.kin B.kp (thn (ha pos pins _ σ H _ It h) fun us s2 ⟨vs,H2,I2,r,q2⟩=>⟨I2.kIn,?_⟩) (xG h1) (wK h2)
 exact qB F hr hb .nil hx I2 r q2
theorem uq{X:Cx}{st:Stmt}:PS X st (fun _ _ _=>False):=⟨fun _ _ _ _ _ _ h=>h.elim⟩
def znv(P:Program)(w:World)(a:Addr)(S:Str->Bool)(n:Nat)(h:Heap):Prop:=h.SetOf (strKind P w) a S n
abbrev wM(P:Program)(w:World)(a:Addr)(S:Str->Bool)(n:Nat):HO:=.ext (znv P w a S n)
theorem j8{S:Str->Bool}{n:Nat}(e:h.SetOf (strKind P w) a S n):yR P w H h a (wM P w a S n):=
 ⟨e,let ⟨o,_,_,_,h1,_⟩:=e;⟨o,h1⟩,fun g1 g2 q k=>let ⟨o,es,ep,t,h1,c⟩:=q;⟨o,es,ep,t,k o h1,c⟩⟩
theorem zfA:xQ X (.type "set") (fun xs H Q=>xs=[]/\∀p,H p=none->Q (.ref p) (upd H p (wM X.prog X.w p (fun _=>false) 0))):=by
 intro pins s σ H xs us Q I r h;obtain⟨rfl,q⟩:=h;cases r;refine call_set_0 fun led=>?_;have hf:H s.heap.objs.size=none:=I.hok.fresh (le_refl _);exists .ref s.heap.objs.size,_,I.laid (t':=s.toks) (fun b u e=>zgp _ e) (le_refl _) (j8 ?_),rfl,q _ hf;exact(setObjOf_fresh led).setOf (zgs _ rfl) ⋯
theorem qG:OpR X (compareOp .In) (fun x y H Q=>∃(a:Addr) (S:Str->Bool) (n:Nat) (z:Str),x=.str z/\y=.ref a/\H a=some (wM X.prog X.w a S n)/\Q (.bl (S z)) H):=by
 intro pins s σ H x y v u Q I rx ry h;obtain⟨a,S,n,z,rfl,rfl,e,q⟩:=h;obtain⟨t,rfl⟩:=rx;cases ry;have hS:s.heap.SetOf (strKind X.prog X.w) a S n:=(I.hok a _ e).1;exact wpAny_inSet_of (strKind_is X.prog X.w z t) rfl hS ⟨.bl (S z),H,I.tok _,rfl,q⟩
inductive zlIJ(P:Program)(w:World)(te:TE)(σ:St)(Q:VK)(x:V)(H1:Hp):Prop|mk(a:Addr)(S:Str->Bool)(n:Nat):x=.ref a->H1 a=some (wM P w a S n)->(te σ H1 fun y H2=>∃(S:Str->Bool) (n:Nat) (z:Str),y=.str z/\H2 a=some (wM P w a S n)/\n+1<scanBound/\Q .non (upd H2 a (wM P w a (fun k=>S k||decide (k=z)) (if S z then n else n+1))))->zlIJ P w te σ Q x H1
def zlI(P:Program)(w:World)(to te:TE):TE:=fun σ H Q=>to σ H fun x H1=>zlIJ P w te σ Q x H1
theorem ziL{to te:TE}(ho:PE X o to)(he:PE X e te)(m:M1 X o "add" apos e cpos):PE X (.Call (.Attribute o "add" apos) [e] [] cpos) (zlI X.prog X.w to te):=by
 and_intros;refine wpAny_Call_method m.base m.few m.line PySem.F.plainAttrs_set PySem.F.slot_set_add PySem.F.type_set_add (thn (ho pins s σ H _ I h) fun u s1 ⟨x,H1,I1,rx,a,S,n,ex,d,q1⟩=>?_);subst ex;obtain rfl:u=Value.ref a:=rx;have hS:s1.heap.SetOf (strKind X.prog X.w) a S n:=(I1.hok a _ d).1;exists hS.typeIs,hS.noDict,?_;rw[m.trees];refine Calls.callWith_builtin rfl (Calls.evalArgs_plain (Calls.spliced_cons (thn (he pins s1 σ H1 _ I1 q1) fun iv s2 ⟨y,H2,I2,ry,S2,n2,z,ey,e2,hn,q2⟩=>Calls.spliced_nil ?_)));subst ey;obtain⟨t,rfl⟩:=ry;have hS2:s2.heap.SetOf (strKind X.prog X.w) a S2 n2:=(I2.hok a _ e2).1;refine call_set_add (strKind_is X.prog X.w z t) rfl hS2 hn fun h' hs hS3=>⟨.non,_,?_,rfl,q2⟩;refine I2.write (x:=a) (e:=a) (by rw[e2];exact True.intro) (.inl rfl) (fun b q hb z=>(hs.2 b hb).trans z) (let ⟨o,_,_,_,h1,_⟩:=hS3;⟨o,h1⟩) (j8 hS3)
inductive zkhJ(Cs:Addr->Prop)(m:Str)(sp:Sp)(E:XK)(Q:VK)(x:V)(H1:Hp):Prop|mk(a C dx fs:_):x=.ref a->Cs C->H1 a=some (.ins C dx fs)->fs.lookup m=none->(sp [x] H1 Q E)->zkhJ Cs m sp E Q x H1
def zkh(Cs:Addr->Prop)(m:Str)(sp:Sp)(E:XK)(ta:TE):TE:=fun σ H Q=>ta σ H fun x H1=>zkhJ Cs m sp E Q x H1
theorem xO{CX:CXT}{k:Nat}{sp:Sp}{ta:TE}{Cs:Addr->Prop}(he:PE X o ta)(hC:∀C,Cs C->Cls X.K C/\yW X.K C m f)(F:zD X.prog X.w X.K X.mg X.base CX k f fd ps sp)(hr:yl k X.A)(hb:zU X.K fd ps [])(hx:xW CX X E)
  (ht:eval (.Call (.Attribute o m apos) [] [] pos) X.env=(do
   let ov <- eval o X.env
   standAt apos.atName
   let (f,first) <- holding [ov] (getMethod ov m pl)
   callWith pos f first (backTo pos (starEach [] X.env)) (backToKw pos (keywordEach [] X.env))):=by rfl) :
  PE X (.Call (.Attribute o m apos) [] [] pos) (zkh Cs m sp E ta):=by
 and_intros;refine methodCall_KW (pl:=pl) (thn (he pins s σ H _ I h) fun u s1 ⟨x,H1,I1,rx,a,C,dx,fs,ex,hc,ea,l,q⟩=>?_) ht;subst ex;obtain rfl:u=Value.ref a:=rx;obtain⟨c,hm⟩:=hC C hc;refine vG I1 ea c hm l ?_;exact PySem.W.callWith_K0 (first:=[.ref a]) I1.kIn hm.kp (qB (us:=[.ref a]) (vs:=[.ref a]) F hr hb .nil hx I1 (.cons rfl .nil) q)
structure zlA(w:World)(K:Frag)(a:Addr)(f:Str->Option V):Prop where
 obj:∃es n,K.lookup a=some ⟨.type "dict",none,.dict es n,#[]⟩/\KeysLit w.params es.toList
 vals:∀x v,f x=some v->∃u,nsIn K a x=some (some u)/\yf v u
theorem ziM{f:Str->Option V}{te:TE}(T:zlA X.w X.K a f)(hm:X.mg d= ~~~a)(he:PE X e te)(hg:Gl X d:=by rfl)(hs:zlz e:=by first|exact fun _ _=>rfl|decide|rfl)(hdb:(d==("__debug__" : Str))=false:=by decide):
  PE X (.Subscript (.Name d p) e pos) (fun σ H Q=>te σ H fun y H1=>∃x v,y=.str x/\f x=some v/\Q v H1):=by
 and_intros;obtain⟨es,n,hl,hk⟩:=T.obj;refine zdM PySem.F.slot_dict_getitem.lookup hs (vE I hg hm (thn (he pins s σ H _ I h) fun iv s2 ⟨y,H2,I2,ry,x,v,ey,ef,q2⟩=>?_) hdb);subst ey;obtain⟨t,rfl⟩:=ry;obtain⟨u,eu,ru⟩:=T.vals x v ef;have hmap:=PySem.W.mapOf_K (prog:=X.prog) (w:=X.w) I2.kIn hl hk;exact⟨hmap.typeIs,wpAny_getItem_of (strKind_is X.prog X.w x t) hmap (PySem.W.find_K hl eu) ⟨v,H2,I2.tok _,ru,q2⟩⟩
theorem zcr{m:Str->Option Value}{t':Nat}(I:Inv X pins σ H s)(B:y6 X.env sc fr)(hf:∀b∈fp,vt X pins H b)(ho:∀b∈fp,∃o,s.heap.get? b=some o)
  (hC:s.heap.objs.size<=C) (hD:s.heap.objs.size<=D) (hDC:D≠C) (keep:∀b o,s.heap.get? b=some o->h'.get? b=some o) (new:yR X.prog X.w (upd H D o0) h' D o0) (hn:h'.Ns C m)
  (hcap:w9 X.N Nc caps X.env sc fr=true) (hlen:caps.length=Nc.length) :
  Inv (zQ X pins sc fr Nc fp s H C) [] (xo caps σ) (upd H D o0) { s with heap:=h',toks:=t' }:=by
 have hk:X.env.scope.kind=.function:=I.ok.kind;have fresh:∀a,s.heap.objs.size<=a->H a=none:=fun a ha=>I.hok.fresh ha;exists zeG I B hf ho hC,rfl,I.bare,Un.laid keep hD (fresh D hD),⟨m,hn,fun i x v e1 e2 e3=>?_⟩,fun x c h=>?_,?_,fun x c h=>?_,fun p hp=>?_,?_,?_
 ·
  have e2':(caps[i]?).map (fun o=>match o with|none=>none|some j=>(σ[j]?).join)=some (some v):=by
   have:(xo caps σ)[i]?=some (some v):=e2
   unfold xo at this;rw[getElem?_map] at this;exact this
  cases hc:caps[i]? with
  | none=>rw[hc] at e2';cases e2'
  | some o=>
   rw[hc] at e2';cases o with
   | none=>simp at e2'
   | some j=>
    have e4:(σ[j]?).join=some v:=by simpa using e2'
    have e5 : σ[j]?=some (some v):=by
     cases q : σ[j]? with
     | none=>rw[q] at e4;cases e4
     | some w'=>rw[q] at e4;simp at e4;rw[e4]
    have e6:(Nc.zip caps)[i]?=some (x,some j):=by
     rw[List.getElem?_zip_eq_some];exact⟨e1,hc⟩
    have e7:=List.all_eq_true.mp hcap _ (aH e6);simp only[Bool.and_eq_true,beq_iff_eq,List.contains_iff_mem] at e7;obtain⟨⟨⟨a1,a2⟩,a3⟩,a4⟩:=e7;obtain⟨m0,hn0,hl0⟩:=I.loc;obtain⟨u,r,l⟩:=hl0 j x v a1 e5 (.inr (.inl a2));exists u,r,.inr ⟨.inl (vy hk a3 a2),_,zbz a4,?_⟩;rcases l with ⟨z,_⟩|⟨_,c,ec,hcell⟩
    ·rw[a2] at z;cases z
    ·have:(X.env.cells.lookup x).getD 0=c:=by rw[ec];rfl
     rw[this];exact hcell.keeps keep
 ·obtain⟨v,hv⟩:=I.cell x c (B.sub h)
  exact⟨v,hv.keeps keep⟩
 ·show upd H D o0 C=none
  rw[zj (Ne.symm hDC)];exact fresh C hC
 ·obtain⟨v,hv⟩:=I.cell x c (B.sub h)
  have:c≠D:=fun z=>by have:=hv.lt;rw[z] at this;exact absurd (lt_of_lt_of_le this hD) (lt_irrefl _)
  rw[zj this];exact I.freeC x c (B.sub h)
 ·have hp':p∈X.pn++pins:=by simpa using hp
  obtain⟨e,n,ne,nf,d⟩:=I.pin p hp';have hlt:=I.pin_lt hp';exists keep _ _ e,?_,?_,fun z=>?_,d
  ·rw[zj (fun z=>by rw[z] at hlt;exact absurd (lt_of_lt_of_le hlt hD) (lt_irrefl _))];exact n
  ·intro z
   have z':p.1=C:=z;rw[z'] at hlt;exact absurd (lt_of_lt_of_le hlt hC) (lt_irrefl _)
  ·rcases List.mem_cons.mp (I.stkSub p.1 z) with q|q
   ·exact ne q
   ·exact nf q
 ·exact I.hok.laid keep hD new
 ·show(xo caps σ).length=Nc.length
  unfold xo;rw[aA,hlen]
variable {R:Result->Shared->Prop}
theorem zal(I:Nat->Shared->Prop)
  (turn:∀n s,I n s->wpAny (model prog w) A (pyNext it) (fun r s₁=>match r with
   | none=>R (.ok .next) s₁
   | some v=>wpAny (model prog w) A (letOwnedTupleGo target it v) (fun _ s₀=>wpAny (model prog w) A (assign target env v) (fun _ s₂=>
     wpAny (model prog w) A (forIn ifs true fun c r=>if r=true then do let ok <- isTrue c env (eval c env);pure (ForInStep.yield ok) else pure (ForInStep.yield r)) (fun ok s₃=>
      if ok=true then wpAny (model prog w) A (eval kx env) (fun kv s₄=>wpAny (model prog w) A (eval vx env) (fun vv s₅=>
       wpAny (model prog w) A (dictSet D kv vv) (fun _ s₆=>∃m,m<n/\I m s₆) (fun _ _=>False) s₅) (fun _ _=>False) s₄) (fun _ _=>False) s₃
      else ∃m,m<n/\I m s₃) (fun _ _=>False) s₂) (fun _ _=>False) s₀) (fun _ _=>False) s₁) (fun _ _=>False) s)
  (n:Nat) (h:I n s) :
  codeAny (model prog w) A (.compLoop (.DictComp kx vx [⟨target,iter,ifs,0⟩] scope pos) 0 it (.ref D) env) R s:=by
 refine codeAny_loop rfl I (fun n s hI=>?_) n h;show wpAny _ A ((compTurn (.DictComp kx vx [⟨target,iter,ifs,0⟩] scope pos) 0 it (.ref D) env).onRaise (fun x=>do noteFrame x env;theTreesLotGoes x)) _ _ s
 refine wpAny_noted ?_;rw[compTurn_dict];refine zwb (wpAny_standAt (zwb (wpAny_mono (turn n s hI) (fun r s₁ h₁=>?_) fun _ _ z=>z.elim)));cases r with
 | none=>exact zwp h₁
 | some v=>
  refine zwb (wpAny_mono h₁ (fun _ s₀ h₀=>?_) fun _ _ z=>z.elim);refine zwb (wpAny_mono h₀ (fun _ s₂ h₂=>zwb (wpAny_mono h₂ (fun ok s₃ h₃=>?_) fun _ _ z=>z.elim)) fun _ _ z=>z.elim);cases ok with
  | false=>exact zwp ⟨rfl,h₃⟩
  | true=>
   exact zwb (zwb (wpAny_mono h₃ (fun kv s₄ h₄=>zwb (wpAny_holding (wpAny_mono h₄ (fun vv s₅ h₅=>zwb (wpAny_standAt (wpAny_holding (wpAny_mono h₅ (fun _ s₆ h₆=>zwp ⟨rfl,h₆⟩) fun _ _ z=>z.elim)))) fun _ _ z=>z.elim))) fun _ _ z=>z.elim))
def DCr(J:It)(caps:List (Option Nat))(g:TG)(tt:TT)(tk tv:TE)(σ : St)(H1:Hp)(Q:VK)(D:Addr):Prop:=
 ∃W:Nat->Nat->List (Key×V)->Hp->Prop,(∃m,W 0 m [] (upd H1 D (.dK [])))/\∀i m ys H,W i m ys H->
  (J.stop i H/\Q (.ref D) H)\/
  (J.go i H/\∀x H',J.yld i H x H'->g x (xo caps σ) H' fun σ2 H2=>tt σ2 H2 fun ok H3=>
   (ok=true->tk σ2 H3 fun y H4=>tv σ2 H4 fun v H5=>∃k,y=kV k/\H5 D=some (.dK ys)/\ys.length<sizeLine/\∃m',m'<m/\W (i+1) m' (xB ys k v) (upd H5 D (.dK (xB ys k v))))/\
   (ok=false->∃m',m'<m/\W (i+1) m' ys H3))
def tDC(wi:TI)(caps:List (Option Nat))(g:TG)(tt:TT)(tk tv:TE):TE:=fun σ H Q=>wi σ H fun J H1=>∀D,H1 D=none->DCr J caps g tt tk tv σ H1 Q D
end
section
variable {g:TG}{tt:TT}{tk tv:TE}{E:VSP}
theorem zlQ(I:Inv X pins σ H s):sysModules<s.heap.objs.size:=I.big
theorem zfx{tn:Nat->Heap->Prop}{J:It}{Q:VK}{RR:Value->Addr->Result->Shared->Prop}
  (hc:X.calm=true) (B:y6 X.env sc fr) (go:zaf g ow) (how:(ow.all fun i=>caps[i]?==some none)=true) (hcap:w9 X.N Nc caps X.env sc fr=true) (hlen:caps.length=Nc.length)
  (hb:∀(pins:PnL) fp s H C,PG (zQ X pins sc fr Nc fp s H C) tg g/\PIf (zQ X pins sc fr Nc fp s H C) ifs tt/\PE (zQ X pins sc fr Nc fp s H C) kx tk/\PE (zQ X pins sc fr Nc fp s H C) vx tv)
  (I2:Inv X pins σ H2 s) (T:zbD X.prog X.w X.K tg J fp it tn) (st2:tn 0 s.heap) (f2:∀b∈fp,vt X pins H2 b) (h:∀D,H2 D=none->DCr J caps g tt tk tv σ H2 Q D)
  (fin:∀D C (σ':St) H' s',Inv (zQ X pins sc fr Nc fp s H2 C) [] σ' H' s'->Q (.ref D) H'->RR (.ref D) C (.ok .next) s') :
  ↑X newDict (fun acc s₃=>↑X (newFunctionEnv sc X.env.globals (clB X.env fr) [] X.env.qual none .none (some X.env)) (fun cenv s₄=>
   codeAny (model X.prog X.w) X.A (.compStart (.DictComp kx vx [⟨tg,iter,ifs,0⟩] sc pos) 0 (.ref it) acc { cenv with scope:=relabel sc X.env }) (RR acc cenv.locals) s₄) E s₃) E s:=by
 have hcell:∀y∈sc.names,y.2≠.cell:=fun y hy=>by
  have h3:=List.all_eq_true.mp B.names _ hy;simp only[Bool.and_eq_true,bne_iff_ne,ne_eq] at h3;exact h3.1.1
 refine wpAny_newObj_type (wpAny_newFunctionEnv hcell (by intro y hy;simp at hy) (fun h₁ hns₁ hsb₁=>?_) B.kind)
 dsimp only at hns₁ hsb₁ |-;have hnew:(s.heap.push { cls:=.type "dict",dict:=none,data:=.dict #[] }).DictOf (yD X.prog X.w) s.heap.objs.size []:=Heap.DictOf.new s.heap;generalize hH2:s.heap.push { cls:=.type "dict",dict:=none,data:=.dict #[] }=H3 at hns₁ hsb₁ hnew |-;have hCs:H3.objs.size=s.heap.objs.size+1:=by rw[<- hH2,Heap.size_push]
 have hDC:s.heap.objs.size≠H3.objs.size:=by rw[hCs];exact ne_of_lt (lt_succ_self _)
 have hC:s.heap.objs.size<=H3.objs.size:=by rw[hCs];exact le_succ _
 have old:∀b o,s.heap.get? b=some o->h₁.get? b=some o:=fun b o e=>
  hsb₁.extBut b o (ne_of_lt (lt_of_lt_of_le (aI e) hC)) (zgp _ (hH2 ▸ zgp _ e))
 have hsm:sysModules<s.heap.objs.size:=zlQ I2;have hD:h₁.DictOf (yD X.prog X.w) s.heap.objs.size []:=hnew.at fun o e=>hsb₁.extBut _ _ hDC (zgp _ e);have hDo:∀H',yR X.prog X.w H' h₁ s.heap.objs.size (.dK []):=fun _=>⟨zero_le _,beq_eq_false_iff_ne.mpr (Ne.symm (ne_of_lt hsm)),[],.nil,hD⟩;have ho:∀b∈fp,∃o,s.heap.get? b=some o:=fun b hb'=>let ⟨o,e,_⟩:=T.obj 0 _ st2 b hb';⟨o,e⟩;have I4:∀t',Inv (zQ X pins sc fr Nc fp s H2 H3.objs.size) [] (xo caps σ) (upd H2 s.heap.objs.size (.dK [])) { s with heap:=h₁,toks:=t' }:=fun t'=>
  zcr I2 B f2 ho hC (le_refl _) hDC old (hDo _) hns₁ hcap hlen
 have ok:=(I4 0).ok;obtain⟨hbg,hbt,hbk,hbv⟩:=hb pins fp s H2 H3.objs.size;obtain⟨W,⟨m0,w0⟩,turn⟩:=h s.heap.objs.size (I2.hok.fresh (le_refl _));have stat:∀{H':Hp},(∀b∈fp,H' b=none)->∀b∈fp,vt (zQ X pins sc fr Nc fp s H2 H3.objs.size) [] H' b:=fun hn b hb'=>
  ⟨hn b hb',(ok.exf b hb').1,ok.exfs b hb',.inl hb',(ok.exf b hb').2,fun p hp=>(f2 b hb').2.2.2.2.2 p (by simpa using hp)⟩
 have hfp0:∀b∈fp,upd H2 s.heap.objs.size (.dK []) b=none:=fun b hb'=>by
  obtain⟨o,e⟩:=ho b hb';rw[zj (ne_of_lt (aI e))];exact(f2 b hb').1
 have loop:∀s₃:Shared,s₃={ s with heap:=h₁,toks:=s.toks+([]:List (Str×Value)).length }->
   codeAny (model X.prog X.w) X.A (.compLoop (.DictComp kx vx [⟨tg,iter,ifs,0⟩] sc pos) 0 (.ref it) (.ref s.heap.objs.size) (compEnvC sc (clB X.env fr) H3.objs.size X.env)) (RR (.ref s.heap.objs.size) H3.objs.size) s₃:=by
  rintro s₃ rfl;refine zal (fun n s'=>∃i σ' H' ys,Inv (zQ X pins sc fr Nc fp s H2 H3.objs.size) [] σ' H' s'/\tn i s'.heap/\(∀b∈fp,H' b=none)/\W i n ys H'/\
   (∀(k:Nat) v,(xo caps σ)[k]?=some (some v)->σ'[k]?=some (some v))) ?_ m0
   ⟨0,_,_,[],I4 _,T.keep _ _ _ st2 (fun b _ o e=>old b o e),hfp0,w0,fun _ _ e=>e⟩
  rintro n s3 ⟨i,σ3,H4,ys,I3,st3,fr3,w3,wk3⟩;have I3':Inv (zQ X pins sc fr Nc fp s H2 H3.objs.size) [] (xo caps σ) H4 s3:=I3.weak (by rw[I3.len];exact(I4 0).len) wk3
  rcases turn i n ys H4 w3 with ⟨stop,qn⟩|⟨gg,step⟩
  ·refine thn (T.done (zQ X pins sc fr Nc fp s H2 H3.objs.size) rfl rfl rfl hc i [] s3 _ H4 (fun _ _=>False) I3' (stat fr3) st3 stop) fun r s4 ⟨hr,I4'⟩=>?_
   subst hr;exact fin _ _ _ _ _ I4' qn
  ·refine thn (T.item (zQ X pins sc fr Nc fp s H2 H3.objs.size) rfl rfl rfl hc i [] s3 _ H4 (fun _ _=>False) I3' (stat fr3) st3 gg) fun r s4 ⟨u,hr,h4⟩=>?_
   subst hr;refine thn h4 fun _ s5 ⟨x,H5,I5,r5,y5,st5,fr5⟩=>?_;have I5':=I5.pinned (stat fr5) (T.obj _ _ st5);refine thn (hbg _ s5 _ H5 x u _ I5' r5 (go _ _ _ _ (step x H5 y5))) fun _ s6 ⟨σ6,H6,I6,q6,l6,k6⟩=>?_;have wk6:∀(k:Nat) v,(xo caps σ)[k]?=some (some v)->σ6[k]?=some (some v):=fun k v e=>by
    rw[k6 k fun hk=>?_]
    ·exact e
    ·have h1:=List.all_eq_true.mp how k hk
     have h2:caps[k]?=some none:=by simpa using h1
     unfold xo at e;rw[getElem?_map,h2] at e;cases e
   refine thn (hbt _ s6 σ6 H6 _ I6 q6) fun ok s7 ⟨H7,I7,q7⟩=>?_;have again:∀{H8:Hp}{s8:Shared}{ys':List (Key×V)},Inv (zQ X pins sc fr Nc fp s H2 H3.objs.size) ([]++uS fp s5.heap) σ6 H8 s8->(∃m',m'<n/\W (i+1) m' ys' H8)->
     ∃m,m<n/\∃i σ' H' ys,Inv (zQ X pins sc fr Nc fp s H2 H3.objs.size) [] σ' H' s8/\tn i s8.heap/\(∀b∈fp,H' b=none)/\W i m ys H'/\(∀(k:Nat) v,(xo caps σ)[k]?=some (some v)->σ'[k]?=some (some v)):=fun {H8 s8 ys'} I8 ⟨m',hm,w8⟩=>by
    exists m',hm,i+1,σ6,H8,ys',I8.unpinned,T.keep _ _ _ st5 fun b hb' o e=>(I8.pin (b,o) (mem_append_right _ (mem_append_right _ (xD hb' e)))).1,fun b hb'=>?_,w8,wk6;obtain⟨o,e,d⟩:=T.obj _ _ st5 b hb';exact(I8.pin (b,o) (mem_append_right _ (mem_append_right _ (xD hb' e)))).2.1
   cases ok with
   | false=>
    rw[aJ zft];exact again I7 (q7.2 rfl)
   | true=>
    rw[aK rfl];refine thn (hbk _ s7 σ6 H7 _ I7 (q7.1 rfl)) fun uk s8 ⟨y,H8,I8,r8,q8⟩=>?_;refine thn (hbv _ s8 σ6 H8 _ I8 q8) fun uv s9 ⟨v,H9,I9,r9,k,ey,hD9,hz,q9⟩=>?_;subst ey;obtain⟨z,hd,vs,rel,dd⟩:=zj7 I9.hok hD9;have hzs:vs.length<=sizeLine:=by rw[<- rel.length];exact z
    have hl:(xB ys k v).length<=sizeLine:=by have:=ww ys k v;omega
    refine wpAny_dictSet_pairs (hsz:=hzs) (qS r8) dd fun h' dd' hs=>?_;have he:∃q,h'.get? s.heap.objs.size=some q:=let ⟨q,_,_,hq,_⟩:=dd';⟨q,hq⟩;exact again (zby I9 (by rw[hD9];exact True.intro) hs he (zh2 hl hd (rel.put k r9) dd')) q9
 exact codeAny_compStart_dict (loop _ rfl) (T.self _ 0 _ _ _ (T.keep _ _ _ st2 (fun b _ o e=>old b o e)) (loop _ rfl))
theorem zma{wi:TI}(fr Nc:List Str)(caps:List (Option Nat))(hc:X.calm=true)(B:y6 X.env sc fr)(hi:PI X tg iter wi)(go:zaf g ow)(how:(ow.all fun i=>caps[i]?==some none)=true)
  (hcap:w9 X.N Nc caps X.env sc fr=true) (hlen:caps.length=Nc.length)
  (hb:∀(pins:PnL) fp s H C,PG (zQ X pins sc fr Nc fp s H C) tg g/\PIf (zQ X pins sc fr Nc fp s H C) ifs tt/\PE (zQ X pins sc fr Nc fp s H C) kx tk/\PE (zQ X pins sc fr Nc fp s H C) vx tv)
  (hs:∀x,foldedSetIterable iter X.env x=pure x:=by intro _;rfl):PE X (.DictComp kx vx [⟨tg,iter,ifs,0⟩] sc pos) (tDC wi caps g tt tk tv):=by
 and_intros;rw[arm_eval_DictComp];refine wpAny_comprehension_free (use:=none) rfl hs B.clos B.kind B.loc (thn (hi pins s σ H _ I h) fun v s1 h1=>thn h1 fun itv s2 h2=>?_);obtain⟨it,fp,tn,J,H2,e,I2,T,st2,f2,q⟩:=h2;subst e;refine zfx (RR:=fun acc C=>compPost (model X.prog X.w) X.A X.xe none (EP X pins σ Q) acc C) hc B go how hcap hlen hb I2 T st2 f2 q ?_;intro D C σ' H' s' J' qq;obtain⟨m,hn,_⟩:=J'.loc;exact⟨m,hn,fun h' hs'=>⟨.ref D,H',jO I2 J' (uC I2 f2 J') hs',rfl,qq⟩⟩
def eqT(xs ys:List V):Bool:=((List.range (min xs.length ys.length)).all fun j=>eqV (xs[j]?.getD .non) (ys[j]?.getD .non))&&xs.length==ys.length
end
end L2
namespace K64
open PySem L2 PyProof.Rows
def top(i:Nat):Stmt:=PySem.Challenge.pw_callbinds_k64_whole_part_of_a_part.main.body.getD i (.Pass ⟨0,0,0,0⟩)
abbrev zkH:Stmt:=top 63
abbrev zgu:Stmt:=top 70
abbrev sIs:Stmt:=top 31
abbrev zcW:Stmt:=yu (top 48) 0
abbrev zgm:Stmt:=yu (top 48) 1
abbrev qA:Stmt:=yu (top 48) 2
abbrev zbn:Stmt:=yu (top 48) 3
abbrev zkD:Stmt:=yu (top 48) 4
abbrev zl3:Stmt:=yu (top 48) 5
abbrev zgd:Stmt:=yu (top 49) 0
abbrev zgt:Stmt:=yu (top 50) 0
abbrev zgb:Stmt:=yu (top 51) 0
abbrev zkE:Stmt:=yu (top 52) 0
abbrev zkM:Stmt:=yu (top 53) 0
abbrev zc6:Stmt:=yu (top 37) 0
abbrev zgk:Stmt:=yu (top 37) 1
abbrev zc5:Stmt:=yu (top 37) 2
abbrev zc8:Stmt:=yu (top 37) 3
abbrev qz:Stmt:=yu (top 37) 4
abbrev zc4:Stmt:=yu (top 37) 5
abbrev zgr:Stmt:=yu (top 37) 6
abbrev zgq:Stmt:=yu (top 37) 7
abbrev zkK:Stmt:=yu (top 37) 8
abbrev zf8:Stmt:=yu (top 9) 0
abbrev zkG:Stmt:=top 54
abbrev zcU:Stmt:=top 39
abbrev zbg:Stmt:=top 40
abbrev zcV:Stmt:=top 41
abbrev zbf:Stmt:=top 42
abbrev zgg:Stmt:=top 43
abbrev zgi:Stmt:=top 1
abbrev qw:Stmt:=top 17
abbrev zcS:Stmt:=top 19
abbrev zbl:Stmt:=top 20
abbrev zkI:Stmt:=top 21
abbrev zcX:Stmt:=top 22
abbrev zkC:Stmt:=top 23
abbrev zgj:Stmt:=top 24
abbrev zgf:Stmt:=top 25
abbrev zbe:Stmt:=top 27
abbrev zge:Stmt:=top 68
abbrev zgn:Stmt:=top 71
abbrev zc2:Stmt:=top 74
abbrev zkJ:Stmt:=top 87
abbrev zgc:Stmt:=top 64
abbrev zbb:Stmt:=top 65
abbrev zbm:Stmt:=top 66
abbrev zf9:Stmt:=top 67
abbrev zkF:Stmt:=top 69
abbrev zbd:Stmt:=top 72
abbrev zgl:Stmt:=top 73
abbrev zc0:Stmt:=top 75
abbrev zga:Stmt:=top 76
abbrev zcP:Stmt:=top 77
abbrev zkL:Stmt:=top 82
abbrev qx:Stmt:=top 78
abbrev zbj:Stmt:=yu (top 56) 0
abbrev qv:Stmt:=yu (top 56) 1
abbrev uR:Stmt:=yu (top 56) 2
abbrev zbh:Stmt:=top 57
abbrev sOf:Stmt:=top 2
abbrev zgo:Stmt:=top 18
abbrev zc3:Stmt:=top 79
abbrev zc1:Stmt:=top 80
abbrev zcZ:Stmt:=top 81
abbrev zcT:Stmt:=top 83
abbrev zbk:Stmt:=top 84
abbrev zgh:Stmt:=top 85
abbrev zbc:Stmt:=top 86
abbrev zcO:Stmt:=top 38
abbrev zcY:Stmt:=top 58
abbrev zbi:Stmt:=yu (top 56) 3
abbrev zcQ:Stmt:=top 59
abbrev zcR:Stmt:=top 60
abbrev zc9:Stmt:=top 61
abbrev zc7:Stmt:=top 26
def low(c:Nat):Bool:=decide (97<=c)&&decide (c<=122)
def xM(z:Str):Bool:=decide (1<=z.length)&&decide (z.length<=8)&&z.cps.toList.all low
def nmV:V->Bool
 | .str z=>xM z
 | _=>false
def OkS(z:Str):Prop:=z.length<=1000/\∀c∈z.cps.toList,c<128
def OkV(K:Frag)(H:Hp)(x:V):Prop:=(∃z,x=.str z/\OkS z)\/(nmV x=false/\∃t,uJ K H x t/\kitOne K t (.type "str")=some false)
theorem zaB:xM z=true ↔ 1<=z.length/\z.length<=8/\∀c∈z.cps.toList,97<=c/\c<=122:=by
 unfold xM low;simp only[Bool.and_eq_true,decide_eq_true_eq,all_eq_true];constructor
 ·rintro⟨⟨a,b⟩,c⟩;exact⟨a,b,c⟩
 ·rintro⟨a,b,c⟩;exact⟨⟨a,b⟩,c⟩
theorem qN(h:z.length=0\/9<=z.length):xM z=false:=by
 cases e:xM z with
 | false=>rfl
 | true=>
  have:=zaB.mp e
  omega
theorem qM(h:xM z=true):OkS z:=by
 obtain⟨_,h2,h3⟩:=zaB.mp h;exact⟨∅,fun c hc=>by have:=h3 c hc;omega⟩
def letters:Str:="abcdefghijklmnopqrstuvwxyz"
theorem zdk:∀c:Nat,c<128->(!(Builtin.Str.occurrences letters ⟨#[c]⟩ 0 letters.length 1).isEmpty)=low c:=by decide +kernel
theorem ze(h:H p=none)(o:HO):zq H (upd H p o):=fun b u q=>by rw[zj (zi q h)];exact q
theorem zeM{K:Frag}{H H':Hp}{x:V}{t:Value}(s:zq H H')(h:uJ K H x t):uJ K H' x t:=by
 cases h with
 | non=>exact .non
 | bl b=>exact .bl b
 | int i=>exact .int i
 | str z=>exact .str z
 | flt z=>exact .flt z
 | lst e=>exact .lst (s _ _ e)
 | frz e=>exact .frz (s _ _ e)
 | tup e=>exact .tup (s _ _ e)
 | dK e=>exact .dK (s _ _ e)
 | dT e=>exact .dT (s _ _ e)
 | ins e a b c d f=>exact .ins (s _ _ e) a b c d f
theorem OkV.same{K:Frag}{H H':Hp}{x:V}(s:zq H H')(h:OkV K H x):OkV K H' x:=by
 rcases h with h|⟨h,t,ty,e⟩
 ·exact .inl h
 ·exact .inr ⟨h,t,zeM s ty,e⟩
theorem nd1:([Str.ofString "sign"]:List Str).Nodup:=by decide +kernel
inductive zkn(K:Frag)(vs:List V)(H:Hp)(Q:VK)(E:XK):Prop|mk(x:_):vs=[x]->OkV K H x->(∀H',zq H H'->Q (.bl (nmV x)) H')->zkn K vs H Q E
structure zmE(K:Frag)(mg:Str->Option Value):Prop where
 isi:mg "isinstance"=none
 str:mg "str"=none
 bool:mg "bool"=none
 len:mg "len"=none
 all:mg "all"=none
 range:mg "range"=none
 letters:∃t,mg "LETTERS"=some (.str letters t)
 longest:∃t,mg "LONGEST"=some (.int 8 t)
 kNon:kitOne K (.type "NoneType") (.type "str")=some false
 kInt:kitOne K (.type "int") (.type "str")=some false
 kBl:kitOne K (.type "bool") (.type "str")=some false
 kLst:kitOne K (.type "list") (.type "str")=some false
 kTup:kitOne K (.type "tuple") (.type "str")=some false
 kDct:kitOne K (.type "dict") (.type "str")=some false
 kStr:kitOne K (.type "str") (.type "str")=some true
 bBl:kitOne K (.type "bool") (.type "bool")=some true
section
variable {P:Program}{w:World}{K:Frag}{mg:Str->Option Value}{base:Heap}
theorem zmW:zv ["thing"] ["thing"] (zk sIs):=fsc
theorem zmd(F:Fun K "is_name" "is_name" sIs f fd)(T:zmE K mg):↥1 f fd ["thing"] (zkn K):=by
 specialize zmW;obtain⟨x,rfl,hx,q⟩:=h;obtain⟨tL,hL⟩:=T.letters;obtain⟨tN,hN⟩:=T.longest;refine⟨_,zm (zS (xy (jh (vA (y7 (cB zcw T.isi boot_isinstance (ac (pv 0) (ac (ziO (v:=.ty "str") rfl T.str PyProof.Rows.boot_str rfl) zc)))))
   (vV (vA (zgx zgQ zgQ zf (cB zbA T.len PySem.boot_len (ac (pv 0) zc)) (xH (v:=.int 8) rfl hN ⟨_,rfl⟩))))))
   (zg (zA vo)) zI)
  (zg (zA (cB (zfE rfl) T.all boot_all (ac (wC [] ["sign"] [none] rfl ⟨rfl,rfl,rfl,rfl⟩ (zgB (pv 0)) (ya 0) rfl rfl rfl
   (fun pins fp s H C=>⟨zr (i:=0) nd1 rfl (Or.inl rfl) (.inr rfl),yV,vB ze1 (pv 0) (xH (v:=.str letters) rfl hL ⟨_,rfl⟩) (by with_unfolding_all rfl)⟩)) zc)))),?_⟩
 rcases hx with ⟨z,rfl,hz1,hz2⟩|⟨hn,t,ty,e⟩
 ·exists _,rfl,_,_,_,_,rfl,.str z,T.kStr,_,rfl,?_
  refine x8 ?_;exists _,rfl,z,rfl,le_trans hz1 ⋯,_,_,rfl,rfl,_,rfl,?_
  have no:xM z=false->Q (.bl false) H:=fun e=>by
   have:=q H (zq.refl H)
   have e':nmV (.str z)=false:=e;rw[e'] at this;exact this
  refine wf (fun c=>?_) (fun c=>?_)
  ·have c':(1:Int)<=(z.length:Int):=of_decide_eq_true c
   exists _,_,rfl,rfl,_,rfl,?_;by_cases h8:(z.length:Int)<=8
   ·rw[aC h8]
    refine x8 ?_;exists _,rfl,z,rfl,fun D hD=>?_;exists fun i m ys H'=>i<=z.cps.size/\m=z.cps.size - i/\ys=(z.cps.toList.take i).map (fun c=>V.bl (low c))/\H'=upd H D (.lst ys),⟨_,zero_le _,rfl,rfl,rfl⟩,?_;rintro i m ys H' ⟨hi,rfl,rfl,rfl⟩;by_cases he:i=z.cps.size
    ·subst he
     refine .inl ⟨le_refl _,?_⟩;exists D,z.cps.toList.map low,rfl,zh ?_,?_
     ·rw[za,take_of_length_le (by simp),map_map]
      rfl
     ·have e:(z.cps.toList.map low).all id=nmV (.str z):=by
       show _=xM z;unfold xM;rw[aC (show 1<=z.length by omega),aC (show z.length<=8 by omega),List.all_map]
       rfl
      rw[e];exact q _ (ze hD _)
    ·refine .inr ⟨by show i<z.cps.size;omega,?_⟩
     rintro x H' ⟨rfl,c,hc,rfl⟩;exists fun _=>?_,fun e=>Bool.noConfusion e;exists _,rfl,_,_,rfl,rfl,za,?_,z.cps.size - (i+1),∅,∅,rfl,?_,?_
     ·rw[aA,length_take]
      have:z.cps.size<=1000:=hz1
      exact zY ∅
     ·have hc':z.cps.toList[i]?=some c:=by simpa using hc
      have hlow:=zdk c (hz2 c (aH hc'));rw[hlow,take_add_one,hc',aE];rfl
     ·rw[j5]
   ·rw[aD h8]
    refine wZ ?_;exact no (qN (.inr ∅))
  ·have c':¬(1:Int)<=(z.length:Int):=of_decide_eq_false (Bool.eq_false_iff.mpr c)
   exists _,rfl,?_;exact wZ (no (qN (.inl ∅)))
 ·exists _,rfl,_,_,_,_,rfl,ty,e,_,rfl,?_
  refine wZ ?_;refine wZ ?_
  have:=q H (zq.refl H)
  rw[hn] at this;exact this
theorem dT{A B:Prop}{c:Prop}[Decidable c](h:c)(a:A):if decide c=true then A else B:=by rw[aC h];exact wZ a
theorem dF{A B:Prop}{c:Prop}[Decidable c](h:¬c)(b:B):if decide c=true then A else B:=by rw[aD h];exact x8 b
def kw:Nat->Str
 | 0=>"seat"|1=>"both"|2=>"tail"|3=>"tag"|_=>"bag"
def zkO(k:Nat)(x:V)(b:Bool):List V:=match k with
 | 0=>[.str "seat",x,.bl b]|1=>[.str "both",x,.bl b]|2=>[.str "tail",x]|3=>[.str "tag",x,.bl b]|_=>[.str "bag",x]
def fr(k:Nat)(b:Bool):Bool:=match k with
 | 0=>b|1=>b|2=>true|3=>b|_=>true
theorem lt5{k:Nat}(h:k<5):k=0\/k=1\/k=2\/k=3\/k=4:=by omega
def pf(wd:Str)(x:V)(b:Bool):List (Str×V):=z4 "may_lack" (.bl b) (z4 "name" x (z4 "word" (.str wd) []))
theorem ji:(pf wd x b).lookup ("word" : Str)=some (.str wd):=by
 unfold pf;rw[zp,aJ (by decide +kernel),zp,aJ (by decide +kernel),zp,aK rfl]
theorem wR:(pf wd x b).lookup ("name" : Str)=some x:=by
 unfold pf;rw[zp,aJ (by decide +kernel),zp,aK rfl]
theorem ziK:(pf wd x b).lookup ("may_lack" : Str)=some (.bl b):=by
 unfold pf;rw[zp,aK rfl]
theorem vJ{wd:Str}{x:V}{b:Bool}{m:Str}(h1:¬m="may_lack")(h2:¬m="name")(h3:¬m="word"):(pf wd x b).lookup m=none:=by
 unfold pf;rw[zp,aJ h1,zp,aJ h2,zp,aJ h3];rfl
structure MA where
 (fF fP fB fT fO:Addr)
structure PC(K:Frag)(m:MA)(C:Addr):Prop where
 cl:Cls K C
 nW:yJ K C "word"
 nN:yJ K C "name"
 nM:yJ K C "may_lack"
 mF:yW K C "free" m.fF
 mP:yW K C "by_place" m.fP
 mB:yW K C "by_name" m.fB
 mT:yW K C "takes_one" m.fT
 mO:yW K C "told" m.fO
inductive spP(K:Frag)(m:MA)(vs:List V)(H:Hp)(Q:VK)(E:XK):Prop|mk(p dx C:Addr)(wd:Str)(x:V)(b:Bool):vs=[.ref p,.str wd,x,.bl b]->H p=some (.ins C dx [])->PC K m C->OkV K H x->nmV x=true->(∀H1,zq H H1->Q .non (upd H1 p (.ins C dx (pf wd x b))))->spP K m vs H Q E
inductive spS(K:Frag)(C:Addr)(wd:Str)(vs:List V)(H:Hp)(Q:VK)(E:XK):Prop|mk(p dx:Addr)(x:V)(b:Bool):vs=[.ref p,x,.bl b]->H p=some (.ins C dx [])->OkV K H x->nmV x=true->(∀H1,zq H H1->Q .non (upd H1 p (.ins C dx (pf wd x b))))->spS K C wd vs H Q E
inductive spT(K:Frag)(C:Addr)(wd:Str)(vs:List V)(H:Hp)(Q:VK)(E:XK):Prop|mk(p dx:Addr)(x:V):vs=[.ref p,x]->H p=some (.ins C dx [])->OkV K H x->nmV x=true->(∀H1,zq H H1->Q .non (upd H1 p (.ins C dx (pf wd x true))))->spT K C wd vs H Q E
def bpL:List V:=[.str "seat",.str "both"]
def bnL:List V:=[.str "both",.str "tag"]
def otL:List V:=[.str "seat",.str "both",.str "tag"]
inductive qm(K:Frag)(m:MA)(vs:List V)(H:Hp)(Q:VK)(E:XK):Prop|mk(p dx C:Addr)(wd:Str)(x:V)(b:Bool):vs=[.ref p]->PC K m C->H p=some (.ins C dx (pf wd x b))->(Q (.bl b) H)->qm K m vs H Q E
inductive j0(K:Frag)(m:MA)(l:List V)(vs:List V)(H:Hp)(Q:VK)(E:XK):Prop|mk(p dx C:Addr)(wd:Str)(x:V)(b:Bool):vs=[.ref p]->PC K m C->H p=some (.ins C dx (pf wd x b))->(Q (.bl (inV (.str wd) l)) H)->j0 K m l vs H Q E
structure Wds(K:Frag)(mg:Str->Option Value)(tP tB tO:Addr):Prop where
 mP:mg "BY_PLACE"=some (.ref tP)
 mB:mg "BY_NAME"=some (.ref tB)
 mO:mg "OF_ONE_THING"=some (.ref tO)
 hP:∀H,SqT K H tP bpL
 hB:∀H,SqT K H tB bnL
 hO:∀H,SqT K H tO otL
theorem zit:zv ["self","word","name","may_lack"] ["self","word","name","may_lack"] (zk zcW):=fsc
theorem zg8(F:Fun K "__init__" "Parameter.__init__" zcW f fd)(cI:⇑1 "is_name" g gd ["thing"] (zkn K)):
  ↥2 f fd ["self","word","name","may_lack"] (spP K m):=by
 specialize zit;obtain⟨p,dx,C,wd,x,b,rfl,hp,c,hx,q1,q2⟩:=h;refine⟨_,zm (zS (vA (y7 (cF cI hr (ac (pv 2) zc)))) (zg uq) zI)
  (zm (wz (pv 0) (pv 1) rfl) (zm (wz (pv 0) (pv 2) rfl) (zg (wz (pv 0) (pv 3) rfl)))),?_⟩
 exists _,rfl,x,rfl,hx,fun H1 s1=>⟨_,rfl,?_⟩;rw[q1];refine x8 ?_;exists _,rfl,_,rfl,p,C,dx,[],rfl,s1 _ _ hp,c.cl,c.nW,(by show 0<1000;decide),?_
 exists _,rfl,_,rfl,p,C,dx,_,rfl,za,c.cl,c.nN,(by show 1<1000;decide),?_
 exists _,rfl,_,rfl,p,C,dx,_,rfl,za,c.cl,c.nM,(by show 2<1000;decide),?_
 rw[j5,j5];exact q2 _ s1
theorem zks:zv ["self","name","free"] ["self","name","free"] (zk zgd):=fsc
theorem ziX(F:zap K "__init__" "Seat.__init__" zgd f fd ds)(c:PC K m C)(B:zah K D "__init__" g)(mD:mg "Parameter"= ~~~D)(G:↥2 g gd ["self","word","name","may_lack"] (spP K m))(bg:zU K gd ["self","word","name","may_lack"] []):
  ↥3 f fd ["self","name","free"] (spS K C "seat"):=by
 refine F.ok zks (fun vs H Q E h=>?_) (fun cdv A outer s H vs Q E hr h=>?_)
 ·obtain⟨p,dx,x,b,rfl,_⟩:=h
  rfl
 obtain⟨p,dx,x,b,rfl,hp,hx,q1,q2⟩:=h;exists _,zg (zW (zb2 B mD G hr bg zZ (ac (pv 0) (ac zy (ac (pv 1) (ac (pv 2) zc)))))),?_;exact⟨_,rfl,_,rfl,_,rfl,p,dx,C,_,x,b,rfl,hp,c,hx,q1,q2⟩
theorem zkB:zv ["self","name","free"] ["self","name","free"] (zk zgt):=fsc
theorem zjd(F:zap K "__init__" "Both.__init__" zgt f fd ds)(c:PC K m C)(B:zah K D "__init__" g)(mD:mg "Parameter"= ~~~D)(G:↥2 g gd ["self","word","name","may_lack"] (spP K m))(bg:zU K gd ["self","word","name","may_lack"] []):
  ↥3 f fd ["self","name","free"] (spS K C "both"):=by
 refine F.ok zkB (fun vs H Q E h=>?_) (fun cdv A outer s H vs Q E hr h=>?_)
 ·obtain⟨p,dx,x,b,rfl,_⟩:=h
  rfl
 obtain⟨p,dx,x,b,rfl,hp,hx,q1,q2⟩:=h;exists _,zg (zW (zb2 B mD G hr bg zZ (ac (pv 0) (ac zy (ac (pv 1) (ac (pv 2) zc)))))),?_;exact⟨_,rfl,_,rfl,_,rfl,p,dx,C,_,x,b,rfl,hp,c,hx,q1,q2⟩
theorem zl0:zv ["self","name","free"] ["self","name","free"] (zk zkE):=fsc
theorem zg4(F:zap K "__init__" "Tag.__init__" zkE f fd ds)(c:PC K m C)(B:zah K D "__init__" g)(mD:mg "Parameter"= ~~~D)(G:↥2 g gd ["self","word","name","may_lack"] (spP K m))(bg:zU K gd ["self","word","name","may_lack"] []):
  ↥3 f fd ["self","name","free"] (spS K C "tag"):=by
 refine F.ok zl0 (fun vs H Q E h=>?_) (fun cdv A outer s H vs Q E hr h=>?_)
 ·obtain⟨p,dx,x,b,rfl,_⟩:=h
  rfl
 obtain⟨p,dx,x,b,rfl,hp,hx,q1,q2⟩:=h;exists _,zg (zW (zb2 B mD G hr bg zZ (ac (pv 0) (ac zy (ac (pv 1) (ac (pv 2) zc)))))),?_;exact⟨_,rfl,_,rfl,_,rfl,p,dx,C,_,x,b,rfl,hp,c,hx,q1,q2⟩
theorem zkr:zv ["self","name"] ["self","name"] (zk zgb):=fsc
theorem ziV(F:Fun K "__init__" "Tail.__init__" zgb f fd)(c:PC K m C)(B:zah K D "__init__" g)(mD:mg "Parameter"= ~~~D)(G:↥2 g gd ["self","word","name","may_lack"] (spP K m))(bg:zU K gd ["self","word","name","may_lack"] []):
  ↥3 f fd ["self","name"] (spT K C "tail"):=by
 specialize zkr;obtain⟨p,dx,x,rfl,hp,hx,q1,q2⟩:=h;exists _,zg (zW (zb2 B mD G hr bg zZ (ac (pv 0) (ac zy (ac (pv 1) (ac vo zc)))))),?_;exact⟨_,rfl,_,rfl,p,dx,C,_,x,true,rfl,hp,c,hx,q1,q2⟩
theorem zl2:zv ["self","name"] ["self","name"] (zk zkM):=fsc
theorem zla(F:Fun K "__init__" "Bag.__init__" zkM f fd)(c:PC K m C)(B:zah K D "__init__" g)(mD:mg "Parameter"= ~~~D)(G:↥2 g gd ["self","word","name","may_lack"] (spP K m))(bg:zU K gd ["self","word","name","may_lack"] []):
  ↥3 f fd ["self","name"] (spT K C "bag"):=by
 specialize zl2;obtain⟨p,dx,x,rfl,hp,hx,q1,q2⟩:=h;exists _,zg (zW (zb2 B mD G hr bg zZ (ac (pv 0) (ac zy (ac (pv 1) (ac vo zc)))))),?_;exact⟨_,rfl,_,rfl,p,dx,C,_,x,true,rfl,hp,c,hx,q1,q2⟩
theorem zkw:zv ["self"] ["self"] (zk zgm):=fsc
theorem zi9(F:Fun K "free" "Parameter.free" zgm f fd):↥1 f fd ["self"] (qm K m):=by
 specialize zkw;obtain⟨p,dx,C,wd,x,b,rfl,c,hp,q⟩:=h;exists _,zg (zA (yI (pv 0) rfl)),?_;exact⟨_,rfl,p,C,dx,_,_,rfl,hp,c.cl,c.nM,ziK,q⟩
theorem zeT:zv ["self"] ["self"] (zk qA):=fsc
theorem zb8{f:Addr}{fd:FuncData}{tP tB tO:Addr}{m:MA}(F:Fun K "by_place" "Parameter.by_place" qA f fd)(Wd:Wds K mg tP tB tO):↥1 f fd ["self"] (j0 K m bpL):=by
 specialize zeT;obtain⟨p,dx,C,wd,x,b,rfl,c,hp,q⟩:=h;exists _,zg (zA (vB yY (yI (pv 0) rfl) (xH (v:=.ref tP) rfl Wd.mP rfl) (by with_unfolding_all rfl))),?_
 exact⟨_,rfl,p,C,dx,_,_,rfl,hp,c.cl,c.nW,ji,tP,bpL,rfl,.inr (Wd.hP H),rfl,⋯,q⟩
theorem zf7:zv ["self"] ["self"] (zk zbn):=fsc
theorem zdg{f:Addr}{fd:FuncData}{tP tB tO:Addr}{m:MA}(F:Fun K "by_name" "Parameter.by_name" zbn f fd)(Wd:Wds K mg tP tB tO):↥1 f fd ["self"] (j0 K m bnL):=by
 specialize zf7;obtain⟨p,dx,C,wd,x,b,rfl,c,hp,q⟩:=h;exists _,zg (zA (vB yY (yI (pv 0) rfl) (xH (v:=.ref tB) rfl Wd.mB rfl) (by with_unfolding_all rfl))),?_
 exact⟨_,rfl,p,C,dx,_,_,rfl,hp,c.cl,c.nW,ji,tB,bnL,rfl,.inr (Wd.hB H),rfl,⋯,q⟩
structure C5 where
 (c0 c1 c2 c3 c4:Addr)
def C5.at(c:C5):Nat->Addr
 | 0=>c.c0|1=>c.c1|2=>c.c2|3=>c.c3|_=>c.c4
structure zj8(P:Program)(w:World)(K:Frag)(mg:Str->Option Value)(base:Heap)(c:C5)(i0 i1 i2 i3 i4:Addr)(d0 d1 d2 d3 d4:FuncData):Prop where
 k0:jq P w K mg base CX0 3 "Seat" c.c0 i0 d0 ["self","name","free"] [] (spS K c.c0 "seat")
 k1:jq P w K mg base CX0 3 "Both" c.c1 i1 d1 ["self","name","free"] [] (spS K c.c1 "both")
 k2:jq P w K mg base CX0 3 "Tail" c.c2 i2 d2 ["self","name"] [] (spT K c.c2 "tail")
 k3:jq P w K mg base CX0 3 "Tag" c.c3 i3 d3 ["self","name","free"] [] (spS K c.c3 "tag")
 k4:jq P w K mg base CX0 3 "Bag" c.c4 i4 d4 ["self","name"] [] (spT K c.c4 "bag")
def Res(c:C5)(H:Hp)(k:Nat)(x:V)(b:Bool)(Q:VK):Prop:=
 nmV x=true/\∀o dx H',zq H H'->H' o=some (.ins (c.at k) dx (pf (kw k) x (fr k b)))->Q (.ref o) H'
inductive zjU(K:Frag)(c:C5)(vs:List V)(H:Hp)(Q:VK)(E:XK):Prop|mk(p:Addr)(k:Nat)(x:V)(b:Bool):vs=[.ref p]->k<5->H p=some (.tup (zkO k x b))->OkV K H x->(Res c H k x b Q)->zjU K c vs H Q E
theorem znf:¬(V.str "both"=V.str "seat"):=by decide +kernel
theorem zne:¬(V.str "tail"=V.str "seat"):=by decide +kernel
theorem znd:¬(V.str "tail"=V.str "both"):=by decide +kernel
theorem znc:¬(V.str "tag"=V.str "seat"):=by decide +kernel
theorem znb:¬(V.str "tag"=V.str "both"):=by decide +kernel
theorem zna:¬(V.str "tag"=V.str "tail"):=by decide +kernel
theorem zm9:¬(V.str "bag"=V.str "seat"):=by decide +kernel
theorem zm8:¬(V.str "bag"=V.str "both"):=by decide +kernel
theorem zm7:¬(V.str "bag"=V.str "tail"):=by decide +kernel
theorem zm6:¬(V.str "bag"=V.str "tag"):=by decide +kernel
theorem znj{k:Nat}(h:k<5):atI (zkO k x b) 0=some (.str (kw k)):=by rcases lt5 h with rfl|rfl|rfl|rfl|rfl <;> rfl
theorem zjY:zv ["told","word"] ["told"] (zk zkG):=fsc
theorem zk5(F:Fun K "parameter_of" "parameter_of" zkG f fd)(U:zj8 P w K mg base c i0 i1 i2 i3 i4 d0 d1 d2 d3 d4):↥5 f fd ["told"] (zjU K c):=by
 specialize zjY;obtain⟨p,k,x,b,rfl,hk,hp,hx,r1,r2⟩:=h;refine⟨_,zm (zx (i:=1) zjY.nd rfl (Or.inl rfl) (zV yd (pv 0) zf (fun _ _=>rfl)))
  (zm (zS (zw yK (pv 1) zy (zM _)) (zg (zA (cMk U.k0 .nil zZ hr (ac (zV yd (pv 0) zf (fun _ _=>rfl)) (ac (zV yd (pv 0) zf (fun _ _=>rfl)) zc))))) zI)
  (zm (zS (zw yK (pv 1) zy (zM _)) (zg (zA (cMk U.k1 .nil zZ hr (ac (zV yd (pv 0) zf (fun _ _=>rfl)) (ac (zV yd (pv 0) zf (fun _ _=>rfl)) zc))))) zI)
  (zm (zS (zw yK (pv 1) zy (zM _)) (zg (zA (cMk U.k2 .nil zZ hr (ac (zV yd (pv 0) zf (fun _ _=>rfl)) zc)))) zI)
  (zm (zS (zw yK (pv 1) zy (zM _)) (zg (zA (cMk U.k3 .nil zZ hr (ac (zV yd (pv 0) zf (fun _ _=>rfl)) (ac (zV yd (pv 0) zf (fun _ _=>rfl)) zc))))) zI)
  (zg (zA (cMk U.k4 .nil zZ hr (ac (zV yd (pv 0) zf (fun _ _=>rfl)) zc)))))))),?_⟩
 exists _,rfl,p,_,_,.str (kw k),rfl,rfl,zF hp,znj hk,?_;rcases lt5 hk with rfl|rfl|rfl|rfl|rfl
 ·have hS:SqT K H p _:=zF hp
  exists _,rfl,rfl,_,rfl,?_;refine dT rfl ?_;exact⟨_,rfl,p,_,_,x,rfl,rfl,hS,rfl,_,rfl,p,_,_,.bl b,rfl,rfl,hS,rfl,fun o dx ho hdx ne=>⟨o,dx,x,b,rfl,za,hx.same (yH ho hdx),r1,fun H1 s1=>⟨rfl,r2 o dx _ (wk ho hdx s1) za⟩⟩⟩
 ·have hS:SqT K H p _:=zF hp
  exists _,rfl,rfl,_,rfl,?_;refine dF znf ?_;exists _,rfl,rfl,_,rfl,?_;refine dT rfl ?_;exact⟨_,rfl,p,_,_,x,rfl,rfl,hS,rfl,_,rfl,p,_,_,.bl b,rfl,rfl,hS,rfl,fun o dx ho hdx ne=>⟨o,dx,x,b,rfl,za,hx.same (yH ho hdx),r1,fun H1 s1=>⟨rfl,r2 o dx _ (wk ho hdx s1) za⟩⟩⟩
 ·have hS:SqT K H p _:=zF hp
  exists _,rfl,rfl,_,rfl,?_;refine dF zne ?_;exists _,rfl,rfl,_,rfl,?_;refine dF znd ?_;exists _,rfl,rfl,_,rfl,?_;refine dT rfl ?_;exact⟨_,rfl,p,_,_,x,rfl,rfl,hS,rfl,fun o dx ho hdx ne=>⟨o,dx,x,rfl,za,hx.same (yH ho hdx),r1,fun H1 s1=>⟨rfl,r2 o dx _ (wk ho hdx s1) za⟩⟩⟩
 ·have hS:SqT K H p _:=zF hp
  exists _,rfl,rfl,_,rfl,?_;refine dF znc ?_;exists _,rfl,rfl,_,rfl,?_;refine dF znb ?_;exists _,rfl,rfl,_,rfl,?_;refine dF zna ?_;exists _,rfl,rfl,_,rfl,?_;refine dT rfl ?_;exact⟨_,rfl,p,_,_,x,rfl,rfl,hS,rfl,_,rfl,p,_,_,.bl b,rfl,rfl,hS,rfl,fun o dx ho hdx ne=>⟨o,dx,x,b,rfl,za,hx.same (yH ho hdx),r1,fun H1 s1=>⟨rfl,r2 o dx _ (wk ho hdx s1) za⟩⟩⟩
 ·have hS:SqT K H p _:=zF hp
  exists _,rfl,rfl,_,rfl,?_;refine dF zm9 ?_;exists _,rfl,rfl,_,rfl,?_;refine dF zm8 ?_;exists _,rfl,rfl,_,rfl,?_;refine dF zm7 ?_;exists _,rfl,rfl,_,rfl,?_;refine dF zm6 ?_;exact⟨_,rfl,p,_,_,x,rfl,rfl,hS,rfl,fun o dx ho hdx ne=>⟨o,dx,x,rfl,za,hx.same (yH ho hdx),r1,fun H1 s1=>⟨rfl,r2 o dx _ (wk ho hdx s1) za⟩⟩⟩
end
end K64
namespace L2
open PySem PySem.Spec PyProof.Rows
def dcN(n i:Nat)(D:Addr)(Pv:Nat->List (Key×V)->Hp->Prop)(ys:List (Key×V))(y:V):VK:=fun v H5=>∃k,y=kV k/\H5 D=some (.dK ys)/\ys.length<sizeLine/\∃m',m'<n - i/\m'=n - (i+1)/\i+1<=n/\Pv (i+1) (xB ys k v) (upd H5 D (.dK (xB ys k v)))
def dcS(n i:Nat)(Pv:Nat->List (Key×V)->Hp->Prop)(ys:List (Key×V))(H4:Hp):Prop:=∃m',m'<n - i/\m'=n - (i+1)/\i+1<=n/\Pv (i+1) ys H4
theorem dcN.mk{n i:Nat}{Pv:Nat->List (Key×V)->Hp->Prop}(k:Key)(hi:i<n)(ek:y=kV k)(hn:n<=sizeLine)(hD:H5 D=some (.dK ys))(hy:ys.length<=i)(p:Pv (i+1) (xB ys k v) (upd H5 D (.dK (xB ys k v)))):dcN n i D Pv ys y v H5:=
 ⟨k,ek,hD,∅,n - (i+1),∅,rfl,hi,p⟩
theorem dcS.mk{n i:Nat}{Pv:Nat->List (Key×V)->Hp->Prop}(hi:i<n)(p:Pv (i+1) ys H4):dcS n i Pv ys H4:=⟨n - (i+1),∅,rfl,hi,p⟩
theorem zjE{K:Frag}{a:Addr}{xs:List V}{caps:List (Option Nat)}{g:TG}{tt:TT}{tk tv:TE}{σ : St}{H1:Hp}{Q:VK}{D:Addr}(Pv:Nat->List (Key×V)->Hp->Prop)(h0:Pv 0 [] (upd H1 D (.dK [])))
  (hl:∀i ys H,Pv i ys H->SqL K H a xs)
  (hs:∀i x p ys H,i<xs.length->xs[i]?=some x->Pv i ys H->H p=none->g (.ref p) (xo caps σ) (upd H p (.tup [.int i,x])) fun σ2 H2=>tt σ2 H2 fun ok H3=>(ok=true->tk σ2 H3 fun y H4=>tv σ2 H4 (dcN xs.length i D Pv ys y))/\(ok=false->dcS xs.length i Pv ys H3))
  (hd:∀ys H,Pv xs.length ys H->Q (.ref D) H):DCr (Ite K a) caps g tt tk tv σ H1 Q D:=by
 exists fun i m ys H=>m=xs.length - i/\i<=xs.length/\Pv i ys H,⟨xs.length,by simp,zero_le _,h0⟩,?_
 rintro i m ys H ⟨rfl,hi,p⟩;have q:=hl i ys H p;by_cases hlt:i<xs.length
 ·refine .inr ⟨⟨xs,xs[i],q,by simp [hlt]⟩,fun x H' y=>?_⟩
  obtain⟨pp,y,rfl,hp,y2,rfl⟩:=y;exact hs i y pp ys H hlt (y2 xs q) p hp
 ·have e:i=xs.length:=by omega
  subst e;exact .inl ⟨⟨xs,q,le_refl _⟩,hd ys H p⟩
end L2
namespace K64
open PySem L2 PyProof.Rows
structure Rw where
 (k:Nat) (z:Str) (b:Bool)
def Rw.ok(r:Rw):Prop:=r.k<5/\xM r.z=true
abbrev rv(r:Rw):List V:=zkO r.k (.str r.z) r.b
abbrev pr(r:Rw):List (Str×V):=pf (kw r.k) (.str r.z) (fr r.k r.b)
def PAt(c:C5)(H:Hp)(p:Addr)(r:Rw):Prop:=∃dx,H p=some (.ins (c.at r.k) dx (pr r))
def xV(k:Nat):Bool:=k==0||k==1
def yt(k:Nat):Bool:=k==1||k==3
theorem zhJ:∀k:Nat,k<5->inV (.str (kw k)) bpL=xV k:=by decide +kernel
theorem jU:∀k:Nat,k<5->inV (.str (kw k)) bnL=yt k:=by decide +kernel
def grp:Nat->Nat
 | 0=>0|1=>0|2=>1|3=>2|_=>3
def ug(l g:Nat):Bool:=decide (g<l)||(g==l&&(g==1||g==3))
def xw:Nat->List Rw->Bool
 | _,[]=>true
 | l,r::rs=>!ug l (grp r.k)&&xw (grp r.k) rs
def nms(rows:List Rw):List Str:=(rows.filter fun r=>yt r.k).map (·.z)
structure zcy(rows:List Rw)(bars:List Str):Prop where
 ok:∀r∈rows,r.ok
 l24:rows.length<=24
 l60:bars.length<=60
 ord:xw 0 rows=true
 bn:∀z∈bars,xM z=true
 nd:(nms rows++bars).Nodup
def zN(kk:Nat):Nat->List Rw->Option Nat
 | _,[]=>none
 | i,r::rs=>if r.k=kk then some i else zN kk (i+1) rs
def wB:Option Nat->V
 | none=>.non
 | some i=>.int i
def xn:Nat->List (Key×V)->List Rw->List (Key×V)
 | _,acc,[]=>acc
 | i,acc,r::rs=>xn (i+1) (if yt r.k=true then xB acc (.inr r.z) (.int i) else acc) rs
def plN(rows:List Rw):Nat:=(rows.filter fun r=>xV r.k).length
def zh8:List Str:=["row","bar_names","place_count","tail_number","bag_number","doors"]
structure FF(fs:List (Str×V))(lr lb ld:Addr)(rows:List Rw):Prop where
 row:fs.lookup ("row" : Str)=some (.ref lr)
 bn:fs.lookup ("bar_names" : Str)=some (.ref lb)
 pc:fs.lookup ("place_count" : Str)=some (.int (plN rows))
 tn:fs.lookup ("tail_number" : Str)=some (wB (zN 2 0 rows))
 bg:fs.lookup ("bag_number" : Str)=some (wB (zN 4 0 rows))
 dr:fs.lookup ("doors" : Str)=some (.ref ld)
 no:∀m,m∉zh8->fs.lookup m=none
def xN(c:C5)(CF:Addr)(H:Hp)(f:Addr)(rows:List Rw)(bars:List Str):Prop:=
 ∃dx fs lr lb ld ps,H f=some (.ins CF dx fs)/\FF fs lr lb ld rows/\H lr=some (.lst (ps.map V.ref))/\Paired (PAt c H) ps rows/\H lb=some (.lst (bars.map V.str))/\H ld=some (.dK (xn 0 [] rows))
section
variable {c:C5}{H H':Hp}{rows:List Rw}{bars:List Str}{r:Rw}{ps:List Addr}
theorem PAt.same(h:PAt c H p r)(s:zq H H'):PAt c H' p r:=h.imp fun _=>s _ _
theorem z5(s:zq H H')(h:Paired (PAt c H) ps rows):Paired (PAt c H') ps rows:=zu (fun _ _ z=>z.same s) h
theorem xN.same(h:xN c CF H f rows bars)(s:zq H H'):xN c CF H' f rows bars:=by
 obtain⟨dx,fs,lr,lb,ld,ps,h1,h2,h3,h4,h5,h6⟩:=h;exact⟨dx,fs,lr,lb,ld,ps,s _ _ h1,h2,s _ _ h3,z5 s h4,s _ _ h5,s _ _ h6⟩
def jY(c:C5)(CF:Addr)(H H':Hp)(f:Addr)(rows:List Rw)(bars:List Str):Prop:=
 ∃dx fs lr lb ld ps,H' f=some (.ins CF dx fs)/\FF fs lr lb ld rows/\H' lr=some (.lst (ps.map V.ref))/\Paired (PAt c H') ps rows/\H' lb=some (.lst (bars.map V.str))/\H' ld=some (.dK (xn 0 [] rows))/\H lr=none/\H lb=none
theorem jY.at(h:jY c CF H H' f rows bars):xN c CF H' f rows bars:=by
 obtain⟨dx,fs,lr,lb,ld,ps,h1,h2,h3,h4,h5,h6,_,_⟩:=h;exact⟨dx,fs,lr,lb,ld,ps,h1,h2,h3,h4,h5,h6⟩
theorem jY.of(h:jY c CF H H' f rows bars)(s:zq H0 H):jY c CF H0 H' f rows bars:=by
 obtain⟨dx,fs,lr,lb,ld,ps,h1,h2,h3,h4,h5,h6,h7,h8⟩:=h;exact⟨dx,fs,lr,lb,ld,ps,h1,h2,h3,h4,h5,h6,s.free h7,s.free h8⟩
theorem yG{α β : Type}{R : α->β->Prop}{xs:List α}{ys:List β}(h:Paired R xs ys):∀{i:Nat}{x : α},xs[i]?=some x->∃y,ys[i]?=some y/\R x y:=by
 induction h with
 | nil=>intro i x e;simp at e
 | cons r t ih=>
  intro i x e;cases i with
  | zero=>exact⟨_,rfl,by simp at e;exact e ▸ r⟩
  | succ i=>simpa using ih (by simpa using e)
def zjr(x:Str):Option V:=([(("seat" : Str),V.int 0),("both",.int 0),("tail",.int 1),("tag",.int 2),("bag",.int 3)]:List (Str×V)).lookup x
theorem zjq:∀k:Nat,k<5->zjr (kw k)=some (.int (grp k)):=by decide +kernel
theorem zlo(k:Nat):grp k<4:=by unfold grp;split <;> decide
structure zcz(w:World)(K:Frag)(mg:Str->Option Value)(G sg:Addr):Prop where
 len:mg "len"=none
 en:mg "enumerate"=none
 lst:mg "list"=none
 set:mg "set"=none
 mp:∃t,mg "MOST_PARAMETERS"=some (.int 24 t)
 mb:∃t,mg "MOST_BARS"=some (.int 60 t)
 mgr:mg "GROUPS"=some (.ref G)
 gt:zlA w K G zjr
 ms:mg "SINGLE_GROUPS"=some (.ref sg)
 hs:∀H,SqT K H sg [.int 1,.int 3]
def Cs5(c:C5):Addr->Prop:=fun C=>∃k,k<5/\C=c.at k
inductive zfT(K:Frag)(vs:List V)(H:Hp)(Q:VK)(E:XK):Prop|mk(a b:Addr)(xs ys:List V):vs=[.ref a,.ref b]->SqL K H a xs->SqL K H b ys->xs.length<=24->ys.length<=60->(Q .non H)->zfT K vs H Q E
inductive zjV(c:C5)(vs:List V)(H:Hp)(Q:VK)(E:XK):Prop|mk(a:Addr)(ps:List Addr)(rows:List Rw):vs=[.ref a]->H a=some (.lst (ps.map V.ref))->Paired (PAt c H) ps rows->(∀r∈rows,r.ok)->xw 0 rows=true->(∀H',zq H H'->Q .non H')->zjV c vs H Q E
inductive zlS(vs:List V)(H:Hp)(Q:VK)(E:XK):Prop|mk(b:Addr)(bars:List Str):vs=[.ref b]->H b=some (.lst (bars.map V.str))->(∀z∈bars,xM z=true)->(∀H',zq H H'->Q .non H')->zlS vs H Q E
inductive zlR(c:C5)(vs:List V)(H:Hp)(Q:VK)(E:XK):Prop|mk(a b:Addr)(ps:List Addr)(rows:List Rw)(bars:List Str):vs=[.ref a,.ref b]->H a=some (.lst (ps.map V.ref))->Paired (PAt c H) ps rows->(∀r∈rows,r.ok)->rows.length<=500->H b=some (.lst (bars.map V.str))->bars.length<=500->(nms rows++bars).Nodup->(∀H',zq H H'->Q .non H')->zlR c vs H Q E
inductive zlU(c:C5)(vs:List V)(H:Hp)(Q:VK)(E:XK):Prop|mk(a:Addr)(ps:List Addr)(rows:List Rw)(kk:Nat):vs=[.ref a,.str (kw kk)]->kk<5->H a=some (.lst (ps.map V.ref))->Paired (PAt c H) ps rows->(∀r∈rows,r.ok)->(∀H',zq H H'->Q (wB (zN kk 0 rows)) H')->zlU c vs H Q E
theorem zhE:∀i:Nat,i<5->∀k:Nat,k<5->decide (V.str (kw k)=V.str (kw i))=(k==i):=by decide +kernel
theorem zeB{α : Type}{xs:List α}{i:Nat}{x : α}(h:xs[i]?=some x):xs.drop i=x::xs.drop (i+1):=by
 have hi:i<xs.length:=(List.getElem?_eq_some_iff.mp h).1;rw[drop_eq_getElem_cons hi];rw[aB hi] at h;rw[Option.some.inj h]
theorem xR{i:Nat}(h:(ps.map V.ref)[i]?=some x):∃p,ps[i]?=some p/\x=.ref p:=by
 rw[getElem?_map] at h;cases e:ps[i]? with
 | none=>rw[e] at h;cases h
 | some p=>rw[e] at h;exact⟨p,rfl,(Option.some.inj h).symm⟩
theorem strs_at{zs:List Str}{i:Nat}{x:V}(h:(zs.map V.str)[i]?=some x):∃z,zs[i]?=some z/\x=.str z:=by
 rw[getElem?_map] at h;cases e:zs[i]? with
 | none=>rw[e] at h;cases h
 | some p=>rw[e] at h;exact⟨p,rfl,(Option.some.inj h).symm⟩
variable {mg:Str->Option Value}
def Pcs(K:Frag)(m:MA)(c:C5):Prop:=∀k,k<5->PC K m (c.at k)
theorem zis:zv ["parameters","bars"] ["parameters","bars"] (zk zcU):=fsc
theorem zi2{f:Addr}{P:Program}{w:World}{K:Frag}{base:Heap}{G sg:Addr}{fd:FuncData}(F:Fun K "refuse_too_many" "refuse_too_many" zcU f fd)(T:zcz w K mg G sg):↥1 f fd ["parameters","bars"] (zfT K):=by
 specialize zis;obtain⟨a,b,xs,ys,rfl,ha,hb,l1,l2,q⟩:=h;obtain⟨t1,m1⟩:=T.mp;obtain⟨t2,m2⟩:=T.mb;refine⟨_,zm (zS (zw zgR (cB zO T.len PySem.boot_len (ac (pv 0) zc)) (xH (v:=.int 24) rfl m1 ⟨_,rfl⟩) (zM _)) (zg uq) zI)
  (zg (zS (zw zgR (cB zO T.len PySem.boot_len (ac (pv 1) zc)) (xH (v:=.int 60) rfl m2 ⟨_,rfl⟩) (zM _)) (zg uq) zI)),?_⟩
 exists _,rfl,a,_,rfl,.inl ha,_,_,rfl,rfl,_,rfl,?_;refine dF (by show ¬(24:Int)<(xs.length:Int);omega) ?_
 exists _,rfl,b,_,rfl,.inl hb,_,_,rfl,rfl,_,rfl,?_;exact dF (by show ¬(60:Int)<(ys.length:Int);omega) q
theorem vh:zv ["parameters","last","at","parameter","group"] ["parameters"] (zk zbg):=fsc
theorem zha{f:Addr}{P:Program}{w:World}{K:Frag}{base:Heap}{G sg:Addr}{fd:FuncData}{m:MA}(F:Fun K "refuse_bad_order" "refuse_bad_order" zbg f fd)(T:zcz w K mg G sg)(PP:Pcs K m c):↥1 f fd ["parameters"] (zjV c):=by
 specialize vh;obtain⟨a,ps,rows,rfl,ha,hp,hok,ho,q⟩:=h;refine⟨_,zm (zx (i:=1) vh.nd rfl (Or.inl rfl) zf)
  (zg (yS PassesOwn.never rfl (wc rfl T.en (ac (pv 0) zc)) (yB rfl (zB (zr (i:=2) vh.nd rfl (Or.inl rfl)) (zB (zr (i:=3) vh.nd rfl (Or.inl rfl)) yi)))
   (zm (zx (i:=4) vh.nd rfl (Or.inl rfl) (ziM T.gt T.mgr (yI (pv 3) rfl)))
   (zm (zS (xy (jh (zw vX (pv 4) (pv 1) (zM _)) (vV (xy (xr (zw yK (pv 4) (pv 1) (zM _)) (y9 (zw yY (pv 4) (xH (v:=.ref sg) rfl T.ms rfl) (by with_unfolding_all rfl)))))))) (zg uq) zI)
   (zg (zx (i:=1) vh.nd rfl (Or.inl rfl) (pv 4))))))),?_⟩
 show vN _ _ _ _ _;refine⟨_,rfl,a,rfl,⟨_,zh ha⟩,wx (K:=K) (a:=a) (xs:=ps.map V.ref) (fun i σ H'=>∃(l:Nat) (v2 v3 v4:Option V),σ=[~~~a,some (.int (l:Nat)),v2,v3,v4]/\zq H H'/\xw l (rows.drop i)=true)
  ⟨0,_,_,_,rfl,zq.refl _,ho⟩ (fun i σ H' _ ⟨_,_,_,_,_,sH,_⟩=>zh (sH _ _ ha)) ?_ ?_⟩
 ·rintro i x p σ H' hx ⟨l,v2,v3,v4,rfl,sH,hl⟩ hpn
  obtain⟨pa,hpa,rfl⟩:=xR hx;obtain⟨r,hr',dx,hdx⟩:=yG hp hpa;have rok:=hok r (aH hr');have C:=PP r.k rok.1;rw[zeB hr'] at hl;have hl':(!ug l (grp r.k)&&xw (grp r.k) (rows.drop (i+1)))=true:=hl;rw[Bool.and_eq_true,Bool.not_eq_true'] at hl';obtain⟨hb,hl2⟩:=hl';have hb':(decide (grp r.k<l)||(grp r.k==l&&(grp r.k==1||grp r.k==3)))=false:=hb
  rw[Bool.or_eq_false_iff] at hb';have sp:=ze hpn (.tup [.int (i:Nat),.ref pa]);exists p,_,rfl,zF za,rfl,_,_,rfl,_,_,rfl,rfl,?_;exists _,rfl,pa,_,dx,_,_,rfl,sp _ _ (sH _ _ hdx),C.cl,C.nW,ji,kw r.k,.int (grp r.k),rfl,zjq r.k rok.1,?_;exists _,rfl,_,rfl,_,_,rfl,rfl,_,rfl,?_;refine dF (fun z=>by have:=of_decide_eq_false hb'.1;omega) ?_
  have fin:∃(l':Nat) (v2 v3 v4:Option V),([~~~a,some (.int (grp r.k:Nat)),some (.int (i:Nat)),~~~pa,some (.int (grp r.k:Nat))]:L2.St)=[~~~a,some (.int (l':Nat)),v2,v3,v4]/\zq H (upd H' p (.tup [.int (i:Nat),.ref pa]))/\xw l' (rows.drop (i+1))=true:=
   ⟨grp r.k,_,_,_,rfl,sH.trans sp,hl2⟩
  exists _,rfl,_,rfl,rfl,_,rfl,?_;by_cases e:grp r.k=l
  ·refine dT (by rw[e]) ?_
   exists _,rfl,sg,_,rfl,.inr (T.hs _),rfl,⋯,_,rfl,?_
   have h13:(grp r.k==1||grp r.k==3)=false:=by
    have:=hb'.2
    rw[e] at this |-;simpa using this
   have hin:inV (.int (grp r.k:Nat)) [.int 1,.int 3]=false:=by
    have g4:=zlo r.k
    have:∀g:Nat,g<4->(g==1||g==3)=false->inV (.int (g:Nat)) [.int 1,.int 3]=false:=by decide +kernel
    exact this _ g4 h13
   rw[show(if false=true then !inV (V.int ((grp r.k:Nat):Int)) [V.int 1,V.int 3] else inV (V.int ((grp r.k:Nat):Int)) [V.int 1,V.int 3])=false from hin]
   refine x8 ?_;exact⟨_,rfl,fin⟩
  ·refine dF (fun z=>e (by have:=V.int.inj z;omega)) ?_
   exact⟨_,rfl,fin⟩
 ·rintro σ H' ⟨l,v2,v3,v4,rfl,sH,_⟩
  exact q _ sH
end
end K64
namespace L2
open PySem PySem.Spec PyProof.Rows
theorem jj{X:Cx}{K:Frag}{e:Expr}{f:Str}{pos:Pos}{ta:TE}(hK:X.K=K)(he:PE X e ta)(hb:attributeBase e f X.env (eval e X.env)=eval e X.env):PE X (.Attribute e f pos) (zlM K ta f):=hK ▸ yI he hb
end L2
namespace K64
open PySem L2 PyProof.Rows
theorem yg{n:Nat}(h:n<=1000):n<=sizeLine:=le_of_lt (zY h)
theorem zjf{rows:List Rw}{i:Nat}{r:Rw}(h:rows[i]?=some r):nms (rows.take (i+1))=nms (rows.take i)++(if yt r.k=true then [r.z] else []):=by
 have hi:i<rows.length:=(List.getElem?_eq_some_iff.mp h).1;have e:rows[i]=r:=by rw[aB hi] at h;exact Option.some.inj h
 unfold nms;rw[take_succ_eq_append_getElem hi,filter_append,aE,e];cases hb:yt r.k <;> simp [hb]
section
variable {K:Frag}{mg:Str->Option Value}{f G sg:Addr}{c:C5}
theorem zcM:zv ["parameters","word","at","parameter"] ["parameters","word"] (zk zgg):=fsc
theorem zi1(F:Fun K "number_of_word" "number_of_word" zgg f fd)(T:zcz w K mg G sg)(PP:Pcs K m c):↥1 f fd ["parameters","word"] (zlU c):=by
 specialize zcM;obtain⟨a,ps,rows,kk,rfl,hkk,ha,hp,hok,q⟩:=h;refine⟨_,zm (yS PassesOwn.never rfl (wc rfl T.en (ac (pv 0) zc)) (yB rfl (zB (zr (i:=2) zcM.nd rfl (Or.inl rfl)) (zB (zr (i:=3) zcM.nd rfl (Or.inl rfl)) yi)))
   (zg (zS (zw yK (yI (pv 3) rfl) (pv 1) (zM _)) (zg (zA (pv 2))) zI))) (zg (zA jA)),?_⟩
 refine⟨_,rfl,a,rfl,⟨_,zh ha⟩,wx (K:=K) (a:=a) (xs:=ps.map V.ref) (fun i σ H'=>∃v2 v3,σ=[~~~a,some (.str (kw kk)),v2,v3]/\zq H H'/\zN kk i (rows.drop i)=zN kk 0 rows)
  ⟨_,_,rfl,zq.refl _,rfl⟩ (fun i σ H' _ ⟨_,_,_,sH,_⟩=>zh (sH _ _ ha)) ?_ ?_⟩
 ·rintro i x p σ H' hx ⟨v2,v3,rfl,sH,hl⟩ hpn
  obtain⟨pa,hpa,rfl⟩:=xR hx;obtain⟨r,hr',dx,hdx⟩:=yG hp hpa;have rok:=hok r (aH hr');have C:=PP r.k rok.1;rw[zeB hr'] at hl;have hl':(if r.k=kk then some i else zN kk (i+1) (rows.drop (i+1)))=zN kk 0 rows:=hl
  have sp:=ze hpn (.tup [.int (i:Nat),.ref pa]);exists p,_,rfl,zF za,rfl,_,_,rfl,_,_,rfl,rfl,?_;exists _,rfl,pa,_,dx,_,_,rfl,sp _ _ (sH _ _ hdx),C.cl,C.nW,ji,_,rfl,rfl,_,rfl,?_;by_cases e:r.k=kk
  ·refine dT (by rw[e]) ?_
   rw[aK e] at hl';exists _,rfl,?_
   have:=q _ (sH.trans sp)
   rw[<- hl'] at this;exact this
  ·refine dF (fun z=>?_) ?_
   ·have h1:=zhE kk hkk r.k rok.1
    rw[aC z] at h1;exact e (by simpa using h1.symm)
   ·rw[aJ e] at hl'
    exact⟨_,_,rfl,sH.trans sp,hl'⟩
 ·rintro σ H' ⟨v2,v3,rfl,sH,hl⟩
  have e:zN kk 0 rows=none:=by
   rw[<- hl,aA,hp.length,drop_length];rfl
  have:=q _ sH
  rw[e] at this;exact this
theorem zd5:zv ["bars","bar"] ["bars"] (zk zcV):=fsc
theorem zg7(F:Fun K "refuse_bars_without_name" "refuse_bars_without_name" zcV f fd)(cI:⇑1 "is_name" g gd ["thing"] (zkn K)):↥2 f fd ["bars"] zlS:=by
 specialize zd5;obtain⟨b,bars,rfl,hb,hn,q⟩:=h;exists _,zg (yS PassesOwn.never rfl (z7 (pv 0)) (zr (i:=1) zd5.nd rfl (Or.inl rfl)) (zg (zS (vA (y7 (cF cI hr (ac (pv 1) zc)))) (zg uq) zI))),?_;exists _,rfl,b,rfl,⟨_,zh hb⟩,xE (K:=K) (a:=b) (xs:=bars.map V.str) (fun i σ H'=>∃v1,σ=[~~~b,v1]/\zq H H') ⟨_,rfl,zq.refl _⟩ (fun i σ H' _ ⟨_,_,sH⟩=>zh (sH _ _ hb)) ?_ ?_
 ·rintro i x σ H' hx ⟨v1,rfl,sH⟩
  obtain⟨z,hz,rfl⟩:=strs_at hx;have nz:=hn z (aH hz);exists _,rfl,_,rfl,.inl ⟨z,rfl,qM nz⟩,fun H2 s2=>⟨_,rfl,?_⟩;rw[show nmV (.str z)=true from nz];refine x8 ?_;exact⟨_,rfl,sH.trans s2⟩
 ·rintro σ H' ⟨v1,rfl,sH⟩
  exact q _ sH
theorem zmg:([Str.ofString "parameter"]:List Str).Nodup:=by decide +kernel
theorem qp:zv ["parameters","bars","seen","name"] ["parameters","bars"] (zk zbf):=fsc
theorem zgZ(F:Fun K "refuse_twice" "refuse_twice" zbf f fd)(T:zcz w K mg G sg)(PP:Pcs K m c)(GB:↥1 m.fB gd ["self"] (j0 K m bnL))(bB:zU K gd ["self"] []):↥2 f fd ["parameters","bars"] (zlR c):=by
 specialize qp;obtain⟨a,b,ps,rows,bars,rfl,ha,hp,hok,l1,hb,l2,nd,q⟩:=h;have hC:∀C,Cs5 c C->Cls K C/\yW K C "by_name" m.fB:=fun C ⟨k,hk,e⟩=>by rw[e];exact⟨(PP k hk).cl,(PP k hk).mB⟩
 refine⟨_,zm (zx (i:=2) qp.nd rfl (Or.inl rfl) (zdd zfA rfl T.set (by decide +kernel:bootBuiltins "set"=some (.type "set"))))
  (zg (yS PassesOwn.never rfl (z7 (zo yr (wC [] ["parameter"] [none] rfl ⟨rfl,rfl,rfl,rfl⟩ (z7 (pv 0)) (ya 0) rfl rfl rfl
    (fun pins fp s H C=>⟨zr (i:=0) zmg rfl (Or.inl rfl) (.inr rfl),xl (y7 (xO (pv 0) hC GB hr bB zZ)),jj (K:=K) rfl (pv 0) rfl⟩)) (cTy yP T.lst PyProof.Rows.boot_list (ac (pv 1) zc)))) (zr (i:=3) qp.nd rfl (Or.inl rfl))
   (zm (zS (zw qG (pv 3) (pv 2) (by with_unfolding_all rfl)) (zg uq) zI)
   (zg (zW (ziL (pv 2) (pv 3) ⟨rfl,rfl,rfl,rfl⟩)))))),?_⟩
 exists rfl,fun se hse=>?_;have s1:zq H (upd H se (wM P w se (fun _=>false) 0)):=ze hse _;have g1:upd H se (wM P w se (fun _=>false) 0) se=some (wM P w se (fun _=>false) 0):=za;show vN _ _ _ _ (upd H se (wM P w se (fun _=>false) 0));generalize upd H se (wM P w se (fun _=>false) 0)=H1 at s1 g1 |-;have ha1:=s1 _ _ ha;have hp1:=z5 s1 hp;exists _,rfl,a,rfl,⟨_,zh ha1⟩,fun D hD=>?_;refine xx (K:=K) (xs:=ps.map V.ref) (fun i ys H'=>zq H1 H'/\H' D=some (.lst ys)/\ys=(nms (rows.take i)).map V.str) ⟨ze hD _,za,rfl⟩ (fun i ys H' h=>zh (h.1 _ _ ha1)) ?_ ?_
 ·rintro i x ys H' hlt hx ⟨sH,hDy,ey⟩
  obtain⟨pa,hpa,rfl⟩:=xR hx;obtain⟨r,hr',dx,hdx⟩:=yG hp1 hpa;have rok:=hok r (aH hr');have C:=PP r.k rok.1;have nl:ys.length<=i:=by
   rw[ey,aA];unfold nms;rw[aA];refine le_trans (length_filter_le _ _) ?_;rw[length_take];omega
  have hd2:=sH _ _ hdx;exists _,rfl,pa,_,dx,_,rfl,⟨r.k,rok.1,rfl⟩,hd2,vJ (by decide +kernel) (by decide +kernel) (by decide +kernel),pa,dx,_,_,_,_,rfl,C,hd2,_,rfl,?_
  rw[jU r.k rok.1];have tk:=zjf hr';exists fun e=>?_,fun e=>?_
  ·rw[e,aK rfl] at tk
   exists _,rfl,pa,_,dx,_,_,rfl,hd2,C.cl,C.nN,wR,?_;refine lcN.mk hlt (yg (by rw[aA,hp.length];omega)) hDy nl ⟨fun b u e=>?_,za,?_⟩
   ·rw[zj (zi e hD)]
    exact sH b u e
   ·rw[ey,tk,aE]
    rfl
  ·rw[e,aJ zft,append_nil] at tk
   exact lcS.mk hlt ⟨sH,hDy,by rw[ey,tk]⟩
 rintro ys H2 ⟨s2,hDy,ey⟩;have ey:ys=(nms rows).map V.str:=by
  rw[ey,aA,hp.length,take_length]
 subst ey;have hb2:=s2 _ _ (s1 _ _ hb);exists _,rfl,b,_,rfl,.inl (zh hb2),fun l hl=>?_
 injections l hl H3 s3 g3
 have ln:(nms rows).length<=500:=by
  unfold nms;rw[aA];exact le_trans (length_filter_le _ _) l1
 exists D,l,_,_,rfl,rfl,s3 _ _ hDy,g3,yg (by rw[aA,aA];omega),fun l4 hl4=>?_
 rw[<- aE];have s4:=ze hl4 (.lst ((nms rows++bars).map V.str));have g4:upd H3 l4 (.lst ((nms rows++bars).map V.str)) l4=some (.lst ((nms rows++bars).map V.str)):=za;have nse:l4≠se:=fun z=>by
  rw[z] at hl4;rw[s3 _ _ (s2 _ _ g1)] at hl4;cases hl4
 generalize upd H3 l4 (.lst ((nms rows++bars).map V.str))=H4 at s4 g4 |-;have sA:zq H1 H4:=s2.trans (s3.trans s4);have gse:=sA _ _ g1;refine⟨l4,rfl,⟨_,zh g4⟩,xE (K:=K) (a:=l4) (xs:=(nms rows++bars).map V.str) (fun i σ H'=>∃(S:Str->Bool) (n:Nat) (v3:Option V),σ=[~~~a,~~~b,~~~se,v3]/\H' se=some (wM P w se S n)/\(∀z,S z=decide (z∈(nms rows++bars).take i))/\n<=i/\(∀b' u,H4 b'=some u->b'≠se->H' b'=some u))
  ⟨_,0,_,rfl,gse,fun z=>by simp,le_refl _,fun b' u e _=>e⟩ (fun i σ H' _ ⟨_,_,_,_,_,_,_,k⟩=>zh (k _ _ g4 nse)) ?_ ?_⟩
 ·rintro i x σ H' hx ⟨S,n,v3,rfl,hS,hSz,hn,k⟩
  obtain⟨z,hz,rfl⟩:=strs_at hx;have hi:i<(nms rows++bars).length:=(List.getElem?_eq_some_iff.mp hz).1;have ez:(nms rows++bars)[i]=z:=by rw[aB hi] at hz;exact Option.some.inj hz
  have nz:S z=false:=by
   rw[hSz,decide_eq_false_iff_not];intro hm;obtain⟨j,hj,ej⟩:=List.mem_take_iff_getElem.mp hm
   have:=List.pairwise_iff_getElem.mp nd j i ∅ hi ∅
   exact this (ej.trans ez.symm)
  exists _,rfl,_,rfl,se,S,n,z,rfl,rfl,hS,_,rfl,?_;rw[nz];refine x8 ?_;exists _,rfl,se,S,n,rfl,hS,_,rfl,S,n,z,rfl,hS,?_,?_
  ·rw[aG] at hi
   show n+1<4096;omega
  ·exists _,_,_,rfl,za,fun y=>?_,?_,fun b' u e ne=>?_
   ·rw[hSz y,take_succ_eq_append_getElem hi,ez]
    simp [mem_append]
   ·rw[nz]
    show n+1<=i+1;omega
   ·rw[zj ne]
    exact k b' u e ne
 ·rintro σ H' ⟨S,n,v3,rfl,hS,hSz,hn,k⟩
  refine q _ fun b' u e=>k b' u (sA _ _ (s1 _ _ e)) fun z=>?_;rw[z,hse] at e;cases e
def SX(f:Addr)(H H':Hp):Prop:=∀b u,H b=some u->b≠f->H' b=some u
theorem SX.same(x:SX f H H1)(s:zq H1 H2):SX f H H2:=fun b u e n=>s b u (x b u e n)
theorem SX.upd(x:SX f H H1):SX f H (upd H1 f o):=fun b u e n=>by rw[zj n];exact x b u e n
theorem SX.refl:SX f H H:=fun _ _ e _=>e
theorem vz(f:Str)(v:V):∀fs:List (Str×V),(z4 f v fs).length<=fs.length+1
 | []=>le_refl _
 | (g,x)::r=>by
  show(if g=f then (g,v)::r else (g,x)::z4 f v r).length<=_
  split
  ·simp
  ·have:=vz f v r
   simp only[length_cons];omega
def Pre(fs:List (Str×V)):Prop:=fs.length<=50/\∀m,m∉zh8->fs.lookup m=none
structure FC(K:Frag)(CF:Addr):Prop where
 cl:Cls K CF
 n1:yJ K CF "row"
 n2:yJ K CF "bar_names"
 n3:yJ K CF "place_count"
 n4:yJ K CF "tail_number"
 n5:yJ K CF "bag_number"
 n6:yJ K CF "doors"
inductive zcK(c:C5)(CF:Addr)(vs:List V)(H:Hp)(Q:VK)(E:XK):Prop|mk(f a b dx:Addr)(fs:List (Str×V))(ps:List Addr)(rows:List Rw)(bars:List Str):vs=[.ref f,.ref a,.ref b]->H f=some (.ins CF dx fs)->Pre fs->H a=some (.lst (ps.map V.ref))->Paired (PAt c H) ps rows->(∀r∈rows,r.ok)->rows.length<=500->H b=some (.lst (bars.map V.str))->(∀H',SX f H H'->jY c CF H H' f rows bars->(∃dx' fs',H' f=some (.ins CF dx' fs')/\fs'.length<=fs.length+6)->Q .non H')->zcK c CF vs H Q E
theorem ziH{rows:List Rw}{i:Nat}{r:Rw}(h:rows[i]?=some r):plN (rows.take (i+1))=plN (rows.take i)+(if xV r.k=true then 1 else 0):=by
 have hi:i<rows.length:=(List.getElem?_eq_some_iff.mp h).1;have e:rows[i]=r:=by rw[aB hi] at h;exact Option.some.inj h
 unfold plN;rw[take_succ_eq_append_getElem hi,filter_append,aG,e];cases hb:xV r.k <;> simp [hb]
theorem zaQ:∀(rows:List Rw) (i:Nat) (acc:List (Key×V)),(xn i acc rows).length<=acc.length+rows.length
 | [],_,_=>le_refl _
 | r::rs,i,acc=>by
  have h:=zaQ rs (i+1) (if yt r.k=true then xB acc (.inr r.z) (.int i) else acc)
  have h2:(if yt r.k=true then xB acc (.inr r.z) (.int i) else acc).length<=acc.length+1:=by
   split
   ·exact ww acc _ _
   ·omega
  show(xn (i+1) _ rs).length<=acc.length+(rs.length+1);omega
theorem jW{r:Rw}:∀(rows:List Rw) (j i:Nat) (acc:List (Key×V)),rows[i]?=some r->xn j acc (rows.take (i+1))=(if yt r.k=true then xB (xn j acc (rows.take i)) (.inr r.z) (.int (j+i:Nat)) else xn j acc (rows.take i))
 | [],_,_,_,h=>by simp at h
 | r0::rs,j,0,acc,h=>by
  have e:r0=r:=by simpa using h
  subst e;show(if yt r0.k=true then xB acc (.inr r0.z) (.int j) else acc)=_
  rfl
 | r0::rs,j,i+1,acc,h=>by
  have:=jW rs (j+1) i (if yt r0.k=true then xB acc (.inr r0.z) (.int j) else acc) (by simpa using h)
  show xn (j+1) _ (rs.take (i+1))=_;rw[this,show j+1+i=j+(i+1) by omega]
  rfl
variable {CF:Addr}
theorem PAt.ne(h:PAt c H p r)(e:H f=some (.ins CF dx fs))(n:fs.lookup ("word" : Str)=none):p≠f:=fun z=>by
 obtain⟨d,h⟩:=h;rw[z,e] at h;injection h with h
 injection h with h1 h2 h3
 rw[h3,ji] at n;cases n
theorem jk(e:H f=some (.ins CF dx fs))(n:fs.lookup ("word" : Str)=none)(x:SX f H H')(h:Paired (PAt c H) ps rows):Paired (PAt c H') ps rows:=
 zu (fun _ _ z=>by
  have ne:=z.ne e n;obtain⟨d,q⟩:=z;exact⟨d,x _ _ q ne⟩) h
theorem zmq:([Str.ofString "at",Str.ofString "parameter"]:List Str).Nodup:=by decide +kernel
theorem zkv:zv ["self","parameters","bars"] ["self","parameters","bars"] (zk zgk):=fsc
theorem zi6(F:Fun K "keep" "Form.keep" zgk f fd)(T:zcz w K mg G sg)(PP:Pcs K m c)(FK:FC K CF)(cW:⇑1 "number_of_word" g gd ["parameters","word"] (zlU c))
  (GP:↥1 m.fP gp ["self"] (j0 K m bpL)) (bP:zU K gp ["self"] []) (GB:↥1 m.fB gb ["self"] (j0 K m bnL)) (bB:zU K gb ["self"] []):↥2 f fd ["self","parameters","bars"] (zcK c CF):=by
 specialize zkv;obtain⟨f,a,b,dx,fs,ps,rows,bars,rfl,hf,⟨pl,pn⟩,ha,hp,hok,l5,hb,q⟩:=h;have hP:∀C,Cs5 c C->Cls K C/\yW K C "by_place" m.fP:=fun C ⟨k,hk,e⟩=>by rw[e];exact⟨(PP k hk).cl,(PP k hk).mP⟩
 have hB:∀C,Cs5 c C->Cls K C/\yW K C "by_name" m.fB:=fun C ⟨k,hk,e⟩=>by rw[e];exact⟨(PP k hk).cl,(PP k hk).mB⟩
 have nw:fs.lookup ("word" : Str)=none:=pn _ (by decide +kernel)
 refine⟨_,zm (wz (pv 0) (cTy yP T.lst PyProof.Rows.boot_list (ac (pv 1) zc)) rfl)
  (zm (wz (pv 0) (cTy yP T.lst PyProof.Rows.boot_list (ac (pv 2) zc)) rfl)
  (zm (wz (pv 0) (cB zO T.len PySem.boot_len (ac (wC [] ["parameter"] [none] rfl ⟨rfl,rfl,rfl,rfl⟩ (z7 (yI (pv 0) rfl)) (ya 0) rfl rfl rfl
    (fun pins fp s H C=>⟨zr (i:=0) zmg rfl (Or.inl rfl) (.inr rfl),xl (y7 (xO (pv 0) hP GP hr bP zZ)),pv 0⟩)) zc)) rfl)
  (zm (wz (pv 0) (cF cW hr (ac (yI (pv 0) rfl) (ac zy zc))) rfl)
  (zm (wz (pv 0) (cF cW hr (ac (yI (pv 0) rfl) (ac zy zc))) rfl)
  (zg (wz (pv 0) (zma [] ["at","parameter"] [none,none] rfl ⟨rfl,rfl,rfl,rfl⟩ (wc rfl T.en (ac (yI (pv 0) rfl) zc)) (xY (K:=K) (n:=2) 0 1) rfl rfl rfl
    (fun pins fp s H C=>⟨yB rfl (zB (zr (i:=0) zmq rfl (Or.inl rfl) (.inr rfl)) (zB (zr (i:=1) zmq rfl (Or.inl rfl) (.inr rfl)) yi)),xl (y7 (xO (pv 1) hB GB hr bB zZ)),jj (K:=K) rfl (pv 1) rfl,pv 0⟩)) rfl)))))),?_⟩
 exists _,rfl,a,_,rfl,.inl (zh ha),fun l1 hl1=>?_;have s1:=ze hl1 (.lst (ps.map V.ref));exists _,rfl,f,CF,dx,fs,rfl,s1 _ _ hf,FK.cl,FK.n1,∅,?_
 have x1:SX f H (upd (upd H l1 (.lst (ps.map V.ref))) f (.ins CF dx (z4 "row" (.ref l1) fs))):=(SX.refl.same s1).upd;have f1:upd (upd H l1 (.lst (ps.map V.ref))) f (.ins CF dx (z4 "row" (.ref l1) fs)) f=some (.ins CF dx (z4 "row" (.ref l1) fs)):=za;have e1:upd (upd H l1 (.lst (ps.map V.ref))) f (.ins CF dx (z4 "row" (.ref l1) fs)) l1=some (.lst (ps.map V.ref)):=by
  rw[zj (fun z=>by rw[z,hf] at hl1;cases hl1),za]
 have p1:=vz "row" (.ref l1) fs;have r1:(z4 "row" (.ref l1) fs).lookup ("row" : Str)=some (.ref l1):=by rw[zp,aK rfl]
 show vN _ _ _ _ (upd (upd H l1 (.lst (ps.map V.ref))) f (.ins CF dx (z4 "row" (.ref l1) fs)));generalize upd (upd H l1 (.lst (ps.map V.ref))) f (.ins CF dx (z4 "row" (.ref l1) fs))=H1 at x1 f1 e1 |-;have nbf:b≠f:=xq hb hf (by intro z;cases z)
 exists _,rfl,b,_,rfl,.inl (zh (x1 _ _ hb nbf)),fun l2 hl2=>?_;have s2:=ze hl2 (.lst (bars.map V.str));have hlb:H l2=none:=by
  cases e:H l2 with
  | none=>rfl
  | some u=>exact absurd (x1 _ _ e (fun z=>by rw[z,f1] at hl2;cases hl2)) (by rw[hl2];intro z;cases z)
 exists _,rfl,f,CF,dx,_,rfl,s2 _ _ f1,FK.cl,FK.n2,∅,?_
 have x2:SX f H (upd (upd H1 l2 (.lst (bars.map V.str))) f (.ins CF dx (z4 "bar_names" (.ref l2) (z4 "row" (.ref l1) fs)))):=(x1.same s2).upd;have f2:upd (upd H1 l2 (.lst (bars.map V.str))) f (.ins CF dx (z4 "bar_names" (.ref l2) (z4 "row" (.ref l1) fs))) f=some (.ins CF dx (z4 "bar_names" (.ref l2) (z4 "row" (.ref l1) fs))):=za;have g2:upd (upd H1 l2 (.lst (bars.map V.str))) f (.ins CF dx (z4 "bar_names" (.ref l2) (z4 "row" (.ref l1) fs))) l2=some (.lst (bars.map V.str)):=by
  rw[zj (fun z=>by rw[z,f1] at hl2;cases hl2),za]
 have e2:upd (upd H1 l2 (.lst (bars.map V.str))) f (.ins CF dx (z4 "bar_names" (.ref l2) (z4 "row" (.ref l1) fs))) l1=some (.lst (ps.map V.ref)):=by
  rw[zj (xq e1 f1 (by intro z;cases z)),s2 _ _ e1]
 have p2:=vz "bar_names" (.ref l2) (z4 "row" (.ref l1) fs);have r2:(z4 "bar_names" (.ref l2) (z4 "row" (.ref l1) fs)).lookup ("row" : Str)=some (.ref l1):=by rw[zp,aJ (by decide +kernel)];exact r1
 show vN _ _ _ _ (upd (upd H1 l2 (.lst (bars.map V.str))) f (.ins CF dx (z4 "bar_names" (.ref l2) (z4 "row" (.ref l1) fs))));generalize hfs2:z4 "bar_names" (.ref l2) (z4 "row" (.ref l1) fs)=fs2 at f2 e2 g2 p2 r2 x2 |-;generalize upd (upd H1 l2 (.lst (bars.map V.str))) f (.ins CF dx fs2)=H2 at x2 f2 e2 g2 |-;have hp2:=jk hf nw x2 hp;exists _,rfl,f,CF,dx,_,_,rfl,f2,FK.cl,FK.n1,r2,l1,rfl,⟨_,zh e2⟩,fun D hD=>?_;refine xx (K:=K) (xs:=ps.map V.ref) (fun i ys H'=>zq H2 H'/\H' D=some (.lst ys)/\ys.length=plN (rows.take i)) ⟨ze hD _,za,rfl⟩ (fun i ys H' h=>zh (h.1 _ _ e2)) ?_ ?_
 ·rintro i x ys H' hlt hx ⟨sH,hDy,ey⟩
  obtain⟨pa,hpa,rfl⟩:=xR hx;obtain⟨r,hr',dx',hdx⟩:=yG hp2 hpa;have rok:=hok r (aH hr');have C:=PP r.k rok.1;have nl:ys.length<=i:=by
   rw[ey];unfold plN;refine le_trans (length_filter_le _ _) ?_;rw[length_take];omega
  have hd2:=sH _ _ hdx;exists _,rfl,pa,_,dx',_,rfl,⟨r.k,rok.1,rfl⟩,hd2,vJ (by decide +kernel) (by decide +kernel) (by decide +kernel),pa,dx',_,_,_,_,rfl,C,hd2,_,rfl,?_
  rw[zhJ r.k rok.1];have tk:=ziH hr';exists fun e=>?_,fun e=>?_
  ·rw[e,aK rfl] at tk
   exists _,rfl,lcN.mk hlt (yg (by rw[aA,hp.length];omega)) hDy nl ⟨fun b u e=>?_,za,?_⟩
   ·rw[zj (zi e hD)]
    exact sH b u e
   ·rw[aG,ey,tk]
    rfl
  ·rw[e,aJ zft] at tk
   exact lcS.mk hlt ⟨sH,hDy,by rw[ey,tk];rfl⟩
 rintro ys H3 ⟨s3,hDy,ey⟩;rw[aA,hp.length,take_length] at ey;exists D,_,rfl,.inl (zh hDy),?_;rw[ey];have x3:=x2.same s3;exists _,rfl,f,CF,dx,_,rfl,s3 _ _ f2,FK.cl,FK.n3,∅,?_
 have f3:upd H3 f (.ins CF dx (z4 "place_count" (.int (plN rows:Nat)) fs2)) f=some (.ins CF dx (z4 "place_count" (.int (plN rows:Nat)) fs2)):=za;have x4:SX f H (upd H3 f (.ins CF dx (z4 "place_count" (.int (plN rows:Nat)) fs2))):=x3.upd;have e4:upd H3 f (.ins CF dx (z4 "place_count" (.int (plN rows:Nat)) fs2)) l1=some (.lst (ps.map V.ref)):=by rw[zj (xq e2 f2 (by intro z;cases z))];exact s3 _ _ e2
 have g4:upd H3 f (.ins CF dx (z4 "place_count" (.int (plN rows:Nat)) fs2)) l2=some (.lst (bars.map V.str)):=by rw[zj (xq g2 f2 (by intro z;cases z))];exact s3 _ _ g2
 have p3:=vz "place_count" (.int (plN rows:Nat)) fs2;have r3:(z4 "place_count" (.int (plN rows:Nat)) fs2).lookup ("row" : Str)=some (.ref l1):=by rw[zp,aJ (by decide +kernel)];exact r2
 show vN _ _ _ _ (upd H3 f (.ins CF dx (z4 "place_count" (.int (plN rows:Nat)) fs2)));generalize hfs3:z4 "place_count" (.int (plN rows:Nat)) fs2=fs3 at f3 x4 e4 g4 p3 r3 |-;generalize upd H3 f (.ins CF dx fs3)=H4 at x4 f3 e4 g4 |-;exists _,rfl,f,CF,dx,_,_,rfl,f3,FK.cl,FK.n1,r3,l1,ps,rows,2,rfl,⋯,e4,jk hf nw x4 hp,hok,fun H5 s5=>?_
 exists _,rfl,f,CF,dx,_,rfl,s5 _ _ f3,FK.cl,FK.n4,∅,?_
 have f5:upd H5 f (.ins CF dx (z4 "tail_number" (wB (zN 2 0 rows)) fs3)) f=some (.ins CF dx (z4 "tail_number" (wB (zN 2 0 rows)) fs3)):=za;have x5:SX f H (upd H5 f (.ins CF dx (z4 "tail_number" (wB (zN 2 0 rows)) fs3))):=(x4.same s5).upd;have e5:upd H5 f (.ins CF dx (z4 "tail_number" (wB (zN 2 0 rows)) fs3)) l1=some (.lst (ps.map V.ref)):=by rw[zj (xq e4 f3 (by intro z;cases z))];exact s5 _ _ e4
 have g5:upd H5 f (.ins CF dx (z4 "tail_number" (wB (zN 2 0 rows)) fs3)) l2=some (.lst (bars.map V.str)):=by rw[zj (xq g4 f3 (by intro z;cases z))];exact s5 _ _ g4
 have p4:=vz "tail_number" (wB (zN 2 0 rows)) fs3;have r4:(z4 "tail_number" (wB (zN 2 0 rows)) fs3).lookup ("row" : Str)=some (.ref l1):=by rw[zp,aJ (by decide +kernel)];exact r3
 show vN _ _ _ _ (upd H5 f (.ins CF dx (z4 "tail_number" (wB (zN 2 0 rows)) fs3)));generalize hfs4:z4 "tail_number" (wB (zN 2 0 rows)) fs3=fs4 at f5 x5 e5 g5 p4 r4 |-;generalize upd H5 f (.ins CF dx fs4)=H6 at x5 f5 e5 g5 |-;exists _,rfl,f,CF,dx,_,_,rfl,f5,FK.cl,FK.n1,r4,l1,ps,rows,4,rfl,⋯,e5,jk hf nw x5 hp,hok,fun H7 s7=>?_
 exists _,rfl,f,CF,dx,_,rfl,s7 _ _ f5,FK.cl,FK.n5,∅,?_
 have f7:upd H7 f (.ins CF dx (z4 "bag_number" (wB (zN 4 0 rows)) fs4)) f=some (.ins CF dx (z4 "bag_number" (wB (zN 4 0 rows)) fs4)):=za;have x7:SX f H (upd H7 f (.ins CF dx (z4 "bag_number" (wB (zN 4 0 rows)) fs4))):=(x5.same s7).upd;have e7:upd H7 f (.ins CF dx (z4 "bag_number" (wB (zN 4 0 rows)) fs4)) l1=some (.lst (ps.map V.ref)):=by rw[zj (xq e5 f5 (by intro z;cases z))];exact s7 _ _ e5
 have g7:upd H7 f (.ins CF dx (z4 "bag_number" (wB (zN 4 0 rows)) fs4)) l2=some (.lst (bars.map V.str)):=by rw[zj (xq g5 f5 (by intro z;cases z))];exact s7 _ _ g5
 have p5:=vz "bag_number" (wB (zN 4 0 rows)) fs4;have r5:(z4 "bag_number" (wB (zN 4 0 rows)) fs4).lookup ("row" : Str)=some (.ref l1):=by rw[zp,aJ (by decide +kernel)];exact r4
 generalize hfs5:z4 "bag_number" (wB (zN 4 0 rows)) fs4=fs5 at f7 x7 e7 g7 p5 r5 |-;generalize upd H7 f (.ins CF dx fs5)=H8 at x7 f7 e7 g7 |-;have hp8:=jk hf nw x7 hp;exists _,rfl,f,CF,dx,_,_,rfl,f7,FK.cl,FK.n1,r5,l1,rfl,⟨_,zh e7⟩,fun D2 hD2=>?_;refine zjE (K:=K) (xs:=ps.map V.ref) (fun i ys H'=>zq H8 H'/\H' D2=some (.dK ys)/\ys=xn 0 [] (rows.take i)) ⟨ze hD2 _,za,rfl⟩ (fun i ys H' h=>zh (h.1 _ _ e7)) ?_ ?_
 ·rintro i x p ys H' hlt hx ⟨sH,hDy,ey⟩ hpn
  obtain⟨pa,hpa,rfl⟩:=xR hx;obtain⟨r,hr',dx',hdx⟩:=yG hp8 hpa;have rok:=hok r (aH hr');have C:=PP r.k rok.1;have sp:=ze hpn (.tup [.int (i:Nat),.ref pa]);have hd2:=sp _ _ (sH _ _ hdx);have hDp:upd H' p (.tup [.int (i:Nat),.ref pa]) D2=some (.dK ys):=by rw[zj (zi hDy hpn)];exact hDy
  have nl:ys.length<=i:=by
   rw[ey];refine le_trans (zaQ _ _ _) ?_;rw[length_take];show 0+_<=i;omega
  exists p,_,rfl,zF za,rfl,_,_,rfl,_,_,rfl,rfl,?_;exists _,rfl,pa,_,dx',_,rfl,⟨r.k,rok.1,rfl⟩,hd2,vJ (by decide +kernel) (by decide +kernel) (by decide +kernel),pa,dx',_,_,_,_,rfl,C,hd2,_,rfl,?_
  rw[jU r.k rok.1];have tk:=jW rows 0 i [] hr';exists fun e=>?_,fun e=>?_
  ·rw[e,aK rfl] at tk
   exists _,rfl,pa,_,dx',_,_,rfl,hd2,C.cl,C.nN,wR,_,rfl,dcN.mk (.inr r.z) hlt rfl (yg (by rw[aA,hp.length];omega)) hDp nl ⟨fun b u e=>?_,za,?_⟩
   ·rw[zj (zi e hD2)]
    exact sp _ _ (sH b u e)
   ·rw[tk,<- ey,Nat.zero_add]
  ·rw[e,aJ zft] at tk
   exact dcS.mk hlt ⟨sH.trans sp,hDp,by rw[ey,tk]⟩
 rintro ys H9 ⟨s9,hDy,ey⟩;rw[aA,hp.length,take_length] at ey;exists _,rfl,f,CF,dx,_,rfl,s9 _ _ f7,FK.cl,FK.n6,∅,?_
 have nf:∀{x:Addr}{o:HO},H9 x=some o->(∀C d g,o≠.ins C d g)->upd H9 f (.ins CF dx (z4 "doors" (.ref D2) fs5)) x=some o:=fun {x o} e n=>by
  rw[zj (xq e (s9 _ _ f7) (by intro z;exact n _ _ _ z))]
  exact e
 refine q _ (x7.same s9).upd ⟨dx,_,l1,l2,D2,ps,za,?_,nf (s9 _ _ e7) (by intro _ _ _ z;cases z),jk hf nw (x7.same s9).upd hp,nf (s9 _ _ g7) (by intro _ _ _ z;cases z),nf (by rw[hDy,ey]) (by intro _ _ _ z;cases z),hl1,hlb⟩ ⟨dx,_,za,le_trans (vz _ _ _) ∅⟩
 rw[<- hfs5,<- hfs4,<- hfs3,<- hfs2];exists ?_,?_,?_,?_,?_,?_,fun mm hm=>?_
 ·rw[zp,aJ (by decide +kernel),zp,aJ (by decide +kernel),zp,aJ (by decide +kernel),zp,aJ (by decide +kernel),zp,aJ (by decide +kernel),zp,aK rfl]
 ·rw[zp,aJ (by decide +kernel),zp,aJ (by decide +kernel),zp,aJ (by decide +kernel),zp,aJ (by decide +kernel),zp,aK rfl]
 ·rw[zp,aJ (by decide +kernel),zp,aJ (by decide +kernel),zp,aJ (by decide +kernel),zp,aK rfl]
 ·rw[zp,aJ (by decide +kernel),zp,aJ (by decide +kernel),zp,aK rfl]
 ·rw[zp,aJ (by decide +kernel),zp,aK rfl]
 ·rw[zp,aK rfl]
 ·have h':∀a∈zh8,¬mm=a:=fun a ha e=>hm (e ▸ ha)
  rw[zp,aJ (h' _ (by decide +kernel)),zp,aJ (h' _ (by decide +kernel)),zp,aJ (h' _ (by decide +kernel)),zp,aJ (h' _ (by decide +kernel)),zp,aJ (h' _ (by decide +kernel)),zp,aJ (h' _ (by decide +kernel))]
  exact pn mm hm
inductive zim(c:C5)(CF:Addr)(vs:List V)(H:Hp)(Q:VK)(E:XK):Prop|mk(f a dx:Addr)(bv:V)(ps:List Addr)(rows:List Rw)(bars:List Str):vs=[.ref f,.ref a,bv]->H f=some (.ins CF dx [])->H a=some (.lst (ps.map V.ref))->Paired (PAt c H) ps rows->((bv=.non/\bars=[])\/∃b,bv=.ref b/\H b=some (.lst (bars.map V.str)))->zcy rows bars->(∀H',SX f H H'->jY c CF H H' f rows bars->(∃dx' fs',H' f=some (.ins CF dx' fs')/\fs'.length<=6)->Q .non H')->zim c CF vs H Q E
inductive vR(c:C5)(CF:Addr)(vs:List V)(H:Hp)(Q:VK)(E:XK):Prop|mk(f:Addr)(rows:List Rw)(bars:List Str):vs=[.ref f]->xN c CF H f rows bars->(∀(l:Addr) (ps:List Addr) (H':Hp),zq H H'->H l=none->H' l=some (.lst (ps.map V.ref))->Paired (PAt c H') ps rows->Q (.ref l) H')->vR c CF vs H Q E
inductive za4(c:C5)(CF:Addr)(vs:List V)(H:Hp)(Q:VK)(E:XK):Prop|mk(f:Addr)(rows:List Rw)(bars:List Str):vs=[.ref f]->xN c CF H f rows bars->(∀(l:Addr) (H':Hp),zq H H'->H l=none->H' l=some (.lst (bars.map V.str))->Q (.ref l) H')->za4 c CF vs H Q E
inductive wL(c:C5)(CF:Addr)(vs:List V)(H:Hp)(Q:VK)(E:XK):Prop|mk(f:Addr)(rows:List Rw)(bars:List Str):vs=[.ref f]->xN c CF H f rows bars->(Q (.int (plN rows:Nat)) H)->wL c CF vs H Q E
inductive vP(c:C5)(CF:Addr)(kk:Nat)(vs:List V)(H:Hp)(Q:VK)(E:XK):Prop|mk(f:Addr)(rows:List Rw)(bars:List Str):vs=[.ref f]->xN c CF H f rows bars->(Q (wB (zN kk 0 rows)) H)->vP c CF kk vs H Q E
inductive zfS(c:C5)(CF:Addr)(vs:List V)(H:Hp)(Q:VK)(E:XK):Prop|mk(f:Addr)(z:Str)(rows:List Rw)(bars:List Str):vs=[.ref f,.str z]->xN c CF H f rows bars->(Q ((yq (xn 0 [] rows) (.inr z)).getD .non) H)->zfS c CF vs H Q E
def TAt(H:Hp)(u:Addr)(r:Rw):Prop:=H u=some (.tup (rv r))
theorem zL(s:zq H H')(h:Paired (TAt H) us rows):Paired (TAt H') us rows:=zu (fun _ _ z=>s _ _ z) h
theorem zd6:zv ["self","parameters","bars","names"] ["self","parameters","bars"] (zk zc6):=fsc
theorem zhl(F:zap K "__init__" "Form.__init__" zc6 f fd ds)(FK:FC K CF)(mK:yW K CF "keep" g5)
  (cM:⇑1 "refuse_too_many" g1 e1 ["parameters","bars"] (zfT K)) (cO:⇑1 "refuse_bad_order" g2 e2 ["parameters"] (zjV c)) (cB':⇑2 "refuse_bars_without_name" g3 e3 ["bars"] zlS) (cT:⇑2 "refuse_twice" g4 e4 ["parameters","bars"] (zlR c))
  (GK:↥2 g5 e5 ["self","parameters","bars"] (zcK c CF)) (bK:zU K e5 ["self","parameters","bars"] []):↥3 f fd ["self","parameters","bars"] (zim c CF):=by
 refine F.ok zd6 (fun vs H Q E h=>?_) (fun cdv A outer s H vs Q E hr h=>?_)
 ·obtain⟨f,a,dx,bv,ps,rows,bars,rfl,_⟩:=h
  rfl
 obtain⟨f,a,dx,bv,ps,rows,bars,rfl,hf,ha,hp,hb,V',q⟩:=h;have hr1:yl 1 _:=hr.mono ⋯
 refine⟨_,zm (zx (i:=3) zd6.nd rfl (Or.inl rfl) (qE (xT (wA (pv 2))) (zP zc) (pv 2)))
  (zm (zW (cF cM hr1 (ac (pv 1) (ac (pv 3) zc))))
  (zm (zW (cF cO hr1 (ac (pv 1) zc)))
  (zm (zW (cF cB' hr (ac (pv 3) zc)))
  (zm (zW (cF cT hr (ac (pv 1) (ac (pv 3) zc))))
  (zg (zW (ur (pv 0) FK.cl mK GK hr bK .nil zZ (ac (pv 1) (ac (pv 3) zc))))))))),?_⟩
 try dsimp only
 refine xj (fun σ' H'=>∃b,σ'=[~~~f,~~~a,some bv,~~~b]/\zq H H'/\H' b=some (.lst (bars.map V.str))) ?_ (fun key=>?_);rotate_left
 ·rcases hb with ⟨rfl,rfl⟩|⟨b,rfl,hb⟩
  ·exists _,rfl,_,rfl,?_
   refine dT rfl ?_;exists xS,fun l hl=>?_;exact key _ _ ⟨l,rfl,ze hl _,za⟩
  ·exists _,rfl,_,rfl,?_
   refine dF (by intro z;cases z) ?_
   exact⟨_,rfl,key _ _ ⟨b,rfl,zq.refl _,hb⟩⟩
 rintro σ1 H1 ⟨b,rfl,s1,hb1⟩;have ha1:=s1 _ _ ha;exists _,rfl,_,rfl,a,b,_,_,rfl,zh ha1,zh hb1,(by rw[aA,hp.length];exact V'.l24),(by rw[aA];exact V'.l60),?_
 exists _,rfl,a,ps,rows,rfl,ha1,z5 s1 hp,V'.ok,V'.ord,fun H2 s2=>?_;exists _,rfl,b,bars,rfl,s2 _ _ hb1,V'.bn,fun H3 s3=>?_;have s13:=s1.trans (s2.trans s3);exists _,rfl,_,rfl,a,b,ps,rows,bars,rfl,s13 _ _ ha,z5 s13 hp,V'.ok,le_trans V'.l24 ⋯,s3 _ _ (s2 _ _ hb1),le_trans V'.l60 ⋯,V'.nd,fun H4 s4=>?_
 have s14:=s13.trans s4;exists _,rfl,f,dx,_,rfl,s14 _ _ hf,rfl,_,rfl,_,rfl,f,a,b,dx,[],ps,rows,bars,rfl,s14 _ _ hf,⟨⋯,fun _ _=>rfl⟩,s14 _ _ ha,z5 s14 hp,V'.ok,le_trans V'.l24 ⋯,s4 _ _ (s3 _ _ (s2 _ _ hb1)),fun H5 x5 F5 L5=>?_
 exact q _ (fun b' u e n=>x5 b' u (s14 _ _ e) n) (F5.of s14) L5
theorem zix:zv ["self"] ["self"] (zk zc5):=fsc
theorem zhk(F:Fun K "parameters" "Form.parameters" zc5 f fd)(T:zcz w K mg G sg)(FK:FC K CF):↥1 f fd ["self"] (vR c CF):=by
 specialize zix;obtain⟨f,rows,bars,rfl,⟨dx,fs,lr,lb,ld,ps,h1,h2,h3,h4,h5,h6⟩,q⟩:=h;exists _,zg (zA (cTy yP T.lst PyProof.Rows.boot_list (ac (yI (pv 0) rfl) zc))),?_;exists _,rfl,f,CF,dx,_,_,rfl,h1,FK.cl,FK.n1,h2.row,lr,_,rfl,.inl (zh h3),fun l hl=>?_;have s1:=ze hl (.lst (ps.map V.ref));exact q l ps _ s1 hl za (z5 s1 h4)
theorem ziy:zv ["self"] ["self"] (zk zc8):=fsc
theorem zhm(F:Fun K "bars" "Form.bars" zc8 f fd)(T:zcz w K mg G sg)(FK:FC K CF):↥1 f fd ["self"] (za4 c CF):=by
 specialize ziy;obtain⟨f,rows,bars,rfl,⟨dx,fs,lr,lb,ld,ps,h1,h2,h3,h4,h5,h6⟩,q⟩:=h;exists _,zg (zA (cTy yP T.lst PyProof.Rows.boot_list (ac (yI (pv 0) rfl) zc))),?_;exists _,rfl,f,CF,dx,_,_,rfl,h1,FK.cl,FK.n2,h2.bn,lb,_,rfl,.inl (zh h5),fun l hl=>?_;exact q l _ (ze hl _) hl za
theorem zeS:zv ["self"] ["self"] (zk qz):=fsc
theorem zdf(F:Fun K "places" "Form.places" qz f fd)(FK:FC K CF):↥1 f fd ["self"] (wL c CF):=by
 specialize zeS;obtain⟨f,rows,bars,rfl,⟨dx,fs,lr,lb,ld,ps,h1,h2,h3,h4,h5,h6⟩,q⟩:=h;exact⟨_,zg (zA (yI (pv 0) rfl)),_,rfl,f,CF,dx,_,_,rfl,h1,FK.cl,FK.n3,h2.pc,q⟩
theorem ziw:zv ["self"] ["self"] (zk zc4):=fsc
theorem zhi(F:Fun K "tail" "Form.tail" zc4 f fd)(FK:FC K CF):↥1 f fd ["self"] (vP c CF 2):=by
 specialize ziw;obtain⟨f,rows,bars,rfl,⟨dx,fs,lr,lb,ld,ps,h1,h2,h3,h4,h5,h6⟩,q⟩:=h;exact⟨_,zg (zA (yI (pv 0) rfl)),_,rfl,f,CF,dx,_,_,rfl,h1,FK.cl,FK.n4,h2.tn,q⟩
theorem zkz:zv ["self"] ["self"] (zk zgr):=fsc
theorem zjc(F:Fun K "bag" "Form.bag" zgr f fd)(FK:FC K CF):↥1 f fd ["self"] (vP c CF 4):=by
 specialize zkz;obtain⟨f,rows,bars,rfl,⟨dx,fs,lr,lb,ld,ps,h1,h2,h3,h4,h5,h6⟩,q⟩:=h;exact⟨_,zg (zA (yI (pv 0) rfl)),_,rfl,f,CF,dx,_,_,rfl,h1,FK.cl,FK.n5,h2.bg,q⟩
theorem zky:zv ["self","name"] ["self","name"] (zk zgq):=fsc
theorem zja(F:Fun K "number_of" "Form.number_of" zgq f fd)(FK:FC K CF):↥1 f fd ["self","name"] (zfS c CF):=by
 specialize zky;obtain⟨f,z,rows,bars,rfl,⟨dx,fs,lr,lb,ld,ps,h1,h2,h3,h4,h5,h6⟩,q⟩:=h;exists _,zg (zA (zgI (zes hr) (yI (pv 0) rfl) (pv 1) ⟨rfl,rfl,rfl,rfl⟩)),?_;exists _,rfl,f,CF,dx,_,_,rfl,h1,FK.cl,FK.n6,h2.dr,ld,rfl,?_,_,rfl,_,.inl ⟨_,.inr z,.inl h6,rfl,rfl⟩,q;exact .inl ⟨_,.inl h6⟩
end
end K64
namespace L2
open PySem PySem.Spec PyProof.Rows
section
variable {H:Hp}
theorem Inv.freeze(I:Inv X pins σ H s)(hl:H l=some (.dK kvs)):∃o,s.heap.get? l=some o/\Inv X pins σ (upd H l (.frz o (.dK kvs))) s:=by
 obtain⟨hz,hy,vs,r,o,es,ep,ho,c⟩:=id (I.hok l _ hl);exists o,ho,⟨I.ok,I.os,I.bare,⟨I.base.keep,I.base.slot,fun b u e n x=>?_,I.base.there,fun b xs e=>?_,fun b u v e=>?_,fun b ps e=>?_⟩,I.loc,I.cell,?_,fun x c e=>?_,fun p hp'=>?_,fun b u e=>?_,I.len⟩
 ·have e1:=I.base.free b u e n x
  rw[zj (zi hl e1).symm];exact e1
 ·have e1:=I.base.tups b xs e
  rw[zj (xq e1 hl (by intro z;cases z))];exact e1
 ·have e1:=I.base.frzs b u v e
  rw[zj (xq e1 hl (by intro z;cases z))];exact e1
 ·obtain⟨more,e1⟩:=I.base.tbls b ps e
  exact⟨more,by rw[zj (xq e1 hl (by intro z;cases z))];exact e1⟩
 ·rw[zj (zi hl I.free).symm];exact I.free
 ·rw[zj (zi hl (I.freeC x c e)).symm];exact I.freeC x c e
 ·obtain⟨q1,q2,q3⟩:=I.pin p hp'
  exact⟨q1,by rw[zj (zi hl q2).symm];exact q2,q3⟩
 ·have ho':∀c,∀b,H b=some (.own c)->upd H l (.frz o (.dK kvs)) b=some (.own c):=fun c b q=>by rw[zj (xq q hl (by intro z;cases z))];exact q
  have ht':∀b xs,H b=some (.tup xs)->upd H l (.frz o (.dK kvs)) b=some (.tup xs):=fun b xs q=>by rw[zj (xq q hl (by intro z;cases z))];exact q
  by_cases hb:b=l
  ·subst hb;rw[za] at e;cases e
   exact⟨ho,(I.hok b _ hl).stay (fun _ _ _ q=>q) (ho' b) ht'⟩
  ·rw[zj hb] at e
   exact(I.hok b u e).stay (fun _ _ _ q=>q) (ho' b) ht'
inductive zmPJ(Q:VK)(x:V)(H1:Hp):Prop|mk(l kvs:_):x=.ref l->H1 l=some (.dK kvs)->(∀o,Q x (upd H1 l (.frz o (.dK kvs))))->zmPJ Q x H1
def zmP(te:TE):TE:=fun σ H Q=>te σ H fun x H1=>zmPJ Q x H1
theorem zkX{te:TE}(h:PE X e te):PE X e (zmP te):=by
 exists ?_;intro pins s σ H Q I hw;refine thn (h pins s σ H _ I hw) fun v s1 ⟨x,H1,I1,r1,l,kvs,ex,hl,q⟩=>?_;obtain⟨o,_,I2⟩:=I1.freeze hl;exact⟨x,_,I2,r1,q o⟩
theorem ziB(h:qR k u=true):yf (kV k) u:=by
 rcases yQ h with ⟨i,t,rfl,rfl⟩|⟨x,t,rfl,rfl⟩
 ·exact⟨t,rfl⟩
 ·exact⟨t,rfl⟩
def Itd(d:Addr)(o:Obj)(kvs:List (Key×V)):It:=
 ⟨fun i H=>H d=some (.frz o (.dK kvs))/\i<kvs.length,fun i H x H'=>∃p k v,x=.ref p/\H p=none/\kvs[i]?=some (k,v)/\H'=upd H p (.tup [kV k,v]),fun i H=>H d=some (.frz o (.dK kvs))/\kvs.length<=i⟩
theorem zhO{ep:Nat}(I:Inv X pins σ H s)(hd:H d=some (.frz o (.dK kvs)))(ho:o.data=.dict es ep):
  (d==sysModules)=false/\∃vs,KV kvs vs/\s.heap.DictAt (yD X.prog X.w) d vs ep:=by
 obtain⟨e,hz,hy,vs,r,o',es',ep',ho',c1,c2,c3⟩:=id (I.hok d _ hd);rw[e] at ho';cases ho';rw[ho] at c2;cases c2;exact⟨hy,vs,r,o,es,e,c1,ho,c3⟩
theorem uH:entryFor table "dict_itemiterator.__iter__"=some Builtin.«dict_keyiterator.__iter__»:=entryFor_alias (id':="dict_keyiterator.__iter__") (by kernel_rfl) (by first|rfl|decide +kernel|(unfold String.splitOn;simp +decide [String.splitOnAux])) (by decide +kernel) (by kernel_rfl)
theorem vK{E:VSP}{i n ep:Nat}{Q:VSP}(he:IsItemIter s.heap it d i n ep ok ov)(h:Q (.ref it) s):wpAny (model P w) A (pyIter (.ref it)) Q E s:=by
 have hT:s.TypeIs (.ref it) "dict_itemiterator":=⟨_,he,rfl⟩;refine wpAny_pyIter_slot hT F.slot_dict_itemiterator_iter (wpAny_call_entry F.slot_dict_itemiterator_iter hT uH ?_ (F.args_dict_itemiterator_iter_1 _));show wpAny _ _ (ret (.ref it)) _ _ s;exact zwp ⟨_,rfl,"dict_itemiterator",_,hT,F.slot_dict_itemiterator_next.lookup,h⟩
theorem zcG{P:Program}{w:World}{K:Frag}{elts:List Expr}{x1:Nat}{tpos:Pos}(d it:Addr)(o:Obj)(kvs:List (Key×V))(es:Array DictEntry)(ep:Nat)(ho:o.data=.dict es ep):
  zbD P w K (.Tuple elts x1 tpos) (Itd d o kvs) [it] it (fun i h=>∃ok ov,IsItemIter h it d i kvs.length ep ok ov) where
 mem:=by simp
 obj:=fun i h st b hb=>by
  have e':b=it:=by simpa using hb
  subst e';obtain⟨ok,ov,hi⟩:=st;exact⟨_,hi,fun v q=>by cases q⟩
 keep:=fun i h h' st k=>by
  obtain⟨ok,ov,hi⟩:=st;exact⟨ok,ov,k it (by simp) _ hi⟩
 item:=by
  intro X hP hw hK hc i pins s σ H E I hf st hg;subst hP hw hK;obtain⟨f0,f1,f2,f3,f4,f5⟩:=hf it (by simp)
  obtain⟨ok,ov,hit⟩:=st;obtain⟨hd,hlt⟩:=hg;obtain⟨hy,vs,r,hm⟩:=zhO I hd ho;have hl:kvs.length=vs.length:=r.length;obtain⟨⟨k2,u⟩,hu,ek,ru⟩:=Paired.get r (aB hlt);rw[hl] at hit;obtain⟨k,v,hkv⟩:∃k v,kvs[i]=(k,v):=⟨_,_,rfl⟩;have ek:k=k2:=by rw[hkv] at ek;exact ek
  have ru2:yf v u:=by rw[hkv] at ru;exact ru
  subst ek;refine wpAny_pyNext_items_item hit hm hu fun key h' hk2 he' htup hsz hkp=>?_;have rk:yf (kV k) key:=ziB hk2;have I0:Inv X pins σ H { s with heap:=h' }:=I.turned (t':=s.toks) (it:=it) hkp f0 f1 f3 f4 f5
  have hfr:H s.heap.objs.size=none:=I.hok.fresh (le_refl _);have I1:Inv X pins σ (upd H s.heap.objs.size (.tup [kV k,v])) { s with heap:=h' }:=by
   have hok:HOk X.prog X.w (upd H s.heap.objs.size (.tup [kV k,v])) h':=fun b o q=>by
    by_cases hb:b=s.heap.objs.size
    ·subst hb
     rw[za] at q;cases q;exact⟨by show 2<=sizeLine;decide,[key,u],.cons rk (.cons ru2 .nil),⟨_,htup,rfl,_,rfl⟩⟩
    ·rw[zj hb] at q
     exact(I0.hok b o q).stay (fun _ _ _ z=>z) (fun c z=>by rw[zj (zi z hfr)];exact z) fun c xs' z=>by rw[zj (zi z hfr)];exact z
   refine I0.step (s:={ s with heap:=h' }) (g':=s.gens) (d':=s.drawn) (h':=h') (t':=s.toks) (ch:=[s.heap.objs.size]) (fun b hb=>?_) (fun b o _ _ _ e1 _=>e1) (fun b o _ _ _ e1 _=>⟨o.slots,e1⟩) (fun b o hb e1 n=>by rw[zj (fun z=>hb (by simp [z]))];exact n)
    (fun b o _ e1=>⟨o,e1⟩) (fun b xs' e1=>by rw[zj (zi e1 hfr)];exact e1) (fun b o' u' e1=>by rw[zj (zi e1 hfr)];exact e1) (fun b ps e1=>⟨#[],by rw[zj (zi e1 hfr),e1];simp⟩) (fun m hm=>hm) hok I0.bare
   have e':b=s.heap.objs.size:=by simpa using hb
   subst e';exists .inr I.sz,fun z=>?_,fun y c h z=>?_,fun p hp' z=>?_
   ·have:=I.lt;rw[<- z] at this;exact absurd this (lt_irrefl _)
   ·obtain⟨v',hv⟩:=I.cell y c h
    have:=hv.lt;rw[z] at this;exact absurd this (lt_irrefl _)
   ·have:=I.pin_lt hp';rw[z] at this;exact absurd this (lt_irrefl _)
  exists _,rfl,wpAny_letOwnedTupleGo_items he' fun h2 he2 hs2=>?_;have nis:s.heap.objs.size≠it:=fun z=>by
   have:=aI (show s.heap.get? it=some _ from hit)
   rw[<- z] at this;exact absurd this (lt_irrefl _)
  have I2:Inv X pins σ (upd H s.heap.objs.size (.tup [kV k,v])) { s with heap:=h2 }:=
   I1.turned (s:={ s with heap:=h' }) (t':=s.toks) (it:=it) (fun b o hb q=>(hs2.2 b hb).trans q) (by rw[zj nis.symm];exact f0) f1 f3 f4 f5
  exists .ref s.heap.objs.size,_,I2,rfl,⟨_,k,v,rfl,hfr,by rw[aB hlt,hkv],rfl⟩,⟨_,_,by rw[hl];exact he2⟩,fun b hb=>?_
  have e':b=it:=by simpa using hb
  subst e';rw[zj nis.symm];exact f0
 done:=by
  intro X hP hw hK hc i pins s σ H E I hf st hg;subst hP hw hK;obtain⟨ok,ov,hit⟩:=st;obtain⟨f0,f1,f2,f3,f4,f5⟩:=hf it (by simp)
  obtain⟨hd,hle⟩:=hg;obtain⟨hy,vs,r,hm⟩:=zhO I hd ho;have hl:kvs.length=vs.length:=r.length;rw[hl] at hit;exact wpAny_pyNext_items_end (I.ok.hd hc) hit hm (List.getElem?_eq_none ∅) fun h' eb=>⟨rfl,I.turned (t':=s.toks) (fun b o hb e1=>eb b o hb e1) f0 f1 f3 f4 f5⟩
 self:=fun A i s Q E st h=>by
  obtain⟨ok,ov,hit⟩:=st;exact vK hit h
variable {x1:Nat}
inductive zlmJ(R:It->Hp->Prop)(x:V)(H1:Hp):Prop|mk(d o kvs:_):x=.ref d->H1 d=some (.frz o (.dK kvs))->(R (Itd d o kvs) H1)->zlmJ R x H1
def zlm(te:TE):TI:=fun σ H R=>te σ H fun x H1=>zlmJ R x H1
theorem zgD{te:TE}(hl:PE X l te)(hbase:attributeBase l "items" X.env (eval l X.env)=eval l X.env:=by rfl)(hline:(apos.endLine==cpos.line)=true:=by rfl):
  PI X (.Tuple elts x1 tpos) (.Call (.Attribute l "items" apos) [] [] cpos) (zlm te):=by
 exists ?_;intro pins s σ H R I h;refine wpAny_Call_method0_late hbase hline (thn (hl pins s σ H _ I h) fun v s1 ⟨x,H1,I1,r1,d,o,kvs,ex,hd,q⟩=>?_);subst ex;cases r1;obtain⟨e,hz,hy,vs,r,o',es,ep,ho',c1,c2,c3⟩:=id (I1.hok d _ hd);rw[e] at ho';cases ho';have hm:s1.heap.DictAt (yD X.prog X.w) d vs ep:=⟨o,es,e,c1,c2,c3⟩;exists "dict","dict.items",F.plainAttrs_dict,F.slot_dict_items,F.type_dict_items,⟨o,e,c1.1⟩,fun a ea=>by cases ea;exact⟨o,e,c1.2.1⟩,Calls.callWith_builtin rfl (PySem.evalArgs_none ?_)
 refine call_meetsIn F.slot_dict_items ⟨o,e,c1.1⟩ F.entry_dict_items (F.args_dict_items_1 _) (meets_dict_items (yD X.prog X.w) d hy) ⟨⟨vs,hm.dictOf⟩,?_⟩;show wpAny _ _ (pyIter (.ref s1.heap.objs.size)) _ _ _;have hl:kvs.length=vs.length:=r.length;refine wpAny_pyIter_items (knd:=yD X.prog X.w) (d:=d) (kvs:=vs) (ep:=ep) ⟨_,zgs _ rfl,rfl,rfl⟩ (hm.push _) ?_;have hk:∀b ob,s1.heap.get? b=some ob->((s1.heap.push { cls:=.type "dict_items",data:=.fields #[.ref d] }).push { cls:=.type "dict_itemiterator",data:=.fields #[.none,.bool false,.ref d,.int 0 0,.int vs.length 0,.int ep 0,.none,.none] }).get? b=some ob:=fun b ob q=>zgp _ (zgp _ q);have I2:=I1.kept (t':=s1.toks) hk;have hsz:(s1.heap.push { cls:=.type "dict_items",data:=.fields #[.ref d] }).objs.size=s1.heap.objs.size+1:=Heap.size_push ..;exists (s1.heap.push { cls:=.type "dict_items",data:=.fields #[.ref d] }).objs.size,[(s1.heap.push { cls:=.type "dict_items",data:=.fields #[.ref d] }).objs.size],_,Itd d o kvs,H1,rfl,I2,zcG d _ o kvs es ep c2,⟨.none,.none,?_⟩,fun b hb=>?_,q
 ·rw[hl]
  exact zgs (s1.heap.push { cls:=.type "dict_items",data:=.fields #[.ref d] }) (o:={ cls:=.type "dict_itemiterator",data:=.fields #[.none,.bool false,.ref d,.int 0 0,.int vs.length 0,.int ep 0,.none,.none] }) rfl
 ·have e':b=(s1.heap.push { cls:=.type "dict_items",data:=.fields #[.ref d] }).objs.size:=by simpa using hb
  subst e';rw[hsz];exact I1.fpOk (le_succ _) (I1.hok.fresh (le_succ _))
theorem zfm{d:Addr}{o:Obj}{kvs:List (Key×V)}{g:TG}{tb:TS}{D:vH}{σ : St}{H:Hp}(Pv:Nat->St->Hp->Prop)(h0:Pv 0 σ H)(hl:∀i σ H,i<=kvs.length->Pv i σ H->H d=some (.frz o (.dK kvs)))
  (hs:∀i k v p σ H,kvs[i]?=some (k,v)->Pv i σ H->H p=none->g (.ref p) σ (upd H p (.tup [kV k,v])) fun σ2 H2=>tb { D with nx:=Pv (i+1),ct:=Pv (i+1),bk:=D.nx } σ2 H2) (hd:∀σ H,Pv kvs.length σ H->D.nx σ H) :
  ∃W:Nat->Nat->St->Hp->Prop,(∃m,W 0 m σ H)/\∀i m σ H,W i m σ H->
   ((Itd d o kvs).stop i H/\D.nx σ H)\/((Itd d o kvs).go i H/\∃N:St->Hp->Prop,(∀σ' H',N σ' H'->∃m',m'<m/\W (i+1) m' σ' H')/\∀x H',(Itd d o kvs).yld i H x H'->g x σ H' fun σ2 H2=>tb { D with nx:=N,ct:=N,bk:=D.nx } σ2 H2):=by
 exists fun i m σ H=>m=kvs.length - i/\i<=kvs.length/\Pv i σ H,⟨kvs.length,by simp,zero_le _,h0⟩,?_
 rintro i m σ H ⟨rfl,hi,p⟩;have q:=hl i σ H hi p;by_cases hlt:i<kvs.length
 ·refine .inr ⟨⟨q,hlt⟩,Pv (i+1),fun σ' H' p'=>⟨kvs.length - (i+1),∅,rfl,hlt,p'⟩,fun x H' y=>?_⟩
  obtain⟨pp,k,v,rfl,hp,y2,rfl⟩:=y;exact hs i k v pp σ H y2 p hp
 ·have e:i=kvs.length:=by omega
  subst e;exact .inl ⟨⟨q,le_refl _⟩,hd σ H p⟩
theorem zmY(I:Inv X pins σ H s)(ha:SqT X.K H a xs)(hb:SqT X.K H b ys)(fx:xs.all wy=true)(fy:ys.all wy=true)(hu:A.units+8<cLine):
  SeqAt.RcAt A s (.ref a) (.ref b) (eqT xs ys):=by
 obtain⟨ia,va,pa,_⟩:=I.tuple ha;obtain⟨ib,vb,pb,_⟩:=I.tuple hb;have la:ia.toArray.size=xs.length:=by rw[size_toArray];exact va.length.symm
 have lb:ib.toArray.size=ys.length:=by rw[size_toArray];exact vb.length.symm
 have:=SeqAt.RcAt.tuples (A:=A) (s:=s) (e:=fun j=>eqV (xs[j]?.getD .non) (ys[j]?.getD .non)) (show s.heap.IsTuple a ia.toArray from pa) (show s.heap.IsTuple b ib.toArray from pb) ∅ (fun j h1 h2=>by
  have j1:j<ia.length:=by simpa using h1
  have j2:j<ib.length:=by simpa using h2
  have hxl:j<xs.length:=by rw[va.length];exact j1
  have hyl:j<ys.length:=by rw[vb.length];exact j2
  obtain⟨u',e1,e2⟩:=va.get (i:=j) (aB hxl);obtain⟨v',e3,e4⟩:=vb.get (i:=j) (aB hyl);rw[aB j1] at e1;rw[aB j2] at e3;cases e1;cases e3;have q:=zhX (A:=A.in1) (s:=s) e2 e4 (List.all_eq_true.mp fx _ (getElem_mem hxl)) (List.all_eq_true.mp fy _ (getElem_mem hyl));simpa [hxl,hyl] using q)
 rw[la,lb] at this;exact this
inductive zkQJ(K:Frag)(x:V)(y:V)(H:Hp)(Q:VK):Prop|mk(a c:Addr)(xs ys:List V):x=.ref a->y=.ref c->SqT K H a xs->SqT K H c ys->xs.all wy=true->ys.all wy=true->(Q (.bl (eqT xs ys)) H)->zkQJ K x y H Q
def zkQ(K:Frag):R2:=fun x y H Q=>zkQJ K x y H Q
theorem zgT(hu:X.A.units+64<cLine):OpR X (compareOp .Eq) (zkQ X.K):=by
 intro pins s σ H x y v u Q I rx ry h;obtain⟨a,c,xs,ys,rfl,rfl,ha,hc,fx,fy,q⟩:=h;cases rx;cases ry;exact zmY (A:=X.A) I ha hc fx fy ∅ X.prog X.w X.xe _ ⟨.bl _,H,I,rfl,q⟩
end
end L2
namespace K64
open PySem L2 PyProof.Rows
inductive ym where
 | one (t:Int)|row (ts:List Int)|named (n:Str) (t:Int)|book (ps:List (Str×Int))
def yT(p:Str×Int):Dt:=.tup [.str p.1,.int p.2]
def yj:ym->Dt
 | .one t=>.tup [.str "one",.int t]
 | .row ts=>.tup [.str "row",.lst (ts.map .int)]
 | .named n t=>.tup [.str "named",.str n,.int t]
 | .book ps=>.tup [.str "book",.lst (ps.map yT)]
def itT:ym->List Int
 | .one t=>[t]
 | .row ts=>ts
 | _=>[]
def itP:ym->List (Str×Int)
 | .named n t=>[(n,t)]
 | .book ps=>ps
 | _=>[]
def zC(c:List ym):List Int:=(c.map itT).flatten
def zG(c:List ym):List (Str×Int):=(c.map itP).flatten
abbrev T':Addr->Prop:=fun _=>True
def Two(K:Frag)(H H':Hp)(p:Addr)(ts:List Int)(ps:List (Str×Int)):Prop:=
 ∃l1 l2 xs,H l1=none/\H l2=none/\l1≠l2/\H p=none/\H' p=some (.tup [.ref l1,.ref l2])/\H' l1=some (.lst (ts.map V.int))/\H' l2=some (.lst xs)/\Paired (zJ K T' H' 1) xs (ps.map yT)
inductive uN(K:Frag)(vs:List V)(H:Hp)(Q:VK)(E:XK):Prop|mk(a:Addr)(c:List ym)(xs:List V):vs=[.ref a]->SqL K H a xs->Paired (zJ K T' H 3) xs (c.map yj)->(zC c).length<=900->(zG c).length<=900->(∀(p:Addr) (H':Hp),zq H H'->Two K H H' p (zC c) (zG c)->Q (.ref p) H')->uN K vs H Q E
section
variable {mg:Str->Option Value}
theorem zh6(ns:List Int)(lo hi:Option Int):∃ms:List Int,wg (ns.map V.int) lo hi=ms.map V.int/\ms.length<=ns.length/\∀m∈ms,m∈ns:=by
 exists (ns.drop (HT.sIx ns.length 0 lo)).take (HT.sIx ns.length ns.length hi - HT.sIx ns.length 0 lo),?_,?_,fun m hm=>mem_of_mem_drop (mem_of_mem_take hm)
 ·unfold wg
  rw[aA,map_take,map_drop]
 ·rw[length_take,length_drop]
  omega
variable {ok:Addr->Prop}{n:Nat}
theorem jg{K:Frag}{H:Hp}{x:V}{i:Int}(h:zJ K ok H n x (.int i)):x=.int i:=by
 have fl:jZ x (.int i)->x=.int i:=fun h=>by
  cases x <;> first|exact h.elim|(have e:=(show _=_ from h);rw[e])
 cases n with
 | zero=>exact fl h
 | succ n=>
  rcases h with h|⟨_,_,_,_,e,_⟩|⟨_,_,_,_,e,_⟩
  ·exact fl h
  ·cases e
  ·cases e
theorem vj{K:Frag}{H:Hp}{x:V}{z:Str}(h:zJ K ok H n x (.str z)):x=.str z:=by
 have fl:jZ x (.str z)->x=.str z:=fun h=>by
  cases x <;> first|exact h.elim|(have e:=(show _=_ from h);rw[e])
 cases n with
 | zero=>exact fl h
 | succ n=>
  rcases h with h|⟨_,_,_,_,e,_⟩|⟨_,_,_,_,e,_⟩
  ·exact fl h
  ·cases e
  ·cases e
theorem wb{K:Frag}{H:Hp}{x:V}{ds:List Dt}(h:zJ K ok H (n+1) x (.tup ds)):∃a xs,x=.ref a/\SqT K H a xs/\Paired (zJ K ok H n) xs ds:=by
 rcases h with h|⟨a,xs,ds',e1,e2,e3,r⟩|⟨_,_,_,_,e,_⟩
 ·cases x <;> exact h.elim
 ·cases e2;exact⟨a,xs,e1,e3,r⟩
 ·cases e
theorem zbW{K:Frag}{H:Hp}{x:V}{ds:List Dt}(h:zJ K ok H (n+1) x (.lst ds)):∃a xs,x=.ref a/\ok a/\H a=some (.lst xs)/\Paired (zJ K ok H n) xs ds:=by
 rcases h with h|⟨_,_,_,_,e,_⟩|⟨a,xs,ds',e1,e2,o,e3,r⟩
 ·cases x <;> exact h.elim
 ·cases e
 ·cases e2;exact⟨a,xs,e1,o,e3,r⟩
theorem zay{K:Frag}{H:Hp}:∀{ts:List Int}{xs:List V},Paired (zJ K ok H n) xs (ts.map .int)->xs=ts.map V.int
 | [],_,r=>by cases r;rfl
 | t::ts,_,r=>by
  cases r with
  | cons h r=>rw[jg h,zay r];rfl
theorem wo{K:Frag}{H:Hp}:∀(ts:List Int),Paired (zJ K ok H n) (ts.map V.int) (ts.map .int)
 | []=>.nil
 | t::ts=>.cons .int (wo ts)
theorem zX{α β : Type}{F : α->β->Prop}:∀{a c:List α}{b d:List β},Paired F a b->Paired F c d->Paired F (a++c) (b++d)
 | _,_,_,_,.nil,s=>s
 | _,_,_,_,.cons r t,s=>.cons r (zX t s)
theorem zci{K:Frag}{H:Hp}{x:V}{t:Int}(h:zJ K ok H 3 x (yj (.one t))):∃a,x=.ref a/\SqT K H a [.str "one",.int t]:=by
 obtain⟨a,xs,rfl,hS,r⟩:=wb h;cases r with
 | cons h1 r=>cases r with
  | cons h2 r=>cases r;rw[vj h1,jg h2] at hS;exact⟨a,rfl,hS⟩
theorem zch{K:Frag}{H:Hp}{x:V}{ts:List Int}(h:zJ K ok H 3 x (yj (.row ts))):∃a b,x=.ref a/\SqT K H a [.str "row",.ref b]/\ok b/\H b=some (.lst (ts.map V.int)):=by
 obtain⟨a,xs,rfl,hS,r⟩:=wb h;cases r with
 | cons h1 r=>cases r with
  | cons h2 r=>
   cases r;obtain⟨b,ys,rfl,o,hb,q⟩:=zbW h2;rw[vj h1] at hS;rw[zay q] at hb;exact⟨a,b,rfl,hS,o,hb⟩
theorem qT{K:Frag}{H:Hp}{x:V}{z:Str}{t:Int}(h:zJ K ok H 3 x (yj (.named z t))):∃a,x=.ref a/\SqT K H a [.str "named",.str z,.int t]:=by
 obtain⟨a,xs,rfl,hS,r⟩:=wb h;cases r with
 | cons h1 r=>cases r with
  | cons h2 r=>cases r with
   | cons h3 r=>cases r;rw[vj h1,vj h2,jg h3] at hS;exact⟨a,rfl,hS⟩
theorem zaJ{K:Frag}{H:Hp}{x:V}{ps:List (Str×Int)}(h:zJ K ok H 3 x (yj (.book ps))):∃a b ys,x=.ref a/\SqT K H a [.str "book",.ref b]/\ok b/\H b=some (.lst ys)/\Paired (zJ K ok H 1) ys (ps.map yT):=by
 obtain⟨a,xs,rfl,hS,r⟩:=wb h;cases r with
 | cons h1 r=>cases r with
  | cons h2 r=>
   cases r;obtain⟨b,ys,rfl,o,hb,q⟩:=zbW h2;rw[vj h1] at hS;exact⟨a,b,ys,rfl,hS,o,hb,q⟩
theorem uW(c:List ym)(i:Nat)(it:ym)(h:c[i]?=some it):zC (c.take (i+1))=zC (c.take i)++itT it:=by
 unfold zC;rw[take_add_one,h,aE,flatten_append];simp
theorem uX(c:List ym)(i:Nat)(it:ym)(h:c[i]?=some it):zG (c.take (i+1))=zG (c.take i)++itP it:=by
 unfold zG;rw[take_add_one,h,aE,flatten_append];simp
theorem vp(c:List ym)(i:Nat):(zC (c.take i)).length<=(zC c).length:=by
 unfold zC
 conv=>rhs;rw[<- take_append_drop i c]
 rw[aE,flatten_append,aG];omega
theorem vq(c:List ym)(i:Nat):(zG (c.take i)).length<=(zG c).length:=by
 unfold zG
 conv=>rhs;rw[<- take_append_drop i c]
 rw[aE,flatten_append,aG];omega
theorem ne1:¬(V.str "row"=V.str "one"):=by decide +kernel
theorem ne2:¬(V.str "named"=V.str "one"):=by decide +kernel
theorem ne3:¬(V.str "book"=V.str "one"):=by decide +kernel
theorem ne4:¬(V.str "named"=V.str "row"):=by decide +kernel
theorem ne5:¬(V.str "book"=V.str "row"):=by decide +kernel
theorem ne6:¬(V.str "book"=V.str "named"):=by decide +kernel
theorem qt:zv ["call","things","pairs","item","word"] ["call"] (zk zgi):=fsc
theorem yy(s:zq H H2)(h:H l=none)(o:HO):zq H (upd H2 l o):=fun b u q=>by rw[zj (zi q h)];exact s b u q
theorem zi4{P:Program}{w:World}{K:Frag}{base:Heap}{f:Addr}{fd:FuncData}(F:Fun K "laid" "laid" zgi f fd):↥1 f fd ["call"] (uN K):=by
 specialize qt;obtain⟨a,c,xs,rfl,hS,hc,hT,hP,q⟩:=h;refine⟨_,zm (zx (i:=1) qt.nd rfl (Or.inl rfl) (zP zc)) (zm (zx (i:=2) qt.nd rfl (Or.inl rfl) (zP zc))
  (zm (yS PassesOwn.never rfl (z7 (pv 0)) (zr (i:=3) qt.nd rfl (Or.inl rfl))
   (zm (zx (i:=4) qt.nd rfl (Or.inl rfl) (zV yd (pv 3) zf (fun _ _=>rfl)))
   (zg (zS (zw yK (pv 4) zy (zM _)) (zg (zW (xh PySem.F.plainAttrs_list PySem.F.slot_list_append PySem.F.type_list_append z9 (pv 1) (ac (zV yd (pv 3) zf (fun _ _=>rfl)) zc))))
    (zg (zS (zw yK (pv 4) zy (zM _)) (zg (zW (xh PySem.F.plainAttrs_list PySem.F.slot_list_extend PySem.F.type_list_extend zaC (pv 1) (ac (zV yd (pv 3) zf (fun _ _=>rfl)) zc))))
     (zg (zS (zw yK (pv 4) zy (zM _)) (zg (zW (xh PySem.F.plainAttrs_list PySem.F.slot_list_append PySem.F.type_list_append z9 (pv 2) (ac (zT (ac (zV yd (pv 3) zf (fun _ _=>rfl)) (ac (zV yd (pv 3) zf (fun _ _=>rfl)) zc))) zc))))
      (zg (zW (xh PySem.F.plainAttrs_list PySem.F.slot_list_extend PySem.F.type_list_extend zaC (pv 2) (ac (zV yd (pv 3) zf (fun _ _=>rfl)) zc))))))))))))
  (zg (zA (zT (ac (pv 1) (ac (pv 2) zc))))))),?_⟩
 exists xS,fun l1 h1=>?_;exists xS,fun l2 h2=>?_;have n12:l1≠l2:=zi za h2;have f2:H l2=none:=(ze h1 _).free h2;have s0:zq H (upd (upd H l1 (.lst [])) l2 (.lst [])):=(ze h1 _).trans (ze h2 _);refine⟨_,rfl,a,rfl,⟨_,s0.seq hS⟩,xE (K:=K) (a:=a) (xs:=xs) (fun i σ H2=>∃v3 v4 ys,σ=[~~~a,~~~l1,~~~l2,v3,v4]/\zq H H2/\H2 l1=some (.lst ((zC (c.take i)).map V.int))/\H2 l2=some (.lst ys)/\Paired (zJ K T' H2 1) ys ((zG (c.take i)).map yT))
  ⟨_,_,[],rfl,s0,by rw[zj n12,za];rfl,za,.nil⟩ (fun i σ H2 _ ⟨_,_,_,_,s2,_⟩=>s2.seq hS) ?_ ?_⟩
 ·rintro i y σ H2 hi ⟨v3,v4,ys,rfl,s2,g1,g2,gp⟩
  obtain⟨d,hd,hy⟩:=Paired.get hc hi;obtain⟨it,hit,rfl⟩:∃it,c[i]?=some it/\yj it=d:=by
   rw[getElem?_map] at hd;cases e:c[i]? with
   | none=>rw[e] at hd;cases hd
   | some it=>rw[e] at hd;exact⟨it,rfl,Option.some.inj hd⟩
  have hy2:=hy.same s2;have eT:=uW c i it hit;have eP:=uX c i it hit;have lT:=vp c i;have lP:=vq c i;have lT1:=vp c (i+1);have lP1:=vq c (i+1);have lys:ys.length=(zG (c.take i)).length:=by rw[gp.length,aA]
  have sT:∀{H3:Hp}{o:HO}{l:Addr},H3 l=none\/(∃zs,H3 l=some (.lst zs))->∀{b zs},SqT K H3 b zs->SqT K (upd H3 l o) b zs:=fun {H3 o l} hl {b zs} hz=>by
   rcases hz with (z|⟨u,z⟩)|z
   ·refine .inl (.inl ?_)
    have:b≠l:=fun e=>by
     subst e;rcases hl with e|⟨_,e⟩
     ·rw[e] at z;cases z
     ·rw[e] at z;cases z
    rw[zj this];exact z
   ·refine .inl (.inr ⟨u,?_⟩)
    have:b≠l:=fun e=>by
     subst e;rcases hl with e|⟨_,e⟩
     ·rw[e] at z;cases z
     ·rw[e] at z;cases z
    rw[zj this];exact z
   ·exact .inr z
  have keepP:∀{H3:Hp}{o:HO}{l:Addr}{zs:List V}{ps:List (Str×Int)},H3 l=none\/(∃zs,H3 l=some (.lst zs))->Paired (zJ K T' H3 1) zs (ps.map yT)->Paired (zJ K T' (upd H3 l o) 1) zs (ps.map yT):=by
   intro H3 o l zs ps hl r;induction ps generalizing zs with
   | nil=>cases r;exact .nil
   | cons p ps ih=>
    cases r with
    | cons h r=>
     refine .cons ?_ (ih r);obtain⟨b,ws,rfl,hS',r'⟩:=wb h;exact .tup (sT hl hS') (zu (fun _ _ z=>z) r')
  cases it with
  | one t=>
   obtain⟨b,rfl,hb⟩:=zci hy2;exists _,rfl,b,_,_,.str "one",rfl,rfl,hb,rfl,?_;exists _,rfl,rfl,_,rfl,?_;refine dT rfl ?_;exists _,rfl,.inl ⟨rfl,_,zh g1⟩,_,rfl,b,_,_,.int t,rfl,rfl,hb,rfl,l1,_,_,rfl,rfl,g1,?_,?_
   ·rw[aA];exact zY ∅
   ·exists _,_,ys,rfl,yy s2 h1 _,?_,?_,?_
    ·rw[za,eT,aE];rfl
    ·rw[zj n12.symm];exact g2
    ·rw[eP];show Paired _ _ ((zG (c.take i)++[]).map yT);rw[append_nil];exact keepP (.inr ⟨_,g1⟩) gp
  | row ts=>
   obtain⟨b,bl,rfl,hb,_,hbl⟩:=zch hy2;exists _,rfl,b,_,_,.str "row",rfl,rfl,hb,rfl,?_;exists _,rfl,rfl,_,rfl,?_;refine dF ne1 ?_;exists _,rfl,rfl,_,rfl,?_;refine dT rfl ?_;exists _,rfl,.inl ⟨rfl,_,zh g1⟩,_,rfl,b,_,_,.ref bl,rfl,rfl,hb,rfl,l1,bl,_,_,rfl,rfl,g1,hbl,?_,?_
   ·have e1:(zC (c.take (i+1))).length=(zC (c.take i)).length+ts.length:=by rw[eT,aG];rfl
    rw[aA,aA];exact yg ∅
   ·exists _,_,ys,rfl,yy s2 h1 _,?_,?_,?_
    ·rw[za,eT,aE];rfl
    ·rw[zj n12.symm];exact g2
    ·rw[eP];show Paired _ _ ((zG (c.take i)++[]).map yT);rw[append_nil];exact keepP (.inr ⟨_,g1⟩) gp
  | named z t=>
   obtain⟨b,rfl,hb⟩:=qT hy2;exists _,rfl,b,_,_,.str "named",rfl,rfl,hb,rfl,?_;exists _,rfl,rfl,_,rfl,?_;refine dF ne2 ?_;exists _,rfl,rfl,_,rfl,?_;refine dF ne4 ?_;exists _,rfl,rfl,_,rfl,?_;refine dT rfl ?_;exists _,rfl,.inl ⟨rfl,_,zh g2⟩,_,rfl,b,_,_,.str z,rfl,rfl,hb,rfl,_,rfl,b,_,_,.int t,rfl,rfl,hb,rfl,yA,fun p hp=>?_;have np2:l2≠p:=zi g2 hp;have np1:l1≠p:=zi g1 hp;have fp:H p=none:=s2.free hp;exists l2,_,_,rfl,rfl,(by rw[zj np2];exact g2),?_,?_
   ·rw[lys];exact zY ∅
   ·exists _,_,ys++[.ref p],rfl,yy (yy s2 fp _) f2 _,?_,za,?_
    ·rw[zj n12,zj np1,g1,eT];show _=some (HO.lst ((zC (c.take i)++[]).map V.int));rw[append_nil]
    ·rw[eP,aE]
     refine zX (keepP (.inr ⟨_,by rw[zj np2];exact g2⟩) (keepP (.inl hp) gp)) (.cons (.tup (xs:=[.str z,.int t]) (zF ?_) (.cons .str (.cons .int .nil))) .nil)
     rw[zj np2.symm,za]
  | book ps=>
   obtain⟨b,bl,zs,rfl,hb,_,hbl,hz⟩:=zaJ hy2;exists _,rfl,b,_,_,.str "book",rfl,rfl,hb,rfl,?_;exists _,rfl,rfl,_,rfl,?_;refine dF ne3 ?_;exists _,rfl,rfl,_,rfl,?_;refine dF ne5 ?_;exists _,rfl,rfl,_,rfl,?_;refine dF ne6 ?_;have lz:zs.length=ps.length:=by rw[hz.length,aA]
   exists _,rfl,.inl ⟨rfl,_,zh g2⟩,_,rfl,b,_,_,.ref bl,rfl,rfl,hb,rfl,l2,bl,_,_,rfl,rfl,g2,hbl,?_,?_
   ·have e1:(zG (c.take (i+1))).length=(zG (c.take i)).length+ps.length:=by rw[eP,aG];rfl
    rw[lys,lz];exact yg ∅
   ·exists _,_,ys++zs,rfl,yy s2 f2 _,?_,za,?_
    ·rw[zj n12,g1,eT];show _=some (HO.lst ((zC (c.take i)++[]).map V.int));rw[append_nil]
    ·rw[eP,aE]
     exact zX (keepP (.inr ⟨_,g2⟩) gp) (keepP (.inr ⟨_,g2⟩) hz)
 ·rintro σ H2 ⟨v3,v4,ys,rfl,s2,g1,g2,gp⟩
  exists _,rfl,_,rfl,yA,fun p hp=>?_;have hl:xs.length=c.length:=by rw[hc.length,aA]
  rw[hl,take_length] at g1 gp;refine q p _ (s2.trans (ze hp _)) ⟨l1,l2,ys,h1,f2,n12,s2.free hp,za,?_,?_,zu (fun _ _ z=>z.same (ze hp _)) gp⟩
  ·rw[zj (zi g1 hp)];exact g1
  ·rw[zj (zi g2 hp)];exact g2
theorem xC{K:Frag}{ok:Addr->Prop}{H H':Hp}{zs:List V}{ps:List (Str×Int)}(s:zq H H')(r:Paired (zJ K ok H 1) zs (ps.map yT)):Paired (zJ K ok H' 1) zs (ps.map yT):=zu (fun _ _ z=>z.same s) r
theorem jl{ps:List (Str×Int)}{i:Nat}{d:Dt}(h:(ps.map yT)[i]?=some d):∃p,ps[i]?=some p/\yT p=d:=by
 rw[getElem?_map] at h;cases e:ps[i]? with
 | none=>rw[e] at h;cases h
 | some it=>rw[e] at h;exact⟨it,rfl,Option.some.inj h⟩
theorem ut{K:Frag}{ok:Addr->Prop}{H:Hp}{n:Nat}{x:V}{p:Str×Int}(h:zJ K ok H (n+1) x (yT p)):∃b,x=.ref b/\SqT K H b [.str p.1,.int p.2]:=by
 obtain⟨a,xs,rfl,hS,r⟩:=wb h;cases r with
 | cons h1 r=>cases r with
  | cons h2 r=>cases r;rw[vj h1,jg h2] at hS;exact⟨a,rfl,hS⟩
theorem yv{K:Frag}{ok:Addr->Prop}{n:Nat}{H H':Hp}{zs:List V}{c:List ym}(s:zq H H')(r:Paired (zJ K ok H n) zs (c.map yj)):Paired (zJ K ok H' n) zs (c.map yj):=zu (fun _ _ z=>z.same s) r
theorem wF{K:Frag}{ok ok':Addr->Prop}{H:Hp}(hk:∀b,ok b->H b≠none->ok' b){n:Nat}{x:V}{d:Dt}(h:zJ K ok H n x d):zJ K ok' H n x d:=
 h.frame (fun a xs z=>z) fun a xs oa z=>⟨hk a oa (by rw[z];intro q;cases q),z⟩
theorem jJ{A B:Prop}(h:b=true)(a:A):if b=true then A else B:=by rw[h];exact wZ a
theorem jI{A B:Prop}(h:b=false)(a:B):if b=true then A else B:=by rw[h];exact x8 a
end
section
variable {mg:Str->Option Value}
section
end
end
def yN(c:List ym):List Str:=(zG c).map (·.1)
inductive zdR(K:Frag)(vs:List V)(H:Hp)(Q:VK)(E:XK):Prop|mk(a:Addr)(c:List ym)(xs:List V):vs=[.ref a]->SqL K H a xs->Paired (zJ K T' H 3) xs (c.map yj)->(zC c).length<=900->(zG c).length<=900->(∀(p l:Addr) (H':Hp),zq H H'->H l=none->H' p=some (.tup [.int ((zC c).length:Nat),.ref l])->H' l=some (.lst ((yN c).map V.str))->Q (.ref p) H')->zdR K vs H Q E
def uF:Nat->List (Key×V)->List Str->List (Key×V)
 | _,acc,[]=>acc
 | i,acc,z::zs=>uF (i+1) (if (yq acc (.inr z)).isSome=true then acc else xB acc (.inr z) (.int i)) zs
theorem zaL{z:Str}:∀(zs:List Str) (j i:Nat) (acc:List (Key×V)),zs[i]?=some z->uF j acc (zs.take (i+1))=(if (yq (uF j acc (zs.take i)) (.inr z)).isSome=true then uF j acc (zs.take i) else xB (uF j acc (zs.take i)) (.inr z) (.int (j+i:Nat)))
 | [],_,_,_,h=>by simp at h
 | y::ys,j,0,acc,h=>by
  have e:y=z:=by simpa using h
  subst e;rfl
 | y::ys,j,i+1,acc,h=>by
  have:=zaL ys (j+1) i (if (yq acc (.inr y)).isSome=true then acc else xB acc (.inr y) (.int j)) (by simpa using h)
  show uF (j+1) _ (ys.take (i+1))=_;rw[this,show j+1+i=j+(i+1) by omega]
  rfl
theorem zck:∀(zs:List Str) (i:Nat) (acc:List (Key×V)),(uF i acc zs).length<=acc.length+zs.length
 | [],_,_=>le_refl _
 | z::zs,i,acc=>by
  have h:=zck zs (i+1) (if (yq acc (.inr z)).isSome=true then acc else xB acc (.inr z) (.int i))
  have h2:(if (yq acc (.inr z)).isSome=true then acc else xB acc (.inr z) (.int i)).length<=acc.length+1:=by
   split
   ·omega
   ·exact ww acc _ _
  show(uF (i+1) _ zs).length<=acc.length+(zs.length+1);omega
inductive zbQ(vs:List V)(H:Hp)(Q:VK)(E:XK):Prop|mk(a:Addr)(zs:List Str):vs=[.ref a]->H a=some (.lst (zs.map V.str))->zs.length<=900->(∀(l:Addr) (o:Obj) (H':Hp),zq H H'->H l=none->H' l=some (.frz o (.dK (uF 0 [] zs)))->Q (.ref l) H')->zbQ vs H Q E
section
variable {mg:Str->Option Value}{f CF:Addr}{c:C5}
theorem zjg:([Str.ofString "name",Str.ofString "thing"]:List Str).Nodup:=by decide +kernel
theorem za7:zv ["call","things","pairs"] ["call"] (zk zcS):=fsc
theorem zg5{P:Program}{w:World}{K:Frag}{base:Heap}{fd:FuncData}{g:Addr}{gd:FuncData}(F:Fun K "shape" "shape" zcS f fd)(hlen:mg "len"=none)(cL:⇑1 "laid" g gd ["call"] (uN K)):↥2 f fd ["call"] (zdR K):=by
 specialize za7;obtain⟨a,c,xs,rfl,hS,hc,lT,lP,q⟩:=h;refine⟨_,zm (vW (cF cL hr (ac (pv 0) zc)) (yB rfl (zB (zr (i:=1) za7.nd rfl (Or.inl rfl)) (zB (zr (i:=2) za7.nd rfl (Or.inl rfl)) yi))))
  (zg (zA (zT (ac (cB zO hlen PySem.boot_len (ac (pv 1) zc)) (ac (wC [] ["name","thing"] [none,none] rfl ⟨rfl,rfl,rfl,rfl⟩ (z7 (pv 2)) (xY (K:=K) (n:=2) 0 1) rfl rfl rfl
   (fun pins fp s H C=>⟨yB rfl (zB (zr (i:=0) zjg rfl (Or.inl rfl) (.inr rfl)) (zB (zr (i:=1) zjg rfl (Or.inl rfl) (.inr rfl)) yi)),yV,pv 0⟩)) zc))))),?_⟩
 exists _,rfl,a,c,xs,rfl,hS,hc,lT,lP,fun p H1 s1 two=>?_;obtain⟨l1,l2,ys,n1,n2,n12,np,ep,e1,e2,gp⟩:=two;exists p,_,rfl,zF ep,rfl,_,_,rfl,_,_,rfl,rfl,?_;exists _,rfl,l1,_,rfl,.inl (zh e1),_,rfl,l2,rfl,⟨_,zh e2⟩,fun D hD=>?_;have lys:ys.length=(zG c).length:=by rw[gp.length,aA]
 refine xx (K:=K) (xs:=ys) (fun i zs H'=>zq H1 H'/\H' D=some (.lst zs)/\zs=((yN c).take i).map V.str) ⟨ze hD _,za,rfl⟩ (fun i zs H' h=>zh (h.1 _ _ e2)) ?_ ?_
 ·rintro i x zs H' hlt hx ⟨sH,hDy,ez⟩
  obtain⟨d,hd,hy⟩:=Paired.get gp hx;obtain⟨pr',hpr,rfl⟩:=jl hd;obtain⟨b,rfl,hb⟩:=ut (hy.same sH);exists b,_,rfl,hb,rfl,_,_,rfl,_,_,rfl,rfl,fun _=>⟨_,rfl,?_⟩,fun e=>Bool.noConfusion e;have hi:i<(yN c).length:=by unfold yN;rw[aA];omega
  have en:(yN c)[i]=pr'.1:=by
   have:(yN c)[i]?=some pr'.1:=by unfold yN;rw[getElem?_map,hpr];rfl
   rw[aB hi] at this;exact Option.some.inj this
  refine lcN.mk hlt (yg ∅) hDy (by rw[ez,aA,length_take];omega) ⟨fun b' u e=>?_,za,?_⟩
  ·rw[zj (zi e hD)]
   exact sH b' u e
  ·rw[ez,take_succ_eq_append_getElem hi,en,aE]
   rfl
 rintro zs H2 ⟨s2,hDy,ez⟩;have hz:zs=(yN c).map V.str:=by
  rw[ez,take_of_length_le (by unfold yN;rw[aA];omega)]
 subst hz;exists yA,fun t ht=>?_;have s3:=ze ht (.tup [.int ((zC c).map V.int).length,.ref D]);refine q t D _ (s1.trans (s2.trans s3)) (s1.free hD) (by rw[za,aA]) (s3 _ _ hDy)
theorem jf:zv ["names","firsts","number","name"] ["names"] (zk zbl):=fsc
theorem ze9{P:Program}{w:World}{K:Frag}{base:Heap}{fd:FuncData}(F:Fun K "first_numbers" "first_numbers" zbl f fd)(hen:mg "enumerate"=none):↥1 f fd ["names"] zbQ:=by
 specialize jf;obtain⟨a,zs,rfl,ha,lz,q⟩:=h;have hu1:=zes hr;refine⟨_,zm (zx (i:=1) jf.nd rfl (Or.inl rfl) zgH)
  (zm (yS PassesOwn.never rfl (wc rfl hen (ac (pv 0) zc)) (yB rfl (zB (zr (i:=2) jf.nd rfl (Or.inl rfl)) (zB (zr (i:=3) jf.nd rfl (Or.inl rfl)) yi)))
   (zg (zS (xT (zeZ hu1 (pv 3) (pv 1))) (zg (ziG hu1 (pv 1) (pv 3) (pv 2) rfl)) zI)))
  (zg (zA (zkX (pv 1))))),?_⟩
 intro sd hsd;have s1:=ze hsd (.dK []);have e1:upd H sd (.dK []) sd=some (.dK []):=za;show vN _ _ _ _ (upd H sd (.dK []));generalize upd H sd (.dK [])=H1 at s1 e1 |-;refine⟨_,rfl,a,rfl,⟨_,zh (s1 _ _ ha)⟩,wx (K:=K) (a:=a) (xs:=zs.map V.str) (fun i σ H'=>∃(v2 v3:Option V),σ=[~~~a,~~~sd,v2,v3]/\zq H H'/\H' sd=some (.dK (uF 0 [] (zs.take i))))
  ⟨_,_,rfl,s1,e1⟩ (fun i σ H' _ ⟨_,_,_,sH,_⟩=>zh (sH _ _ ha)) ?_ ?_⟩
 ·rintro i x p σ H' hx ⟨v2,v3,rfl,sH,hd⟩ hpn
  obtain⟨z,hz,rfl⟩:=strs_at hx;have sp:=ze hpn (.tup [.int (i:Nat),.str z]);have hd2:=sp _ _ hd;have tk:=zaL zs 0 i [] hz;rw[Nat.zero_add] at tk;have hi:i<zs.length:=(List.getElem?_eq_some_iff.mp hz).1;exists p,_,rfl,zF za,rfl,_,_,rfl,_,_,rfl,rfl,?_;exists _,rfl,_,rfl,sd,_,rfl,.inl ⟨_,.inr z,.inl hd2,rfl,rfl⟩,_,rfl,?_;refine wf (fun ne=>?_) (fun ne=>?_)
  ·have ns:¬(yq (uF 0 [] (zs.take i)) (.inr z)).isSome=true:=by
    intro e;rw[e] at ne;cases ne
   rw[aJ ns] at tk;have ln:=zck (zs.take i) 0 [];exists _,rfl,_,rfl,_,rfl,sd,_,rfl,.inl ⟨_,.inr z,hd2,rfl,zY (by rw[length_take] at ln;simp at ln;omega),rfl⟩,?_
   refine⟨_,_,rfl,fun b' u e=>?_,by rw[za,tk]⟩
   rw[zj (zi e hsd)];exact sp _ _ (sH _ _ e)
  ·have ns:(yq (uF 0 [] (zs.take i)) (.inr z)).isSome=true:=by
    cases e:(yq (uF 0 [] (zs.take i)) (.inr z)).isSome with
    | true=>rfl
    | false=>exact absurd (by rw[e];rfl) ne
   rw[aK ns] at tk;exact⟨_,_,rfl,sH.trans sp,by rw[tk];exact hd2⟩
 ·rintro σ H' ⟨v2,v3,rfl,sH,hd⟩
  rw[aA,take_length] at hd;exists _,rfl,sd,_,rfl,hd,fun o=>?_;refine q sd o _ (fun b' u e=>?_) hsd za;rw[zj (zi e hsd)];exact sH _ _ e
def MA1(H:Hp)(u:Addr)(m:Str×Nat):Prop:=H u=some (.tup [.str m.1,.int (m.2:Nat)])
def vc(H:Hp)(us:List Addr)(ms:List (Str×Nat)):Prop:=Paired (MA1 H) us ms
theorem vc.same(h:vc H us ms)(s:zq H H'):vc H' us ms:=zu (fun _ _ z=>s _ _ z) h
theorem vc.upd(h:vc H us ms)(hD:H D=some (.lst ys)):vc (upd H D o) us ms:=zu (fun u m z=>by
 show L2.upd H D o u=_;rw[zj (fun e=>by rw[e] at z;rw[MA1,hD] at z;cases z)]
 exact z) h
theorem vc.snoc(h:vc H us ms)(hu:MA1 H u m):vc H (us++[u]) (ms++[m]):=Paired.snoc h hu
def zcB(H H':Hp)(l:Addr)(ms:List (Str×Nat)):Prop:=∃us:List Addr,H l=none/\H' l=some (.lst (us.map V.ref))/\vc H' us ms
def wj(rows:List Rw)(many:Nat):List (Str×Nat):=if (zN 2 0 rows).isSome=true then [] else (List.range (many - plN rows)).map fun i=>((("over" : Str),plN rows+i):Str×Nat)
inductive zdS(c:C5)(CF:Addr)(vs:List V)(H:Hp)(Q:VK)(E:XK):Prop|mk(f:Addr)(many:Nat)(rows:List Rw)(bars:List Str):vs=[.ref f,.int (many:Nat)]->many<=900->rows.length<=500->xN c CF H f rows bars->(∀(l:Addr) (H':Hp),zq H H'->zcB H H' l (wj rows many)->Q (.ref l) H')->zdS c CF vs H Q E
def zb7(r:Rw)(i many:Nat)(fk:List (Key×V)):List V:=
 if xV r.k=true/\i<many then [.str "place",.int (i:Nat)] else if yt r.k=true/\(yq fk (.inr r.z)).isSome=true then [.str "name",(yq fk (.inr r.z)).getD .non] else [.str "free"]
def zdx(fk:List (Key×V)):Prop:=∀k v,yq fk k=some v->wy v=true
inductive zfR(c:C5)(vs:List V)(H:Hp)(Q:VK)(E:XK):Prop|mk(p d:Addr)(i many:Nat)(r:Rw)(fk:List (Key×V)):vs=[.ref p,.int (i:Nat),.int (many:Nat),.ref d]->PAt c H p r->r.ok->Rd H d (.dK fk)->(∀(u:Addr) (H':Hp),zq H H'->H' u=some (.tup (zb7 r i many fk))->Q (.ref u) H')->zfR c vs H Q E
def ud(r:Rw)(i many:Nat)(fk:List (Key×V)):Bool:=!fr r.k r.b&&L2.eqT (zb7 r i many fk) [.str "free"]
def ub(many:Nat)(fk:List (Key×V)):Nat->List Rw->List (Str×Nat)
 | _,[]=>[]
 | i,r::rs=>(if ud r i many fk=true then [(("lacking" : Str),i)] else [])++ub many fk (i+1) rs
theorem qQ{many:Nat}{fk:List (Key×V)}{r:Rw}:∀(rows:List Rw) (j i:Nat),rows[i]?=some r->ub many fk j (rows.take (i+1))=ub many fk j (rows.take i)++(if ud r (j+i) many fk=true then [(("lacking" : Str),j+i)] else [])
 | [],_,_,h=>by simp at h
 | y::ys,j,0,h=>by
  have e:y=r:=by simpa using h
  subst e;show(_++[])=[]++_;rw[append_nil,nil_append];rfl
 | y::ys,j,i+1,h=>by
  have:=qQ (many:=many) (fk:=fk) ys (j+1) i (by simpa using h)
  show _++ub many fk (j+1) (ys.take (i+1))=_;rw[this,show j+1+i=j+(i+1) by omega,<- append_assoc]
  rfl
theorem jE(many:Nat)(fk:List (Key×V)):∀(rows:List Rw) (i:Nat),(ub many fk i rows).length<=rows.length
 | [],_=>le_refl _
 | r::rs,i=>by
  have:=jE many fk rs (i+1)
  show(_++ub many fk (i+1) rs).length<=rs.length+1;rw[aG];split
  ·rw[length_singleton];omega
  ·rw[length_nil];omega
theorem ze2{i many:Nat}(h:zdx fk):(zb7 r i many fk).all wy=true:=by
 unfold zb7;split
 ·rfl
 ·split
  next h2=>
   obtain⟨v,hv⟩:=Option.isSome_iff_exists.mp h2.2;rw[hv];show(true&&(wy v&&true))=true;rw[h _ _ hv];rfl
  ·rfl
inductive zdV(c:C5)(CF:Addr)(vs:List V)(H:Hp)(Q:VK)(E:XK):Prop|mk(f d:Addr)(many:Nat)(rows:List Rw)(bars:List Str)(fk:List (Key×V)):vs=[.ref f,.int (many:Nat),.ref d]->rows.length<=500->(∀r∈rows,r.ok)->xN c CF H f rows bars->Rd H d (.dK fk)->zdx fk->(∀(l:Addr) (H':Hp),zq H H'->zcB H H' l (ub many fk 0 rows)->Q (.ref l) H')->zdV c CF vs H Q E
theorem zq.rd(s:zq H H')(h:Rd H a u):Rd H' a u:=h.elim (fun e=>.inl (s _ _ e)) fun⟨o,e⟩=>.inr ⟨o,s _ _ e⟩
theorem zml:([Str.ofString "number"]:List Str).Nodup:=by decide +kernel
theorem ziu:zv ["form","many"] ["form","many"] (zk zcX):=fsc
theorem zg9{P:Program}{w:World}{K:Frag}{base:Heap}{fd:FuncData}{gT gP:Addr}{eT eP:FuncData}(F:Fun K "overs" "overs" zcX f fd)(hran:mg "range"=none)(FK:FC K CF)(mT:yW K CF "tail" gT)(GT:↥1 gT eT ["self"] (vP c CF 2))(bT:zU K eT ["self"] [])(mP:yW K CF "places" gP)(GP:↥1 gP eP ["self"] (wL c CF))(bP:zU K eP ["self"] []):
  ↥2 f fd ["form","many"] (zdS c CF):=by
 specialize ziu;obtain⟨f,many,rows,bars,rfl,lm,l5,hF,q⟩:=h;refine⟨_,zm (zS (xT (zbo (yc (pv 0) FK.cl mT GT hr bT .nil zZ))) (zg (zA (zP zc))) zI)
  (zg (zA (wC [] ["number"] [none] rfl ⟨rfl,rfl,rfl,rfl⟩ (zeW rfl hran (ac (yc (pv 0) FK.cl mP GP hr bP .nil zZ) (ac (pv 1) zc))) (ya 0) rfl rfl rfl
   (fun pins fp s H C=>⟨zr (i:=0) zml rfl (Or.inl rfl) (.inr rfl),yV,zT (ac zy (ac (pv 0) zc))⟩)))),?_⟩
 obtain⟨dx,fs,lr,lb,ld,ps,h1,h2,h3,h4,h5,h6⟩:=id hF;have nmT:fs.lookup ("tail" : Str)=none:=h2.no _ (by decide +kernel)
 have nmP:fs.lookup ("places" : Str)=none:=h2.no _ (by decide +kernel)
 exists _,rfl,f,dx,fs,rfl,h1,nmT,f,rows,bars,rfl,hF,?_;exists _,rfl,?_;cases e:zN 2 0 rows with
 | some i=>
  have ef:wj rows many=[]:=by unfold wj;rw[e];rfl
  have ne:(!decide (wB (some i)=V.non))=true:=rfl;rw[aK ne];exists xS,fun l hl=>?_;exact q l _ (ze hl _) ⟨[],hl,za,by rw[ef];exact .nil⟩
 | none=>
  have ef:wj rows many=(List.range (many - plN rows)).map fun i=>((("over" : Str),plN rows+i):Str×Nat):=by unfold wj;rw[e];rfl
  refine x8 ?_;have lp:plN rows<=500:=le_trans (length_filter_le _ _) l5;exists _,rfl,f,dx,fs,rfl,h1,nmP,f,rows,bars,rfl,hF,_,rfl,(plN rows:Nat),(many:Nat),rfl,⟨∅,∅,∅,∅⟩,fun D hD=>?_
  have en:((many:Int) - (plN rows:Int)).toNat=many - plN rows:=by omega
  refine qP (n:=((many:Int) - (plN rows:Int)).toNat) (fun i ys H'=>∃us,ys=us.map V.ref/\zq H H'/\H' D=some (.lst ys)/\vc H' us ((List.range i).map fun i=>((("over" : Str),plN rows+i):Str×Nat))) ⟨[],rfl,ze hD _,za,.nil⟩ ?_ ?_
  ·rintro i ys H' hi ⟨us,rfl,sH,hDy,hm⟩
   have lu:us.length=i:=by rw[hm.length,aA,length_range]
   exists fun _=>?_,fun e=>Bool.noConfusion e;exists _,rfl,yA,fun t ht=>?_;have s2:=ze ht (.tup [.str "over",.int ((plN rows:Int)+(i:Int))]);have hDy2:=s2 _ _ hDy;refine lcN.mk hi (yg ∅) hDy2 (by rw[aA,lu];exact le_refl _) ⟨us++[t],by rw[aE];rfl,fun b' u' e'=>?_,za,?_⟩
   ·rw[zj (zi e' hD)]
    exact s2 _ _ (sH _ _ e')
   ·rw[range_succ,aE]
    have hu:MA1 (upd H' t (.tup [.str "over",.int ((plN rows:Int)+(i:Int))])) t ("over",plN rows+i):=by
     show upd H' t _ t=_;rw[za];rfl
    exact((hm.same s2).snoc hu).upd hDy2
  ·rintro ys H' ⟨us,rfl,sH,hDy,hm⟩
   rw[en,<- ef] at hm;exact q D H' sH ⟨us,hD,hDy,hm⟩
theorem zkt:zv ["parameter","number","many","firsts"] ["parameter","number","many","firsts"] (zk zgf):=fsc
theorem zi0{P:Program}{w:World}{K:Frag}{base:Heap}{fd:FuncData}{m:MA}{gp gb:FuncData}(F:Fun K "one_entry" "one_entry" zgf f fd)(PP:Pcs K m c)(GP:↥1 m.fP gp ["self"] (j0 K m bpL))(bP:zU K gp ["self"] [])(GB:↥1 m.fB gb ["self"] (j0 K m bnL))(bB:zU K gb ["self"] []):
  ↥2 f fd ["parameter","number","many","firsts"] (zfR c):=by
 specialize zkt;obtain⟨p,d,i,many,r,fk,rfl,⟨dx,hp⟩,rok,hd,q⟩:=h;have hu1:=zes hr;have C:=PP r.k rok.1;refine⟨_,zm (zS (xy (xr (y7 (yc (pv 0) C.cl C.mP GP hr bP .nil zZ)) (y9 (zw vX (pv 1) (pv 2) (zM _))))) (zg (zA (zT (ac zy (ac (pv 1) zc))))) zI)
  (zm (zS (xy (xr (y7 (yc (pv 0) C.cl C.mB GB hr bB .nil zZ)) (y9 (xT (zkY hu1 (yI (pv 0) rfl) (pv 3)))))) (zg (zA (zT (ac zy (ac (zed hu1 (pv 3) (yI (pv 0) rfl) (fun _ _=>rfl)) zc))))) zI)
  (zg (zA (zT (ac zy zc))))),?_⟩
 have nP:(pr r).lookup ("by_place" : Str)=none:=vJ (by decide +kernel) (by decide +kernel) (by decide +kernel)
 have nB:(pr r).lookup ("by_name" : Str)=none:=vJ (by decide +kernel) (by decide +kernel) (by decide +kernel)
 try dsimp only
 refine xj (fun σ' H'=>σ'=[~~~p,some (.int (i:Nat)),some (.int (many:Nat)),~~~d]/\H'=H/\¬(xV r.k=true/\i<many)) ?_ (fun key=>?_);rotate_left
 ·exists _,rfl,p,dx,_,rfl,hp,nP,p,dx,_,_,_,_,rfl,C,hp,_,rfl,?_
  rw[zhJ r.k rok.1];cases eb:xV r.k with
  | false=>
   refine x8 ?_;refine x8 ?_;exact key _ _ ⟨rfl,rfl,by rw[eb];exact fun z=>Bool.noConfusion z.1⟩
  | true=>
   refine wZ ?_;exists _,rfl,_,rfl,_,_,rfl,rfl,_,rfl,?_;refine wf (fun c1=>?_) (fun c1=>?_)
   ·have hlt:i<many:=by
     have:=of_decide_eq_true c1
     omega
    exists _,rfl,yA,fun t ht=>?_;exact q t _ (ze ht _) (by rw[za];unfold zb7;rw[aK ⟨eb,hlt⟩])
   ·have hlt:¬i<many:=fun h=>c1 (aC (by show(i:Int)<(many:Int);omega))
    exact key _ _ ⟨rfl,rfl,fun z=>hlt z.2⟩
 rintro σ1 H1 ⟨rfl,rfl,nn⟩;have e1:zb7 r i many fk=(if yt r.k=true/\(yq fk (.inr r.z)).isSome=true then [.str "name",(yq fk (.inr r.z)).getD .non] else [.str "free"]):=by unfold zb7;rw[aJ nn]
 try dsimp only
 refine xj (fun σ' H'=>σ'=[~~~p,some (.int (i:Nat)),some (.int (many:Nat)),~~~d]/\H'=H1/\¬(yt r.k=true/\(yq fk (.inr r.z)).isSome=true)) ?_ (fun key=>?_);rotate_left
 ·exists _,rfl,p,dx,_,rfl,hp,nB,p,dx,_,_,_,_,rfl,C,hp,_,rfl,?_
  rw[jU r.k rok.1];cases eb:yt r.k with
  | false=>
   refine x8 ?_;refine x8 ?_;exact key _ _ ⟨rfl,rfl,by rw[eb];exact fun z=>Bool.noConfusion z.1⟩
  | true=>
   refine wZ ?_;exists _,rfl,p,_,dx,_,_,rfl,hp,C.cl,C.nN,wR,_,rfl,d,_,rfl,.inl ⟨fk,.inr r.z,hd,rfl,rfl⟩,_,rfl,?_;refine wf (fun c1=>?_) (fun c1=>?_)
   ·obtain⟨v,hv⟩:=Option.isSome_iff_exists.mp c1
    exists _,rfl,_,rfl,p,_,dx,_,_,rfl,hp,C.cl,C.nN,wR,d,v,rfl,.inl ⟨fk,.inr r.z,hd,rfl,hv.symm⟩,yA,fun t ht=>?_;exact q t _ (ze ht _) (by rw[za,e1,aK ⟨eb,c1⟩,hv];rfl)
   ·exact key _ _ ⟨rfl,rfl,fun z=>c1 z.2⟩
 rintro σ2 H2 ⟨rfl,rfl,nn2⟩;exists jy,fun t ht=>?_;exact q t _ (ze ht _) (by rw[za,e1,aJ nn2])
theorem j9:zv ["form","many","firsts","found","number","parameter"] ["form","many","firsts"] (zk zgj):=fsc
theorem zhg{P:Program}{w:World}{K:Frag}{base:Heap}{fd:FuncData}{m:MA}{g gP:Addr}{gd gf eP:FuncData}(F:Fun K "lackings" "lackings" zgj f fd)(hen:mg "enumerate"=none)(PP:Pcs K m c)(FK:FC K CF)(mP:yW K CF "parameters" gP)(GP:↥1 gP eP ["self"] (vR c CF))(bP:zU K eP ["self"] [])
  (GF:↥1 m.fF gf ["self"] (qm K m)) (bF:zU K gf ["self"] []) (cE1:⇑2 "one_entry" g gd ["parameter","number","many","firsts"] (zfR c)):↥3 f fd ["form","many","firsts"] (zdV c CF):=by
 specialize j9;obtain⟨f,d,many,rows,bars,fk,rfl,l5,hok,hF,hd,hfl,q⟩:=h;have hr1:yl 1 _:=hr.mono ⋯
 have hU:=hr.units;have hO:∀C,Cs5 c C->Cls K C/\yW K C "free" m.fF:=fun C ⟨k,hk,e⟩=>by rw[e];exact⟨(PP k hk).cl,(PP k hk).mF⟩
 refine⟨_,zm (zx (i:=3) j9.nd rfl (Or.inl rfl) (zP zc))
  (zm (yS PassesOwn.never rfl (wc rfl hen (ac (yc (pv 0) FK.cl mP GP hr1 bP .nil zZ) zc)) (yB rfl (zB (zr (i:=4) j9.nd rfl (Or.inl rfl)) (zB (zr (i:=5) j9.nd rfl (Or.inl rfl)) yi)))
   (zg (zS (xy (xr (vA (y7 (xO (pv 5) hO GF hr1 bF zZ))) (y9 (zw (zgT hU) (cF cE1 hr (ac (pv 5) (ac (pv 4) (ac (pv 1) (ac (pv 2) zc))))) (zT (ac zy zc)) (zM _)))))
    (zg (zW (xh PySem.F.plainAttrs_list PySem.F.slot_list_append PySem.F.type_list_append z9 (pv 3) (ac (zT (ac zy (ac (pv 4) zc))) zc)))) zI)))
  (zg (zA (pv 3)))),?_⟩
 exists xS,fun l hl=>?_;have s1:=ze hl (.lst []);have e1:upd H l (.lst []) l=some (.lst []):=za;show vN _ _ _ _ (upd H l (.lst []));generalize upd H l (.lst [])=H1 at s1 e1 |-;obtain⟨dx,fs,lr,lb,ld,ps0,h1,h2,h3,h4,h5,h6⟩:=id hF;have nmP:fs.lookup ("parameters" : Str)=none:=h2.no _ (by decide +kernel)
 exists _,rfl,f,dx,fs,rfl,s1 _ _ h1,nmP,f,rows,bars,rfl,hF.same s1,fun lp ps H2 s2 np ep hps=>?_;have e2:=s2 _ _ e1;have nlp:lp≠l:=Ne.symm (zi e1 np);have nd:∀{b:Addr}{u:HO},H b=some u->b≠l:=fun e=>zi e hl;have s12:=s1.trans s2;have sHl:∀{H':Hp},(∀b u,H2 b=some u->b≠l->H' b=some u)->zq H H':=fun k b u e=>k b u (s12 _ _ e) (nd e);refine⟨lp,rfl,⟨_,zh ep⟩,wx (K:=K) (a:=lp) (xs:=ps.map V.ref) (fun i σ H'=>∃(us:List Addr) (v4 v5:Option V),σ=[~~~f,some (.int (many:Nat)),~~~d,~~~l,v4,v5]/\(∀b u,H2 b=some u->b≠l->H' b=some u)/\H' l=some (.lst (us.map V.ref))/\vc H' us (ub many fk 0 (rows.take i)))
  ⟨[],_,_,rfl,fun _ _ e _=>e,e2,.nil⟩ (fun i σ H' _ ⟨_,_,_,_,sH,_⟩=>zh (sH _ _ ep nlp)) ?_ ?_⟩
 ·rintro i x p σ H' hx ⟨us,v4,v5,rfl,sH,hl',hm⟩ hpn
  obtain⟨pa,hpa,rfl⟩:=xR hx;obtain⟨r,hr',dx',hdx⟩:=yG hps hpa;have rok:=hok r (aH hr');have C:=PP r.k rok.1;have hi:i<rows.length:=(List.getElem?_eq_some_iff.mp hr').1;have npa:pa≠l:=xq hdx e2 (by intro z;cases z)
  have tk:=qQ (many:=many) (fk:=fk) rows 0 i hr';rw[Nat.zero_add] at tk;have sp:=ze hpn (.tup [.int (i:Nat),.ref pa]);have lu:us.length<=i:=by
   rw[hm.length];refine le_trans (jE _ _ _ _) ?_;rw[length_take];omega
  have sH1:∀b u,H2 b=some u->b≠l->upd H' p (.tup [.int (i:Nat),.ref pa]) b=some u:=fun b u e n=>sp _ _ (sH b u e n);have hl1:=sp _ _ hl';have hm1:=hm.same sp;exists p,_,rfl,zF za,rfl,_,_,rfl,_,_,rfl,rfl,?_;generalize upd H' p (.tup [.int (i:Nat),.ref pa])=H3 at sH1 hl1 hm1 |-;have hd3:=sH1 _ _ hdx npa;exists _,rfl,pa,_,dx',_,rfl,⟨r.k,rok.1,rfl⟩,hd3,vJ (by decide +kernel) (by decide +kernel) (by decide +kernel),pa,dx',_,_,_,_,rfl,C,hd3,_,rfl,?_
  cases ef:fr r.k r.b with
  | true=>
   have il:ud r i many fk=false:=by unfold ud;rw[ef];rfl
   rw[il,aJ zft,append_nil] at tk;refine x8 ?_;refine x8 ?_;exact⟨us,_,_,rfl,sH1,hl1,by rw[tk];exact hm1⟩
  | false=>
   refine wZ ?_;exists _,rfl,_,rfl,_,rfl,_,rfl,pa,d,i,many,r,fk,rfl,⟨dx',hd3⟩,rok,zq.rd (sHl sH1) hd,fun u H4 s4 e4=>?_;exists jy,fun t ht=>?_;have s5:=ze ht (.tup [.str "free"]);exists u,t,_,_,rfl,rfl,zF (s5 _ _ e4),zF za,ze2 hfl,rfl,_,rfl,?_;have s45:=s4.trans s5;have il:ud r i many fk=L2.eqT (zb7 r i many fk) [.str "free"]:=by unfold ud;rw[ef];rfl
   rw[<- il];generalize upd H4 t (.tup [.str "free"])=H5 at s5 s45 |-;have hl5:=s45 _ _ hl1;have sH5:∀b u,H2 b=some u->b≠l->H5 b=some u:=fun b u e n=>s45 _ _ (sH1 b u e n);refine wf (fun c1=>?_) (fun c1=>?_)
   ·rw[c1,aK rfl] at tk
    exists _,rfl,.inl ⟨rfl,_,zh hl5⟩,_,rfl,yA,fun t2 ht2=>?_;have s6:=ze ht2 (.tup [.str "lacking",.int (i:Nat)]);have hl6:=s6 _ _ hl5;have hu2:MA1 (upd H5 t2 (.tup [.str "lacking",.int (i:Nat)])) t2 ("lacking",i):=by
     show upd H5 t2 _ t2=_;rw[za]
    exists l,_,.ref t2,rfl,rfl,hl6,zY (by rw[aA];omega),?_
    exists us++[t2],_,_,rfl,fun b u e n=>?_,by rw[za,aE];rfl,?_
    ·rw[zj n]
     exact s6 _ _ (sH5 b u e n)
    ·rw[tk]
     exact(((hm1.same s45).same s6).snoc hu2).upd hl6
   ·have c2:ud r i many fk=false:=by
     cases e:ud r i many fk with
     | false=>rfl
     | true=>exact absurd e c1
    rw[c2,aJ zft,append_nil] at tk;exact⟨us,_,_,rfl,sH5,hl5,by rw[tk];exact hm1.same s45⟩
 ·rintro σ H' ⟨us,v4,v5,rfl,sH,hl',hm⟩
  rw[aA,hps.length,take_length] at hm;exact⟨_,rfl,q l H' (sHl sH) ⟨us,hl,hl',hm⟩⟩
def fpF:Nat->List (Str×Nat)->List Str->List (Str×Nat)
 | _,acc,[]=>acc
 | i,acc,z::zs=>fpF (i+1) (if (acc.any fun p=>decide (p.1=z))=true then acc else acc++[(z,i)]) zs
def kvP(fp:List (Str×Nat)):List (Key×V):=fp.map fun p=>(.inr p.1,.int (p.2:Nat))
theorem jn(fp:List (Str×Nat))(z:Str):(yq (kvP fp) (.inr z)).isSome=fp.any fun p=>decide (p.1=z):=by
 rw[<- ve];unfold kvP;rw[any_map]
 congr 1
 funext p
 show decide ((Sum.inr p.1:Key)=Sum.inr z)=decide (p.1=z);exact zhG _ _
theorem zdp:∀(zs:List Str) (i:Nat) (acc:List (Str×Nat)),uF i (kvP acc) zs=kvP (fpF i acc zs)
 | [],_,_=>rfl
 | z::zs,i,acc=>by
  show uF (i+1) (if (yq (kvP acc) (.inr z)).isSome=true then kvP acc else xB (kvP acc) (.inr z) (.int i)) zs=kvP (fpF (i+1) (if (acc.any fun p=>decide (p.1=z))=true then acc else acc++[(z,i)]) zs)
  rw[jn];cases e:acc.any fun p=>decide (p.1=z) with
  | true=>exact zdp zs (i+1) acc
  | false=>
   have e2:xB (kvP acc) (.inr z) (.int (i:Nat))=kvP (acc++[(z,i)]):=by
    unfold xB;rw[ve,jn,e,aJ zft];unfold kvP;rw[aE];rfl
   rw[aJ zft,aJ zft,e2];exact zdp zs (i+1) _
theorem zbs(h:yq (kvP fp) k=some v):∃(z:Str) (j:Nat),k=.inr z/\v=.int (j:Nat)/\(z,j)∈fp:=by
 unfold yq at h;cases e:(kvP fp).find? fun kv=>decide (kv.1=k) with
 | none=>rw[e] at h;cases h
 | some kv=>
  rw[e] at h;have hm:=List.mem_of_find?_eq_some e;have hk:=List.find?_some e;unfold kvP at hm;obtain⟨p,hp,rfl⟩:=List.mem_map.mp hm;exact⟨p.1,p.2,(of_decide_eq_true hk).symm,(Option.some.inj h).symm,hp⟩
theorem zjy(fp:List (Str×Nat)):zdx (kvP fp):=fun k v h=>by
 obtain⟨z,j,_,rfl,_⟩:=zbs h;rfl
theorem zev{z:Str}:∀(zs:List Str) (i:Nat) (acc:List (Str×Nat)),(acc.any fun p=>decide (p.1=z))=true->((fpF i acc zs).any fun p=>decide (p.1=z))=true
 | [],_,_,h=>h
 | y::ys,i,acc,h=>by
  show((fpF (i+1) _ ys).any _)=true;refine zev ys (i+1) _ ?_;split
  ·exact h
  ·rw[any_append,h];rfl
theorem zhQ{z:Str}:∀(zs:List Str) (i:Nat) (acc:List (Str×Nat)),z∈zs->((fpF i acc zs).any fun p=>decide (p.1=z))=true
 | [],_,_,h=>by cases h
 | y::ys,i,acc,h=>by
  show((fpF (i+1) _ ys).any _)=true;rcases List.mem_cons.mp h with rfl|h
  ·refine zev ys (i+1) _ ?_
   split
   next e=>exact e
   ·rw[any_append]
    simp
  ·exact zhQ ys (i+1) _ h
def fpZ(zs:List Str):List (Str×Nat):=fpF 0 [] zs
theorem zmx(zs:List Str):uF 0 [] zs=kvP (fpZ zs):=zdp zs 0 []
def uf(fk:List (Key×V)):Nat->List Str->List (Str×Nat)
 | _,[]=>[]
 | i,z::zs=>(if yq fk (.inr z)=some (.int (i:Nat)) then [] else [(("doubled" : Str),i)])++uf fk (i+1) zs
theorem zaS{fk:List (Key×V)}{z:Str}:∀(zs:List Str) (j i:Nat),zs[i]?=some z->uf fk j (zs.take (i+1))=uf fk j (zs.take i)++(if yq fk (.inr z)=some (.int (j+i:Nat)) then [] else [(("doubled" : Str),j+i)])
 | [],_,_,h=>by simp at h
 | y::ys,j,0,h=>by
  have e:y=z:=by simpa using h
  subst e;show(_++[])=[]++_;rw[append_nil,nil_append];rfl
 | y::ys,j,i+1,h=>by
  have:=zaS (fk:=fk) ys (j+1) i (by simpa using h)
  show _++uf fk (j+1) (ys.take (i+1))=_;rw[this,show j+1+i=j+(i+1) by omega,<- append_assoc]
  rfl
theorem zab(fk:List (Key×V)):∀(zs:List Str) (i:Nat),(uf fk i zs).length<=zs.length
 | [],_=>le_refl _
 | r::rs,i=>by
  have:=zab fk rs (i+1)
  show(_++uf fk (i+1) rs).length<=rs.length+1;rw[aG];split
  ·rw[length_nil];omega
  ·rw[length_singleton];omega
def yx(rows:List Rw)(bars:List Str)(many:Nat)(z:Str):Option Str:=
 if z∈bars then some "barred" else match lastD' z rows with
  | none=>if (zN 4 0 rows).isSome=true then none else some "strange"
  | some l=>if l<plN rows/\l<many then some "again" else none
where lastD' (z:Str) (rows:List Rw):Option Nat:=match yq (xn 0 [] rows) (.inr z) with
 | some (.int i)=>some i.toNat
 | _=>none
def vf(rows:List Rw)(bars:List Str)(many:Nat)(fp:List (Str×Nat)):List (Str×Nat):=fp.filterMap fun p=>(yx rows bars many p.1).map fun wd=>(wd,p.2)
def xP(rows:List Rw)(bars:List Str)(many:Nat)(zs:List Str):List (Str×Nat):=uf (kvP (fpZ zs)) 0 zs++wj rows many++vf rows bars many (fpZ zs)++ub many (kvP (fpZ zs)) 0 rows
inductive zjS(c:C5)(CF:Addr)(vs:List V)(H:Hp)(Q:VK)(E:XK):Prop|mk(f d:Addr)(o:Obj)(many:Nat)(rows:List Rw)(bars:List Str)(fp:List (Str×Nat)):vs=[.ref f,.int (many:Nat),.ref d]->rows.length<=500->bars.length<=500->fp.length<=900->xN c CF H f rows bars->H d=some (.frz o (.dK (kvP fp)))->(∀(l:Addr) (H':Hp),zq H H'->zcB H H' l (vf rows bars many fp)->Q (.ref l) H')->zjS c CF vs H Q E
inductive zjW(c:C5)(CF:Addr)(vs:List V)(H:Hp)(Q:VK)(E:XK):Prop|mk(f a:Addr)(many:Nat)(rows:List Rw)(bars zs:List Str):vs=[.ref f,.int (many:Nat),.ref a]->rows.length<=500->bars.length<=500->many<=900->zs.length<=900->(∀r∈rows,r.ok)->xN c CF H f rows bars->H a=some (.lst (zs.map V.str))->(∀(l:Addr) (H':Hp),zq H H'->zcB H H' l (xP rows bars many zs)->Q (.ref l) H')->zjW c CF vs H Q E
theorem zew:∀(zs:List Str) (i:Nat) (acc:List (Str×Nat)),(fpF i acc zs).length<=acc.length+zs.length
 | [],_,_=>le_refl _
 | z::zs,i,acc=>by
  have h:=zew zs (i+1) (if (acc.any fun p=>decide (p.1=z))=true then acc else acc++[(z,i)])
  have h2:(if (acc.any fun p=>decide (p.1=z))=true then acc else acc++[(z,i)]).length<=acc.length+1:=by
   split
   ·omega
   ·rw[aG];exact le_refl _
  show(fpF (i+1) _ zs).length<=acc.length+(zs.length+1);omega
theorem vc.app(h:vc H us ms)(h':vc H vs ns):vc H (us++vs) (ms++ns):=zX h h'
theorem zmp:([Str.ofString "number",Str.ofString "name",Str.ofString "firsts"]:List Str).Nodup:=by decide +kernel
theorem zf6:zv ["form","many","names","firsts","doubled"] ["form","many","names"] (zk zkI):=fsc
theorem zk7{P:Program}{w:World}{K:Frag}{base:Heap}{fd:FuncData}{g1 g2 g3 g4:Addr}{d1 d2 d3 d4:FuncData}(F:Fun K "misfits_of" "misfits_of" zkI f fd)(hen:mg "enumerate"=none)(c1:⇑1 "first_numbers" g1 d1 ["names"] zbQ)(c2:⇑2 "overs" g2 d2 ["form","many"] (zdS c CF))(c3:⇑2 "unwelcomes" g3 d3 ["form","many","firsts"] (zjS c CF))(c4:⇑3 "lackings" g4 d4 ["form","many","firsts"] (zdV c CF)):
  ↥4 f fd ["form","many","names"] (zjW c CF):=by
 specialize zf6;obtain⟨f,a,many,rows,bars,zs,rfl,l5,lb5,lm,lz,hok,hF,ha,q⟩:=h;have hr1:yl 1 _:=hr.mono ⋯
 have hr2:yl 2 _:=hr.mono ⋯
 have hu1:=zes hr;refine⟨_,zm (zx (i:=3) zf6.nd rfl (Or.inr rfl) (cF c1 hr1 (ac (pv 2) zc)))
  (zm (wO (i:=4) ["firsts"] ["number","name","firsts"] [none,none,some 3] zf6.nd rfl (Or.inl rfl) rfl ⟨rfl,rfl,rfl,rfl⟩ (wc rfl hen (ac (pv 2) zc)) (xY (K:=K) (n:=2) 0 1) rfl rfl rfl
   (fun pins fp s H C=>⟨yB rfl (zB (zr (i:=0) zmp rfl (Or.inl rfl) (.inr rfl)) (zB (zr (i:=1) zmp rfl (Or.inl rfl) (.inr rfl)) yi)),xl (zw zb5 (zed hu1 (pv 2) (pv 1) (fun _ _=>rfl)) (pv 0) (zM _)),zT (ac zy (ac (pv 0) zc))⟩))
  (zg (zA (zo yr (zo yr (zo yr (pv 4) (cF c2 hr2 (ac (pv 0) (ac (pv 1) zc)))) (cF c3 hr2 (ac (pv 0) (ac (pv 1) (ac (pv 3) zc))))) (cF c4 hr (ac (pv 0) (ac (pv 1) (ac (pv 3) zc)))))))),?_⟩
 exists _,rfl,a,zs,rfl,ha,lz,fun d o H1 s1 hd0 hd1=>?_;rw[zmx] at hd1;have lfp:(fpZ zs).length<=900:=by
  have:=zew zs 0 []
  show(fpF 0 [] zs).length<=900;simp at this;omega
 generalize hfp:fpZ zs=fp at hd1 lfp;exists _,rfl,a,rfl,⟨_,zh (s1 _ _ ha)⟩,fun D hD=>?_;refine zep (K:=K) (xs:=zs.map V.str) (fun i ys H'=>∃us,ys=us.map V.ref/\zq H1 H'/\H' D=some (.lst ys)/\vc H' us (uf (kvP fp) 0 (zs.take i))) ⟨[],rfl,ze hD _,za,.nil⟩ (fun i ys H' ⟨_,_,h,_⟩=>zh (h _ _ (s1 _ _ ha))) ?_ ?_
 ·rintro i x p ys H' hlt hx ⟨us,rfl,sH,hDy,hm⟩ hpn
  obtain⟨z,hz,rfl⟩:=strs_at hx;have hi:i<zs.length:=(List.getElem?_eq_some_iff.mp hz).1;have tk:=zaS (fk:=kvP fp) zs 0 i hz;rw[Nat.zero_add] at tk;have sp:=ze hpn (.tup [.int (i:Nat),.str z]);have lu:us.length<=i:=by
   rw[hm.length];refine le_trans (zab _ _ _) ?_;rw[length_take];omega
  have hsome:(yq (kvP fp) (.inr z)).isSome=true:=by
   rw[jn,<- hfp];exact zhQ zs 0 [] (aH hz)
  obtain⟨v,hv⟩:=Option.isSome_iff_exists.mp hsome;obtain⟨_,j,_,rfl,_⟩:=zbs hv;have hd2:=sp _ _ (sH _ _ hd1);have hDy2:=sp _ _ hDy;have hm2:=hm.same sp;exists p,_,rfl,zF za,rfl,_,_,rfl,_,_,rfl,rfl,?_;have sA:=sH.trans sp;generalize upd H' p (.tup [.int (i:Nat),.str z])=H3 at sp hd2 hDy2 hm2 sA |-;exists _,rfl,_,rfl,d,_,rfl,.inl ⟨_,.inr z,.inr ⟨o,hd2⟩,rfl,hv.symm⟩,_,rfl,rfl,_,rfl,?_;by_cases ej:j=i
  ·subst ej
   rw[aK hv,append_nil] at tk;have ed:(!decide (V.int (j:Nat)=V.int (j:Nat)))=false:=by rw[aC rfl];rfl
   rw[ed];exact⟨fun e=>Bool.noConfusion e,fun _=>lcS.mk hlt ⟨us,rfl,sA,hDy2,by rw[tk];exact hm2⟩⟩
  ·have nv:¬yq (kvP fp) (.inr z)=some (.int (i:Nat)):=fun e=>by
    rw[hv] at e
    have:=V.int.inj (Option.some.inj e)
    omega
   rw[aJ nv] at tk;have ed:(!decide (V.int (j:Nat)=V.int (i:Nat)))=true:=by
    rw[aD (fun e=>by have:=V.int.inj e;omega)]
    rfl
   rw[ed];exists fun _=>?_,fun e=>Bool.noConfusion e;exists _,rfl,yA,fun t ht=>?_;have s4:=ze ht (.tup [.str "doubled",.int (i:Nat)]);have hDy4:=s4 _ _ hDy2;have hu:MA1 (upd H3 t (.tup [.str "doubled",.int (i:Nat)])) t ("doubled",i):=by
    show upd H3 t _ t=_;rw[za]
   refine lcN.mk hlt (yg (by rw[aA];omega)) hDy4 (by rw[aA];exact lu) ⟨us++[t],by rw[aE];rfl,fun b' u' e'=>?_,za,?_⟩
   ·rw[zj (zi e' hD)]
    exact s4 _ _ (sA _ _ e')
   ·rw[tk]
    exact((hm2.same s4).snoc hu).upd hDy4
 rintro ys H2 ⟨us,rfl,s2,hDy,hm⟩;rw[aA,take_length] at hm;have s12:=s1.trans s2;have lov:(wj rows many).length<=900:=by
  unfold wj;split
  ·exact zero_le _
  ·rw[aA,length_range];omega
 have lun:(vf rows bars many fp).length<=900:=by
  unfold vf;exact le_trans (List.length_filterMap_le _ _) lfp
 have lla:=jE many (kvP fp) rows 0;have ldb:=zab (kvP fp) zs 0;have big : 4000<=sizeLine:=by decide
 exists _,rfl,_,rfl,_,rfl,f,many,rows,bars,rfl,lm,l5,hF.same s12,fun l3 H3 s3 ⟨us3,n3,e3,m3⟩=>?_;have lu0:=hm.length;have lu3:=m3.length;exists D,l3,_,_,rfl,rfl,s3 _ _ hDy,e3,(by simp only[aA];omega),fun p4 hp4=>?_
 rw[<- aE];have u4:=ze hp4 (.lst ((us++us3).map V.ref));have e4:upd H3 p4 (.lst ((us++us3).map V.ref)) p4=some (.lst ((us++us3).map V.ref)):=za;have m4:vc (upd H3 p4 (.lst ((us++us3).map V.ref))) (us++us3) _:=((hm.same s3).app m3).same u4;generalize upd H3 p4 (.lst ((us++us3).map V.ref))=H4 at u4 e4 m4 |-;have s24:=s2.trans (s3.trans u4);have s14:=s1.trans s24;exists _,rfl,_,rfl,_,rfl,f,d,o,many,rows,bars,fp,rfl,l5,lb5,lfp,hF.same s14,s24 _ _ hd1,fun l5' H5 s5 ⟨us5,n5,e5,m5⟩=>?_;have lu5:=m5.length;exists p4,l5',_,_,rfl,rfl,s5 _ _ e4,e5,(by simp only[aA,aG];omega),fun p6 hp6=>?_
 rw[<- aE];have u6:=ze hp6 (.lst ((us++us3++us5).map V.ref));have e6:upd H5 p6 (.lst ((us++us3++us5).map V.ref)) p6=some (.lst ((us++us3++us5).map V.ref)):=za;have m6:vc (upd H5 p6 (.lst ((us++us3++us5).map V.ref))) (us++us3++us5) _:=((m4.same s5).app m5).same u6;generalize upd H5 p6 (.lst ((us++us3++us5).map V.ref))=H6 at u6 e6 m6 |-;have s26:=s24.trans (s5.trans u6);have s16:=s1.trans s26;exists _,rfl,_,rfl,_,rfl,f,d,many,rows,bars,kvP fp,rfl,l5,hok,hF.same s16,.inr ⟨o,s26 _ _ hd1⟩,zjy fp,fun l7 H7 s7 ⟨us7,n7,e7,m7⟩=>?_;have lu7:=m7.length;exists p6,l7,_,_,rfl,rfl,s7 _ _ e6,e7,(by simp only[aA,aG];omega),fun p8 hp8=>?_
 rw[<- aE];have u8:=ze hp8 (.lst ((us++us3++us5++us7).map V.ref));refine q p8 _ (s16.trans (s7.trans u8)) ⟨us++us3++us5++us7,(s16.trans s7).free hp8,za,?_⟩;unfold xP;rw[hfp];exact((m6.same s7).app m7).same u8
end
end K64
namespace L2
open PySem PySem.Spec PyProof.Rows
def seen(val:Nat->Str)(T:Str->Bool):Nat->Nat->Str->Bool
 | _,0,z=>T z
 | i,k+1,z=>seen val (fun y=>T y||decide (y=val i)) (i+1) k z
section
variable {R:Result->Shared->Prop}{G:Array GenState->Array GenState->Prop}{n:Nat}{Pr:Nat->Value->Prop}{Sg:Nat->Shared->Prop}
theorem qi{P:Program}{w:World}{A:Around}{I:Addr}{fp wr:List Addr}(W:WalksS P w A.in1 I fp wr G n Pr Sg)(a:Addr)(ha:a∉fp)(val:Nat->Str)(hv:∀i v,Pr i v->∃t,v=.str (val i) t)(hb:n+1<scanBound):
  ∀(k i:Nat) (s:Shared) (T:Str->Bool) (c:Nat),n - i=k->i<=n->Sg i s->c<=i->s.heap.SetOf (strKind P w) a T c->
   (∀s' c',Moved (a::wr) G s s'->c'<=n->s'.heap.SetOf (strKind P w) a (seen val T i k) c'->R (.ok (.ret .none)) s')->
   codeAny (model P w) A (.builtin "set.update.loop" ⟨[.ref a,.ref I],[]⟩) R s
 | 0,i,s,T,c,hk,hi,hg,hc,hT,hR=>by
  have hw:a∉wr:=fun z=>ha (W.sub _ z);have ei:i=n:=by omega
  subst ei;refine codeAny_builtin PyProof.Rows.F.entry_set_update_loop ?_;rw[Around.under_plainId PyProof.Rows.F.plain_set_update_loop _];show wpAny _ A.in1 (pyNext (.ref I) >>= _) _ _ _;refine zwb (W.done s _ _ hg fun s' hm=>?_);show wpAny _ A.in1 (ret Value.none) _ _ _;refine zwp (hR s' c (hm.mono fun b z=>mem_cons_of_mem _ z) hc ?_);obtain⟨ob,es,ep,t,h1,h2⟩:=hT;exact⟨ob,es,ep,t,hm.heap a _ hw h1,h2⟩
 | k+1,i,s,T,c,hk,hi,hg,hc,hT,hR=>by
  have hw:a∉wr:=fun z=>ha (W.sub _ z);have hlt:i<n:=by omega
  refine codeAny_builtin PyProof.Rows.F.entry_set_update_loop ?_;rw[Around.under_plainId PyProof.Rows.F.plain_set_update_loop _];show wpAny _ A.in1 (pyNext (.ref I) >>= _) _ _ _;refine zwb (W.item i s _ _ hlt hg fun v s' hP hg' hm=>?_);obtain⟨t,rfl⟩:=hv i v hP;have hT':s'.heap.SetOf (strKind P w) a T c:=by
   obtain⟨ob,es,ep,tb,h1,h2⟩:=hT;exact⟨ob,es,ep,tb,hm.heap a _ hw h1,h2⟩
  show wpAny _ A.in1 (holding [Value.str (val i) t] (setAdd a (.str (val i) t)) >>= _) _ _ s';refine zwb (wpAny_holding ?_);unfold setAdd;refine wpAny_holding ?_;refine zwb ((strKind P w).pyHash (k:=val i) (strKind_is _ _ _ _) ?_);refine wpAny_setAddHashed_of (knd:=strKind P w) (s:={ s' with toks:=s'.toks+1 }) (strKind_is _ _ _ _) rfl hT' ∅ fun h' hsb h3=>?_
  refine zwp ⟨plainId_quiet PyProof.Rows.F.plain_set_update_loop _,qi W a ha val hv hb k (i+1) _ _ _ ∅ hlt (W.frame _ s' _ _ hg' (le_succ _) fun b hb' o e=>?_) (by split <;> omega) h3 fun s2 c2 hm2 hc2 h4=>?_⟩
  ·have:b≠a:=fun z=>ha (z ▸ hb')
   rw[hsb.2 b this];exact e
  ·refine hR s2 c2 (Moved.trans W.gtrans ((hm.mono fun b z=>mem_cons_of_mem _ z).then_heap (le_succ _) fun b o hb' e=>?_) hm2) hc2 h4
   have:b≠a:=fun z=>hb' (z ▸ mem_cons_self)
   rw[hsb.2 b this];exact e
abbrev qo(led:Bool):Obj:={ cls:=.type "set",dict:=none,data:=.set #[] 0 (.fresh 0 0 led) }
end
set_option maxHeartbeats 8000000 in
theorem zdu{P:Program}{w:World}{A:Around}{E:VSP}{s:Shared}{l:Addr}{items:Array Value}{zs:List Str}{Q:VSP}
  (hh:A.handled=none) (hl:s.heap.IsList l items) (hv:∀(i:Nat) (v:Value),items[i]?=some v->∃t,v=.str (zs.getD i "") t) (hb:items.size+1<scanBound)
  (h:∀(h':Heap) (tk c:Nat),h'.SetOf (strKind P w) s.heap.objs.size (seen (fun i=>zs.getD i "") (fun _=>false) 0 items.size) c->(∀b o,b<s.heap.objs.size->s.heap.get? b=some o->h'.get? b=some o)->Q (.ref s.heap.objs.size) { s with heap:=h',toks:=tk }) :
  wpAny (model P w) A (call (.type "set") [.ref l]) Q E s:=by
 obtain⟨mc,mt,mro⟩:=PySem.F.called_set.mro;have q1:=PySem.F.called_set.made;have q2:=PySem.F.called_set.sub;have q3:=PySem.F.called_set.notType;have q4:=PySem.F.called_set.canCreate;have q5:=PySem.F.typeCall_set_1 (.ref l);refine wpAny_call (codeAny_of_tree ?_);show wpAny _ _ (callAny (.type "set") _) _ _ _;refine zwp ⟨Code.quiet_builtin _ (by decide +kernel),codeAny_builtin PySem.F.entry_type_call ?_⟩;rw[Around.under_plain (weight_type_call_type "set" [.ref l] []) rfl]
 repeat (any_goals first|assumption|wp_step)
 refine codeAny_mono (code_set_new_1 (.ref l) (E:=E) (Q₁:=fun obj s₁=>∃led:Bool,obj=.ref s.heap.objs.size/\s₁={ s with heap:=s.heap.push (qo led) }) fun led=>⟨led,rfl,rfl⟩) fun r s₁ hr=>?_
 rcases r with e|(_|_|_|obj)
 ·exact hr
 ·exact hr.elim
 ·exact hr.elim
 ·exact hr.elim
 ·obtain⟨led,rfl,rfl⟩:=hr
  have hS:(s.heap.push (qo led)).get? s.heap.objs.size=some (qo led):=zgs _ rfl;have hT:Shared.TypeIs { s with heap:=s.heap.push (qo led) } (.ref s.heap.objs.size) "set":=⟨_,hS,rfl⟩
  have q6:=PySem.F.called_set.init.lookup;have q7:=PySem.F.called_set.init.bind (.ref s.heap.objs.size)
  repeat (any_goals first|assumption|wp_step)
  refine codeAny_mono (codeAny_call_builtin (R:=wants (fun r s₂=>r=.none/\∃h' tk c,s₂={ s with heap:=h',toks:=tk }/\h'.SetOf (strKind P w) s.heap.objs.size (seen (fun i=>zs.getD i "") (fun _=>false) 0 items.size) c/\∀b o,b<s.heap.objs.size->s.heap.get? b=some o->h'.get? b=some o) E) PySem.F.called_set.init.plain PySem.F.entry_set_init (check_set_init_1 hT ?_)) fun r₂ s₂ hr₂=>?_
  ·obtain⟨ol,hol,hcl,nl,hdl⟩:=id hl
   obtain⟨ocls,odict,odata,oslots⟩:=ol;simp only at hcl hdl;subst hcl hdl;have hol':(s.heap.push (qo led)).get? l=_:=zgp (qo led) hol;have t1:=PySem.F.sub_list_set;have t2:=PySem.F.sub_list_frozenset;have t3:(Value.type "list"==Value.type "dict")=false:=by decide
   have hl1:(s.heap.push (qo led)).IsList l items:=⟨_,hol',rfl,nl,rfl⟩;have hlS:l<s.heap.objs.size:=aI hol;unfold Builtin.«set.__init__» noKeywords Builtin.Frozenset.updateFrom;generalize hq:pyIter=pit
   wp_walk
   subst hq;refine wpAny_pyIter_list hl1 (zwb (wpAny_runValue ?_));have hz:(s.heap.push (qo led)).objs.size=s.heap.objs.size+1:=Heap.size_push ..;have n1:l≠(s.heap.push (qo led)).objs.size:=by rw[hz];exact ne_of_lt (lt_succ_of_lt hlS)
   have n2:∀b:Addr,b<s.heap.objs.size->b∉[s.heap.objs.size,(s.heap.push (qo led)).objs.size]:=fun b hb' z=>by
    rw[hz] at z;rcases List.mem_cons.mp z with e|e
    ·exact ne_of_lt hb' e
    ·exact ne_of_lt (lt_succ_of_lt hb') (List.mem_singleton.mp e)
   have n3:s.heap.objs.size∉[(s.heap.push (qo led)).objs.size,l]:=fun z=>by
    rw[hz] at z;rcases List.mem_cons.mp z with e|e
    ·exact ne_of_lt (lt_succ_self _) e
    ·exact ne_of_gt hlS (List.mem_singleton.mp e)
   refine qi ((Walks.list (by simp [hh]) _ l n1 items).toS) s.heap.objs.size n3 (fun i=>zs.getD i "") hv hb items.size 0 _ (fun _=>false) 0 ∅ (zero_le _) ⟨⟨_,zgs _ rfl,rfl,rfl⟩,hl1.push _⟩ (le_refl _) ?_ ?_
   ·exact(PyProof.Rows.setObjOf_fresh (knd:=strKind P w) led).setOf (zgp _ hS) (by unfold scanBound;omega)
   ·rintro⟨h',g',d',tk',os'⟩ c' hm hc' hS'
    have e1:g'=s.gens:=hm.gens;have e2:d'=s.drawn:=hm.drawn;have e3:os'=s.os:=hm.os;subst e1 e2 e3;show wpAny _ _ _ _ _ _;refine zwp ?_;show wpAny _ _ (ret Value.none) _ _ _;refine zwp ⟨rfl,h',tk',c',rfl,hS',fun b o hb' e=>hm.heap b o (n2 b hb') (zgp _ (zgp _ e))⟩
  ·rcases r₂ with e|(_|_|_|ob2)
   ·exact hr₂
   ·exact hr₂.elim
   ·exact hr₂.elim
   ·exact hr₂.elim
   ·obtain⟨rfl,h',tk,c',rfl,hS',hk'⟩:=hr₂
    repeat (any_goals first|assumption|wp_step)
    exact h _ _ _ hS' hk'
theorem zbT(val:Nat->Str)(z:Str):∀(k i:Nat) (T:Str->Bool),seen val T i k z=true ↔ (T z=true\/∃j,j<k/\z=val (i+j))
 | 0,i,T=>⟨fun h=>.inl h,fun h=>h.elim id fun⟨j,hj,_⟩=>absurd hj (Nat.not_lt_zero _)⟩
 | k+1,i,T=>by
  show seen val (fun y=>T y||decide (y=val i)) (i+1) k z=true ↔ _
  rw[zbT val z k (i+1)];simp only[Bool.or_eq_true,decide_eq_true_eq];constructor
  ·rintro ((h|h)|⟨j,hj,e⟩)
   ·exact .inl h
   ·exact .inr ⟨0,∅,h⟩
   ·exact .inr ⟨j+1,∅,by rw[show i+(j+1)=i+1+j by omega];exact e⟩
  ·rintro (h|⟨j,hj,e⟩)
   ·exact .inl (.inl h)
   ·cases j with
    | zero=>exact .inl (.inr e)
    | succ j=>exact .inr ⟨j,∅,by rw[show i+1+j=i+(j+1) by omega];exact e⟩
theorem zbS(zs:List Str)(z:Str):seen (fun i=>zs.getD i "") (fun _=>false) 0 zs.length z=decide (z∈zs):=by
 rw[Bool.eq_iff_iff,zbT,decide_eq_true_eq];constructor
 ·rintro (h|⟨j,hj,e⟩)
  ·cases h
  ·rw[e,Nat.zero_add]
   show zs.getD j ""∈zs;rw[getD_eq_getElem?_getD,aB hj];exact getElem_mem hj
 ·intro h
  obtain⟨j,hj,e⟩:=List.mem_iff_getElem.mp h;refine .inr ⟨j,hj,?_⟩;rw[Nat.zero_add];show z=zs.getD j "";rw[getD_eq_getElem?_getD,aB hj];exact e.symm
theorem yb.strs_at:∀{zs:List Str}{us:List Value},yb (zs.map V.str) us->∀(i:Nat) (v:Value),us[i]?=some v->∃t,v=.str (zs.getD i "") t
 | [],_,.nil,i,v,h=>by simp at h
 | z::zs,_,.cons r t,0,v,h=>by
  obtain⟨tk,e⟩:=r
  have:v=.str z tk:=by rw[<- e];simpa using h.symm
  exact⟨tk,this⟩
 | z::zs,_,.cons r t,i+1,v,h=>yb.strs_at t i v (by simpa using h)
theorem zfy{X:Cx}(hc:X.calm=true):xQ X (.type "set") (fun xs H Q=>∃(p:Addr) (zs:List Str),xs=[.ref p]/\SqL X.K H p (zs.map V.str)/\zs.length<=900/\∀(l:Addr) (n:Nat),H l=none->Q (.ref l) (upd H l (wM X.prog X.w l (fun z=>decide (z∈zs)) n))):=by
 intro pins s σ H xs us Q I r h;obtain⟨p,zs,rfl,hS,lz,q⟩:=h;obtain⟨u,rfl,ru⟩:=vd r;cases ru;obtain⟨its,rv,hp,hz⟩:=I.list hS;have hl:its.length=zs.length:=by rw[<- rv.length,aA]
 have hb:its.toArray.size+1<scanBound:=by
  rw[size_toArray,hl];have : 1000<scanBound:=by unfold scanBound;decide
  omega
 refine zdu (I.ok.hd hc) hp.isList (fun i v e=>rv.strs_at i v (by simpa using e)) hb fun h' tk c hS' hk=>?_
 have hsz:its.toArray.size=zs.length:=by rw[size_toArray,hl]
 rw[hsz] at hS';have eS:seen (fun i=>zs.getD i "") (fun _=>false) 0 zs.length=fun z=>decide (z∈zs):=funext (zbS zs);rw[eS] at hS';exists .ref s.heap.objs.size,_,I.laid (t':=tk) (fun b ob e=>hk b ob (aI e) e) (le_refl _) (j8 hS'),rfl,q _ c (I.hok.fresh (le_refl _))
end L2
namespace K64
open PySem L2 PyProof.Rows
theorem zh0:∀(rows:List Rw) (i:Nat) (acc:List (Key×V)) (k:Key) (v:V),(∀k v,yq acc k=some v->∃j:Nat,v=.int (j:Nat))->yq (xn i acc rows) k=some v->∃j:Nat,v=.int (j:Nat)
 | [],_,acc,k,v,h,e=>h k v e
 | r::rs,i,acc,k,v,h,e=>by
  refine zh0 rs (i+1) _ k v (fun k v e=>?_) e;split at e
  ·rw[zbI] at e
   split at e
   ·exact⟨i,(Option.some.inj e).symm⟩
   ·exact h k v e
  ·exact h k v e
theorem zeL{rows:List Rw}{bars:List Str}{many:Nat}{fp:List (Str×Nat)}{i:Nat}{p:Str×Nat}(h:fp[i]?=some p):vf rows bars many (fp.take (i+1))=vf rows bars many (fp.take i)++(match yx rows bars many p.1 with|some wd=>[(wd,p.2)]|none=>[]):=by
 unfold vf;rw[take_add_one,h,List.filterMap_append]
 congr 1
 show List.filterMap _ [p]=_;rw[filterMap_cons,List.filterMap_nil];cases yx rows bars many p.1 <;> rfl
theorem zfH(rows:List Rw)(bars:List Str)(many:Nat)(fp:List (Str×Nat)):(vf rows bars many fp).length<=fp.length:=List.length_filterMap_le _ _
section
variable {K:Frag}{mg:Str->Option Value}{f CF:Addr}{c:C5}
theorem zax:zv ["form","many","firsts","barred","found","name","number","leads_to"] ["form","many","firsts"] (zk zkC):=fsc
theorem zk1(F:Fun K "unwelcomes" "unwelcomes" zkC f fd)(hset:mg "set"=none)(FK:FC K CF)(mB:yW K CF "bars" gB)(GB:↥1 gB eB ["self"] (za4 c CF))(bB:zU K eB ["self"] [])(mN:yW K CF "number_of" gN)(GN:↥1 gN eN ["self","name"] (zfS c CF))(bN:zU K eN ["self","name"] [])
  (mG:yW K CF "bag" gG) (GG:↥1 gG eG ["self"] (vP c CF 4)) (bG:zU K eG ["self"] []) (mP:yW K CF "places" gP) (GP:↥1 gP eP ["self"] (wL c CF)) (bP:zU K eP ["self"] []) :
  ↥2 f fd ["form","many","firsts"] (zjS c CF):=by
 specialize zax;obtain⟨f,d,o,many,rows,bars,fp,rfl,l5,lb5,lfp,hF,hd,q⟩:=h;refine⟨_,zm (zx (i:=3) zax.nd rfl (Or.inl rfl) (cTy (zfy rfl) hset PyProof.Rows.boot_set (ac (yc (pv 0) FK.cl mB GB hr bB .nil zZ) zc)))
  (zm (zx (i:=4) zax.nd rfl (Or.inl rfl) (zP zc))
  (zm (yS PassesOwn.never rfl (zgD (pv 2)) (yB rfl (zB (zr (i:=5) zax.nd rfl (Or.inl rfl)) (zB (zr (i:=6) zax.nd rfl (Or.inl rfl)) yi)))
   (zm (zx (i:=7) zax.nd rfl (Or.inl rfl) (ur (pv 0) FK.cl mN GN hr bN .nil zZ (ac (pv 5) zc)))
   (zg (zS (zw qG (pv 5) (pv 3) (by with_unfolding_all rfl)) (zg (zW (xh PySem.F.plainAttrs_list PySem.F.slot_list_append PySem.F.type_list_append z9 (pv 4) (ac (zT (ac zy (ac (pv 6) zc))) zc))))
    (zg (zS (xT (wA (pv 7))) (zg (zS (xT (wA (yc (pv 0) FK.cl mG GG hr bG .nil zZ))) (zg (zW (xh PySem.F.plainAttrs_list PySem.F.slot_list_append PySem.F.type_list_append z9 (pv 4) (ac (zT (ac zy (ac (pv 6) zc))) zc)))) zI))
     (zg (zS (xy (xr (zw vX (pv 7) (yc (pv 0) FK.cl mP GP hr bP .nil zZ) (zM _)) (y9 (zw vX (pv 7) (pv 1) (zM _))))) (zg (zW (xh PySem.F.plainAttrs_list PySem.F.slot_list_append PySem.F.type_list_append z9 (pv 4) (ac (zT (ac zy (ac (pv 6) zc))) zc)))) zI))))))))
  (zg (zA (pv 4))))),?_⟩
 obtain⟨dx,fs,lr,lb,ld,ps0,h1,h2,h3,h4,h5,h6⟩:=id hF;have nmB:fs.lookup ("bars" : Str)=none:=h2.no _ (by decide +kernel)
 have nmN:fs.lookup ("number_of" : Str)=none:=h2.no _ (by decide +kernel)
 have nmG:fs.lookup ("bag" : Str)=none:=h2.no _ (by decide +kernel)
 have nmP:fs.lookup ("places" : Str)=none:=h2.no _ (by decide +kernel)
 exists _,rfl,f,dx,fs,rfl,h1,nmB,f,rows,bars,rfl,hF,fun lb1 H1 s1 nb eb=>?_;exists lb1,bars,rfl,zh eb,∅,fun sS nS hS=>?_
 have u2:=ze hS (wM P w sS (fun z=>decide (z∈bars)) nS);have e2:upd H1 sS (wM P w sS (fun z=>decide (z∈bars)) nS) sS=some (wM P w sS (fun z=>decide (z∈bars)) nS):=za;show vN _ _ _ _ (upd H1 sS (wM P w sS (fun z=>decide (z∈bars)) nS));generalize upd H1 sS (wM P w sS (fun z=>decide (z∈bars)) nS)=H2 at u2 e2 |-;exists xS,fun l hl=>?_;have u3:=ze hl (.lst []);have e3:upd H2 l (.lst []) l=some (.lst []):=za;show vN _ _ _ _ (upd H2 l (.lst []));generalize upd H2 l (.lst [])=H3 at u3 e3 |-;have s2:=s1.trans u2;have s3:=s2.trans u3;have hlH:H l=none:=s2.free hl;have nl:∀{b:Addr}{u:HO},H2 b=some u->b≠l:=fun e=>zi e hl;have sHl:∀{H':Hp},(∀b u,H2 b=some u->H' b=some u)->zq H H':=fun k b u e=>k b u (s2 _ _ e);refine⟨_,rfl,d,o,kvP fp,rfl,s3 _ _ hd,zfm (d:=d) (o:=o) (kvs:=kvP fp) (fun i σ H'=>∃us v5 v6 v7,σ=[~~~f,some (.int (many:Nat)),~~~d,~~~sS,~~~l,v5,v6,v7]/\(∀b u,H2 b=some u->H' b=some u)/\H' l=some (.lst (us.map V.ref))/\vc H' us (vf rows bars many (fp.take i)))
  ⟨[],_,_,_,rfl,fun _ _ e=>u3 _ _ e,e3,.nil⟩ (fun i σ H' _ ⟨_,_,_,_,_,sH,_⟩=>sH _ _ (s2 _ _ hd)) ?_ ?_⟩
 ·rintro i k v p σ H' hk ⟨us,v5,v6,v7,rfl,sH,hl',hm⟩ hpn
  obtain⟨z,n,hz,rfl,rfl⟩:∃(z:Str) (n:Nat),fp[i]?=some (z,n)/\k=.inr z/\v=.int (n:Nat):=by
   unfold kvP at hk;rw[getElem?_map] at hk;cases e:fp[i]? with
   | none=>rw[e] at hk;cases hk
   | some q=>rw[e] at hk;cases hk;exact⟨q.1,q.2,rfl,rfl,rfl⟩
  have tk:=zeL (rows:=rows) (bars:=bars) (many:=many) hz;dsimp only at tk;have sp:=ze hpn (.tup [kV (.inr z),.int (n:Nat)]);have lu:us.length<=i:=by
   rw[hm.length];refine le_trans (zfH _ _ _ _) ?_;rw[length_take];omega
  have hi:i<fp.length:=(List.getElem?_eq_some_iff.mp hz).1;have sH1:∀b u,H2 b=some u->upd H' p (.tup [kV (.inr z),.int (n:Nat)]) b=some u:=fun b u e=>sp _ _ (sH b u e);have hl1:=sp _ _ hl';have hm1:=hm.same sp;exists p,_,rfl,zF za,rfl,_,_,rfl,_,_,rfl,rfl,?_;generalize upd H' p (.tup [kV (.inr z),.int (n:Nat)])=H4 at sH1 hl1 hm1 |-;have s4:=sHl sH1;exists _,rfl,f,dx,fs,rfl,s4 _ _ h1,nmN,_,rfl,f,z,rows,bars,rfl,hF.same s4,?_;exists _,rfl,_,rfl,sS,_,_,z,rfl,rfl,sH1 _ _ e2,_,rfl,?_;by_cases hz1:z∈bars
  ·refine dT hz1 ?_
   rw[show yx rows bars many z=some "barred" from aK hz1] at tk;exists _,rfl,.inl ⟨rfl,_,zh hl1⟩,_,rfl,yA,fun t ht=>?_;have s6:=ze ht (.tup [.str "barred",.int (n:Nat)]);have hl6:=s6 _ _ hl1;have hu2:MA1 (upd H4 t (.tup [.str "barred",.int (n:Nat)])) t ("barred",n):=by
    show upd H4 t _ t=_;rw[za]
   exists l,_,.ref t,rfl,rfl,hl6,zY (by rw[aA];omega),?_
   exists us++[t],_,_,_,rfl,fun b u e=>?_,by rw[za,aE];rfl,?_
   ·rw[zj (nl e)]
    exact s6 _ _ (sH1 b u e)
   ·rw[tk]
    exact((hm1.same s6).snoc hu2).upd hl6
  ·refine dF hz1 ?_
   have e0:yx rows bars many z=(match yx.lastD' z rows with|none=>if (zN 4 0 rows).isSome=true then none else some "strange"|some l=>if l<plN rows/\l<many then some "again" else none):=aJ hz1
   cases ev:yq (xn 0 [] rows) (.inr z) with
   | none=>
    have e1:yx.lastD' z rows=none:=by unfold yx.lastD';rw[ev]
    rw[e1] at e0;exists _,rfl,_,rfl,?_;refine dT rfl ?_;exists _,rfl,f,dx,fs,rfl,s4 _ _ h1,nmG,f,rows,bars,rfl,hF.same s4,_,rfl,?_;cases eg:zN 4 0 rows with
    | none=>
     have e2':yx rows bars many z=some "strange":=by rw[e0,eg];rfl
     refine dT rfl ?_;rw[show yx rows bars many z=some "strange" from e2'] at tk;exists _,rfl,.inl ⟨rfl,_,zh hl1⟩,_,rfl,yA,fun t ht=>?_;have s6:=ze ht (.tup [.str "strange",.int (n:Nat)]);have hl6:=s6 _ _ hl1;have hu2:MA1 (upd H4 t (.tup [.str "strange",.int (n:Nat)])) t ("strange",n):=by
      show upd H4 t _ t=_;rw[za]
     exists l,_,.ref t,rfl,rfl,hl6,zY (by rw[aA];omega),?_
     exists us++[t],_,_,_,rfl,fun b u e=>?_,by rw[za,aE];rfl,?_
     ·rw[zj (nl e)]
      exact s6 _ _ (sH1 b u e)
     ·rw[tk]
      exact((hm1.same s6).snoc hu2).upd hl6
    | some j=>
     have e2':yx rows bars many z=none:=by rw[e0,eg];rfl
     refine dF (by intro z;cases z) ?_
     rw[show yx rows bars many z=none from e2',append_nil] at tk;exact⟨us,_,_,_,rfl,sH1,hl1,by rw[tk];exact hm1⟩
   | some v=>
    obtain⟨j,rfl⟩:=zh0 rows 0 [] (.inr z) v (fun k v e=>by cases e) ev
    have e1:yx.lastD' z rows=some j:=by unfold yx.lastD';rw[ev];rfl
    rw[e1] at e0;exists _,rfl,_,rfl,?_;refine dF (by intro z;cases z) ?_
    exists _,rfl,_,rfl,f,dx,fs,rfl,s4 _ _ h1,nmP,f,rows,bars,rfl,hF.same s4,_,_,rfl,rfl,_,rfl,?_;by_cases hj1:j<plN rows
    ·refine jJ (aC (by show(j:Int)<(plN rows:Int);omega)) ?_
     exists _,rfl,_,rfl,_,_,rfl,rfl,_,rfl,?_;by_cases hj2:j<many
     ·have e2':yx rows bars many z=some "again":=by rw[e0];exact aK ⟨hj1,hj2⟩
      refine jJ (aC (by show(j:Int)<(many:Int);omega)) ?_
      rw[show yx rows bars many z=some "again" from e2'] at tk;exists _,rfl,.inl ⟨rfl,_,zh hl1⟩,_,rfl,yA,fun t ht=>?_;have s6:=ze ht (.tup [.str "again",.int (n:Nat)]);have hl6:=s6 _ _ hl1;have hu2:MA1 (upd H4 t (.tup [.str "again",.int (n:Nat)])) t ("again",n):=by
       show upd H4 t _ t=_;rw[za]
      exists l,_,.ref t,rfl,rfl,hl6,zY (by rw[aA];omega),?_
      exists us++[t],_,_,_,rfl,fun b u e=>?_,by rw[za,aE];rfl,?_
      ·rw[zj (nl e)]
       exact s6 _ _ (sH1 b u e)
      ·rw[tk]
       exact((hm1.same s6).snoc hu2).upd hl6
     ·have e2':yx rows bars many z=none:=by rw[e0];exact aJ fun h=>hj2 h.2
      refine jI (aD (by show ¬(j:Int)<(many:Int);omega)) ?_
      rw[show yx rows bars many z=none from e2',append_nil] at tk;exact⟨us,_,_,_,rfl,sH1,hl1,by rw[tk];exact hm1⟩
    ·have e2':yx rows bars many z=none:=by rw[e0];exact aJ fun h=>hj1 h.1
     refine jI (aD (by show ¬(j:Int)<(plN rows:Int);omega)) ?_
     refine x8 ?_;rw[show yx rows bars many z=none from e2',append_nil] at tk;exact⟨us,_,_,_,rfl,sH1,hl1,by rw[tk];exact hm1⟩
 ·rintro σ H' ⟨us,v5,v6,v7,rfl,sH,hl',hm⟩
  have lk:(kvP fp).length=fp.length:=by unfold kvP;rw[aA]
  rw[lk,take_length] at hm;exact⟨_,rfl,q l H' (sHl sH) ⟨us,hlH,hl',hm⟩⟩
def xa(rows:List Rw)(bars:List Str)(c:List ym):List (Str×Nat):=xP rows bars (zC c).length (yN c)
structure yX(K:Frag)(H:Hp)(a:Addr)(ct:List ym):Prop where
 at_:∃xs,SqL K H a xs/\Paired (zJ K T' H 3) xs (ct.map yj)
 lt:(zC ct).length<=900
 lp:(zG ct).length<=900
structure xp(c:C5)(CF:Addr)(H:Hp)(f:Addr)(rows:List Rw)(bars:List Str):Prop where
 at_:xN c CF H f rows bars
 lr:rows.length<=500
 lb:bars.length<=500
 ok:∀r∈rows,r.ok
theorem xp.same(h:xp c CF H f rows bars)(s:zq H H'):xp c CF H' f rows bars:=⟨h.at_.same s,h.lr,h.lb,h.ok⟩
inductive zdT(K:Frag)(c:C5)(CF:Addr)(vs:List V)(H:Hp)(Q:VK)(E:XK):Prop|mk(f a:Addr)(rows:List Rw)(bars:List Str)(ct:List ym):vs=[.ref f,.ref a]->xp c CF H f rows bars->yX K H a ct->(∀(l:Addr) (H':Hp),zq H H'->zcB H H' l (xa rows bars ct)->Q (.ref l) H')->zdT K c CF vs H Q E
theorem zf5:zv ["form","call","many","names"] ["form","call"] (zk qw):=fsc
theorem zk8(F:Fun K "misfits" "misfits" qw f fd)(c1:⇑2 "shape" g1 d1 ["call"] (zdR K))(c2:⇑4 "misfits_of" g2 d2 ["form","many","names"] (zjW c CF)):↥5 f fd ["form","call"] (zdT K c CF):=by
 specialize zf5;obtain⟨f,a,rows,bars,ct,rfl,hF,⟨⟨xs,hx,hc⟩,lt,lp⟩,q⟩:=h;have hr2:yl 2 _:=hr.mono ⋯
 refine⟨_,zm (vW (cF c1 hr2 (ac (pv 1) zc)) (yB rfl (zB (zr (i:=2) zf5.nd rfl (Or.inl rfl)) (zB (zr (i:=3) zf5.nd rfl (Or.inl rfl)) yi))))
  (zg (zA (cF c2 hr (ac (pv 0) (ac (pv 2) (ac (pv 3) zc)))))),?_⟩
 exists _,rfl,a,ct,xs,rfl,hx,hc,lt,lp,fun p l H1 s1 nl ep el=>?_;exists p,_,rfl,zF ep,rfl,_,_,rfl,_,_,rfl,rfl,?_;have hF1:=hF.same s1;have ln:(yN ct).length<=900:=by unfold yN;rw[aA];exact lp
 exact⟨_,rfl,_,rfl,_,rfl,f,l,(zC ct).length,rows,bars,yN ct,rfl,hF.lr,hF.lb,lt,ln,hF.ok,hF1.at_,el,fun l2 H2 s2 ⟨us,n2,e2,m2⟩=>q l2 H2 (s1.trans s2) ⟨us,s1.free n2,e2,m2⟩⟩
end
end K64
namespace L2
open PySem PySem.Spec PyProof.Rows
section
theorem zfD(hc:X.calm=true):xQ X (.builtin "any") (fun xs H Q=>∃(p:Addr) (bs:List Bool),xs=[.ref p]/\SqL X.K H p (bs.map V.bl)/\Q (.bl (bs.any id)) H):=by
 intro pins s σ H xs us Q I r h;obtain⟨p,bs,rfl,hS,q⟩:=h;obtain⟨u,rfl,ru⟩:=vd r;cases ru;obtain⟨its,rv,hp,hz⟩:=I.list hS;have hlen:its.length=bs.length:=by rw[<- rv.length,aA]
 have hne:p≠s.heap.objs.size:=ne_of_lt (by obtain⟨_,e,_⟩:=hp.isList;exact aI e)
 refine call_any_walk (wpAny_pyIter_list hp.isList ?_);exists s.heap.objs.size,_,_,_,_,_,fun i=>bs.getD i false,rfl,Walks.list (A:=X.A.in1) (I.ok.hd hc) s.heap.objs.size p hne its.toArray,⟨⟨_,zgs _ rfl,rfl,rfl⟩,hp.isList.push _⟩,?_,fun h' tk k=>?_
 ·intro i v s' Q' E' hP hQ
  have hv:its[i]?=some v:=by simpa using hP
  have hi:i<bs.length:=by rw[<- hlen];exact(List.getElem?_eq_some_iff.mp hv).1
  obtain⟨u',e1,e2⟩:=rv.get (i:=i) (x:=V.bl bs[i]) (by rw[getElem?_map,aB hi];rfl)
  rw[hv] at e1;cases e1;cases e2;refine wpAny_truthy_bool ?_
  have:bs.getD i false=bs[i]:=by rw[getD_eq_getElem?_getD,aB hi];rfl
  rw[<- this];exact hQ
 ·have e:((List.range its.toArray.size).any fun i=>bs.getD i false)=bs.any id:=by
   rw[size_toArray,hlen,Bool.eq_iff_iff,any_eq_true,any_eq_true];constructor
   ·rintro⟨i,hi,hb⟩
    have hi':=List.mem_range.mp hi;rw[getD_eq_getElem?_getD,aB hi'] at hb;exact⟨_,getElem_mem hi',hb⟩
   ·rintro⟨b,hb,h1⟩
    obtain⟨i,hi,rfl⟩:=List.getElem_of_mem hb;exists i,List.mem_range.mpr hi,?_;rw[getD_eq_getElem?_getD,aB hi];exact h1
  rw[e];exact⟨.bl (bs.any id),H,I.kept (h':=h') (t':=tk) (fun b o q=>k b o (fun hm=>by
   have e:b=s.heap.objs.size:=by simpa using hm
   exact absurd (aI q) (by rw[e];exact lt_irrefl _)) (zgp _ q)),rfl,q⟩
def xm(n:Nat):List Int:=(List.range n).map fun (i:Nat)=>(i:Int)
theorem yb.of_at{ts:List Int}:∀{us:List Value},us.length=ts.length->(∀(i:Nat) (v:Value),us[i]?=some v->∃t,v=Value.int (ts.getD i 0) t)->yb (ts.map V.int) us:=by
 induction ts with
 | nil=>
  intro us hl _
  have:us=[]:=List.length_eq_zero_iff.mp hl
  subst this;exact .nil
 | cons t ts ih=>
  intro us hl h;cases us with
  | nil=>cases hl
  | cons u us=>
   obtain⟨k,e⟩:=h 0 u rfl;exact .cons ⟨k,e⟩ (ih (by simpa using hl) fun i v e=>h (i+1) v e)
theorem zh7:xQ X (.type "range") (fun xs H Q=>∃n:Nat,xs=[.int (n:Nat)]/\∀p,H p=none->Q (.ref p) (upd H p (.rng 0 (n:Nat)))):=by
 intro pins s σ H xs us Q I r h;obtain⟨n,rfl,q⟩:=h;obtain⟨u,rfl,ru⟩:=vd r;obtain⟨t,rfl⟩:=ru;refine call_range_1 ?_;exists .ref s.heap.objs.size,_,I.laid (o:=.rng 0 (n:Nat)) (fun b u e=>zgp _ e) (le_refl _) ?_,rfl,q _ (I.hok.fresh (le_refl _));exact⟨_,_,_,zgs _ rfl⟩
theorem zdv(hc:X.calm=true):xQ X (.type "list") (fun xs H Q=>∃(p:Addr) (n:Nat),xs=[.ref p]/\H p=some (.rng 0 (n:Nat))/\n<=900/\∀l,H l=none->Q (.ref l) (upd H l (.lst ((xm n).map V.int)))):=by
 intro pins s σ H xs us Q I r h;obtain⟨p,n,rfl,hp,hn,q⟩:=h;obtain⟨u,rfl,ru⟩:=vd r;cases ru;obtain⟨t,u',v',e⟩:=I.hok p _ hp;refine call_list_range (n:=n) (I.ok.hd hc) e ?_ ?_ ∅ fun h' tk acc c' hk he hacc=>?_
 ·exact small_one ∅ ∅ ∅ ∅
 ·unfold Builtin.Range.rangeSize
  rw[aK ⋯]
  split <;> omega
 ·have hl:acc.toList.length=(xm n).length:=by
   unfold xm;rw[aA,length_range];simpa using hacc.1
  have hv:yb ((xm n).map V.int) acc.toList:=yb.of_at hl fun i v e=>by
   obtain⟨t,rfl⟩:=hacc.2 i v (by simpa using e)
   exists t,?_;have hi:i<n:=by
    have:=(List.getElem?_eq_some_iff.mp e).1
    rw[hl] at this;unfold xm at this;simpa using this
   have eg:(xm n).getD i 0=(i:Int):=by
    unfold xm;rw[getD_eq_getElem?_getD,getElem?_map,List.getElem?_range hi];rfl
   rw[eg];simp
  exists .ref s.heap.objs.size,_,I.laid (t':=tk) (o:=.lst ((xm n).map V.int)) hk (le_refl _) ⟨?_,acc.toList,c',hv,by simpa using he⟩,rfl,q _ (I.hok.fresh (le_refl _))
  unfold xm;rw[aA,aA,length_range];have : 1000<=sizeLine:=by decide
  omega
end
end L2
namespace L2
open PySem PySem.W PySem.Builtin PySem.Builtin.ObjectAttr PySem.Spec PyProof.Rows
def zic(K:Frag)(C:Addr):Bool:=
 match K.lookup C with
 | some ⟨.type "type",_,.cls cd,sl⟩=>
  match cd.mro,sl.toList with
  | .ref C'::bm,[_,_,_,_,some (.builtin n),_]=>C'==C&&n=="ValueError.__new__"&&!cd.hasDel&&cd.hasDict&&bm.contains (.type "ValueError")&&bm.contains (.type "BaseException")&&!bm.contains (.type "AttributeError")&&!bm.contains (.type "NameError")
  | _,_=>false
 | _=>false
structure zmB(h:Heap)(C:Addr):Prop where
 ob:∃nm q N bs bm sn sub ab col dd k0 k1 k2 k3 k5,h.get? C=some (excClassObj nm q C N bs bm true sn sub ab col dd k0 k1 k2 k3 k5 "ValueError.__new__")/\bm.contains (.type "ValueError")=true/\bm.contains (.type "BaseException")=true/\bm.contains (.type "AttributeError")=false/\bm.contains (.type "NameError")=false
theorem zdC{K:Frag}{h:Heap}{C:Addr}(X:K.In h)(q:zic K C=true):zmB h C:=by
 simp only[zic] at q;split at q
 case h_2=>cases q
 rename_i dd cd sl ho;obtain⟨nm,bs,mro,ns,qn,hd,sn,sub,ab,col,del⟩:=cd;obtain⟨l⟩:=sl;dsimp only at q;split at q
 case h_2=>cases q
 rename_i C' m k0 k1 k2 k3 n k5;simp only[Bool.and_eq_true,beq_iff_eq,Bool.not_eq_true'] at q;obtain⟨⟨⟨⟨⟨⟨⟨rfl,rfl⟩,rfl⟩,rfl⟩,h1⟩,h2⟩,h3⟩,h4⟩:=q;exact⟨_,_,_,_,_,_,_,_,_,_,_,_,_,_,_,X _ _ ho,h1,h2,h3,h4⟩
abbrev w6(C t:Addr):Obj:={ cls:=.ref C,data:=.fields #[.ref t,.none,.none,.none,.bool false,.none] }
abbrev yE(us:List Value):Obj:={ cls:=.type "tuple",data:=.seq us.toArray }
section
variable {E:VSP}{K:Frag}{C f:Addr}
theorem zjB{R:Result->Shared->Prop}(m:zmB s.heap C)(hl:us.length<=sizeLine)
  (h:R (.ok (.ret (.ref (s.heap.objs.size+1)))) { s with heap:=(s.heap.push (yE us)).push (w6 C s.heap.objs.size) }) :
  codeAny (model prog w) A (.call (.builtin "ValueError.__new__") ⟨.ref C::us,[]⟩) R s:=by
 obtain⟨hh,g,d,t,os⟩:=s;obtain⟨nm,q,N,bs,bm,sn,sub,ab,col,dd,k0,k1,k2,k3,k5,hC,b1,b2,b3,b4⟩:=m.ob;have F:=PySem.F.excBase_ValueError;refine codeAny_call_builtin_code (Code.quiet_builtin _ F.toExcCallFacts.quiet) ?_;have k1':=F.newKind;have k2':=F.newSplit;have k3':=F.newRow;simp only[checkBuiltinCall,k1',k2',k3'];rw[aK (by decide +kernel)]
 refine zwb (ks_wpAny_isType_cls hC rfl ?_);rw[aJ ⋯]
 refine zwb (wpAny_isSubtype_exc hC ?_);rw[show(Value.ref C::bm).contains (.type "ValueError")=true by rw[contains_cons,b1,Bool.or_true],aJ ⋯]
 refine zwb (wpAny_staticBase_exc hC (zwb (wpAny_madeBy_exc hC ?_)));dsimp only;rw[aJ (by decide +kernel)]
 rw[show Bind.checkArgs "ValueError.__new__" { machinery:=Manifest.Machinery.any,full:="ValueError",short:="ValueError",receiver:=Manifest.Receiver.cls,params:=[{ name:="args",kind:=Manifest.ParamKind.varPos,required:=false },{ name:="kwargs",kind:=Manifest.ParamKind.varKw,required:=false }] } { pos:=Value.ref C::us }=pure () from rfl];refine zwp (PyProof.Rows.codeAny_builtin_at F.toExcCallFacts.toExcNewFacts.entry ?_);unfold Builtin.«BaseException.__new__»;refine PyProof.Rows.wpAt_bind (PyProof.Rows.wpAt_owner rfl F.toExcCallFacts.toExcNewFacts.ends (PyProof.Rows.wpAt_of_any ?_));rw[F.toExcCallFacts.toExcNewFacts.owner];dsimp only;refine zwb (ks_wpAny_isType_cls hC rfl ?_);rw[aJ ⋯]
 refine zwb (wpAny_isSubtype_exc hC ?_);rw[show(Value.ref C::bm).contains (.type "ValueError")=true by rw[contains_cons,b1,Bool.or_true],aJ ⋯]
 refine zwb (wpAny_madeHere_exc F.canon hC ?_);have c3:(Value.ref C::bm).contains (.type "AttributeError")=false:=by rw[contains_cons,b3];rfl
 have c4:(Value.ref C::bm).contains (.type "NameError")=false:=by rw[contains_cons,b4];rfl
 refine zwb (?_:wpAny _ _ (do
   let x <- isSubtype (.ref C) (.type "AttributeError")
   if x=true then pure 2
   else do
    let y <- isSubtype (.ref C) (.type "NameError")
    if y=true then pure 1 else pure 0:Sem Nat) _ _ _)
 refine zwb (wpAny_isSubtype_exc hC ?_);rw[c3,aJ zft];refine zwb (wpAny_isSubtype_exc hC ?_);rw[c4,aJ zft];refine zwp (zwb (wpAny_newTuple ?_ hl));have hC2:=zgp (yE us) hC;unfold newObj;dsimp only;rw[aJ (by show ¬6>sizeLine+2;decide)]
 unfold newObjAsIs;refine zwb (zwb (wpAny_alloc ?_));dsimp only;refine zwb ?_;unfold classHasDel;refine zwb (wpAny_load (zgp _ hC2) ?_);dsimp only;refine zwp ?_;rw[aJ zft];refine zwp (zwp ?_);have e1:(hh.push (yE us)).objs.size=hh.objs.size+1:=Heap.size_push _ _;show R (.ok (.ret (.ref (hh.push (yE us)).objs.size))) _;rw[e1];exact h
structure zeI(K:Frag)(C f:Addr):Prop where
 ob:zic K C=true
 init:findIn K (.ref C) "__init__"=some (~~~f)
 fn:isFn K (.ref f)=true
 call:specialIn K (.ref C) "__call__"=some (some (.builtin "type.__call__"))
 typ:instIn K (.ref C) (.type "type")=some true
 kp:keepIn K (.ref C)=true
theorem zhV{R:Result->Shared->Prop}(X:K.In s.heap)(m:zeI K C f)(hl:us.length<=sizeLine)
  (h:codeAny (model prog w) (A.under (.builtin "type.__call__" ⟨.ref C::us,[]⟩)) (.call (.ref f) ⟨.ref (s.heap.objs.size+1)::us,[]⟩) (InitBack (s.heap.objs.size+1) R)
   { s with heap:=(s.heap.push (yE us)).push (w6 C s.heap.objs.size) }):codeAny (model prog w) A (.call (.ref C) ⟨us,[]⟩) R s:=by
 have mo:=zdC X m.ob;have LC:=looks_specialIn (M:=model prog w) X m.call;have LT:=looks_instIn (M:=model prog w) X m.typ;obtain⟨hh,g,d,t,os⟩:=s;obtain⟨nm,q,N,bs,bm,sn,sub,ab,col,dd,k0,k1,k2,k3,k5,hC,b1,b2,b3,b4⟩:=mo.ob;refine codeAny_of_own ?_;show wpOwn _ _ _ (callAny (.ref C) ⟨us,[]⟩) _ _ _;unfold callAny;refine wpOwn_of_wpAny ?_;dsimp only;refine zwb (wpAny_load hC ?_);dsimp only;unfold callAny.viaDunder;refine zwb (LC.at ?_);dsimp only;rw[show bindSpecial (.builtin "type.__call__") (.ref C)=pure (.builtin "type.__call__",[.ref C]) from by with_unfolding_all rfl]
 refine zwb (zwp ?_);dsimp only;rw[show callAny.plainCallee (.builtin "type.__call__")=pure true from by with_unfolding_all rfl]
 refine zwb (zwp ?_);rw[aK rfl];refine zwp ⟨rfl,?_⟩;refine codeAny_call_builtin_code (Code.quiet_builtin _ (by decide +kernel)) ?_
 have k1':builtinKind "type.__call__"=some .slot:=by decide +kernel
 have k2':splitId "type.__call__"=some ("type","__call__"):=by decide +kernel
 simp only[checkBuiltinCall,k1',k2',cons_append,nil_append];refine zwb (LT.at ?_);rw[aJ ⋯]
 have k3':Manifest.signature? "type.__call__"=some { machinery:=.hand,full:="wrapper __call__",short:="",receiver:=.self,params:=[] }:=by with_unfolding_all rfl
 rw[k3'];dsimp only;rw[show Bind.checkArgs "type.__call__" { machinery:=.hand,full:="wrapper __call__",short:="",receiver:=.self,params:=[] } { pos:=Value.ref C::us }=pure () from rfl];refine zwp (codeAny_builtin (b:=Builtin.«type.__call__») rfl ?_);unfold Builtin.«type.__call__»;dsimp only;rw[aJ (show ¬(Value.ref C==Value.type "type")=true from fun z=>by cases z)]
 refine zwb (wpAny_mroOf_exc hC ?_);rw[aJ (show ¬(Value.ref C::bm).isEmpty=true from zft)];refine zwb (wpAny_madeBy_exc hC ?_);dsimp only;refine zwb (zwp (zwb (wpAny_holding (wpAny_call (zjB mo hl ?_)))));dsimp only at h |-;have kp:∀b o,hh.get? b=some o->((hh.push (yE us)).push (w6 C hh.objs.size)).get? b=some o:=fun b o e=>zgp _ (zgp _ e);have X2:K.In ((hh.push (yE us)).push (w6 C hh.objs.size)):=X.keeps kp;have eo:((hh.push (yE us)).push (w6 C hh.objs.size)).get? (hh.objs.size+1)=some (w6 C hh.objs.size):=by
  have:=zgs (hh.push (yE us)) (o:=w6 C hh.objs.size) rfl
  rwa [Heap.size_push] at this
 have LI:=looks_findIn (M:=model prog w) X2 m.init;have LB:=bind_fn (M:=model prog w) X2 (.ref (hh.objs.size+1)) (beq_iff_eq.mp m.fn);generalize (hh.push (yE us)).push (w6 C hh.objs.size)=h2 at h kp X2 eo LI LB |-;unfold isInstance;have LTy:Looks (model prog w) h2 (typeOf (.ref (hh.objs.size+1))) (.ref C):=(Looks.ld eo).andThen .now;refine zwb (zwb (LTy.at (wpAny_isSubtype_exc (kp _ _ hC) ?_)));rw[show(Value.ref C::bm).contains (.ref C)=true by rw[contains_cons,beq_self_eq_true,Bool.true_or],aJ ⋯]
 refine zwb (wpAny_holding ?_);unfold callSpecial? specialOf;refine zwb (zwb (LTy.at (LI.at ?_)));dsimp only;refine wpAny_holding (zwb (LB.at ?_));dsimp only;refine zwb (wpAny_call (codeAny_mono h fun r s' hq=>?_));cases r with
 | error e=>exact hq
 | ok fl=>
  cases fl with
  | ret u=>
   obtain⟨rfl,hq⟩:=hq;refine zwp ?_;dsimp only;rw[aJ ⋯]
   exact zwp hq
  | next=>exact False.elim hq
  | brk=>exact False.elim hq
  | cont=>exact False.elim hq
def zbH:List Value:=[.type "ValueError",.type "Exception",.type "BaseException",.type "object"]
def vk:List Value->Bool
 | .ref _::l=>vk l
 | l=>l==zbH
def zlD(K:Frag)(C:Addr):Bool:=(clsIn K C).any fun cd=>cd.hasDict&&vk cd.mro
theorem ze0{Q:Option Unit×Unit->Shared->Prop}:∀l,vk l=true->(Q (some (),()) s)->
  wpAny M A (forIn l ((none,()):Option Unit×Unit) fun c __s=>
    match c with
    | Value.type n=>
     if (n=="_thread._local")=true then do
      rule "setattr.thread-local-passed-by"
      pure (ForInStep.yield (none,()))
     else
      if (n=="_pickle.Pickler"||n=="_pickle.Unpickler")=true then do
       rule "setattr.pickle-types-passed-by"
       pure (ForInStep.yield (none,()))
      else do
       let own <- classOwn c (Str.ofString "__setattr__")
       if own.isSome=true then
         have __do_jp:=fun (__r:Unit)=>pure (ForInStep.done (some (),()));
         if (!isObjects n (Str.ofString "__setattr__").toString)=true then do
          rule "setattr.built-in-override"
          let tn <- PySem.typeNameOf self
          let __r <-
           raiseErrorMade "TypeError"
             (toString "can't apply this "++toString (Str.ofString "__setattr__").toString++toString " to " ++
               toString tn ++
              toString " object")
          __do_jp __r
         else __do_jp ()
        else pure (ForInStep.yield (none,()))
    | x=>pure (ForInStep.yield (none,()))) Q E s:=by
 intro l;have o1:classOwn (.type "ValueError") (Str.ofString "__setattr__")=pure none:=by with_unfolding_all rfl
 have o2:classOwn (.type "Exception") (Str.ofString "__setattr__")=pure none:=by with_unfolding_all rfl
 have o3:classOwn (.type "BaseException") (Str.ofString "__setattr__")=pure none:=by with_unfolding_all rfl
 have o4:=F.own_object_setattr;induction l with
 | nil=>intro h;exact absurd h ⋯
 | cons c l ih=>
  intro h q;rw[List.forIn_cons];cases c with
  | ref a=>exact zwb (zwp (ih h q))
  | type n=>
   have e:Value.type n::l=zbH:=by
    have:(Value.type n::l==zbH)=true:=h
    exact eq_of_beq this
   unfold zbH at e;injection e with e1 e2
   injection e1 with e1
   subst e1 e2;have n1:∀n:String,n∈["ValueError","Exception","BaseException","object"]->(n=="_thread._local")=false/\(n=="_pickle.Pickler"||n=="_pickle.Unpickler")=false:=by decide +kernel
   simp only[List.forIn_cons,n1 "ValueError" ⋯,n1 "Exception" ⋯,n1 "BaseException" ⋯,n1 "object" ⋯,o1,o2,o3,o4,Bool.false_eq_true,if_false]
   refine zwb (zwb (zwp ?_));refine zwp ?_;refine zwb (zwb (zwp ?_));refine zwp ?_;refine zwb (zwb (zwp ?_));refine zwp ?_;refine zwb (zwb (zwp ?_));rw[aK (show(some (Value.builtin "object.__setattr__")).isSome=true from rfl),aJ (show ¬(!isObjects "object" (Str.ofString "__setattr__").toString)=true by unfold isObjects;simp)]
   exact zwp (zwp q)
  | _=>exact absurd h (by simp [vk,zbH])
theorem zjN{α : Type}{t t':Sem α}{Q : α->Shared->Prop}{E:VSP}(e:t=t')(h:wpAny M A t' Q E s):wpAny M A t Q E s:=e ▸ h
structure zae(K:Frag)(C:Addr):Prop where
 t:zlD K C=true
 sa:findIn K (.ref C) "__setattr__"=some (some (.builtin "object.__setattr__"))
 ob:mroIn K C (.type "object")=some true
theorem zae.cd(m:zae K C):∃cd,clsIn K C=some cd/\cd.hasDict=true/\vk cd.mro=true:=by
 have:=m.t
 unfold zlD at this;cases e:clsIn K C with
 | none=>rw[e] at this;cases this
 | some cd=>
  rw[e] at this;have h2:(cd.hasDict&&vk cd.mro)=true:=this;exact⟨cd,rfl,(Bool.and_eq_true _ _ ▸ h2).1,(Bool.and_eq_true _ _ ▸ h2).2⟩
theorem zio{Q:Unit->Shared->Prop}(X:K.In s.heap)(m:zae K C)(ha:findIn K (.ref C) name=some none)(he:s.heap.get? x=some oe)(hc:oe.cls=.ref C)(hd:oe.data=.fields vs)(hn:oe.dict=none)
  (h:∀h':Heap,(∀b o,b≠x->s.heap.get? b=some o->h'.get? b=some o)->h'.get? x=some { oe with dict:=some s.heap.objs.size }->h'.Ns1 s.heap.objs.size (fun y=>if y=name then some v else none)->Q () { s with heap:=h',toks:=s.toks+2 }) :
  wpAny (model prog w) A (setAttr (.ref x) name v) Q E s:=by
 obtain⟨cd,hcd,hdict,hmro⟩:=m.cd;have IA:InstAt s.heap x oe C none:=⟨he,hc,by unfold notCls;rw[hd],by rw[hn];trivial⟩
 refine set_plain X IA m.sa ?_;have LO:=looks_mroIn (M:=model prog w) X m.ob;have LF:=looks_findIn (M:=model prog w) X ha;have LCd:=looks_clsIn (M:=model prog w) X hcd;have LTy:Looks (model prog w) s.heap (typeOf (.ref x)) (.ref C):=hc ▸ (Looks.ld he).andThen .now;obtain⟨hh,g,d,t,os⟩:=s;dsimp only at *;refine codeAny_call_builtin F.slot_object_setattr.plain F.entry_object_setattr ?_;have k1:=F.bk_object_setattr;have k2:=F.sp_object_setattr;simp only[checkBuiltinCall,k1,k2];refine zwb ?_;unfold isInstance;refine zwb (LTy.at ?_);refine LO.at ?_;rw[aJ ⋯]
 have k3:=F.args_object_setattr_3 (.ref x) (.str name t) v;refine zjN k3 (zwp ?_);unfold Builtin.«object.__setattr__»;rw[aJ (show ¬(!(⟨[Value.ref x,Value.str name t,v],[]⟩:Args).kw.isEmpty)=true from zft)];dsimp only;unfold refuseIfOverridden;refine zwb (zwb (LTy.at (zwb ?_)));unfold mroOf;refine zwb (LCd.at (zwp (zwb (ze0 _ hmro ?_))));dsimp only;refine zwp (zwb ?_);unfold attrName;refine zwp (zwb (LTy.at (zwb (LF.at (zwb ?_)))));unfold storeTaker?;refine zwp ?_;dsimp only;unfold storeInOwnDict ownStreamTells;refine zwb (zwp ?_);rw[aJ (show ¬(Value.ref C==Value.type "module")=true from fun z=>by cases z)]
 unfold ownDictForStores instanceDict;refine zwb (zwb (wpAny_loadPart he ?_));rw[hc];dsimp only;refine zwb (LCd.at ?_);rw[hdict,hn,hd];dsimp only;rw[aJ ⋯,aJ (show ¬(!true||!typeHasDict (Value.ref C))=true from zft)]
 refine zwb (wpAny_alloc (zwb (wpAny_update (zgp _ he) ?_)));unfold dictMade;refine zwp ?_;dsimp only;unfold storeInDict newKeyGuard;refine zwb (zwp (zwb ?_));have xlt:x≠hh.objs.size:=ne_of_lt (aI he);have u1:((hh.push { cls:=.type "dict",data:=.dict #[] }).update x fun o=>{ cls:=o.cls,dict:=some hh.objs.size,data:=o.data,slots:=o.slots }).get? hh.objs.size=some { cls:=.type "dict",data:=.dict #[] }:=by
  rw[Heap.get?_update_ne _ _ _ _ (Ne.symm xlt)];exact zgs hh rfl
 have n1:((hh.push { cls:=.type "dict",data:=.dict #[] }).update x fun o=>{ cls:=o.cls,dict:=some hh.objs.size,data:=o.data,slots:=o.slots }).Ns1 hh.objs.size (fun _=>none):=Heap.Ns1.of_empty ⟨_,#[],_,u1,rfl,(fun e he=>absurd he (by simp)),fun _=>rfl⟩
 refine wpAny_nsSet1 n1 fun h' hn2 hs2=>?_;have wi:PySem.Within (fun y=>if y=name then some v else none) [name]:=fun y hy=>by
  by_cases e:y=name
  ·rw[e];exact List.mem_singleton.mpr rfl
  ·exact absurd (aJ e) hy
 obtain⟨oD,esD,epD,hoD,hdD,hcD⟩:=hn2.count wi;refine zwb (wpAny_lookBehind hoD (by rw[hdD];exact pastItsLine_dict (le_trans hcD (by show 1<=sizeLine+1;decide))) ?_)
 refine zwp ?_;have ux:((hh.push { cls:=.type "dict",data:=.dict #[] }).update x fun o=>{ cls:=o.cls,dict:=some hh.objs.size,data:=o.data,slots:=o.slots }).get? x=some { oe with dict:=some hh.objs.size }:=
  Heap.get?_update_self _ (zgp _ he) (by unfold Obj.isFreed;rw[hd])
 refine h h' (fun b o hb e=>?_) ?_ hn2
 ·have hb2:b≠hh.objs.size:=ne_of_lt (aI e)
  rw[hs2.2 b hb2,Heap.get?_update_ne _ _ _ _ hb];exact zgp _ e
 ·rw[hs2.2 x xlt]
  exact ux
end
end L2
namespace L2
open PySem PySem.W PySem.Builtin PySem.Builtin.ObjectAttr PySem.Builtin.Getset_descriptor PySem.Spec PyProof.Rows
section
variable {E:VSP}
theorem zjt{prog:Program}{w:World}{A:Around}{s:Shared}{K:Frag}{D x dx:Addr}{oe:Obj}{vs:Array Value}{name:Str}{v:Value}{mA:Str->Option Value}{b:Bool}{Q:VSP}(c:xF K D)(m:zae K D)(X:K.In s.heap)(ha:findIn K (.ref D) name=some none)(he:s.heap.get? x=some oe)(hc:oe.cls=.ref D)(hd:oe.data=.fields vs)(hx:oe.dict=some dx)
  (hn:s.heap.Ns1 dx mA) (hv:mA name=some v) (hv':handedIn v=true) (h:Q v { s with toks:=s.toks+1 }):wpAny (model prog w) A (getAttr (.ref x) name b) Q E s:=by
 obtain⟨cd,hcd,hdict,hmro⟩:=m.cd;obtain⟨hh,g,dr,t,os⟩:=s;have LT:Looks (model prog w) hh (typeOf (.ref x)) (.ref D):=hc ▸ (Looks.ld he).andThen .now;have LG:=looks_findIn (M:=model prog w) X c.ga;have LN:=looks_findIn (M:=model prog w) X c.no;have LC:=looks_findIn (M:=model prog w) X ha;have LB:=looks_mroIn (M:=model prog w) X c.be;have LCd:=looks_clsIn (M:=model prog w) X hcd;unfold getAttr;refine zwb (wpAny_mkText ?_);unfold getAttrBy;dsimp only;refine wpAny_holding (zwb (LT.at (zwb (LG.at ?_))));have hne:(onTheHeap (Value.ref D)&&Value.builtin "BaseException.__getattribute__"==Value.builtin "object.__getattribute__")=false:=by
  rw[show(Value.builtin "BaseException.__getattribute__"==Value.builtin "object.__getattribute__")=false from by decide +kernel,Bool.and_false]
 dsimp only;rw[hne];rw[aJ zft];unfold getAttrByItsOwn hookBefore;rw[aK (show onTheHeap (Value.ref D)=true from rfl)];refine zwb (LN.at (zwb (wpAny_attempt (wpAny_holding ?_))));unfold callGetattribute boundAndCalled;rw[aJ (show ¬(b&&onTheHeap (Value.builtin "BaseException.__getattribute__"))=true from by rw[show onTheHeap (Value.builtin "BaseException.__getattribute__")=false from rfl,Bool.and_false];exact zft)]
 have fb:=PySem.F.attrBase_ValueError.ga;rw[fb.bind (.ref x)];refine zwb (zwp ?_);refine wpAny_call (codeAny_call_builtin fb.plain F.entry_bexc_ga ?_);have k1:builtinKind "BaseException.__getattribute__"=some .slot:=by decide +kernel
 have k2:splitId "BaseException.__getattribute__"=some ("BaseException","__getattribute__"):=by decide +kernel
 have k3:=F.args_bexc_ga (.ref x) (.str name t);simp only[checkBuiltinCall,k1,k2,cons_append,nil_append];refine zwb ?_;unfold isInstance;refine zwb (LT.at (LB.at ?_));rw[aJ ⋯]
 refine zjN k3 (zwp ?_);unfold Builtin.«object.__getattribute__»;obtain⟨od,hod,hlk⟩:=zaD hn;have IA:InstAt hh x oe D (some od):=⟨he,hc,by unfold notCls;rw[hd],by rw[hx];exact hod⟩
 have hD:hasDictIn K D=true:=by unfold hasDictIn;rw[hcd];exact hdict
 have LFi:=looks_find (M:=model prog w) X IA (findObj_own hD ha rfl (by rw[hlk,hv]))
 rw[show slotArgs "__getattribute__" 1 { pos:=[Value.ref x,Value.str name t] }=pure (.ref x,[.str name t]) from rfl];refine zwb (zwp (zwb ?_));unfold attrName;refine zwp (zwb (LT.at (zwb (LFi.at ?_))));refine zwp ?_;show wpAny _ _ (handedOut v) _ _ _;rw[handedOut_of hv'];exact zwp h
end
end L2
namespace L2
open PySem PySem.Spec PyProof.Rows
abbrev uG(ea C:Addr)(od:Option Addr)(t:Addr):HO:=.ext fun h=>h.get? ea=some { cls:=.ref C,dict:=od,data:=.fields #[.ref t,.none,.none,.none,.bool false,.none] }
theorem zeA(e:h.get? ea=some { cls:=.ref C,dict:=od,data:=.fields #[.ref t,.none,.none,.none,.bool false,.none] }):yR P w H h ea (uG ea C od t):=
 ⟨e,⟨_,e⟩,fun g1 g2 q k=>k _ q⟩
section
variable {σ:St}{x C t:Addr}{f:Str}{y:V}{E:VSP}
theorem qe(I:Inv X pins σ H s)(e:H x=some (uG x C od t)):s.heap.get? x=some { cls:=.ref C,dict:=od,data:=.fields #[.ref t,.none,.none,.none,.bool false,.none] }:=(I.hok x _ e).1
theorem ziq{Q:Unit->Shared->Prop}(I:Inv X pins σ H s)(e:H x=some (uG x C none t))(m:zae X.K C)(n:yJ X.K C f)(ry:yf y u)
  (h:∀dx s',H dx=none->Inv X pins σ (upd (upd H x (uG x C (some dx) t)) dx (.xd [(f,y)])) s'->Q () s'):wpAny (model X.prog X.w) A (setAttr (.ref x) f u) Q E s:=by
 have hx:=qe I e;have hsz:H s.heap.objs.size=none:=I.hok.fresh (le_refl _);refine zio I.kIn m n hx rfl rfl rfl fun h' k e1 ns=>h s.heap.objs.size _ hsz ?_;have I1:Inv X pins σ (upd H x (uG x C (some s.heap.objs.size) t)) { s with heap:=h',toks:=s.toks+2 }:=
  I.write (by rw[e];exact True.intro) (.inl rfl) k ⟨_,e1⟩ (zeA e1)
 have nx:s.heap.objs.size≠x:=Ne.symm (ne_of_lt (aI hx));refine I1.track (by rw[zj nx];exact hsz) ⟨_,ns,fun g=>?_⟩ (fun v e2 _ _=>?_) (fun z=>?_) (fun z c e2 z2=>?_) fun p hp z=>?_
 ·show uY (List.lookup g [(f,y)]) (if g=f then some u else none)
  by_cases q:g=f
  ·subst q;rw[lookup_cons_self,aK rfl];exact ry
  ·rw[lookup_cons,beq_eq_false_iff_ne.mpr q,aJ q];trivial
 ·exact absurd (aI e2) (Nat.not_lt.mpr I.sz)
 ·have:=I.lt
  rw[z] at this;exact absurd this (lt_irrefl _)
 ·obtain⟨v,oc,hoc,_⟩:=I.cell z c e2
  rw[z2] at hoc;exact absurd (aI hoc) (lt_irrefl _)
 ·have:=(I.pin p hp).1
  rw[z] at this;exact absurd (aI this) (lt_irrefl _)
inductive zl5J(K:Frag)(f:Str)(D:L2.vH)(σ:St)(y:V)(x:V)(H2:Hp):Prop|mk(a C t:Addr):x=.ref a->H2 a=some (uG a C none t)->zae K C->yJ K C f->(∀dx,H2 dx=none->D.nx σ (upd (upd H2 a (uG a C (some dx) t)) dx (.xd [(f,y)])))->zl5J K f D σ y x H2
def zl5(K:Frag)(ta tv:TE)(f:Str):TS:=fun D σ H=>tv σ H fun y H1=>ta σ H1 fun x H2=>zl5J K f D σ y x H2
variable {ta tv:TE}
theorem ziF(ha:PE X o ta)(hv:PE X value tv)(hs:swapsWith value (some (.Attribute o f pos')) pos.line X.env=pure false):PS X (.Assign [.Attribute o f pos'] value pos) (zl5 X.K ta tv f):=by
 exists ?_;intro pins s σ H D I h;refine plainObj_wpAny_Assign_Attribute (thn (hv pins s σ H _ I h) fun u s1 ⟨y,H1,I1,ry,q⟩=>thn (ha pins s1 σ H1 _ I1 q) fun ov s2 ⟨x,H2,I2,rx,a,C,t,ex,ea,c,n,q2⟩=>?_) hs;subst ex;obtain rfl:ov=Value.ref a:=rx;exact ziq I2 ea c n ry fun dx s3 hdx I3=>⟨σ,_,I3,q2 dx hdx⟩
def zfL(C:Addr)(sp:Sp)(E:XK)(t:TA):TE:=fun σ H Q=>t σ H fun vs H1=>vs.length<=sizeLine/\∀x tu,H1 x=none->H1 tu=none->tu≠x->sp (.ref x::vs) (upd H1 x (uG x C none tu)) (fun v H2=>v=.non/\Q (.ref x) H2) E
end
section
variable {CX:CXT}{k:Nat}{sp:Sp}{t:TA}
theorem Inv.madeX(I:Inv X pins σ H s):Inv X pins σ (upd H (s.heap.objs.size+1) (uG (s.heap.objs.size+1) C none s.heap.objs.size)) { s with heap:=(s.heap.push (yE us)).push (w6 C s.heap.objs.size) }:=by
 refine I.laid (fun b u e=>zgp _ (zgp _ e)) (le_succ _) (zeA ?_)
 have:=zgs (s.heap.push (yE us)) (o:=w6 C s.heap.objs.size) rfl
 rwa [Heap.size_push] at this
theorem zeU{Q:VK}(M:zeI X.K C f)(F:zD X.prog X.w X.K X.mg X.base CX k f fd ps sp)(hr:yl (k+1) X.A)(hb:zU X.K fd ps [])
  (hx:xW CX X E) (I:Inv X pins σ H s) (r:yb vs us) (hl:vs.length<=sizeLine)
  (h:∀x tu,H x=none->H tu=none->tu≠x->sp (.ref x::vs) (upd H x (uG x C none tu)) (fun v H2=>v=.non/\Q (.ref x) H2) E) :
  ↑X (call (.ref C) us) (EP X pins σ Q) X.xe s:=by
 have hq:=h (s.heap.objs.size+1) s.heap.objs.size (I.hok.fresh (le_succ _)) (I.hok.fresh (le_refl _)) (ne_of_lt (lt_succ_self _));have I2:=Inv.madeX (C:=C) (us:=us) I;have r2:yb (V.ref (s.heap.objs.size+1)::vs) (Value.ref (s.heap.objs.size+1)::us):=.cons rfl r;have hl2:(Value.ref (s.heap.objs.size+1)::us++[]).length=ps.length:=by
  have e:=r2.length;rw[F.len _ _ _ _ hq] at e;rw[append_nil];exact e.symm
 have hb2:=hb _ (Value.ref (s.heap.objs.size+1)::us) I2.kIn hl2;rw[append_nil] at hb2;refine wpAny_call (zhV I.kIn M (by rw[<- r.length];exact hl) (codeAny_mono (F.run _ X.stack _ _ ⟨Value.ref (s.heap.objs.size+1)::us,[]⟩ (Value.ref (s.heap.objs.size+1)::us) _ _ E (hr.make C us [])
  (I2.env0.make C us []) hb2 r2 hq) fun r s' hq'=>?_))
 cases r with
 | error e=>exact hx pins σ _ _ e s' I2 hq'
 | ok fl=>
  cases fl with
  | ret u=>
   obtain⟨v,H',I3,rv,ev,q3⟩:=I2.after hq';subst ev;exact⟨rv,⟨V.ref (s.heap.objs.size+1),H',I3,rfl,q3⟩⟩
  | next=>exact False.elim hq'
  | brk=>exact False.elim hq'
  | cont=>exact False.elim hq'
theorem vn(M:zeI X.K C f)(F:zD X.prog X.w X.K X.mg X.base CX k f fd ps sp)(hr:yl (k+1) X.A)(hg:Gl X x)(hm:X.mg x= ~~~C)(hb:zU X.K fd ps [])(hx:xW CX X E)
  (ha:PA X (e::es) t) (hdb:(x==("__debug__" : Str))=false:=by decide) (he:starEach (e::es) X.env=(false,eval e X.env)::starEach es X.env:=by rfl) (hpl:(backTo pos (starEach es X.env)).any (·.1)=false:=by rfl) :
  PE X (.Call (.Name x p) (e::es) [] pos) (zfL C sp E t):=by
 and_intros;refine wpAny_Call_Name_kw (vE I hg hm ?_ hdb);refine callWith_K (h₀:=X.base) I.ok.mod.kin M.kp (thn (ha pos pins s σ H _ I h) fun us s1 ⟨vs,H1,I1,r,hl,q⟩=>⟨I1.kIn,?_⟩) he hpl;exact zeU M F hr hb hx I1 r hl q
def drop(H:Hp)(a:Addr):Hp:=fun b=>if b=a then none else H b
theorem zfr:drop H a a=none:=by unfold drop;rw[aK rfl]
theorem wV(h:b≠a):drop H a b=H b:=by unfold drop;rw[aJ h]
theorem uB(h:drop H a b=some u):b≠a/\H b=some u:=by
 unfold drop at h;split at h
 ·cases h
 ·exact⟨‹_›,h⟩
theorem HOk.drop{φ : Heap->Prop}(x:HOk P w H h)(ha:H a=some (.ext φ)):HOk P w (drop H a) h:=fun b u e=>by
 obtain⟨hb,e⟩:=uB e;exact(x b u e).stay (fun _ _ _ q=>q) (fun c q=>by rw[wV (fun z=>by rw[z,ha] at q;cases q)];exact q) fun c xs q=>by rw[wV (fun z=>by rw[z,ha] at q;cases q)];exact q
end
section
variable {E:VSP}
end
section
variable {te:TE}
variable {mg:Str->Option Value}
variable {t:TA}
end
section
variable {E:VSP}{i:Nat}
variable {tb:XK->TS}{ts:TS}{ok:Value->Prop}
end
section
variable {t:TA}{k:Nat}{sp:Sp}
abbrev jM(C:Addr)(od:Option Addr)(t:Addr)(tb:Value):Obj:={ cls:=.ref C,dict:=od,data:=.fields #[.ref t,tb,.none,.none,.bool false,.none] }
def TrS(h base:Heap)(e C:Addr)(od:Option Addr)(t:Addr):Prop:=∃(tb:Addr) (oT:Obj) (ts:Array Value),h.get? e=some (jM C od t (.ref tb))/\base.get? tb=none/\tb≠e/\h.get? tb=some oT/\oT.data=.fields ts/\ts[3]?=some .none
end
section
variable {E:VSP}{s:Shared}{outer:List Env}{L e C t:Addr}{od:Option Addr}{Q:Unit->Shared->Prop}
theorem zhY(fr:A.frames=some (env::outer))(fl:s.heap.FunFrames base (env::outer))(hfl:env.frame=some L)(he:s.heap.get? e=some (jM C od t tb0))(hst:base.StaysIn s.heap)(hb:base.get? e=none)
  (q:∀h':Heap,base.StaysIn h'->h'.FunFrames base (env::outer)->TrS h' base e C od t->s.heap.UpToSlots h'->Q () { s with heap:=h' }) :
  wpAny M A (do
   let a <- frameOf env
   let pl <- entryPlaceOf L hn
   let b <- EntryCells.newEntry head a Value.none (rawInt L) Value.none pl
   setField (Value.ref e) 1 b) (fun _ s'=>wpAny M A (setFlight (Value.ref e) none) Q E s') E s:=by
 refine zwb (wpAny_frameOf_fun fr fl hfl fun h1 so=>?_);obtain⟨sz,oth,sl⟩:=so;refine zwb (wpAny_entryPlaceOf fun pl hpl=>?_);unfold EntryCells.newEntry newFields;have eS:e∉List.filterMap (fun x:Env=>x.frame) (env::outer):=fun z=>by
  obtain⟨_,o,ho,hd⟩:=fl.mem z;rw[he] at ho;cases ho;exact hd _ rfl
 have e1:h1.get? e=some (jM C od t tb0):=(oth e eS).trans he;have lp:(if pl.isEmpty=true then List.replicate 6 Value.none else pl).length=6:=by
  rcases hpl with rfl|⟨a,b,c,d,c9,b10,_,rfl⟩ <;> rfl
 have sz11:([head,Value.ref L,Value.none,rawInt L,Value.none]++if pl.isEmpty=true then List.replicate 6 Value.none else pl).length=11:=by
  rw[aG,lp];rfl
 have hL:A.frames=some (env::outer):=fr;generalize hcells:([head,Value.ref L,Value.none,rawInt L,Value.none]++if pl.isEmpty=true then List.replicate 6 Value.none else pl)=cells at sz11 |-
 have c3:cells[3]?=some (rawInt L):=by rw[<- hcells];rfl
 refine zwb (wpAny_newObj_type ?_ (by show sizeOk (Data.fields cells.toArray);unfold sizeOk;simp only[size_toArray,sz11];decide))
 dsimp only;have hlt:e<h1.objs.size:=aI e1;have ne:h1.objs.size≠e:=ne_of_gt hlt;refine wpAny_setField (zgp _ e1) rfl (by show 1<6;decide) ?_
 have x2:((h1.push { cls:=.type "traceback",data:=.fields cells.toArray }).update e (Obj.mapFields fun x=>x.setIfInBounds 1 (.ref h1.objs.size))).get? e=some (jM C od t (.ref h1.objs.size)):=
  Heap.get?_update_self _ (zgp _ e1) rfl
 have x3:((h1.push { cls:=.type "traceback",data:=.fields cells.toArray }).update e (Obj.mapFields fun x=>x.setIfInBounds 1 (.ref h1.objs.size))).get? h1.objs.size=some { cls:=.type "traceback",data:=.fields cells.toArray }:=by
  rw[Heap.get?_update_ne _ _ _ _ ne];exact zgs h1 rfl
 have x4:∀b o,b≠e->h1.get? b=some o->((h1.push { cls:=.type "traceback",data:=.fields cells.toArray }).update e (Obj.mapFields fun x=>x.setIfInBounds 1 (.ref h1.objs.size))).get? b=some o:=fun b o hbe hbo=>by
  rw[Heap.get?_update_ne _ _ _ _ hbe];exact zgp _ hbo
 generalize (h1.push { cls:=.type "traceback",data:=.fields cells.toArray }).update e (Obj.mapFields fun x=>x.setIfInBounds 1 (.ref h1.objs.size))=h2 at x2 x3 x4 |-;unfold setFlight;refine zwb (wpAny_field (x:=.ref h1.objs.size) x2 rfl rfl ?_);rw[aK (show(Value.ref h1.objs.size != Value.none)=true from rfl)];refine wpAny_setField x3 rfl (by rw[size_toArray,sz11];decide) ?_
 show Q () { s with heap:=h2.update h1.objs.size (Obj.mapFields fun x=>x.setIfInBounds 3 Value.none) }
 have y1:∀b,b≠h1.objs.size->(h2.update h1.objs.size (Obj.mapFields fun x=>x.setIfInBounds 3 Value.none)).get? b=h2.get? b:=fun b hb'=>Heap.get?_update_ne _ _ _ _ hb';have y2:(h2.update h1.objs.size (Obj.mapFields fun x=>x.setIfInBounds 3 Value.none)).get? h1.objs.size=some { cls:=.type "traceback",data:=.fields (cells.toArray.setIfInBounds 3 .none) }:=Heap.get?_update_self _ x3 rfl;have kp:∀b o,s.heap.get? b=some o->(∀vs,o.data≠.fields vs)->∃sl,(h2.update h1.objs.size (Obj.mapFields fun x=>x.setIfInBounds 3 Value.none)).get? b=some { o with slots:=sl }:=fun b o hbo hd=>by
  obtain⟨sl',hs'⟩:=sl b o hbo;have n1:b≠h1.objs.size:=ne_of_lt (aI hs');have n2:b≠e:=fun z=>by rw[z,he] at hbo;cases hbo;exact hd _ rfl
  exact⟨sl',by rw[y1 b n1];exact x4 b _ n2 hs'⟩
 refine q _ (fun b o hbo=>?_) (fl.of_keeps fun b o hbo hd=>?_) ?_ kp
 ·have n0:b∉List.filterMap (fun x:Env=>x.frame) (env::outer):=fun z=>by
   rw[(fl.mem z).1] at hbo;cases hbo
  have hs':=(oth b n0).trans (hst b o hbo);have n1:b≠h1.objs.size:=ne_of_lt (aI hs');have n2:b≠e:=fun z=>by rw[z,hb] at hbo;cases hbo
  rw[y1 b n1];exact x4 b o n2 hs'
 ·obtain⟨sl',hs'⟩:=kp b o hbo hd
  exact⟨_,hs',rfl⟩
 ·exists h1.objs.size,_,_,(by rw[y1 e (Ne.symm ne)];exact x2),?_,ne,y2,rfl,?_
  ·cases z:base.get? h1.objs.size with
   | none=>rfl
   | some o=>
    have:=aI (hst _ o z)
    rw[<- sz] at this;exact absurd this (lt_irrefl _)
  ·rw[Array.getElem?_setIfInBounds_self_of_lt (by rw[size_toArray,sz11];decide)]
theorem zhp(fr:A.frames=some (env::outer))(fl:s.heap.FunFrames base (env::outer))(hfl:env.frame=some L)(hst:base.StaysIn s.heap)(hb:base.get? e=none)
  (he:s.heap.get? e=some (jM C od t .none)\/TrS s.heap base e C od t)
  (q:∀h':Heap,base.StaysIn h'->h'.FunFrames base (env::outer)->TrS h' base e C od t->s.heap.UpToSlots h'->Q () { s with heap:=h' }) :
  wpAny M A (noteFrame (.ref e) env) (fun _ s'=>wpAny M A (setFlight (.ref e) none) Q E s') E s:=by
 unfold noteFrame;rw[hfl];dsimp only;rcases he with he|⟨tb,oT,ts,h1,h2,h3,h4,h5,h6⟩
 ·refine zwb (wpAny_field (x:=Value.none) he rfl rfl ?_)
  rw[aJ (show ¬(Value.none != Value.none)=true by decide)]
  exact zhY fr fl hfl he hst hb q
 ·refine zwb (wpAny_field (x:=.ref tb) h1 rfl rfl ?_)
  rw[aK (show(Value.ref tb != Value.none)=true from rfl)];refine zwb (wpAny_field (x:=Value.none) h4 h5 h6 ?_);rw[aJ (show ¬(Value.none==rawInt (L:Nat))=true from fun z=>by cases z)]
  have l3 : 3<ts.size:=by
   have:=(Array.getElem?_eq_some_iff.mp h6).1
   exact this
  refine zwb (wpAny_setField h4 h5 l3 ?_);have z1:∀b,b≠tb->(s.heap.update tb (Obj.mapFields fun x=>x.setIfInBounds 3 Value.none)).get? b=s.heap.get? b:=fun b hb'=>Heap.get?_update_ne _ _ _ _ hb';have up:s.heap.UpToSlots (s.heap.update tb (Obj.mapFields fun x=>x.setIfInBounds 3 Value.none)):=fun b o hbo hd=>by
   have n:b≠tb:=fun z=>by rw[z,h4] at hbo;cases hbo;exact hd _ h5
   exact⟨o.slots,by rw[z1 b n];exact hbo⟩
  refine zhY (s:={ s with heap:=s.heap.update tb (Obj.mapFields fun x=>x.setIfInBounds 3 Value.none) }) fr (fl.of_keeps fun b o hbo hd=>?_) hfl (tb0:=.ref tb) (by rw[z1 e (Ne.symm h3)];exact h1) (fun b o hbo=>?_) hb fun h' a1 a2 a3 a4=>q h' a1 a2 a3 (up.trans a4)
  ·obtain⟨sl,hs⟩:=up b o hbo hd
   exact⟨_,hs,rfl⟩
  ·have n:b≠tb:=fun z=>by rw[z,h2] at hbo;cases hbo
   show(s.heap.update tb (Obj.mapFields fun x=>x.setIfInBounds 3 Value.none)).get? b=some o;rw[z1 b n];exact hst b o hbo
def FlS(B:Heap)(l:List Env)(e C:Addr)(od:Option Addr)(t:Addr)(h:Heap):Prop:=B.StaysIn h/\B.get? e=none/\h.FunFrames B l/\TrS h B e C od t
structure zag(P:Program)(w:World)(outer:List Env)(H:Hp)(s:Shared)(C:Addr)(od:Option Addr)(t:Addr)(H':Hp)(ea:Addr)(s':Shared):Prop where
 os:s'.os=s.os
 bare:AllBare s'.gens
 un:Un (frs outer) [] H H' s.heap s'.heap
 hok:HOk P w H' s'.heap
 nt:H' ea=none
 fly:∃B,FlS B outer ea C od t s'.heap/\(∀b u,H' b=some u->∃o,B.get? b=some o)/\(∀b o,s.heap.get? b=some o->H b=none->b∉frs outer->B.get? b=some o)/\
  ∀b o,s.heap.get? b=some o->b∉frs outer->∃o',B.get? b=some o'
abbrev CXs(P:Program)(w:World):CXT:=fun outer H s E e s'=>∃ea C od t H',e=.ref ea/\zag P w outer H s C od t H' ea s'/\E (.ref C) od H'
variable {ea:Addr}
theorem zfn(I:Inv X pins σ H s)(hstk:X.stack=X.env::X.outer)(hfl:X.env.frame=some X.env.locals)(hex:X.ex=[])(hx:H ea=some (uG ea C od t))(hnew:X.H₀ ea=none):
  wpAny M X.A (leaving X.env (.ref ea)) (fun _ s''=>zag X.prog X.w X.outer X.H₀ X.s₀ C od t (drop H ea) ea s'') E s:=by
 have fr:=zaM hstk hfl;have he:=qe I hx;have fl:s.heap.FunFrames (hideAll s.heap (ea::frs X.stack)) (X.env::X.outer):=by
  have:=I.stack
  rw[hstk] at this;refine PySem.W.funFrames_hide this fun env he b hb=>?_;rw[hstk];exact mem_cons_of_mem _ (List.mem_filterMap.mpr ⟨env,he,hb⟩)
 have fr0:=I.ok.frames;rw[hstk] at fr0;have neL:∀b o,X.s₀.heap.get? b=some o->b≠X.env.locals:=fun b o e=>ne_of_lt (lt_of_lt_of_le (aI e) I.ok.above);have noEx:∀b:Addr,b∉X.ex:=fun b=>by rw[hex];simp
 have inB:∀b o,s.heap.get? b=some o->b≠ea->b∉frs X.stack->(hideAll s.heap (ea::frs X.stack)).get? b=some o:=fun b o e n1 n=>PySem.W.hideAll_get _ e (fun z=>(List.mem_cons.mp z).elim n1 n);have trB:∀b u,H b=some u->b∉frs X.stack:=fun b u e n=>by rw[I.stkFree b n] at e;cases e
 have eaS:∀u,X.s₀.heap.get? ea=some u->False:=fun u e=>by
  have:=I.base.free ea u e hnew (noEx ea)
  rw[hx] at this;cases this
 unfold leaving;refine zwb (zhp fr0 fl hfl (fun b o q=>PySem.W.of_hideAll _ q) (hideAll_none _ mem_cons_self) (.inl he) fun h2 x1 x2 x3 x4=>?_);have stay:∀b o,s.heap.get? b=some o->b≠ea->b∉frs X.stack->h2.get? b=some o:=fun b o e n1 n=>x1 b o (inB b o e n1 n);have x2':h2.FunFrames (hideAll s.heap (ea::frs X.stack)) X.outer:=by
  unfold Heap.FunFrames at x2;exact x2.2.2
 have nEa:∀b o,X.s₀.heap.get? b=some o->b≠ea:=fun b o e z=>by subst z;exact eaS o e
 exists I.os,I.bare,⟨fun b o e n hb _=>?_,fun b o e n hb _=>?_,fun b o e n _=>?_,fun b o e _=>?_,fun b xs e=>?_,fun b u v e=>?_,fun b ps e=>?_⟩,?_,zfr,?_
 ·refine stay b o (I.base.keep b o e n hb (noEx b)) (nEa b o e) ?_
  rw[fr];exact fun z=>(List.mem_cons.mp z).elim (neL b o e) hb
 ·obtain⟨sl,e1⟩:=I.base.slot b o e n hb (noEx b)
  obtain⟨_,o',ho',hd⟩:=I.funs.mem hb;rw[e1] at ho';cases ho';obtain⟨sl2,e2⟩:=x4 b _ e1 hd;exact⟨sl2,e2⟩
 ·rw[wV (nEa b o e)]
  exact I.base.free b o e n (noEx b)
 ·obtain⟨o1,e1⟩:=I.base.there b o e (noEx b)
  by_cases hb:b∈frs X.stack
  ·obtain⟨_,o',ho',hd⟩:=I.stack.mem hb
   obtain⟨sl2,e2⟩:=x4 b o' ho' hd;exact⟨_,e2⟩
  ·exact⟨o1,stay b o1 e1 (nEa b o e) hb⟩
 ·have e1:=I.base.tups b xs e
  rw[wV (fun z=>by rw[z,hx] at e1;cases e1)];exact e1
 ·have e1:=I.base.frzs b u v e
  rw[wV (fun z=>by rw[z,hx] at e1;cases e1)];exact e1
 ·obtain⟨more,e1⟩:=I.base.tbls b ps e
  exact⟨more,by rw[wV (fun z=>by rw[z,hx] at e1;cases e1)];exact e1⟩
 ·exact(I.hok.drop hx).sameAt fun b u o e q=>stay b o q (uB e).1 (trB b u (uB e).2)
 ·exists _,⟨x1,hideAll_none _ mem_cons_self,x2',x3⟩,fun b u e=>?_,fun b o e n hb=>?_,fun b o e hb=>?_
  ·obtain⟨n1,e⟩:=uB e
   obtain⟨o,q⟩:=I.hok.rec e;exact⟨o,inB b o q n1 (trB b u e)⟩
  ·refine inB b o (I.base.keep b o e n hb (noEx b)) (nEa b o e) ?_
   rw[fr];exact fun z=>(List.mem_cons.mp z).elim (neL b o e) hb
  ·obtain⟨o1,e1⟩:=I.base.there b o e (noEx b)
   exists o1,inB b o1 e1 (nEa b o e) ?_;rw[fr];exact fun z=>(List.mem_cons.mp z).elim (neL b o e) hb
theorem zjz(I:Inv X pins σ H s)(hstk:X.stack=X.env::X.outer)(hfl:X.env.frame=some X.env.locals)(hex:X.ex=[])(F:zag X.prog X.w X.stack H s C od t H' ea s'):
  wpAny M X.A (leaving X.env (.ref ea)) (fun _ s''=>zag X.prog X.w X.outer X.H₀ X.s₀ C od t H' ea s'') E s':=by
 have fr:=zaM hstk hfl;have fr0:=I.ok.frames;rw[hstk] at fr0;obtain⟨B,fl,tr,old,olds⟩:=F.fly;have neL:∀b o,X.s₀.heap.get? b=some o->b≠X.env.locals:=fun b o e=>ne_of_lt (lt_of_lt_of_le (aI e) I.ok.above);have noEx:∀b:Addr,b∉X.ex:=fun b=>by rw[hex];simp
 have nst:∀b o,X.s₀.heap.get? b=some o->b∉frs X.outer->b∉frs X.stack:=fun b o e hb=>by
  rw[fr];exact fun z=>(List.mem_cons.mp z).elim (neL b o e) hb
 have fl':=fl;rw[hstk] at fl';unfold leaving;refine zwb (zhp fr0 fl'.2.2.1 hfl fl'.1 fl'.2.1 (.inr fl'.2.2.2) fun h2 y1 y2 y3 x2=>?_);have x1:FlS B X.outer ea C od t h2:=⟨y1,fl'.2.1,(by unfold Heap.FunFrames at y2;exact y2.2.2),y3⟩
 have oldB:∀b o,X.s₀.heap.get? b=some o->X.H₀ b=none->b∉frs X.outer->B.get? b=some o:=fun b o e n hb=>
  old b o (I.base.keep b o e n hb (noEx b)) (I.base.free b o e n (noEx b)) (nst b o e hb)
 exists F.os.trans I.os,F.bare,⟨fun b o e n hb _=>x1.1 b o (oldB b o e n hb),fun b o e n hb _=>?_,fun b o e n _=>?_,fun b o e _=>?_,fun b xs e=>F.un.tups b xs (I.base.tups b xs e),fun b o u e=>F.un.frzs b o u (I.base.frzs b o u e),fun b ps e=>?_⟩,F.hok.sameAt fun b u o e q=>?_,F.nt,⟨B,x1,tr,oldB,fun b o e hb=>?_⟩
 ·obtain⟨sl,e1⟩:=I.base.slot b o e n hb (noEx b)
  obtain⟨sl1,e2⟩:=F.un.any e1 (I.base.free b o e n (noEx b)) (by simp)
  have hd:∀vs,o.data≠.fields vs:=by
   obtain⟨_,o',ho',hd⟩:=I.funs.mem hb;rw[e1] at ho';cases ho';exact hd
  obtain⟨sl2,e3⟩:=x2 b _ e2 hd;exact⟨sl2,e3⟩
 ·obtain⟨o',e1⟩:=I.base.there b o e (noEx b)
  exact F.un.free b o' e1 (I.base.free b o e n (noEx b)) (by simp)
 ·obtain⟨o1,e1⟩:=I.base.there b o e (noEx b)
  obtain⟨o2,e2⟩:=F.un.there b o1 e1 (by simp)
  by_cases hb:b∈frs X.stack
  ·obtain⟨_,o',ho',hd⟩:=fl.2.2.1.mem hb
   obtain⟨sl2,e3⟩:=x2 b o' ho' hd;exact⟨_,e3⟩
  ·obtain⟨o3,e3⟩:=olds b o1 e1 hb
   exact⟨o3,x1.1 b o3 e3⟩
 ·obtain⟨m1,e1⟩:=I.base.tbls b ps e
  obtain⟨m2,e2⟩:=F.un.tbls b _ e1;exact⟨m1++m2,by rw[e2,Array.append_assoc]⟩
 ·obtain⟨o3,e3⟩:=tr b u e
  have e4:=fl.1 b o3 e3;rw[q] at e4;cases e4;exact x1.1 b o e3
 ·obtain⟨o1,e1⟩:=I.base.there b o e (noEx b)
  exact olds b o1 e1 (nst b o e hb)
abbrev jN(ea C:Addr)(od:Option Addr)(t:Addr):HO:=.ext fun h=>∃tb,h.get? ea=some (jM C od t tb)
theorem zjD(e:h.get? ea=some (jM C od t tb)):yR P w H h ea (jN ea C od t):=
 ⟨⟨tb,e⟩,⟨_,e⟩,fun g1 g2 ⟨tb',q⟩ k=>⟨tb',k _ q⟩⟩
theorem zag.move(F:zag P w l H s C od t H' ea s')(fl:FlS B l ea C od t s'.heap)(tr:∀b u,H' b=some u->∃o,B.get? b=some o)
  (old:∀b o,s.heap.get? b=some o->H b=none->b∉frs l->B.get? b=some o) (olds:∀b o,s.heap.get? b=some o->b∉frs l->∃o',B.get? b=some o')
  (fl5:FlS B l ea C od t h5) (up:s'.heap.UpToSlots h5):zag P w l H s C od t H' ea { s' with heap:=h5 }:=by
 exists F.os,F.bare,⟨fun b o e n hb _=>fl5.1 b o (old b o e n hb),fun b o e n hb _=>?_,F.un.free,fun b o e _=>?_,F.un.tups,F.un.frzs,F.un.tbls⟩,F.hok.sameAt fun b u o e q=>?_,F.nt,⟨B,fl5,tr,old,olds⟩
 ·obtain⟨sl,e1⟩:=F.un.slot b o e n hb (by simp)
  obtain⟨_,o',ho',hd⟩:=fl.2.2.1.mem hb;rw[e1] at ho';cases ho';obtain⟨sl2,e2⟩:=up b _ e1 hd;exact⟨sl2,e2⟩
 ·by_cases hb:b∈frs l
  ·obtain⟨_,o',ho',hd⟩:=fl5.2.2.1.mem hb
   exact⟨o',ho'⟩
  ·obtain⟨o3,e3⟩:=olds b o e hb
   exact⟨o3,fl5.1 b o3 e3⟩
 ·obtain⟨o3,e3⟩:=tr b u e
  have e4:=fl.1 b o3 e3;rw[q] at e4;cases e4;exact fl5.1 b o e3
theorem zmr{Q:Unit->Shared->Prop}(fl:FlS B l ea C od t s.heap)(q:∀h':Heap,FlS B l ea C od t h'->s.heap.UpToSlots h'->Q () { s with heap:=h' }):wpAny M A (setFlight (.ref ea) none) Q E s:=by
 obtain⟨f1,f2,f3,tb,oT,ts,h1,h2,h3,h4,h5,h6⟩:=fl;unfold setFlight;refine zwb (wpAny_field (x:=.ref tb) h1 rfl rfl ?_);rw[aK (show(Value.ref tb != Value.none)=true from rfl)];have l3 : 3<ts.size:=(Array.getElem?_eq_some_iff.mp h6).1;refine wpAny_setField h4 h5 l3 ?_;show Q () { s with heap:=s.heap.update tb (Obj.mapFields fun x=>x.setIfInBounds 3 Value.none) }
 have z1:∀b,b≠tb->(s.heap.update tb (Obj.mapFields fun x=>x.setIfInBounds 3 Value.none)).get? b=s.heap.get? b:=fun b hb'=>Heap.get?_update_ne _ _ _ _ hb';have up:s.heap.UpToSlots (s.heap.update tb (Obj.mapFields fun x=>x.setIfInBounds 3 Value.none)):=fun b o hbo hd=>by
  have n:b≠tb:=fun z=>by rw[z,h4] at hbo;cases hbo;exact hd _ h5
  exact⟨o.slots,by rw[z1 b n];exact hbo⟩
 obtain⟨oc,odd,da,osl⟩:=oT;have h5':da=.fields ts:=h5;subst h5';have z2:(s.heap.update tb (Obj.mapFields fun x=>x.setIfInBounds 3 Value.none)).get? tb=some ⟨oc,odd,.fields (ts.setIfInBounds 3 .none),osl⟩:=Heap.get?_update_self _ h4 rfl;refine q _ ⟨fun b o hbo=>?_,f2,f3.of_keeps fun b o hbo hd=>?_,tb,_,_,(by rw[z1 ea (Ne.symm h3)];exact h1),h2,h3,z2,rfl,?_⟩ up
 ·have n:b≠tb:=fun z=>by rw[z,h2] at hbo;cases hbo
  rw[z1 b n];exact f1 b o hbo
 ·obtain⟨sl,hs⟩:=up b o hbo hd
  exact⟨_,hs,rfl⟩
 ·rw[Array.getElem?_setIfInBounds_self_of_lt l3]
theorem zag.track(I:Inv X pins σ H s)(F:zag X.prog X.w X.stack H s C od t H' ea s')(fl:FlS B X.stack ea C od t s'.heap)(old:∀b o,s.heap.get? b=some o->H b=none->b∉frs X.stack->B.get? b=some o):
  Inv X pins σ (upd H' ea (jN ea C od t)) s':=by
 have I1:Inv X pins σ H' s':=I.call' F.os F.un F.hok F.bare fun b z=>nomatch z;obtain⟨tb,oT,ts,he,_⟩:=fl.2.2.2;have nfr:ea∉frs X.stack:=fun z=>by
  obtain⟨_,o',ho',hd'⟩:=fl.2.2.1.mem z;rw[he] at ho';cases ho';exact hd' _ rfl
 have nold:∀b o,s.heap.get? b=some o->H b=none->b≠ea:=fun b o e n z=>by
  subst z
  have:=old b o e n nfr
  rw[fl.2.1] at this;cases this
 refine I1.track F.nt (zjD he) (fun u e n hx=>?_) (fun z=>?_) (fun x c e z=>?_) fun p hp=>?_
 ·by_cases hb:ea∈X.fs
  ·obtain⟨_,o',ho',hd'⟩:=I1.funs.mem hb
   rw[he] at ho';cases ho';exact hd' _ rfl
  ·exact nold ea u (I.base.keep ea u e n hb hx) (I.base.free ea u e n hx) rfl
 ·obtain⟨m,⟨oL,es,ep,hoL,hdL,_⟩,_⟩:=I1.loc
  rw[z,he] at hoL;cases hoL;cases hdL
 ·obtain⟨v,oc,hoc,hdc⟩:=I1.cell x c e
  rw[z,he] at hoc;cases hoc;cases hdc
 ·obtain⟨q1,q2,_⟩:=I.pin p hp
  exact nold p.1 p.2 q1 q2
def zeJ(X:Cx)(E:XK):Prop:=∀(pins:PnL) (σ:St) H s ea C od t,Inv X pins σ H s->H ea=some (uG ea C od t)->X.H₀ ea=none->E (.ref C) od (drop H ea)->X.xe (.ref ea) s
inductive zdKJ(K:Frag)(H0:Hp)(E:XK)(x:V)(H1:Hp):Prop|mk(ea C:Addr)(od:Option Addr)(t:Addr):x=.ref ea->H1 ea=some (uG ea C od t)->xF K C->zic K C=true->H0 ea=none->(E (.ref C) od (drop H1 ea))->zdKJ K H0 E x H1
def zdK(K:Frag)(H0:Hp)(E:XK)(te:TE):TS:=fun _ σ H=>te σ H fun x H1=>zdKJ K H0 E x H1
end
section
variable {X:Cx}{te:TE}
theorem wJ(hX:zeJ X E)(hc:X.calm=true)(he:PE X e te):PS X (.Raise (some e) none pos) (zdK X.K X.H₀ E te):=by
 exists ?_;intro pins s σ H D I h;rw[arm_exec_Raise];refine zwb (wpAny_standAt ?_);unfold raiseStmt;show wpAny _ _ (do
  let xv <- (do
   let v <- eval e X.env
   standAt pos
   pure v)
  _) _ _ _
 refine zwb (zwb (thn (he pins s σ H _ I h) fun u s1 ⟨x,H1,I1,rx,ea,C,od,t,ex,hx,c,m,hn,q⟩=>?_));subst ex;obtain rfl:u=Value.ref ea:=rx;refine zwb (wpAny_standAt (zwp ?_));have ho:=qe I1 hx;have XO:=zdC I1.kIn m;obtain⟨nm,q',N,bs,bm,sn,sub,ab,col,dd,k0,k1,k2,k3,k5,hC,b1,b2,b3,b4⟩:=XO.ob;have hq:X.xe (.ref ea) s1:=hX pins σ H1 s1 ea C od t I1 hx hn q;have LT:Looks (model X.prog X.w) s1.heap (typeOf (.ref ea)) (.ref C):=(PySem.W.Looks.ld ho).andThen .now;have LTC:Looks (model X.prog X.w) s1.heap (typeOf (.ref C)) (.type "type"):=(PySem.W.Looks.ld hC).andThen .now;have LB:=PySem.W.looks_mroIn (M:=model X.prog X.w) I1.kIn c.be;have LIs:Looks (model X.prog X.w) s1.heap (isType (.ref ea)) false:=(PySem.W.Looks.ld ho).andThen .now;have hcalm:=I1.ok.hd hc;obtain⟨hh,g,d,tk,os⟩:=s1;dsimp only;refine zwb (zwp (zwb (wpAny_holding ?_)));unfold excFromValue isExcClass;refine zwb (zwb (LIs.at ?_));rw[aJ zft];refine zwp ?_;rw[aJ zft];unfold isInstance;refine zwb (zwb (LT.at (LB.at ?_)));rw[aK rfl];refine zwp ?_;dsimp only;refine zwb (LIs.at ?_);rw[aJ zft];unfold raisedInstance;refine zwb (zwb (LT.at (zwb (LTC.at ?_))));rw[aK ⋯]
 refine zwp (zwb ?_);unfold setFlight;refine zwb (wpAny_field (x:=Value.none) ho rfl rfl ?_);rw[aJ (show ¬(Value.none != Value.none)=true by decide)]
 refine zwp ?_;unfold raiseNew;refine zwb (wpAny_handled_none hcalm ?_);exact wpAny_throw hq
variable {P:Program}{w:World}{K:Frag}{mg:Str->Option Value}{base:Heap}{f:Addr}{A:Around}
theorem wl:zeJ (zak (CXs P w) P w K mg base N qual scope f cd A outer s H E) E:=fun pins σ H1 s1 ea C od t I hx hn q=>by
 refine wpAny_mono (zfn I rfl rfl rfl hx hn) (fun _ s2 F=>?_) fun _ _ z=>z;exact⟨ea,_,_,_,_,rfl,F,q⟩
theorem zgM(hE:∀c d H,E' c d H->E c d H):xW (CXs P w) (zak (CXs P w) P w K mg base N qual scope f cd A outer s H E) E':=fun pins σ H1 s1 e s' I q=>by
 obtain⟨ea,C,od,t,H',rfl,F,q⟩:=q;refine wpAny_mono (zjz I rfl rfl rfl F) (fun _ s2 F2=>?_) fun _ _ z=>z;exact⟨ea,C,od,t,H',rfl,F2,hE _ _ _ q⟩
theorem Fun.okS{N:List Str}{qual:Str}{x:Str}{st:Stmt}{fd:FuncData}{ps:List Str}{k:Nat}{sp:Sp}(F:Fun K x qual st f fd)(S:zv N ps (zk st))(len:∀vs H Q E,sp vs H Q E->vs.length=ps.length)
  (hbody:∀(cdv:Value) (A:Around) (outer:List Env) (s:Shared) (H:Hp) (vs:List V) (Q:VK) (E:XK),yl k (A.deeper (envOfC qual (zk st) s.heap.objs.size f cdv))->sp vs H Q E->
   ∃t,PSs (zak (CXs P w) P w K mg base N qual (zk st) f cdv A outer s H E) (ye st) t/\t { nx:=fun _ H'=>Q .non H',rt:=Q } (uK N vs) H):zD P w K mg base (CXs P w) (k+1) f fd ps sp:=by
 obtain⟨oc,od,kV,doc,pm,an,cdv,ct,osl,rfl,lk,hcd⟩:=F.ex;exact zhR lk hcd S len fun A outer s H vs Q E hr hsp=>hbody cdv A outer s H vs Q E hr hsp
structure jr(P:Program)(w:World)(K:Frag)(mg:Str->Option Value)(base:Heap)(k:Nat)(x:Str)(f:Addr)(fd:FuncData)(ps:List Str)(sp:Sp):Prop where
 ok:zD P w K mg base (CXs P w) k f fd ps sp
 mg:mg x=some (.ref f)
 kp:keepIn K (.ref f)=true
 bd:zU K fd ps []
variable {k:Nat}{sp:Sp}{t:TA}
theorem cS(c:jr X.prog X.w X.K X.mg X.base k x f fd ps sp)(hp:xW (CXs X.prog X.w) X E)(hr:yl k X.A)(ha:PA X (e::es) t)(hg:Gl X x:=by rfl)(hdb:(x==("__debug__" : Str))=false:=by decide)
  (h1:uE e=false:=by rfl) (h2:es.any uE=false:=by rfl):PE X (.Call (.Name x p) (e::es) [] pos) (zdL sp [] E t):=
 zee c.ok hr hg c.mg c.kp c.bd .nil hp ha hdb (xG h1) (wK h2)
abbrev HK:=Addr->Option Addr->Addr->Addr->vH->St->Hp->Prop
structure PH(X:Cx)(hs:List ExceptHandler)(th:HK):Prop where
 run:∀(pins:PnL) (σ : St) (H1:Hp) (s1:Shared) (H':Hp) (ea C:Addr) (od:Option Addr) (t:Addr) (s5:Shared) (D:vH),Inv X pins σ H1 s1->zag X.prog X.w X.stack H1 s1 C od t H' ea s5->th C od t ea D σ H'->↑X (handleBy (.ref ea) X.env hs) (SP X pins D) X.xe s5
variable {i:Nat}{ts:TS}
theorem zkT:PH X [] (fun _ _ _ _ _ _ _=>False):=⟨fun _ _ _ _ _ _ _ _ _ _ _ _ _ h=>h.elim⟩
def zbE(X:Cx)(pins:PnL)(σ : St)(E:XK):Prop:=∀H s e s',Inv X pins σ H s->CXs X.prog X.w X.stack H s E e s'->X.xe e s'
def zlH(tb:XK->TS)(th:HK):TS:=fun D σ H=>tb (fun cls od H'=>∃C,cls=.ref C/\∀t ea,H' ea=none->th C od t ea D σ H') D σ H
variable {tb:XK->TS}
theorem ziE{pos:Pos}{hs:List ExceptHandler}{th:HK}{st:Stmt}{h₀:ExceptHandler}(hstk:X.stack=X.env::X.outer)(hfl:X.env.frame=some X.env.locals)(hh:PH X (h₀::hs) th)
  (hb:∀(pins:PnL) (σ : St) (xe:VSP) (E:XK),zbE (X.wish xe) pins σ E->PS1 (X.wish xe) pins σ st (tb E)):PS X (.Try [st] (h₀::hs) [] [] pos) (zlH tb th):=by
 exists ?_;intro pins s σ H D I h;have fr0:=I.ok.frames;rw[hstk] at fr0;refine wpAny_Try_except ?_;have key:zbE (X.wish (zlF X pins D (h₀::hs))) pins σ (fun cls od H'=>∃C,cls=.ref C/\∀t ea,H' ea=none->th C od t ea D σ H'):=by
  intro H1 s1 e s2 I1 q;obtain⟨ea,C,od,t,H',rfl,F,C0,e0,q⟩:=q;cases e0;have I1:=I1.unwish;have F:zag X.prog X.w X.stack H1 s1 C od t H' ea s2:=F;obtain⟨B,fl,tr,old,olds⟩:=F.fly;have fl':=fl;rw[hstk] at fl';refine zhp fr0 fl'.2.2.1 hfl fl'.1 fl'.2.1 (.inr fl'.2.2.2) fun h5 y1 y2 y3 y4=>?_;have fl5:FlS B X.stack ea C od t h5:=by rw[hstk];exact⟨y1,fl'.2.1,y2,y3⟩
  have F5:=F.move fl tr old olds fl5 y4;exact hh.run pins σ H1 s1 H' ea C od t _ D I1 F5 (q t ea F.nt)
 have run:=(hb pins σ _ _ key).run s H D (I.wish _) h;refine wpAny_execs_cons (thn run fun f s1 q=>?_)
 ·cases f with
  | next=>exact wpAny_execs_nil (wpAny_execs_nil (SP.unwish (f:=.next) q))
  | ret v=>exact SP.unwish (f:=.ret v) q
  | brk=>exact SP.unwish (f:=.brk) q
  | cont=>exact SP.unwish (f:=.cont) q
end
section
variable {x C t:Addr}{f:Str}{E:VSP}
theorem zju{Q:VSP}(I:Inv X pins σ H s)(e:H x=some (jN x C (some dx) t))(ed:H dx=some (.xd fs))(c:xF X.K C)(m:zae X.K C)(n:yJ X.K C f)(l:fs.lookup f=some v)
  (h:∀u s',Inv X pins σ H s'->yf v u->Q u s'):wpAny (model X.prog X.w) A (getAttr (.ref x) f b) Q E s:=by
 obtain⟨tb,hx⟩:=(I.hok x _ e).1;obtain⟨mA,ns,r⟩:=I.hok dx _ ed;obtain⟨u,hu,ru⟩:=wH (v:=v) (o:=mA f) (by rw[<- l];exact r f)
 exact zjt c m I.kIn n hx rfl rfl rfl ns hu (zaK ru) (h u _ (I.tok _) ru)
inductive zjQJ(K:Frag)(f:Str)(Q:VK)(x:V)(H1:Hp):Prop|mk(a C t dx:Addr)(fs:List (Str×V))(v:V):x=.ref a->H1 a=some (jN a C (some dx) t)->H1 dx=some (.xd fs)->xF K C->zae K C->yJ K C f->fs.lookup f=some v->(Q v H1)->zjQJ K f Q x H1
def zjQ(K:Frag)(ta:TE)(f:Str):TE:=fun σ H Q=>ta σ H fun x H1=>zjQJ K f Q x H1
variable {ta:TE}
theorem ziN(he:PE X e ta)(hb:attributeBase e f X.env (eval e X.env)=eval e X.env):PE X (.Attribute e f pos) (zjQ X.K ta f):=by
 and_intros;refine zeH hb (thn (he pins s σ H _ I h) fun u s1 ⟨x,H1,I1,rx,a,C,t,dx,fs,v,ex,ea,ed,c,m,n,l,q⟩=>?_);subst ex;obtain rfl:u=Value.ref a:=rx;exact zju I1 ea ed c m n l fun u' s2 I2 ru=>⟨v,H1,I2,ru,q⟩
end
end L2
namespace L2
open PySem PySem.Spec PyProof.Rows PySem.Builtin
section
variable {E:VSP}{x left step:Int}{Q:Option Value->Shared->Prop}
end
end L2
namespace L2
open PySem PySem.Spec PyProof.Rows
structure zia(ea:Addr)(P:Program)(w:World)(K:Frag)(tg:Expr)(J:It)(fp:List Addr)(it:Addr)(tn:Nat->Heap->Prop):Prop where
 mem:it∈fp
 obj:∀i h,tn i h->∀b∈fp,∃o,h.get? b=some o/\∀v,o.data≠.cell v
 keep:∀i h h',tn i h->(∀b∈fp,∀o,h.get? b=some o->h'.get? b=some o)->tn i h'
 item:∀(X:Cx),X.prog=P->X.w=w->X.K=K->X.A.handled=some (.ref ea)->∀(i:Nat) (pins:PnL) (s:Shared) (σ : St) (H:Hp) (E:VSP),Inv X pins σ H s->(∀b∈fp,vt X pins H b)->tn i s.heap->J.go i H->
  wpAny (model P w) X.A (pyNext (.ref it)) (fun r s1=>∃u,r=some u/\
   wpAny (model P w) X.A (letOwnedTupleGo tg (.ref it) u) (fun _ s2=>∃x H',Inv X pins σ H' s2/\yf x u/\J.yld i H x H'/\tn (i+1) s2.heap/\∀b∈fp,H' b=none) E s1) E s
 done:∀(X:Cx),X.prog=P->X.w=w->X.K=K->X.A.handled=some (.ref ea)->∀(i:Nat) (pins:PnL) (s:Shared) (σ : St) (H:Hp) (E:VSP),Inv X pins σ H s->(∀b∈fp,vt X pins H b)->tn i s.heap->J.stop i H->
  wpAny (model P w) X.A (pyNext (.ref it)) (fun r s1=>r=none/\Inv X pins σ H s1) E s
 self:∀(A:Around) (i:Nat) (s:Shared) (Q:VSP) (E:VSP),tn i s.heap->Q (.ref it) s->wpAny (model P w) A (pyIter (.ref it)) Q E s
def zmF(X:Cx)(ea:Addr)(pins:PnL)(σ : St)(tg:Expr)(R:It->Hp->Prop)(itv:Value)(s2:Shared):Prop:=
 ∃(it:Addr) (fp:List Addr) (tn:Nat->Heap->Prop) (J:It) (H':Hp),itv=.ref it/\Inv X pins σ H' s2/\zia ea X.prog X.w X.K tg J fp it tn/\tn 0 s2.heap/\(∀b∈fp,vt X pins H' b)/\R J H'
structure PIH(X:Cx)(ea:Addr)(tg iter:Expr)(wi:TI):Prop where
 run:∀(pins:PnL) (s:Shared) (σ : St) (H:Hp) (R:It->Hp->Prop),Inv X pins σ H s->wi σ H R->
  ↑X (eval iter X.env) (fun v s1=>↑X (pyIter v) (zmF X ea pins σ tg R) X.xe s1) X.xe s
instance {X:Cx}{ea:Addr}{tg iter:Expr}{wi:TI}:CoeFun (PIH X ea tg iter wi) (fun _=>∀(pins:PnL) (s:Shared) (σ : St) (H:Hp) (R:It->Hp->Prop),Inv X pins σ H s->wi σ H R->
  ↑X (eval iter X.env) (fun v s1=>↑X (pyIter v) (zmF X ea pins σ tg R) X.xe s1) X.xe s):=⟨PIH.run⟩
section
variable {g:TG}{tt:TT}{te:TE}{E:VSP}
theorem zfv{tn:Nat->Heap->Prop}{J:It}{Q:VK}{RR:Value->Addr->Result->Shared->Prop}
  (hc:X.A.handled= ~~~ea) (B:y6 X.env sc fr) (go:zaf g ow) (how:(ow.all fun i=>caps[i]?==some none)=true) (hcap:w9 X.N Nc caps X.env sc fr=true) (hlen:caps.length=Nc.length)
  (hb:∀(pins:PnL) fp s H C,PG (zQ X pins sc fr Nc fp s H C) tg g/\PIf (zQ X pins sc fr Nc fp s H C) ifs tt/\PE (zQ X pins sc fr Nc fp s H C) elt te)
  (I2:Inv X pins σ H2 s) (T:zia ea X.prog X.w X.K tg J fp it tn) (st2:tn 0 s.heap) (f2:∀b∈fp,vt X pins H2 b) (h:∀D,H2 D=none->LCr J caps g tt te σ H2 Q D)
  (fin:∀D C (σ':St) H' s',Inv (zQ X pins sc fr Nc fp s H2 C) [] σ' H' s'->Q (.ref D) H'->RR (.ref D) C (.ok .next) s') :
  ↑X (newList []) (fun acc s₃=>↑X (newFunctionEnv sc X.env.globals (clB X.env fr) [] X.env.qual none .none (some X.env)) (fun cenv s₄=>
   codeAny (model X.prog X.w) X.A (.compStart (.ListComp elt [⟨tg,iter,ifs,0⟩] sc pos) 0 (.ref it) acc { cenv with scope:=relabel sc X.env }) (RR acc cenv.locals) s₄) E s₃) E s:=by
 have hcell:∀y∈sc.names,y.2≠.cell:=fun y hy=>by
  have h3:=List.all_eq_true.mp B.names _ hy;simp only[Bool.and_eq_true,bne_iff_ne,ne_eq] at h3;exact h3.1.1
 refine wpAny_newObj_type (wpAny_newFunctionEnv hcell (by intro y hy;simp at hy) (fun h₁ hns₁ hsb₁=>?_) B.kind)
 dsimp only at hns₁ hsb₁ |-;generalize hH2:s.heap.push { cls:=.type "list",dict:=none,data:=.seq ([]:List Value).toArray }=H3 at hns₁ hsb₁ |-;have hCs:H3.objs.size=s.heap.objs.size+1:=by rw[<- hH2,Heap.size_push]
 have hDC:s.heap.objs.size≠H3.objs.size:=by rw[hCs];exact ne_of_lt (lt_succ_self _)
 have hC:s.heap.objs.size<=H3.objs.size:=by rw[hCs];exact le_succ _
 have old:∀b o,s.heap.get? b=some o->h₁.get? b=some o:=fun b o e=>
  hsb₁.extBut b o (ne_of_lt (lt_of_lt_of_le (aI e) hC)) (zgp _ (hH2 ▸ zgp _ e))
 have hD:h₁.get? s.heap.objs.size=some { cls:=.type "list",data:=.seq ([]:List Value).toArray }:=hsb₁.extBut _ _ hDC (zgp _ (hH2 ▸ zgs _ rfl));have ho:∀b∈fp,∃o,s.heap.get? b=some o:=fun b hb'=>let ⟨o,e,_⟩:=T.obj 0 _ st2 b hb';⟨o,e⟩;have I4:∀t',Inv (zQ X pins sc fr Nc fp s H2 H3.objs.size) [] (xo caps σ) (upd H2 s.heap.objs.size (.lst [])) { s with heap:=h₁,toks:=t' }:=fun t'=>
  zac I2 B f2 ho hC (le_refl _) hDC old hD hns₁ hcap hlen
 have ok:=(I4 0).ok;obtain⟨hbg,hbt,hbe⟩:=hb pins fp s H2 H3.objs.size;obtain⟨W,⟨m0,w0⟩,turn⟩:=h s.heap.objs.size (I2.hok.fresh (le_refl _));have stat:∀{H':Hp},(∀b∈fp,H' b=none)->∀b∈fp,vt (zQ X pins sc fr Nc fp s H2 H3.objs.size) [] H' b:=fun hn b hb'=>
  ⟨hn b hb',(ok.exf b hb').1,ok.exfs b hb',.inl hb',(ok.exf b hb').2,fun p hp=>(f2 b hb').2.2.2.2.2 p (by simpa using hp)⟩
 have hfp0:∀b∈fp,upd H2 s.heap.objs.size (.lst []) b=none:=fun b hb'=>by
  obtain⟨o,e⟩:=ho b hb';rw[zj (ne_of_lt (aI e))];exact(f2 b hb').1
 have loop:∀s₃:Shared,s₃={ s with heap:=h₁,toks:=s.toks+([]:List (Str×Value)).length }->
   codeAny (model X.prog X.w) X.A (.compLoop (.ListComp elt [⟨tg,iter,ifs,0⟩] sc pos) 0 (.ref it) (.ref s.heap.objs.size) (compEnvC sc (clB X.env fr) H3.objs.size X.env)) (RR (.ref s.heap.objs.size) H3.objs.size) s₃:=by
  rintro s₃ rfl;refine uL (fun _ _=>False) (fun _ _ z=>z.elim) (fun n s'=>∃i σ' H' ys,Inv (zQ X pins sc fr Nc fp s H2 H3.objs.size) [] σ' H' s'/\tn i s'.heap/\(∀b∈fp,H' b=none)/\W i n ys H'/\
   (∀(k:Nat) v,(xo caps σ)[k]?=some (some v)->σ'[k]?=some (some v))) ?_ m0
   ⟨0,_,_,[],I4 _,T.keep _ _ _ st2 (fun b _ o e=>old b o e),hfp0,w0,fun _ _ e=>e⟩
  rintro n s3 ⟨i,σ3,H4,ys,I3,st3,fr3,w3,wk3⟩;have I3':Inv (zQ X pins sc fr Nc fp s H2 H3.objs.size) [] (xo caps σ) H4 s3:=I3.weak (by rw[I3.len];exact(I4 0).len) wk3
  rcases turn i n ys H4 w3 with ⟨stop,qn⟩|⟨gg,step⟩
  ·refine thn (T.done (zQ X pins sc fr Nc fp s H2 H3.objs.size) rfl rfl rfl hc i [] s3 _ H4 (fun _ _=>False) I3' (stat fr3) st3 stop) fun r s4 ⟨hr,I4'⟩=>?_
   subst hr;exact fin _ _ _ _ _ I4' qn
  ·refine thn (T.item (zQ X pins sc fr Nc fp s H2 H3.objs.size) rfl rfl rfl hc i [] s3 _ H4 (fun _ _=>False) I3' (stat fr3) st3 gg) fun r s4 ⟨u,hr,h4⟩=>?_
   subst hr;refine thn h4 fun _ s5 ⟨x,H5,I5,r5,y5,st5,fr5⟩=>?_;have I5':=I5.pinned (stat fr5) (T.obj _ _ st5);refine thn (hbg _ s5 _ H5 x u _ I5' r5 (go _ _ _ _ (step x H5 y5))) fun _ s6 ⟨σ6,H6,I6,q6,l6,k6⟩=>?_;have wk6:∀(k:Nat) v,(xo caps σ)[k]?=some (some v)->σ6[k]?=some (some v):=fun k v e=>by
    rw[k6 k fun hk=>?_]
    ·exact e
    ·have h1:=List.all_eq_true.mp how k hk
     have h2:caps[k]?=some none:=by simpa using h1
     unfold xo at e;rw[getElem?_map,h2] at e;cases e
   refine thn (hbt _ s6 σ6 H6 _ I6 q6) fun ok s7 ⟨H7,I7,q7⟩=>?_;have again:∀{H8:Hp}{s8:Shared}{ys':List V},Inv (zQ X pins sc fr Nc fp s H2 H3.objs.size) ([]++uS fp s5.heap) σ6 H8 s8->(∃m',m'<n/\W (i+1) m' ys' H8)->
     ∃m,m<n/\∃i σ' H' ys,Inv (zQ X pins sc fr Nc fp s H2 H3.objs.size) [] σ' H' s8/\tn i s8.heap/\(∀b∈fp,H' b=none)/\W i m ys H'/\(∀(k:Nat) v,(xo caps σ)[k]?=some (some v)->σ'[k]?=some (some v)):=fun {H8 s8 ys'} I8 ⟨m',hm,w8⟩=>by
    exists m',hm,i+1,σ6,H8,ys',I8.unpinned,T.keep _ _ _ st5 fun b hb' o e=>(I8.pin (b,o) (mem_append_right _ (mem_append_right _ (xD hb' e)))).1,fun b hb'=>?_,w8,wk6;obtain⟨o,e,d⟩:=T.obj _ _ st5 b hb';exact(I8.pin (b,o) (mem_append_right _ (mem_append_right _ (xD hb' e)))).2.1
   cases ok with
   | false=>
    rw[aJ zft];exact again I7 (q7.2 rfl)
   | true=>
    rw[aK rfl];refine thn (hbe _ s7 σ6 H7 _ I7 (q7.1 rfl)) fun uv s8 ⟨v,H8,I8,r8,hD8,hz,q8⟩=>?_;refine thn (z9 (X:=zQ X pins sc fr Nc fp s H2 H3.objs.size) _ s8 σ6 H8 (.ref s.heap.objs.size) [v] _ [uv] (fun _ H'=>H'=upd H8 s.heap.objs.size (.lst (ys++[v]))) I8 rfl (.cons r8 .nil) ⟨_,ys,v,rfl,rfl,hD8,hz,rfl⟩) fun _ s9 ⟨_,H9,I9,_,e9⟩=>?_;subst e9;exact again I9 q8
 exact codeAny_compStart_list (loop _ rfl) (T.self _ 0 _ _ _ (T.keep _ _ _ st2 (fun b _ o e=>old b o e)) (loop _ rfl))
variable {i:Nat}{ts:TS}
def znn(K:Frag)(C':Addr)(i:Nat)(ts:Addr->TS)(wu:HK):HK:=fun C od t ea D σ H'=>
 (exmOne K (.ref C) (.ref C')=some true/\ts ea (zj6 D i) (σ.set i (~~~ea)) (upd H' ea (jN ea C od t)))\/(exmOne K (.ref C) (.ref C')=some false/\wu C od t ea D σ H')
theorem zfM{ys:List Str}:∀{its:List Value},yb (ys.map V.str) its->StrsAre its ys:=by
 induction ys with
 | nil=>intro its h;cases h;exact .nil
 | cons y ys ih=>
  intro its h;cases h with
  | cons r t=>
   obtain⟨tk,rfl⟩:=r;exact .cons _ _ (ih t)
inductive zl7J(x:V)(xs:List V)(H:Hp)(Q:VK):Prop|mk(z:Str)(a:Addr)(ys:List Str):x=.str z->xs=[.ref a]->H a=some (.lst (ys.map V.str))->z.length<=16->(ys.map (·.length)).sum+ys.length<=1048576->(Q (.str (Txt.join z ys)) H)->zl7J x xs H Q
def zl7:V->List V->Hp->VK->Prop:=fun x xs H Q=>zl7J x xs H Q
theorem zji:MtR X "str.join" zl7:=by
 intro pins s σ H x xs v us Q I rx r h;obtain⟨z,a,ys,rfl,rfl,ha,hz,hl,q⟩:=h;obtain⟨t,rfl⟩:=rx;obtain⟨u,rfl,ru⟩:=r.one;cases ru;obtain⟨its,rv,pl,_⟩:=I.list (zh ha);exact join_listW pl.isList (by simpa using zfM rv) hz hl fun t' k=>⟨.str _,H,I.tok _,⟨_,rfl⟩,q⟩
end
end L2
namespace L2
open PySem PySem.Spec PyProof.Rows PySem.Builtin
section
variable {E:VSP}{it l ea C t:Addr}{od:Option Addr}{i:Nat}{Q:Option Value->Shared->Prop}
theorem zaj(hA:A.handled= ~~~ea)(he:s.heap.get? ea=some (jM C od t tb))(hit:s.heap.IsListIter it l i)(hl:s.heap.IsList l items)(hx:items[i]?=none)
  (q:∀h':Heap,Heap.ExtBut it s.heap h'->Q none { s with heap:=h' }):wpAny (model prog w) A (pyNext (.ref it)) Q E s:=by
 obtain⟨hh,gg,dd,tk,os⟩:=s;obtain⟨o,ho,hc,hd⟩:=id hit;obtain⟨ol,hol,_,nl,hdl⟩:=hl;have hne:ea≠it:=fun z=>by
  rw[z] at he;have ho':hh.get? it=some o:=ho;have he':hh.get? it=some (jM C od t tb):=he;rw[ho'] at he';cases Option.some.inj he';cases hc
 unfold pyNext;refine zwb (wpAny_attempt (wpAny_callSpecial?_slot (name:=Str.ofString "__next__") hit.typeIs slot_listiter_next
  (wpAny_call_entry slot_listiter_next hit.typeIs entry_listiter_next ?_ (args_listiter_next _))))
 show wpAny _ _ (field (.ref it) 0 >>= _) _ _ _;refine zwb (wpAny_field ho hd (x:=.ref l) rfl ?_);show wpAny _ _ (if (Value.ref l==Value.none)=true then _ else _) _ _ _
 rw[aJ (show ¬((Value.ref l==Value.none)=true) from zft)];show wpAny _ _ (field (.ref it) 1 >>= _) _ _ _;refine zwb (wpAny_field ho hd (x:=.int i 0) rfl ?_);show wpAny _ _ (seqItems? (.ref l) >>= _) _ _ _;refine zwb (wpAny_seqItems hol hdl ?_);simp only[Int.toNat_natCast,hx];refine zwb (wpAny_rule (zwb (wpAny_setField ho hd (by simp) ?_)))
 have sb:=Heap.SameBut.update hh it (Obj.mapFields fun x=>x.setIfInBounds 0 Value.none);have he1:=(sb.2 ea hne).trans he;have xb:=sb.extBut;dsimp only;generalize hh.update it (Obj.mapFields fun x=>x.setIfInBounds 0 Value.none)=h1 at he1 xb |-;unfold SmallTypes.stopIteration newExc;refine zwb (zwb (wpAny_newTuple ?_ xS));dsimp only;unfold firstArgMember;dsimp only;refine zwb (zwb (zwp (zwp ?_)));have fm:(if (Manifest.find? "StopIteration").elim false (fun t=>t.mro.contains "StopIteration"||t.mro.contains "SystemExit")=true then ([]:List Value).headD Value.none else Value.none)=Value.none:=by split <;> rfl
 rw[fm];show wpAny _ _ (newObj (Value.type "StopIteration") (Data.fields #[.ref h1.objs.size,.none,.none,.none,.bool false,.none])) _ _ _;refine wpAny_newObj_type ?_ (by show 6<=sizeLine+2;decide)
 dsimp only;have k1:∀b o,h1.get? b=some o->((h1.push (yE [])).push { cls:=.type "StopIteration",data:=.fields #[.ref h1.objs.size,.none,.none,.none,.bool false,.none] }).get? b=some o:=fun b o e=>zgp _ (zgp _ e);have k2:((h1.push (yE [])).push { cls:=.type "StopIteration",data:=.fields #[.ref h1.objs.size,.none,.none,.none,.bool false,.none] }).get? (h1.push (yE [])).objs.size=some { cls:=.type "StopIteration",data:=.fields #[.ref h1.objs.size,.none,.none,.none,.bool false,.none] }:=zgs _ rfl;have k3:(h1.push (yE [])).objs.size≠ea:=by
  have:=aI he1
  rw[Heap.size_push];exact ne_of_gt (lt_succ_of_lt this)
 have k4:∀b o,h1.get? b=some o->b≠(h1.push (yE [])).objs.size:=fun b o e=>by
  have:=aI e
  rw[Heap.size_push];exact ne_of_lt (lt_succ_of_lt this)
 generalize (h1.push (yE [])).objs.size=e1 at k2 k3 k4 |-;generalize (h1.push (yE [])).push { cls:=.type "StopIteration",data:=.fields #[.ref h1.objs.size,.none,.none,.none,.bool false,.none] }=h2 at k1 k2 |-;unfold raiseNew;refine zwb (wpAny_handled ?_);have hA':A.in1.handled=some (.ref ea):=hA;rw[hA'];dsimp only;rw[aK (show(Value.ref ea != Value.ref e1)=true by rw[bne_iff_ne];intro z;exact k3 (Value.ref.inj z).symm)]
 have he2:=k1 _ _ he1;refine zwb (wpAny_holding (wpAny_runValue (codeAny_builtin (b:=Builtin.«proto.unchain») rfl ?_)));unfold Builtin.«proto.unchain»;dsimp only;refine zwb (wpAny_field (x:=Value.none) he2 rfl rfl ?_);rw[aK (show(Value.none==Value.none)=true by decide)]
 refine zwp ?_;dsimp only;unfold updateField;refine zwb (zwb (wpAny_load k2 ?_));dsimp only;rw[aK (show 2<(#[Value.ref h1.objs.size,Value.none,Value.none,Value.none,Value.bool false,Value.none]:Array Value).size from Nat.le_of_ble_eq_true rfl)];refine wpAny_update k2 ?_;refine wpAny_throw ?_;have z1:∀b,b≠e1->(h2.update e1 (Obj.mapFields fun x=>x.setIfInBounds 2 (.ref ea))).get? b=h2.get? b:=fun b hb'=>Heap.get?_update_ne _ _ _ _ hb';have z2:(h2.update e1 (Obj.mapFields fun x=>x.setIfInBounds 2 (.ref ea))).get? e1=some { cls:=.type "StopIteration",data:=.fields #[.ref h1.objs.size,.none,.ref ea,.none,.bool false,.none] }:=Heap.get?_update_self _ k2 rfl;refine zwb (wpAny_isInstance (T:="StopIteration") (b:=true) ⟨_,z2,rfl⟩ (by with_unfolding_all rfl) ?_)
 rw[aK rfl];refine zwp (q _ fun b o hb e=>?_);have e:=xb b o hb e;rw[z1 b (k4 b o e)];exact k1 b o e
def zlB(K:Frag)(ea C:Addr)(od:Option Addr)(t a:Addr):It:=
 ⟨fun i H=>∃xs x,SqL K H a xs/\xs[i]?=some x,fun i H x H'=>H'=H/\∀xs,SqL K H a xs->xs[i]?=some x,fun i H=>(∃xs,SqL K H a xs/\xs.length<=i)/\H ea=some (jN ea C od t)⟩
theorem zcF{P:Program}{w:World}{K:Frag}{tg:Expr}{ea C t:Addr}{od:Option Addr}(a it:Addr):zia ea P w K tg (zlB K ea C od t a) [it] it (fun i h=>h.IsListIter it a i) where
 mem:=by simp
 obj:=fun i h st b hb=>by
  have e:b=it:=by simpa using hb
  subst e;obtain⟨o,e,c,d⟩:=st;exact⟨o,e,fun v z=>by rw[d] at z;cases z⟩
 keep:=fun i h h' st k=>st.at fun o e=>k it (by simp) o e
 item:=by
  intro X hP hw hK hc i pins s σ H E I hf st hg;subst hP hw hK;obtain⟨xs,x,hq,hx⟩:=hg;obtain⟨its,rv,p,hz⟩:=I.list hq;obtain⟨u,hu,ru⟩:=rv.get hx;obtain⟨f0,f1,f2,f3,f4,f5⟩:=hf it (by simp)
  refine wpAny_pyNext_list_item st p.isList (x:=u) (by simpa using hu) fun h' st' sb=>?_
  have I1:Inv X pins σ H { s with heap:=h' }:=I.turned (t':=s.toks) (fun b o hb e=>(sb.2 b hb).trans e) f0 f1 f3 f4 f5
  obtain⟨o,e,c,d⟩:=id st';exact⟨u,rfl,zeu (s:={ s with heap:=h' }) e c d ⋯ ⟨x,H,I1,ru,⟨rfl,fun ys hy=>by rw[I.list_inj hy hq];exact hx⟩,st',fun b hb=>(hf b hb).1⟩⟩
 done:=by
  intro X hP hw hK hc i pins s σ H E I hf st hg;subst hP hw hK;obtain⟨⟨xs,hq,hx⟩,hea⟩:=hg;obtain⟨its,rv,p,hz⟩:=I.list hq;obtain⟨tb,he⟩:=(I.hok ea _ hea).1;obtain⟨f0,f1,f2,f3,f4,f5⟩:=hf it (by simp)
  have hl:=rv.length;exact zaj hc he st p.isList (by simp;omega) fun h' eb=>⟨rfl,I.turned (t':=s.toks) (fun b o hb e=>eb b o hb e) f0 f1 f3 f4 f5⟩
 self:=fun _ _ _ _ _ st h=>wpAny_pyIter_listiter st h
inductive zllJ(K:Frag)(ea:Addr)(R:It->Hp->Prop)(x:V)(H1:Hp):Prop|mk(a C:Addr)(od:Option Addr)(t:Addr):x=.ref a->(∃xs,SqL K H1 a xs)->(R (zlB K ea C od t a) H1)->zllJ K ea R x H1
def zll(K:Frag)(ea:Addr)(tl:TE):TI:=fun σ H R=>tl σ H fun x H1=>zllJ K ea R x H1
theorem zgC{X:Cx}{tg:Expr}{ea:Addr}{l:Expr}{tl:TE}(hl:PE X l tl):PIH X ea tg l (zll X.K ea tl):=by
 exists ?_;intro pins s σ H R I h;refine thn (hl pins s σ H _ I h) fun v s1 ⟨x,H1,I1,r1,q1⟩=>?_;obtain⟨a,C,od,t,e,⟨xs,hq⟩,q⟩:=q1;subst e;cases r1;obtain⟨its,rv,p,hz⟩:=I1.list hq;refine wpAny_pyIter_list p.isList ?_;exists s1.heap.objs.size,[s1.heap.objs.size],_,_,H1,rfl,I1.kept (t':=s1.toks) fun b o e=>zgp _ e,zcF a _,⟨_,zgs _ rfl,rfl,rfl⟩,fun b hb=>?_,q;have e:b=s1.heap.objs.size:=by simpa using hb
 subst e;exact I1.fpOk (le_refl _) (I1.hok.fresh (le_refl _))
variable {g:TG}{tt:TT}{te:TE}
theorem zkW{X:Cx}{tg:Expr}{sc:Scope}{elt iter:Expr}{ifs:List Expr}{ow:List Nat}{pos:Pos}{ea:Addr}{wi:TI}(fr Nc:List Str)(caps:List (Option Nat))(hc:X.A.handled= ~~~ea)(B:y6 X.env sc fr)(hi:PIH X ea tg iter wi)(go:zaf g ow)(how:(ow.all fun i=>caps[i]?==some none)=true)
  (hcap:w9 X.N Nc caps X.env sc fr=true) (hlen:caps.length=Nc.length)
  (hb:∀(pins:PnL) (fp:List Addr) (s:Shared) (H:Hp) (C:Addr),PG (zQ X pins sc fr Nc fp s H C) tg g/\PIf (zQ X pins sc fr Nc fp s H C) ifs tt/\PE (zQ X pins sc fr Nc fp s H C) elt te)
  (hs:∀x,foldedSetIterable iter X.env x=pure x:=by intro _;rfl):PE X (.ListComp elt [⟨tg,iter,ifs,0⟩] sc pos) (tLC wi caps g tt te):=by
 and_intros;rw[eval_ListComp];refine wpAny_comprehension_free (use:=none) rfl hs B.clos B.kind B.loc (thn (hi pins s σ H _ I h) fun v s1 h1=>thn h1 fun itv s2 h2=>?_);obtain⟨it,fp,tn,J,H2,e,I2,T,st2,f2,q⟩:=h2;subst e;refine zfv (RR:=fun acc C=>compPost (model X.prog X.w) X.A X.xe none (EP X pins σ Q) acc C) hc B go how hcap hlen hb I2 T st2 f2 q ?_;intro D C σ' H' s' J' qq;obtain⟨m,hn,_⟩:=J'.loc;exact⟨m,hn,fun h' hs'=>⟨.ref D,H',jO I2 J' (uC I2 f2 J') hs',rfl,qq⟩⟩
theorem zhB{K:Frag}{ea C t a:Addr}{od:Option Addr}{xs:List V}{caps:List (Option Nat)}{g:TG}{tt:TT}{te:TE}{σ : St}{H1:Hp}{Q:VK}{D:Addr}(Pv:Nat->List V->Hp->Prop)(h0:Pv 0 [] (upd H1 D (.lst [])))
  (hl:∀i ys H,Pv i ys H->SqL K H a xs) (he:∀i ys H,Pv i ys H->H ea=some (jN ea C od t))
  (hs:∀i x ys H,i<xs.length->xs[i]?=some x->Pv i ys H->g x (xo caps σ) H fun σ2 H2=>tt σ2 H2 fun ok H3=>(ok=true->te σ2 H3 (lcN xs.length i D Pv ys))/\(ok=false->lcS xs.length i Pv ys H3))
  (hd:∀ys H,Pv xs.length ys H->Q (.ref D) H):LCr (zlB K ea C od t a) caps g tt te σ H1 Q D:=by
 exists fun i m ys H=>m=xs.length - i/\i<=xs.length/\Pv i ys H,⟨xs.length,by simp,zero_le _,h0⟩,?_
 rintro i m ys H ⟨rfl,hi,p⟩;have q:=hl i ys H p;by_cases hlt:i<xs.length
 ·refine .inr ⟨⟨xs,xs[i],q,by simp [hlt]⟩,fun x H' y=>?_⟩
  obtain⟨e,y⟩:=y;subst e;exact hs i x ys _ hlt (y xs q) p
 ·have e:i=xs.length:=by omega
  subst e;exact .inl ⟨⟨⟨xs,q,le_refl _⟩,he _ _ _ p⟩,hd ys H p⟩
end
end L2
namespace L2
open PySem PySem.Spec PyProof.Rows
def zdy(H:Hp)(ea D:Addr):Prop:=(∃od t,H ea=some (jN ea D od t))\/∃od t,H ea=some (uG ea D od t)
theorem zdy.same(h:zdy H ea D)(s:zq H H'):zdy H' ea D:=by
 rcases h with ⟨od,t,h⟩|⟨od,t,h⟩
 ·exact .inl ⟨od,t,s _ _ h⟩
 ·exact .inr ⟨od,t,s _ _ h⟩
section
theorem zfp(I:Inv X pins σ H s)(e:zdy H ea D):zaX ea (.ref D) s.heap:=by
 rcases e with ⟨od,t,e⟩|⟨od,t,e⟩
 ·obtain⟨tb,h⟩:=(I.hok ea _ e).1
  exact⟨_,_,h,rfl,rfl⟩
 ·exact⟨_,_,qe I e,rfl,rfl⟩
theorem xK:xQ X (.builtin "isinstance") (fun xs H Q=>∃ea D C b,xs=[.ref ea,.ref C]/\zdy H ea D/\xF X.K D/\kitOne X.K (.ref D) (.ref C)=some b/\Q (.bl b) H):=by
 intro pins s σ H xs us Q I r h;obtain⟨ea,D,C,b,rfl,he,c,e,q⟩:=h;obtain⟨u,w',rfl,ru,rw'⟩:=zfF r;cases rw';cases ru;exact kia_one (zhF c) I.kIn (zfp I he) e (fun z=>nomatch z) fun tk=>⟨.bl b,H,I.tok tk,rfl,q⟩
theorem zgG{X:Cx}{K:Frag}{e:Expr}{f:Str}{pos:Pos}{ta:TE}(hK:X.K=K)(he:PE X e ta)(hb:attributeBase e f X.env (eval e X.env)=eval e X.env):PE X (.Attribute e f pos) (zjQ K ta f):=hK ▸ ziN he hb
variable {i:Nat}{ts:TS}
theorem zkU{tsA:Addr->TS}(hN:X.N.Nodup)(hi:X.N[i]?=some n)(hk:X.env.scope.names.lookup n=some .local)(hg:Gl X c)(hm:X.mg c= ~~~C')(hs':∀ea,PSs (X.suite ea) (b₀::suite) (tsA ea))(hr:PH X hs th)
  (hd:(c==("__debug__" : Str))=false:=by decide):PH X (.ExceptHandler (some (.Name c np)) (some n) (b₀::suite) hpos::hs) (znn X.K C' i tsA th):=by
 exists fun pins σ H1 s1 H' ea C od t s5 D I1 F5 h=>?_;obtain⟨B,fl,tr,old,olds⟩:=F5.fly;have I5:Inv X pins σ H' s5:=I1.call' F5.os F5.un F5.hok F5.bare fun b z=>nomatch z;have LT:Looks (model X.prog X.w) s5.heap (typeOf (.ref ea)) (.ref C):=by
  obtain⟨tb,oT,ts',he,_⟩:=fl.2.2.2;exact(PySem.W.Looks.ld he).andThen .now
 refine wpAny_handleBy_cons (codeAny_handlers_test (vE (I5.suite ea) hg hm ?_ hd)) (by intro z;cases z)
 rcases h with ⟨hx,h⟩|⟨hx,h⟩
 ·refine(PySem.W.exm_one (M:=model X.prog X.w) (h:=s5.heap) I5.kIn LT hx) _ _ _ _ (fun _ _ z=>z) ?_
  refine codeAny_handlers_suite_as (zmr fl fun h6 fl6 up6=>?_);have F6:=F5.move fl tr old olds fl6 up6;have I6:=F6.track I1 fl6 old;refine vO (v:=.ref ea) I6 hN hi (.inl hk) rfl (fun s7 I7=>?_) (.inr hk);refine wpAny_mono ((hs' ea) pins s7 _ _ (zj6 D i) (I7.suite ea) h) (fun f s8 h8=>?_) fun _ _ z=>z.elim;show ↑X (do bindName X.env n .none;unbindBehindTheSuite X.env n hpos) (fun _ s9=>SP X pins D f s9) X.xe s8
  cases f with
  | next=>
   obtain⟨σ',H2,I8,q8⟩:=h8;exact uy (wY I1.ok I8) hN hi hk fun s9 I9=>⟨_,H2,I9,q8⟩
  | brk=>
   obtain⟨σ',H2,I8,q8⟩:=h8;exact uy (wY I1.ok I8) hN hi hk fun s9 I9=>⟨_,H2,I9,q8⟩
  | cont=>
   obtain⟨σ',H2,I8,q8⟩:=h8;exact uy (wY I1.ok I8) hN hi hk fun s9 I9=>⟨_,H2,I9,q8⟩
  | ret u=>
   obtain⟨v,σ',H2,I8,rv,q8⟩:=h8;exact uy (wY I1.ok I8) hN hi hk fun s9 I9=>⟨v,_,H2,I9,rv,q8⟩
 ·refine(PySem.W.exm_one (M:=model X.prog X.w) (h:=s5.heap) I5.kIn LT hx) _ _ _ _ (fun _ _ z=>z) ?_
  exact hr.run pins σ H1 s1 H' ea C od t s5 D I1 F5 h
variable {mg:Str->Option Value}
variable {k:Nat}{sp:Addr->Sp}{t:TA}
theorem zeQ{K:Frag}{H3:Hp}{o:HO}{l b:Addr}{zs:List V}(hl:∃zs,H3 l=some (.lst zs))(hz:SqT K H3 b zs):SqT K (upd H3 l o) b zs:=by
 obtain⟨ws,hl⟩:=hl;rcases hz with (z|⟨u,z⟩)|z
 ·refine .inl (.inl ?_)
  rw[zj (fun e=>by subst e;rw[hl] at z;cases z)]
  exact z
 ·refine .inl (.inr ⟨u,?_⟩)
  rw[zj (fun e=>by subst e;rw[hl] at z;cases z)]
  exact z
 ·exact .inr z
theorem xX{K:Frag}{ok ok':Addr->Prop}{H:Hp}{o:HO}{l:Addr}{zs:List V}(hl:H l=some (.lst zs))(hk:∀b,ok b->ok' b/\b≠l){n:Nat}{x:V}{d:Dt}(h:zJ K ok H n x d):zJ K ok' (upd H l o) n x d:=
 h.frame (fun a xs z=>zeQ ⟨_,hl⟩ z) fun a xs oa z=>⟨(hk a oa).1,by rw[zj (hk a oa).2];exact z⟩
theorem zhA{K:Frag}{a:Addr}{xs:List V}{m:Nat}{caps:List (Option Nat)}{g:TG}{tt:TT}{te:TE}{σ : St}{H1:Hp}{Q:VK}{D:Addr}(dt:Nat->Dt)(hD:H1 D=none)(ha:SqL K H1 a xs)(hn:xs.length<=1000)
  (hs:∀(i:Nat) (x:V) (H:Hp) (Qf:VK) (Qs:Hp->Prop),xs[i]?=some x->zq H1 H->(∀v H',zq H H'->zJ K (fun a=>H a=none) H' m v (dt i)->Qf v H')->
   g x (xo caps σ) H fun σ2 H2=>tt σ2 H2 fun ok H3=>(ok=true->te σ2 H3 Qf)/\(ok=false->Qs H3))
  (hd:∀vs H,zq H1 H->H D=some (.lst vs)->Paired (zJ K (fun a=>a≠D/\H1 a=none) H m) vs ((List.range xs.length).map dt)->Q (.ref D) H):LCr (Itl K a) caps g tt te σ H1 Q D:=by
 have sz : 1000<=sizeLine:=by decide
 refine xx (K:=K) (xs:=xs) (fun i ys H'=>zq H1 H'/\H' D=some (.lst ys)/\Paired (zJ K (fun a=>a≠D/\H1 a=none) H' m) ys ((List.range i).map dt)) ⟨fun b u e=>by rw[zj (zi e hD)];exact e,za,.nil⟩ (fun i ys H h=>h.1.seq ha) ?_ ?_
 ·rintro i x ys H hi hx ⟨sH,hDy,hp⟩
  refine hs i x H _ _ hx sH fun v H' s' hv=>?_;have ly:ys.length=i:=by rw[hp.length,aA,length_range]
  refine lcN.mk hi ∅ (s' _ _ hDy) ∅ ⟨fun b u e=>?_,za,?_⟩
  ·rw[zj (zi e hD)]
   exact s' _ _ (sH _ _ e)
  ·rw[range_succ,aE]
   refine Paired.snoc (zu (fun _ _ z=>xX (s' _ _ hDy) (fun b o=>⟨o,o.1⟩) (z.same s')) hp) (xX (s' _ _ hDy) (fun b o=>?_) hv);have nb:b≠D:=fun e=>by subst e;rw[o] at hDy;cases hDy
   exact⟨⟨nb,sH.free o⟩,nb⟩
 ·rintro ys H ⟨sH,hDy,hp⟩
  exact hd ys H sH hDy hp
end
end L2
namespace K64
open PySem L2 PyProof.Rows
inductive zkm(K:Frag)(nm:Str)(vs:List V)(H:Hp)(Q:VK)(E:XK):Prop|mk(x C t:Addr)(v:V):vs=[.ref x,v]->H x=some (uG x C none t)->zae K C->yJ K C nm->(∀dx,H dx=none->Q .non (upd (upd H x (uG x C (some dx) t)) dx (.xd [(nm,v)])))->zkm K nm vs H Q E
section
variable {P:Program}{w:World}{K:Frag}{mg:Str->Option Value}{base:Heap}{f:Addr}
theorem zkq:zv ["self","number"] ["self","number"] (zk zf8):=fsc
theorem uu(F:Fun K "__init__" "Misfit.__init__" zf8 f fd):↥1 f fd ["self","number"] (zkm K "number"):=by
 specialize zkq;obtain⟨x,C,t,v,rfl,hx,m,n,q⟩:=h;exists _,zg (ziF (pv 0) (pv 1) rfl),?_;exact⟨_,rfl,_,rfl,x,C,t,rfl,hx,m,n,q⟩
theorem zcN(s:zq H H2)(hx:H2 x=none)(hd:upd H2 x o d=none):zq H (drop (upd (upd (upd H2 x o) x o') d o'') x):=fun b u e=>by
 have nx:b≠x:=zi (s _ _ e) hx;have e2:upd H2 x o b=some u:=by rw[zj nx];exact s _ _ e
 rw[wV nx,zj (zi e2 hd),zj nx];exact e2
theorem zh1(hd:upd H2 x o d=none):drop (upd (upd (upd H2 x o) x o') d o'') x d=some o'':=by
 have:d≠x:=fun z=>by rw[z,za] at hd;cases hd
 rw[wV this,za]
structure jQ(P:Program)(w:World)(K:Frag)(mg:Str->Option Value)(base:Heap)(x:Str)(C g:Addr)(gd:FuncData)(a nm:Str):Prop where
 call:zeI K C g
 set:zae K C
 no:yJ K C nm
 ex:xF K C
 gl:mg x=some (.ref C)
 ok:↥1 g gd ["self",a] (zkm K nm)
 bd:zU K gd ["self",a] []
structure X6(P:Program)(w:World)(K:Frag)(mg:Str->Option Value)(base:Heap)(cl:Nat->Addr)(g:Addr)(gd:FuncData):Prop where
 x0:jQ P w K mg base "Doubled" (cl 0) g gd "number" "number"
 x1:jQ P w K mg base "Over" (cl 1) g gd "number" "number"
 x2:jQ P w K mg base "Barred" (cl 2) g gd "number" "number"
 x3:jQ P w K mg base "Again" (cl 3) g gd "number" "number"
 x4:jQ P w K mg base "Strange" (cl 4) g gd "number" "number"
 x5:jQ P w K mg base "Lacking" (cl 5) g gd "number" "number"
def wQ(z:Str):Nat:=if z="doubled" then 0 else if z="over" then 1 else if z="barred" then 2 else if z="again" then 3 else if z="strange" then 4 else 5
theorem zjj(z:Str):wQ z<6:=by
 unfold wQ
 repeat' split
 all_goals decide
inductive ql(cl:Nat->Addr)(vs:List V)(H:Hp)(Q:VK)(E:XK):Prop|mk(z:Str)(n:Nat):vs=[.str z,.int (n:Nat)]->(∀(d:Addr) (H':Hp),zq H H'->H' d=some (.xd [("number",.int (n:Nat))])->E (.ref (cl (wQ z))) (some d) H')->ql cl vs H Q E
theorem zf2:zv ["word","number"] ["word","number"] (zk zbe):=fsc
theorem ze6{cl:Nat->Addr}(F:Fun K "refuse" "refuse" zbe f fd)(X':X6 P w K mg base cl g gd):zD P w K mg base (CXs P w) 3 f fd ["word","number"] (ql cl):=by
 refine F.okS zf2 (fun vs H Q E h=>?_) (fun cdv A outer s H vs Q E hr h=>?_)
 ·obtain⟨z,n,rfl,_⟩:=h
  rfl
 obtain⟨z,n,rfl,q⟩:=h;refine⟨_,zm (zS (zw yK (pv 0) zy (zM _)) (zg (wJ wl rfl (vn X'.x0.call X'.x0.ok hr rfl X'.x0.gl X'.x0.bd zZ (ac (pv 1) zc)))) zI)
  (zm (zS (zw yK (pv 0) zy (zM _)) (zg (wJ wl rfl (vn X'.x1.call X'.x1.ok hr rfl X'.x1.gl X'.x1.bd zZ (ac (pv 1) zc)))) zI)
  (zm (zS (zw yK (pv 0) zy (zM _)) (zg (wJ wl rfl (vn X'.x2.call X'.x2.ok hr rfl X'.x2.gl X'.x2.bd zZ (ac (pv 1) zc)))) zI)
  (zm (zS (zw yK (pv 0) zy (zM _)) (zg (wJ wl rfl (vn X'.x3.call X'.x3.ok hr rfl X'.x3.gl X'.x3.bd zZ (ac (pv 1) zc)))) zI)
  (zm (zS (zw yK (pv 0) zy (zM _)) (zg (wJ wl rfl (vn X'.x4.call X'.x4.ok hr rfl X'.x4.gl X'.x4.bd zZ (ac (pv 1) zc)))) zI)
  (zg (wJ wl rfl (vn X'.x5.call X'.x5.ok hr rfl X'.x5.gl X'.x5.bd zZ (ac (pv 1) zc)))))))),?_⟩
 have go:∀{x:Str}{C:Addr}(X':jQ P w K mg base x C g gd "number" "number") (Dn:vH),(C=cl (wQ z))->zdK K H E (zfL C (zkm K "number") E0 (qj (ja 1) zeP)) Dn [some (.str z),some (.int (n:Nat))] H:=fun {x C} X' Dn hC=>by
  subst hC;exists _,rfl,by show 1<=sizeLine;decide,fun x tu hxn htn hne=>?_
  exists x,_,tu,_,rfl,za,X'.set,X'.no,fun d hd=>⟨rfl,x,_,some d,tu,rfl,?_,X'.ex,X'.call.ob,hxn,?_⟩
  ·have:x≠d:=fun z=>by rw[<- z,za] at hd;cases hd
   rw[zj this,za]
  ·exact q d _ (zcN (zq.refl _) hxn hd) (zh1 hd)
 exists _,rfl,rfl,_,rfl,?_;by_cases h0:z="doubled"
 ·refine dT (congrArg V.str h0) ?_
  refine go X'.x0 _ (congrArg cl (Eq.symm ?_));unfold wQ;exact aK h0
 refine dF (fun e=>h0 (V.str.inj e)) ?_;exists _,rfl,rfl,_,rfl,?_;by_cases h1:z="over"
 ·refine dT (congrArg V.str h1) ?_
  refine go X'.x1 _ (congrArg cl (Eq.symm ?_));unfold wQ;rw[aJ h0];exact aK h1
 refine dF (fun e=>h1 (V.str.inj e)) ?_;exists _,rfl,rfl,_,rfl,?_;by_cases h2:z="barred"
 ·refine dT (congrArg V.str h2) ?_
  refine go X'.x2 _ (congrArg cl (Eq.symm ?_));unfold wQ;rw[aJ h0];rw[aJ h1];exact aK h2
 refine dF (fun e=>h2 (V.str.inj e)) ?_;exists _,rfl,rfl,_,rfl,?_;by_cases h3:z="again"
 ·refine dT (congrArg V.str h3) ?_
  refine go X'.x3 _ (congrArg cl (Eq.symm ?_));unfold wQ;rw[aJ h0];rw[aJ h1];rw[aJ h2];exact aK h3
 refine dF (fun e=>h3 (V.str.inj e)) ?_;exists _,rfl,rfl,_,rfl,?_;by_cases h4:z="strange"
 ·refine dT (congrArg V.str h4) ?_
  refine go X'.x4 _ (congrArg cl (Eq.symm ?_));unfold wQ;rw[aJ h0];rw[aJ h1];rw[aJ h2];rw[aJ h3];exact aK h4
 refine dF (fun e=>h4 (V.str.inj e)) ?_;have h5:cl 5=cl (wQ z):=congrArg cl (by unfold wQ;rw[aJ h0,aJ h1,aJ h2,aJ h3,aJ h4])
 exact go X'.x5 { nx:=fun _ H'=>Q .non H',rt:=Q } h5
theorem yX.same(h:yX K H a ct)(s:zq H H'):yX K H' a ct:=by
 obtain⟨⟨xs,h1,h2⟩,l1,l2⟩:=h;exact⟨⟨xs,s.seq h1,zu (fun _ _ z=>z.same s) h2⟩,l1,l2⟩
def ptF(f l1 l2:Addr):List (Str×V):=z4 "pairs" (.ref l2) (z4 "things" (.ref l1) (z4 "kept_form" (.ref f) []))
theorem zd9:(ptF f l1 l2).lookup ("kept_form" : Str)=some (.ref f):=by
 unfold ptF;rw[zp,aJ (by decide +kernel),zp,aJ (by decide +kernel),zp,aK rfl]
theorem zaz:(ptF f l1 l2).lookup ("things" : Str)=some (.ref l1):=by
 unfold ptF;rw[zp,aJ (by decide +kernel),zp,aK rfl]
theorem zbY:(ptF f l1 l2).lookup ("pairs" : Str)=some (.ref l2):=by
 unfold ptF;rw[zp,aK rfl]
theorem zbZ{f l1 l2:Addr}{m:Str}(h1:¬m="kept_form")(h2:¬m="things")(h3:¬m="pairs"):(ptF f l1 l2).lookup m=none:=by
 unfold ptF;rw[zp,aJ h3,zp,aJ h2,zp,aJ h1];rfl
def vM(K:Frag)(CP:Addr)(N:Addr->Prop)(H:Hp)(p f:Addr)(ts:List Int)(ps:List (Str×Int)):Prop:=
 ∃dx l1 l2 ys,H p=some (.ins CP dx (ptF f l1 l2))/\H l1=some (.lst (ts.map V.int))/\H l2=some (.lst ys)/\Paired (zJ K T' H 1) ys (ps.map yT)/\N l1/\N l2
structure PtC(K:Frag)(CP:Addr):Prop where
 cl:Cls K CP
 n1:yJ K CP "kept_form"
 n2:yJ K CP "things"
 n3:yJ K CP "pairs"
def nlF(ms:List (Str×Nat)):Option (Str×Nat):=ms.find? fun m=>decide (m.1≠"lacking")
inductive jv(K:Frag)(c:C5)(CF:Addr)(cl:Nat->Addr)(vs:List V)(H:Hp)(Q:VK)(E:XK):Prop|mk(f a:Addr)(rows:List Rw)(bars:List Str)(ct:List ym):vs=[.ref f,.ref a]->xp c CF H f rows bars->yX K H a ct->(nlF (xa rows bars ct)=none->∀H',zq H H'->Q .non H')->((∀m,nlF (xa rows bars ct)=some m->∀(d:Addr) (H':Hp),zq H H'->H' d=some (.xd [("number",.int (m.2:Nat))])->E (.ref (cl (wQ m.1))) (some d) H'))->jv K c CF cl vs H Q E
inductive zbO(K:Frag)(c:C5)(CF CP:Addr)(cl:Nat->Addr)(vs:List V)(H:Hp)(Q:VK)(E:XK):Prop|mk(p f a dx:Addr)(rows:List Rw)(bars:List Str)(ct:List ym):vs=[.ref p,.ref f,.ref a]->H p=some (.ins CP dx [])->xp c CF H f rows bars->yX K H a ct->(nlF (xa rows bars ct)=none->∀H',SX p H H'->vM K CP (fun b=>H b=none) H' p f (zC ct) (zG ct)->Q .non H')->((∀m,nlF (xa rows bars ct)=some m->∀(d:Addr) (H':Hp),zq H H'->H' d=some (.xd [("number",.int (m.2:Nat))])->E (.ref (cl (wQ m.1))) (some d) H'))->zbO K c CF CP cl vs H Q E
theorem zik(hp:H p=some (.ins C dx fs))(h:SqT K H b zs):SqT K (upd H p o) b zs:=by
 rcases h with (z|⟨u,z⟩)|z
 ·exact .inl (.inl (by rw[zj (xq z hp (by intro e;cases e))];exact z))
 ·exact .inl (.inr ⟨u,by rw[zj (xq z hp (by intro e;cases e))];exact z⟩)
 ·exact .inr z
theorem zil(hp:H p=some (.ins C dx fs))(h:SqL K H b zs):SqL K (upd H p o) b zs:=by
 rcases h with (z|⟨u,z⟩)|z
 ·exact .inl (.inl (by rw[zj (xq z hp (by intro e;cases e))];exact z))
 ·exact .inl (.inr ⟨u,by rw[zj (xq z hp (by intro e;cases e))];exact z⟩)
 ·exact .inr z
theorem qu{n:Nat}(hp:H p=some (.ins C dx fs))(h:zJ K T' H n x d):zJ K T' (upd H p o) n x d:=
 h.frame (fun _ _ z=>zik hp z) fun b _ _ z=>⟨True.intro,by rw[zj (xq z hp (by intro e;cases e))];exact z⟩
theorem yX.setp(h:yX K H a ct)(hp:H p=some (.ins C dx fs)):yX K (upd H p o) a ct:=by
 obtain⟨⟨xs,h1,h2⟩,l1,l2⟩:=h;exact⟨⟨xs,zil hp h1,zu (fun _ _ z=>qu hp z) h2⟩,l1,l2⟩
variable {CF CP N:Addr}
theorem qr:zv ["form","call","word","number"] ["form","call"] (zk zbh):=fsc
theorem ze5{cl:Nat->Addr}(F:Fun K "refuse_first_things" "refuse_first_things" zbh f fd)(c1:⇑5 "misfits" g1 d1 ["form","call"] (zdT K c CF))(c2:jr P w K mg base 3 "refuse" g2 d2 ["word","number"] (ql cl)):zD P w K mg base (CXs P w) 6 f fd ["form","call"] (jv K c CF cl):=by
 refine F.okS qr (fun vs H Q E h=>?_) (fun cdv A outer s H vs Q E hr h=>?_)
 ·obtain⟨f,a,rows,bars,ct,rfl,_⟩:=h
  rfl
 obtain⟨f,a,rows,bars,ct,rfl,hF,hC,q1,q2⟩:=h;have hr3:yl 3 _:=hr.mono ⋯
 refine⟨_,zg (yS PassesOwn.leaving rfl (z7 (cF c1 hr (ac (pv 0) (ac (pv 1) zc)))) (yB rfl (zB (zr (i:=2) qr.nd rfl (Or.inl rfl)) (zB (zr (i:=3) qr.nd rfl (Or.inl rfl)) yi)))
   (zg (zS (zw zb5 (pv 2) zy (zM _)) (zg (zW (cS c2 (zgM fun _ _ _ z=>z) hr3 (ac (pv 2) (ac (pv 3) zc))))) zI))),?_⟩
 exists _,rfl,_,rfl,f,a,rows,bars,ct,rfl,hF,hC,fun l H1 s1 ⟨us,nl,el,ml⟩=>?_;exists l,rfl,⟨_,zh el⟩,xE (K:=K) (a:=l) (xs:=us.map V.ref) (fun i σ H'=>∃v2 v3,σ=[~~~f,~~~a,v2,v3]/\H'=H1/\∀m∈(xa rows bars ct).take i,m.1="lacking") ⟨_,_,rfl,rfl,fun m h=>by simp at h⟩ (fun i σ H' _ ⟨_,_,_,e,_⟩=>by rw[e];exact zh el) ?_ ?_
 ·rintro i x σ H' hx ⟨v2,v3,rfl,rfl,hall⟩
  obtain⟨u,hu,rfl⟩:=xR hx;obtain⟨mm,hm,tm⟩:=yG ml hu;exists u,_,rfl,zF tm,rfl,_,_,rfl,_,_,rfl,rfl,?_;exists _,rfl,rfl,_,rfl,?_;have hi:i<(xa rows bars ct).length:=(List.getElem?_eq_some_iff.mp hm).1;have em:(xa rows bars ct)[i]=mm:=(List.getElem?_eq_some_iff.mp hm).2;by_cases hw:mm.1="lacking"
  ·refine zms (by rw[hw]) ?_
   exists _,_,rfl,rfl,fun m' h'=>?_;rw[take_succ_eq_append_getElem hi,em] at h';rcases List.mem_append.mp h' with h'|h'
   ·exact hall m' h'
   ·rw[List.mem_singleton.mp h'];exact hw
  ·have hnl:nlF (xa rows bars ct)=some mm:=by
    unfold nlF;have e:xa rows bars ct=(xa rows bars ct).take i++mm::(xa rows bars ct).drop (i+1):=by
     conv=>lhs;rw[<- take_append_drop i (xa rows bars ct)]
     rw[drop_eq_getElem_cons hi,em]
    rw[e,find?_append,List.find?_eq_none.mpr (fun m' h'=>by rw[hall m' h'];decide +kernel)]
    rw[find?_cons,aC hw];rfl
   have hne:(!decide (V.str mm.1=V.str "lacking"))=true:=by
    rw[aD (fun e=>hw (V.str.inj e))];rfl
   refine jJ hne ?_;exact⟨_,rfl,_,rfl,mm.1,mm.2,rfl,fun d H3 s3 hd=>q2 mm hnl d H3 (s1.trans s3) hd⟩
 ·rintro σ H' ⟨v2,v3,rfl,rfl,hall⟩
  refine q1 ?_ _ s1;unfold nlF;rw[aA,ml.length,take_length] at hall;exact List.find?_eq_none.mpr (fun m' h'=>by rw[hall m' h'];decide +kernel)
theorem zf4:zv ["self","form","call","things","pairs"] ["self","form","call"] (zk zbj):=fsc
theorem zk3{cl:Nat->Addr}(F:Fun K "__init__" "Part.__init__" zbj f fd)(PC':PtC K CP)(c1:jr P w K mg base 6 "refuse_first_things" g1 d1 ["form","call"] (jv K c CF cl))(c2:⇑1 "laid" g2 d2 ["call"] (uN K)):zD P w K mg base (CXs P w) 7 f fd ["self","form","call"] (zbO K c CF CP cl):=by
 refine F.okS zf4 (fun vs H Q E h=>?_) (fun cdv A outer s H vs Q E hr h=>?_)
 ·obtain⟨p,f,a,dx,rows,bars,ct,rfl,_⟩:=h
  rfl
 obtain⟨p,f,a,dx,rows,bars,ct,rfl,hp,hF,hC,q,q2⟩:=h;have hr1:yl 1 _:=hr.mono ⋯
 refine⟨_,zm (zW (cS c1 (zgM fun _ _ _ z=>z) hr (ac (pv 1) (ac (pv 2) zc))))
  (zm (wz (pv 0) (pv 1) rfl)
  (zm (vW (cF c2 hr1 (ac (pv 2) zc)) (yB rfl (zB (zr (i:=3) zf4.nd rfl (Or.inl rfl)) (zB (zr (i:=4) zf4.nd rfl (Or.inl rfl)) yi))))
  (zm (wz (pv 0) (pv 3) rfl)
  (zg (wz (pv 0) (pv 4) rfl))))),?_⟩
 exists _,rfl,_,rfl,f,a,rows,bars,ct,rfl,hF,hC,fun hnl H1 s1=>?_,fun m hm d H1 s1 hd=>q2 m hm d H1 s1 hd;exists _,rfl,_,rfl,p,CP,dx,_,rfl,s1 _ _ hp,PC'.cl,PC'.n1,(by show 0+1<=1000;decide),?_
 have hp1:=s1 _ _ hp;have hC1:=(hC.same s1).setp (o:=.ins CP dx (z4 "kept_form" (.ref f) [])) hp1;have x2:SX p H (upd H1 p (.ins CP dx (z4 "kept_form" (.ref f) []))):=(SX.refl.same s1).upd;have p2:upd H1 p (.ins CP dx (z4 "kept_form" (.ref f) [])) p=some (.ins CP dx (z4 "kept_form" (.ref f) [])):=za;show vN _ _ _ _ (upd H1 p (.ins CP dx (z4 "kept_form" (.ref f) [])));generalize upd H1 p (.ins CP dx (z4 "kept_form" (.ref f) []))=H2 at hC1 x2 p2 |-;obtain⟨⟨xs,hx,hc⟩,lt,lp⟩:=hC1;exists _,rfl,a,ct,xs,rfl,hx,hc,lt,lp,fun t H3 s3 ⟨l1,l2,ys,n1,n2,n12,nt,et,e1,e2,gp⟩=>?_;exists t,_,rfl,zF et,rfl,_,_,rfl,_,_,rfl,rfl,?_;have p3:=s3 _ _ p2;exists _,rfl,_,rfl,p,CP,dx,_,rfl,p3,PC'.cl,PC'.n2,(by show 1+1<=1000;decide),?_
 have x4:SX p H (upd H3 p (.ins CP dx (z4 "things" (.ref l1) (z4 "kept_form" (.ref f) [])))):=(x2.same s3).upd;have p4:upd H3 p (.ins CP dx (z4 "things" (.ref l1) (z4 "kept_form" (.ref f) []))) p=some (.ins CP dx (z4 "things" (.ref l1) (z4 "kept_form" (.ref f) []))):=za;have e14:upd H3 p (.ins CP dx (z4 "things" (.ref l1) (z4 "kept_form" (.ref f) []))) l1=some (.lst ((zC ct).map V.int)):=by rw[zj (xq e1 p3 (by intro z;cases z))];exact e1
 have e24:upd H3 p (.ins CP dx (z4 "things" (.ref l1) (z4 "kept_form" (.ref f) []))) l2=some (.lst ys):=by rw[zj (xq e2 p3 (by intro z;cases z))];exact e2
 have g4:Paired (zJ K T' (upd H3 p (.ins CP dx (z4 "things" (.ref l1) (z4 "kept_form" (.ref f) [])))) 1) ys ((zG ct).map yT):=zu (fun _ _ z=>qu p3 z) gp;show vN _ _ _ _ (upd H3 p (.ins CP dx (z4 "things" (.ref l1) (z4 "kept_form" (.ref f) []))));generalize upd H3 p (.ins CP dx (z4 "things" (.ref l1) (z4 "kept_form" (.ref f) [])))=H4 at x4 p4 e14 e24 g4 |-;exists _,rfl,_,rfl,p,CP,dx,_,rfl,p4,PC'.cl,PC'.n3,(by show 2+1<=1000;decide),?_
 have bk:∀{b:Addr},H2 b=none->H b=none:=fun {b} h=>by
  cases e:H b with
  | none=>rfl
  | some u=>
   have ne:b≠p:=fun z=>by rw[z,p2] at h;cases h
   rw[x2 _ _ e ne] at h;cases h
 refine q hnl _ x4.upd ⟨dx,l1,l2,ys,za,?_,?_,zu (fun _ _ z=>qu p4 z) g4,bk n1,bk n2⟩
 ·rw[zj (xq e14 p4 (by intro z;cases z))];exact e14
 ·rw[zj (xq e24 p4 (by intro z;cases z))];exact e24
theorem zbM(hl:H3 l=none\/(∃zs,H3 l=some (.lst zs)))(hz:SqT K H3 b zs):SqT K (upd H3 l o) b zs:=by
 rcases hz with (z|⟨u,z⟩)|z
 ·refine .inl (.inl ?_)
  have:b≠l:=fun e=>by
   subst e;rcases hl with e|⟨_,e⟩
   ·rw[e] at z;cases z
   ·rw[e] at z;cases z
  rw[zj this];exact z
 ·refine .inl (.inr ⟨u,?_⟩)
  have:b≠l:=fun e=>by
   subst e;rcases hl with e|⟨_,e⟩
   ·rw[e] at z;cases z
   ·rw[e] at z;cases z
  rw[zj this];exact z
 ·exact .inr z
def plain(ts:List Int)(ps:List (Str×Int)):List ym:=ts.map .one++ps.map fun p=>.named p.1 p.2
theorem wU{ts:List Int}{i:Nat}{x:V}(h:(ts.map V.int)[i]?=some x):∃t,ts[i]?=some t/\x=.int t:=by
 rw[getElem?_map] at h;cases e:ts[i]? with
 | none=>rw[e] at h;cases h
 | some it=>rw[e] at h;exact⟨it,rfl,(Option.some.inj h).symm⟩
def zle(p:Str×Int):ym:=.named p.1 p.2
theorem ndT:([Str.ofString "thing"]:List Str).Nodup:=by decide +kernel
theorem ndN:([Str.ofString "name",Str.ofString "thing"]:List Str).Nodup:=by decide +kernel
theorem wP{K:Frag}{ok:Addr->Prop}{H3:Hp}{o:HO}{l:Addr}(hl:H3 l=none\/(∃zs,H3 l=some (.lst zs))):∀{xs:List V}{c:List ym},(∀it∈c,∃ds,yj it=.tup ds)->Paired (zJ K ok H3 1) xs (c.map yj)->Paired (zJ K ok (upd H3 l o) 1) xs (c.map yj)
 | _,[],_,r=>by cases r;exact .nil
 | _,it::c,hc,r=>by
  cases r with
  | cons h r=>
   refine .cons ?_ (wP hl (fun j hj=>hc j (mem_cons_of_mem _ hj)) r);obtain⟨ds,e⟩:=hc it (by simp)
   rw[e] at h |-;obtain⟨b,ws,rfl,hS',r'⟩:=wb h;exact .tup (zbM hl hS') (zu (fun _ _ z=>z) r')
theorem jo(it:ym):∃ds,yj it=.tup ds:=by cases it <;> exact⟨_,rfl⟩
theorem js{α : Type}{l:List α}{i:Nat}{x : α}(h:l[i]?=some x):l.take (i+1)=l.take i++[x]:=by
 rw[take_add_one,h];rfl
theorem v0(ts:List Int)(ps:List (Str×Int)):zC (plain ts ps)=ts:=by
 unfold zC plain;rw[aE,flatten_append,map_map,map_map];have h1:(ts.map (itT ∘ ym.one)).flatten=ts:=by
  induction ts with
  | nil=>rfl
  | cons t ts ih=>rw[map_cons,flatten_cons,ih];rfl
 have h2:(ps.map (itT ∘ fun p=>ym.named p.1 p.2)).flatten=[]:=by
  induction ps with
  | nil=>rfl
  | cons t ts ih=>rw[map_cons,flatten_cons,ih];rfl
 rw[h1,h2,append_nil]
theorem ua(ts:List Int)(ps:List (Str×Int)):zG (plain ts ps)=ps:=by
 unfold zG plain;rw[aE,flatten_append,map_map,map_map];have h1:(ts.map (itP ∘ ym.one)).flatten=[]:=by
  induction ts with
  | nil=>rfl
  | cons t ts ih=>rw[map_cons,flatten_cons,ih];rfl
 have h2:(ps.map (itP ∘ fun p=>ym.named p.1 p.2)).flatten=ps:=by
  induction ps with
  | nil=>rfl
  | cons t ts ih=>rw[map_cons,flatten_cons,ih];rfl
 rw[h1,h2,nil_append]
inductive zlT(K:Frag)(vs:List V)(H:Hp)(Q:VK)(E:XK):Prop|mk(a b:Addr)(ts:List Int)(ps:List (Str×Int))(ys:List V):vs=[.ref a,.ref b]->SqL K H a (ts.map V.int)->SqL K H b ys->Paired (zJ K T' H 1) ys (ps.map yT)->ts.length<=400->ps.length<=400->(∀(r:Addr) (xs:List V) (H':Hp),zq H H'->H r=none->H' r=some (.lst xs)->Paired (zJ K T' H' 1) xs ((plain ts ps).map yj)->Q (.ref r) H')->zlT K vs H Q E
inductive j7(K:Frag)(CP:Addr)(vs:List V)(H:Hp)(Q:VK)(E:XK):Prop|mk(p f a:Addr)(N:Addr->Prop)(ts:List Int)(ps:List (Str×Int))(ct:List ym):vs=[.ref p,.ref a]->vM K CP N H p f ts ps->yX K H a ct->ts.length+(zC ct).length<=400->ps.length+(zG ct).length<=400->(∀(l:Addr) (xs:List V) (H':Hp),zq H H'->H l=none->H' l=some (.lst xs)->Paired (zJ K T' H' 1) xs ((plain (ts++zC ct) (ps++zG ct)).map yj)->Q (.ref l) H')->j7 K CP vs H Q E
theorem yX.plain(e:H l=some (.lst xs))(h:Paired (zJ K T' H 1) xs ((plain ts ps).map yj))(lt:ts.length<=400)(lp:ps.length<=400):yX K H l (plain ts ps):=by
 exists ⟨xs,zh e,zu (fun _ _ z=>z.up.up) h⟩,?_,?_
 ·rw[v0];omega
 ·rw[ua];omega
theorem zmV:zv ["things","pairs"] ["things","pairs"] (zk sOf):=fsc
theorem zmc(F:Fun K "call_of" "call_of" sOf f fd):↥1 f fd ["things","pairs"] (zlT K):=by
 specialize zmV;obtain⟨a,b,ts,ps,ys,rfl,ha,hb,hp,lt,lp,q⟩:=h;refine⟨_,zg (zA (zo yr (wC [] ["thing"] [none] rfl ⟨rfl,rfl,rfl,rfl⟩ (z7 (pv 0)) (ya 0) rfl rfl rfl
   (fun pins fp s H C=>⟨zr (i:=0) ndT rfl (Or.inl rfl) (.inr rfl),yV,zT (ac zy (ac (pv 0) zc))⟩))
  (wC [] ["name","thing"] [none,none] rfl ⟨rfl,rfl,rfl,rfl⟩ (z7 (pv 1)) (xY (K:=K) (n:=2) 0 1) rfl rfl rfl
   (fun pins fp s H C=>⟨yB rfl (zB (zr (i:=0) ndN rfl (Or.inl rfl) (.inr rfl)) (zB (zr (i:=1) ndN rfl (Or.inl rfl) (.inr rfl)) yi)),yV,zT (ac zy (ac (pv 0) (ac (pv 1) zc)))⟩)))),?_⟩
 exists _,rfl,a,rfl,⟨_,ha⟩,fun D hD=>?_;refine xx (K:=K) (xs:=ts.map V.int) (fun i zs H'=>zq H H'/\H' D=some (.lst zs)/\Paired (zJ K T' H' 1) zs (((ts.take i).map ym.one).map yj)) ⟨ze hD _,za,.nil⟩ (fun i zs H' h=>h.1.seq ha) ?_ ?_
 ·rintro i x zs H' hi hx ⟨sH,hDz,hz⟩
  obtain⟨t,ht,rfl⟩:=wU hx;rw[aA] at hi |-;have lz:zs.length=i:=by rw[hz.length];simp;omega
  exists fun _=>⟨_,rfl,yA,fun p hpn=>?_⟩,fun z=>absurd z ⋯
  have nD:=zi hDz hpn;refine lcN.mk hi (yg ∅) (by rw[zj nD];exact hDz) ∅ ⟨yy (yy sH (sH.free hpn) _) hD _,za,?_⟩
  rw[js ht,aE,aE];refine zX (wP (.inr ⟨_,by rw[zj nD];exact hDz⟩) (fun it _=>jo it) (wP (.inl hpn) (fun it _=>jo it) hz)) (.cons (.tup (xs:=[.str "one",.int t]) (zF ?_) (.cons .str (.cons .int .nil))) .nil)
  rw[zj nD.symm,za]
 rintro zs H1 ⟨s1,hDz,hz⟩;rw[aA,take_length] at hz;have lzs:zs.length=ts.length:=by rw[hz.length];simp
 exists _,rfl,b,rfl,⟨_,s1.seq hb⟩,fun D2 hD2=>?_;refine xx (K:=K) (xs:=ys) (fun i ws H'=>zq H1 H'/\H' D2=some (.lst ws)/\Paired (zJ K T' H' 1) ws (((ps.take i).map zle).map yj)) ⟨ze hD2 _,za,.nil⟩ (fun i zs H' h=>(s1.trans h.1).seq hb) ?_ ?_
 ·rintro i x ws H' hi hx ⟨sH,hDw,hw⟩
  obtain⟨d,hd,hx1⟩:=Paired.get hp hx;obtain⟨pr,hpr,rfl⟩:=jl hd;obtain⟨bb,rfl,hbb⟩:=ut (n:=0) hx1;have hbb2:=(s1.trans sH).sqT hbb;have lws:ws.length=i:=by
   rw[hw.length]
   have:i<ps.length:=by rw[hp.length,aA] at hi;exact hi
   simp;omega
  exists bb,_,rfl,hbb2,rfl,_,_,rfl,_,_,rfl,rfl,⟨fun _=>⟨_,rfl,_,rfl,jx,fun p hpn=>?_⟩,fun z=>absurd z ⋯⟩
  have nD:=zi hDw hpn;have ly:ys.length=ps.length:=by rw[hp.length,aA]
  refine lcN.mk hi (yg ∅) (by rw[zj nD];exact hDw) ∅ ⟨yy (yy sH (sH.free hpn) _) hD2 _,za,?_⟩
  rw[js hpr,aE,aE];refine zX (wP (.inr ⟨_,by rw[zj nD];exact hDw⟩) (fun it _=>jo it) (wP (.inl hpn) (fun it _=>jo it) hw)) (.cons (.tup (xs:=[.str "named",.str pr.1,.int pr.2]) (zF ?_) (.cons .str (.cons .str (.cons .int .nil)))) .nil)
  rw[zj nD.symm,za]
 rintro ws H2 ⟨s2,hDw,hw⟩;have ly:ys.length=ps.length:=by rw[hp.length,aA]
 rw[ly,take_length] at hw;have lws:ws.length=ps.length:=by rw[hw.length];simp
 exists D,D2,_,_,rfl,rfl,s2 _ _ hDz,hDw,yg ∅,fun r hrn=>?_
 refine q r _ _ (s1.trans (s2.trans (ze hrn _))) (s1.free (s2.free hrn)) za ?_;unfold plain;rw[aE];exact zX (yv (s2.trans (ze hrn _)) hz) (yv (ze hrn _) hw)
theorem za6:zv ["self","call","things","pairs"] ["self","call"] (zk qv):=fsc
theorem zgY(F:Fun K "whole" "Part.whole" qv f fd)(PC':PtC K CP)(c1:⇑1 "laid" g1 d1 ["call"] (uN K))(c2:⇑1 "call_of" g2 d2 ["things","pairs"] (zlT K)):↥2 f fd ["self","call"] (j7 K CP):=by
 specialize za6;obtain⟨p,f,a,N,ts,ps,ct,rfl,⟨dx,k1,k2,yk,hp,e1,e2,gp,_,_⟩,⟨⟨xs,hx,hc⟩,lt,lp⟩,lT,lP,q⟩:=h;refine⟨_,zm (vW (cF c1 hr (ac (pv 1) zc)) (yB rfl (zB (zr (i:=2) za6.nd rfl (Or.inl rfl)) (zB (zr (i:=3) za6.nd rfl (Or.inl rfl)) yi))))
  (zg (zA (cF c2 hr (ac (zo yr (yI (pv 0) rfl) (pv 2)) (ac (zo yr (yI (pv 0) rfl) (pv 3)) zc))))),?_⟩
 exists _,rfl,a,ct,xs,rfl,hx,hc,lt,lp,fun t H1 s1 ⟨l1,l2,ys,n1,n2,n12,nt,et,g1',g2',gy⟩=>?_;exists t,_,rfl,zF et,rfl,_,_,rfl,_,_,rfl,rfl,?_;have big : 1000<=sizeLine:=by decide
 exists _,rfl,p,CP,dx,_,_,rfl,s1 _ _ hp,PC'.cl,PC'.n2,zaz,_,rfl,k1,l1,_,_,rfl,rfl,s1 _ _ e1,g1',(by simp only[aA];omega),fun p2 hp2=>?_
 rw[<- aE]
 injections p2 hp2 H2 u2 f2
 have s2:=s1.trans u2;have lyk:yk.length=ps.length:=by rw[gp.length,aA]
 have lys:ys.length=(zG ct).length:=by rw[gy.length,aA]
 exists _,rfl,p,CP,dx,_,_,rfl,s2 _ _ hp,PC'.cl,PC'.n3,zbY,_,rfl,k2,l2,_,_,rfl,rfl,s2 _ _ e2,u2 _ _ g2',∅,fun p3 hp3=>?_
 have u3:=ze hp3 (.lst (yk++ys));have f3:upd H2 p3 (.lst (yk++ys)) p3=some (.lst (yk++ys)):=za;have g3:Paired (zJ K T' (upd H2 p3 (.lst (yk++ys))) 1) (yk++ys) ((ps++zG ct).map yT):=by
  rw[aE];exact zX (zu (fun _ _ z=>z.same (s2.trans u3)) gp) (zu (fun _ _ z=>z.same (u2.trans u3)) gy)
 generalize upd H2 p3 (.lst (yk++ys))=H3 at u3 f3 g3 |-;exists p2,p3,ts++zC ct,ps++zG ct,yk++ys,rfl,zh (u3 _ _ f2),zh f3,g3,by rw[aG];exact lT,by rw[aG];exact lP,fun r xs' H4 s4 nr er pr'=>?_
 exact q r xs' H4 (s2.trans (u3.trans s4)) ((s2.trans u3).free nr) er pr'
end
end K64
namespace L2
open PySem PySem.Spec PyProof.Rows
theorem zjl{n:Nat}(h:n<=1000):n<=sizeLine:=le_of_lt (zY h)
theorem zaP{α : Type}{ys:List α}{i:Nat}{y : α}(keep : α->Bool)(hy:ys[i]?=some y):(ys.take (i+1)).filter keep=(ys.take i).filter keep++(if keep y=true then [y] else []):=by
 have hi:i<ys.length:=(List.getElem?_eq_some_iff.mp hy).1;have e:ys[i]=y:=(List.getElem?_eq_some_iff.mp hy).2;rw[take_succ_eq_append_getElem hi,filter_append,e,filter_cons];rfl
theorem zjA{α : Type}{ys:List α}{i:Nat}(keep : α->Bool):((ys.take i).filter keep).length<=i:=by
 have:=length_filter_le keep (ys.take i)
 rw[length_take] at this;omega
theorem zhz{α : Type}{K:Frag}{a:Addr}{xs:List V}{caps:List (Option Nat)}{g:TG}{tt:TT}{te:TE}{σ : L2.St}{H1:Hp}{Q:VK}{D:Addr}(ys:List α)(keep : α->Bool)(out : α->V)(hD:H1 D=none)(ha:SqL K H1 a xs)(hl:xs.length=ys.length)(hn:xs.length<=1000)
  (hs:∀(i:Nat) (x:V) (y : α) (H:Hp) (N:VK) (S:Hp->Prop),xs[i]?=some x->ys[i]?=some y->zq H1 H->(∀H',zq H H'->keep y=true->N (out y) H')->(∀H',zq H H'->keep y=false->S H')->g x (xo caps σ) H fun σ2 H2=>tt σ2 H2 fun ok H3=>(ok=true->te σ2 H3 N)/\(ok=false->S H3))
  (hd:∀H,zq H1 H->H D=some (.lst ((ys.filter keep).map out))->Q (.ref D) H):LCr (Itl K a) caps g tt te σ H1 Q D:=by
 refine xx (K:=K) (xs:=xs) (fun i zs H'=>zq H1 H'/\H' D=some (.lst zs)/\zs=((ys.take i).filter keep).map out) ⟨ze hD _,za,rfl⟩ (fun i zs H' h=>h.1.seq ha) ?_ ?_
 ·rintro i x zs H' hlt hx ⟨sH,hDy,ez⟩
  obtain⟨y,hy⟩:∃y,ys[i]?=some y:=⟨_,aB ∅⟩
  refine hs i x y H' _ _ hx hy sH (fun H2 s2 hk=>?_) (fun H2 s2 hk=>?_)
  ·refine lcN.mk hlt (zjl hn) (s2 _ _ hDy) (by rw[ez,aA];exact zjA _) ⟨fun b' u e=>?_,za,?_⟩
   ·rw[zj (zi e hD)]
    exact s2 _ _ (sH b' u e)
   ·rw[ez,zaP keep hy,aK hk,aE]
    rfl
  ·refine lcS.mk hlt ⟨sH.trans s2,s2 _ _ hDy,?_⟩
   rw[ez,zaP keep hy,aJ (by rw[hk];exact zft),append_nil]
 ·rintro zs H2 ⟨s2,hDy,ez⟩
  rw[take_of_length_le ∅] at ez
  rw[ez] at hDy;exact hd H2 s2 hDy
end L2
namespace L2
open PySem PySem.Spec PyProof.Rows PySem.Builtin
section
variable {E:VSP}{it l ea C t:Addr}{od:Option Addr}{i:Nat}{Q:Option Value->Shared->Prop}
theorem qK(hA:A.handled= ~~~ea)(he:s.heap.get? ea=some (jM C od t tb))(hit:IsTupIter s.heap it l i)(hl:IsTup s.heap l items)(hx:items[i]?=none)
  (q:∀h':Heap,Heap.ExtBut it s.heap h'->Q none { s with heap:=h' }):wpAny (model prog w) A (pyNext (.ref it)) Q E s:=by
 obtain⟨hh,gg,dd,tk,os⟩:=s;obtain⟨o,ho,hc,hd⟩:=id hit;obtain⟨ol,hol,_,nl,hdl⟩:=hl;have hne:ea≠it:=fun z=>by
  rw[z] at he;have ho':hh.get? it=some o:=ho;have he':hh.get? it=some (jM C od t tb):=he;rw[ho'] at he';cases Option.some.inj he';cases hc
 unfold pyNext;refine zwb (wpAny_attempt (wpAny_callSpecial?_slot (name:=Str.ofString "__next__") hit.typeIs slot_tupleiter_next
  (wpAny_call_entry slot_tupleiter_next hit.typeIs entry_tupleiter_next ?_ (args_tupleiter_next _))))
 show wpAny _ _ (field (.ref it) 0 >>= _) _ _ _;refine zwb (wpAny_field ho hd (x:=.ref l) rfl ?_);show wpAny _ _ (if (Value.ref l==Value.none)=true then _ else _) _ _ _
 rw[aJ (show ¬((Value.ref l==Value.none)=true) from zft)];show wpAny _ _ (field (.ref it) 1 >>= _) _ _ _;refine zwb (wpAny_field ho hd (x:=.int i 0) rfl ?_);show wpAny _ _ (seqItems? (.ref l) >>= _) _ _ _;refine zwb (wpAny_seqItems hol hdl ?_);simp only[Int.toNat_natCast,hx];refine zwb (wpAny_rule (zwb (wpAny_setField ho hd (by simp) ?_)))
 have sb:=Heap.SameBut.update hh it (Obj.mapFields fun x=>x.setIfInBounds 0 Value.none);have he1:=(sb.2 ea hne).trans he;have xb:=sb.extBut;dsimp only;generalize hh.update it (Obj.mapFields fun x=>x.setIfInBounds 0 Value.none)=h1 at he1 xb |-;unfold SmallTypes.stopIteration newExc;refine zwb (zwb (wpAny_newTuple ?_ xS));dsimp only;unfold firstArgMember;dsimp only;refine zwb (zwb (zwp (zwp ?_)));have fm:(if (Manifest.find? "StopIteration").elim false (fun t=>t.mro.contains "StopIteration"||t.mro.contains "SystemExit")=true then ([]:List Value).headD Value.none else Value.none)=Value.none:=by split <;> rfl
 rw[fm];show wpAny _ _ (newObj (Value.type "StopIteration") (Data.fields #[.ref h1.objs.size,.none,.none,.none,.bool false,.none])) _ _ _;refine wpAny_newObj_type ?_ (by show 6<=sizeLine+2;decide)
 dsimp only;have k1:∀b o,h1.get? b=some o->((h1.push (yE [])).push { cls:=.type "StopIteration",data:=.fields #[.ref h1.objs.size,.none,.none,.none,.bool false,.none] }).get? b=some o:=fun b o e=>zgp _ (zgp _ e);have k2:((h1.push (yE [])).push { cls:=.type "StopIteration",data:=.fields #[.ref h1.objs.size,.none,.none,.none,.bool false,.none] }).get? (h1.push (yE [])).objs.size=some { cls:=.type "StopIteration",data:=.fields #[.ref h1.objs.size,.none,.none,.none,.bool false,.none] }:=zgs _ rfl;have k3:(h1.push (yE [])).objs.size≠ea:=by
  have:=aI he1
  rw[Heap.size_push];exact ne_of_gt (lt_succ_of_lt this)
 have k4:∀b o,h1.get? b=some o->b≠(h1.push (yE [])).objs.size:=fun b o e=>by
  have:=aI e
  rw[Heap.size_push];exact ne_of_lt (lt_succ_of_lt this)
 generalize (h1.push (yE [])).objs.size=e1 at k2 k3 k4 |-;generalize (h1.push (yE [])).push { cls:=.type "StopIteration",data:=.fields #[.ref h1.objs.size,.none,.none,.none,.bool false,.none] }=h2 at k1 k2 |-;unfold raiseNew;refine zwb (wpAny_handled ?_);have hA':A.in1.handled=some (.ref ea):=hA;rw[hA'];dsimp only;rw[aK (show(Value.ref ea != Value.ref e1)=true by rw[bne_iff_ne];intro z;exact k3 (Value.ref.inj z).symm)]
 have he2:=k1 _ _ he1;refine zwb (wpAny_holding (wpAny_runValue (codeAny_builtin (b:=Builtin.«proto.unchain») rfl ?_)));unfold Builtin.«proto.unchain»;dsimp only;refine zwb (wpAny_field (x:=Value.none) he2 rfl rfl ?_);rw[aK (show(Value.none==Value.none)=true by decide)]
 refine zwp ?_;dsimp only;unfold updateField;refine zwb (zwb (wpAny_load k2 ?_));dsimp only;rw[aK (show 2<(#[Value.ref h1.objs.size,Value.none,Value.none,Value.none,Value.bool false,Value.none]:Array Value).size from Nat.le_of_ble_eq_true rfl)];refine wpAny_update k2 ?_;refine wpAny_throw ?_;have z1:∀b,b≠e1->(h2.update e1 (Obj.mapFields fun x=>x.setIfInBounds 2 (.ref ea))).get? b=h2.get? b:=fun b hb'=>Heap.get?_update_ne _ _ _ _ hb';have z2:(h2.update e1 (Obj.mapFields fun x=>x.setIfInBounds 2 (.ref ea))).get? e1=some { cls:=.type "StopIteration",data:=.fields #[.ref h1.objs.size,.none,.ref ea,.none,.bool false,.none] }:=Heap.get?_update_self _ k2 rfl;refine zwb (wpAny_isInstance (T:="StopIteration") (b:=true) ⟨_,z2,rfl⟩ (by with_unfolding_all rfl) ?_)
 rw[aK rfl];refine zwp (q _ fun b o hb e=>?_);have e:=xb b o hb e;rw[z1 b (k4 b o e)];exact k1 b o e
variable {tt:Addr}
theorem uI{x1}{Q:Unit->Shared->Prop}(hh:A.handled= ~~~ea)(he:s.heap.get? ea=some (jM C od tt tb))(ht:IsTup s.heap t items)
  (hn:(assignEach elts env).length=items.size) (hstar:(assignEach elts env).findIdx? (·.1)=none)
  (h:∀h',Heap.ExtBut s.heap.objs.size s.heap h'->wpAny (model prog w) A (assignInOrder ((assignEach elts env).map (·.2)) items.toList) Q E { s with heap:=h' }) :
  wpAny (model prog w) A (assign (.Tuple elts x1 pos) env (.ref t)) Q E s:=by
 rw[assign_Tuple];refine zwb (wpAny_standAt ?_);unfold unpack;rw[hn,hstar];refine zwb (wpAny_holding ?_);have hlt:t≠s.heap.objs.size:=by obtain⟨o,ho,_⟩:=ht;exact ne_of_lt (aI ho)
 have hle:ea≠s.heap.objs.size:=ne_of_lt (aI he);unfold unpackItems;refine zwb ?_
 ·unfold notIterableAtAll
  refine zwb (wpAny_specialOf ht.typeIs slot_tuple_iter.lookup ?_);refine zwp ?_;simp only[Bool.false_eq_true,if_false];refine zwb (wpAny_holding (iter_tuple ht ?_));refine zwb (wpAny_holding (draw_tuple hlt items.size 0 _ _ ⟨_,zgs _ rfl,rfl,rfl⟩ (ht.push _) ∅ fun h₁ hit₁ hs₁=>?_))
  have hall:List.take items.size (List.drop 0 items.toList)=items.toList:=by
   rw[List.drop_zero];exact take_of_length_le (by simp)
  rw[hall];rw[aJ (by simp)]
  have ht₁:IsTup h₁ t items:=(ht.push _).extBut hs₁.extBut hlt;have he₁:h₁.get? ea=some (jM C od tt tb):=hs₁.extBut ea _ hle (zgp _ he);refine zwb (wpAny_holding (qK (s:={ s with heap:=h₁ }) hh he₁ hit₁ ht₁ (by simp) fun h₂ he₂=>?_))
  simp only[Option.isSome_none,Bool.false_eq_true,if_false];refine zwp (h h₂ fun b o hb e=>he₂ b o hb (hs₁.extBut b o hb (zgp _ e)))
inductive zj5J(K:Frag)(n:Nat)(ea:Addr)(t:TGs)(v:V)(σ:St)(H:Hp)(Q:St->Hp->Prop):Prop|mk(a:Addr)(xs:List V)(C:Addr)(od:Option Addr)(tt:Addr):v=.ref a->SqT K H a xs->xs.length=n->H ea=some (jN ea C od tt)->(t xs σ H Q)->zj5J K n ea t v σ H Q
def zj5(K:Frag)(n:Nat)(ea:Addr)(t:TGs):TG:=fun v σ H Q=>zj5J K n ea t v σ H Q
theorem ziJ{X:Cx}{ea:Addr}{es:List Expr}{k:Nat}{pos:Pos}{t:TGs}{n:Nat}{K:Frag}(hK:X.K=K)(hc:X.A.handled= ~~~ea)(h:PGs X es t)
  (hn:(assignEach es X.env).length=n:=by rfl) (hst:(assignEach es X.env).findIdx? (·.1)=none:=by rfl):PG X (.Tuple es k pos) (zj5 K n ea t):=by
 subst hK;exists ?_;intro pins s σ H v u Q I r hw;obtain⟨a,xs,C,od,tt,e1,hq,hl,hea,hw⟩:=hw;subst e1;cases r;obtain⟨its,rv,ht,hz⟩:=I.tuple hq;obtain⟨tb,he⟩:=(I.hok ea _ hea).1;refine uI hc he ht (by simp [hn,<- hl,rv.length]) hst fun h' hx=>?_
 have I1:Inv X pins σ H { s with heap:=h' }:=I.kept (t':=s.toks) fun b o e=>hx b o (ne_of_lt (aI e)) e
 exact h pins _ σ H xs _ Q I1 (by simpa using rv) hw
theorem zdn{K:Frag}{n:Nat}{ea:Addr}(i j:Nat):zaf (zj5 K n ea (qU (zK i) (qU (zK j) zjv))) [i,j]:=by
 rintro v σ H Q ⟨a,xs,C,od,tt,e1,e2,e3,e3',v1,r1,e4,v2,r2,e5,e6,q⟩;exists a,xs,C,od,tt,e1,e2,e3,e3',v1,r1,e4,v2,r2,e5,e6,q,by rw[length_set,length_set],fun k hk=>?_
 have h1:i≠k:=fun e=>hk (by simp [e])
 have h2:j≠k:=fun e=>hk (by simp [e])
 rw[getElem?_set_ne h2,getElem?_set_ne h1]
end
end L2
namespace L2
open PySem PySem.Spec PyProof.Rows
section
theorem zam:xQ X (.builtin "len") (fun xs H Q=>∃(a:Addr) (S:Str->Bool) (n:Nat),xs=[.ref a]/\H a=some (wM X.prog X.w a S n)/\Q (.int n) H):=by
 intro pins s σ H xs us Q I r h;obtain⟨a,S,n,rfl,e,q⟩:=h;obtain⟨u,rfl,ru⟩:=vd r;cases ru;obtain⟨o,es,ep,t,ho,hx,hd,_,_,hb,hf,hn⟩:=(I.hok a _ e).1;have h63:(es.size:Int)<2 ^ 63:=by
  have:scanBound<2 ^ 63:=by unfold scanBound;decide
  omega
 refine call_len_set ho hx hd hf h63 ?_;exact⟨.int es.size,H,I.tok _,⟨_,rfl⟩,by rw[hn];exact q⟩
theorem zaY{α : Type}{R:Addr->α->Prop}{rows:List α}(h:Paired R us rows)(keep : α->Bool):∃vs:List Addr,((us.zip rows).filter fun p=>keep p.2).map (fun p=>V.ref p.1)=vs.map V.ref/\Paired R vs (rows.filter keep):=by
 induction h with
 | nil=>exact⟨[],rfl,.nil⟩
 | cons r t ih=>
  rename_i u y us ys;obtain⟨vs,e,p⟩:=ih;rw[List.zip_cons_cons,filter_cons,filter_cons];cases hk:keep y with
  | true=>
   exists u::vs,?_,?_
   ·rw[aK rfl,map_cons,e]
    rfl
   ·rw[aK rfl]
    exact .cons r p
  | false=>exact⟨vs,by rw[aJ zft,e],by rw[aJ zft];exact p⟩
theorem uZ{α : Type}{R:Addr->α->Prop}{rows:List α}(h:Paired R us rows)(keep : α->Bool)(out : α->V):((us.zip rows).filter fun p=>keep p.2).map (fun p=>out p.2)=(rows.filter keep).map out:=by
 induction h with
 | nil=>rfl
 | cons r t ih=>
  rename_i u y us ys;rw[List.zip_cons_cons,filter_cons,filter_cons];cases hk:keep y with
  | true=>rw[aK rfl,aK rfl,map_cons,map_cons,ih]
  | false=>rw[aJ zft,aJ zft,ih]
theorem vF{α : Type}{K:Frag}{a:Addr}{us:List Addr}{rows:List α}{caps:List (Option Nat)}{g:TG}{tt:TT}{te:TE}{σ : L2.St}{H1:Hp}{Q:VK}{D:Addr}(R:Hp->Addr->α->Prop)(keep : α->Bool)(out:Addr->α->V)(hD:H1 D=none)(ha:H1 a=some (.lst (us.map V.ref)))(hu:Paired (R H1) us rows)(hn:rows.length<=1000)
  (hs:∀(i:Nat) (u:Addr) (y : α) (H:Hp) (N:VK) (S:Hp->Prop),us[i]?=some u->rows[i]?=some y->R H1 u y->zq H1 H->(∀H',zq H H'->keep y=true->N (out u y) H')->(∀H',zq H H'->keep y=false->S H')->g (.ref u) (xo caps σ) H fun σ2 H2=>tt σ2 H2 fun ok H3=>(ok=true->te σ2 H3 N)/\(ok=false->S H3))
  (hd:∀H,zq H1 H->H D=some (.lst (((us.zip rows).filter fun p=>keep p.2).map fun p=>out p.1 p.2))->Q (.ref D) H):LCr (Itl K a) caps g tt te σ H1 Q D:=by
 have hl:us.length=rows.length:=hu.length;have lz:(us.zip rows).length=rows.length:=by rw[List.length_zip,hl,Nat.min_self]
 refine zhz (K:=K) (xs:=us.map V.ref) (us.zip rows) (fun p=>keep p.2) (fun p=>out p.1 p.2) hD (zh ha) (by rw[aA,lz,hl]) (by rw[aA,hl];exact hn) (fun i x y H N S hx hy sH n1 s1=>?_) hd
 have hi:i<rows.length:=by rw[<- lz];exact(List.getElem?_eq_some_iff.mp hy).1
 have e1:(us.zip rows)[i]?=some (us[i],rows[i]):=by
  rw[aB ∅,List.getElem_zip]
 rw[e1] at hy;cases hy;have hu1:us[i]?=some us[i]:=aB ∅
 rw[getElem?_map,hu1] at hx;cases hx;obtain⟨d,hd',hr⟩:=Paired.get hu hu1;have e2:rows[i]?=some rows[i]:=aB hi;rw[e2] at hd';cases hd';exact hs i us[i] rows[i] H N S hu1 e2 hr sH n1 s1
variable {ta:TE}{t:TA}{k:Nat}{sp:Sp}
theorem ziQ(he:PE X o ta)(c:Cls X.K C)(hm:yW X.K C m f)(F:zD X.prog X.w X.K X.mg X.base (CXs X.prog X.w) k f fd ps sp)(hr:yl k X.A)(hb:zU X.K fd ps [])(hp:zbE X pins σ E)(ha:PA X (e::es) t)
  (hst:starEach (e::es) X.env=(false,eval e X.env)::starEach es X.env:=by rfl) (hpl:(backTo pos (starEach es X.env)).any (·.1)=false:=by rfl)
  (ht:eval (.Call (.Attribute o m apos) (e::es) [] pos) X.env=(do
   let ov <- eval o X.env
   standAt apos.atName
   let (f,first) <- holding [ov] (getMethod ov m pl)
   callWith pos f first (backTo pos (starEach (e::es) X.env)) (backToKw pos (keywordEach [] X.env))):=by rfl) :
  PE1 X pins σ (.Call (.Attribute o m apos) (e::es) [] pos) (zfK C m sp [] E ta t):=by
 exists fun s H Q I h=>?_;refine methodCall_KW (pl:=pl) (thn (he pins s σ H _ I h) fun u s1 ⟨x,H1,I1,rx,a,dx,fs,ex,ea,l,q⟩=>?_) ht;subst ex;obtain rfl:u=Value.ref a:=rx;refine vG I1 ea c hm l ?_;refine callWith_K (first:=[.ref a]) (h₀:=X.base) I.ok.mod.kin hm.kp (thn (ha pos pins s1 σ H1 _ I1 q) fun us s2 ⟨vs,H2,I2,r,q2⟩=>⟨I2.kIn,?_⟩) hst hpl
 have r2:yb ((.ref a::vs)++[]) ((.ref a::us)++[]):=yb.append (.cons rfl r) .nil;have hl:((.ref a::us)++[]:List Value).length=ps.length:=by rw[<- r2.length];exact F.len _ _ _ _ q2
 refine wpAny_call (codeAny_mono (F.run X.A X.stack s2 H2 ⟨.ref a::us,[]⟩ ((.ref a::us)++[]) ((.ref a::vs)++[]) Q E hr I2.env0 (hb s2 (.ref a::us) I2.kIn hl) r2 q2) fun r s' hq=>?_);cases r with
 | error e=>exact hp H2 s2 e s' I2 hq
 | ok fl=>
  cases fl with
  | ret u=>exact I2.after hq
  | next=>exact False.elim hq
  | brk=>exact False.elim hq
  | cont=>exact False.elim hq
variable {x1:Nat}
variable {R:Result->Shared->Prop}{G:Array GenState->Array GenState->Prop}{n:Nat}{Pr:Nat->Value->Prop}{Sg:Nat->Shared->Prop}
theorem zde:xW (CXs P w) X (fun _ _ _=>False):=fun pins σ H1 s1 e s' I q=>by
 obtain⟨_,_,_,_,_,_,_,q⟩:=q;exact q.elim
theorem zjm{β : Type}{K:Frag}{a:Addr}{xs:List V}{bs:List β}{caps:List (Option Nat)}{g:TG}{tt:TT}{te:TE}{σ : L2.St}{H1:Hp}{Q:VK}{D:Addr}(R':Hp->Addr->β->Prop)
  (sR':∀{H H' v r},R' H v r->zq H H'->R' H' v r) (uR':∀{H v r D ys o},R' H v r->H D=some (.lst ys)->R' (upd H D o) v r)
  (ha:SqL K H1 a xs) (hl:xs.length=bs.length) (hn:bs.length<=500) (hD:H1 D=none)
  (hs:∀(i:Nat) x b H (Qf:VK) (Qs:Hp->Prop),xs[i]?=some x->bs[i]?=some b->zq H1 H->(∀v H',zq H H'->R' H' v b->Qf (.ref v) H')->
   g x (xo caps σ) H fun σ2 H2=>tt σ2 H2 fun ok H3=>(ok=true->te σ2 H3 Qf)/\(ok=false->Qs H3))
  (hd:∀vs H,zq H1 H->H D=some (.lst (vs.map V.ref))->Paired (R' H) vs bs->Q (.ref D) H):LCr (Itl K a) caps g tt te σ H1 Q D:=by
 refine xx (K:=K) (xs:=xs) (fun i ys H'=>∃vs,ys=vs.map V.ref/\zq H1 H'/\H' D=some (.lst ys)/\Paired (R' H') vs (bs.take i)) ⟨[],rfl,ze hD _,za,.nil⟩ (fun i ys H' ⟨_,_,h,_⟩=>h.seq ha) ?_ ?_
 ·rintro i x ys H' hlt hx ⟨vs,rfl,sH,hDy,fv⟩
  have hi:i<bs.length:=by omega
  have hb:bs[i]?=some bs[i]:=aB hi;have nl:(vs.map V.ref).length<=i:=by
   rw[aA,fv.length,length_take];omega
  refine hs i x _ H' _ _ hx hb sH (fun v H2 s2 r2=>?_);have s3:zq H1 (upd H2 D (.lst (vs.map V.ref++[.ref v]))):=fun b o z=>by
   rw[zj (zi z hD)];exact s2 _ _ (sH b o z)
  refine lcN.mk hlt (le_of_lt (zY ∅)) (s2 _ _ hDy) nl ⟨vs++[v],by rw[aE];rfl,s3,za,?_⟩
  rw[take_succ_eq_append_getElem hi];exact Paired.snoc (zu (fun w r' z=>uR' (sR' z s2) (s2 _ _ hDy)) fv) (uR' r2 (s2 _ _ hDy))
 ·rintro ys H ⟨vs,rfl,sH,hDy,fv⟩
  rw[hl,take_length] at fv;exact hd vs H sH hDy fv
end
end L2
namespace L2
open PySem PyProof.Rows
def zkc(X:Cx)(ss:List Stmt):TS:=fun D σ H=>∃t,PSs X ss t/\t D σ H
theorem wp:PSs X ss (zkc X ss):=⟨fun pins s σ H D I ⟨_,p,h⟩=>p pins s σ H D I h⟩
theorem zE{X:Cx}{st:Stmt}{wu:List Stmt}{t:TS}{D:L2.vH}{σ : L2.St}{H:Hp}(p:PS X st t)(h:vN t (zkc X wu) D σ H):zkc X (st::wu) D σ H:=⟨_,zm p wp,h⟩
end L2
namespace L2
open PySem PySem.Spec PyProof.Rows
section
variable {H:Hp}{ok:Addr->Prop}
inductive zm2J(x:V)(y:V)(H:Hp)(Q:VK):Prop|mk(a b:Addr)(xs:List V):x=.ref a->y=.ref b->H a=some (.lst xs)->H b=some (.lst [])->(Q (.bl (!decide (xs=[]))) H)->zm2J x y H Q
def zm2:R2:=fun x y H Q=>zm2J x y H Q
theorem zgP(hu:X.A.units<cLine):OpR X (compareOp .NotEq) zm2:=by
 intro pins s σ H x y v u Q I rx ry h;obtain⟨a,b,xs,rfl,rfl,ha,hb,q⟩:=h;cases rx;cases ry;obtain⟨ia,va,pa,_⟩:=I.list (zh ha);obtain⟨ib,vb,pb,_⟩:=I.list (zh hb);cases vb;by_cases e:xs=[]
 ·subst e
  cases va;rw[aC rfl] at q;have t2:=SeqAt.RcNeAt.lists (A:=X.A) (s:=s) (e:=fun _=>true) pa.isList pb.isList rfl hu (fun j h1 h2=>absurd h1 (by simp))
  rw[uh] at t2;exact t2 X.prog X.w X.xe _ ⟨.bl false,H,I,rfl,q⟩
 ·rw[aD e] at q
  have l1:=va.length
  have:ia.length≠0:=fun z=>e (List.eq_nil_of_length_eq_zero ∅)
  exact SeqAt.RcNeAt.lists_lengths pa.isList pb.isList (by simp;exact fun z=>this (by rw[z];rfl)) hu X.prog X.w X.xe _ ⟨.bl true,H,I,rfl,q⟩
end
section
variable {κ : Type}{E:VSP}[DecidableEq κ]
end
section
variable {td:TE}{ta:TA}
variable {E:VSP}
variable {R:Result->Shared->Prop}{G:Array GenState->Array GenState->Prop}{n:Nat}{Pr:Nat->Value->Prop}{Sg:Nat->Shared->Prop}
end
namespace FS
end FS
section
variable {E:VSP}
end
end L2
namespace L2
open PySem PySem.Spec PyProof.Rows
section
variable {E:VSP}
end
end L2
namespace K64
open PySem L2 PyProof.Rows
theorem zb4{l g:Nat}(hg:grp r.k=g)(hb:ug l g=false)(h:xw g rs=true):xw l (r::rs)=true:=by
 show(!ug l (grp r.k)&&xw (grp r.k) rs)=true;rw[hg,hb,h];rfl
theorem qF{g:Nat}(he:ug g g=false):∀(xs ys:List Rw) (l:Nat),ug l g=false->(∀r∈xs,grp r.k=g)->xw l ys=true->xw g ys=true->xw l (xs++ys)=true
 | [],_,_,_,_,h1,_=>h1
 | r::rs,ys,l,hb,hg,_,h2=>zb4 (hg r mem_cons_self) hb (qF he rs ys g he (fun x hx=>hg x (mem_cons_of_mem _ hx)) h2 h2)
theorem zej{g l:Nat}(hl:xs.length<=1)(hb:ug l g=false)(hg:∀r∈xs,grp r.k=g)(h1:xw l ys=true)(h2:xw g ys=true):xw l (xs++ys)=true:=by
 match xs,hl with
 | [],_=>exact h1
 | [r],_=>exact zb4 (hg r mem_cons_self) hb h2
theorem ziS(g0:∀r∈xs0,grp r.k=0)(g1:∀r∈xs1,grp r.k=1)(l1:xs1.length<=1)(g2:∀r∈xs2,grp r.k=2)(g3:∀r∈xs3,grp r.k=3)(l3:xs3.length<=1):xw 0 (xs0++(xs1++(xs2++xs3)))=true:=by
 have h3:∀l,l<=2->xw l xs3=true:=fun l hl=>by
  have:=zej (g:=3) (l:=l) (ys:=[]) l3 (by match l,hl with|0,_=>rfl|1,_=>rfl|2,_=>rfl) g3 rfl rfl
  rwa [append_nil] at this
 have h2:∀l,l<=1->xw l (xs2++xs3)=true:=fun l hl=>qF (g:=2) rfl xs2 xs3 l (by match l,hl with|0,_=>rfl|1,_=>rfl) g2 (h3 l ∅) (h3 2 ∅)
 have h1:xw 0 (xs1++(xs2++xs3))=true:=zej (g:=1) l1 rfl g1 (h2 0 ∅) (h2 1 ∅)
 exact qF (g:=0) rfl xs0 _ 0 rfl g0 h1 h1
theorem yZ(a b:List Rw):nms (a++b)=nms a++nms b:=by unfold nms;rw[filter_append,aE]
theorem qb(r:Rw):nms [r]=if yt r.k=true then [r.z] else []:=by
 unfold nms;cases h:yt r.k <;> simp [h]
structure zlw(mg:Str->Option Value):Prop where
 len:mg "len"=none
 range:mg "range"=none
 set:mg "set"=none
 en:mg "enumerate"=none
 list:mg "list"=none
 isi:mg "isinstance"=none
 bool:mg "bool"=none
 tuple:mg "tuple"=none
inductive za2(K:Frag)(vs:List V)(H:Hp)(Q:VK)(E:XK):Prop|mk(a:Addr)(ns:List Int)(k:Nat):vs=[.ref a,.int k]->SqL K H a (ns.map V.int)->ns.length<=63->(∀(n:Int) (H':Hp),zq H H'->Q (.int n) H')->za2 K vs H Q E
def zav(c k:Int):Int:=(c % 2147483647+97 * k+5) * 48271 % 2147483647 * ((c % 2147483647+97 * k+5) * 48271 % 2147483647) % 2147483629
inductive za0(vs:List V)(H:Hp)(Q:VK)(E:XK):Prop|mk(c k:Int):vs=[.int c,.int k]->(Q (.int (zav c k)) H)->za0 vs H Q E
def pnL(a b c q k:Nat):List Nat:=([97+a,97+b,97+c]).take (k % 4)++[97+(q+k) % 26]
def pn(a b c q k:Nat):Str:=⟨(pnL a b c q k).toArray⟩
def zb0(a b c q:Nat):List Str:=(List.range 8).map (pn a b c q)++[⟨(pnL a b c q 0++[97,97,97,97,97]).toArray⟩,⟨(pnL a b c q 1++[97,97,97,97,97]).toArray⟩]
def zea:List Str:=(List.range 26).map fun k=>(⟨#[97+k]⟩:Str)
theorem vD{l:List Nat}(h1 : 1<=l.length)(h2:l.length<=8)(h3:∀c∈l,97<=c/\c<=122):xM ⟨l.toArray⟩=true:=by
 unfold xM;have e:(⟨l.toArray⟩:Str).length=l.length:=by show l.toArray.size=_;simp
 rw[e,aC h1,aC h2,Bool.true_and,Bool.true_and];show l.toArray.toList.all low=true;rw[all_eq_true];intro c hc;have hc':c∈l:=by simpa using hc
 obtain⟨g1,g2⟩:=h3 c hc';unfold low;rw[aC g1,aC g2];rfl
theorem wq(a b c q k:Nat):(pnL a b c q k).length=k % 4+1:=by
 unfold pnL;rw[aG,length_take]
 have:k % 4<4:=mod_lt _ ⋯
 show min (k % 4) 3+1=_;omega
theorem zeb{a b c q k:Nat}(ha:a<26)(hb:b<26)(hc:c<26):∀x∈pnL a b c q k,97<=x/\x<=122:=by
 intro x hx;unfold pnL at hx;rcases List.mem_append.mp hx with hx|hx
 ·have:=mem_of_mem_take hx
  simp only[mem_cons,not_mem_nil,or_false] at this;omega
 ·rw[List.mem_singleton.mp hx]
  have:(q+k) % 26<26:=mod_lt _ ⋯
  omega
theorem j6{l m:List Nat}(h:(⟨l.toArray⟩:Str)=⟨m.toArray⟩):l=m:=by
 have:l.toArray=m.toArray:=congrArg Str.cps h
 simpa using this
theorem zda{a b c q:Nat}(ha:a<26)(hb:b<26)(hc:c<26):∀z∈zb0 a b c q,xM z=true:=by
 intro z hz;unfold zb0 at hz;rcases List.mem_append.mp hz with hz|hz
 ·obtain⟨k,_,rfl⟩:=List.mem_map.mp hz
  refine vD (by rw[wq];omega) (by rw[wq];have:k % 4<4:=mod_lt _ ⋯;omega) (zeb ha hb hc)
 ·have hx:∀k,∀x∈pnL a b c q k++[97,97,97,97,97],97<=x/\x<=122:=fun k x hx=>by
   rcases List.mem_append.mp hx with hx|hx
   ·exact zeb ha hb hc x hx
   ·simp only[mem_cons,not_mem_nil,or_false] at hx
    omega
  simp only[mem_cons,not_mem_nil,or_false] at hz;rcases hz with rfl|rfl
  ·exact vD (by rw[aG];simp) (by rw[aG,wq];decide) (hx 0)
  ·exact vD (by rw[aG];simp) (by rw[aG,wq];decide) (hx 1)
theorem zkS{a b c q j k:Nat}(hj:j<8)(hk:k<8)(e:pn a b c q j=pn a b c q k):j=k:=by
 have h:=congrArg List.getLast? (j6 e);unfold pnL at h;rw[List.getLast?_append,List.getLast?_append] at h;simp at h;omega
theorem zgy(a b c q:Nat):(zb0 a b c q).Nodup:=by
 unfold zb0;refine List.nodup_append.mpr ⟨?_,?_,?_⟩
 ·refine List.pairwise_map.mpr (List.Pairwise.imp_of_mem ?_ List.nodup_range)
  intro x y hx hy ne e;exact ne (zkS (List.mem_range.mp hx) (List.mem_range.mp hy) e)
 ·refine List.nodup_cons.mpr ⟨fun h=>?_,by simp⟩
  have:=congrArg List.length (j6 (List.mem_singleton.mp h))
  rw[aG,aG,wq,wq] at this;simp at this
 ·intro x hx y hy e
  obtain⟨k,_,rfl⟩:=List.mem_map.mp hx;have hk:k % 4<4:=mod_lt _ ⋯
  simp only[mem_cons,not_mem_nil,or_false] at hy;rcases hy with rfl|rfl
  ·have:=congrArg List.length (j6 e)
   rw[aG,wq,wq] at this;simp at this;omega
  ·have:=congrArg List.length (j6 e)
   rw[aG,wq,wq] at this;simp at this;omega
theorem zdb:∀z∈zea,xM z=true:=by decide +kernel
theorem zgz:zea.Nodup:=by
 unfold zea;refine List.pairwise_map.mpr (List.Pairwise.imp_of_mem ?_ List.nodup_range);intro x y hx hy ne e
 have:=congrArg Str.cps e
 simp at this;exact ne this
theorem zh9:∀m,m<26->(Str.ofString "abcdefghijklmnopqrstuvwxyz").cps.toList[m]?=some (97+m):=by decide +kernel
theorem uD{i:Int}(h0 : 0<=i)(h1:i<26):atI (Str.ofString "abcdefghijklmnopqrstuvwxyz").cps.toList i=some (97+i.toNat):=by
 obtain⟨m,rfl⟩:=eq_ofNat_of_zero_le h0;exact wW (zh9 m ∅)
theorem zko(x y z:Nat):∀n,n<4->Txt.slice ⟨#[x,y,z]⟩ none (some ((n:Nat):Int))=⟨([x,y,z].take n).toArray⟩
 | 0,_=>rfl
 | 1,_=>rfl
 | 2,_=>rfl
 | 3,_=>rfl
 | n+4,h=>absurd h ∅
section
variable {P:Program}{mg:Str->Option Value}
theorem zjZ:zv ["_law_script","_law_k","_law_cells"] ["_law_script","_law_k"] (zk zkH):=fsc
theorem zk6{w:World}{K:Frag}{base:Heap}{f:Addr}{fd:FuncData}(F:Fun K "_law_nth" "_law_nth" zkH f fd):↥1 f fd ["_law_script","_law_k"] (za2 K):=by
 specialize zjZ;obtain⟨a,ns,k,rfl,hS,l63,q⟩:=h;refine⟨_,zm (zx (i:=2) zjZ.nd rfl (Or.inl rfl) (zo yr (yp yC (pv 0) (yn (pv 1)) (yn (zo yF (pv 1) zf))) (zP (ac zf zc))))
  (zg (zA (zV yO (pv 2) zf (fun _ _=>rfl)))),?_⟩
 obtain⟨ms,em,lm,_⟩:=zh6 ns (some (k:Int)) (some ((k:Int)+1));exists _,rfl,_,rfl,_,rfl,_,rfl,_,_,rfl,rfl,_,rfl,a,_,rfl,hS,fun p hp=>?_;rw[em]
 injections p hp H1 u1 e1
 exists jy,fun l hl=>?_;have u2:=ze hl (.lst [.int 0]);have big : 1000<=sizeLine:=by decide
 exists p,l,_,_,rfl,rfl,u2 _ _ e1,za,(by rw[aA];show _+1<=_;omega),fun p3 hp3=>?_
 have u3:=ze hp3 (.lst (ms.map V.int++[.int 0]));have s3:=u1.trans (u2.trans u3);cases ms with
 | nil=>exact⟨_,rfl,p3,_,0,.int 0,rfl,rfl,zh za,rfl,q 0 _ s3⟩
 | cons x xs=>exact⟨_,rfl,p3,_,0,.int x,rfl,rfl,zh za,wW (j:=0) rfl,q x _ s3⟩
theorem zf0:zv ["_law_cell","_law_k","_law_first"] ["_law_cell","_law_k"] (zk zgc):=fsc
theorem ziW{w:World}{K:Frag}{base:Heap}{f:Addr}{fd:FuncData}(F:Fun K "_law_stirred" "_law_stirred" zgc f fd):↥1 f fd ["_law_cell","_law_k"] za0:=by
 specialize zf0;obtain⟨c,k,rfl,q⟩:=h;refine⟨_,zm (zx (i:=2) zf0.nd rfl (Or.inl rfl) (zo zR (zo y8 (zo yF (zo yF (zo zR (pv 0) zf) (zo y8 zf (pv 1))) zf) zf) zf))
  (zg (zA (zo zR (zo y8 (pv 2) (pv 2)) zf))),?_⟩
 exists _,rfl,_,_,rfl,rfl,zp2147483647,_,rfl,_,_,rfl,rfl,.inl ⟨⋯,⋯⟩,_,_,rfl,rfl,_,_,rfl,rfl,_,_,rfl,rfl,.inr ⟨⋯,⋯⟩,_,_,rfl,rfl,zp2147483647,?_
 have h1 : 0<=(c % 2147483647+97 * k+5) * 48271 % 2147483647:=emod_nonneg _ ⋯
 have h2:(c % 2147483647+97 * k+5) * 48271 % 2147483647<2147483647:=emod_lt_of_pos _ ⋯
 exact⟨_,rfl,_,rfl,_,_,rfl,rfl,.inl ⟨∅,∅⟩,_,_,rfl,rfl,(by show(0:Int)<2147483629;decide),q⟩
theorem zln{k:Nat}(hk:k<5)(h:yt k=true):grp k=0\/grp k=2:=by
 rcases lt5 hk with rfl|rfl|rfl|rfl|rfl <;> first|(exact .inl rfl)|(exact .inr rfl)|(cases h)
theorem uw{g:Nat}(hg:∀r∈xs,r.ok/\grp r.k=g)(h:g % 2=1):nms xs=[]:=by
 unfold nms;rw[List.filter_eq_nil_iff.mpr (fun r hr e=>?_)]
 ·rfl
 ·obtain⟨ho,q⟩:=hg r hr
  rcases zln ho.1 e with z|z <;> rw[z] at q <;> rw[<- q] at h <;> cases h
structure FS where
 (P T G B:List Rw) (L:List Str)
def FS.add(S:FS)(k:Nat)(z:Str)(b:Bool):FS:=match k with
 | 0=>{ S with P:=S.P++[⟨0,z,b⟩] }
 | 1=>{ S with P:=S.P++[⟨1,z,b⟩],L:=S.L++[z] }
 | 2=>{ S with T:=[⟨2,z,b⟩] }
 | 3=>{ S with G:=S.G++[⟨3,z,b⟩],L:=S.L++[z] }
 | _=>{ S with B:=[⟨4,z,b⟩] }
structure FM(i:Nat)(S:FS):Prop where
 okP:∀r∈S.P,r.ok/\grp r.k=0
 okT:∀r∈S.T,r.ok/\grp r.k=1
 okG:∀r∈S.G,r.ok/\grp r.k=2
 okB:∀r∈S.B,r.ok/\grp r.k=3
 lT:S.T.length<=1
 lB:S.B.length<=1
 nd:(nms S.P++nms S.G).Nodup
 sn:∀z∈nms S.P++nms S.G,z∈S.L
 ln:S.P.length+S.T.length+S.G.length+S.B.length<=i
 lL:S.L.length<=i
theorem jm{α : Type}{xs:List α}{y : α}{p : α->Prop}(h:∀x∈xs,p x)(hy:p y):∀x∈xs++[y],p x:=fun x hx=>by
 rcases List.mem_append.mp hx with hx|hx
 ·exact h x hx
 ·rw[List.mem_singleton.mp hx];exact hy
theorem FM.zero:FM 0 ⟨[],[],[],[],[]⟩:=by
 refine⟨?_,?_,?_,?_,?_,?_,?_,?_,?_,?_⟩ <;> first|exact(fun _ h=>nomatch h)|exact zero_le _|exact nodup_nil|exact le_refl _
theorem zhr(h:(a++b).Nodup)(hz:z∉a++b):(a++[z]++b).Nodup:=by
 have p:(a++[z]++b).Perm (z::(a++b)):=by
  rw[append_assoc];exact List.perm_middle
 exact p.nodup_iff.mpr (List.nodup_cons.mpr ⟨hz,h⟩)
theorem FM.add{i:Nat}{k:Nat}(h:FM i S)(hk:k<5)(hz:xM z=true)(hn:yt k=true->z∉S.L):FM (i+1) (S.add k z b):=by
 have ln:=h.ln;have lL:=h.lL;have lT:=h.lT;have lB:=h.lB
 match k,hk with
 | 0,_=>
  have e:nms (S.P++[⟨0,z,b⟩])=nms S.P:=by rw[yZ,qb];simp [yt]
  exact⟨jm h.okP ⟨⟨lt_of_sub_eq_succ rfl,hz⟩,rfl⟩,h.okT,h.okG,h.okB,h.lT,h.lB,by show(nms (S.P++_)++nms S.G).Nodup;rw[e];exact h.nd,by show ∀y∈nms (S.P++_)++nms S.G,y∈S.L;rw[e];exact h.sn,
   by show(S.P++[_]).length+S.T.length+S.G.length+S.B.length<=i+1;rw[aG,length_singleton];omega,le_succ_of_le h.lL⟩
 | 1,_=>
  have e:nms (S.P++[⟨1,z,b⟩])=nms S.P++[z]:=by rw[yZ,qb];simp [yt]
  have nz:z∉nms S.P++nms S.G:=fun m=>hn rfl (h.sn z m);refine⟨jm h.okP ⟨⟨lt_of_sub_eq_succ rfl,hz⟩,rfl⟩,h.okT,h.okG,h.okB,h.lT,h.lB,by show(nms (S.P++_)++nms S.G).Nodup;rw[e];exact zhr h.nd nz,?_,
   by show(S.P++[_]).length+S.T.length+S.G.length+S.B.length<=i+1;rw[aG,length_singleton];omega,by show(S.L++[_]).length<=i+1;rw[aG,length_singleton];omega⟩
  show ∀y∈nms (S.P++_)++nms S.G,y∈S.L++[z];rw[e];intro y hy;rw[mem_append,mem_append] at hy;rcases hy with (hy|hy)|hy
  ·exact mem_append_left _ (h.sn y (mem_append_left _ hy))
  ·exact mem_append_right _ hy
  ·exact mem_append_left _ (h.sn y (mem_append_right _ hy))
 | 2,_=>
  exists h.okP,fun r hr=>?_,h.okG,h.okB,le_refl _,h.lB,h.nd,h.sn,?_,le_succ_of_le h.lL
  ·rw[List.mem_singleton.mp hr];exact⟨⟨lt_of_sub_eq_succ rfl,hz⟩,rfl⟩
  ·show S.P.length+1+S.G.length+S.B.length<=i+1
   omega
 | 3,_=>
  have e:nms (S.G++[⟨3,z,b⟩])=nms S.G++[z]:=by rw[yZ,qb];simp [yt]
  have nz:z∉nms S.P++nms S.G:=fun m=>hn rfl (h.sn z m);refine⟨h.okP,h.okT,jm h.okG ⟨⟨lt_of_sub_eq_succ rfl,hz⟩,rfl⟩,h.okB,h.lT,h.lB,?_,?_,
   by show S.P.length+S.T.length+(S.G++[_]).length+S.B.length<=i+1;rw[aG,length_singleton];omega,by show(S.L++[_]).length<=i+1;rw[aG,length_singleton];omega⟩
  ·show(nms S.P++nms (S.G++_)).Nodup
   rw[e,<- append_assoc]
   have:=zhr (a:=nms S.P++nms S.G) (b:=[]) (z:=z) (by rw[append_nil];exact h.nd) (by rw[append_nil];exact nz)
   rwa [append_nil] at this
  ·show ∀y∈nms S.P++nms (S.G++_),y∈S.L++[z]
   rw[e];intro y hy;rw[mem_append,mem_append] at hy;rcases hy with hy|hy|hy
   ·exact mem_append_left _ (h.sn y (mem_append_left _ hy))
   ·exact mem_append_left _ (h.sn y (mem_append_right _ hy))
   ·exact mem_append_right _ hy
 | 4,_=>
  exists h.okP,h.okT,h.okG,fun r hr=>?_,h.lT,le_refl _,h.nd,h.sn,?_,le_succ_of_le h.lL
  ·rw[List.mem_singleton.mp hr];exact⟨⟨lt_of_sub_eq_succ rfl,hz⟩,rfl⟩
  ·show S.P.length+S.T.length+S.G.length+1<=i+1
   omega
def FS.rows(S:FS):List Rw:=S.P++S.T++S.G++S.B
theorem FM.valid{i:Nat}(h:FM i S)(hi:i<=24)(lb:bars.length<=60)(bn:∀z∈bars,xM z=true)(bd:bars.Nodup)(bl:∀z∈bars,z∉S.L):zcy S.rows bars:=by
 have en:nms S.rows=nms S.P++nms S.G:=by
  unfold FS.rows;rw[yZ,yZ,yZ,uw h.okT rfl,uw h.okB rfl,append_nil,append_nil]
 exists fun r hr=>?_,?_,lb,?_,bn,?_
 ·unfold FS.rows at hr
  rw[mem_append,mem_append,mem_append] at hr;rcases hr with ((hr|hr)|hr)|hr
  ·exact(h.okP r hr).1
  ·exact(h.okT r hr).1
  ·exact(h.okG r hr).1
  ·exact(h.okB r hr).1
 ·unfold FS.rows
  have:=h.ln
  simp only[aG];omega
 ·unfold FS.rows
  rw[append_assoc,append_assoc];exact ziS (fun r hr=>(h.okP r hr).2) (fun r hr=>(h.okT r hr).2) h.lT (fun r hr=>(h.okG r hr).2) (fun r hr=>(h.okB r hr).2) h.lB
 ·rw[en]
  exact List.nodup_append.mpr ⟨h.nd,bd,fun x hx y hy e=>bl y hy (e ▸ h.sn x hx)⟩
theorem TAt.keep(h:TAt H v r)(hD:∀vs,H D≠some (.tup vs)):TAt (L2.upd H D o) v r:=by
 show L2.upd H D o v=_;rw[L2.zj (fun e=>by subst e;exact hD _ h)]
 exact h
def zao(H:Hp)(l:Addr)(rows:List Rw):Prop:=∃us:List Addr,H l=some (.lst (us.map V.ref))/\Paired (TAt H) us rows
theorem zao.same(h:zao H l rows)(s:zq H H'):zao H' l rows:=let ⟨us,h1,h2⟩:=h;⟨us,s _ _ h1,zL s h2⟩
theorem zao.keep(h:zao H l rows)(ne:l≠D)(hD:∀vs,H D≠some (.tup vs)):zao (upd H D o) l rows:=
 let ⟨us,h1,h2⟩:=h
 ⟨us,by rw[zj ne];exact h1,zu (fun _ _ z=>z.keep hD) h2⟩
theorem zao.snoc(h1:H l=some (.lst (us.map V.ref)))(h2:Paired (TAt H) us rows)(hu:TAt H u r):zao (upd H l (.lst (us.map V.ref++[.ref u]))) l (rows++[r]):=by
 have hD:∀vs,H l≠some (.tup vs):=fun vs e=>by rw[h1] at e;cases e
 exists us++[u],by rw[za,aE];rfl,Paired.snoc (zu (fun _ _ z=>z.keep hD) h2) (hu.keep hD)
theorem xc{z:Str}:∀{zs:List Str},inV (.str z) (zs.map V.str)=decide (z∈zs)
 | []=>by simp [inV]
 | y::ys=>by
  have ih:=xc (z:=z) (zs:=ys);show(eqV (.str y) (.str z)||inV (.str z) (ys.map V.str))=_
  rw[ih]
  have:eqV (.str y) (.str z)=decide (z=y):=by
   show(y==z)=_;rw[Bool.eq_iff_iff,beq_iff_eq,decide_eq_true_eq];exact⟨Eq.symm,Eq.symm⟩
  rw[this];simp
theorem xf:∀{zs:List Str},(zs.map V.str).all wy=true
 | []=>rfl
 | _::ys=>by
  show(true&&(ys.map V.str).all wy)=true;rw[xf];rfl
theorem TAt.same(h:TAt H u r)(s:zq H H'):TAt H' u r:=s _ _ h
structure FI(H H':Hp)(lp lt ll:Addr)(S:FS):Prop where
 sm:zq H H'
 hp:zao H' lp S.P
 ht:zao H' lt S.G
 hl:H' ll=some (.lst (S.L.map V.str))
 n1:lp≠lt
 n2:lp≠ll
 n3:lt≠ll
 m1:H lp=none
 m2:H lt=none
 m3:H ll=none
variable {H H' H'':Hp}{r:Rw}{z:Str}
theorem FI.same(h:FI H H' lp lt ll S)(s:zq H' H''):FI H H'' lp lt ll S:=
 ⟨h.sm.trans s,h.hp.same s,h.ht.same s,s _ _ h.hl,h.n1,h.n2,h.n3,h.m1,h.m2,h.m3⟩
theorem FI.smU(h:FI H H' lp lt ll S)(hl:H l=none):zq H (upd H' l o):=fun b u e=>by rw[zj (zi e hl)];exact h.sm _ _ e
theorem FI.addL(h:FI H H' lp lt ll S):FI H (upd H' ll (.lst (S.L.map V.str++[.str z]))) lp lt ll { S with L:=S.L++[z] }:=by
 have hD:∀vs,H' ll≠some (.tup vs):=fun vs e=>by rw[h.hl] at e;cases e
 exact⟨h.smU h.m3,h.hp.keep h.n2 hD,h.ht.keep h.n3 hD,by rw[za,aE];rfl,h.n1,h.n2,h.n3,h.m1,h.m2,h.m3⟩
theorem FI.addP(h:FI H H' lp lt ll S)(h1:H' lp=some (.lst (us.map V.ref)))(h2:Paired (TAt H') us S.P)(hu:TAt H' u r):FI H (upd H' lp (.lst (us.map V.ref++[.ref u]))) lp lt ll { S with P:=S.P++[r] }:=by
 have hD:∀vs,H' lp≠some (.tup vs):=fun vs e=>by rw[h1] at e;cases e
 exact⟨h.smU h.m1,.snoc h1 h2 hu,h.ht.keep h.n1.symm hD,by rw[zj h.n2.symm];exact h.hl,h.n1,h.n2,h.n3,h.m1,h.m2,h.m3⟩
theorem FI.addG(h:FI H H' lp lt ll S)(h1:H' lt=some (.lst (us.map V.ref)))(h2:Paired (TAt H') us S.G)(hu:TAt H' u r):FI H (upd H' lt (.lst (us.map V.ref++[.ref u]))) lp lt ll { S with G:=S.G++[r] }:=by
 have hD:∀vs,H' lt≠some (.tup vs):=fun vs e=>by rw[h1] at e;cases e
 exact⟨h.smU h.m2,h.hp.keep h.n1 hD,.snoc h1 h2 hu,by rw[zj h.n3.symm];exact h.hl,h.n1,h.n2,h.n3,h.m1,h.m2,h.m3⟩
structure VR(rows:List Rw):Prop where
 ok:∀r∈rows,r.ok
 l24:rows.length<=24
 ord:xw 0 rows=true
 nd:(nms rows).Nodup
theorem FM.vr{i:Nat}(h:FM i S)(hi:i<=24):VR S.rows:=by
 have v:=h.valid (bars:=[]) hi (zero_le _) (fun _ h=>nomatch h) nodup_nil (fun _ h=>nomatch h);exact⟨v.ok,v.l24,v.ord,by have:=v.nd;rwa [append_nil] at this⟩
theorem wG(h:r.ok):atI (rv r) 0=some (.str (kw r.k)):=by
 obtain⟨k,z,b⟩:=r;rcases lt5 h.1 with e|e|e|e|e <;> (cases e;rfl)
theorem vw(h:r.ok):atI (rv r) 1=some (.str r.z):=by
 obtain⟨k,z,b⟩:=r;rcases lt5 h.1 with e|e|e|e|e <;> (cases e;rfl)
theorem zhK{k:Nat}(h:k<5):inV (.str (kw k)) [.str "both",.str "tag"]=yt k:=jU k h
theorem zhI{k:Nat}(h:k<5):inV (.str (kw k)) [.str "seat",.str "both"]=xV k:=zhJ k h
theorem zek{R:Addr->Rw->Prop}(h:Paired R us rows):((us.zip rows).filter fun p=>yt p.2.k).map (fun p=>V.str p.2.z)=(nms rows).map V.str:=by
 have:=uZ h (fun r=>yt r.k) (fun r=>V.str r.z)
 rw[this];unfold nms;rw[map_map];rfl
inductive zdY(vs:List V)(H:Hp)(Q:VK)(E:XK):Prop|mk(la pa:Addr)(n:Int)(us:List Addr)(rows:List Rw)(zs:List Str):vs=[.ref la,.ref pa,.int n]->H la=some (.lst (us.map V.ref))->Paired (TAt H) us rows->VR rows->H pa=some (.lst (zs.map V.str))->zs.Nodup->zs.length<=26->(∀(l:Addr) (bars:List Str) (H':Hp),zq H H'->H l=none->H' l=some (.lst (bars.map V.str))->bars.Nodup->(∀z∈bars,z∈zs)->(∀z∈bars,z∉nms rows)->bars.length<=26->Q (.ref l) H')->zdY vs H Q E
theorem qL:([Str.ofString "_law_one"]:List Str).Nodup:=by decide +kernel
theorem je:zv ["_law_row_here","_law_pool_here","_law_number","_law_known","_law_found","_law_name"] ["_law_row_here","_law_pool_here","_law_number"] (zk zgu):=fsc
theorem zhf{w:World}{K:Frag}{base:Heap}{f:Addr}{fd:FuncData}(F:Fun K "_law_bars" "_law_bars" zgu f fd):↥1 f fd ["_law_row_here","_law_pool_here","_law_number"] zdY:=by
 specialize je;obtain⟨la,pa,n,us,rows,zs,rfl,hla,hu,V1,hpa,zn,l26,q⟩:=h;refine⟨_,zm (wO (i:=3) [] ["_law_one"] [none] je.nd rfl (Or.inl rfl) rfl ⟨rfl,rfl,rfl,rfl⟩ (z7 (pv 0)) (ya 0) rfl rfl rfl
   (fun pins fp s H C=>⟨zr (i:=0) qL rfl (Or.inl rfl) (.inr rfl),xl (zw (r:=rIn K false) yY (zV (r:=wv K) yd (pv 0) zf (fun _ _=>rfl)) (zP (ac zy (ac zy zc))) (by with_unfolding_all rfl)),zV (r:=wv K) yd (pv 0) zf (fun _ _=>rfl)⟩))
  (zm (zx (i:=4) je.nd rfl (Or.inl rfl) (zP zc))
  (zm (yS PassesOwn.never rfl (z7 (pv 1)) (zr (i:=5) je.nd rfl (Or.inl rfl))
   (zm (zS (xy (xr (zw yL (pv 5) (pv 3) (by with_unfolding_all rfl)) (y9 (zw yK (zo zR (pv 2) zf) zf (zM _))))) (zg (zW (xh PySem.F.plainAttrs_list PySem.F.slot_list_append PySem.F.type_list_append z9 (pv 4) (ac (pv 5) zc)))) zI)
   (zg (zx (i:=2) je.nd rfl (Or.inl rfl) (zo z8 (pv 2) zf)))))
  (zg (zA (pv 4))))),?_⟩
 have l24:=V1.l24;exists _,rfl,la,rfl,⟨_,zh hla⟩,fun D hD=>?_;refine vF (K:=K) TAt (fun r=>yt r.k) (fun _ r=>.str r.z) hD hla hu ∅ (fun i u r H' N S hu' hr' tr sH n1 s1=>?_) (fun H1 s1 hD1=>?_)
 ·have rk:=V1.ok r (aH hr')
  have tu:=sH _ _ tr;exists _,rfl,u,_,0,_,rfl,rfl,zF tu,wG rk,yA,fun l hl=>?_;have s2:=ze hl (.lst [.str "both",.str "tag"]);exists l,_,rfl,.inl (zh za),rfl,rfl,_,rfl,?_;rw[aJ zft,zhK rk.1];exact⟨fun e=>⟨_,rfl,u,_,1,_,rfl,rfl,zF (s2 _ _ tu),vw rk,n1 _ s2 e⟩,fun e=>s1 _ s2 e⟩
 rw[zek hu] at hD1;exists xS,fun fo hfo=>?_;exfalso
 injections fo hfo H2 s2 g2
 have s12:=s1.trans s2;have nD:=s2 _ _ hD1;have nfo:H fo=none:=s1.free hfo;have neD:D≠fo:=zi hD1 hfo;refine⟨_,rfl,pa,rfl,⟨_,zh (s12 _ _ hpa)⟩,xE (K:=K) (a:=pa) (xs:=zs.map V.str) (fun i σ H'=>∃(m:Int) (bars:List Str) (v5:Option V),σ=[~~~la,~~~pa,some (.int m),~~~D,~~~fo,v5]/\zq H H'/\H' D=some (.lst ((nms rows).map V.str))/\H' fo=some (.lst (bars.map V.str))/\bars.Nodup/\(∀z∈bars,z∈zs.take i)/\(∀z∈bars,z∉nms rows)/\bars.length<=i)
  ⟨n,[],_,rfl,s12,nD,g2,nodup_nil,(fun _ h=>nomatch h),(fun _ h=>nomatch h),le_refl _⟩ (fun i σ H' _ ⟨_,_,_,_,sH,_⟩=>zh (sH _ _ hpa)) ?_ ?_⟩
 ·rintro i x σ H' hx ⟨m,bars,v5,rfl,sH,hD',hfo',bn,bz,bk,bl⟩
  obtain⟨z,hz,rfl⟩:=strs_at hx;have hi:i<zs.length:=(List.getElem?_eq_some_iff.mp hz).1;have ez:zs[i]=z:=(List.getElem?_eq_some_iff.mp hz).2;have tk:zs.take (i+1)=zs.take i++[z]:=by rw[take_succ_eq_append_getElem hi,ez]
  have zt:z∉zs.take i:=by
   have:=zn.sublist (take_sublist (i+1) zs)
   rw[tk] at this;exact fun h=>(List.nodup_append.mp this).2.2 z h z (List.mem_singleton.mpr rfl) rfl
  have skip:∃(m':Int) (bars:List Str) (v5:Option V),([~~~la,~~~pa,some (.int (m / 3)),~~~D,~~~fo,some (.str z)]:L2.St)=[~~~la,~~~pa,some (.int m'),~~~D,~~~fo,v5]/\zq H H'/\H' D=some (.lst ((nms rows).map V.str))/\H' fo=some (.lst (bars.map V.str))/\bars.Nodup/\(∀z∈bars,z∈zs.take (i+1))/\(∀z∈bars,z∉nms rows)/\bars.length<=i+1:=
   ⟨_,bars,_,rfl,sH,hD',hfo',bn,fun y hy=>by rw[tk];exact mem_append_left _ (bz y hy),bk,le_succ_of_le bl⟩
  exists _,rfl,_,rfl,D,_,rfl,.inl (zh hD'),rfl,xf,_,rfl,?_;by_cases hk:z∈nms rows
  ·refine jI (by rw[aK rfl,xc,aC hk];rfl) ?_
   refine x8 ?_;exact⟨_,rfl,_,_,rfl,rfl,⟨⋯,⋯⟩,skip⟩
  refine jJ (by rw[aK rfl,xc,aD hk];rfl) ?_
  exists _,rfl,_,_,rfl,rfl,(by show(0:Int)<3;decide),rfl,_,rfl,?_
  refine wf (fun _=>?_) (fun _=>?_)
  ·exists _,rfl,.inl ⟨rfl,_,zh hfo'⟩,_,rfl,fo,_,_,rfl,rfl,hfo',zY (by rw[aA];omega),?_
   exists _,rfl,_,_,rfl,rfl,⟨⋯,⋯⟩,?_
   refine⟨_,bars++[z],_,rfl,fun b u e=>by rw[zj (zi e nfo)];exact sH _ _ e,by rw[zj neD];exact hD',by rw[za,aE];rfl,?_,?_,?_,by rw[aG];exact succ_le_succ bl⟩
   ·exact List.nodup_append.mpr ⟨bn,by simp,fun x hx y hy e=>zt (by rw[<- List.mem_singleton.mp hy,<- e];exact bz x hx)⟩
   ·rw[tk]
    intro y hy;rcases List.mem_append.mp hy with hy|hy
    ·exact mem_append_left _ (bz y hy)
    ·exact mem_append_right _ hy
   ·intro y hy
    rcases List.mem_append.mp hy with hy|hy
    ·exact bk y hy
    ·rw[List.mem_singleton.mp hy];exact hk
  ·exact⟨_,rfl,_,_,rfl,rfl,⟨⋯,⋯⟩,skip⟩
 ·rintro σ H' ⟨m,bars,v5,rfl,sH,hD',hfo',bn,bz,bk,bl⟩
  rw[aA] at bl;exact⟨_,rfl,q fo bars H' sH nfo hfo' bn (fun z hz=>mem_of_mem_take (bz z hz)) bk ∅⟩
end
end K64
namespace L2
open PySem PySem.Spec PyProof.Rows
theorem zgS:OpR X (binaryOp .FloorDiv) (rI (fun _ j=>0<j/\j<=10 ^ 70) fun i j=>.int (i / j)):=opI fun i j _ _ _ _ _ hc q=>by
 have h1:(0:Int)<j:=hc.1;have h2:j<=10 ^ 70:=hc.2;refine floordiv_int ∅ (by rw[Int.fdiv_eq_ediv_of_nonneg i ∅];exact q) (.inl (PyProof.noPylong_of_log2 ?_))
 rw[Nat.log2_lt ∅]
 have e:j.natAbs<=10 ^ 70:=by omega
 have:(10 ^ 70:Nat)<2 ^ 9000:=by decide +kernel
 omega
end L2
namespace K64
open PySem L2 PyProof.Rows
inductive qk(vs:List V)(H:Hp)(Q:VK)(E:XK):Prop|mk(c k:Int):vs=[.int c,.int k]->(∀n:Int,Q (.int n) H)->qk vs H Q E
inductive vS(vs:List V)(H:Hp)(Q:VK)(E:XK):Prop|mk(c:Int)(m:Nat)(b:Int):vs=[.int c,.int (m:Nat),.int b]->m<=30->0<b->b<=10 ^ 70->(∀(l:Addr) (ns:List Int) (H':Hp),zq H H'->H l=none->H' l=some (.lst (ns.map V.int))->ns.length<=m->Q (.ref l) H')->vS vs H Q E
def zfc(r:Int):Nat:=97+(r % 26).toNat
theorem zen(r:Int): 97<=zfc r/\zfc r<=122:=by
 have:=emod_nonneg r (show(26:Int)≠0 by decide)
 have:=emod_lt_of_pos r (show(0:Int)<26 by decide)
 unfold zfc;omega
def zgw:Nat->Int->Int
 | 0,r=>r
 | k+1,r=>zgw k r / 26
def zaq(c:Nat):Nat->Int->List Nat
 | 0,_=>[c]
 | k+1,r=>zaq c k r++[zfc (zgw k r)]
theorem uj{c:Nat}{r:Int}:∀k,(zaq c k r).length=k+1
 | 0=>rfl
 | k+1=>by
  show(zaq c k r++[_]).length=_;rw[aG,uj k];rfl
theorem zbG{c:Nat}{r:Int}(h : 97<=c/\c<=122):∀k,∀x∈zaq c k r,97<=x/\x<=122
 | 0,x,hx=>by rw[List.mem_singleton.mp hx];exact h
 | k+1,x,hx=>by
  rcases List.mem_append.mp hx with hx|hx
  ·exact zbG h k x hx
  ·rw[List.mem_singleton.mp hx];exact zen _
def zdE(n:Int):Str:=⟨(zaq (zfc (n / 8)) (n % 8).toNat (n / 208)).toArray⟩
theorem zcC(n:Int):xM (zdE n)=true:=by
 have:=emod_nonneg n (show(8:Int)≠0 by decide)
 have:=emod_lt_of_pos n (show(0:Int)<8 by decide)
 exact vD (by rw[uj];omega) (by rw[uj];omega) (zbG (zen _) _)
inductive zjR(vs:List V)(H:Hp)(Q:VK)(E:XK):Prop|mk(n:Int):vs=[.int n]->(Q (.str (zdE n)) H)->zjR vs H Q E
theorem zfN(l:List Nat)(c:Nat):(⟨l.toArray⟩:Str)++(⟨#[c]⟩:Str)=⟨(l++[c]).toArray⟩:=by
 show(⟨l.toArray++#[c]⟩:Str)=_
 congr 1
 apply Array.ext'
 simp
section
variable {P:Program}{K:Frag}{mg:Str->Option Value}
theorem jc:zv ["_law_cell","_law_k","_law_first","_law_other","_law_great"] ["_law_cell","_law_k"] (zk zbb):=fsc
theorem ze3(F:Fun K "_law_strewn" "_law_strewn" zbb f fd):↥1 f fd ["_law_cell","_law_k"] qk:=by
 specialize jc;obtain⟨c,k,rfl,q⟩:=h;refine jc[2]'(zo zR (zo y8 (zo yF (zo yF (zo zR (pv 0) zf) (zo y8 zf (pv 1))) zf) zf) zf);exists _,rfl,_,_,rfl,rfl,zp2147483647,_,rfl,_,_,rfl,rfl,.inl ⟨⋯,⋯⟩,_,_,rfl,rfl,_,_,rfl,rfl,_,_,rfl,rfl,.inr ⟨⋯,⋯⟩,_,_,rfl,rfl,zp2147483647,?_
 have h1 : 0<=(c % 2147483647+97 * k+5) * 48271 % 2147483647:=emod_nonneg _ ⋯
 have h2:(c % 2147483647+97 * k+5) * 48271 % 2147483647<2147483647:=emod_lt_of_pos _ ⋯
 generalize (c % 2147483647+97 * k+5) * 48271 % 2147483647=x at h1 h2 |-;exfalso;refine jc[3]'(zo zR (zo yF (zo yF (zo y8 (pv 2) (pv 2)) (zo y8 zf (pv 1))) zf) zf);exists _,rfl,_,rfl,_,_,rfl,rfl,.inl ⟨∅,∅⟩,_,rfl,_,_,rfl,rfl,.inl ⟨⋯,⋯⟩,_,_,rfl,rfl,_,_,rfl,rfl,_,_,rfl,rfl,(by show(0:Int)<2147483629;decide),?_
 have y1 : 0<=(x * x+31 * k+7) % 2147483629:=emod_nonneg _ ⋯
 have y2:(x * x+31 * k+7) % 2147483629<2147483629:=emod_lt_of_pos _ ⋯
 generalize (x * x+31 * k+7) % 2147483629=y at y1 y2 |-;exfalso;refine jc[4]'(zo yF (zo y8 (pv 2) zf) (pv 3));exists _,rfl,_,_,rfl,rfl,.inr ⟨⋯,⋯⟩,_,rfl,_,_,rfl,rfl,?_
 obtain⟨g,eg,g1,g2⟩:∃g,x * 2147483629+y=g/\0<=g/\g<2 ^ 64:=⟨_,rfl,∅,∅⟩
 rw[eg];exfalso;exists _,zg (zA (zo yF (zo z8 (zo y8 (zo y8 (pv 4) (pv 4)) (pv 4)) zf) (pv 3))),?_;exact⟨_,rfl,_,rfl,_,_,rfl,rfl,.inl ⟨∅,∅⟩,_,rfl,_,_,rfl,rfl,.inr ⟨∅,∅⟩,_,_,rfl,rfl,⟨⋯,⋯⟩,_,rfl,_,_,rfl,rfl,q _⟩
theorem vi:zv ["_law_cell","_law_most","_law_base","_law_many","_law_rest","_law_found","_law_k"] ["_law_cell","_law_most","_law_base"] (zk zbm):=fsc
theorem zfa(F:Fun K "_law_digits" "_law_digits" zbm f fd)(hrg:mg "range"=none)(cS:⇑1 "_law_strewn" g1 e1 ["_law_cell","_law_k"] qk):↥2 f fd ["_law_cell","_law_most","_law_base"] vS:=by
 specialize vi;obtain⟨c,m,b,rfl,m30,b0,b1,q⟩:=h;refine vi[3]'(zo zR (pv 0) (zo yF (pv 1) zf));exists _,rfl,_,rfl,_,_,rfl,rfl,_,_,rfl,rfl,(by show(0:Int)<((m:Nat):Int)+1;omega),?_
 have n0 : 0<=c % (((m:Nat):Int)+1):=emod_nonneg _ ∅
 have n1:c % (((m:Nat):Int)+1)<((m:Nat):Int)+1:=emod_lt_of_pos _ ∅
 obtain⟨N,eN⟩:=eq_ofNat_of_zero_le n0;rw[eN];exfalso;refine vi[4]'(zo z8 (pv 0) (zo yF (pv 1) zf));exists _,rfl,_,rfl,_,_,rfl,rfl,_,_,rfl,rfl,⟨∅,∅⟩,?_
 generalize c / (((m:Nat):Int)+1)=r0;exfalso;refine vi[5]'(zP zc);exists xS,fun lf hlf=>?_;have s1:=ze hlf (.lst []);have g1:upd H lf (.lst []) lf=some (.lst (([]:List Int).map V.int)):=za;generalize upd H lf (.lst [])=H1 at s1 g1 |-;exfalso;refine zE (yS PassesOwn.never rfl (vm rfl hrg (ac (pv 3) zc)) (zr (i:=6) vi.nd rfl (Or.inl rfl)) wp) ?_;exists _,rfl,(N:Int),rfl,∅,∅,?_
 refine jK (n:=(N:Int).toNat) (fun i σ H'=>∃(r:Int) (ns:List Int) (v6:Option V),σ=[some (.int c),some (.int (m:Nat)),some (.int b),some (.int N),some (.int r),~~~lf,v6]/\zq H H'/\H' lf=some (.lst (ns.map V.int))/\ns.length<=i) ⟨r0,[],_,rfl,s1,g1,le_refl _⟩ ?_ ?_
 ·rintro i σ H2 hi ⟨r,ns,v6,rfl,s2,hl2,ln⟩
  have add:∀x:Int,zq H (upd H2 lf (.lst (ns.map V.int++[.int x])))/\upd H2 lf (.lst (ns.map V.int++[.int x])) lf=some (.lst ((ns++[x]).map V.int))/\(ns++[x]).length<=i+1:=fun x=>⟨yy s2 hlf _,by rw[za,aE];rfl,by rw[aG];exact succ_le_succ ln⟩
  rw[Int.zero_add];exfalso;refine⟨_,zg (zS (zw yK (pv 4) zf (zM _)) (zg (zW (xh PySem.F.plainAttrs_list PySem.F.slot_list_append PySem.F.type_list_append z9 (pv 5) (ac (zo zR (cF cS hr (ac (pv 0) (ac (pv 6) zc))) (pv 2)) zc))))
   (zm (zW (xh PySem.F.plainAttrs_list PySem.F.slot_list_append PySem.F.type_list_append z9 (pv 5) (ac (zo zR (pv 4) (pv 2)) zc))) (zg (zx (i:=4) vi.nd rfl (Or.inl rfl) (zo zgS (pv 4) (pv 2)))))),?_⟩
  exists _,rfl,rfl,_,rfl,?_;have sz:(ns.map V.int).length<sizeLine:=zY (by rw[aA];omega)
  refine wf (fun _=>?_) (fun _=>?_)
  ·exists _,rfl,.inl ⟨rfl,_,zh hl2⟩,_,rfl,_,rfl,c,i,rfl,fun n=>?_
   exists _,rfl,_,_,rfl,rfl,b0,lf,_,_,rfl,rfl,hl2,sz,?_;exact⟨_,ns++[n % b],_,rfl,add _⟩
  ·exists _,rfl,.inl ⟨rfl,_,zh hl2⟩,_,rfl,_,rfl,_,_,rfl,rfl,b0,lf,_,_,rfl,rfl,hl2,sz,?_
   exact⟨_,rfl,_,rfl,_,_,rfl,rfl,⟨b0,b1⟩,_,ns++[r % b],_,rfl,add _⟩
 ·rintro σ H2 ⟨r,ns,v6,rfl,s2,hl2,ln⟩
  exact⟨_,zg (zA (pv 5)),_,rfl,q lf ns H2 s2 hlf hl2 ∅⟩
theorem zaw:zv ["_law_number","_law_word_here","_law_rest","_law_k"] ["_law_number"] (zk zf9):=fsc
theorem zk0(F:Fun K "_law_word" "_law_word" zf9 f fd)(hrg:mg "range"=none):↥1 f fd ["_law_number"] zjR:=by
 specialize zaw;obtain⟨n,rfl,q⟩:=h;have l26:(Str.ofString "abcdefghijklmnopqrstuvwxyz").length<=sizeLine:=by decide +kernel
 have m0:∀x:Int,0<=x % 26:=fun x=>emod_nonneg _ ⋯
 have m1:∀x:Int,x % 26<26:=fun x=>emod_lt_of_pos _ ⋯
 refine zaw[1]'(zV jH zy (zo zR (zo z8 (pv 0) zf) zf) (fun _ _=>rfl));exists _,rfl,_,_,rfl,rfl,⟨⋯,⋯⟩,_,_,rfl,rfl,zp26,_,_,_,rfl,rfl,l26,uD (m0 _) (m1 _),?_
 exfalso;refine zaw[2]'(zo z8 (pv 0) zf);exists _,rfl,_,_,rfl,rfl,⟨⋯,⋯⟩,?_
 exfalso;refine zE (yS PassesOwn.never rfl (vm rfl hrg (ac (zo zR (pv 0) zf) zc)) (zr (i:=3) zaw.nd rfl (Or.inl rfl)) wp) ?_;have k0 : 0<=n % 8:=emod_nonneg _ ⋯
 have k1:n % 8<8:=emod_lt_of_pos _ ⋯
 exists _,rfl,_,_,rfl,rfl,zp8,n % 8,rfl,∅,∅,?_
 refine jK (n:=(n % 8).toNat) (fun i σ H'=>∃v3,σ=[some (.int n),some (.str ⟨(zaq (zfc (n / 8)) i (n / 208)).toArray⟩),some (.int (zgw i (n / 208))),v3]/\H=H') ⟨_,rfl,rfl⟩ ?_ ?_
 ·rintro i σ H2 hi ⟨v3,rfl,rfl⟩
  exfalso;exists _,zm (zx (i:=1) zaw.nd rfl (Or.inl rfl) (zo wn (pv 1) (zV jH zy (zo zR (pv 2) zf) (fun _ _=>rfl)))) (zg (zx (i:=2) zaw.nd rfl (Or.inl rfl) (zo z8 (pv 2) zf))),?_;exists _,rfl,_,rfl,_,_,rfl,rfl,zp26,_,_,_,rfl,rfl,l26,uD (m0 _) (m1 _),_,_,rfl,rfl,(by show(List.toArray _).size+1<=sizeLine;rw[size_toArray,uj];exact yg ∅),?_
  exists _,rfl,_,_,rfl,rfl,⟨⋯,⋯⟩,some (.int (0+(i:Nat))),?_,rfl
  rw[zfN];rfl
 ·rintro σ H2 ⟨v3,rfl,rfl⟩
  exact⟨_,zg (zA (pv 1)),_,rfl,q⟩
theorem ziT(hu:X.A.units+64<cLine):OpR X (compareOp .Eq) (fun x y H Q=>∃a c xs,x=.ref a/\y=.ref c/\H a=some (.lst xs)/\H c=some (.lst [])/\Q (.bl xs.isEmpty) H):=by
 intro pins s σ H x y v u Q I rx ry h;obtain⟨a,c,xs,rfl,rfl,ha,hc,q⟩:=h;cases xs with
 | nil=>exact zgU hu pins s σ H _ _ v u Q I rx ry ⟨a,c,0,.lst [],fun _=>True,fun _=>True,rfl,rfl,⋯,zJ.lst True.intro ha .nil,zJ.lst True.intro hc .nil,q⟩
 | cons z zs=>exact zb6 ∅ pins s σ H _ _ v u Q I rx ry ⟨a,c,_,_,rfl,rfl,ha,hc,by simp,q⟩
structure PL(zs:List Str):Prop where
 nd:zs.Nodup
 nm:∀z∈zs,xM z=true
 pos : 0<zs.length
 le:zs.length<=26
inductive zfQ(vs:List V)(H:Hp)(Q:VK)(E:XK):Prop|mk(c:Int):vs=[.int c]->(∀(r:Addr) (zs:List Str) (H':Hp),zq H H'->H r=none->H' r=some (.lst (zs.map V.str))->PL zs->Q (.ref r) H')->zfQ vs H Q E
structure zmD(mg:Str->Option Value):Prop where
 range:mg "range"=none
 int:mg "int"=none
theorem zmi:([Str.ofString "_law_sign"]:List Str).Nodup:=by decide +kernel
theorem zmh:([Str.ofString "_law_k",Str.ofString "_law_cell",Str.ofString "_law_letters",Str.ofString "_law_stem"]:List Str).Nodup:=by decide +kernel
theorem uP:zv ["_law_cell","_law_letters","_law_pool_here","_law_number","_law_stem"] ["_law_cell"] (zk zge):=fsc
theorem ziZ(F:Fun K "_law_pool" "_law_pool" zge f fd)(U:zmD mg)(cD:⇑2 "_law_digits" g1 e1 ["_law_cell","_law_most","_law_base"] vS)(cW:⇑1 "_law_word" g2 e2 ["_law_number"] zjR):↥3 f fd ["_law_cell"] zfQ:=by
 specialize uP;obtain⟨cc,rfl,q⟩:=h;have hU:=hr.units;have hr1:yl 1 _:=hr.mono ⋯
 refine zE (zx (i:=1) uP.nd rfl (Or.inr rfl) zy) ?_;refine zE (zS (zw yK (zo zR (pv 0) zf) zf (zM _)) wp zI) ?_;refine xj (fun σ' H'=>σ'=[some (.int cc),some (.str "abcdefghijklmnopqrstuvwxyz"),none,none,none]/\H'=H) ?_ (fun key=>?_);rotate_left
 ·exists _,rfl,_,_,rfl,rfl,zp2,rfl,_,rfl,?_
  refine wf (fun _=>?_) (fun _=>?_);rotate_left
  ·exact key _ _ ⟨rfl,rfl⟩
  refine uP[2]'(zP zc);exists xS,fun lf hlf=>?_;have s1:=ze hlf (.lst []);have g1:upd H lf (.lst []) lf=some (.lst (([]:List Str).map V.str)):=za;generalize upd H lf (.lst [])=H1 at s1 g1 |-;exfalso;refine zE (yS PassesOwn.never rfl (z7 (cF cD hr (ac (zo z8 (pv 0) zf) (ac zf (ac (zo y8 zf (zo jC zf zf)) zc))))) (zr (i:=3) uP.nd rfl (Or.inl rfl)) wp) ?_;exists _,rfl,_,_,rfl,rfl,⟨⋯,⋯⟩,_,_,rfl,rfl,⟨⋯,⋯,⋯⟩,_,_,rfl,rfl,.inl ⟨⋯,⋯⟩,_,24,_,rfl,⋯,⋯,⋯,fun ld ds H2 s2 nld hld lds=>?_
  exists ld,rfl,⟨_,zh hld⟩,xE (K:=K) (a:=ld) (xs:=ds.map V.int) (fun i σ H'=>∃v3 zs,σ=[some (.int cc),some (.str "abcdefghijklmnopqrstuvwxyz"),~~~lf,v3,none]/\zq H H'/\H' ld=some (.lst (ds.map V.int))/\H' lf=some (.lst (zs.map V.str))/\zs.Nodup/\(∀z∈zs,xM z=true)/\zs.length<=i) ⟨_,[],rfl,s1.trans s2,hld,s2 _ _ g1,nodup_nil,(fun _ h=>nomatch h),le_refl _⟩ (fun i σ H' _ ⟨_,_,_,_,e,_⟩=>zh e) ?_ ?_
  ·rintro i x σ H3 hx ⟨v3,zs,rfl,s3,hd3,hl3,zn,zb,zl⟩
   obtain⟨n,hn,rfl⟩:=wU hx;have hi:i<ds.length:=(List.getElem?_eq_some_iff.mp hn).1;exfalso;exists _,zg (zS (zw yL (cF cW hr1 (ac (pv 3) zc)) (pv 2) (by with_unfolding_all rfl)) (zg (zW (xh PySem.F.plainAttrs_list PySem.F.slot_list_append PySem.F.type_list_append z9 (pv 2) (ac (cF cW hr1 (ac (pv 3) zc)) zc)))) zI),?_
   exists _,rfl,n,rfl,_,rfl,lf,_,rfl,.inl (zh hl3),rfl,xf,_,rfl,?_;by_cases hz:zdE n∈zs
   ·refine jI (by rw[aK rfl,xc,aC hz];rfl) ?_
    exact⟨_,zs,rfl,s3,hd3,hl3,zn,zb,le_succ_of_le zl⟩
   refine jJ (by rw[aK rfl,xc,aD hz];rfl) ?_
   exists _,rfl,.inl ⟨rfl,_,zh hl3⟩,_,rfl,n,rfl,lf,_,_,rfl,rfl,hl3,zY (by rw[aA];omega),?_
   refine⟨_,zs++[zdE n],rfl,yy s3 hlf _,by rw[zj (Ne.symm (zi g1 nld))];exact hd3,by rw[za,aE];rfl,List.nodup_append.mpr ⟨zn,by simp,fun x hx y hy e=>hz (by rw[<- List.mem_singleton.mp hy,<- e];exact hx)⟩,fun z h=>?_,by rw[aG];exact succ_le_succ zl⟩
   rcases List.mem_append.mp h with h|h
   ·exact zb z h
   ·rw[List.mem_singleton.mp h];exact zcC n
  ·rintro σ H3 ⟨v3,zs,rfl,s3,hd3,hl3,zn,zb,zl⟩
   rw[aA] at zl;exists _,zg (zA (zV yO (zP (ac (pv 2) (ac (zP (ac zy zc)) zc))) (cTy zfC U.int PyProof.Rows.boot_int (ac (vB (ziT hU) (pv 2) (zP zc) (zM _)) zc)) (fun _ _=>rfl))),?_;exists _,rfl,jy,fun la hla=>?_
   injections la hla H4 s4 g4
   exists yA,fun lb hlb=>?_
   injections lb hlb H5 s5 g5
   exists _,rfl,xS,fun le hle=>?_
   injections le hle H6 s6 g6
   have s36:=s4.trans (s5.trans s6);cases zs with
   | nil=>exact⟨lf,le,_,rfl,rfl,s36 _ _ hl3,g6,.inr ⟨_,rfl,lb,_,_,.ref la,rfl,rfl,zh (s6 _ _ g5),rfl,q la ["a"] _ (s3.trans s36) (s3.free hla) ((s5.trans s6) _ _ g4) ⟨by decide +kernel,by decide +kernel,⋯,⋯⟩⟩⟩
   | cons z zs=>exact⟨lf,le,_,rfl,rfl,s36 _ _ hl3,g6,.inr ⟨_,rfl,lb,_,_,.ref lf,rfl,rfl,zh (s6 _ _ g5),rfl,q lf _ _ (s3.trans s36) hlf (s36 _ _ hl3) ⟨zn,zb,succ_pos _,∅⟩⟩⟩
 rintro σ0 H0 ⟨rfl,rfl⟩;refine zE (zx (i:=0) uP.nd rfl (Or.inr rfl) (zo z8 (pv 0) zf)) ?_;exists _,rfl,_,_,rfl,rfl,⟨⋯,⋯⟩,?_
 generalize cc / 2=cc;exfalso;refine⟨_,zm (zS (zw yK (zo zR (zo z8 (pv 0) zf) zf) zf (zM _)) (zg (zA (wC [] ["_law_sign"] [none] rfl ⟨rfl,rfl,rfl,rfl⟩ (zgB (pv 1)) (ya 0) rfl rfl rfl
   (fun pins fp s H C=>⟨zr (i:=0) zmi rfl (Or.inl rfl) (.inr rfl),yV,pv 0⟩)))) zI)
  (zm (zx (i:=4) uP.nd rfl (Or.inr rfl) (zo wn (zo wn (zV jH (pv 1) (zo zR (pv 0) zf) (fun _ _=>rfl)) (zV jH (pv 1) (zo zR (zo z8 (pv 0) zf) zf) (fun _ _=>rfl))) (zV jH (pv 1) (zo zR (zo z8 (pv 0) zf) zf) (fun _ _=>rfl))))
  (zm (wO (i:=2) ["_law_stem","_law_letters","_law_cell"] ["_law_k","_law_cell","_law_letters","_law_stem"] [none,some 0,some 1,some 4] uP.nd rfl (Or.inl rfl) rfl ⟨rfl,rfl,rfl,rfl⟩ (vm rfl U.range (ac zf zc)) (ya 0) rfl rfl rfl
   (fun pins fp s H C=>⟨zr (i:=0) zmh rfl (Or.inl rfl) (.inr rfl),yV,zo wn (yp zkp (pv 3) yU (yn (zo zR (pv 0) zf))) (zV jH (pv 2) (zo zR (zo yF (zo z8 (pv 1) zf) (pv 0)) zf) (fun _ _=>rfl))⟩))
  (zg (zA (zo yr (pv 2) (zP (ac (zo wn (zV yO (pv 2) zf (fun _ _=>rfl)) zy) (ac (zo wn (zV yO (pv 2) zf (fun _ _=>rfl)) zy) zc))))))))
  ,?_⟩
 exists _,rfl,_,_,rfl,rfl,⟨⋯,⋯⟩,_,_,rfl,rfl,zp8,rfl,_,rfl,?_
 have l26:(Str.ofString "abcdefghijklmnopqrstuvwxyz").cps.toList.length=26:=by decide +kernel
 refine wf (fun _=>?_) (fun _=>?_)
 ·exists _,rfl,_,rfl,fun D hD=>?_
  exists fun i m ys H'=>i<=26/\m=26 - i/\ys=((List.range i).map fun k=>(⟨#[97+k]⟩:Str)).map V.str/\H'=upd H0 D (.lst ys),⟨_,zero_le _,rfl,rfl,rfl⟩,?_;rintro i m ys H' ⟨hi,rfl,rfl,rfl⟩;have sz:(Str.ofString "abcdefghijklmnopqrstuvwxyz").cps.size=26:=by decide +kernel
  by_cases he:i=26
  ·subst he
   refine .inl ⟨by show(Str.ofString "abcdefghijklmnopqrstuvwxyz").cps.size<=26;rw[sz];exact le_refl _,?_⟩
   exact q D zea _ (ze hD _) hD za ⟨zgz,zdb,⋯,⋯⟩
  ·refine .inr ⟨by show i<(Str.ofString "abcdefghijklmnopqrstuvwxyz").cps.size;rw[sz];omega,?_⟩
   rintro x H' ⟨rfl,ch,hc,rfl⟩;exists fun _=>?_,fun e=>Bool.noConfusion e;have hc':(Str.ofString "abcdefghijklmnopqrstuvwxyz").cps.toList[i]?=some ch:=by simpa using hc
   rw[zh9 i ∅] at hc'
   cases hc';exists _,rfl,za,?_,26 - (i+1),∅,∅,rfl,?_,?_
   ·rw[aA,aA,length_range]
    exact zY ∅
   ·rw[range_succ,aE,aE]
    rfl
   ·rw[j5]
 have x0 : 0<=cc % 26:=emod_nonneg _ ⋯
 have x1:cc % 26<26:=emod_lt_of_pos _ ⋯
 have y0 : 0<=cc / 26 % 26:=emod_nonneg _ ⋯
 have y1:cc / 26 % 26<26:=emod_lt_of_pos _ ⋯
 have z0 : 0<=cc / 676 % 26:=emod_nonneg _ ⋯
 have z1:cc / 676 % 26<26:=emod_lt_of_pos _ ⋯
 have big : 1000<=sizeLine:=by decide
 have l26':(Str.ofString "abcdefghijklmnopqrstuvwxyz").length<=sizeLine:=by decide +kernel
 exists _,rfl,_,rfl,_,_,rfl,rfl,zp26,_,_,_,rfl,rfl,l26',uD x0 x1,_,rfl,_,rfl,_,_,rfl,rfl,⟨⋯,⋯⟩,_,_,rfl,rfl,zp26,_,_,_,rfl,rfl,l26',uD y0 y1,_,_,rfl,rfl,(by show 1+1<=sizeLine;decide),_,rfl,_,rfl,_,_,rfl,rfl,⟨⋯,⋯⟩,_,_,rfl,rfl,zp26,_,_,_,rfl,rfl,l26',uD z0 z1,_,_,rfl,rfl,(by show 2+1<=sizeLine;decide),?_
 obtain⟨a,ea,ha⟩:∃a,a=(cc % 26).toNat/\a<26:=⟨_,rfl,∅⟩
 obtain⟨b,eb,hb⟩:∃b,b=(cc / 26 % 26).toNat/\b<26:=⟨_,rfl,∅⟩
 obtain⟨c,ec,hc⟩:∃c,c=(cc / 676 % 26).toNat/\c<26:=⟨_,rfl,∅⟩
 rw[<- ea,<- eb,<- ec];obtain⟨qq,eq⟩:∃qq,qq=(cc / 17576 % 26).toNat:=⟨_,rfl⟩;have q0 : 0<=cc / 17576 % 26:=emod_nonneg _ ⋯
 have st:((⟨#[97+a]⟩:Str)++(⟨#[97+b]⟩:Str))++(⟨#[97+c]⟩:Str)=⟨#[97+a,97+b,97+c]⟩:=rfl;rw[st];exists 8,rfl,⋯,⋯,fun D hD=>?_
 refine qP (n:=8) (fun i ys H'=>zq H0 H'/\H' D=some (.lst ys)/\ys=((List.range i).map (pn a b c qq)).map V.str) ⟨ze hD _,za,rfl⟩ ?_ ?_
 ·rintro i ys H' hi ⟨sH,hDy,ey⟩
  exists fun _=>?_,fun e=>Bool.noConfusion e;have w0 : 0<=(cc / 17576+((0:Int)+(i:Int))) % 26:=emod_nonneg _ ⋯
  have w1:(cc / 17576+((0:Int)+(i:Int))) % 26<26:=emod_lt_of_pos _ ⋯
  have ew:((cc / 17576+((0:Int)+(i:Int))) % 26).toNat=(qq+i) % 26:=by omega
  have e4:((0:Int)+(i:Int)) % 4=((i % 4:Nat):Int):=by omega
  exists _,rfl,_,rfl,_,_,rfl,rfl,zp4,_,rfl,_,rfl,jx,_,rfl,_,rfl,_,_,rfl,rfl,⟨⋯,⋯⟩,_,rfl,_,_,rfl,rfl,_,_,rfl,rfl,zp26,_,_,_,rfl,rfl,l26',uD w0 w1,?_
  rw[ew,e4,zko _ _ _ _ (mod_lt _ ⋯)]
  have hl:(⟨(([97+a,97+b,97+c]:List Nat).take (i % 4)).toArray⟩:Str).length<=3:=by
   show(List.toArray _).size<=3;rw[size_toArray,length_take];show min _ 3<=3;omega
  exists _,_,rfl,rfl,le_trans (show _+1<=1000 by omega) big,?_
  refine lcN.mk hi ⋯ hDy (by rw[ey,aA,aA,length_range];exact le_refl _) ⟨fun b' u e=>by rw[zj (zi e hD)];exact sH _ _ e,za,?_⟩
  rw[ey,range_succ,aE,aE];show _++[V.str _]=_++[V.str (pn a b c qq i)]
  congr 3
  unfold pn pnL;show(⟨List.toArray _++#[97+(qq+i) % 26]⟩:Str)=_
  congr 1
  apply Array.ext'
  simp
 ·rintro ys H1 ⟨s1,hDy,ey⟩
  subst ey;have e0:atI (((List.range 8).map (pn a b c qq)).map V.str) 0=some (.str (pn a b c qq 0)):=rfl;have e1:atI (((List.range 8).map (pn a b c qq)).map V.str) 1=some (.str (pn a b c qq 1)):=rfl;exists _,rfl,_,rfl,D,_,0,_,rfl,rfl,zh hDy,e0,_,_,rfl,rfl,(by show 1+5<=sizeLine;decide),_,rfl,D,_,1,_,rfl,rfl,zh hDy,e1,_,_,rfl,rfl,(by show 2+5<=sizeLine;decide),yA,fun l2 hl2=>?_
  have s2:=ze hl2 (.lst [.str (pn a b c qq 0++"aaaaa"),.str (pn a b c qq 1++"aaaaa")]);exists D,l2,_,_,rfl,rfl,s2 _ _ hDy,za,zlX,fun r hr'=>?_;have s3:=ze hr' (.lst (((List.range 8).map (pn a b c qq)).map V.str++[.str (pn a b c qq 0++"aaaaa"),.str (pn a b c qq 1++"aaaaa")]));refine q r (zb0 a b c qq) _ (s1.trans (s2.trans s3)) (s1.free (s2.free hr')) ?_ ⟨zgy a b c qq,zda ha hb hc,by show 0<10;decide,by show 10<=26;decide⟩
  rw[za];rfl
inductive zjT(K:Frag)(vs:List V)(H:Hp)(Q:VK)(E:XK):Prop|mk(a pa:Addr)(cs:List Int)(zs:List Str)(ends:Int):vs=[.ref a,.ref pa,.int ends]->SqL K H a (cs.map V.int)->cs.length<=22->H pa=some (.lst (zs.map V.str))->PL zs->(∀(la:Addr) (us:List Addr) (rows:List Rw) (H':Hp),zq H H'->H la=none->H' la=some (.lst (us.map V.ref))->Paired (TAt H') us rows->VR rows->(∀z∈nms rows,z∈zs)->(∃S:FS,rows=S.rows/\FM 24 S/\S.P.length+S.G.length<=22)->Q (.ref la) H')->zjT K vs H Q E
theorem jS:zv ["_law_numbers","_law_pool_here","_law_ends","_law_places","_law_tags","_law_used","_law_number","_law_name","_law_free","_law_tail"] ["_law_numbers","_law_pool_here","_law_ends"] (zk zkF):=fsc
theorem zk2(F:Fun K "_law_row" "_law_row" zkF f fd)(hln:mg "len"=none):↥1 f fd ["_law_numbers","_law_pool_here","_law_ends"] (zjT K):=by
 specialize jS;obtain⟨a,pa,cs,zs,ends,rfl,hS,l22,hpa,pz,q⟩:=h;have z0:=pz.pos;have z26:=pz.le;have hzn:=pz.nm;refine jS[3]'(zP zc);exists xS,fun lp hlp=>?_;exfalso
 injections lp hlp H1 s1 g1
 refine jS[4]'(zP zc);exists xS,fun lt hlt=>?_;exfalso
 injections lt hlt H2 s2 g2
 refine jS[5]'(zP zc);exists xS,fun ll hll=>?_;exfalso
 injections ll hll H3 s3 g3
 have I0:FI H H3 lp lt ll ⟨[],[],[],[],[]⟩:=⟨s1.trans (s2.trans s3),⟨[],s3 _ _ (s2 _ _ g1),.nil⟩,⟨[],s3 _ _ g2,.nil⟩,g3,zi g1 hlt,zi (s2 _ _ g1) hll,zi g2 hll,hlp,s1.free hlt,(s1.trans s2).free hll⟩;have pick:∀(x:Int),∃j,x % (zs.length:Int)=((j:Nat):Int)/\∃h:j<zs.length,atI (zs.map V.str) (x % (zs.length:Int))=some (.str zs[j]):=fun x=>by
  have d0 : 0<=x % (zs.length:Int):=emod_nonneg _ ∅
  have d1:x % (zs.length:Int)<(zs.length:Int):=emod_lt_of_pos _ ∅
  obtain⟨j,hj⟩:=eq_ofNat_of_zero_le d0;have hjl:j<zs.length:=by omega
  exact⟨j,hj,hjl,by rw[hj];exact wW (by rw[getElem?_map,aB hjl];rfl)⟩
 have lz:((zs.map V.str).length:Int)=(zs.length:Int):=by rw[aA]
 refine zE (yS PassesOwn.never rfl (z7 (pv 0)) (zr (i:=6) jS.nd rfl (Or.inl rfl)) wp) ?_;refine⟨_,rfl,a,rfl,⟨_,I0.sm.seq hS⟩,xE (K:=K) (a:=a) (xs:=cs.map V.int) (fun i σ H'=>∃(S:FS) (v6 v7 v8 v9:Option V),σ=[~~~a,~~~pa,some (.int ends),~~~lp,~~~lt,~~~ll,v6,v7,v8,v9]/\FI H H' lp lt ll S/\FM i S/\S.T=[]/\S.B=[]/\∀y∈S.L,y∈zs)
  ⟨⟨[],[],[],[],[]⟩,_,_,_,_,rfl,I0,FM.zero,rfl,rfl,(fun y h=>nomatch h)⟩ (fun i σ H' _ ⟨_,_,_,_,_,_,h,_⟩=>h.sm.seq hS) ?_ ?_⟩
 ·rintro i x σ H5 hx ⟨S,v6,v7,v8,v9,rfl,I5,M4,eT,eB,pL⟩
  obtain⟨mm,hn,rfl⟩:=wU hx;have hi:i<cs.length:=(List.getElem?_eq_some_iff.mp hn).1;obtain⟨j,hj,hjl,hat⟩:=pick (mm / 16);have hpa5:=I5.sm _ _ hpa;exfalso;refine jS[7]'(zV yO (pv 1) (zo zR (zo z8 (pv 6) zf) (cB zO hln PySem.boot_len (ac (pv 1) zc))) (fun _ _=>rfl));exists _,rfl,_,rfl,_,_,rfl,rfl,⟨⋯,⋯⟩,_,rfl,pa,_,rfl,.inl (zh hpa5),_,_,rfl,rfl,(by rw[lz];omega),pa,_,_,.str zs[j],rfl,rfl,zh hpa5,(by rw[lz];exact hat),?_
  have hz:=hzn _ (getElem_mem hjl);have hzz:=getElem_mem hjl;generalize zs[j]=z at hz hzz |-;exfalso;refine jS[8]'(vB yK (zo zR (zo z8 (zo z8 (pv 6) zf) (cB zO hln PySem.boot_len (ac (pv 1) zc))) zf) zf (zM _));exists _,rfl,_,_,rfl,rfl,⟨⋯,⋯⟩,_,rfl,pa,_,rfl,.inl (zh hpa5),_,_,rfl,rfl,⟨by rw[lz];omega,by rw[lz];omega⟩,_,_,rfl,rfl,zp2,rfl,?_
  exfalso;generalize decide (_=V.int 1)=fb;exists _,zg (zS (zw vX (zo zR (pv 6) zf) zf (zM _)) (zg (zW (xh PySem.F.plainAttrs_list PySem.F.slot_list_append PySem.F.type_list_append z9 (pv 3) (ac (zT (ac zy (ac (pv 7) (ac (pv 8) zc)))) zc)))) (zg (zS (xy (xr (zw vX (zo zR (pv 6) zf) zf (zM _)) (y9 (zw yL (pv 7) (pv 5) (by with_unfolding_all rfl))))) (zm (zW (xh PySem.F.plainAttrs_list PySem.F.slot_list_append PySem.F.type_list_append z9 (pv 5) (ac (pv 7) zc))) (zg (zS (zw vX (zo zR (pv 6) zf) zf (zM _)) (zg (zW (xh PySem.F.plainAttrs_list PySem.F.slot_list_append PySem.F.type_list_append z9 (pv 3) (ac (zT (ac zy (ac (pv 7) (ac (pv 8) zc)))) zc)))) (zg (zW (xh PySem.F.plainAttrs_list PySem.F.slot_list_append PySem.F.type_list_append z9 (pv 4) (ac (zT (ac zy (ac (pv 7) (ac (pv 8) zc)))) zc))))))) zI))),?_
  have lP:S.P.length<=24:=by have:=M4.ln;omega
  have lG:S.G.length<=24:=by have:=M4.ln;omega
  have lL:=M4.lL;exists _,rfl,_,_,rfl,rfl,zp16,_,_,rfl,rfl,_,rfl,?_;have fin:∀{k:Nat}{H':Hp},FI H H' lp lt ll (S.add k z fb)->k<5->k≠2->k≠4->(yt k=true->z∉S.L)->∃(S:FS) (v6 v7 v8 v9':Option V),([~~~a,~~~pa,some (.int ends),~~~lp,~~~lt,~~~ll,some (.int mm),some (.str z),some (.bl fb),v9]:L2.St)=[~~~a,~~~pa,some (.int ends),~~~lp,~~~lt,~~~ll,v6,v7,v8,v9']/\FI H H' lp lt ll S/\FM (i+1) S/\S.T=[]/\S.B=[]/\∀y∈S.L,y∈zs:=fun {k H'} I hk h2 h4 hn=>by
   exists S.add k z fb,_,_,_,_,rfl,I,M4.add hk hz hn,?_,?_,?_;rotate_left 2
   ·have two:∀y∈S.L++[z],y∈zs:=jm pL hzz
    rcases lt5 hk with rfl|rfl|rfl|rfl|rfl
    ·exact pL
    ·exact two
    ·exact pL
    ·exact two
    ·exact pL
   ·rcases lt5 hk with rfl|rfl|rfl|rfl|rfl
    ·exact eT
    ·exact eT
    ·exact absurd rfl h2
    ·exact eT
    ·exact absurd rfl h4
   ·rcases lt5 hk with rfl|rfl|rfl|rfl|rfl
    ·exact eB
    ·exact eB
    ·exact absurd rfl h2
    ·exact eB
    ·exact absurd rfl h4
  by_cases c1:mm % 16<4
  ·refine dT (by exact c1) ?_
   obtain⟨us,h1,h2⟩:=I5.hp;have hlu:us.length<=24:=by rw[h2.length];exact lP
   exists _,rfl,.inl ⟨rfl,_,zh h1⟩,_,rfl,_,rfl,jx,fun u hu=>?_;have s7:=ze hu (.tup [.str "seat",.str z,.bl fb]);have tu:TAt (upd H5 u (.tup [.str "seat",.str z,.bl fb])) u ⟨0,z,fb⟩:=za;exists lp,_,_,rfl,rfl,s7 _ _ h1,zY (by rw[aA];omega),?_
   exact fin (k:=0) ((I5.same s7).addP (s7 _ _ h1) (zL s7 h2) tu) ⋯ ⋯ ⋯ (fun e=>by cases e)
  refine dF (by exact c1) ?_
  exists _,rfl,_,_,rfl,rfl,zp16,_,_,rfl,rfl,_,rfl,?_;have skip:∃(S:FS) (v6 v7 v8 v9':Option V),([~~~a,~~~pa,some (.int ends),~~~lp,~~~lt,~~~ll,some (.int mm),some (.str z),some (.bl fb),v9]:L2.St)=[~~~a,~~~pa,some (.int ends),~~~lp,~~~lt,~~~ll,v6,v7,v8,v9']/\FI H H5 lp lt ll S/\FM (i+1) S/\S.T=[]/\S.B=[]/\∀y∈S.L,y∈zs:=
   ⟨S,_,_,_,_,rfl,I5,⟨M4.okP,M4.okT,M4.okG,M4.okB,M4.lT,M4.lB,M4.nd,M4.sn,le_succ_of_le M4.ln,le_succ_of_le M4.lL⟩,eT,eB,pL⟩
  by_cases c2:mm % 16<14
  rotate_left
  ·refine dF (by exact c2) ?_
   refine x8 ?_;exact skip
  refine dT (by exact c2) ?_
  exists _,rfl,_,rfl,ll,_,rfl,.inl (zh I5.hl),rfl,xf,_,rfl,?_;by_cases hz1:z∈S.L
  ·refine jI (by rw[aK rfl,xc,aC hz1];rfl) ?_
   exact skip
  refine jJ (by rw[aK rfl,xc,aD hz1];rfl) ?_
  exists _,rfl,.inl ⟨rfl,_,zh I5.hl⟩,_,rfl,ll,_,_,rfl,rfl,I5.hl,zY (by rw[aA];omega),?_
  have I6:=I5.addL (z:=z);dsimp only[zjO];generalize upd H5 ll (.lst (S.L.map V.str++[.str z]))=H6 at I6 |-;exists _,rfl,_,_,rfl,rfl,zp16,_,_,rfl,rfl,_,rfl,?_;by_cases c3:mm % 16<10
  ·refine dT (by exact c3) ?_
   obtain⟨us,h1,h2⟩:=I6.hp;have hlu:us.length<=24:=by rw[h2.length];exact lP
   exists _,rfl,.inl ⟨rfl,_,zh h1⟩,_,rfl,_,rfl,jx,fun u hu=>?_;have s7:=ze hu (.tup [.str "both",.str z,.bl fb]);have tu:TAt (upd H6 u (.tup [.str "both",.str z,.bl fb])) u ⟨1,z,fb⟩:=za;exists lp,_,_,rfl,rfl,s7 _ _ h1,zY (by rw[aA];omega),?_
   exact fin (k:=1) ((I6.same s7).addP (s7 _ _ h1) (zL s7 h2) tu) ⋯ ⋯ ⋯ (fun _=>hz1)
  ·refine dF (by exact c3) ?_
   obtain⟨us,h1,h2⟩:=I6.ht;have hlu:us.length<=24:=by rw[h2.length];exact lG
   exists _,rfl,.inl ⟨rfl,_,zh h1⟩,_,rfl,_,rfl,jx,fun u hu=>?_;have s7:=ze hu (.tup [.str "tag",.str z,.bl fb]);have tu:TAt (upd H6 u (.tup [.str "tag",.str z,.bl fb])) u ⟨3,z,fb⟩:=za;exists lt,_,_,rfl,rfl,s7 _ _ h1,zY (by rw[aA];omega),?_
   exact fin (k:=3) ((I6.same s7).addG (s7 _ _ h1) (zL s7 h2) tu) ⋯ ⋯ ⋯ (fun _=>hz1)
 ·rintro σ H4 ⟨S,v6,v7,v8,v9,rfl,I4,M4,eT,eB,pL⟩
  have hlen:=l22;rw[aA] at M4;have one:∀{T:List Rw}{k:Nat}{z:Str},T=[⟨k,z,true⟩]\/T=[]->T.length<=1:=fun h=>by rcases h with rfl|rfl <;> simp
  have lP:=M4.ln;obtain⟨j,hj,hjl,hat⟩:=pick (ends / 4);have hpa4:=I4.sm _ _ hpa;refine jS[9]'(zo zgN (zP (ac (zT (ac zy (ac (zV yO (pv 1) (zo zR (zo z8 (pv 2) zf) (cB zO hln PySem.boot_len (ac (pv 1) zc))) (fun _ _=>rfl)) zc))) zc)) (zo zR (pv 2) zf));exists _,rfl,_,rfl,_,_,rfl,rfl,⟨⋯,⋯⟩,_,rfl,pa,_,rfl,.inl (zh hpa4),_,_,rfl,rfl,(by rw[lz];omega),pa,_,_,.str zs[j],rfl,rfl,zh hpa4,(by rw[lz];exact hat),yA,fun u1 hu1=>?_
  have hz1:=hzn _ (getElem_mem hjl);generalize zs[j]=z1 at hz1 |-;have s5:=ze hu1 (.tup [.str "tail",.str z1]);have tu1:TAt (upd H4 u1 (.tup [.str "tail",.str z1])) u1 ⟨2,z1,true⟩:=za;have I5:=I4.same s5;generalize upd H4 u1 (.tup [.str "tail",.str z1])=H5 at s5 tu1 I5 |-;exists jy,fun l1 hl1=>?_;have s6:=ze hl1 (.lst [.ref u1]);have g6:upd H5 l1 (.lst [.ref u1]) l1=some (.lst [.ref u1]):=za;have I6:=I5.same s6;have tu1:=tu1.same s6;generalize upd H5 l1 (.lst [.ref u1])=H6 at s6 g6 I6 tu1 |-;have b0 : 0<=ends % 2:=emod_nonneg _ ⋯
  have b1:ends % 2<2:=emod_lt_of_pos _ ⋯
  exists _,rfl,_,_,rfl,rfl,zp2,l1,ends % 2,_,rfl,rfl,g6,∅,∅,(by show 1 * _<=sizeLine;exact yg ∅),fun p1 hp1=>?_
  obtain⟨usT,T1,eT1,hT1,hTT⟩:∃us T,(List.replicate (ends % 2).toNat [V.ref u1]).flatten=us.map V.ref/\Paired (TAt H6) us T/\(T=[⟨2,z1,true⟩]\/T=[]):=by
   by_cases hb:ends % 2=1
   ·rw[hb];exact⟨[u1],_,rfl,.cons tu1 .nil,.inl rfl⟩
   ·rw[show ends % 2=0 by omega];exact⟨[],_,rfl,.nil,.inr rfl⟩
  rw[eT1];have s7:=ze hp1 (.lst (usT.map V.ref));have g7:upd H6 p1 (.lst (usT.map V.ref)) p1=some (.lst (usT.map V.ref)):=za;have I7:=I6.same s7;have hT1:=zL s7 hT1;exfalso;generalize upd H6 p1 (.lst (usT.map V.ref))=H7 at s7 g7 I7 hT1 |-;have M7:FM (cs.length+1) { S with T:=T1 }:=by
   rcases hTT with rfl|rfl
   ·exact M4.add (k:=2) (b:=true) ⋯ hz1 (fun e=>by cases e)
   ·rw[show({ S with T:=[] }:FS)=S by cases S;cases eT;rfl]
    exact⟨M4.okP,M4.okT,M4.okG,M4.okB,M4.lT,M4.lB,M4.nd,M4.sn,le_succ_of_le M4.ln,le_succ_of_le M4.lL⟩
  obtain⟨us1,h11,h12⟩:=I7.hp;obtain⟨us3,h31,h32⟩:=I7.ht;have lT1:usT.length<=1:=by rw[hT1.length];exact one hTT
  have l1':us1.length=S.P.length:=h12.length;have l3':us3.length=S.G.length:=h32.length;exists _,zg (zA (zo yr (zo yr (zo yr (pv 3) (pv 9)) (pv 4)) (zo zgN (zP (ac (zT (ac zy (ac (zV yO (pv 1) (zo zR (zo z8 (zo z8 (pv 2) zf) (cB zO hln PySem.boot_len (ac (pv 1) zc))) (cB zO hln PySem.boot_len (ac (pv 1) zc))) (fun _ _=>rfl)) zc))) zc)) (zo zR (zo z8 (pv 2) zf) zf)))),?_;exists _,rfl,_,rfl,lp,p1,_,_,rfl,rfl,h11,g7,yg (by rw[aA,aA];omega),fun x1 hx1=>?_
  rw[<- aE]
  injections x1 hx1 H8 s8 g8
  exists _,rfl,x1,lt,_,_,rfl,rfl,g8,s8 _ _ h31,yg (by rw[aA,aA,aG];omega),fun x2 hx2=>?_
  rw[<- aE]
  injections x2 hx2 H9 s9 g9
  have I9:=I7.same (s8.trans s9);obtain⟨j2,hj2,hjl2,hat2⟩:=pick (ends / 4 / (zs.length:Int));have hpa9:=I9.sm _ _ hpa;exists _,rfl,_,rfl,_,_,rfl,rfl,⟨⋯,⋯⟩,_,rfl,pa,_,rfl,.inl (zh hpa9),_,_,rfl,rfl,⟨by rw[lz];omega,by rw[lz];omega⟩,_,rfl,pa,_,rfl,.inl (zh hpa9),_,_,rfl,rfl,(by rw[lz];omega),pa,_,_,.str zs[j2],rfl,rfl,zh hpa9,(by rw[lz];exact hat2),yA,fun u2 hu2=>?_
  have hz2:=hzn _ (getElem_mem hjl2);generalize zs[j2]=z2 at hz2 |-;have s10:=ze hu2 (.tup [.str "bag",.str z2]);have tu2:TAt (upd H9 u2 (.tup [.str "bag",.str z2])) u2 ⟨4,z2,true⟩:=za;generalize upd H9 u2 (.tup [.str "bag",.str z2])=H10 at s10 tu2 |-;exists jy,fun l2 hl2=>?_;have s11:=ze hl2 (.lst [.ref u2]);have g11:upd H10 l2 (.lst [.ref u2]) l2=some (.lst [.ref u2]):=za;have tu2:=tu2.same s11;generalize upd H10 l2 (.lst [.ref u2])=H11 at s11 g11 tu2 |-;have c0 : 0<=ends / 2 % 2:=emod_nonneg _ ⋯
  have c1:ends / 2 % 2<2:=emod_lt_of_pos _ ⋯
  exists _,rfl,_,_,rfl,rfl,⟨⋯,⋯⟩,_,_,rfl,rfl,zp2,l2,ends / 2 % 2,_,rfl,rfl,g11,∅,∅,(by show 1 * _<=sizeLine;exact yg ∅),fun p2 hp2=>?_
  obtain⟨usB,B1,eB1,hB1,hBB⟩:∃us B,(List.replicate (ends / 2 % 2).toNat [V.ref u2]).flatten=us.map V.ref/\Paired (TAt H11) us B/\(B=[⟨4,z2,true⟩]\/B=[]):=by
   by_cases hb:ends / 2 % 2=1
   ·rw[hb];exact⟨[u2],_,rfl,.cons tu2 .nil,.inl rfl⟩
   ·rw[show ends / 2 % 2=0 by omega];exact⟨[],_,rfl,.nil,.inr rfl⟩
  rw[eB1];have s12:=ze hp2 (.lst (usB.map V.ref));have g12:upd H11 p2 (.lst (usB.map V.ref)) p2=some (.lst (usB.map V.ref)):=za;have hB1:=zL s12 hB1;generalize upd H11 p2 (.lst (usB.map V.ref))=H12 at s12 g12 hB1 |-;have s912:zq H9 H12:=s10.trans (s11.trans s12);have lB1:usB.length<=1:=by rw[hB1.length];exact one hBB
  exists x2,p2,_,_,rfl,rfl,s912 _ _ g9,g12,yg (by rw[aA,aA,aG,aG];omega),fun x3 hx3=>?_
  rw[<- aE];have s13:=ze hx3 (.lst ((us1++usT++us3++usB).map V.ref));have M13:FM (cs.length+1+1) { S with T:=T1,B:=B1 }:=by
   rcases hBB with rfl|rfl
   ·exact M7.add (k:=4) (b:=true) ⋯ hz2 (fun e=>by cases e)
   ·rw[show({ S with T:=T1,B:=[] }:FS)={ S with T:=T1 } by cases S;cases eB;rfl]
    exact⟨M7.okP,M7.okT,M7.okG,M7.okB,M7.lT,M7.lB,M7.nd,M7.sn,le_succ_of_le M7.ln,le_succ_of_le M7.lL⟩
  have s713:=(s8.trans s9).trans (s912.trans s13);refine q x3 _ _ _ (I7.sm.trans s713) (I7.sm.free ((s8.trans s9).free (s912.free hx3))) za ?_ (FM.vr M13 ∅) (fun z hz=>pL z (M13.sn z (by
   have n1:nms T1=[]:=uw M13.okT rfl;have n2:nms B1=[]:=uw M13.okB rfl;unfold FS.rows at hz;rw[yZ,yZ,yZ] at hz;dsimp only at hz;rw[n1,n2,append_nil,append_nil] at hz;exact hz))) ⟨_,rfl,⟨M13.okP,M13.okT,M13.okG,M13.okB,M13.lT,M13.lB,M13.nd,M13.sn,le_trans M13.ln ∅,le_trans M13.lL ∅⟩,by show S.P.length+S.G.length<=22;omega⟩
  exact zX (zX (zX (zL s713 h12) (zL s713 hT1)) (zL s713 h32)) (zL s13 hB1)
theorem zcp(ns:List Int)(a b:Nat):∃ms:List Int,wg (ns.map V.int) (some (a:Int)) (some (b:Int))=ms.map V.int/\ms.length<=b - a:=by
 exists (ns.drop (min a ns.length)).take (min b ns.length - min a ns.length),?_,?_
 ·unfold wg
  rw[HT.zmI,HT.zmI,aA,map_take,map_drop]
 ·rw[length_take,length_drop]
  omega
def zjL(H:Hp)(zs:List Str)(Q:VK):Prop:=∀la us rows H',zq H H'->H la=none->H' la=some (.lst (us.map V.ref))->Paired (TAt H') us rows->VR rows->(∀z∈nms rows,z∈zs)->(∃S:FS,rows=S.rows/\FM 24 S/\S.P.length+S.G.length<=22)->Q (.ref la) H'
theorem zjL.of{Q:VK}(h:zjL H zs Q)(s:zq H H1):zjL H1 zs Q:=fun la us rows H' s' n e p v z S=>h la us rows H' (s.trans s') (s.free n) e p v z S
inductive zfO(K:Frag)(vs:List V)(H:Hp)(Q:VK)(E:XK):Prop|mk(sa pa:Addr)(ns:List Int)(k:Nat)(zs:List Str)(ends:Int):vs=[.ref sa,.int (k:Nat),.ref pa,.int ends]->SqL K H sa (ns.map V.int)->ns.length<=63->(k=4\/k=5)->H pa=some (.lst (zs.map V.str))->PL zs->(zjL H zs Q)->zfO K vs H Q E
theorem zmo:([Str.ofString "_law_j",Str.ofString "_law_cell"]:List Str).Nodup:=by decide +kernel
theorem zf1:zv ["_law_script","_law_k","_law_pool_here","_law_ends","_law_cells"] ["_law_script","_law_k","_law_pool_here","_law_ends"] (zk zbd):=fsc
theorem ziY(F:Fun K "_law_row_at" "_law_row_at" zbd f fd)(hen:mg "enumerate"=none)(cN:⇑1 "_law_nth" g1 e1 ["_law_script","_law_k"] (za2 K))(cR:⇑1 "_law_row" g2 e2 ["_law_numbers","_law_pool_here","_law_ends"] (zjT K))(cD:⇑2 "_law_digits" g3 e3 ["_law_cell","_law_most","_law_base"] vS)(cS:⇑1 "_law_stirred" g4 e4 ["_law_cell","_law_k"] za0):↥3 f fd ["_law_script","_law_k","_law_pool_here","_law_ends"] (zfO K):=by
 specialize zf1;obtain⟨sa,pa,ns,k,zs,ends,rfl,hS,h63,hk,hpa,pz,q⟩:=h;have hr1:yl 1 _:=hr.mono ⋯
 refine zE (zS (zw yK (zo zR (cF cN hr1 (ac (pv 0) (ac zf zc))) zf) zf (zM _)) (zg (zA (cF cR hr1 (ac (cF cD hr (ac (cF cN hr1 (ac (pv 0) (ac (pv 1) zc))) (ac zf (ac zf zc)))) (ac (pv 2) (ac (pv 3) zc)))))) zI) ?_;exists _,rfl,sa,ns,1,rfl,hS,h63,fun c1 H1 s1=>?_;exists _,_,rfl,rfl,zp2,rfl,_,rfl,?_;refine wf (fun _=>?_) (fun _=>?_)
 ·exists _,rfl,_,rfl,sa,ns,k,rfl,s1.seq hS,h63,fun c2 H2 s2=>?_
  exists c2,22,768,rfl,⋯,⋯,⋯,fun ld ds H3 s3 nld hld lds=>?_
  have s03:=s1.trans (s2.trans s3);exact⟨_,rfl,_,rfl,ld,pa,ds,zs,ends,rfl,zh hld,lds,s03 _ _ hpa,pz,q.of s03⟩
 obtain⟨a,b,ea,eb,hab⟩:∃a b:Nat,4+20 * (((k:Nat):Int) - 4)=((a:Nat):Int)/\24+20 * (((k:Nat):Int) - 4)=((b:Nat):Int)/\b - a<=20:=by
  rcases hk with rfl|rfl
  ·exact⟨4,24,rfl,rfl,⋯⟩
  ·exact⟨24,44,rfl,rfl,⋯⟩
 refine zf1[4]'(yp yC (pv 0) (yn (zo yF zf (zo y8 zf (zo jB (pv 1) zf)))) (yn (zo yF zf (zo y8 zf (zo jB (pv 1) zf)))));exists _,rfl,_,rfl,_,_,rfl,rfl,_,_,rfl,rfl,.inl ⟨⋯,⋯⟩,_,_,rfl,rfl,_,rfl,_,rfl,_,_,rfl,rfl,_,_,rfl,rfl,.inl ⟨⋯,⋯⟩,_,_,rfl,rfl,_,rfl,sa,_,rfl,s1.seq hS,fun ca hca=>?_
 obtain⟨cs,ec,lc⟩:=zcp ns a b;rw[ea,eb,ec];have s2:=ze hca (.lst (cs.map V.int));have g2:upd H1 ca (.lst (cs.map V.int)) ca=some (.lst (cs.map V.int)):=za;have s02:=s1.trans s2;generalize upd H1 ca (.lst (cs.map V.int))=H2 at s2 g2 s02 |-;exfalso;refine⟨_,zg (zA (cF cR hr1 (ac (wC [] ["_law_j","_law_cell"] [none,none] rfl ⟨rfl,rfl,rfl,rfl⟩ (wc rfl hen (ac (pv 4) zc)) (xY (K:=K) (n:=2) 0 1) rfl rfl rfl
   (fun pins fp s H C=>⟨yB rfl (zB (zr (i:=0) zmo rfl (Or.inl rfl) (.inr rfl)) (zB (zr (i:=1) zmo rfl (Or.inl rfl) (.inr rfl)) yi)),yV,cF cS hr1 (ac (pv 1) (ac (pv 0) zc))⟩)) (ac (pv 2) (ac (pv 3) zc))))),?_⟩
 exists _,rfl,ca,rfl,⟨_,zh g2⟩,fun D hD=>?_;refine zep (K:=K) (xs:=cs.map V.int) (fun i ys H'=>zq H2 H'/\H' D=some (.lst ys)/\∃ms:List Int,ys=ms.map V.int/\ms.length=i) ⟨ze hD _,za,[],rfl,rfl⟩ (fun i ys H' h=>h.1.seq (zh g2)) ?_ ?_
 ·rintro i x p ys H' hi hx ⟨sH,hDy,ms,ey,el⟩ hpn
  obtain⟨n,hn,rfl⟩:=wU hx;have sp:=ze hpn (.tup [.int (i:Nat),.int n]);exists p,_,rfl,zF za,rfl,_,_,rfl,_,_,rfl,rfl,?_;have sA:=sH.trans sp;have hDy:=sp _ _ hDy;generalize upd H' p (.tup [.int (i:Nat),.int n])=H3 at sp hDy sA |-;rw[aA] at hi;exists fun _=>⟨_,rfl,_,rfl,n,_,rfl,?_⟩,fun z=>absurd z ⋯
  exact lcN.mk (by rw[aA];exact hi) (by rw[aA];exact yg ∅) hDy (by rw[ey,aA];omega) ⟨yy sA hD _,za,ms++[_],by rw[ey,aE];rfl,by rw[aG,el];rfl⟩
 ·rintro ys H3 ⟨sH,hDy,ms,ey,el⟩
  rw[aA] at el;have s03:=s02.trans sH;exact⟨_,rfl,_,rfl,D,pa,ms,zs,ends,rfl,zh (by rw[hDy,ey]),∅,s03 _ _ hpa,pz,q.of s03⟩
theorem zdF{κ : Type}[DecidableEq κ]{kvs:List (κ×V)}{k k' : κ}:yq (xB kvs k v) k'=if k'=k then some v else yq kvs k':=zbI kvs k k' v
theorem qJ(r:Rw)(rs:List Rw):nms (r::rs)=(if yt r.k=true then [r.z] else [])++nms rs:=by
 have:=yZ [r] rs
 rw[qb] at this;exact this
theorem qY{z:Str}:∀(rows:List Rw) (i:Nat) (acc:List (Key×V)),z∉nms rows->yq (xn i acc rows) (.inr z)=yq acc (.inr z)
 | [],_,_,_=>rfl
 | r::rs,i,acc,h=>by
  rw[qJ] at h;have h2:z∉nms rs:=fun e=>h (mem_append_right _ e);show yq (xn (i+1) _ rs) (.inr z)=_;rw[qY rs (i+1) _ h2];split
  next e=>
   rw[zdF,aJ];intro e2;rw[aK e] at h;exact h (by rw[Sum.inr.inj e2];exact mem_append_left _ (List.mem_singleton.mpr rfl))
  ·rfl
theorem qZ{r:Rw}(hb:yt r.k=true):∀(rows:List Rw) (i j:Nat) (acc:List (Key×V)),rows[j]?=some r->(nms rows).Nodup->yq (xn i acc rows) (.inr r.z)=some (.int ((i+j:Nat):Int))
 | [],_,_,_,h,_=>by simp at h
 | y::ys,i,0,acc,h,nd=>by
  have e:y=r:=by simpa using h
  subst e;rw[qJ,aK hb] at nd;have hz:y.z∉nms ys:=(List.nodup_cons.mp nd).1;show yq (xn (i+1) (if yt y.k=true then xB acc (.inr y.z) (.int i) else acc) ys) (.inr y.z)=_
  rw[qY ys (i+1) _ hz,aK hb,zdF,aK rfl];rfl
 | y::ys,i,j+1,acc,h,nd=>by
  rw[qJ] at nd;have nd2:=(List.nodup_append.mp nd).2.1;show yq (xn (i+1) _ ys) (.inr r.z)=_;rw[qZ hb ys (i+1) j _ (by simpa using h) nd2,show i+1+j=i+(j+1) by omega]
theorem zhP{p:Str×Nat}:∀(zs:List Str) (i:Nat) (acc:List (Str×Nat)),p∈fpF i acc zs->p∈acc\/p.1∈zs
 | [],_,_,h=>.inl h
 | z::zs,i,acc,h=>by
  have h':p∈fpF (i+1) (if (acc.any fun p=>decide (p.1=z))=true then acc else acc++[(z,i)]) zs:=h
  rcases zhP zs (i+1) _ h' with h1|h1
  ·split at h1
   ·exact .inl h1
   ·rcases List.mem_append.mp h1 with h2|h2
    ·exact .inl h2
    ·rw[List.mem_singleton.mp h2]
     exact .inr mem_cons_self
  ·exact .inr (mem_cons_of_mem _ h1)
theorem zie{many:Nat}(h:∀z∈zs,yx rows bars many z=none):vf rows bars many (fpZ zs)=[]:=by
 unfold vf;rw[List.filterMap_eq_nil_iff];intro p hp;rcases zhP zs 0 [] hp with h1|h1
 ·cases h1
 ·rw[h p.1 h1]
  rfl
theorem zcl:∀(zs:List Str) (i:Nat) (acc:List (Str×Nat)),zs.Nodup->(∀z∈zs,(acc.any fun p=>decide (p.1=z))=false)->fpF i acc zs=acc++(List.range zs.length).map fun j=>(zs.getD j "",i+j)
 | [],_,acc,_,_=>by show acc=acc++[];rw[append_nil]
 | z::zs,i,acc,nd,h=>by
  have hz:=h z mem_cons_self;have nd':=List.nodup_cons.mp nd;show fpF (i+1) (if (acc.any fun p=>decide (p.1=z))=true then acc else acc++[(z,i)]) zs=_
  rw[hz,aJ zft,zcl zs (i+1) _ nd'.2 fun y hy=>by
   rw[any_append,h y (mem_cons_of_mem _ hy),Bool.false_or]
   have:¬z=y:=fun e=>nd'.1 (e ▸ hy)
   simp [this]]
  rw[append_assoc]
  congr 1
  rw[length_cons,List.range_succ_eq_map,map_cons,map_map];show(z,i)::_=_::_
  congr 1
  apply List.map_congr_left
  intro j _;show(zs.getD j "",i+1+j)=((z::zs).getD (j+1) "",i+(j+1));rw[show i+1+j=i+(j+1) by omega]
  rfl
theorem uT(a b:List (Str×Nat)):nlF (a++b)=(nlF a).or (nlF b):=find?_append
theorem zel(many:Nat)(fk:List (Key×V))(rows:List Rw)(i:Nat):nlF (ub many fk i rows)=none:=by
 refine List.find?_eq_none.mpr fun m h=>?_
 have:m.1="lacking":=by
  induction rows generalizing i with
  | nil=>cases h
  | cons r rs ih=>
   rcases List.mem_append.mp h with h|h
   ·split at h
    ·rw[List.mem_singleton.mp h]
    ·cases h
   ·exact ih (i+1) h
 rw[this];decide +kernel
theorem zbr{m:Str×Nat}{ms:List (Str×Nat)}(h:m.1≠"lacking"):nlF (m::ms)=some m:=by
 unfold nlF;rw[find?_cons,aC h]
theorem zid(h:yq (kvP a) (.inr z)=some v):yq (kvP (a++b)) (.inr z)=some v:=by
 unfold yq at h |-;unfold kvP at h |-;rw[aE,find?_append];cases e:(a.map fun p=>((Sum.inr p.1:Key),V.int (p.2:Nat))).find? fun kv=>decide (kv.1=.inr z) with
 | none=>rw[e] at h;cases h
 | some kv=>rw[e] at h;exact h
theorem zdG{i:Nat}(h:(a.any fun p=>decide (p.1=z))=false):yq (kvP (a++[(z,i)])) (.inr z)=some (.int (i:Nat)):=by
 have e0:yq (kvP a) (.inr z)=none:=by
  rw[<- jn] at h;exact Option.not_isSome_iff_eq_none.mp (by rw[h];exact zft)
 unfold yq at e0 |-;unfold kvP at e0 |-;rw[aE,find?_append];cases e:(a.map fun p=>((Sum.inr p.1:Key),V.int (p.2:Nat))).find? fun kv=>decide (kv.1=.inr z) with
 | none=>
  rw[Option.none_or,map_cons,find?_cons,aC rfl];rfl
 | some kv=>rw[e] at e0;cases e0
theorem qg{z:Str}{v:V}:∀(zs:List Str) (i:Nat) (acc:List (Str×Nat)),yq (kvP acc) (.inr z)=some v->yq (kvP (fpF i acc zs)) (.inr z)=some v
 | [],_,_,h=>h
 | y::ys,i,acc,h=>by
  show yq (kvP (fpF (i+1) (if (acc.any fun p=>decide (p.1=y))=true then acc else acc++[(y,i)]) ys)) _=_
  split
  ·exact qg ys (i+1) acc h
  ·exact qg ys (i+1) _ (zid h)
theorem zbC{acc:List (Str×Nat)}{z:Str}:(acc.any fun p=>decide (p.1=z))=decide (z∈acc.map (·.1)):=by
 rw[Bool.eq_iff_iff,any_eq_true,decide_eq_true_eq,mem_map];exact⟨fun⟨p,h1,h2⟩=>⟨p,h1,of_decide_eq_true h2⟩,fun⟨p,h1,h2⟩=>⟨p,h1,aC h2⟩⟩
theorem zaR{z:Str}:∀(zs:List Str) (i j:Nat) (acc:List (Str×Nat)),(∀p∈acc,p.2<i)->(∀j',j'<j->∀y,zs[j']?=some y->y∉acc.map (·.1)++zs.take j')->zs[j]?=some z->z∈acc.map (·.1)++zs.take j->∃wu,uf (kvP (fpF i acc zs)) i zs=((("doubled" : Str),i+j):Str×Nat)::wu
 | [],_,_,_,_,_,h,_=>by simp at h
 | y::ys,i,0,acc,ha,_,h,hz=>by
  have e:y=z:=by simpa using h
  subst e;rw[take_zero,append_nil] at hz;have hany:(acc.any fun p=>decide (p.1=y))=true:=by rw[zbC];exact aC hz
  have hs:(yq (kvP acc) (.inr y)).isSome=true:=by rw[jn];exact hany
  obtain⟨v,hv⟩:=Option.isSome_iff_exists.mp hs;obtain⟨z',j,ez,rfl,hm⟩:=zbs hv;have hj:=ha _ hm;show ∃wu,(if yq (kvP (fpF i acc (y::ys))) (.inr y)=some (.int (i:Nat)) then [] else [(("doubled" : Str),i)])++_=_
  rw[qg (y::ys) i acc hv,aJ (fun e=>by
   have e1:=V.int.inj (Option.some.inj e);have hj:j<i:=hj
   omega)]
  exact⟨_,rfl⟩
 | y::ys,i,j+1,acc,ha,hn,h,hz=>by
  have hy:=hn 0 (succ_pos _) y rfl;rw[take_zero,append_nil] at hy;have hany:(acc.any fun p=>decide (p.1=y))=false:=by rw[zbC];exact aD hy
  have ef:fpF i acc (y::ys)=fpF (i+1) (acc++[(y,i)]) ys:=by
   show fpF (i+1) (if (acc.any fun p=>decide (p.1=y))=true then acc else acc++[(y,i)]) ys=_
   rw[hany,aJ zft]
  have em:∀k,(acc++[(y,i)]).map (·.1)++ys.take k=acc.map (·.1)++(y::ys).take (k+1):=fun k=>by simp
  obtain⟨wu,hr⟩:=zaR (z:=z) ys (i+1) j (acc++[(y,i)]) (fun p hp=>by
   rcases List.mem_append.mp hp with hp|hp
   ·have:=ha p hp;omega
   ·rw[List.mem_singleton.mp hp];exact lt_succ_self _) (fun j' hj' x hx=>by
   rw[em];exact hn (j'+1) ∅ x (by simpa using hx)) (by simpa using h) (by rw[em];exact hz)
  exists wu,?_;show(if yq (kvP (fpF i acc (y::ys))) (.inr y)=some (.int (i:Nat)) then [] else [(("doubled" : Str),i)])++uf (kvP (fpF i acc (y::ys))) (i+1) ys=_
  rw[ef,qg ys (i+1) _ (zdG hany),aK rfl,nil_append,hr,show i+1+j=i+(j+1) by omega]
theorem zco:∀(zs:List Str) (i:Nat) (acc:List (Str×Nat)),(∀j y,zs[j]?=some y->y∉acc.map (·.1)++zs.take j)->uf (kvP (fpF i acc zs)) i zs=[]
 | [],_,_,_=>rfl
 | y::ys,i,acc,hn=>by
  have hy:=hn 0 y rfl;rw[take_zero,append_nil] at hy;have hany:(acc.any fun p=>decide (p.1=y))=false:=by rw[zbC];exact aD hy
  have ef:fpF i acc (y::ys)=fpF (i+1) (acc++[(y,i)]) ys:=by
   show fpF (i+1) (if (acc.any fun p=>decide (p.1=y))=true then acc else acc++[(y,i)]) ys=_
   rw[hany,aJ zft]
  have em:∀k,(acc++[(y,i)]).map (·.1)++ys.take k=acc.map (·.1)++(y::ys).take (k+1):=fun k=>by simp
  show(if yq (kvP (fpF i acc (y::ys))) (.inr y)=some (.int (i:Nat)) then [] else [(("doubled" : Str),i)])++uf (kvP (fpF i acc (y::ys))) (i+1) ys=_
  rw[ef,qg ys (i+1) _ (zdG hany),aK rfl,nil_append];exact zco ys (i+1) (acc++[(y,i)]) fun j x hx=>by
   rw[em];exact hn (j+1) x (by simpa using hx)
def ui(zs:List Str):Prop:=∀(j:Nat) y,zs[j]?=some y->y∉zs.take j
theorem ui.nd:∀{zs:List Str},ui zs->zs.Nodup:=fun {zs} h=>by
 refine List.pairwise_iff_getElem.mpr fun i j hi hj hij e=>?_;refine h j zs[j] (aB hj) ?_;exact aH (i:=i) (by rw[getElem?_take,aK hij,aB hi,e])
theorem zlr{many j:Nat}(hn:∀j',j'<j->∀y,zs[j']?=some y->y∉zs.take j')(hz:zs[j]?=some z)(hm:z∈zs.take j):nlF (xP rows bars many zs)=some ((("doubled" : Str),j):Str×Nat):=by
 obtain⟨wu,h⟩:=zaR (z:=z) zs 0 j [] (fun _ h=>nomatch h) hn hz hm;have h':uf (kvP (fpZ zs)) 0 zs=((("doubled" : Str),0+j):Str×Nat)::wu:=h;unfold xP;rw[uT,uT,uT,h',zbr (show("doubled" : Str)≠"lacking" by decide +kernel),Nat.zero_add]
 rfl
theorem uU{many:Nat}(hn:ui zs):nlF (xP rows bars many zs)=(nlF (wj rows many)).or (nlF (vf rows bars many (fpZ zs))):=by
 have h':uf (kvP (fpZ zs)) 0 zs=[]:=zco zs 0 [] hn;unfold xP;rw[uT,uT,uT,h',zel,or_none];rfl
theorem zjw{many:Nat}(hn:ui zs)(h1:plN rows<many)(h2:(zN 2 0 rows).isSome=false):nlF (xP rows bars many zs)=some ((("over" : Str),plN rows):Str×Nat):=by
 rw[uU hn]
 have:wj rows many=((("over" : Str),plN rows):Str×Nat)::((List.range (many - plN rows - 1)).map fun i=>((("over" : Str),plN rows+(i+1)):Str×Nat)):=by
  unfold wj;rw[h2,aJ zft,show many - plN rows=(many - plN rows - 1)+1 by omega,List.range_succ_eq_map,map_cons,map_map]
  rfl
 rw[this,zbr (show("over" : Str)≠"lacking" by decide +kernel)]
 rfl
theorem zei{many:Nat}(h:many<=plN rows\/(zN 2 0 rows).isSome=true):wj rows many=[]:=by
 unfold wj;rcases h with h|h
 ·split
  ·rfl
  ·rw[show many - plN rows=0 by omega]
   rfl
 ·rw[aK h]
theorem zno(nd:zs.Nodup):fpZ zs=(List.range zs.length).map fun j=>(zs.getD j "",0+j):=by
 have:=zcl zs 0 [] nd fun _ _=>rfl
 rw[nil_append] at this;exact this
theorem zdt{α : Type}(g:Nat->Option α):∀(n j:Nat) (x:α),j<n->(∀j',j'<j->g j'=none)->g j=some x->∃wu,(List.range n).filterMap g=x::wu:=by
 intro n j x hj hn hg;obtain⟨m,rfl⟩:∃m,n=j+(m+1):=⟨n - j - 1,∅⟩
 exists (((List.range m).map (·+1)).map (j+·)).filterMap g,?_;rw[List.range_add,List.filterMap_append,List.filterMap_eq_nil_iff.mpr (fun a h=>hn a (List.mem_range.mp h)),nil_append,List.range_succ_eq_map,map_cons,filterMap_cons,Nat.add_zero,hg]
theorem zlq{many j:Nat}(hn:ui zs)(ho:many<=plN rows\/(zN 2 0 rows).isSome=true)(hp:∀j',j'<j->∀y,zs[j']?=some y->yx rows bars many y=none)(hz:zs[j]?=some z)(hw:yx rows bars many z=some wd)(hl:wd≠"lacking"):nlF (xP rows bars many zs)=some (wd,j):=by
 rw[uU hn,zei ho];have hj:j<zs.length:=(List.getElem?_eq_some_iff.mp hz).1;obtain⟨wu,h⟩:=zdt (fun i=>(yx rows bars many (zs.getD i "")).map fun wd=>(wd,0+i)) zs.length j (wd,0+j) hj (fun j' hj'=>by
  have e:zs[j']?=some zs[j']:=aB ∅
  show Option.map _ (yx rows bars many (zs.getD j' ""))=none;rw[getD_eq_getElem?_getD,e];show Option.map _ (yx rows bars many zs[j'])=none;rw[hp j' hj' _ e]
  rfl) (by
  show Option.map _ (yx rows bars many (zs.getD j ""))=_;rw[getD_eq_getElem?_getD,hz];show Option.map _ (yx rows bars many z)=_;rw[hw]
  rfl)
 have e:vf rows bars many (fpZ zs)=(wd,0+j)::wu:=by
  unfold vf;rw[zno hn.nd,List.filterMap_map,<- h];rfl
 rw[e,zbr hl,Nat.zero_add];rfl
theorem zbw{many:Nat}(hn:ui zs)(ho:many<=plN rows\/(zN 2 0 rows).isSome=true)(hp:∀z∈zs,yx rows bars many z=none):nlF (xP rows bars many zs)=none:=by
 rw[uU hn,zei ho,zie hp];rfl
theorem zdc{k:Nat}(h:k<5):xV k=decide (grp k=0):=by
 rcases lt5 h with rfl|rfl|rfl|rfl|rfl <;> rfl
theorem zj2:∀(rows:List Rw) (l:Nat),1<=l->(∀r∈rows,r.ok)->xw l rows=true->rows.filter (fun r=>xV r.k)=[]
 | [],_,_,_,_=>rfl
 | r::rs,l,hl,hok,ho=>by
  have ho':(!ug l (grp r.k)&&xw (grp r.k) rs)=true:=ho;rw[Bool.and_eq_true] at ho';have hg : 1<=grp r.k:=by
   refine Nat.pos_of_ne_zero fun e=>?_;rw[e] at ho'
   have:ug l 0=true:=by
    unfold ug;rw[aC (show 0<l by omega)]
    rfl
   rw[this] at ho';cases ho'.1
  have hb:xV r.k=false:=by rw[zdc (hok r mem_cons_self).1];exact aD ∅
  rw[filter_cons,hb,aJ zft];exact zj2 rs (grp r.k) hg (fun x hx=>hok x (mem_cons_of_mem _ hx)) ho'.2
theorem qC:∀(rows:List Rw),(∀r∈rows,r.ok)->xw 0 rows=true->rows.filter (fun r=>xV r.k)=rows.take (plN rows)
 | [],_,_=>rfl
 | r::rs,hok,ho=>by
  have ho':(!ug 0 (grp r.k)&&xw (grp r.k) rs)=true:=ho;rw[Bool.and_eq_true] at ho';have hok':∀x∈rs,x.ok:=fun x hx=>hok x (mem_cons_of_mem _ hx);cases hb:xV r.k with
  | true=>
   have hg:grp r.k=0:=by
    rw[zdc (hok r mem_cons_self).1] at hb;exact of_decide_eq_true hb
   rw[hg] at ho';have ih:=qC rs hok' ho'.2;have e:plN (r::rs)=plN rs+1:=by unfold plN;rw[filter_cons,hb,aK rfl];rfl
   rw[e,filter_cons,hb,aK rfl,List.take_succ_cons,ih]
  | false=>
   have hg : 1<=grp r.k:=by
    rw[zdc (hok r mem_cons_self).1] at hb;exact Nat.pos_of_ne_zero (of_decide_eq_false hb)
   have h0:=zj2 rs (grp r.k) hg hok' ho'.2;have e:plN (r::rs)=0:=by unfold plN;rw[filter_cons,hb,aJ zft,h0];rfl
   rw[e,filter_cons,hb,aJ zft,h0];rfl
def ue(rows:List Rw)(many:Nat):List Str:=(((rows.filter fun r=>xV r.k).take many).filter fun r=>decide (r.k=1)).map (·.z)
theorem zet(V1:VR rows){many:Nat}:z∈ue rows many ↔ ∃(l:Nat) (r:Rw),rows[l]?=some r/\l<plN rows/\l<many/\r.k=1/\r.z=z:=by
 unfold ue;rw[qC rows V1.ok V1.ord,take_take,mem_map];constructor
 ·rintro⟨r,hr,rfl⟩
  rw[List.mem_filter] at hr;obtain⟨l,hl⟩:=List.mem_iff_getElem?.mp hr.1;have hlt:=(List.getElem?_eq_some_iff.mp hl).1;rw[length_take] at hlt;rw[getElem?_take,aK ∅] at hl
  exact⟨l,r,hl,∅,∅,of_decide_eq_true hr.2,rfl⟩
 ·rintro⟨l,r,hl,h1,h2,hk,rfl⟩
  exists r,List.mem_filter.mpr ⟨List.mem_iff_getElem?.mpr ⟨l,?_⟩,aC hk⟩,rfl;rw[getElem?_take,aK ∅]
  exact hl
theorem zlb(h:z∈nms rows):∃(l:Nat) (r:Rw),rows[l]?=some r/\yt r.k=true/\r.z=z:=by
 unfold nms at h;obtain⟨r,hr,rfl⟩:=List.mem_map.mp h;rw[List.mem_filter] at hr;obtain⟨l,hl⟩:=List.mem_iff_getElem?.mp hr.1;exact⟨l,r,hl,hr.2,rfl⟩
theorem zaZ{many:Nat}(h:z∈bars):yx rows bars many z=some "barred":=aK h
theorem qh{many:Nat}(V1:VR rows)(h:z∉bars)(hg:z∈ue rows many):yx rows bars many z=some "again":=by
 obtain⟨l,r,hl,h1,h2,hk,rfl⟩:=(zet V1).mp hg;have hv:=qZ (r:=r) (by rw[hk];rfl) rows 0 l [] hl V1.nd
 have e1:yx.lastD' r.z rows=some l:=by unfold yx.lastD';rw[hv,Nat.zero_add];rfl
 unfold yx;rw[aJ h,e1];exact aK ⟨h1,h2⟩
theorem zcD{many:Nat}(h:z∉bars)(hk:z∉nms rows):yx rows bars many z=if (zN 4 0 rows).isSome=true then none else some ("strange" : Str):=by
 have hv:=qY (z:=z) rows 0 [] hk;have e1:yx.lastD' z rows=none:=by unfold yx.lastD';rw[hv];rfl
 unfold yx;rw[aJ h,e1]
theorem zfG{many:Nat}(V1:VR rows)(h:z∉bars)(hg:z∉ue rows many)(hk:z∈nms rows):yx rows bars many z=none:=by
 obtain⟨l,r,hl,hb,rfl⟩:=zlb hk;have hv:=qZ hb rows 0 l [] hl V1.nd;have e1:yx.lastD' r.z rows=some l:=by unfold yx.lastD';rw[hv,Nat.zero_add];rfl
 unfold yx;rw[aJ h,e1];refine aJ fun⟨h1,h2⟩=>hg ((zet V1).mpr ⟨l,r,hl,h1,h2,?_,rfl⟩);have hm:r∈rows.filter fun r=>xV r.k:=by
  rw[qC rows V1.ok V1.ord];exact List.mem_iff_getElem?.mpr ⟨l,by rw[getElem?_take,aK h1];exact hl⟩
 have hp:xV r.k=true:=(List.mem_filter.mp hm).2;have ho:=(V1.ok r (aH hl)).1;unfold xV at hp;unfold yt at hb;simp only[Bool.or_eq_true,beq_iff_eq] at hp hb;omega
theorem jV(kk:Nat):∀(rows:List Rw) (i:Nat),(zN kk i rows).isSome=rows.any fun r=>decide (r.k=kk)
 | [],_=>rfl
 | r::rs,i=>by
  show(if r.k=kk then some i else zN kk (i+1) rs).isSome=(decide (r.k=kk)||rs.any _)
  by_cases h:r.k=kk
  ·rw[aK h,aC h];rfl
  ·rw[aJ h,aD h,Bool.false_or];exact jV kk rs (i+1)
def jw(rows:List Rw):List Str:=rows.map fun r=>kw r.k
theorem zjo:∀a,a<5->∀b,b<5->kw a=kw b->a=b:=by decide +kernel
theorem zbR(hok:∀r∈rows,r.ok){kk:Nat}(h:kk<5):decide (kw kk∈jw rows)=(zN kk 0 rows).isSome:=by
 rw[jV,Bool.eq_iff_iff,decide_eq_true_eq,any_eq_true];unfold jw;rw[mem_map];exact⟨fun⟨r,h1,h2⟩=>⟨r,h1,aC (zjo _ (hok r h1).1 _ h h2)⟩,fun⟨r,h1,h2⟩=>⟨r,h1,by rw[of_decide_eq_true h2]⟩⟩
theorem vC{K:Frag}{ok:Addr->Prop}{H3:Hp}{o:HO}{l:Addr}(hl:H3 l=none\/(∃zs,H3 l=some (.lst zs))):∀{ps:List (Str×Int)}{zs:List V},Paired (zJ K ok H3 1) zs (ps.map yT)->Paired (zJ K ok (upd H3 l o) 1) zs (ps.map yT)
 | [],_,r=>by cases r;exact .nil
 | p::ps,_,r=>by
  cases r with
  | cons h r=>
   refine .cons ?_ (vC hl r);obtain⟨b,ws,rfl,hS',r'⟩:=wb h;exact .tup (zbM hl hS') (zu (fun _ _ z=>z) r')
theorem zcj{c:List ym}{i:Nat}{d:Dt}(h:(c.map yj)[i]?=some d):∃it,c[i]?=some it/\yj it=d:=by
 rw[getElem?_map] at h;cases e:c[i]? with
 | none=>rw[e] at h;cases h
 | some it=>rw[e] at h;exact⟨it,rfl,Option.some.inj h⟩
theorem um:zv ["_law_items_here","_law_things","_law_pairs","_law_item_here"] ["_law_items_here"] (zk zc0):=fsc
theorem zhc(F:Fun K "_law_laid" "_law_laid" zc0 f fd)(U:zlw mg):↥1 f fd ["_law_items_here"] (uN K):=by
 specialize um;obtain⟨a,c,xs,rfl,hS,hc,hT,hP,q⟩:=h;refine⟨_,zm (zx (i:=1) um.nd rfl (Or.inl rfl) (zP zc)) (zm (zx (i:=2) um.nd rfl (Or.inl rfl) (zP zc))
  (zm (yS PassesOwn.never rfl (z7 (pv 0)) (zr (i:=3) um.nd rfl (Or.inl rfl))
   (zg (zS (zw yK (zV yd (pv 3) zf (fun _ _=>rfl)) zy (zM _)) (zg (zW (xh PySem.F.plainAttrs_list PySem.F.slot_list_append PySem.F.type_list_append z9 (pv 1) (ac (zV yd (pv 3) zf (fun _ _=>rfl)) zc))))
    (zg (zS (zw yK (zV yd (pv 3) zf (fun _ _=>rfl)) zy (zM _)) (zg (zx (i:=1) um.nd rfl (Or.inl rfl) (zo yr (pv 1) (cTy yP U.list PyProof.Rows.boot_list (ac (zV yd (pv 3) zf (fun _ _=>rfl)) zc)))))
     (zg (zS (zw yK (zV yd (pv 3) zf (fun _ _=>rfl)) zy (zM _)) (zg (zW (xh PySem.F.plainAttrs_list PySem.F.slot_list_append PySem.F.type_list_append z9 (pv 2) (ac (zT (ac (zV yd (pv 3) zf (fun _ _=>rfl)) (ac (zV yd (pv 3) zf (fun _ _=>rfl)) zc))) zc))))
      (zg (zx (i:=2) um.nd rfl (Or.inl rfl) (zo yr (pv 2) (cTy yP U.list PyProof.Rows.boot_list (ac (zV yd (pv 3) zf (fun _ _=>rfl)) zc))))))))))))
  (zg (zA (zT (ac (pv 1) (ac (pv 2) zc))))))),?_⟩
 exists xS,fun l1 h1=>?_;exists xS,fun l2 h2=>?_;have n12:l1≠l2:=zi za h2;have f2:H l2=none:=(ze h1 _).free h2;have s0:zq H (upd (upd H l1 (.lst [])) l2 (.lst [])):=(ze h1 _).trans (ze h2 _);refine⟨_,rfl,a,rfl,⟨_,s0.seq hS⟩,xE (K:=K) (a:=a) (xs:=xs) (fun i σ H2=>∃l1 l2 v3 ys,σ=[~~~a,~~~l1,~~~l2,v3]/\l1≠l2/\H l1=none/\H l2=none/\zq H H2/\H2 l1=some (.lst ((zC (c.take i)).map V.int))/\H2 l2=some (.lst ys)/\Paired (zJ K T' H2 1) ys ((zG (c.take i)).map yT))
  ⟨l1,l2,_,[],rfl,n12,h1,f2,s0,by rw[zj n12,za];rfl,za,.nil⟩ (fun i σ H2 _ ⟨_,_,_,_,_,_,_,_,s2,_⟩=>s2.seq hS) ?_ ?_⟩
 ·clear n12 f2 s0 h2 h1 l1 l2
  rintro i y σ H2 hi ⟨l1,l2,v3,ys,rfl,n12,h1,f2,s2,g1,g2,gp⟩;obtain⟨d,hd,hy⟩:=Paired.get hc hi;obtain⟨it,hit,rfl⟩:=zcj hd;have hy2:=hy.same s2;have eT:=uW c i it hit;have eP:=uX c i it hit;have lT:=vp c i;have lP:=vq c i;have lT1:=vp c (i+1);have lP1:=vq c (i+1);have lys:ys.length=(zG (c.take i)).length:=by rw[gp.length,aA]
  cases it with
  | one t=>
   obtain⟨b,rfl,hb⟩:=zci hy2;exists _,rfl,b,_,_,.str "one",rfl,rfl,hb,rfl,rfl,_,rfl,?_;refine dT rfl ?_;exists _,rfl,.inl ⟨rfl,_,zh g1⟩,_,rfl,b,_,_,.int t,rfl,rfl,hb,rfl,l1,_,_,rfl,rfl,g1,?_,?_
   ·rw[aA];exact zY ∅
   ·exists l1,l2,_,ys,rfl,n12,h1,f2,yy s2 h1 _,?_,?_,?_
    ·rw[za,eT,aE];rfl
    ·rw[zj n12.symm];exact g2
    ·rw[eP];show Paired _ _ ((zG (c.take i)++[]).map yT);rw[append_nil];exact vC (.inr ⟨_,g1⟩) gp
  | row ts=>
   obtain⟨b,bl,rfl,hb,_,hbl⟩:=zch hy2;exists _,rfl,b,_,_,.str "row",rfl,rfl,hb,rfl,rfl,_,rfl,?_;refine dF ne1 ?_;exists _,rfl,b,_,_,.str "row",rfl,rfl,hb,rfl,rfl,_,rfl,?_;refine dT rfl ?_;exists _,rfl,_,rfl,b,_,_,.ref bl,rfl,rfl,hb,rfl,bl,_,rfl,.inl (zh hbl),fun l hl=>?_;have s3:=ze hl (.lst (ts.map V.int));have e1:(zC (c.take (i+1))).length=(zC (c.take i)).length+ts.length:=by rw[eT,aG];rfl
   exists l1,l,_,_,rfl,rfl,s3 _ _ g1,za,(by rw[aA,aA];exact yg ∅),fun l' hl'=>?_
   have s4:=s3.trans (ze hl' (.lst ((zC (c.take i)).map V.int++ts.map V.int)));exists l',l2,_,ys,rfl,(zi (s3 _ _ g2) hl').symm,s2.free (s3.free hl'),f2,s2.trans s4,?_,s4 _ _ g2,?_
   ·rw[za,eT,aE];rfl
   ·rw[eP];show Paired _ _ ((zG (c.take i)++[]).map yT);rw[append_nil];exact xC s4 gp
  | named z t=>
   obtain⟨b,rfl,hb⟩:=qT hy2;exists _,rfl,b,_,_,.str "named",rfl,rfl,hb,rfl,rfl,_,rfl,?_;refine dF ne2 ?_;exists _,rfl,b,_,_,.str "named",rfl,rfl,hb,rfl,rfl,_,rfl,?_;refine dF ne4 ?_;exists _,rfl,b,_,_,.str "named",rfl,rfl,hb,rfl,rfl,_,rfl,?_;refine dT rfl ?_;exists _,rfl,.inl ⟨rfl,_,zh g2⟩,_,rfl,b,_,_,.str z,rfl,rfl,hb,rfl,_,rfl,b,_,_,.int t,rfl,rfl,hb,rfl,yA,fun p hp=>?_;have np2:l2≠p:=zi g2 hp;have np1:l1≠p:=zi g1 hp;have fp:H p=none:=s2.free hp;exists l2,_,_,rfl,rfl,(by rw[zj np2];exact g2),?_,?_
   ·rw[lys];exact zY ∅
   ·exists l1,l2,_,ys++[.ref p],rfl,n12,h1,f2,yy (yy s2 fp _) f2 _,?_,za,?_
    ·rw[zj n12,zj np1,g1,eT];show _=some (HO.lst ((zC (c.take i)++[]).map V.int));rw[append_nil]
    ·rw[eP,aE]
     refine zX (vC (.inr ⟨_,by rw[zj np2];exact g2⟩) (vC (.inl hp) gp)) (.cons (.tup (xs:=[.str z,.int t]) (zF ?_) (.cons .str (.cons .int .nil))) .nil)
     rw[zj np2.symm,za]
  | book ps=>
   obtain⟨b,bl,zs,rfl,hb,_,hbl,hz⟩:=zaJ hy2;exists _,rfl,b,_,_,.str "book",rfl,rfl,hb,rfl,rfl,_,rfl,?_;refine dF ne3 ?_;exists _,rfl,b,_,_,.str "book",rfl,rfl,hb,rfl,rfl,_,rfl,?_;refine dF ne5 ?_;exists _,rfl,b,_,_,.str "book",rfl,rfl,hb,rfl,rfl,_,rfl,?_;refine dF ne6 ?_;have lz:zs.length=ps.length:=by rw[hz.length,aA]
   exists _,rfl,_,rfl,b,_,_,.ref bl,rfl,rfl,hb,rfl,bl,_,rfl,.inl (zh hbl),fun l hl=>?_;have s3:=ze hl (.lst zs);have e1:(zG (c.take (i+1))).length=(zG (c.take i)).length+ps.length:=by rw[eP,aG];rfl
   exists l2,l,_,_,rfl,rfl,s3 _ _ g2,za,(by rw[lys,lz];exact yg ∅),fun l' hl'=>?_
   have s4:=s3.trans (ze hl' (.lst (ys++zs)));exists l1,l',_,ys++zs,rfl,zi (s3 _ _ g1) hl',h1,s2.free (s3.free hl'),s2.trans s4,?_,za,?_
   ·rw[s4 _ _ g1,eT];show _=some (HO.lst ((zC (c.take i)++[]).map V.int));rw[append_nil]
   ·rw[eP,aE]
    exact zX (xC s4 gp) (xC s4 hz)
 ·rintro σ H2 ⟨l1,l2,v3,ys,rfl,n12,h1,f2,s2,g1,g2,gp⟩
  exists _,rfl,_,rfl,yA,fun p hp=>?_;have hl:xs.length=c.length:=by rw[hc.length,aA]
  rw[hl,take_length] at g1 gp;refine q p _ (s2.trans (ze hp _)) ⟨l1,l2,ys,h1,f2,n12,s2.free hp,za,?_,?_,zu (fun _ _ z=>z.same (ze hp _)) gp⟩
  ·rw[zj (zi g1 hp)];exact g1
  ·rw[zj (zi g2 hp)];exact g2
theorem xZ{n:Nat}:wg xs none (some (n:Int))=xs.take n:=by
 unfold wg;rw[HT.zmI,HT.zl4,List.drop_zero,Nat.sub_zero];by_cases h:n<=xs.length
 ·rw[min_eq_left h]
 ·rw[Nat.min_eq_right ∅,take_of_length_le (le_refl _),take_of_length_le ∅]
theorem xU{α β : Type}{R : α->β->Prop}{a:List α}{c:List β}(h:Paired R a c):∀n,Paired R (a.take n) (c.take n):=by
 induction h with
 | nil=>intro n;rw[take_nil,take_nil];exact .nil
 | cons r _ ih=>
  intro n;cases n with
  | zero=>exact .nil
  | succ n=>exact .cons r (ih n)
abbrev wIn(K:Frag)(a b:Str):TT:=zat (tOp (rIn K false) (tOp (wv K) (ja 0) (tC (.int 0))) (zki (qj (tC (.str a)) (qj (tC (.str b)) zeP))))
variable {H:Hp}{us:List Addr}{rows:List Rw}{Q:VK}
theorem zeo{a D:Addr}{σ:L2.St}{ps:List (Str×Int)}{ys:List V}(hb:SqL K H a ys)(hp:Paired (zJ K T' H 1) ys (ps.map yT))(lp:ps.length<=900)(hD:H D=none)
  (q:∀H',zq H H'->H' D=some (.lst ((ps.map (·.1)).map V.str))->Q (.ref D) H'):LCr (Itl K a) [none,none] (zlp K 2 (qU (zK 0) (qU (zK 1) zjv))) zfJ (ja 0) σ H Q D:=by
 have ly:ys.length=ps.length:=by rw[hp.length,aA]
 refine zhz (K:=K) (xs:=ys) ps (fun _=>true) (fun p=>.str p.1) hD hb ly ∅ (fun i x y H' N S hx hy sH n1 s1=>?_) (fun H' sH hd=>q H' sH ?_)
 ·obtain⟨d,hd,hx1⟩:=Paired.get hp hx
  obtain⟨pr,hpr,rfl⟩:=jl hd;rw[hy] at hpr;cases hpr;obtain⟨bb,rfl,hbb⟩:=ut (n:=0) hx1;exact⟨bb,_,rfl,sH.sqT hbb,rfl,_,_,rfl,_,_,rfl,rfl,fun _=>⟨_,rfl,n1 _ (zq.refl _) rfl⟩,fun z=>absurd z ⋯⟩
 ·rw[List.filter_eq_self.mpr (fun _ _=>rfl)] at hd
  rw[map_map];exact hd
theorem zhy(ha:H a=some (.lst (us.map V.ref)))(hu:Paired (TAt H) us rows)(V1:VR rows)(hD:H D=none)
  (q:∀H',zq H H'->H' D=some (.lst ((jw rows).map V.str))->Q (.ref D) H'):LCr (Itl K a) [none] (zK 0) zfJ (tOp (wv K) (ja 0) (tC (.int 0))) σ H Q D:=by
 have l24:=V1.l24;refine vF (K:=K) TAt (fun _=>true) (fun _ r=>.str (kw r.k)) hD ha hu ∅ (fun i u r H' N S hu' hr' tr sH n1 s1=>?_) (fun H' sH hd=>q H' sH ?_)
 ·have rk:=V1.ok r (aH hr')
  exact⟨fun _=>⟨_,rfl,u,_,0,_,rfl,rfl,zF (sH _ _ tr),wG rk,n1 _ (zq.refl _) rfl⟩,fun z=>absurd z ⋯⟩
 ·rw[hd,uZ hu (fun _=>true) (fun r=>V.str (kw r.k)),List.filter_eq_self.mpr (fun _ _=>rfl)]
  unfold jw;rw[map_map];rfl
theorem zhC(ha:H a=some (.lst (us.map V.ref)))(hu:Paired (TAt H) us rows)(V1:VR rows)(hD:H D=none)
  (q:∀H',zq H H'->H' D=some (.lst ((nms rows).map V.str))->Q (.ref D) H'):LCr (Itl K a) [none] (zK 0) (wIn K "both" "tag") (tOp (wv K) (ja 0) (tC (.int 1))) σ H Q D:=by
 have l24:=V1.l24;refine vF (K:=K) TAt (fun r=>yt r.k) (fun _ r=>.str r.z) hD ha hu ∅ (fun i u r H' N S hu' hr' tr sH n1 s1=>?_) (fun H' sH hd=>q H' sH (by rw[hd,zek hu]))
 have rk:=V1.ok r (aH hr');have tu:=sH _ _ tr;exists _,rfl,u,_,0,_,rfl,rfl,zF tu,wG rk,yA,fun l hl=>?_;have s2:=ze hl (.lst [.str "both",.str "tag"]);exists l,_,rfl,.inl (zh za),rfl,rfl,_,rfl,?_;rw[aJ zft,zhK rk.1];exact⟨fun e=>⟨_,rfl,u,_,1,_,rfl,rfl,zF (s2 _ _ tu),vw rk,n1 _ s2 e⟩,fun e=>s1 _ s2 e⟩
theorem zff(ha:H a=some (.lst (us.map V.ref)))(hu:Paired (TAt H) us rows)(V1:VR rows)(hD:H D=none)
  (q:∀H' vs,zq H H'->H' D=some (.lst (vs.map V.ref))->Paired (TAt H') vs (rows.filter fun r=>xV r.k)->Q (.ref D) H'):LCr (Itl K a) [none] (zK 0) (wIn K "seat" "both") (ja 0) σ H Q D:=by
 have l24:=V1.l24;refine vF (K:=K) TAt (fun r=>xV r.k) (fun u _=>.ref u) hD ha hu ∅ (fun i u r H' N S hu' hr' tr sH n1 s1=>?_) (fun H' sH hd=>?_)
 ·have rk:=V1.ok r (aH hr')
  have tu:=sH _ _ tr;exists _,rfl,u,_,0,_,rfl,rfl,zF tu,wG rk,yA,fun l hl=>?_;have s2:=ze hl (.lst [.str "seat",.str "both"]);exists l,_,rfl,.inl (zh za),rfl,rfl,_,rfl,?_;rw[aJ zft,zhI rk.1];exact⟨fun e=>⟨_,rfl,n1 _ s2 e⟩,fun e=>s1 _ s2 e⟩
 ·obtain⟨vs,e,p⟩:=zaY hu (fun r=>xV r.k)
  rw[e] at hd;exact q H' vs sH hd (zL sH p)
theorem zjn(ha:H a=some (.lst (us.map V.ref)))(hu:Paired (TAt H) us rs)(hok:∀r∈rs,r.ok)(hl:rs.length<=500)(hD:H D=none)
  (q:∀H',zq H H'->H' D=some (.lst (((rs.filter fun r=>decide (r.k=1)).map (·.z)).map V.str))->Q (.ref D) H'):LCr (Itl K a) [none] (zK 0) (zat (tOp rEq (tOp (wv K) (ja 0) (tC (.int 0))) (tC (.str "both")))) (tOp (wv K) (ja 0) (tC (.int 1))) σ H Q D:=by
 refine vF (K:=K) TAt (fun r=>decide (r.k=1)) (fun _ r=>.str r.z) hD ha hu ∅ (fun i u r H' N S hu' hr' tr sH n1 s1=>?_) (fun H' sH hd=>q H' sH ?_)
 ·have rk:=hok r (aH hr')
  have tu:=sH _ _ tr;exists _,rfl,u,_,0,_,rfl,rfl,zF tu,wG rk,rfl,_,rfl,?_;have ek:decide (V.str (kw r.k)=V.str "both")=decide (r.k=1):=by
   rcases lt5 rk.1 with e|e|e|e|e <;> rw[e] <;> decide +kernel
  rw[ek];exact⟨fun e=>⟨_,rfl,u,_,1,_,rfl,rfl,zF tu,vw rk,n1 _ (zq.refl _) e⟩,fun e=>s1 _ (zq.refl _) e⟩
 ·rw[hd,uZ hu (fun r=>decide (r.k=1)) (fun r=>V.str r.z),map_map]
  rfl
def vI(rows:List Rw)(bars:List Str)(n:Nat)(zs:List Str):Prop:=ui zs/\(n<=plN rows\/(zN 2 0 rows).isSome=true)/\∀z∈zs,yx rows bars n z=none
inductive zcJ(K:Frag)(vs:List V)(H:Hp)(Q:VK)(E:XK):Prop|mk(la lb lt lp:Addr)(us:List Addr)(rows:List Rw)(bars:List Str)(ts:List Int)(ys:List V)(ps:List (Str×Int)):vs=[.ref la,.ref lb,.ref lt,.ref lp]->H la=some (.lst (us.map V.ref))->Paired (TAt H) us rows->VR rows->H lb=some (.lst (bars.map V.str))->H lt=some (.lst (ts.map V.int))->H lp=some (.lst ys)->Paired (zJ K T' H 1) ys (ps.map yT)->ps.length<=900->(∀(b:Bool) (H':Hp),zq H H'->(b=true ↔ vI rows bars ts.length (ps.map (·.1)))->Q (.bl b) H')->zcJ K vs H Q E
end
end K64
namespace L2
open PySem PySem.Spec PyProof.Rows
def zdB(val:Nat->Str)(i c:Nat):Prop:=c<=i/\(c=i ↔ ∀j,j<i->∀k,k<j->val k≠val j)
theorem zdB.step{val:Nat->Str}{i c:Nat}{T:Str->Bool}(h:zdB val i c)(hT:∀z,T z=true ↔ ∃j,j<i/\z=val j):zdB val (i+1) (if T (val i) then c else c+1):=by
 by_cases e:T (val i)=true
 ·rw[aK e]
  exists le_succ_of_le h.1,⟨fun z=>absurd z (by have:=h.1;omega),fun z=>?_⟩
  obtain⟨j,hj,e'⟩:=(hT _).mp e;exact absurd e'.symm (z i (lt_succ_self _) j hj)
 ·rw[aJ e]
  exists succ_le_succ h.1,⟨fun z j hj k hk=>?_,fun z=>congrArg (·+1) (h.2.mpr fun j hj=>z j (lt_succ_of_lt hj))⟩;by_cases hji:j<i
  ·exact h.2.mp ∅ j hji k hk
  ·have:j=i:=by omega
   subst this;exact fun z'=>e ((hT _).mpr ⟨k,hk,z'.symm⟩)
section
variable {R:Result->Shared->Prop}{G:Array GenState->Array GenState->Prop}{n:Nat}{Pr:Nat->Value->Prop}{Sg:Nat->Shared->Prop}
theorem zfl{val:Nat->Str}{i:Nat}{T:Str->Bool}(hT:∀z,T z=true ↔ ∃j,j<i/\z=val j):∀z,(T z||decide (z=val i))=true ↔ ∃j,j<i+1/\z=val j:=fun z=>by
 rw[Bool.or_eq_true,hT,decide_eq_true_eq];constructor
 ·rintro (⟨j,hj,e⟩|e)
  ·exact⟨j,∅,e⟩
  ·exact⟨i,∅,e⟩
 ·rintro⟨j,hj,e⟩
  by_cases h:j<i
  ·exact .inl ⟨j,h,e⟩
  ·exact .inr (by rw[e,show j=i by omega])
theorem jR{P:Program}{w:World}{A:Around}{I:Addr}{fp wr:List Addr}(W:WalksS P w A.in1 I fp wr G n Pr Sg)(a:Addr)(ha:a∉fp)(val:Nat->Str)(hv:∀i v,Pr i v->∃t,v=.str (val i) t)(hb:n+1<scanBound):
  ∀(k i:Nat) (s:Shared) (T:Str->Bool) (c:Nat),n - i=k->i<=n->Sg i s->zdB val i c->(∀z,T z=true ↔ ∃j,j<i/\z=val j)->s.heap.SetOf (strKind P w) a T c->
   (∀s' c',Moved (a::wr) G s s'->zdB val n c'->s'.heap.SetOf (strKind P w) a (seen val T i k) c'->R (.ok (.ret .none)) s')->
   codeAny (model P w) A (.builtin "set.update.loop" ⟨[.ref a,.ref I],[]⟩) R s
 | 0,i,s,T,c,hk,hi,hg,hc,hTz,hT,hR=>by
  have hw:a∉wr:=fun z=>ha (W.sub _ z);have ei:i=n:=by omega
  subst ei;refine codeAny_builtin PyProof.Rows.F.entry_set_update_loop ?_;rw[Around.under_plainId PyProof.Rows.F.plain_set_update_loop _];show wpAny _ A.in1 (pyNext (.ref I) >>= _) _ _ _;refine zwb (W.done s _ _ hg fun s' hm=>?_);show wpAny _ A.in1 (ret Value.none) _ _ _;refine zwp (hR s' c (hm.mono fun b z=>mem_cons_of_mem _ z) hc ?_);obtain⟨ob,es,ep,t,h1,h2⟩:=hT;exact⟨ob,es,ep,t,hm.heap a _ hw h1,h2⟩
 | k+1,i,s,T,c,hk,hi,hg,hc,hTz,hT,hR=>by
  have hw:a∉wr:=fun z=>ha (W.sub _ z);have hlt:i<n:=by omega
  refine codeAny_builtin PyProof.Rows.F.entry_set_update_loop ?_;rw[Around.under_plainId PyProof.Rows.F.plain_set_update_loop _];show wpAny _ A.in1 (pyNext (.ref I) >>= _) _ _ _;refine zwb (W.item i s _ _ hlt hg fun v s' hP hg' hm=>?_);obtain⟨t,rfl⟩:=hv i v hP;have hT':s'.heap.SetOf (strKind P w) a T c:=by
   obtain⟨ob,es,ep,tb,h1,h2⟩:=hT;exact⟨ob,es,ep,tb,hm.heap a _ hw h1,h2⟩
  show wpAny _ A.in1 (holding [Value.str (val i) t] (setAdd a (.str (val i) t)) >>= _) _ _ s';refine zwb (wpAny_holding ?_);unfold setAdd;refine wpAny_holding ?_;refine zwb ((strKind P w).pyHash (k:=val i) (strKind_is _ _ _ _) ?_);refine wpAny_setAddHashed_of (knd:=strKind P w) (s:={ s' with toks:=s'.toks+1 }) (strKind_is _ _ _ _) rfl hT' (by have:=hc.1;omega) fun h' hsb h3=>?_
  refine zwp ⟨plainId_quiet PyProof.Rows.F.plain_set_update_loop _,jR W a ha val hv hb k (i+1) _ _ _ ∅ hlt (W.frame _ s' _ _ hg' (le_succ _) fun b hb' o e=>?_) (hc.step hTz) (zfl hTz) h3 fun s2 c2 hm2 hc2 h4=>?_⟩
  ·have:b≠a:=fun z=>ha (z ▸ hb')
   rw[hsb.2 b this];exact e
  ·refine hR s2 c2 (Moved.trans W.gtrans ((hm.mono fun b z=>mem_cons_of_mem _ z).then_heap (le_succ _) fun b o hb' e=>?_) hm2) hc2 h4
   have:b≠a:=fun z=>hb' (z ▸ mem_cons_self)
   rw[hsb.2 b this];exact e
abbrev vT(led:Bool):Obj:={ cls:=.type "set",dict:=none,data:=.set #[] 0 (.fresh 0 0 led) }
end
set_option maxHeartbeats 8000000 in
theorem zcv{P:Program}{w:World}{A:Around}{E:VSP}{s:Shared}{l:Addr}{items:Array Value}{zs:List Str}{Q:VSP}
  (hh:A.handled=none) (hl:s.heap.IsList l items) (hv:∀(i:Nat) (v:Value),items[i]?=some v->∃t,v=.str (zs.getD i "") t) (hb:items.size+1<scanBound)
  (h:∀(h':Heap) (tk c:Nat),h'.SetOf (strKind P w) s.heap.objs.size (seen (fun i=>zs.getD i "") (fun _=>false) 0 items.size) c->zdB (fun i=>zs.getD i "") items.size c->(∀b o,b<s.heap.objs.size->s.heap.get? b=some o->h'.get? b=some o)->Q (.ref s.heap.objs.size) { s with heap:=h',toks:=tk }) :
  wpAny (model P w) A (call (.type "set") [.ref l]) Q E s:=by
 obtain⟨mc,mt,mro⟩:=PySem.F.called_set.mro;have q1:=PySem.F.called_set.made;have q2:=PySem.F.called_set.sub;have q3:=PySem.F.called_set.notType;have q4:=PySem.F.called_set.canCreate;have q5:=PySem.F.typeCall_set_1 (.ref l);refine wpAny_call (codeAny_of_tree ?_);show wpAny _ _ (callAny (.type "set") _) _ _ _;refine zwp ⟨Code.quiet_builtin _ (by decide +kernel),codeAny_builtin PySem.F.entry_type_call ?_⟩;rw[Around.under_plain (weight_type_call_type "set" [.ref l] []) rfl]
 repeat (any_goals first|assumption|wp_step)
 refine codeAny_mono (code_set_new_1 (.ref l) (E:=E) (Q₁:=fun obj s₁=>∃led:Bool,obj=.ref s.heap.objs.size/\s₁={ s with heap:=s.heap.push (vT led) }) fun led=>⟨led,rfl,rfl⟩) fun r s₁ hr=>?_
 rcases r with e|(_|_|_|obj)
 ·exact hr
 ·exact hr.elim
 ·exact hr.elim
 ·exact hr.elim
 ·obtain⟨led,rfl,rfl⟩:=hr
  have hS:(s.heap.push (vT led)).get? s.heap.objs.size=some (vT led):=zgs _ rfl;have hT:Shared.TypeIs { s with heap:=s.heap.push (vT led) } (.ref s.heap.objs.size) "set":=⟨_,hS,rfl⟩
  have q6:=PySem.F.called_set.init.lookup;have q7:=PySem.F.called_set.init.bind (.ref s.heap.objs.size)
  repeat (any_goals first|assumption|wp_step)
  refine codeAny_mono (codeAny_call_builtin (R:=wants (fun r s₂=>r=.none/\∃h' tk c,s₂={ s with heap:=h',toks:=tk }/\h'.SetOf (strKind P w) s.heap.objs.size (seen (fun i=>zs.getD i "") (fun _=>false) 0 items.size) c/\zdB (fun i=>zs.getD i "") items.size c/\∀b o,b<s.heap.objs.size->s.heap.get? b=some o->h'.get? b=some o) E) PySem.F.called_set.init.plain PySem.F.entry_set_init (check_set_init_1 hT ?_)) fun r₂ s₂ hr₂=>?_
  ·obtain⟨ol,hol,hcl,nl,hdl⟩:=id hl
   obtain⟨ocls,odict,odata,oslots⟩:=ol;simp only at hcl hdl;subst hcl hdl;have hol':(s.heap.push (vT led)).get? l=_:=zgp (vT led) hol;have t1:=PySem.F.sub_list_set;have t2:=PySem.F.sub_list_frozenset;have t3:(Value.type "list"==Value.type "dict")=false:=by decide
   have hl1:(s.heap.push (vT led)).IsList l items:=⟨_,hol',rfl,nl,rfl⟩;have hlS:l<s.heap.objs.size:=aI hol;unfold Builtin.«set.__init__» noKeywords Builtin.Frozenset.updateFrom;generalize hq:pyIter=pit
   wp_walk
   subst hq;refine wpAny_pyIter_list hl1 (zwb (wpAny_runValue ?_));have hz:(s.heap.push (vT led)).objs.size=s.heap.objs.size+1:=Heap.size_push ..;have n1:l≠(s.heap.push (vT led)).objs.size:=by rw[hz];exact ne_of_lt (lt_succ_of_lt hlS)
   have n2:∀b:Addr,b<s.heap.objs.size->b∉[s.heap.objs.size,(s.heap.push (vT led)).objs.size]:=fun b hb' z=>by
    rw[hz] at z;rcases List.mem_cons.mp z with e|e
    ·exact ne_of_lt hb' e
    ·exact ne_of_lt (lt_succ_of_lt hb') (List.mem_singleton.mp e)
   have n3:s.heap.objs.size∉[(s.heap.push (vT led)).objs.size,l]:=fun z=>by
    rw[hz] at z;rcases List.mem_cons.mp z with e|e
    ·exact ne_of_lt (lt_succ_self _) e
    ·exact ne_of_gt hlS (List.mem_singleton.mp e)
   refine jR ((Walks.list (by simp [hh]) _ l n1 items).toS) s.heap.objs.size n3 (fun i=>zs.getD i "") hv hb items.size 0 _ (fun _=>false) 0 ∅ (zero_le _) ⟨⟨_,zgs _ rfl,rfl,rfl⟩,hl1.push _⟩ ⟨le_refl _,⟨fun _ j hj=>absurd hj (Nat.not_lt_zero _),fun _=>rfl⟩⟩ (fun z=>Iff.intro (fun e=>absurd e ⋯) (fun⟨j,hj,_⟩=>absurd hj (Nat.not_lt_zero _))) ?_ ?_
   ·exact(PyProof.Rows.setObjOf_fresh (knd:=strKind P w) led).setOf (zgp _ hS) (by unfold scanBound;omega)
   ·rintro⟨h',g',d',tk',os'⟩ c' hm hc' hS'
    have e1:g'=s.gens:=hm.gens;have e2:d'=s.drawn:=hm.drawn;have e3:os'=s.os:=hm.os;subst e1 e2 e3;show wpAny _ _ _ _ _ _;refine zwp ?_;show wpAny _ _ (ret Value.none) _ _ _;refine zwp ⟨rfl,h',tk',c',rfl,hS',hc',fun b o hb' e=>hm.heap b o (n2 b hb') (zgp _ (zgp _ e))⟩
  ·rcases r₂ with e|(_|_|_|ob2)
   ·exact hr₂
   ·exact hr₂.elim
   ·exact hr₂.elim
   ·exact hr₂.elim
   ·obtain⟨rfl,h',tk,c',rfl,hS',hc',hk'⟩:=hr₂
    repeat (any_goals first|assumption|wp_step)
    exact h _ _ _ hS' hc' hk'
theorem zjH{zs:List Str}{n:Nat}(h:n=zs.length->∀j,j<zs.length->∀k,k<j->zs.getD k ""≠zs.getD j "")(e:n=zs.length):zs.Nodup:=by
 rw[List.nodup_iff_pairwise_ne,List.pairwise_iff_getElem];intro i j hi hj hij
 have:=h e j hj i hij
 rw[getD_eq_getElem?_getD,getD_eq_getElem?_getD,aB hi,aB hj] at this;exact this
theorem zfz{X:Cx}(hc:X.calm=true):xQ X (.type "set") (fun xs H Q=>∃(p:Addr) (zs:List Str),xs=[.ref p]/\SqL X.K H p (zs.map V.str)/\zs.length<=900/\∀(l:Addr) (n:Nat),H l=none->n<=zs.length->(n=zs.length ↔ zs.Nodup)->Q (.ref l) (upd H l (wM X.prog X.w l (fun z=>decide (z∈zs)) n))):=by
 intro pins s σ H xs us Q I r h;obtain⟨p,zs,rfl,hS,lz,q⟩:=h;obtain⟨u,rfl,ru⟩:=vd r;cases ru;obtain⟨its,rv,hp,hz⟩:=I.list hS;have hl:its.length=zs.length:=by rw[<- rv.length,aA]
 have hb:its.toArray.size+1<scanBound:=by
  rw[size_toArray,hl];have : 1000<scanBound:=by unfold scanBound;decide
  omega
 refine zcv (I.ok.hd hc) hp.isList (fun i v e=>rv.strs_at i v (by simpa using e)) hb fun h' tk c hS' hc hk=>?_
 have hsz:its.toArray.size=zs.length:=by rw[size_toArray,hl]
 rw[hsz] at hS' hc;have eS:seen (fun i=>zs.getD i "") (fun _=>false) 0 zs.length=fun z=>decide (z∈zs):=funext (zbS zs);rw[eS] at hS';exists .ref s.heap.objs.size,_,I.laid (t':=tk) (fun b ob e=>hk b ob (aI e) e) (le_refl _) (j8 hS'),rfl,q _ c (I.hok.fresh (le_refl _)) hc.1 ⟨fun e=>zjH hc.2.mp e,fun nd=>hc.2.mpr fun j hj k hk e=>?_⟩;have e:zs.getD k ""=zs.getD j "":=e;rw[getD_eq_getElem?_getD,getD_eq_getElem?_getD,aB hj,aB (lt_trans hk hj)] at e;exact(List.pairwise_iff_getElem.mp nd) k j (lt_trans hk hj) hj hk e
end L2
namespace K64
open PySem L2 PyProof.Rows
section
variable {K:Frag}{mg:Str->Option Value}
theorem zem:([Str.ofString "_law_name",Str.ofString "_law_thing"]:List Str).Nodup:=by decide +kernel
theorem uO:zv ["_law_row_here","_law_bars_here","_law_things","_law_pairs","_law_name","_law_names","_law_sorts","_law_places","_law_gone","_law_known"] ["_law_row_here","_law_bars_here","_law_things","_law_pairs"] (zk zga):=fsc
theorem zca(h:zs.Nodup):ui zs:=fun j y hy hm=>by
 obtain⟨k,hk,e⟩:=List.mem_iff_getElem.mp hm;rw[length_take] at hk;rw[List.getElem_take] at e;obtain⟨hj,e2⟩:=List.getElem?_eq_some_iff.mp hy
 have:=(List.pairwise_iff_getElem.mp (List.nodup_iff_pairwise_ne.mp h)) k j ∅ hj ∅
 exact this (e.trans e2.symm)
theorem ziU(F:Fun K "_law_is_tame" "_law_is_tame" zga f fd)(U:zlw mg):↥1 f fd ["_law_row_here","_law_bars_here","_law_things","_law_pairs"] (zcJ K):=by
 specialize uO;obtain⟨la,lb,lt,lp,us,rows,bars,ts,ys,ps,rfl,hla,hu,V1,hlb,hlt,hlp,hp,l9,q⟩:=h;refine⟨_,zm (wO (i:=5) [] ["_law_name","_law_thing"] [none,none] uO.nd rfl (Or.inl rfl) rfl ⟨rfl,rfl,rfl,rfl⟩ (z7 (pv 3)) (xY (K:=K) (n:=2) 0 1) rfl rfl rfl
   (fun pins fp s H C=>⟨yB rfl (zB (zr (i:=0) zem rfl (Or.inl rfl) (.inr rfl)) (zB (zr (i:=1) zem rfl (Or.inl rfl) (.inr rfl)) yi)),yV,pv 0⟩))
  (zm (wO (i:=6) [] ["_law_one"] [none] uO.nd rfl (Or.inl rfl) rfl ⟨rfl,rfl,rfl,rfl⟩ (z7 (pv 0)) (ya 0) rfl rfl rfl
   (fun pins fp s H C=>⟨zr (i:=0) qL rfl (Or.inl rfl) (.inr rfl),yV,zV (r:=wv K) yd (pv 0) zf (fun _ _=>rfl)⟩))
  (zm (wO (i:=7) [] ["_law_one"] [none] uO.nd rfl (Or.inl rfl) rfl ⟨rfl,rfl,rfl,rfl⟩ (z7 (pv 0)) (ya 0) rfl rfl rfl
   (fun pins fp s H C=>⟨zr (i:=0) qL rfl (Or.inl rfl) (.inr rfl),xl (zw (r:=rIn K false) yY (zV (r:=wv K) yd (pv 0) zf (fun _ _=>rfl)) (zP (ac zy (ac zy zc))) (by with_unfolding_all rfl)),pv 0⟩))
  (zm (zS (xy (jh (zw vX (cB zam U.len PySem.boot_len (ac (cTy (zfz rfl) U.set PyProof.Rows.boot_set (ac (pv 5) zc)) zc)) (cB zO U.len PySem.boot_len (ac (pv 5) zc)) (zM _))
    (vV (xy (xr (zw zgR (cB zO U.len PySem.boot_len (ac (pv 2) zc)) (cB zO U.len PySem.boot_len (ac (pv 7) zc)) (zM _)) (y9 (zw yL zy (pv 6) (by with_unfolding_all rfl)))))))) (zg (zA vo)) zI)
  (zm (wO (i:=8) [] ["_law_one"] [none] uO.nd rfl (Or.inl rfl) rfl ⟨rfl,rfl,rfl,rfl⟩ (z7 (yp yC (pv 7) yU (yn (cB zO U.len PySem.boot_len (ac (pv 2) zc))))) (ya 0) rfl rfl rfl
   (fun pins fp s H C=>⟨zr (i:=0) qL rfl (Or.inl rfl) (.inr rfl),xl (zw yK (zV (r:=wv K) yd (pv 0) zf (fun _ _=>rfl)) zy (zM _)),zV (r:=wv K) yd (pv 0) zf (fun _ _=>rfl)⟩))
  (zm (wO (i:=9) [] ["_law_one"] [none] uO.nd rfl (Or.inl rfl) rfl ⟨rfl,rfl,rfl,rfl⟩ (z7 (pv 0)) (ya 0) rfl rfl rfl
   (fun pins fp s H C=>⟨zr (i:=0) qL rfl (Or.inl rfl) (.inr rfl),xl (zw (r:=rIn K false) yY (zV (r:=wv K) yd (pv 0) zf (fun _ _=>rfl)) (zP (ac zy (ac zy zc))) (by with_unfolding_all rfl)),zV (r:=wv K) yd (pv 0) zf (fun _ _=>rfl)⟩))
  (zm (yS PassesOwn.never rfl (z7 (pv 5)) (zr (i:=4) uO.nd rfl (Or.inl rfl))
   (zg (zS (xy (jh (zw yY (pv 4) (pv 1) (by with_unfolding_all rfl)) (jh (zw yY (pv 4) (pv 8) (by with_unfolding_all rfl)) (vV (xy (xr (zw yL (pv 4) (pv 9) (by with_unfolding_all rfl)) (y9 (zw yL zy (pv 6) (by with_unfolding_all rfl))))))))) (zg (zA vo)) zI)))
  (zg (zA vo)))))))),?_⟩
 have l24:=V1.l24;exists _,rfl,lp,rfl,⟨_,zh hlp⟩,fun D1 hD1=>?_;refine zeo (zh hlp) hp l9 hD1 (fun H1 s1 e1=>?_);exists _,rfl,la,rfl,⟨_,zh (s1 _ _ hla)⟩,fun D2 hD2=>?_;refine zhy (s1 _ _ hla) (zL s1 hu) V1 hD2 (fun H2 s2 e2=>?_);have s12:=s1.trans s2;exists _,rfl,la,rfl,⟨_,zh (s12 _ _ hla)⟩,fun D3 hD3=>?_;refine zff (s12 _ _ hla) (zL s12 hu) V1 hD3 (fun H3 vs s3 e3 p3=>?_);have s13:=s12.trans s3;have e1:=(s2.trans s3) _ _ e1;have e2:=s3 _ _ e2;have tl:decide (("tail" : Str)∈jw rows)=(zN 2 0 rows).isSome:=zbR V1.ok (kk:=2) ⋯
 have bg:decide (("bag" : Str)∈jw rows)=(zN 4 0 rows).isSome:=zbR V1.ok (kk:=4) ⋯
 have lvs:vs.length=plN rows:=by rw[p3.length];rfl
 have lns:(ps.map (·.1)).length<=900:=by rw[aA];omega
 generalize ps.map (·.1)=ns at e1 q lns;exfalso;refine xj (fun σ' H'=>σ'=[~~~la,~~~lb,~~~lt,~~~lp,none,~~~D1,~~~D2,~~~D3,none,none]/\zq H3 H'/\ui ns/\(ts.length<=plN rows\/(zN 2 0 rows).isSome=true)) ?_ (fun key=>?_);rotate_left
 ·exists _,rfl,D1,_,rfl,zh e1,lns,fun l4 n4 hl4 hle hnd=>?_
  have s4:=ze hl4 (wM P w l4 (fun z=>decide (z∈ns)) n4);have g4:upd H3 l4 (wM P w l4 (fun z=>decide (z∈ns)) n4) l4=some (wM P w l4 (fun z=>decide (z∈ns)) n4):=za;exists l4,_,n4,rfl,g4,?_;have s14:=s13.trans s4;have e1:=s4 _ _ e1;have e2:=s4 _ _ e2;have e3:=s4 _ _ e3;exists _,rfl,D1,_,rfl,.inl (zh e1),_,_,rfl,rfl,_,rfl,?_;by_cases c0:n4<ns.length
  ·refine dT (by rw[aA];show((n4:Nat):Int)<(ns.length:Nat);omega) ?_
   refine wZ ?_;exact q _ _ s14 ⟨fun e=>Bool.noConfusion e,fun h=>absurd (hnd.mpr h.1.nd) ∅⟩
  refine dF (by rw[aA];show ¬((n4:Nat):Int)<(ns.length:Nat);omega) ?_
  have nd:ui ns:=zca (hnd.mp ∅)
  exists _,rfl,lt,_,rfl,.inl (zh (s14 _ _ hlt)),_,rfl,D3,_,rfl,.inl (zh e3),_,_,rfl,rfl,_,rfl,?_;by_cases c1:plN rows<ts.length
  ·refine dT (by rw[aA,aA];show((vs.length:Nat):Int)<(ts.length:Nat);omega) ?_
   exists _,rfl,D2,_,rfl,.inl (zh e2),rfl,xf,_,rfl,?_;cases ht:(zN 2 0 rows).isSome with
   | true=>
    refine jI (by rw[aK rfl,xc,tl,ht];rfl) ?_
    exact key _ _ ⟨rfl,s4,nd,.inr ht⟩
   | false=>
    refine jJ (by rw[aK rfl,xc,tl,ht];rfl) ?_
    exact q _ _ s14 ⟨fun e=>Bool.noConfusion e,fun h=>absurd (h.2.1.resolve_left ∅) (by rw[ht];exact zft)⟩
  ·refine dF (by rw[aA,aA];show ¬((vs.length:Nat):Int)<(ts.length:Nat);omega) ?_
   refine x8 ?_;exact key _ _ ⟨rfl,s4,nd,.inl ∅⟩
 rintro σ4 H4 ⟨rfl,s4,nd,ho⟩;have s14:=s13.trans s4;have e1:=s4 _ _ e1;have e2:=s4 _ _ e2;have e3:=s4 _ _ e3;have p4:=zL s4 p3;exists _,rfl,_,rfl,lt,_,rfl,.inl (zh (s14 _ _ hlt)),_,rfl,D3,_,rfl,zh e3,fun l5 hl5=>?_;rw[xZ,<- map_take];have s5:=ze hl5 (.lst ((vs.take (ts.map V.int).length).map V.ref));have g5:upd H4 l5 (.lst ((vs.take (ts.map V.int).length).map V.ref)) l5=some (.lst ((vs.take (ts.map V.int).length).map V.ref)):=za;have p5:=xU (zL s5 p4) (ts.map V.int).length;generalize upd H4 l5 (.lst ((vs.take (ts.map V.int).length).map V.ref))=H5 at s5 g5 p5 |-;exists l5,rfl,⟨_,zh g5⟩,fun D6 hD6=>?_;have okp:∀r∈(rows.filter fun r=>xV r.k).take (ts.map V.int).length,r.ok:=fun r hr=>V1.ok r (List.mem_filter.mp (mem_of_mem_take hr)).1;have lenp:((rows.filter fun r=>xV r.k).take (ts.map V.int).length).length<=500:=by
  have h1:=length_filter_le (fun r=>xV r.k) rows;rw[length_take];omega
 refine zjn g5 p5 okp lenp hD6 (fun H6 s6 e6=>?_);rw[aA] at e6;have e6:H6 D6=some (.lst ((ue rows ts.length).map V.str)):=e6;have s16:=s14.trans (s5.trans s6);exists _,rfl,la,rfl,⟨_,zh (s16 _ _ hla)⟩,fun D7 hD7=>?_;refine zhC (s16 _ _ hla) (zL s16 hu) V1 hD7 (fun H7 s7 e7=>?_);have s17:=s16.trans s7;have e6:=s7 _ _ e6;have e1:=(s5.trans (s6.trans s7)) _ _ e1;have e2:=(s5.trans (s6.trans s7)) _ _ e2;exists _,rfl,D1,rfl,⟨_,zh e1⟩,xE (K:=K) (a:=D1) (xs:=ns.map V.str) (fun i σ H'=>∃v4,σ=[~~~la,~~~lb,~~~lt,~~~lp,v4,~~~D1,~~~D2,~~~D3,~~~D6,~~~D7]/\H'=H7/\∀z∈ns.take i,yx rows bars ts.length z=none) ⟨_,rfl,rfl,fun z hz=>absurd hz (by simp)⟩ (fun i σ H' _ ⟨_,_,e,_⟩=>by rw[e];exact zh e1) ?_ ?_
 ·rintro i x σ H' hx ⟨v4,rfl,rfl,hn⟩
  obtain⟨z,hz,rfl⟩:=strs_at hx;have nxt:yx rows bars ts.length z=none->∀y∈ns.take (i+1),yx rows bars ts.length y=none:=fun hw y hy=>by
   rw[js hz] at hy;rcases List.mem_append.mp hy with h|h
   ·exact hn y h
   ·rw[List.mem_singleton.mp h];exact hw
  have hzn:=aH hz;have no:∀{wd:Str},yx rows bars ts.length z=some wd->(false=true ↔ vI rows bars ts.length ns):=fun e=>⟨fun e=>Bool.noConfusion e,fun h=>by have:=h.2.2 z hzn;rw[e] at this;cases this⟩
  exists _,rfl,_,rfl,lb,_,rfl,.inl (zh (s17 _ _ hlb)),rfl,xf,_,rfl,?_;by_cases hb:z∈bars
  ·refine jJ (by rw[aJ zft,xc,aC hb]) ?_
   refine wZ ?_;exact q _ _ s17 (no (zaZ hb))
  refine jI (by rw[aJ zft,xc,aD hb]) ?_
  exists _,rfl,_,rfl,D6,_,rfl,.inl (zh e6),rfl,xf,_,rfl,?_;by_cases hg:z∈ue rows ts.length
  ·refine jJ (by rw[aJ zft,xc,aC hg]) ?_
   refine wZ ?_;exact q _ _ s17 (no (qh V1 hb hg))
  refine jI (by rw[aJ zft,xc,aD hg]) ?_
  exists _,rfl,_,rfl,D7,_,rfl,.inl (zh e7),rfl,xf,_,rfl,?_;by_cases hk:z∈nms rows
  ·refine jI (by rw[aK rfl,xc,aC hk];rfl) ?_
   refine x8 ?_;exact⟨_,rfl,rfl,nxt (zfG V1 hb hg hk)⟩
  refine jJ (by rw[aK rfl,xc,aD hk];rfl) ?_
  exists _,rfl,D2,_,rfl,.inl (zh e2),rfl,xf,_,rfl,?_;have hw:=zcD (many:=ts.length) hb hk;cases ht:(zN 4 0 rows).isSome with
  | true=>
   refine jI (by rw[aK rfl,xc,bg,ht];rfl) ?_
   exact⟨_,rfl,rfl,nxt (by rw[hw,aK ht])⟩
  | false=>
   refine jJ (by rw[aK rfl,xc,bg,ht];rfl) ?_
   exact q _ _ s17 (no (wd:="strange") (by rw[hw,aJ (by rw[ht];exact zft)]))
 ·rintro σ H' ⟨v4,rfl,rfl,hn⟩
  rw[aA,take_length] at hn;exact q _ _ s17 ⟨fun _=>⟨nd,ho,hn⟩,fun _=>rfl⟩
theorem zaG(c:List ym)(it:ym):zC (c++[it])=zC c++itT it:=by unfold zC;simp
theorem zaH(c:List ym)(it:ym):zG (c++[it])=zG c++itP it:=by unfold zG;simp
inductive zdO(K:Frag)(vs:List V)(H:Hp)(Q:VK)(E:XK):Prop|mk(la lb li:Addr)(us:List Addr)(rows:List Rw)(bars:List Str)(zs:List V)(ct:List ym):vs=[.ref la,.ref lb,.ref li]->H la=some (.lst (us.map V.ref))->Paired (TAt H) us rows->VR rows->H lb=some (.lst (bars.map V.str))->H li=some (.lst zs)->Paired (zJ K T' H 3) zs (ct.map yj)->ct.length<=100->(zC ct).length<=800->(zG ct).length<=800->(∀(l:Addr) (ks:List V) (kt:List ym) (H':Hp),zq H H'->H l=none->H' l=some (.lst ks)->Paired (zJ K T' H' 3) ks (kt.map yj)->kt.length<=100->(zC kt).length<=800->(zG kt).length<=800->kt.length<=ct.length->(zC kt).length<=(zC ct).length->(zG kt).length<=(zG ct).length->kt.Sublist ct->nlF (xa rows bars kt)=none->Q (.ref l) H')->zdO K vs H Q E
theorem zhu:nlF (xa rows bars [])=none:=zbw (fun j y h=>by simp [yN,zG] at h) (.inl (zero_le _)) (fun z h=>by simp [yN,zG] at h)
theorem jb:zv ["_law_row_here","_law_bars_here","_law_items_here","_law_kept","_law_item_here","_law_things","_law_pairs"] ["_law_row_here","_law_bars_here","_law_items_here"] (zk zcP):=fsc
theorem zg1(F:Fun K "_law_tamed" "_law_tamed" zcP f fd)(cL:⇑1 "_law_laid" g1 d1 ["_law_items_here"] (uN K))(cT:⇑1 "_law_is_tame" g2 d2 ["_law_row_here","_law_bars_here","_law_things","_law_pairs"] (zcJ K)):↥2 f fd ["_law_row_here","_law_bars_here","_law_items_here"] (zdO K):=by
 specialize jb;obtain⟨la,lb,li,us,rows,bars,zs,ct,rfl,hla,hu,V1,hlb,hli,hz,lc,lt,lp,q⟩:=h;refine⟨_,zm (zx (i:=3) jb.nd rfl (Or.inl rfl) (zP zc))
  (zm (yS PassesOwn.never rfl (z7 (pv 2)) (zr (i:=4) jb.nd rfl (Or.inl rfl))
   (zm (vW (cF cL hr (ac (zo yr (pv 3) (zP (ac (pv 4) zc))) zc)) (yB rfl (zB (zr (i:=5) jb.nd rfl (Or.inl rfl)) (zB (zr (i:=6) jb.nd rfl (Or.inl rfl)) yi))))
   (zg (zS (y7 (cF cT hr (ac (pv 0) (ac (pv 1) (ac (pv 5) (ac (pv 6) zc)))))) (zg (zW (xh PySem.F.plainAttrs_list PySem.F.slot_list_append PySem.F.type_list_append z9 (pv 3) (ac (pv 4) zc)))) zI))))
  (zg (zA (pv 3)))),?_⟩
 exists xS,fun l hl=>?_;have s1:=ze hl (.lst []);have g1:upd H l (.lst []) l=some (.lst []):=za;have z1:Paired (zJ K (fun b=>b≠l) (upd H l (.lst [])) 3) zs (ct.map yj):=zu (fun _ _ z=>(wF (fun b _ e=>fun h=>e (by rw[h];exact hl)) z).same s1) hz
 exfalso;generalize upd H l (.lst [])=H1 at s1 g1 z1 |-;refine⟨_,rfl,li,rfl,⟨_,zh (s1 _ _ hli)⟩,xE (K:=K) (a:=li) (xs:=zs) (fun i σ H'=>∃(ks:List V) (kt:List ym) (v4 v5 v6:Option V),σ=[~~~la,~~~lb,~~~li,~~~l,v4,v5,v6]/\zq H H'/\H' l=some (.lst ks)/\Paired (zJ K (fun b=>b≠l) H' 3) zs (ct.map yj)/\Paired (zJ K (fun b=>b≠l) H' 3) ks (kt.map yj)/\kt.length<=i/\(zC kt).length<=(zC (ct.take i)).length/\(zG kt).length<=(zG (ct.take i)).length/\kt.Sublist (ct.take i)/\nlF (xa rows bars kt)=none)
  ⟨[],[],_,_,_,rfl,s1,g1,z1,.nil,le_refl _,le_refl _,le_refl _,List.nil_sublist _,zhu⟩ (fun i σ H' _ ⟨_,_,_,_,_,_,sH,_⟩=>zh (sH _ _ hli)) ?_ ?_⟩
 ·rintro i x σ H2 hx ⟨ks,kt,v4,v5,v6,rfl,s2,e2,z2,k2,lk,lkt,lkp,sub,lnl⟩
  obtain⟨d,hd,hxs⟩:=Paired.get z2 hx;obtain⟨it,hit,rfl⟩:=zcj hd;have tk:ct.take (i+1)=ct.take i++[it]:=by rw[List.take_succ,hit];rfl
  have eT:=congrArg List.length (uW ct i it hit);have eP:=congrArg List.length (uX ct i it hit);rw[aG] at eT eP;have bT:=vp ct (i+1);have bP:=vq ct (i+1);have lT2:=congrArg List.length (zaG kt it);have lP2:=congrArg List.length (zaH kt it);rw[aG] at lT2 lP2;have hi:i<ct.length:=(List.getElem?_eq_some_iff.mp hit).1;have lks:ks.length=kt.length:=by rw[k2.length,aA]
  exists _,rfl,_,rfl,jy,fun l3 hl3=>?_;have s3:=ze hl3 (.lst [x]);exists l,l3,_,_,rfl,rfl,s3 _ _ e2,za,yg (by show ks.length+1<=1000;omega),fun l4 hl4=>?_
  have s4:=s3.trans (ze hl4 (.lst (ks++[x])));have g4:upd (upd H2 l3 (.lst [x])) l4 (.lst (ks++[x])) l4=some (.lst (ks++[x])):=za;generalize upd (upd H2 l3 (.lst [x])) l4 (.lst (ks++[x]))=H4 at s4 g4 |-;have c4:Paired (zJ K T' H4 3) (ks++[x]) ((kt++[it]).map yj):=by
   rw[aE];exact zX (zu (fun _ _ z=>(wF (fun _ _ _=>True.intro) z).same s4) k2) (.cons ((wF (fun _ _ _=>True.intro) hxs).same s4) .nil)
  exists l4,kt++[it],_,rfl,zh g4,c4,∅,∅,fun p H5 s5 two=>?_
  obtain⟨l1,l2,ys,n1,n2,n12,np,ep,e1,e2',gp⟩:=two;exists p,_,rfl,zF ep,rfl,_,_,rfl,_,_,rfl,rfl,?_;have s25:=s4.trans s5;have s05:=s2.trans s25;exists _,rfl,_,rfl,_,rfl,_,rfl,la,lb,l1,l2,us,rows,bars,_,ys,_,rfl,s05 _ _ hla,zL s05 hu,V1,s05 _ _ hlb,e1,e2',gp,∅,fun b H6 s6 hb6=>?_
  exists _,rfl,?_;have s26:=s25.trans s6;have e6:=s26 _ _ e2;have z6:Paired (zJ K (fun b=>b≠l) H6 3) zs (ct.map yj):=yv s26 z2;have k6:Paired (zJ K (fun b=>b≠l) H6 3) ks (kt.map yj):=yv s26 k2;refine wf (fun eb=>?_) (fun _=>?_)
  ·have tm:=hb6.mp eb
   exists _,rfl,.inl ⟨rfl,_,zh e6⟩,_,rfl,l,_,_,rfl,rfl,e6,zY ∅,?_
   exists ks++[x],kt++[it],_,_,_,rfl,fun b u e=>by rw[zj (zi e hl)];exact(s2.trans s26) _ _ e,za,zu (fun _ _ z=>xX e6 (fun b o=>⟨o,o⟩) z) z6,?_,?_,∅,∅,by rw[tk];exact List.Sublist.append sub (List.Sublist.refl _),zbw tm.1 tm.2.1 tm.2.2
   ·rw[aE]
    exact zX (zu (fun _ _ z=>xX e6 (fun b o=>⟨o,o⟩) z) k6) (.cons (xX e6 (fun b o=>⟨o,o⟩) (hxs.same s26)) .nil)
   ·rw[aG]
    exact succ_le_succ lk
  ·exact⟨ks,kt,_,_,_,rfl,s2.trans s26,e6,z6,k6,le_succ_of_le lk,∅,∅,by rw[tk];exact sub.trans (List.sublist_append_left _ _),lnl⟩
 ·rintro σ H2 ⟨ks,kt,v4,v5,v6,rfl,s2,e2,z2,k2,lk,lkt,lkp,sub,lnl⟩
  have lz:zs.length=ct.length:=by rw[hz.length,aA]
  have b1:=vp ct zs.length;have b2:=vq ct zs.length;exact⟨_,rfl,q l ks kt H2 s2 hl e2 (zu (fun _ _ z=>wF (fun _ _ _=>True.intro) z) k2) ∅ ∅ ∅ ∅ ∅ ∅ (sub.trans (take_sublist _ _)) lnl⟩
end
end K64
namespace L2
open PySem PySem.Spec PyProof.Rows
section
variable {ta:TE}{t:TA}{CX:CXT}{k:Nat}{sp:Sp}
end
end L2
namespace K64
open PySem L2 PyProof.Rows
theorem vM.imp{K:Frag}{CP p f:Addr}{N N':Addr->Prop}{H:Hp}{ts:List Int}{ps:List (Str×Int)}(h:vM K CP N H p f ts ps)(i:∀b,N b->N' b):vM K CP N' H p f ts ps:=
 let ⟨dx,l1,l2,ys,a,b,c,d,e,g⟩:=h;⟨dx,l1,l2,ys,a,b,c,d,i _ e,i _ g⟩
theorem vM.same{K:Frag}{CP p f:Addr}{N:Addr->Prop}{H H':Hp}{ts:List Int}{ps:List (Str×Int)}(h:vM K CP N H p f ts ps)(s:zq H H'):vM K CP N H' p f ts ps:=
 let ⟨dx,l1,l2,ys,a,b,c,d,e,g⟩:=h;⟨dx,l1,l2,ys,s _ _ a,s _ _ b,s _ _ c,xC s d,e,g⟩
abbrev ptN(rows:List Rw)(bars:List Str)(ts:List Int)(ps:List (Str×Int)):Option (Str×Nat):=nlF (xa rows bars (plain ts ps))
inductive zfP(K:Frag)(c:C5)(CF CP:Addr)(cl:Nat->Addr)(vs:List V)(H:Hp)(Q:VK)(E:XK):Prop|mk(p f a:Addr)(N:Addr->Prop)(rows:List Rw)(bars:List Str)(ts:List Int)(ps:List (Str×Int))(ct:List ym):vs=[.ref p,.ref a]->vM K CP N H p f ts ps->xp c CF H f rows bars->yX K H a ct->ts.length+(zC ct).length<=400->ps.length+(zG ct).length<=400->(ptN rows bars (ts++zC ct) (ps++zG ct)=none->∀(p':Addr) (H':Hp),zq H H'->H p'=none->vM K CP (fun b=>H b=none) H' p' f (ts++zC ct) (ps++zG ct)->Q (.ref p') H')->((∀m,ptN rows bars (ts++zC ct) (ps++zG ct)=some m->∀(d:Addr) (H':Hp),zq H H'->H' d=some (.xd [("number",.int (m.2:Nat))])->E (.ref (cl (wQ m.1))) (some d) H'))->zfP K c CF CP cl vs H Q E
section
variable {mg:Str->Option Value}{f CF CP MI:Addr}{c:C5}{cl:Nat->Addr}
theorem zl1:zv ["self","call"] ["self","call"] (zk uR):=fsc
theorem zk4{P:Program}{w:World}{K:Frag}{base:Heap}{fd:FuncData}{gP gW:Addr}{eP eW:FuncData}(F:Fun K "further" "Part.further" uR f fd)(PC':PtC K CP)(kP:jq P w K mg base (CXs P w) 7 "Part" CP gP eP ["self","form","call"] [] (zbO K c CF CP cl))(mW:yW K CP "whole" gW)(GW:↥2 gW eW ["self","call"] (j7 K CP))(bW:zU K eW ["self","call"] []):zD P w K mg base (CXs P w) 9 f fd ["self","call"] (zfP K c CF CP cl):=by
 refine F.okS zl1 (fun vs H Q E h=>?_) (fun cdv A outer s H vs Q E hr h=>?_)
 ·obtain⟨p,f,a,N,rows,bars,ts,ps,ct,rfl,_⟩:=h
  rfl
 obtain⟨p,f,a,N,rows,bars,ts,ps,ct,rfl,hP,hF,hC,lT,lP,q1,q2⟩:=h;have hr2:yl 2 _:=hr.mono ⋯
 have hP':=hP;obtain⟨dx,l1,l2,ys,hp,e1,e2,gy,_,_⟩:=hP;exists _,zg (zA (cMk kP .nil (zgM fun _ _ _ z=>z) hr (ac (yI (pv 0) rfl) (ac (ur (pv 0) PC'.cl mW GW hr2 bW .nil zZ (ac (pv 1) zc)) zc)))),?_;exists _,rfl,p,CP,dx,_,_,rfl,hp,PC'.cl,PC'.n1,zd9,_,rfl,p,dx,_,rfl,hp,zbZ (by decide +kernel) (by decide +kernel) (by decide +kernel),_,rfl,p,f,a,N,ts,ps,ct,rfl,hP',hC,lT,lP,fun l xs H1 s1 nl el hx=>?_
 have hC1:yX K H1 l (plain (ts++zC ct) (ps++zG ct)):=.plain el hx (by rw[aG];omega) (by rw[aG];omega)
 intro x dy hx1 hdy hne;have smk:zq H1 (upd (upd H1 dy (.own x)) x (.ins CP dy [])):=yH hx1 hdy;have hx2:upd (upd H1 dy (.own x)) x (.ins CP dy []) x=some (.ins CP dy []):=za;generalize upd (upd H1 dy (.own x)) x (.ins CP dy [])=H2 at smk hx2 |-;have s2:=s1.trans smk;exists x,f,l,dy,rows,bars,_,rfl,hx2,hF.same s2,hC1.same smk,fun hn H3 sx pt=>⟨rfl,?_⟩,fun m hm d H3 s3 hd=>q2 m hm d H3 (s2.trans s3) hd;rw[v0,ua] at pt;exact q1 hn x H3 (fun b u e=>sx b u (s2 _ _ e) (zi (s1 _ _ e) hx1)) (s1.free hx1) (pt.imp fun b e=>s2.free e)
def yo(names:List Str)(r:Rw):Bool:=yt r.k&&decide (r.z∈names)
def fbF(names:List Str):Nat->List Rw->Option Nat
 | _,[]=>none
 | i,r::rs=>if yo names r=true then some i else fbF names (i+1) rs
inductive zlV(c:C5)(CF:Addr)(vs:List V)(H:Hp)(Q:VK)(E:XK):Prop|mk(f a:Addr)(rows:List Rw)(bars names:List Str):vs=[.ref f,.ref a]->xp c CF H f rows bars->H a=some (.lst (names.map V.str))->(∀H',zq H H'->Q (wB (fbF names 0 (rows.take (plN rows)))) H')->zlV c CF vs H Q E
def zib(c:C5)(H H':Hp)(l:Addr)(rows:List Rw):Prop:=∃ps:List Addr,H l=none/\H' l=some (.lst (ps.map V.ref))/\Paired (PAt c H') ps rows
def jP(rows:List Rw):List Rw:=match zN 4 0 rows with
 | none=>[]
 | some i=>(rows.drop i).take 1
def wt(rows:List Rw):List Rw:=match zN 2 0 rows with
 | none=>[]
 | some i=>(rows.drop i).take 1
inductive zd2(c:C5)(CF:Addr)(vs:List V)(H:Hp)(Q:VK)(E:XK):Prop|mk(f:Addr)(rows:List Rw)(bars:List Str):vs=[.ref f]->xp c CF H f rows bars->(∀(l:Addr) (H':Hp),zq H H'->zib c H H' l (jP rows)->Q (.ref l) H')->zd2 c CF vs H Q E
inductive zdP(c:C5)(CF:Addr)(vs:List V)(H:Hp)(Q:VK)(E:XK):Prop|mk(f:Addr)(st:Option Nat)(rows:List Rw)(bars:List Str):vs=[.ref f,wB st]->xp c CF H f rows bars->(∀(l:Addr) (H':Hp),zq H H'->zib c H H' l (if st.isSome=true then [] else wt rows)->Q (.ref l) H')->zdP c CF vs H Q E
theorem jL{kk:Nat}:∀(rows:List Rw) (i j:Nat),zN kk i rows=some j->i<=j/\j<i+rows.length
 | [],_,_,h=>by cases h
 | r::rs,i,j,h=>by
  unfold zN at h;split at h
  ·cases h;simp
  ·have:=jL rs (i+1) j h
   simp only[length_cons];omega
theorem ziA:zv ["form"] ["form"] (zk zc9):=fsc
theorem zho{P:Program}{w:World}{K:Frag}{base:Heap}{fd:FuncData}{gG gP:Addr}{eG eP:FuncData}(F:Fun K "bag_of" "bag_of" zc9 f fd)(FK:FC K CF)(mG:yW K CF "bag" gG)(GG:↥1 gG eG ["self"] (vP c CF 4))(bG:zU K eG ["self"] [])(mP:yW K CF "parameters" gP)(GP:↥1 gP eP ["self"] (vR c CF))(bP:zU K eP ["self"] []):
  ↥2 f fd ["form"] (zd2 c CF):=by
 specialize ziA;obtain⟨f,rows,bars,rfl,hF,q⟩:=h;exists _,zg (zA (qE (xT (wA (yc (pv 0) FK.cl mG GG hr bG .nil zZ))) (zP zc) (zP (ac (zV yO (yc (pv 0) FK.cl mP GP hr bP .nil zZ) (yc (pv 0) FK.cl mG GG hr bG .nil zZ) (fun _ _=>rfl)) zc)))),?_;obtain⟨dx,fs,lr,lb,ld,ps0,h1,h2,h3,h4,h5,h6⟩:=id hF.at_;have nmG:fs.lookup ("bag" : Str)=none:=h2.no _ (by decide +kernel)
 have nmP:fs.lookup ("parameters" : Str)=none:=h2.no _ (by decide +kernel)
 exists _,rfl,f,dx,fs,rfl,h1,nmG,f,rows,bars,rfl,hF.at_,_,rfl,?_;cases e:zN 4 0 rows with
 | none=>
  refine dT rfl ?_;exists xS,fun l hl=>q l _ (ze hl _) ⟨[],hl,za,?_⟩;unfold jP;rw[e];exact .nil
 | some j=>
  refine dF (by intro z;cases z) ?_
  exists _,rfl,f,dx,fs,rfl,h1,nmP,f,rows,bars,rfl,hF.at_,fun lp ps H1 s1 np ep hps=>?_;have hj:=(jL rows 0 j e).2;rw[Nat.zero_add] at hj;have hjp:j<ps.length:=by rw[hps.length];exact hj
  obtain⟨r,hr',tp⟩:=yG hps (aB hjp);have eb:jP rows=[r]:=by
   unfold jP;rw[e];show(rows.drop j).take 1=[r];rw[drop_eq_getElem_cons hj];show[rows[j]]=[r];rw[aB hj] at hr';rw[Option.some.inj hr']
  exists _,rfl,f,dx,fs,rfl,s1 _ _ h1,nmG,f,rows,bars,rfl,hF.at_.same s1,lp,_,(j:Int),.ref ps[j],rfl,by rw[e];rfl,zh ep,wW (by rw[getElem?_map,aB hjp];rfl),jy,fun l hl=>?_
  have s2:=ze hl (.lst [.ref ps[j]]);refine q l _ (s1.trans s2) ⟨[ps[j]],s1.free hl,za,?_⟩;rw[eb];exact .cons (tp.same s2) .nil
theorem zir:zv ["form","stop"] ["form","stop"] (zk zcQ):=fsc
theorem zg2{P:Program}{w:World}{K:Frag}{base:Heap}{fd:FuncData}{gG gP:Addr}{eG eP:FuncData}(F:Fun K "tail_left" "tail_left" zcQ f fd)(FK:FC K CF)(mG:yW K CF "tail" gG)(GG:↥1 gG eG ["self"] (vP c CF 2))(bG:zU K eG ["self"] [])(mP:yW K CF "parameters" gP)(GP:↥1 gP eP ["self"] (vR c CF))(bP:zU K eP ["self"] []):
  ↥2 f fd ["form","stop"] (zdP c CF):=by
 specialize zir;obtain⟨f,st,rows,bars,rfl,hF,q⟩:=h;refine⟨_,zm (zS (xy (jh (xT (zbo (pv 1))) (vV (xT (wA (yc (pv 0) FK.cl mG GG hr bG .nil zZ)))))) (zg (zA (zP zc))) zI)
  (zg (zA (zP (ac (zV yO (yc (pv 0) FK.cl mP GP hr bP .nil zZ) (yc (pv 0) FK.cl mG GG hr bG .nil zZ) (fun _ _=>rfl)) zc)))),?_⟩
 obtain⟨dx,fs,lr,lb,ld,ps0,h1,h2,h3,h4,h5,h6⟩:=id hF.at_;have nmG:fs.lookup ("tail" : Str)=none:=h2.no _ (by decide +kernel)
 have nmP:fs.lookup ("parameters" : Str)=none:=h2.no _ (by decide +kernel)
 cases st with
 | some i=>
  exists _,rfl,_,rfl,?_;refine wZ ?_;refine wZ ?_;exact⟨xS,fun l hl=>q l _ (ze hl _) ⟨[],hl,za,.nil⟩⟩
 | none=>
  exists _,rfl,_,rfl,?_;refine x8 ?_;exists _,rfl,f,dx,fs,rfl,h1,nmG,f,rows,bars,rfl,hF.at_,_,rfl,?_;cases e:zN 2 0 rows with
  | none=>
   refine dT rfl ?_;exists xS,fun l hl=>q l _ (ze hl _) ⟨[],hl,za,?_⟩;show Paired _ [] (wt rows);unfold wt;rw[e];exact .nil
  | some j=>
   refine dF (by intro z;cases z) ?_
   exists _,rfl,f,dx,fs,rfl,h1,nmP,f,rows,bars,rfl,hF.at_,fun lp ps H1 s1 np ep hps=>?_;have hj:=(jL rows 0 j e).2;rw[Nat.zero_add] at hj;have hjp:j<ps.length:=by rw[hps.length];exact hj
   obtain⟨r,hr',tp⟩:=yG hps (aB hjp);have eb:wt rows=[r]:=by
    unfold wt;rw[e];show(rows.drop j).take 1=[r];rw[drop_eq_getElem_cons hj];show[rows[j]]=[r];rw[aB hj] at hr';rw[Option.some.inj hr']
   exists _,rfl,f,dx,fs,rfl,s1 _ _ h1,nmG,f,rows,bars,rfl,hF.at_.same s1,lp,_,(j:Int),.ref ps[j],rfl,by rw[e];rfl,zh ep,wW (by rw[getElem?_map,aB hjp];rfl),jy,fun l hl=>?_
   have s2:=ze hl (.lst [.ref ps[j]]);refine q l _ (s1.trans s2) ⟨[ps[j]],s1.free hl,za,?_⟩;show Paired _ _ (wt rows);rw[eb];exact .cons (tp.same s2) .nil
theorem zkA:zv ["form","names","number","parameter"] ["form","names"] (zk zc7):=fsc
theorem zme{P:Program}{w:World}{K:Frag}{base:Heap}{fd:FuncData}{m:MA}{gP gL:Addr}{eP eL gb:FuncData}(F:Fun K "first_both" "first_both" zc7 f fd)(hen:mg "enumerate"=none)(FK:FC K CF)(PP:Pcs K m c)(mP:yW K CF "parameters" gP)(GP:↥1 gP eP ["self"] (vR c CF))(bP:zU K eP ["self"] [])(mL:yW K CF "places" gL)(GL:↥1 gL eL ["self"] (wL c CF))(bL:zU K eL ["self"] [])
  (GB:↥1 m.fB gb ["self"] (j0 K m bnL)) (bB:zU K gb ["self"] []):↥2 f fd ["form","names"] (zlV c CF):=by
 specialize zkA;obtain⟨f,a,rows,bars,names,rfl,hF,ha,q⟩:=h;have hB:∀C,Cs5 c C->Cls K C/\yW K C "by_name" m.fB:=fun C ⟨k,hk,e⟩=>by rw[e];exact⟨(PP k hk).cl,(PP k hk).mB⟩
 refine⟨_,zm (yS PassesOwn.never rfl (wc rfl hen (ac (yp yC (yc (pv 0) FK.cl mP GP hr bP .nil zZ) yU (yn (yc (pv 0) FK.cl mL GL hr bL .nil zZ))) zc)) (yB rfl (zB (zr (i:=2) zkA.nd rfl (Or.inl rfl)) (zB (zr (i:=3) zkA.nd rfl (Or.inl rfl)) yi)))
   (zg (zS (xy (xr (y7 (xO (pv 3) hB GB hr bB zZ)) (y9 (zw yY (yI (pv 3) rfl) (pv 1) (by with_unfolding_all rfl))))) (zg (zA (pv 2))) zI)))
  (zg (zA jA)),?_⟩
 obtain⟨dx,fs,lr,lb,ld,ps0,h1,h2,h3,h4,h5,h6⟩:=id hF.at_;have nmL:fs.lookup ("places" : Str)=none:=h2.no _ (by decide +kernel)
 have nmP:fs.lookup ("parameters" : Str)=none:=h2.no _ (by decide +kernel)
 exists _,rfl,f,dx,fs,rfl,h1,nmP,f,rows,bars,rfl,hF.at_,fun lp ps H1 s1 np ep hps=>?_;exists _,rfl,f,dx,fs,rfl,s1 _ _ h1,nmL,f,rows,bars,rfl,hF.at_.same s1,_,rfl,lp,_,rfl,zh ep,fun p hp=>?_;rw[xZ,<- map_take];have u2:=ze hp (.lst ((ps.take (plN rows)).map V.ref));have e2:upd H1 p (.lst ((ps.take (plN rows)).map V.ref)) p=some (.lst ((ps.take (plN rows)).map V.ref)):=za;have hp2:=z5 u2 (xU hps (plN rows));have s2:=s1.trans u2;generalize upd H1 p (.lst ((ps.take (plN rows)).map V.ref))=H2 at u2 e2 hp2 s2 |-;have rk:∀r∈rows.take (plN rows),r.ok:=fun r h=>hF.ok r (mem_of_mem_take h);generalize rows.take (plN rows)=rw' at hp2 rk q;generalize ps.take (plN rows)=pw at e2 hp2;exists p,rfl,⟨_,zh e2⟩,wx (K:=K) (a:=p) (xs:=pw.map V.ref) (fun i σ H'=>∃v2 v3,σ=[~~~f,~~~a,v2,v3]/\zq H2 H'/\fbF names 0 rw'=fbF names i (rw'.drop i)) ⟨_,_,rfl,zq.refl _,rfl⟩ (fun i σ H' _ ⟨_,_,_,sH,_⟩=>zh (sH _ _ e2)) ?_ ?_
 ·rintro i x t σ H' hx ⟨v2,v3,rfl,sH,hb⟩ htn
  obtain⟨pa,hpa,rfl⟩:=xR hx;obtain⟨r,hr',dx',hdx⟩:=yG hp2 hpa;have rok:=rk r (aH hr');have C:=PP r.k rok.1;have hi:i<rw'.length:=(List.getElem?_eq_some_iff.mp hr').1;have er:rw'[i]=r:=by rw[aB hi] at hr';exact Option.some.inj hr'
  rw[drop_eq_getElem_cons hi,er] at hb;have hb':fbF names 0 rw'=if yo names r=true then some i else fbF names (i+1) (rw'.drop (i+1)):=hb
  have sp:=ze htn (.tup [.int (i:Nat),.ref pa]);exists t,_,rfl,zF za,rfl,_,_,rfl,_,_,rfl,rfl,?_;have s3:=sH.trans sp;generalize upd H' t (.tup [.int (i:Nat),.ref pa])=H3 at sp s3 |-;have hd3:=s3 _ _ hdx;exists _,rfl,pa,_,dx',_,rfl,⟨r.k,rok.1,rfl⟩,hd3,vJ (by decide +kernel) (by decide +kernel) (by decide +kernel),pa,dx',_,_,_,_,rfl,C,hd3,_,rfl,?_
  rw[jU r.k rok.1];cases eb:yt r.k with
  | false=>
   have:yo names r=false:=by unfold yo;rw[eb];rfl
   rw[this,aJ zft] at hb';refine x8 ?_;refine x8 ?_;exact⟨_,_,rfl,s3,hb'⟩
  | true=>
   have ei:yo names r=decide (r.z∈names):=by unfold yo;rw[eb];rfl
   refine wZ ?_;exists _,rfl,pa,_,dx',_,_,rfl,hd3,C.cl,C.nN,wR,_,rfl,a,_,rfl,.inl (zh (s3 _ _ (s2 _ _ ha))),rfl,xf,_,rfl,?_;rw[show(if false=true then !inV (V.str r.z) (names.map V.str) else inV (V.str r.z) (names.map V.str))=decide (r.z∈names) from xc]
   refine wf (fun c1=>?_) (fun c1=>?_)
   ·rw[ei,aK c1] at hb'
    exists _,rfl,?_
    have:=q H3 (s2.trans s3)
    rw[hb'] at this;exact this
   ·rw[ei,aJ c1] at hb'
    exact⟨_,_,rfl,s3,hb'⟩
 ·rintro σ H' ⟨v2,v3,rfl,sH,hb⟩
  rw[aA,hp2.length,drop_length] at hb
  have:=q H' (s2.trans sH)
  rw[hb] at this;exact this
inductive zdN(c:C5)(CF:Addr)(vs:List V)(H:Hp)(Q:VK)(E:XK):Prop|mk(a b:Addr)(ps:List Addr)(rows:List Rw)(bars:List Str):vs=[.ref a,.ref b]->H a=some (.lst (ps.map V.ref))->Paired (PAt c H) ps rows->(∀r∈rows,r.ok)->rows.length<=500->H b=some (.lst (bars.map V.str))->(∀(f:Addr) (H':Hp),zq H H'->H f=none->xN c CF H' f rows bars->Q (.ref f) H')->zdN c CF vs H Q E
def yz(names:List Str)(rs:List Rw):List Rw:=(rs.filter fun r=>yt r.k&&!decide (r.z∈names)).map fun r=>⟨3,r.z,fr r.k r.b⟩
inductive zdQ(c:C5)(CF:Addr)(vs:List V)(H:Hp)(Q:VK)(E:XK):Prop|mk(f b a:Addr)(pb:List Addr)(rows rb:List Rw)(bars names:List Str):vs=[.ref f,.ref b,.ref a]->xp c CF H f rows bars->H b=some (.lst (pb.map V.ref))->Paired (PAt c H) pb rb->(∀r∈rb,r.ok)->rb.length<=500->H a=some (.lst (names.map V.str))->(∀(l:Addr) (H':Hp),zq H H'->zib c H H' l (yz names (rb++rows.drop (plN rows)))->Q (.ref l) H')->zdQ c CF vs H Q E
theorem zj9:zcy [] []:=⟨(fun r h=>by cases h),zero_le _,zero_le _,rfl,(fun z h=>by cases h),nodup_nil⟩
theorem zcI{names:List Str}{rs:List Rw}{i:Nat}{r:Rw}(h:rs[i]?=some r):yz names (rs.take (i+1))=yz names (rs.take i)++(if (yt r.k&&!decide (r.z∈names))=true then [⟨3,r.z,fr r.k r.b⟩] else []):=by
 unfold yz;rw[take_add_one,h,filter_append,aE]
 congr 1
 show List.map _ (List.filter _ [r])=_;cases e:(yt r.k&&!decide (r.z∈names)) with
 | true=>rw[filter_cons,aK e];rfl
 | false=>rw[filter_cons,aJ (by rw[e];exact zft)];rfl
theorem wI(names:List Str)(rs:List Rw):(yz names rs).length<=rs.length:=by
 unfold yz;rw[aA];exact length_filter_le _ _
theorem zd3:zv ["parameters","bars","form"] ["parameters","bars"] (zk zcO):=fsc
theorem zg0{P:Program}{w:World}{K:Frag}{base:Heap}{fd:FuncData}{gF gK:Addr}{eF eK:FuncData}(F:Fun K "told_form" "told_form" zcO f fd)(FK:FC K CF)(kF:jq P w K mg base CX0 3 "Form" CF gF eF ["self","parameters","bars"] [.none] (zim c CF))(mK:yW K CF "keep" gK)(GK:↥2 gK eK ["self","parameters","bars"] (zcK c CF))(bK:zU K eK ["self","parameters","bars"] []):
  ↥5 f fd ["parameters","bars"] (zdN c CF):=by
 specialize zd3;obtain⟨a,b,ps,rows,bars,rfl,ha,hp,hok,l5,hb,q⟩:=h;have hr2:yl 2 _:=hr.mono ⋯
 refine⟨_,zm (zx (i:=2) zd3.nd rfl (Or.inl rfl) (cMk (dvs:=[.non]) kF (.cons rfl .nil) zZ hr (ac (zP zc) zc)))
  (zm (zW (ur (pv 2) FK.cl mK GK hr2 bK .nil zZ (ac (pv 0) (ac (pv 1) zc))))
  (zg (zA (pv 2)))),?_⟩
 exists xS,fun l hl=>?_
 injections l hl H1 s1 e1
 intro x dx hx hd hne;have sm:zq H1 (upd (upd H1 dx (.own x)) x (.ins CF dx [])):=yH hx hd;exists x,l,dx,.non,[],[],[],rfl,za,sm _ _ e1,.nil,.inl ⟨rfl,rfl⟩,zj9,fun H2 x2 F2 L2'=>⟨rfl,?_⟩;have s2:zq H1 H2:=fun b' u' e'=>x2 b' u' (sm _ _ e') (zi e' hx);have s12:=s1.trans s2;obtain⟨dx2,fs2,ex,lx⟩:=L2';obtain⟨dx3,fs3,lr,lb,ld,ps3,k1,k2,k3,k4,k5,k6⟩:=F2.at;rw[ex] at k1;cases k1;have nmK:fs2.lookup ("keep" : Str)=none:=k2.no _ (by decide +kernel)
 exists _,rfl,x,dx2,fs2,rfl,ex,nmK,_,rfl,_,rfl,x,a,b,dx2,fs2,ps,rows,bars,rfl,ex,⟨∅,k2.no⟩,s12 _ _ ha,z5 s12 hp,hok,l5,s12 _ _ hb,fun H3 x3 F3 _=>?_
 have nx:∀{b':Addr}{u':HO},H b'=some u'->b'≠x:=fun e'=>zi (s1 _ _ e') hx;exact⟨_,rfl,q x H3 (fun b' u' e'=>x3 b' u' (s12 _ _ e') (nx e')) (s1.free hx) F3.at⟩
theorem zlc:([Str.ofString "one",Str.ofString "names"]:List Str).Nodup:=by decide +kernel
theorem zd4:zv ["form","beyond","names","behind"] ["form","beyond","names"] (zk zcR):=fsc
theorem x6{xs:List V}{n:Nat}:wg xs (some (n:Int)) none=xs.drop n:=by
 unfold wg;rw[HT.zmI,HT.zl4];by_cases h:n<=xs.length
 ·rw[min_eq_left h]
  exact take_of_length_le (by rw[length_drop];exact le_refl _)
 ·rw[Nat.min_eq_right ∅,List.drop_of_length_le (le_refl _),List.drop_of_length_le ∅]
  simp
theorem wm{α β : Type}{R : α->β->Prop}{a:List α}{c:List β}(h:Paired R a c):∀n,Paired R (a.drop n) (c.drop n):=by
 induction h with
 | nil=>intro n;rw[drop_nil,drop_nil];exact .nil
 | cons r t ih=>
  intro n;cases n with
  | zero=>exact .cons r t
  | succ n=>exact ih n
theorem zef{c:C5}{H:Hp}{v D:Addr}{r:Rw}{ys:List V}{o:HO}(h:PAt c H v r)(hD:H D=some (.lst ys)):PAt c (upd H D o) v r:=by
 obtain⟨dx,h⟩:=h;exists dx,?_;rw[zj (fun e=>by rw[e,hD] at h;cases h)]
 exact h
theorem zg3{P:Program}{w:World}{K:Frag}{base:Heap}{fd:FuncData}{m:MA}{gP gL i3:Addr}{eP eL gb gf d3:FuncData}(F:Fun K "tags_left" "tags_left" zcR f fd)(FK:FC K CF)(PP:Pcs K m c)(mP:yW K CF "parameters" gP)(GP:↥1 gP eP ["self"] (vR c CF))(bP:zU K eP ["self"] [])(mL:yW K CF "places" gL)(GL:↥1 gL eL ["self"] (wL c CF))(bL:zU K eL ["self"] [])
  (GB:↥1 m.fB gb ["self"] (j0 K m bnL)) (bB:zU K gb ["self"] []) (GF:↥1 m.fF gf ["self"] (qm K m)) (bF:zU K gf ["self"] []) (kT:jq P w K mg base CX0 3 "Tag" c.c3 i3 d3 ["self","name","free"] [] (spS K c.c3 "tag")) :
  ↥5 f fd ["form","beyond","names"] (zdQ c CF):=by
 specialize zd4;obtain⟨f,b,a,pb,rows,rb,bars,names,rfl,hF,hb,hpb,rbk,lrb,ha,q⟩:=h;have hr1:yl 1 _:=hr.mono ⋯
 have hB:∀C,Cs5 c C->Cls K C/\yW K C "by_name" m.fB:=fun C ⟨k,hk,e⟩=>by rw[e];exact⟨(PP k hk).cl,(PP k hk).mB⟩
 have hFr:∀C,Cs5 c C->Cls K C/\yW K C "free" m.fF:=fun C ⟨k,hk,e⟩=>by rw[e];exact⟨(PP k hk).cl,(PP k hk).mF⟩
 refine⟨_,zm (zx (i:=3) zd4.nd rfl (Or.inl rfl) (zo yr (pv 1) (yp yC (yc (pv 0) FK.cl mP GP hr1 bP .nil zZ) (yn (yc (pv 0) FK.cl mL GL hr1 bL .nil zZ)) yU)))
  (zg (zA (wC ["names"] ["one","names"] [none,some 2] rfl ⟨rfl,rfl,rfl,rfl⟩ (z7 (pv 3)) (ya 0) rfl rfl rfl
   (fun pins fp s H C=>⟨zr (i:=0) zlc rfl (Or.inl rfl) (.inr rfl),xl (xy (xr (y7 (xO (pv 0) hB GB hr1 bB zZ)) (y9 (zw (r:=rIn K true) yL (jj (K:=K) rfl (pv 0) rfl) (pv 1) (by with_unfolding_all rfl))))),cMk kT .nil zZ hr (ac (jj (K:=K) rfl (pv 0) rfl) (ac (xO (pv 0) hFr GF hr1 bF zZ) zc))⟩)))),?_⟩
 obtain⟨dx,fs,lr,lb,ld,ps0,h1,h2,h3,h4,h5,h6⟩:=id hF.at_;have nmL:fs.lookup ("places" : Str)=none:=h2.no _ (by decide +kernel)
 have nmP:fs.lookup ("parameters" : Str)=none:=h2.no _ (by decide +kernel)
 exists _,rfl,_,rfl,f,dx,fs,rfl,h1,nmP,f,rows,bars,rfl,hF.at_,fun lp ps H1 s1 np ep hps=>?_;exists _,rfl,f,dx,fs,rfl,s1 _ _ h1,nmL,f,rows,bars,rfl,hF.at_.same s1,_,rfl,lp,_,rfl,zh ep,fun p hp=>?_;rw[x6,<- map_drop];have u2:=ze hp (.lst ((ps.drop (plN rows)).map V.ref));have e2:upd H1 p (.lst ((ps.drop (plN rows)).map V.ref)) p=some (.lst ((ps.drop (plN rows)).map V.ref)):=za;have hp2:=z5 u2 (wm hps (plN rows));have s2:=s1.trans u2;generalize upd H1 p (.lst ((ps.drop (plN rows)).map V.ref))=H2 at u2 e2 hp2 s2 |-;have big : 2000<=sizeLine:=by decide
 have ld1:(ps.drop (plN rows)).length<=500:=by rw[hp2.length,length_drop];have:=hF.lr;omega
 have lpb:pb.length<=500:=by rw[hpb.length];exact lrb
 exists b,p,_,_,rfl,rfl,s2 _ _ hb,e2,(by simp only[aA];omega),fun l3 hl3=>?_
 rw[<- aE];have u3:=ze hl3 (.lst ((pb++ps.drop (plN rows)).map V.ref));have e3:upd H2 l3 (.lst ((pb++ps.drop (plN rows)).map V.ref)) l3=some (.lst ((pb++ps.drop (plN rows)).map V.ref)):=za;have hq:Paired (PAt c H2) (pb++ps.drop (plN rows)) (rb++rows.drop (plN rows)):=zX (z5 s2 hpb) hp2;have hq3:=z5 u3 hq;have s3:=s2.trans u3;show vN _ _ _ _ (upd H2 l3 (.lst ((pb++ps.drop (plN rows)).map V.ref)));generalize upd H2 l3 (.lst ((pb++ps.drop (plN rows)).map V.ref))=H3 at u3 e3 hq3 s3 |-;have lq:(pb++ps.drop (plN rows)).length<=1000:=by rw[aG];omega
 have rk:∀r∈rb++rows.drop (plN rows),r.ok:=fun r h=>(List.mem_append.mp h).elim (rbk r) fun h=>hF.ok r (mem_of_mem_drop h);clear hq;generalize pb++ps.drop (plN rows)=pq at e3 hq3 lq;generalize rb++rows.drop (plN rows)=rs at hq3 rk q;have lrs:=hq3.length;exists _,rfl,l3,rfl,⟨_,zh e3⟩,fun D hD=>?_;refine xx (K:=K) (xs:=pq.map V.ref) (fun i ys H'=>∃vs,ys=vs.map V.ref/\zq H3 H'/\H' D=some (.lst ys)/\Paired (PAt c H') vs (yz names (rs.take i))) ⟨[],rfl,ze hD _,za,.nil⟩ (fun i ys H' ⟨_,_,h,_⟩=>zh (h _ _ e3)) ?_ ?_
 ·rintro i x ys H' hlt hx ⟨vs,rfl,sH,hDy,hv⟩
  obtain⟨pa,hpa,rfl⟩:=xR hx;obtain⟨r,hr',dx',hdx⟩:=yG hq3 hpa;have rok:=rk r (aH hr');have C:=PP r.k rok.1;have hd3:=sH _ _ hdx;have tk:=zcI (names:=names) hr';have lv:vs.length<=i:=by
   rw[hv.length];refine le_trans (wI _ _) ?_;rw[length_take];omega
  have hn:H' a=some (.lst (names.map V.str)):=sH _ _ (s3 _ _ ha);exists _,rfl,pa,_,dx',_,rfl,⟨r.k,rok.1,rfl⟩,hd3,vJ (by decide +kernel) (by decide +kernel) (by decide +kernel),pa,dx',_,_,_,_,rfl,C,hd3,_,rfl,?_
  rw[jU r.k rok.1];cases eb:yt r.k with
  | false=>
   rw[eb,Bool.false_and,aJ zft,append_nil] at tk;refine x8 ?_;exact⟨fun e=>Bool.noConfusion e,fun _=>lcS.mk hlt ⟨vs,rfl,sH,hDy,by rw[tk];exact hv⟩⟩
  | true=>
   rw[eb,Bool.true_and] at tk;refine wZ ?_;exists _,rfl,pa,_,dx',_,_,rfl,hd3,C.cl,C.nN,wR,_,rfl,a,_,rfl,.inl (zh hn),rfl,xf,_,rfl,?_;rw[show(if true=true then !inV (V.str r.z) (names.map V.str) else inV (V.str r.z) (names.map V.str))=!decide (r.z∈names) from by rw[aK rfl,xc]]
   exists fun e=>?_,fun e=>?_
   ·rw[e,aK rfl] at tk
    exists _,rfl,pa,_,dx',_,_,rfl,hd3,C.cl,C.nN,wR,_,rfl,pa,_,dx',_,rfl,⟨r.k,rok.1,rfl⟩,hd3,vJ (by decide +kernel) (by decide +kernel) (by decide +kernel),pa,dx',_,_,_,_,rfl,C,hd3,?_
    intro xt dxt hxt hdt hnt;exists xt,dxt,.str r.z,fr r.k r.b,rfl,za,.inl ⟨r.z,rfl,qM rok.2⟩,(show xM r.z=true from rok.2),fun H4 s4=>⟨rfl,?_⟩;have s5:zq H' (upd H4 xt (.ins c.c3 dxt (pf "tag" (.str r.z) (fr r.k r.b)))):=wk hxt hdt s4;have e5:PAt c (upd H4 xt (.ins c.c3 dxt (pf "tag" (.str r.z) (fr r.k r.b)))) xt ⟨3,r.z,fr r.k r.b⟩:=⟨dxt,za⟩;generalize upd H4 xt (.ins c.c3 dxt (pf "tag" (.str r.z) (fr r.k r.b)))=H5 at s5 e5 |-;have hDy5:=s5 _ _ hDy;refine lcN.mk hlt (yg (by rw[aA];exact lq)) hDy5 (by rw[aA];exact lv) ⟨vs++[xt],by rw[aE];rfl,fun b' u' e'=>?_,za,?_⟩
    ·rw[zj (zi e' hD)]
     exact s5 _ _ (sH _ _ e')
    ·rw[tk]
     exact Paired.snoc (zu (fun _ _ z=>zef (z.same s5) hDy5) hv) (zef e5 hDy5)
   ·rw[e,aJ zft,append_nil] at tk
    exact lcS.mk hlt ⟨vs,rfl,sH,hDy,by rw[tk];exact hv⟩
 ·rintro ys H' ⟨vs,rfl,sH,hDy,hv⟩
  rw[aA,lrs,take_length] at hv;exact q D H' (s3.trans sH) ⟨vs,s3.free hD,hDy,hv⟩
end
end K64
namespace L2
open PySem PySem.Spec PyProof.Rows
def oI:Option Int->V
 | none=>.non
 | some i=>.int i
def zkf(t:TE):TO:=fun σ H Q=>t σ H fun x H1=>∃o,x=oI o/\Q o H1
theorem zkR{X:Cx}{e:Expr}{te:TE}(h:PE X e te):PO X (some e) (zkf te):=by
 exists ?_;intro pins s σ H Q I hw;rw[evalPart_some];refine thn (h pins s σ H _ I hw) fun u s1 ⟨x,H1,I1,r1,q1⟩=>?_;obtain⟨o,rfl,q⟩:=q1;cases o with
 | none=>cases r1;exact⟨none,H1,I1,.none,q⟩
 | some i=>obtain⟨t,rfl⟩:=r1;exact⟨some i,H1,I1,.int i t,q⟩
end L2
namespace K64
open PySem L2 PyProof.Rows
def wa(r:Rw):Bool:=!yt r.k&&!fr r.k r.b
def plR(rows:List Rw):List Rw:=rows.take (plN rows)
def stN(rows:List Rw)(st:Option Nat):Nat:=st.getD (plR rows).length
def wS(rows:List Rw)(names:List Str)(many:Nat)(st:Option Nat):List Rw:=((plR rows).drop many).take (stN rows st - many)++(if st.isSome=true then [] else wt rows)++yz names ((plR rows).drop (stN rows st)++rows.drop (plN rows))++jP rows
def wT(rows:List Rw)(bars names:List Str)(many:Nat):List Str:=bars++(((plR rows).take many).filter fun r=>yt r.k).map (·.z)++names
inductive zdU(c:C5)(CF:Addr)(vs:List V)(H:Hp)(Q:VK)(E:XK):Prop|mk(f a:Addr)(many:Nat)(rows:List Rw)(bars names:List Str):vs=[.ref f,.int (many:Nat),.ref a]->xp c CF H f rows bars->H a=some (.lst (names.map V.str))->names.length<=100->(∀k,fbF names 0 (plR rows)=some k->many<=k)->rows.length<=400->(((plR rows).drop (stN rows (fbF names 0 (plR rows)))).any wa=true->∀H',zq H H'->Q .non H')->((((plR rows).drop (stN rows (fbF names 0 (plR rows)))).any wa=false->∀(g:Addr) (H':Hp),zq H H'->H g=none->xN c CF H' g (wS rows names many (fbF names 0 (plR rows))) (wT rows bars names many)->Q (.ref g) H'))->zdU c CF vs H Q E
theorem zjG{xs:List V}{a b:Nat}(h:a<=b)(hb:b<=xs.length):wg xs (some (a:Int)) (some (b:Int))=(xs.drop a).take (b - a):=by
 unfold wg;rw[HT.zmI,HT.zmI,min_eq_left hb,min_eq_left (le_trans h hb)]
theorem zhU{names:List Str}:∀(rows:List Rw) (i j:Nat),fbF names i rows=some j->i<=j/\j<i+rows.length
 | [],_,_,h=>by cases h
 | r::rs,i,j,h=>by
  unfold fbF at h;split at h
  ·cases h;simp
  ·have:=zhU rs (i+1) j h
   simp only[length_cons];omega
section
variable {K:Frag}{mg:Str->Option Value}{f CF N:Addr}{c:C5}
theorem zmk:([Str.ofString "one"]:List Str).Nodup:=by decide +kernel
theorem ul:zv ["form","many","names","stop","places","beyond","row","placed"] ["form","many","names"] (zk zcY):=fsc
theorem zhe{P:Program}{w:World}{base:Heap}{fd:FuncData}{m:MA}{gP gL gB g1 g2 g3 g4 g5:Addr}{eP eL eB d1 d2 d3 d4 d5 gb gf:FuncData}(F:Fun K "left_behind" "left_behind" zcY f fd)(hany:mg "any"=none)(FK:FC K CF)(PP:Pcs K m c)(mP:yW K CF "parameters" gP)(GP:↥1 gP eP ["self"] (vR c CF))(bP:zU K eP ["self"] [])(mL:yW K CF "places" gL)(GL:↥1 gL eL ["self"] (wL c CF))(bL:zU K eL ["self"] [])
  (mB:yW K CF "bars" gB) (GB:↥1 gB eB ["self"] (za4 c CF)) (bB:zU K eB ["self"] []) (GN:↥1 m.fB gb ["self"] (j0 K m bnL)) (bN:zU K gb ["self"] []) (GF:↥1 m.fF gf ["self"] (qm K m)) (bF:zU K gf ["self"] [])
  (c1:⇑2 "first_both" g1 d1 ["form","names"] (zlV c CF)) (c2:⇑2 "tail_left" g2 d2 ["form","stop"] (zdP c CF)) (c3:⇑5 "tags_left" g3 d3 ["form","beyond","names"] (zdQ c CF)) (c4:⇑2 "bag_of" g4 d4 ["form"] (zd2 c CF)) (c5:⇑5 "told_form" g5 d5 ["parameters","bars"] (zdN c CF)) :
  ↥6 f fd ["form","many","names"] (zdU c CF):=by
 specialize ul;obtain⟨f,a,many,rows,bars,names,rfl,hF,ha,ln,hms,ls,qn,qy⟩:=h;have hstl:∀k,fbF names 0 (plR rows)=some k->k<(plR rows).length:=fun k e=>by have:=(zhU (plR rows) 0 k e).2;omega
 have hst:fbF names 0 (plR rows)=fbF names 0 (rows.take (plN rows)):=rfl;generalize hfb:fbF names 0 (plR rows)=so at hms qn qy hstl hst;have hst2':stN rows so<=(plR rows).length:=by
  cases so with
  | none=>exact le_refl _
  | some k=>exact le_of_lt (hstl k rfl)
 generalize hsv:stN rows so=st at qn qy hst2';have hr1:yl 1 _:=hr.mono ⋯
 have hr2:yl 2 _:=hr.mono ⋯
 have hB:∀C,Cs5 c C->Cls K C/\yW K C "by_name" m.fB:=fun C ⟨k,hk,e⟩=>by rw[e];exact⟨(PP k hk).cl,(PP k hk).mB⟩
 have hFr:∀C,Cs5 c C->Cls K C/\yW K C "free" m.fF:=fun C ⟨k,hk,e⟩=>by rw[e];exact⟨(PP k hk).cl,(PP k hk).mF⟩
 refine⟨_,zm (zx (i:=3) ul.nd rfl (Or.inl rfl) (cF c1 hr2 (ac (pv 0) (ac (pv 2) zc))))
  (zm (zx (i:=4) ul.nd rfl (Or.inl rfl) (yp yC (yc (pv 0) FK.cl mP GP hr1 bP .nil zZ) yU (yn (yc (pv 0) FK.cl mL GL hr1 bL .nil zZ))))
  (zm (zx (i:=5) ul.nd rfl (Or.inl rfl) (qE (xT (wA (pv 3))) (zP zc) (yp yC (pv 4) (yn (pv 3)) yU)))
  (zm (zS (y7 (cB (zfD rfl) hany PyProof.Rows.boot_any (ac (wC [] ["one"] [none] rfl ⟨rfl,rfl,rfl,rfl⟩ (z7 (pv 5)) (ya 0) rfl rfl rfl
    (fun pins fp s H C=>⟨zr (i:=0) zmk rfl (Or.inl rfl) (.inr rfl),yV,zgL (zgF (xO (pv 0) hB GN hr1 bN zZ)) (zgE (zgF (xO (pv 0) hFr GF hr1 bF zZ)))⟩)) zc))) (zg (zA jA)) zI)
  (zm (zx (i:=6) ul.nd rfl (Or.inl rfl) (zo yr (zo yr (zo yr (yp yC (pv 4) (yn (pv 1)) (zkR (pv 3))) (cF c2 hr2 (ac (pv 0) (ac (pv 3) zc)))) (cF c3 hr (ac (pv 0) (ac (pv 5) (ac (pv 2) zc))))) (cF c4 hr2 (ac (pv 0) zc))))
  (zm (wO (i:=7) [] ["one"] [none] ul.nd rfl (Or.inl rfl) rfl ⟨rfl,rfl,rfl,rfl⟩ (z7 (yp yC (pv 4) yU (yn (pv 1)))) (ya 0) rfl rfl rfl
    (fun pins fp s H C=>⟨zr (i:=0) zmk rfl (Or.inl rfl) (.inr rfl),xl (y7 (xO (pv 0) hB GN hr1 bN zZ)),jj (K:=K) rfl (pv 0) rfl⟩))
  (zg (zA (cF c5 hr (ac (pv 6) (ac (zo yr (zo yr (yc (pv 0) FK.cl mB GB hr1 bB .nil zZ) (pv 7)) (pv 2)) zc)))))))))),?_⟩
 obtain⟨dx,fs,lr,lb,ld,ps0,h1,h2,h3,h4,h5,h6⟩:=id hF.at_;have nmL:fs.lookup ("places" : Str)=none:=h2.no _ (by decide +kernel)
 have nmP:fs.lookup ("parameters" : Str)=none:=h2.no _ (by decide +kernel)
 have nmB:fs.lookup ("bars" : Str)=none:=h2.no _ (by decide +kernel)
 have hst':fbF names 0 (rows.take (plN rows))=so:=hst.symm;exists _,rfl,_,rfl,f,a,rows,bars,names,rfl,hF,ha,fun H1 s1=>?_;rw[hst'];exists _,rfl,f,dx,fs,rfl,s1 _ _ h1,nmP,f,rows,bars,rfl,hF.at_.same s1,fun lp ps H2 u2 np ep hps=>?_;have s2:=s1.trans u2;exists _,rfl,f,dx,fs,rfl,s2 _ _ h1,nmL,f,rows,bars,rfl,hF.at_.same s2,_,rfl,lp,_,rfl,zh ep,fun p hp=>?_;rw[xZ,<- map_take];have u3:=ze hp (.lst ((ps.take (plN rows)).map V.ref));have e3:upd H2 p (.lst ((ps.take (plN rows)).map V.ref)) p=some (.lst ((ps.take (plN rows)).map V.ref)):=za;have hq3:Paired (PAt c (upd H2 p (.lst ((ps.take (plN rows)).map V.ref)))) (ps.take (plN rows)) (plR rows):=z5 u3 (xU hps (plN rows));have s3:=s2.trans u3;exfalso;generalize upd H2 p (.lst ((ps.take (plN rows)).map V.ref))=H3 at u3 e3 hq3 s3 |-;generalize ps.take (plN rows)=pq at e3 hq3;have lpl:(plR rows).length<=500:=by unfold plR;rw[length_take];have:=hF.lr;omega
 have lpq:pq.length=(plR rows).length:=hq3.length;have rk:∀r∈plR rows,r.ok:=fun r h=>hF.ok r (mem_of_mem_take h);have big : 4000<=sizeLine:=by decide
 refine xj (fun σ' H'=>∃pb,σ'=[~~~f,some (.int (many:Nat)),~~~a,some (wB so),~~~p,~~~pb,none,none]/\zq H3 H'/\H' pb=some (.lst ((pq.drop st).map V.ref))) ?_ (fun key=>?_);rotate_left
 ·exists _,rfl,_,rfl,?_
  cases so with
  | none=>
   refine dT rfl ?_;exists xS,fun pb hpb=>?_;have ed:pq.drop st=[]:=drop_eq_nil_of_le (by rw[lpq,<- hsv];exact le_refl _)
   exact key _ _ ⟨pb,rfl,ze hpb _,by rw[za,ed];rfl⟩
  | some k=>
   have ek:k=st:=hsv;subst ek;refine dF (by intro z;cases z) ?_
   exists _,rfl,_,rfl,_,rfl,p,_,rfl,zh e3,fun pb hpb=>?_;rw[x6,<- map_drop];exact key _ _ ⟨pb,rfl,ze hpb _,za⟩
 rintro σ H4 ⟨pb,rfl,u4,e4⟩;have hb4:Paired (PAt c H4) (pq.drop st) ((plR rows).drop st):=z5 u4 (wm hq3 st);have s4:=s3.trans u4;have rkb:∀r∈(plR rows).drop st,r.ok:=fun r h=>rk r (mem_of_mem_drop h);have lbq:=hb4.length;have lbd:(pq.drop st).length<=500:=by rw[length_drop];omega
 exists _,rfl,pb,rfl,⟨_,zh e4⟩,fun D hD=>?_;refine xx (K:=K) (xs:=(pq.drop st).map V.ref) (fun i ys H'=>zq H4 H'/\H' D=some (.lst ys)/\ys=((((plR rows).drop st).take i).map wa).map V.bl) ⟨ze hD _,za,rfl⟩ (fun i ys H' h=>zh (h.1 _ _ e4)) ?_ ?_
 ·rintro i x ys H' hlt hx ⟨sH,hDy,ey⟩
  obtain⟨pa,hpa,rfl⟩:=xR hx;obtain⟨r,hr',dx',hdx⟩:=yG hb4 hpa;have rok:=rkb r (aH hr');have C:=PP r.k rok.1;have hd3:=sH _ _ hdx;have hi:i<((plR rows).drop st).length:=(List.getElem?_eq_some_iff.mp hr').1;have er:((plR rows).drop st)[i]=r:=by rw[aB hi] at hr';exact Option.some.inj hr'
  have tk:(((plR rows).drop st).take (i+1)).map wa=(((plR rows).drop st).take i).map wa++[wa r]:=by
   rw[take_succ_eq_append_getElem hi,aE,er];rfl
  have fin:lcN ((pq.drop st).map V.ref).length i D (fun i ys H'=>zq H4 H'/\H' D=some (.lst ys)/\ys=((((plR rows).drop st).take i).map wa).map V.bl) ys (.bl (wa r)) H':=by
   refine lcN.mk hlt (yg (by rw[aA];omega)) hDy (by rw[ey,aA,aA,length_take];omega) ⟨fun b' u' e'=>?_,za,?_⟩
   ·rw[zj (zi e' hD)]
    exact sH _ _ e'
   ·rw[ey,tk,aE]
    rfl
  exists fun _=>?_,fun e=>Bool.noConfusion e;exists _,rfl,pa,_,dx',_,rfl,⟨r.k,rok.1,rfl⟩,hd3,vJ (by decide +kernel) (by decide +kernel) (by decide +kernel),pa,dx',_,_,_,_,rfl,C,hd3,_,rfl,_,rfl,?_
  rw[jU r.k rok.1];unfold wa at fin;cases eb:yt r.k with
  | true=>
   rw[eb] at fin;refine x8 ?_;exact fin
  | false=>
   rw[eb] at fin;refine wZ ?_;exact⟨_,rfl,pa,_,dx',_,rfl,⟨r.k,rok.1,rfl⟩,hd3,vJ (by decide +kernel) (by decide +kernel) (by decide +kernel),pa,dx',_,_,_,_,rfl,C,hd3,_,rfl,fin⟩
 rintro ys H5 ⟨u5,hDy5,ey⟩;rw[aA,lbq,take_length] at ey;subst ey;exists D,_,rfl,zh hDy5,_,rfl,?_;have s5:=s4.trans u5;have eany:(((plR rows).drop st).map wa).any id=((plR rows).drop st).any wa:=by rw[any_map];rfl
 rw[eany];refine wf (fun c1'=>?_) (fun c1'=>?_)
 ·exact qn c1' _ s5
 have cf:((plR rows).drop st).any wa=false:=by
  cases e:((plR rows).drop st).any wa with
  | false=>rfl
  | true=>exact absurd e c1'
 have qy:=qy cf;have v35:zq H3 H5:=u4.trans u5;have hst2:st<=pq.length:=by rw[lpq];exact hst2'
 have ecut:wg (pq.map V.ref) (some (many:Int)) (so.map fun k=>((k:Nat):Int))=((pq.drop many).take (st - many)).map V.ref:=by
  cases so with
  | none=>
   show wg (pq.map V.ref) (some (many:Int)) none=_;rw[x6,<- map_drop,take_of_length_le (by rw[length_drop,lpq,<- hsv];exact le_refl _)]
  | some k=>
   have ek:k=st:=hsv;subst ek;show wg (pq.map V.ref) (some (many:Int)) (some (k:Int))=_;rw[zjG (hms k rfl) (by rw[aA];exact hst2),<- map_drop,<- map_take]
 exists _,rfl,_,rfl,_,rfl,_,rfl,so.map fun k=>((k:Nat):Int),(by cases so <;> rfl),p,_,rfl,zh (v35 _ _ e3),fun p6 hp6=>?_
 rw[ecut];have u6:=ze hp6 (.lst (((pq.drop many).take (st - many)).map V.ref));have e6:upd H5 p6 (.lst (((pq.drop many).take (st - many)).map V.ref)) p6=some (.lst (((pq.drop many).take (st - many)).map V.ref)):=za;have q6:Paired (PAt c (upd H5 p6 (.lst (((pq.drop many).take (st - many)).map V.ref)))) ((pq.drop many).take (st - many)) (((plR rows).drop many).take (st - many)):=z5 (v35.trans u6) (xU (wm hq3 many) (st - many));have s6:=s5.trans u6;generalize upd H5 p6 (.lst (((pq.drop many).take (st - many)).map V.ref))=H6 at u6 e6 q6 s6 |-;have l6:((pq.drop many).take (st - many)).length<=500:=by rw[length_take,length_drop];omega
 exists _,rfl,_,rfl,f,so,rows,bars,rfl,hF.same s6,fun l7 H7 u7 ⟨ps7,n7,e7,q7⟩=>?_;have ltl:(wt rows).length<=1:=by
  unfold wt;split
  ·exact zero_le _
  ·rw[length_take];omega
 have l7':ps7.length<=1:=by
  rw[q7.length];split
  ·exact zero_le _
  ·exact ltl
 have s7:=s6.trans u7;exists p6,l7,_,_,rfl,rfl,u7 _ _ e6,e7,(by simp only[aA];omega),fun p8 hp8=>?_
 rw[<- aE];have u8:=ze hp8 (.lst (((pq.drop many).take (st - many)++ps7).map V.ref));have e8:upd H7 p8 (.lst (((pq.drop many).take (st - many)++ps7).map V.ref)) p8=some (.lst (((pq.drop many).take (st - many)++ps7).map V.ref)):=za;have q8:Paired (PAt c (upd H7 p8 (.lst (((pq.drop many).take (st - many)++ps7).map V.ref)))) ((pq.drop many).take (st - many)++ps7) (((plR rows).drop many).take (st - many)++(if so.isSome=true then [] else wt rows)):=zX (z5 (u7.trans u8) q6) (z5 u8 q7)
 have s8:=s7.trans u8;generalize upd H7 p8 (.lst (((pq.drop many).take (st - many)++ps7).map V.ref))=H8 at u8 e8 q8 s8 |-;have v48:zq H4 H8:=u5.trans (u6.trans (u7.trans u8));exists _,rfl,_,rfl,_,rfl,f,pb,a,pq.drop st,rows,(plR rows).drop st,bars,names,rfl,hF.same s8,v48 _ _ e4,z5 v48 hb4,rkb,by rw[<- lbq];exact lbd,s8 _ _ ha,fun l9 H9 u9 ⟨ps9,n9,e9,q9⟩=>?_
 have s9:=s8.trans u9;have l9':ps9.length<=1000:=by
  rw[q9.length];refine le_trans (wI _ _) ?_;rw[aG,length_drop,length_drop]
  have:=hF.lr
  omega
 exists p8,l9,_,_,rfl,rfl,u9 _ _ e8,e9,(by simp only[aA,aG];omega),fun p10 hp10=>?_
 rw[<- aE];have u10:=ze hp10 (.lst (((pq.drop many).take (st - many)++ps7++ps9).map V.ref));have e10:upd H9 p10 (.lst (((pq.drop many).take (st - many)++ps7++ps9).map V.ref)) p10=some (.lst (((pq.drop many).take (st - many)++ps7++ps9).map V.ref)):=za;have q10:=zX (z5 (u9.trans u10) q8) (z5 u10 q9);have s10:=s9.trans u10;generalize upd H9 p10 (.lst (((pq.drop many).take (st - many)++ps7++ps9).map V.ref))=H10 at u10 e10 q10 s10 |-;exists _,rfl,f,rows,bars,rfl,hF.same s10,fun l11 H11 u11 ⟨ps11,n11,e11,q11⟩=>?_;have s11:=s10.trans u11;have lbag:(jP rows).length<=1:=by
  unfold jP;split
  ·exact zero_le _
  ·rw[length_take];omega
 have l11':ps11.length<=1:=by rw[q11.length];exact lbag
 exists p10,l11,_,_,rfl,rfl,u11 _ _ e10,e11,(by simp only[aA,aG,length_nil];omega),fun p12 hp12=>?_
 rw[<- aE];have u12:=ze hp12 (.lst (((pq.drop many).take (st - many)++ps7++ps9++ps11).map V.ref));have e12:upd H11 p12 (.lst (((pq.drop many).take (st - many)++ps7++ps9++ps11).map V.ref)) p12=some (.lst (((pq.drop many).take (st - many)++ps7++ps9++ps11).map V.ref)):=za;have q12:Paired (PAt c (upd H11 p12 (.lst (((pq.drop many).take (st - many)++ps7++ps9++ps11).map V.ref)))) ((pq.drop many).take (st - many)++ps7++ps9++ps11) (wS rows names many so):=by
  unfold wS;rw[hsv];exact zX (z5 (u11.trans u12) q10) (z5 u12 q11)
 have s12:=s11.trans u12;show vN _ _ _ _ (upd H11 p12 (.lst (((pq.drop many).take (st - many)++ps7++ps9++ps11).map V.ref)));have lps:((pq.drop many).take (st - many)++ps7++ps9++ps11).length<=1502:=by simp only[aG,length_nil];omega
 generalize upd H11 p12 (.lst (((pq.drop many).take (st - many)++ps7++ps9++ps11).map V.ref))=H12 at u12 e12 q12 s12 |-;generalize (pq.drop many).take (st - many)++ps7++ps9++ps11=pz at e12 q12 lps;have v312:zq H3 H12:=v35.trans (u6.trans (u7.trans (u8.trans (u9.trans (u10.trans (u11.trans u12))))));exists _,rfl,_,rfl,_,rfl,p,_,rfl,zh (v312 _ _ e3),fun p13 hp13=>?_;rw[xZ,<- map_take];have u13:=ze hp13 (.lst ((pq.take many).map V.ref));have e13:upd H12 p13 (.lst ((pq.take many).map V.ref)) p13=some (.lst ((pq.take many).map V.ref)):=za;have q13:Paired (PAt c (upd H12 p13 (.lst ((pq.take many).map V.ref)))) (pq.take many) ((plR rows).take many):=z5 (v312.trans u13) (xU hq3 many);have s13:=s12.trans u13;generalize upd H12 p13 (.lst ((pq.take many).map V.ref))=H13 at u13 e13 q13 s13 |-;have l13:(pq.take many).length<=500:=by rw[length_take];omega
 exists p13,rfl,⟨_,zh e13⟩,fun D14 hD14=>?_;refine xx (K:=K) (xs:=(pq.take many).map V.ref) (fun i ys H'=>zq H13 H'/\H' D14=some (.lst ys)/\ys=(((((plR rows).take many).take i).filter fun r=>yt r.k).map (·.z)).map V.str) ⟨ze hD14 _,za,rfl⟩ (fun i ys H' h=>zh (h.1 _ _ e13)) ?_ ?_
 ·rintro i x ys H' hlt hx ⟨sH,hDy,ey⟩
  obtain⟨pa,hpa,rfl⟩:=xR hx;obtain⟨r,hr',dx',hdx⟩:=yG q13 hpa;have rok:=rk r (mem_of_mem_take (aH hr'));have C:=PP r.k rok.1;have hd3:=sH _ _ hdx;have tk:((((plR rows).take many).take (i+1)).filter fun r=>yt r.k).map (·.z)=((((plR rows).take many).take i).filter fun r=>yt r.k).map (·.z)++(if yt r.k=true then [r.z] else []):=by
   rw[take_add_one,hr',filter_append,aE]
   congr 1
   show List.map _ (List.filter _ [r])=_;cases e:yt r.k <;> simp [List.filter,e]
  have nl:ys.length<=i:=by
   rw[ey,aA,aA];refine le_trans (length_filter_le _ _) ?_;rw[length_take];omega
  exists _,rfl,pa,_,dx',_,rfl,⟨r.k,rok.1,rfl⟩,hd3,vJ (by decide +kernel) (by decide +kernel) (by decide +kernel),pa,dx',_,_,_,_,rfl,C,hd3,_,rfl,?_
  rw[jU r.k rok.1];exists fun e=>?_,fun e=>?_
  ·rw[e,aK rfl] at tk
   exists _,rfl,pa,_,dx',_,_,rfl,hd3,C.cl,C.nN,wR,?_;refine lcN.mk hlt (yg (by rw[aA];omega)) hDy nl ⟨fun b' u' e'=>?_,za,?_⟩
   ·rw[zj (zi e' hD14)]
    exact sH _ _ e'
   ·rw[ey,tk,aE]
    rfl
  ·rw[e,aJ zft,append_nil] at tk
   exact lcS.mk hlt ⟨sH,hDy,by rw[ey,tk]⟩
 rintro ys H14 ⟨u14,hDy14,ey⟩;have e15:ys=((((plR rows).take many).filter fun r=>yt r.k).map (·.z)).map V.str:=by
  rw[ey,aA,q13.length,take_length]
 subst e15;have s14:=s13.trans u14;have lpd:((((plR rows).take many).filter fun r=>yt r.k).map (·.z)).length<=500:=by
  rw[aA];refine le_trans (length_filter_le _ _) ?_;rw[length_take];omega
 exists _,rfl,_,rfl,f,dx,fs,rfl,s14 _ _ h1,nmB,f,rows,bars,rfl,hF.at_.same s14,fun l16 H16 u16 n16 e16=>?_;have s16:=s14.trans u16;have lb5:=hF.lb;exists _,rfl,l16,D14,_,_,rfl,rfl,e16,u16 _ _ hDy14,(by simp only[aA];simp only[aA] at lpd;omega),fun p17 hp17=>?_
 rw[<- aE];have u17:=ze hp17 (.lst ((bars++(((plR rows).take many).filter fun r=>yt r.k).map (·.z)).map V.str));have e17:upd H16 p17 (.lst ((bars++(((plR rows).take many).filter fun r=>yt r.k).map (·.z)).map V.str)) p17=some (.lst ((bars++(((plR rows).take many).filter fun r=>yt r.k).map (·.z)).map V.str)):=za;have s17:=s16.trans u17;generalize upd H16 p17 (.lst ((bars++(((plR rows).take many).filter fun r=>yt r.k).map (·.z)).map V.str))=H17 at u17 e17 s17 |-;exists _,rfl,p17,a,_,_,rfl,rfl,e17,s17 _ _ ha,(by simp only[aA,aG];simp only[aA] at lpd;omega),fun p18 hp18=>?_
 rw[<- aE];have u18:=ze hp18 (.lst ((wT rows bars names many).map V.str));have v1218:zq H12 (upd H17 p18 (.lst ((wT rows bars names many).map V.str))):=u13.trans (u14.trans (u16.trans (u17.trans u18)));have rkl:∀r∈wS rows names many so,r.ok:=fun r h=>by
  unfold wS at h;rw[hsv] at h;simp only[mem_append] at h;rcases h with ((h|h)|h)|h
  ·exact rk r (mem_of_mem_drop (mem_of_mem_take h))
  ·split at h
   ·cases h
   ·unfold wt at h
    split at h
    ·cases h
    ·exact hF.ok r (mem_of_mem_drop (mem_of_mem_take h))
  ·unfold yz at h
   obtain⟨r',h',rfl⟩:=List.mem_map.mp h;have hr':=(List.mem_filter.mp h').1;rcases List.mem_append.mp hr' with h''|h''
   ·exact⟨by show 3<5;decide,(rkb r' h'').2⟩
   ·exact⟨by show 3<5;decide,(hF.ok r' (mem_of_mem_drop h'')).2⟩
  ·unfold jP at h
   split at h
   ·cases h
   ·exact hF.ok r (mem_of_mem_drop (mem_of_mem_take h))
 have lplN:plN rows<=rows.length:=length_filter_le _ _;have epl:(plR rows).length=plN rows:=by unfold plR;rw[length_take];omega
 have ll:(wS rows names many so).length<=500:=by
  unfold wS;rw[hsv];have ht:=wI names ((plR rows).drop st++rows.drop (plN rows));have htl:(if so.isSome=true then [] else wt rows).length<=1:=by
   split
   ·exact zero_le _
   ·exact ltl
  simp only[aG,length_drop,length_take] at ht |-;omega
 exists p12,p18,pz,wS rows names many so,wT rows bars names many,rfl,v1218 _ _ e12,z5 v1218 q12,rkl,ll,za,fun g H19 u19 ng hg=>?_;exact qy g H19 (s17.trans (u18.trans u19)) ((s17.trans u18).free ng) hg
def vZ(rows:List Rw)(bars names:List Str)(many:Nat):Option (List Rw×List Str):=
 if ((plR rows).drop (stN rows (fbF names 0 (plR rows)))).any wa=true then none else some (wS rows names many (fbF names 0 (plR rows)),wT rows bars names many)
theorem zhx{rows:List Rw}{names:List Str}{many:Nat}{so:Option Nat}(hok:∀r∈rows,r.ok):∀r∈wS rows names many so,r.ok:=fun r h=>by
 unfold wS at h;simp only[mem_append] at h;rcases h with ((h|h)|h)|h
 ·exact hok r (mem_of_mem_take (mem_of_mem_drop (mem_of_mem_take h)))
 ·split at h
  ·cases h
  ·unfold wt at h
   split at h
   ·cases h
   ·exact hok r (mem_of_mem_drop (mem_of_mem_take h))
 ·unfold yz at h
  obtain⟨r',h',rfl⟩:=List.mem_map.mp h;rcases List.mem_append.mp (List.mem_filter.mp h').1 with h''|h''
  ·exact⟨by show 3<5;decide,(hok r' (mem_of_mem_take (mem_of_mem_drop h''))).2⟩
  ·exact⟨by show 3<5;decide,(hok r' (mem_of_mem_drop h'')).2⟩
 ·unfold jP at h
  split at h
  ·cases h
  ·exact hok r (mem_of_mem_drop (mem_of_mem_take h))
theorem zfe(rows:List Rw)(names:List Str)(many:Nat)(so:Option Nat):(wS rows names many so).length<=3 * rows.length+2:=by
 have h1:(plR rows).length<=rows.length:=by unfold plR;rw[length_take];omega
 have h2:∀k,((rows.drop k).take 1).length<=1:=fun k=>by rw[length_take];omega
 have h3:(if so.isSome=true then ([]:List Rw) else wt rows).length<=1:=by
  split
  ·exact zero_le _
  ·unfold wt;split
   ·exact zero_le _
   ·exact h2 _
 have h4:(jP rows).length<=1:=by
  unfold jP;split
  ·exact zero_le _
  ·exact h2 _
 have h5:=wI names ((plR rows).drop (stN rows so)++rows.drop (plN rows));unfold wS;simp only[aG,length_drop,length_take] at h5 |-;omega
theorem zaF(rows:List Rw)(bars names:List Str)(many:Nat):(wT rows bars names many).length<=bars.length+rows.length+names.length:=by
 unfold wT plR
 have:((((rows.take (plN rows)).take many).filter fun r=>yt r.k).map (·.z)).length<=rows.length:=by
  rw[aA];refine le_trans (length_filter_le _ _) ?_;rw[length_take,length_take];omega
 rw[aG,aG];omega
def LfQ(c:C5)(CF:Addr)(H:Hp)(v:V):Option (List Rw×List Str)->Prop
 | none=>v=.non
 | some (rows,bars)=>∃g,v=.ref g/\xp c CF H g rows bars
inductive vQ(K:Frag)(c:C5)(CF CP:Addr)(vs:List V)(H:Hp)(Q:VK)(E:XK):Prop|mk(p f:Addr)(N:Addr->Prop)(ts:List Int)(ps:List (Str×Int))(rows:List Rw)(bars:List Str):vs=[.ref p]->vM K CP N H p f ts ps->xp c CF H f rows bars->ps.length<=100->(∀k,fbF (ps.map (·.1)) 0 (plR rows)=some k->ts.length<=k)->rows.length<=120->bars.length<=280->(∀(v:V) (H':Hp),zq H H'->LfQ c CF H' v (vZ rows bars (ps.map (·.1)) ts.length)->Q v H')->vQ K c CF CP vs H Q E
theorem zf3:zv ["self"] ["self"] (zk zbi):=fsc
theorem ze7{P:Program}{w:World}{base:Heap}{fd:FuncData}{CP:Addr}{g1:Addr}{d1:FuncData}(F:Fun K "left" "Part.left" zbi f fd)(hlen:mg "len"=none)(PC':PtC K CP)(c1:⇑6 "left_behind" g1 d1 ["form","many","names"] (zdU c CF)):↥7 f fd ["self"] (vQ K c CF CP):=by
 specialize zf3;obtain⟨p,f,N,ts,ps,rows,bars,rfl,⟨dx,k1,k2,yk,hp,e1,e2,gp,_,_⟩,hF,lps,hts,l4,lb4,q⟩:=h;refine⟨_,zg (zA (cF c1 hr (ac (yI (pv 0) rfl) (ac (cB zO hlen PySem.boot_len (ac (yI (pv 0) rfl) zc)) (ac (wC [] ["name","thing"] [none,none] rfl ⟨rfl,rfl,rfl,rfl⟩ (z7 (yI (pv 0) rfl)) (xY (K:=K) (n:=2) 0 1) rfl rfl rfl
   (fun pins fp s H C=>⟨yB rfl (zB (zr (i:=0) zjg rfl (Or.inl rfl) (.inr rfl)) (zB (zr (i:=1) zjg rfl (Or.inl rfl) (.inr rfl)) yi)),yV,pv 0⟩)) zc))))),?_⟩
 exists _,rfl,p,CP,dx,_,_,rfl,hp,PC'.cl,PC'.n1,zd9,_,rfl,p,CP,dx,_,_,rfl,hp,PC'.cl,PC'.n2,zaz,k1,_,rfl,.inl (zh e1),_,rfl,p,CP,dx,_,_,rfl,hp,PC'.cl,PC'.n3,zbY,k2,rfl,⟨_,zh e2⟩,fun D hD=>?_;have lyk:yk.length=ps.length:=by rw[gp.length,aA]
 refine xx (K:=K) (xs:=yk) (fun i zs H'=>zq H H'/\H' D=some (.lst zs)/\zs=((ps.map (·.1)).take i).map V.str) ⟨ze hD _,za,rfl⟩ (fun i zs H' h=>zh (h.1 _ _ e2)) ?_ ?_
 ·rintro i x zs H' hlt hx ⟨sH,hDy,ez⟩
  obtain⟨d,hd,hy⟩:=Paired.get gp hx;obtain⟨pr',hpr,rfl⟩:=jl hd;obtain⟨b,rfl,hb⟩:=ut (hy.same sH);exists b,_,rfl,hb,rfl,_,_,rfl,_,_,rfl,rfl,fun _=>⟨_,rfl,?_⟩,fun e=>Bool.noConfusion e;have hi:i<(ps.map (·.1)).length:=by rw[aA];omega
  have en:(ps.map (·.1))[i]=pr'.1:=by
   have:(ps.map (·.1))[i]?=some pr'.1:=by rw[getElem?_map,hpr];rfl
   rw[aB hi] at this;exact Option.some.inj this
  refine lcN.mk hlt (yg ∅) hDy (by rw[ez,aA,length_take];omega) ⟨fun b' u e=>?_,za,?_⟩
  ·rw[zj (zi e hD)]
   exact sH b' u e
  ·rw[ez,take_succ_eq_append_getElem hi,en,aE]
   rfl
 rintro zs H2 ⟨s2,hDy,ez⟩;have hz:zs=(ps.map (·.1)).map V.str:=by
  rw[ez,take_of_length_le (by rw[aA];omega)]
 subst hz;have lnm:(ps.map (·.1)).length<=100:=by rw[aA];exact lps
 exists f,D,ts.length,rows,bars,ps.map (·.1),(by rw[aA];rfl),hF.same s2,hDy,lnm,hts,∅,fun e H' s'=>q .non H' (s2.trans s') ?_,fun e g H' s' ng hg=>q (.ref g) H' (s2.trans s') ?_
 ·unfold vZ
  rw[aK e];rfl
 ·unfold vZ
  rw[aJ (by rw[e];exact zft)]
  exact⟨g,rfl,hg,le_trans (zfe ..) ∅,le_trans (zaF ..) ∅,zhx hF.ok⟩
theorem zj4{p:Nat->Prop}{n:Nat}(h:p n):∃m,p m/\∀k,k<m->¬p k:=by
 induction n using Nat.strongRecOn with
 | ind n ih=>
  by_cases c:∃k,k<n/\p k
  ·obtain⟨k,hk,pk⟩:=c
   exact ih k hk pk
  ·exact⟨n,h,fun k hk pk=>c ⟨k,hk,pk⟩⟩
theorem zbK{rows:List Rw}{bars:List Str}{n:Nat}{z wd:Str}(h:yx rows bars n z=some wd):wd≠"lacking":=by
 unfold yx at h;split at h
 ·cases h;decide +kernel
 ·split at h
  ·split at h
   ·cases h
   ·cases h;decide +kernel
  ·split at h
   ·cases h;decide +kernel
   ·cases h
theorem zbq{rows:List Rw}{bars:List Str}{n:Nat}{zs:List Str}(h:nlF (xP rows bars n zs)=none):vI rows bars n zs:=by
 have nd:ui zs:=fun j y hy hm=>by
  obtain⟨m,⟨y',hy',hm'⟩,hl⟩:=zj4 (p:=fun j=>∃y,zs[j]?=some y/\y∈zs.take j) (n:=j) ⟨y,hy,hm⟩
  have:=zlr (rows:=rows) (bars:=bars) (many:=n) (fun j' hj y e he=>hl j' hj ⟨y,e,he⟩) hy' hm'
  rw[h] at this;cases this
 have ho:n<=plN rows\/(zN 2 0 rows).isSome=true:=by
  by_cases c:n<=plN rows
  ·exact .inl c
  ·cases e:(zN 2 0 rows).isSome with
   | true=>exact .inr rfl
   | false=>
    have:=zjw (bars:=bars) nd (Nat.lt_of_not_le c) e
    rw[h] at this;cases this
 exists nd,ho,fun z hz=>?_;obtain⟨j,hj⟩:=List.getElem?_of_mem hz;cases e:yx rows bars n z with
 | none=>rfl
 | some wd=>
  obtain⟨m,⟨y,wd',hy,hw⟩,hl⟩:=zj4 (p:=fun j=>∃y wd,zs[j]?=some y/\yx rows bars n y=some wd) (n:=j) ⟨z,wd,hj,e⟩
  have:=zlq nd ho (fun j' hj' y' e'=>by
   cases e2:yx rows bars n y' with
   | none=>rfl
   | some w2=>exact absurd ⟨y',w2,e',e2⟩ (hl j' hj')) hy hw (zbK hw)
  rw[h] at this;cases this
theorem zdH{rows:List Rw}{bars:List Str}{n:Nat}{zs:List Str}(h:vI rows bars n zs):nlF (xP rows bars n zs)=none:=zbw h.1 h.2.1 h.2.2
theorem uc{r:Rw}{g:Nat}(h:r.ok/\grp r.k=g):(g=0->xV r.k=true)/\(g≠0->xV r.k=false)/\(r.k=2 ↔ g=1)/\(r.k=4 ↔ g=3)/\(g=1->yt r.k=false)/\(g=3->yt r.k=false)/\(g=2->r.k=3)/\(g=0->(r.k=1 ↔ yt r.k=true)):=by
 obtain⟨⟨hk,_⟩,e⟩:=h;subst e;rcases lt5 hk with c|c|c|c|c <;> rw[c] <;> decide
theorem zhS{p:Rw->Bool}{xs:List Rw}(h:∀r∈xs,p r=true):xs.filter p=xs:=List.filter_eq_self.mpr h
theorem qd{p:Rw->Bool}{xs:List Rw}(h:∀r∈xs,p r=false):xs.filter p=[]:=List.filter_eq_nil_iff.mpr fun r hr e=>by rw[h r hr] at e;cases e
end
section
variable {i:Nat}{S:FS}(M:FM i S)
include M
theorem qa:S.rows.filter (fun r=>xV r.k)=S.P:=by
 unfold FS.rows;rw[filter_append,filter_append,filter_append,zhS (fun r h=>(uc (M.okP r h)).1 rfl),qd (fun r h=>(uc (M.okT r h)).2.1 ⋯),qd (fun r h=>(uc (M.okG r h)).2.1 ⋯),qd (fun r h=>(uc (M.okB r h)).2.1 ⋯)]
 simp
theorem ziI:plN S.rows=S.P.length:=by unfold plN;rw[qa M]
theorem qD:plR S.rows=S.P:=by
 unfold plR;rw[ziI M];unfold FS.rows;simp
theorem zls:S.rows.drop (plN S.rows)=S.T++S.G++S.B:=by
 rw[ziI M];unfold FS.rows;rw[append_assoc,append_assoc,drop_left,append_assoc]
theorem zj3:nms S.rows=nms S.P++nms S.G:=by
 unfold FS.rows;rw[yZ,yZ,yZ,uw M.okT rfl,uw M.okB rfl,append_nil,append_nil]
omit M in
theorem uz{kk:Nat}:∀{xs:List Rw}(ys:List Rw) (i:Nat),(∀r∈xs,r.k≠kk)->zN kk i (xs++ys)=zN kk (i+xs.length) ys
 | [],ys,i,_=>rfl
 | r::xs,ys,i,h=>by
  show(if r.k=kk then some i else zN kk (i+1) (xs++ys))=_
  rw[aJ (h r mem_cons_self),uz ys (i+1) (fun r' h'=>h r' (mem_cons_of_mem _ h')),length_cons]
  congr 1
  omega
omit M in
theorem zdq{kk:Nat}{xs:List Rw}{i:Nat}(h:∀r∈xs,r.k≠kk):zN kk i xs=none:=by
 have:=uz [] i h
 rw[append_nil] at this;exact this
theorem zds:zN 2 0 S.rows=if S.T=[] then none else some S.P.length:=by
 unfold FS.rows;rw[append_assoc,append_assoc,uz _ _ (fun r h e=>absurd ((uc (M.okP r h)).2.2.1.mp e) ⋯)]
 cases e:S.T with
 | nil=>
  rw[aK rfl,nil_append];exact zdq fun r h=>(List.mem_append.mp h).elim (fun h e=>absurd ((uc (M.okG r h)).2.2.1.mp e) ⋯) (fun h e=>absurd ((uc (M.okB r h)).2.2.1.mp e) ⋯)
 | cons t T=>
  rw[aJ (by simp)]
  show(if t.k=2 then _ else _)=_
  rw[aK ((uc (M.okT t (by rw[e];exact mem_cons_self))).2.2.1.mpr rfl),Nat.zero_add]
theorem zdr:zN 4 0 S.rows=if S.B=[] then none else some (S.P.length+S.T.length+S.G.length):=by
 unfold FS.rows;rw[uz _ _ (fun r h e=>?_)]
 ·cases e:S.B with
  | nil=>rw[aK rfl];rfl
  | cons t T=>
   rw[aJ (by simp)]
   show(if t.k=4 then _ else _)=_
   rw[aK ((uc (M.okB t (by rw[e];exact mem_cons_self))).2.2.2.1.mpr rfl),Nat.zero_add,aG,aG]
 ·rcases List.mem_append.mp h with h|h
  ·rcases List.mem_append.mp h with h|h
   ·exact absurd ((uc (M.okP r h)).2.2.2.1.mp e) ⋯
   ·exact absurd ((uc (M.okT r h)).2.2.2.1.mp e) ⋯
  ·exact absurd ((uc (M.okG r h)).2.2.2.1.mp e) ⋯
omit M in
theorem zlG{xs:List Rw}(h:xs.length<=1):xs.take 1=xs:=take_of_length_le h
theorem zke:wt S.rows=S.T:=by
 unfold wt;rw[zds M];by_cases c:S.T=[]
 ·rw[aK c,c]
 ·rw[aJ c]
  show(S.rows.drop S.P.length).take 1=S.T;unfold FS.rows;rw[append_assoc,append_assoc,drop_left];cases e:S.T with
  | nil=>exact absurd e c
  | cons t T=>
   have:=M.lT
   rw[e,length_cons] at this
   have:T=[]:=List.eq_nil_of_length_eq_zero ∅
   rw[this];rfl
theorem zmz:jP S.rows=S.B:=by
 unfold jP;rw[zdr M];by_cases c:S.B=[]
 ·rw[aK c,c]
 ·rw[aJ c]
  show(S.rows.drop (S.P.length+S.T.length+S.G.length)).take 1=S.B;unfold FS.rows;rw[<- aG,<- aG,drop_left,zlG M.lB]
end
theorem vg(N:List Str)(a b:List Rw):yz N (a++b)=yz N a++yz N b:=by unfold yz;rw[filter_append,aE]
theorem zdJ{N:List Str}{xs:List Rw}(h:∀r∈xs,yt r.k=false):yz N xs=[]:=by
 unfold yz;rw[qd (fun r hr=>by rw[h r hr];rfl)]
 rfl
theorem jt(N1 N2:List Str):∀X:List Rw,yz N2 (yz N1 X)=yz (N1++N2) X
 | []=>rfl
 | r::X=>by
  have ih:=jt N1 N2 X;have e:∀N (r:Rw) X,yz N (r::X)=(if (yt r.k&&!decide (r.z∈N))=true then [⟨3,r.z,fr r.k r.b⟩] else [])++yz N X:=fun N r X=>by
   unfold yz;rw[filter_cons];split <;> rfl
  rw[e N1,e (N1++N2),vg,ih]
  congr 1
  by_cases h1:yt r.k=true
  ·by_cases h2:r.z∈N1
   ·rw[aJ (by simp [h2]),aJ (by simp [h2])];rfl
   ·rw[aK (by simp [h1,h2])]
    rw[e N2];by_cases h3:r.z∈N2
    ·rw[aJ (by simp [h3]),aJ (by simp [h3])];rfl
    ·rw[aK (by simp [h3,yt]),aK (by simp [h1,h2,h3])];rfl
  ·rw[aJ (by simp [h1]),aJ (by simp [h1])];rfl
theorem zcH{N N':List Str}{X:List Rw}(h:∀r∈X,yt r.k=true->(r.z∈N ↔ r.z∈N')):yz N X=yz N' X:=by
 unfold yz
 congr 1
 refine List.filter_congr fun r hr=>?_;cases e:yt r.k with
 | false=>rfl
 | true=>rw[decide_eq_decide.mpr (h r hr e)]
theorem zhT{N:List Str}:∀{xs:List Rw}(ys:List Rw) (i:Nat),(∀r∈xs,yo N r=false)->fbF N i (xs++ys)=fbF N (i+xs.length) ys
 | [],ys,i,_=>rfl
 | r::xs,ys,i,h=>by
  show(if yo N r=true then some i else fbF N (i+1) (xs++ys))=_
  rw[aJ (by rw[h r mem_cons_self];exact zft),zhT ys (i+1) (fun r' h'=>h r' (mem_cons_of_mem _ h')),length_cons]
  congr 1
  omega
theorem qW{N:List Str}:∀(ys:List Rw) (i d:Nat),fbF N (i+d) ys=(fbF N i ys).map (·+d)
 | [],_,_=>rfl
 | r::ys,i,d=>by
  unfold fbF;by_cases c:yo N r=true
  ·rw[aK c,aK c];rfl
  ·rw[aJ c,aJ c,show i+d+1=(i+1)+d by omega]
   exact qW ys (i+1) d
theorem zcm{N N':List Str}:∀{ys:List Rw}(i:Nat),(∀r∈ys,yo N r=yo N' r)->fbF N i ys=fbF N' i ys
 | [],_,_=>rfl
 | r::ys,i,h=>by
  unfold fbF;rw[h r mem_cons_self,zcm (i+1) fun r' h'=>h r' (mem_cons_of_mem _ h')]
theorem zez{N:List Str}:∀{ys:List Rw}{i k:Nat},fbF N i ys=some k->∃j r,k=i+j/\ys[j]?=some r/\yo N r=true/\∀r'∈ys.take j,yo N r'=false
 | r::ys,i,k,h=>by
  unfold fbF at h;by_cases c:yo N r=true
  ·rw[aK c] at h
   cases h;exact⟨0,r,rfl,rfl,c,fun _ h=>by simp at h⟩
  ·rw[aJ c] at h
   obtain⟨j,r2,e1,e2,e3,e4⟩:=zez h;exists j+1,r2,∅,by simpa using e2,e3,fun r' h'=>?_
   rw[List.take_succ_cons] at h';rcases List.mem_cons.mp h' with rfl|h'
   ·exact Bool.eq_false_iff.mpr c
   ·exact e4 r' h'
theorem zbx{N:List Str}:∀{ys:List Rw}{i:Nat},fbF N i ys=none->∀r∈ys,yo N r=false
 | [],_,_,r,h=>by cases h
 | y::ys,i,h,r,hr=>by
  unfold fbF at h;by_cases c:yo N y=true
  ·rw[aK c] at h;cases h
  ·rw[aJ c] at h
   rcases List.mem_cons.mp hr with rfl|hr
   ·exact Bool.eq_false_iff.mpr c
   ·exact zbx h r hr
def xu(N:List Str)(Y:List Rw):Nat:=(fbF N 0 Y).getD Y.length
theorem zhZ(N:List Str)(Y:List Rw):xu N Y<=Y.length:=by
 unfold xu;cases e:fbF N 0 Y with
 | none=>exact le_refl _
 | some k=>
  have:=(zhU Y 0 k e).2
  show k<=_;omega
def wD(S:FS)(Y:List Rw)(N:List Str):FS where
 P:=Y.take (xu N Y)
 T:=if (fbF N 0 Y).isSome=true then [] else S.T
 G:=yz N (Y.drop (xu N Y))++yz N S.G
 B:=S.B
 L:=nms (Y.take (xu N Y))++nms (yz N (Y.drop (xu N Y))++yz N S.G)
theorem jD{i:Nat}{S:FS}(M:FM i S){bars N:List Str}{a:Nat}(h:∀r∈S.P.take a,yo N r=false):vZ S.rows bars N a=if ((S.P.drop a).drop (xu N (S.P.drop a))).any wa=true then none else some ((wD S (S.P.drop a) N).rows,wT S.rows bars N a):=by
 have e1:fbF N 0 S.P=(fbF N 0 (S.P.drop a)).map (·+(S.P.take a).length):=by
  have:=zhT (S.P.drop a) 0 h
  rw[take_append_drop] at this;rw[this,Nat.zero_add]
  have:=qW (N:=N) (S.P.drop a) 0 (S.P.take a).length
  rwa [Nat.zero_add] at this
 have e2:stN S.rows (fbF N 0 S.P)=(S.P.take a).length+xu N (S.P.drop a):=by
  unfold stN xu;rw[qD M,e1];cases fbF N 0 (S.P.drop a) with
  | none=>
   show S.P.length=(S.P.take a).length+(S.P.drop a).length;rw[<- aG,take_append_drop]
  | some k=>show k+_=_+k;omega
 have e3:∀k,S.P.drop ((S.P.take a).length+k)=(S.P.drop a).drop k:=fun k=>by
  rw[List.drop_drop,length_take];rcases Nat.le_total a S.P.length with c|c
  ·rw[min_eq_left c]
  ·rw[Nat.min_eq_right c,drop_eq_nil_of_le (Nat.le_add_right _ _),drop_eq_nil_of_le ∅]
 have e4:(S.P.drop a).take (stN S.rows (fbF N 0 S.P) - a)=(S.P.drop a).take (xu N (S.P.drop a)):=by
  rw[e2,length_take];rcases Nat.le_total a S.P.length with c|c
  ·rw[min_eq_left c,Nat.add_sub_cancel_left]
  ·rw[drop_eq_nil_of_le c];simp
 unfold vZ wS;rw[qD M,e2,e3];by_cases c:((S.P.drop a).drop (xu N (S.P.drop a))).any wa=true
 ·rw[aK c,aK c]
 ·rw[aJ c,aJ c,zls M,zke M,zmz M]
  rw[<- e2,e4]
  congr 2
  unfold wD FS.rows;dsimp only;rw[vg,vg,vg,zdJ (xs:=S.T) (fun r h=>(uc (M.okT r h)).2.2.2.2.1 rfl),zdJ (xs:=S.B) (fun r h=>(uc (M.okB r h)).2.2.2.2.2.1 rfl),e1];simp [append_assoc]
theorem qI(N:List Str):∀X:List Rw,(nms (yz N X)).Sublist (nms X)
 | []=>.slnil
 | r::X=>by
  have ih:=qI N X;unfold yz at ih |-;rw[filter_cons];by_cases h1:yt r.k=true
  ·have e:nms (r::X)=r.z::nms X:=by unfold nms;rw[filter_cons,aK h1];rfl
   rw[e];split
   ·exact ih.cons₂ _
   ·exact ih.cons _
  ·have e:nms (r::X)=nms X:=by unfold nms;rw[filter_cons,aJ h1]
   rw[e,aJ (by simp [h1])]
   exact ih
theorem zdI{N:List Str}{X:List Rw}(h:∀r∈X,r.ok):∀r∈yz N X,r.ok/\grp r.k=2:=fun r hr=>by
 unfold yz at hr;obtain⟨r',h',rfl⟩:=List.mem_map.mp hr;exact⟨⟨by show 3<5;decide,(h r' (List.mem_filter.mp h').1).2⟩,rfl⟩
theorem zbp(X:List Rw):(nms X).length<=X.length:=by unfold nms;rw[aA];exact length_filter_le _ _
theorem zhw{S:FS}(M:FM 24 S)(N:List Str)(a:Nat):FM 24 (wD S (S.P.drop a) N):=by
 have sub:((S.P.drop a).take (xu N (S.P.drop a))++(S.P.drop a).drop (xu N (S.P.drop a))).Sublist S.P:=by rw[take_append_drop];exact List.drop_sublist _ _
 have okY:∀r∈S.P.drop a,r.ok/\grp r.k=0:=fun r h=>M.okP r (mem_of_mem_drop h);generalize S.P.drop a=Y at sub okY |-;generalize he:xu N Y=e at sub;have hl:=sub.length_le;rw[aG] at hl;have ltg:=wI N (Y.drop e);have ltG:=wI N S.G;have ln:=M.ln;have hT:(if (fbF N 0 Y).isSome=true then ([]:List Rw) else S.T).length<=S.T.length:=by split <;> simp
 exists fun r h=>?_,fun r h=>?_,fun r h=>?_,M.okB,le_trans hT M.lT,M.lB,?_,fun z h=>h,?_,?_
 ·exact okY r (mem_of_mem_take h)
 ·have h:r∈(if (fbF N 0 Y).isSome=true then ([]:List Rw) else S.T):=h
  split at h
  ·cases h
  ·exact M.okT r h
 ·rcases List.mem_append.mp h with h|h
  ·exact zdI (fun r h=>(okY r (mem_of_mem_drop h)).1) r h
  ·exact zdI (fun r h=>(M.okG r h).1) r h
 ·unfold wD
  dsimp only;rw[he,yZ,<- append_assoc];refine(((List.Sublist.append (List.Sublist.append (.refl _) (qI N _)) (qI N _))).trans ?_).nodup M.nd;refine List.Sublist.append ?_ (.refl _);rw[<- yZ];unfold nms;exact(sub.filter _).map _
 ·unfold wD
  dsimp only;rw[he,aG];omega
 ·unfold wD
  dsimp only;rw[he,aG,yZ,aG]
  have:=zbp (Y.take e)
  have:=zbp (yz N (Y.drop e))
  have:=zbp (yz N S.G)
  omega
theorem zcx{i:Nat}{S:FS}(M:FM i S)(hi:i<=24){bars N:List Str}{n:Nat}(h:∀z∈N,yx S.rows bars n z=none):∀r∈S.P.take n,yo N r=false:=fun r hr=>by
 cases e:yo N r with
 | false=>rfl
 | true=>
  unfold yo at e;rw[Bool.and_eq_true,decide_eq_true_iff] at e;have hu:=h r.z e.2;have hb:r.z∉bars:=fun c=>by rw[zaZ c] at hu;cases hu
  have hg:r.z∈ue S.rows n:=by
   unfold ue;rw[qa M];exact List.mem_map.mpr ⟨r,List.mem_filter.mpr ⟨hr,aC (((uc (M.okP r (mem_of_mem_take hr))).2.2.2.2.2.2.2 rfl).mpr e.1)⟩,rfl⟩
  rw[qh (M.vr hi) hb hg] at hu;cases hu
def zcA:Option (List Rw×List Str)->Option (List Rw×List Str)->Prop
 | none,none=>True
 | some x,some y=>x.1=y.1/\∀z,z∈x.2 ↔ z∈y.2
 | _,_=>False
theorem zad(N1 N2:List Str)(r:Rw):yo (N1++N2) r=(yo N1 r||yo N2 r):=by
 unfold yo;cases yt r.k with
 | false=>rfl
 | true=>
  rw[Bool.eq_iff_iff];simp
theorem zex{N:List Str}:∀{W:List Rw}(R:List Rw) {i j:Nat},fbF N i W=some j->fbF N i (W++R)=some j
 | r::W,R,i,j,h=>by
  unfold fbF at h;show(if yo N r=true then some i else fbF N (i+1) (W++R))=_
  by_cases c:yo N r=true
  ·rw[aK c] at h |-;exact h
  ·rw[aJ c] at h |-;exact zex R h
structure Cut(N1 N2:List Str)(Y W R:List Rw)(b:Nat)(so:Option Nat):Prop where
 z:Y.drop b=W++R
 w:(Y.take (xu N1 Y)).drop b=W
 r:Y.drop (xu N1 Y)=R
 no:∀r∈W,yo N1 r=false
 nn:so=none->R=[]
 sm:so≠none->fbF (N1++N2) 0 R=some 0
 tk:(Y.take (xu N1 Y)).take b=Y.take b
 le:so≠none->b<=xu N1 Y
theorem zlu{N1 N2:List Str}{Y:List Rw}{b:Nat}(h:∀r∈Y.take b,yo N1 r=false):Cut N1 N2 Y ((Y.take (xu N1 Y)).drop b) (Y.drop (xu N1 Y)) b (fbF N1 0 Y):=by
 cases e:fbF N1 0 Y with
 | none=>
  have ee:xu N1 Y=Y.length:=by unfold xu;rw[e];rfl
  have no:=zbx e;rw[ee];exists ?_,by rw[ee],by rw[ee],fun r hr=>no r ?_,fun _=>?_,fun c=>absurd rfl c,?_,fun c=>absurd rfl c
  ·rw[take_length,drop_length,append_nil]
  ·rw[take_length] at hr;exact mem_of_mem_drop hr
  ·exact drop_length
  ·rw[ee,take_length]
 | some k=>
  obtain⟨j,r,ek,hr,hb,hn⟩:=zez e;have ek:k=j:=by omega
  subst ek;have ee:xu N1 Y=k:=by unfold xu;rw[e];rfl
  have hk:k<Y.length:=(List.getElem?_eq_some_iff.mp hr).1;have bk:b<=k:=by
   rcases lt_or_ge k b with c|c
   ·have:=h r (aH (i:=k) (by rw[getElem?_take,aK c];exact hr))
    rw[hb] at this;cases this
   ·exact c
  rw[ee];refine⟨?_,by rw[ee],by rw[ee],fun r hr=>hn r (mem_of_mem_drop hr),fun c=>(by cases c),fun _=>?_,?_,fun _=>by rw[ee];exact bk⟩
  ·have:Y.drop b=(Y.take k++Y.drop k).drop b:=by rw[take_append_drop]
   rw[this,List.drop_append_of_le_length (by rw[length_take];omega)]
  ·cases ed:Y.drop k with
   | nil=>
    have:=congrArg List.length ed
    rw[length_drop,length_nil] at this;omega
   | cons y ys=>
    have:Y[k]?=some y:=by
     have:=congrArg (fun l:List Rw=>l[0]?) ed
     rw[List.getElem?_drop] at this;simpa using this
    rw[hr] at this;cases this;unfold fbF;rw[aK (by rw[zad,hb];rfl)]
  ·rw[ee,take_take,min_eq_left bk]
section
variable {N1 N2:List Str}{b:Nat}
theorem Cut.fb{Y W R:List Rw}{so:Option Nat}(c:Cut N1 N2 Y W R b so):fbF (N1++N2) 0 (W++R)=match fbF N2 0 W with
  | some j=>some j
  | none=>if so=none then none else some W.length:=by
 have cw:fbF (N1++N2) 0 W=fbF N2 0 W:=zcm 0 fun r hr=>by rw[zad,c.no r hr];rfl
 cases e:fbF N2 0 W with
 | some j=>exact zex R (cw.trans e)
 | none=>
  have nw:=zbx (cw.trans e);rw[zhT R 0 nw,Nat.zero_add];show fbF (N1++N2) W.length R=if so=none then none else some W.length
  by_cases hs:so=none
  ·rw[aK hs,c.nn hs];rfl
  ·rw[aJ hs]
   have:=qW (N:=N1++N2) R 0 W.length
   rw[Nat.zero_add,c.sm hs] at this;rw[this];show some (0+W.length)=_;rw[Nat.zero_add]
theorem Cut.en{Y W R:List Rw}{so:Option Nat}(c:Cut N1 N2 Y W R b so):xu (N1++N2) (W++R)=xu N2 W:=by
 unfold xu;rw[c.fb];cases e:fbF N2 0 W with
 | some j=>rfl
 | none=>
  show(if so=none then none else some W.length).getD _=W.length
  by_cases hs:so=none
  ·rw[aK hs,c.nn hs,append_nil];rfl
  ·rw[aJ hs];rfl
theorem zfd{S:FS}(M:FM 24 S){bars N1 N2:List Str}{a b:Nat}(h2:vI S.rows bars (a+b) (N1++N2)){rows1:List Rw}{bars1:List Str}(hl:vZ S.rows bars N1 a=some (rows1,bars1)):
  ∃S1:FS,rows1=S1.rows/\FM 24 S1/\bars1=wT S.rows bars N1 a/\vI rows1 bars1 b N2/\zcA (vZ rows1 bars1 N2 b) (vZ S.rows bars (N1++N2) (a+b))/\(∀k,fbF N2 0 (plR rows1)=some k->b<=k):=by
 obtain⟨hnd,hov,hun⟩:=h2;have no12:=zcx M (le_refl _) hun;have both1:∀{r:Rw},yo (N1++N2) r=false->yo N1 r=false/\yo N2 r=false:=fun {r} h=>by
  rw[zad,Bool.or_eq_false_iff] at h;exact h
 have intk:∀r∈(S.P.drop a).take b,r∈S.P.take (a+b):=fun r hr=>by
  have e:(S.P.drop a).take b=(S.P.take (a+b)).drop a:=by rw[List.drop_take,Nat.add_sub_cancel_left]
  rw[e] at hr;exact mem_of_mem_drop hr
 have no1:∀r∈S.P.take a,yo N1 r=false:=fun r hr=>(both1 (no12 r (mem_of_mem_take (i:=a) (by rw[take_take,min_eq_left (Nat.le_add_right _ _)];exact hr)))).1
 rw[jD M no1] at hl;have M1:=zhw M N1 a;have zd:S.P.drop (a+b)=(S.P.drop a).drop b:=by rw[List.drop_drop]
 have hd:=jD M (bars:=bars) no12;rw[zd] at hd;have tkab:S.P.take (a+b)=S.P.take a++(S.P.drop a).take b:=List.take_add ..;have memY:∀r∈S.P,r∈S.P.take a\/r∈S.P.drop a:=fun r hr=>by
  rw[<- take_append_drop a S.P] at hr;exact List.mem_append.mp hr
 have lenY:(S.P.drop a).length=S.P.length - a:=length_drop;generalize eY:S.P.drop a=Y at *;have c:=zlu (N2:=N2) (fun r hr=>(both1 (no12 r (intk r hr))).1);by_cases hst:(Y.drop (xu N1 Y)).any wa=true
 ·rw[aK hst] at hl;cases hl
 rw[aJ hst] at hl;have hst:(Y.drop (xu N1 Y)).any wa=false:=Bool.eq_false_iff.mpr hst;obtain⟨rfl,rfl⟩:(wD S Y N1).rows=rows1/\wT S.rows bars N1 a=bars1:=by
  have:=Option.some.inj hl
  exact⟨congrArg (·.1) this,congrArg (·.2) this⟩
 have eP:(wD S Y N1).P=Y.take (xu N1 Y):=rfl;have no2:∀r∈(wD S Y N1).P.take b,yo N2 r=false:=fun r hr=>by
  rw[eP,c.tk] at hr;exact(both1 (no12 r (intk r hr))).2
 have hs:=jD M1 (bars:=wT S.rows bars N1 a) no2;rw[eP] at hs;generalize hW:(Y.take (xu N1 Y)).drop b=W at c hs;generalize hR:Y.drop (xu N1 Y)=R at c hst;exists wD S Y N1,rfl,M1,rfl,?_,?_,fun k hk=>?_
 ·exists ?_,?_,fun z hz=>?_
  ·exact zca (List.nodup_append.mp hnd.nd).2.1
  ·rw[ziI M1,eP]
   cases e:fbF N1 0 Y with
   | some k=>
    refine .inl ?_;rw[length_take]
    have:=c.le (by rw[e];intro z;cases z)
    have:=zhZ N1 Y
    omega
   | none=>
    have ee:xu N1 Y=Y.length:=by unfold xu;rw[e];rfl
    rw[ee,take_length];rcases hov with h|h
    ·rw[ziI M] at h
     exact .inl ∅
    ·refine .inr ?_
     rw[zds M] at h;rw[zds M1];have eT:(wD S Y N1).T=S.T:=by unfold wD;dsimp only;rw[e];rfl
     rw[eT];by_cases ct:S.T=[]
     ·rw[aK ct] at h;cases h
     ·rw[aJ ct];rfl
  ·have hu:=hun z (mem_append_right _ hz)
   have hzb:z∉bars:=fun c=>by rw[zaZ c] at hu;cases hu
   have hzg:z∉ue S.rows (a+b):=fun c=>by rw[qh (M.vr (le_refl _)) hzb c] at hu;cases hu
   have hz1:z∉N1:=fun c=>(List.nodup_append.mp hnd.nd).2.2 z c z hz rfl;have gone_mem:∀r∈S.P.take (a+b),yt r.k=true->r.z≠z:=fun r hr hn e=>hzg (by
    unfold ue;rw[qa M];exact List.mem_map.mpr ⟨r,List.mem_filter.mpr ⟨hr,aC (((uc (M.okP r (mem_of_mem_take hr))).2.2.2.2.2.2.2 rfl).mpr hn)⟩,e⟩)
   have nb:z∉wT S.rows bars N1 a:=fun h=>by
    unfold wT at h;rw[qD M] at h;rcases List.mem_append.mp h with h|h
    ·rcases List.mem_append.mp h with h|h
     ·exact hzb h
     ·obtain⟨r,hr,e⟩:=List.mem_map.mp h
      obtain⟨hr,hn⟩:=List.mem_filter.mp hr;exact gone_mem r (by rw[tkab];exact mem_append_left _ hr) hn e
    ·exact hz1 h
   by_cases hk:z∈nms (wD S Y N1).rows
   ·refine zfG (M1.vr (le_refl _)) nb (fun hg=>?_) hk
    unfold ue at hg;rw[qa M1,eP,c.tk] at hg;obtain⟨r,hr,e⟩:=List.mem_map.mp hg;obtain⟨hr,hn⟩:=List.mem_filter.mp hr;have hp:=intk r hr;exact gone_mem r hp (((uc (M.okP r (mem_of_mem_take hp))).2.2.2.2.2.2.2 rfl).mp (of_decide_eq_true hn)) e
   ·rw[zcD nb hk]
    have tg:∀{X:List Rw}{r:Rw},r∈X->yt r.k=true->r.z=z->z∈nms (yz N1 X):=fun {X r} hr hn e=>by
     unfold nms yz;refine List.mem_map.mpr ⟨⟨3,r.z,fr r.k r.b⟩,List.mem_filter.mpr ⟨List.mem_map.mpr ⟨r,List.mem_filter.mpr ⟨hr,?_⟩,rfl⟩,rfl⟩,e⟩;rw[hn,e,aD hz1];rfl
    rw[zj3 M1] at hk;have eG:nms (wD S Y N1).G=nms (yz N1 R)++nms (yz N1 S.G):=by rw[<- hR,<- yZ];rfl
    rw[eG,eP] at hk;have nk:z∉nms S.rows:=fun h=>by
     rw[zj3 M] at h;rcases List.mem_append.mp h with h|h
     ·obtain⟨r,hr,e⟩:=List.mem_map.mp h
      obtain⟨hr,hn⟩:=List.mem_filter.mp hr;rcases memY r hr with hr|hr
      ·exact gone_mem r (by rw[tkab];exact mem_append_left _ hr) hn e
      ·rw[<- take_append_drop (xu N1 Y) Y] at hr
       rcases List.mem_append.mp hr with hr|hr
       ·exact hk (mem_append_left _ (List.mem_map.mpr ⟨r,List.mem_filter.mpr ⟨hr,hn⟩,e⟩))
       ·rw[hR] at hr
        exact hk (mem_append_right _ (mem_append_left _ (tg hr hn e)))
     ·obtain⟨r,hr,e⟩:=List.mem_map.mp h
      obtain⟨hr,hn⟩:=List.mem_filter.mp hr;exact hk (mem_append_right _ (mem_append_right _ (tg hr hn e)))
    rw[zcD hzb nk,zdr M] at hu;rw[zdr M1];have eB:(wD S Y N1).B=S.B:=rfl;rw[eB];by_cases cb:S.B=[]
    ·rw[aK cb] at hu;cases hu
    ·rw[aJ cb];rfl
 ·rw[hs,hd,c.z,c.en]
  have le:=zhZ N2 W;rw[List.drop_append_of_le_length le,any_append,hst,Bool.or_false];by_cases hsk:(W.drop (xu N2 W)).any wa=true
  ·rw[aK hsk,aK hsk];exact True.intro
  ·rw[aJ hsk,aJ hsk]
   exists ?_,fun z=>?_
   ·unfold wD FS.rows
    dsimp only;rw[c.en,List.take_append_of_le_length le,List.drop_append_of_le_length le,c.fb,hR,vg,vg,jt,jt,zcH (N:=N2) (N':=N1++N2) (X:=W.drop (xu N2 W)) (fun r hr hn=>?_)]
    ·congr 1
     simp only[append_assoc]
     congr 1
     cases fbF N2 0 W with
     | some j=>rfl
     | none=>
      by_cases hs0:fbF N1 0 Y=none
      ·rw[hs0];rfl
      ·rw[aJ hs0]
       cases e:fbF N1 0 Y with
       | none=>exact absurd e hs0
       | some k=>rfl
    ·have:=c.no r (mem_of_mem_drop hr)
     unfold yo at this;rw[hn,Bool.true_and,decide_eq_false_iff_not] at this;rw[mem_append];exact⟨.inr,fun h=>h.resolve_left this⟩
   ·unfold wT
    rw[qD M1,qD M,eP,c.tk,tkab,filter_append,aE];simp only[mem_append];exact iff_of_eq (by ac_rfl)
 ·rw[qD M1,eP] at hk
  obtain⟨j,r,ek,hr,hb,_⟩:=zez hk;have ek:k=j:=by omega
  subst ek;rcases lt_or_ge k b with hl|hl
  ·have:=no2 r (by rw[eP];exact aH (i:=k) (by rw[getElem?_take,aK hl];exact hr))
   rw[hb] at this;cases this
  ·exact hl
def zdD:Nat->Str
 | 0=>"doubled"
 | 1=>"over"
 | 2=>"barred"
 | 3=>"again"
 | 4=>"strange"
 | _=>"lacking"
structure zmC(mg:Str->Option Value)(cl:Nat->Addr)(CE:Addr):Prop where
 isi:mg "isinstance"=none
 ce:mg "CallError"=some (.ref CE)
 m0:mg "Doubled"=some (.ref (cl 0))
 m1:mg "Over"=some (.ref (cl 1))
 m2:mg "Barred"=some (.ref (cl 2))
 m3:mg "Again"=some (.ref (cl 3))
 m4:mg "Strange"=some (.ref (cl 4))
 m5:mg "Lacking"=some (.ref (cl 5))
structure jX(K:Frag)(cl:Nat->Addr)(CE:Addr)(i:Nat):Prop where
 ex:xF K (cl i)
 set:zae K (cl i)
 no:yJ K (cl i) "number"
 k:∀j,j<6->kitOne K (.ref (cl i)) (.ref (cl j))=some (decide (j=i))
 ce:exmOne K (.ref (cl i)) (.ref CE)=some true
abbrev rG(K:Frag):List V->Hp->VK->Prop:=fun xs H Q=>∃(ea D C:Addr) (b:Bool),xs=[.ref ea,.ref C]/\zdy H ea D/\xF K D/\kitOne K (.ref D) (.ref C)=some b/\Q (.bl b) H
def vL(z:Str):Prop:=zdD (wQ z)=z
theorem wd0:vL "doubled":=by unfold vL;decide +kernel
theorem wd1:vL "over":=by unfold vL;decide +kernel
theorem wd2:vL "barred":=by unfold vL;decide +kernel
theorem wd3:vL "again":=by unfold vL;decide +kernel
theorem wd4:vL "strange":=by unfold vL;decide +kernel
theorem wd5:vL "lacking":=by unfold vL;decide +kernel
theorem zh5(fk:List (Key×V)):∀(zs:List Str) (i:Nat),∀m∈uf fk i zs,vL m.1
 | [],_,m,h=>by cases h
 | z::zs,i,m,h=>by
  rcases List.mem_append.mp h with h|h
  ·split at h
   ·cases h
   ·rw[List.mem_singleton.mp h];exact wd0
  ·exact zh5 fk zs (i+1) m h
theorem zeq(many:Nat)(fk:List (Key×V)):∀(rows:List Rw) (i:Nat),∀m∈ub many fk i rows,vL m.1
 | [],_,m,h=>by cases h
 | r::rs,i,m,h=>by
  rcases List.mem_append.mp h with h|h
  ·split at h
   ·rw[List.mem_singleton.mp h];exact wd5
   ·cases h
  ·exact zeq many fk rs (i+1) m h
theorem ziR(rows:List Rw)(many:Nat):∀m∈wj rows many,vL m.1:=fun m h=>by
 unfold wj at h;split at h
 ·cases h
 ·obtain⟨_,_,rfl⟩:=List.mem_map.mp h
  exact wd1
theorem zif{rows:List Rw}{bars:List Str}{many:Nat}{z x:Str}(h:yx rows bars many z=some x):vL x:=by
 unfold yx at h;split at h
 ·cases h;exact wd2
 ·split at h
  ·split at h
   ·cases h
   ·cases h;exact wd4
  ·split at h
   ·cases h;exact wd3
   ·cases h
theorem zka(rows:List Rw)(bars:List Str)(many:Nat)(fp:List (Str×Nat)):∀m∈vf rows bars many fp,vL m.1:=fun m h=>by
 unfold vf at h;obtain⟨p,_,e⟩:=List.mem_filterMap.mp h;cases e2:yx rows bars many p.1 with
 | none=>rw[e2] at e;cases e
 | some x=>
  rw[e2] at e;cases e;exact zif e2
theorem zht{rows:List Rw}{bars:List Str}{n:Nat}{zs:List Str}:∀m∈xP rows bars n zs,vL m.1:=fun m h=>by
 unfold xP at h;rw[mem_append,mem_append,mem_append] at h;rcases h with ((h|h)|h)|h
 ·exact zh5 _ _ _ m h
 ·exact ziR _ _ m h
 ·exact zka _ _ _ _ m h
 ·exact zeq _ _ _ _ m h
inductive zdW(K:Frag)(c:C5)(CF CP:Addr)(vs:List V)(H:Hp)(Q:VK)(E:XK):Prop|mk(p f a:Addr)(N:Addr->Prop)(rows:List Rw)(bars:List Str)(ts:List Int)(ps:List (Str×Int))(ct:List ym):vs=[.ref p,.ref a]->vM K CP N H p f ts ps->xp c CF H f rows bars->yX K H a ct->ts.length+(zC ct).length<=400->ps.length+(zG ct).length<=400->(ptN rows bars (ts++zC ct) (ps++zG ct)=none->∀(t p' u:Addr) (H':Hp),zq H H'->H' t=some (.tup [.ref p',.ref u])->H' u=some (.tup [.non,.str "part"])->vM K CP (fun _=>True) H' p' f (ts++zC ct) (ps++zG ct)->Q (.ref t) H')->((∀m,ptN rows bars (ts++zC ct) (ps++zG ct)=some m->∀(t u:Addr) (H':Hp),zq H H'->H' t=some (.tup [.non,.ref u])->H' u=some (.tup [.int (m.2:Nat),.str m.1])->Q (.ref t) H'))->zdW K c CF CP vs H Q E
variable {K:Frag}{mg:Str->Option Value}{f CF CP CE:Addr}{cl:Nat->Addr}{c:C5}
theorem zmf:([Str.ofString "_law_word_here",Str.ofString "_law_truth"]:List Str).Nodup:=by decide +kernel
theorem wE:zv ["_law_part","_law_items_here","_law_found","_law_other","e","_law_words"] ["_law_part","_law_items_here"] (zk zcZ):=fsc
theorem zhb{P:Program}{w:World}{base:Heap}{fd:FuncData}{gF:Addr}{eF:FuncData}(F:Fun K "_law_made" "_law_made" zcZ f fd)(U:zmC mg cl CE)(so:∀i,i<6->jX K cl CE i)(PC':PtC K CP)(mF:yW K CP "further" gF)(GF:zD P w K mg base (CXs P w) 9 gF eF ["self","call"] (zfP K c CF CP cl))(bF:zU K eF ["self","call"] []):↥10 f fd ["_law_part","_law_items_here"] (zdW K c CF CP):=by
 specialize wE;obtain⟨p,f,a,N,rows,bars,ts,ps,ct,rfl,hP,hF,hC,lts,lps,q1,q2⟩:=h;have hr9:yl 9 _:=hr.mono ⋯
 refine wE[2]'(zT (ac jA (ac zy zc)));exists yA,fun u hu=>?_
 injections u hu H1 s1 g1
 have hP1:=hP.same s1;obtain⟨dx,l1,l2,zs,hp,_⟩:=id hP1;exfalso;refine wE[3]'jA;refine⟨_,zm (ziE rfl rfl
    (zkU (i:=4) wE.nd rfl rfl rfl U.ce (fun ea=>zm (zx (i:=5) wE.nd rfl (Or.inl rfl) (zP (ac (zT (ac zy (ac (cB (r:=rG K) xK U.isi boot_isinstance (ac (pv 4) (ac (xH (v:=.ref (cl 0)) rfl U.m0 rfl) zc))) zc))) (ac (zT (ac zy (ac (cB (r:=rG K) xK U.isi boot_isinstance (ac (pv 4) (ac (xH (v:=.ref (cl 1)) rfl U.m1 rfl) zc))) zc))) (ac (zT (ac zy (ac (cB (r:=rG K) xK U.isi boot_isinstance (ac (pv 4) (ac (xH (v:=.ref (cl 2)) rfl U.m2 rfl) zc))) zc))) zc)))))
     (zm (zx (i:=5) wE.nd rfl (Or.inl rfl) (zo yr (pv 5) (zP (ac (zT (ac zy (ac (cB (r:=rG K) xK U.isi boot_isinstance (ac (pv 4) (ac (xH (v:=.ref (cl 3)) rfl U.m3 rfl) zc))) zc))) (ac (zT (ac zy (ac (cB (r:=rG K) xK U.isi boot_isinstance (ac (pv 4) (ac (xH (v:=.ref (cl 4)) rfl U.m4 rfl) zc))) zc))) zc)))))
     (zm (zx (i:=5) wE.nd rfl (Or.inl rfl) (zo yr (pv 5) (zP (ac (zT (ac zy (ac (cB (r:=rG K) xK U.isi boot_isinstance (ac (pv 4) (ac (xH (v:=.ref (cl 5)) rfl U.m5 rfl) zc))) zc))) zc))))
     (zg (zx (i:=2) wE.nd rfl (Or.inl rfl) (zT (ac (zgG (K:=K) rfl (pv 4) rfl) (ac (xh PySem.F.plainAttrs_str PySem.F.slot_str_join PySem.F.type_str_join zji zy (ac (zkW (ea:=ea) [] ["_law_word_here","_law_truth"] [none,none] rfl ⟨rfl,rfl,rfl,rfl⟩ (zgC (pv 5)) (zdn (K:=K) (n:=2) (ea:=ea) 0 1) rfl rfl rfl
       (fun pins fp s H C=>⟨ziJ (K:=K) rfl rfl (zB (zr (i:=0) zmf rfl (Or.inl rfl) (.inr rfl)) (zB (zr (i:=1) zmf rfl (Or.inl rfl) (.inr rfl)) yi)),xl (y7 (pv 1)),pv 0⟩)) zc)) zc)))))))) zkT)
   (fun pins σ xe E hp=>zkN (i:=3) wE.nd rfl (Or.inl rfl) (ziQ (pv 0) PC'.cl mF GF hr9 bF hp (ac (pv 1) zc))))
  (zg (zA (zT (ac (pv 3) (ac (pv 2) zc))))),?_⟩
 exists _,rfl,p,dx,_,rfl,hp,zbZ (by decide +kernel) (by decide +kernel) (by decide +kernel),_,rfl,p,f,a,N,rows,bars,ts,ps,ct,rfl,hP1,hF.same s1,hC.same s1,lts,lps,fun hn p' H2 s2 np' hp'=>?_,fun m hm d H2 s2 hd=>?_
 ·exists _,rfl,_,rfl,yA,fun t ht=>?_
  have s3:=ze ht (.tup [.ref p',.ref u]);exact q1 hn t p' u _ (s1.trans (s2.trans s3)) za (s3 _ _ (s2 _ _ g1)) ((hp'.same s3).imp fun _ _=>True.intro)
 have hmm:∃b zs,m∈xP rows bars b zs:=by
  unfold ptN at hm;exact⟨_,_,List.mem_of_find?_eq_some hm⟩
 have ew:zdD (wQ m.1)=m.1:=let ⟨b,zs,h⟩:=hmm;zht m h;have hi:=zjj m.1;exists cl (wQ m.1),rfl,fun tt ea hea=>.inl ⟨(so _ hi).ce,?_⟩;have s3:=ze hea (jN ea (cl (wQ m.1)) (some d) tt);have e3:upd H2 ea (jN ea (cl (wQ m.1)) (some d) tt) ea=some (jN ea (cl (wQ m.1)) (some d) tt):=za;have hd3:=s3 _ _ hd;have sA:=s1.trans (s2.trans s3);generalize upd H2 ea (jN ea (cl (wQ m.1)) (some d) tt)=H3 at s3 e3 hd3 sA |-;have so':=so _ hi;have q2:=q2 m hm;generalize hmi:wQ m.1=i at hi so' ew e3 s3;have he:zdy H3 ea (cl i):=.inl ⟨_,_,e3⟩;exists _,rfl,ea,cl i,cl 0,_,rfl,he,so'.ex,so'.k 0 ⋯,yA,fun u0 hu0=>?_
 injections u0 hu0 H0_ s0z w0
 have he:=he.same s0z;exists _,rfl,ea,cl i,cl 1,_,rfl,he,so'.ex,so'.k 1 ⋯,yA,fun u1 hu1=>?_
 injections u1 hu1 H1_ s1z w1
 have he:=he.same s1z;have w0:=s1z _ _ w0;exists _,rfl,ea,cl i,cl 2,_,rfl,he,so'.ex,so'.k 2 ⋯,yA,fun u2 hu2=>?_
 injections u2 hu2 H2_ s2z w2
 have he:=he.same s2z;have w0:=s2z _ _ w0;have w1:=s2z _ _ w1;exists jx,fun la hla=>?_
 try dsimp only[zK]
 injections la hla Hla sla gla
 have he:=he.same sla;have w0:=sla _ _ w0;have w1:=sla _ _ w1;have w2:=sla _ _ w2;exists _,rfl,?_;exists _,rfl,ea,cl i,cl 3,_,rfl,he,so'.ex,so'.k 3 ⋯,yA,fun u3 hu3=>?_
 injections u3 hu3 H3_ s3z w3
 have he:=he.same s3z;have w0:=s3z _ _ w0;have w1:=s3z _ _ w1;have w2:=s3z _ _ w2;have gla:=s3z _ _ gla;exists _,rfl,ea,cl i,cl 4,_,rfl,he,so'.ex,so'.k 4 ⋯,yA,fun u4 hu4=>?_
 injections u4 hu4 H4_ s4z w4
 have he:=he.same s4z;have w0:=s4z _ _ w0;have w1:=s4z _ _ w1;have w2:=s4z _ _ w2;have gla:=s4z _ _ gla;have w3:=s4z _ _ w3;exists yA,fun lb hlb=>?_
 try dsimp only[zK]
 injections lb hlb Hlb slb glb
 have he:=he.same slb;have w0:=slb _ _ w0;have w1:=slb _ _ w1;have w2:=slb _ _ w2;have gla:=slb _ _ gla;have w3:=slb _ _ w3;have w4:=slb _ _ w4;exists la,lb,_,_,rfl,rfl,gla,glb,zmT,fun lc hlc=>?_;rw[show([.ref u0,.ref u1,.ref u2]++[.ref u3,.ref u4]:List V)=[.ref u0,.ref u1,.ref u2,.ref u3,.ref u4] from rfl]
 try dsimp only[zK]
 injections lc hlc Hlc slc glc
 have he:=he.same slc;have w0:=slc _ _ w0;have w1:=slc _ _ w1;have w2:=slc _ _ w2;have gla:=slc _ _ gla;have w3:=slc _ _ w3;have w4:=slc _ _ w4;have glb:=slc _ _ glb;exists _,rfl,?_;exists _,rfl,ea,cl i,cl 5,_,rfl,he,so'.ex,so'.k 5 ⋯,yA,fun u5 hu5=>?_
 injections u5 hu5 H5_ s5z w5
 have he:=he.same s5z;have w0:=s5z _ _ w0;have w1:=s5z _ _ w1;have w2:=s5z _ _ w2;have gla:=s5z _ _ gla;have w3:=s5z _ _ w3;have w4:=s5z _ _ w4;have glb:=s5z _ _ glb;have glc:=s5z _ _ glc;exists jy,fun ld hld=>?_
 try dsimp only[zK]
 injections ld hld Hld sld gld
 have he:=he.same sld;have w0:=sld _ _ w0;have w1:=sld _ _ w1;have w2:=sld _ _ w2;have gla:=sld _ _ gla;have w3:=sld _ _ w3;have w4:=sld _ _ w4;have glb:=sld _ _ glb;have glc:=sld _ _ glc;have w5:=sld _ _ w5;exists lc,ld,_,_,rfl,rfl,glc,gld,zlW,fun le hle=>?_;rw[show([.ref u0,.ref u1,.ref u2,.ref u3,.ref u4]++[.ref u5]:List V)=[.ref u0,.ref u1,.ref u2,.ref u3,.ref u4,.ref u5] from rfl]
 try dsimp only[zK]
 injections le hle Hle sle gle
 have he:=he.same sle;have w0:=sle _ _ w0;have w1:=sle _ _ w1;have w2:=sle _ _ w2;have gla:=sle _ _ gla;have w3:=sle _ _ w3;have w4:=sle _ _ w4;have glb:=sle _ _ glb;have glc:=sle _ _ glc;have w5:=sle _ _ w5;have gld:=sle _ _ gld;have sB:zq H3 Hle:=(s0z.trans (s1z.trans (s2z.trans (sla.trans (s3z.trans (s4z.trans (slb.trans (slc.trans (s5z.trans (sld.trans (sle)))))))))));have sC:=sA.trans sB;have hea':=sB _ _ e3;have hd':=sB _ _ hd3;exists _,rfl,ea,cl i,tt,d,_,.int (m.2:Nat),rfl,hea',hd',so'.ex,so'.set,so'.no,rfl,rfl,_,rfl,le,cl i,some d,tt,rfl,⟨_,zh gle⟩,fun D hD=>?_;have hw:∀k x,([.ref u0,.ref u1,.ref u2,.ref u3,.ref u4,.ref u5]:List V)[k]?=some x->∃u,x=.ref u/\Hle u=some (.tup [.str (zdD k),.bl (decide (k=i))]):=fun k x hx=>by
  match k,hx with
  | 0,hx=>cases hx;exact⟨u0,rfl,w0⟩
  | 1,hx=>cases hx;exact⟨u1,rfl,w1⟩
  | 2,hx=>cases hx;exact⟨u2,rfl,w2⟩
  | 3,hx=>cases hx;exact⟨u3,rfl,w3⟩
  | 4,hx=>cases hx;exact⟨u4,rfl,w4⟩
  | 5,hx=>cases hx;exact⟨u5,rfl,w5⟩
  | k+6,hx=>cases hx
 refine zhB (K:=K) (xs:=[.ref u0,.ref u1,.ref u2,.ref u3,.ref u4,.ref u5]) (fun k ys H'=>zq Hle H'/\H' D=some (.lst ys)/\((k<=i/\ys=[])\/(i<k/\ys=[.str (zdD i)]))) ⟨ze hD _,za,.inl ⟨zero_le _,rfl⟩⟩ (fun k ys H' h=>zh (h.1 _ _ gle)) (fun k ys H' h=>h.1 _ _ hea') ?_ ?_
 ·rintro k x ys H' hk hx ⟨sH,hDy,hys⟩
  obtain⟨u,rfl,hu⟩:=hw k x hx;exists u,_,cl i,some d,tt,rfl,zF (sH _ _ hu),rfl,sH _ _ hea',_,_,rfl,_,_,rfl,rfl,_,rfl,_,rfl,?_;by_cases hki:k=i
  ·subst hki
   refine⟨fun _=>?_,fun e=>by rw[aC rfl] at e;cases e⟩
   rcases hys with ⟨_,rfl⟩|⟨z,_⟩
   ·exists _,rfl,?_
    refine lcN.mk hk zlW hDy (zero_le _) ⟨fun b' u' e=>?_,za,.inr ⟨lt_succ_self _,rfl⟩⟩;rw[zj (zi e hD)];exact sH _ _ e
   ·omega
  ·exists fun e=>absurd (of_decide_eq_true e) hki,fun _=>lcS.mk hk ⟨sH,hDy,?_⟩
   rcases hys with ⟨h1,rfl⟩|⟨h1,h2⟩
   ·exact .inl ⟨∅,rfl⟩
   ·exact .inr ⟨∅,h2⟩
 ·rintro ys H' ⟨sH,hDy,hys⟩
  rcases hys with ⟨h1,_⟩|⟨_,rfl⟩
  ·exact absurd h1 (by show ¬6<=i;omega)
  rw[ew] at hDy;have lw:m.1.length<=100:=by
   rw[<- ew]
   match i,hi with
   | 0,_=>decide +kernel
   | 1,_=>decide +kernel
   | 2,_=>decide +kernel
   | 3,_=>decide +kernel
   | 4,_=>decide +kernel
   | 5,_=>decide +kernel
  exists "",D,[m.1],rfl,rfl,hDy,by decide +kernel,?_,?_
  ·show m.1.length+0+1<=1048576
   omega
  rw[show Txt.join "" [m.1]=m.1 from rfl];exists yA,fun u2 hu2=>?_;have s9:=ze hu2 (.tup [.int (m.2:Nat),.str m.1]);have g9:upd H' u2 (.tup [.int (m.2:Nat),.str m.1]) u2=some (.tup [.int (m.2:Nat),.str m.1]):=za;have sD:=sC.trans (sH.trans s9);generalize upd H' u2 (.tup [.int (m.2:Nat),.str m.1])=H9 at s9 g9 sD |-;exists _,rfl,_,rfl,yA,fun t ht=>?_;have sT:=ze ht (.tup [.non,.ref u2]);exact q2 t u2 _ (sD.trans sT) za (sT _ _ g9)
def zfZ(m:Nat)(ns:List Str):List ym:=.row (xm m)::ns.map fun z=>.named z 5
theorem zlY(m:Nat)(ns:List Str):zC (zfZ m ns)=xm m:=by
 have:∀ns:List Str,zC (ns.map fun z=>ym.named z 5)=[]:=fun ns=>by
  induction ns with
  | nil=>rfl
  | cons z ns ih=>exact ih
 show xm m++zC (ns.map fun z=>ym.named z 5)=_;rw[this,append_nil]
theorem zjX(m:Nat):∀ns:List Str,zG (zfZ m ns)=ns.map fun z=>(z,(5:Int))
 | []=>rfl
 | z::ns=>congrArg (List.cons (z,(5:Int))) (zjX m ns)
theorem zhH(m:Nat):(xm m).length=m:=by unfold xm;rw[aA,length_range]
inductive zd1(K:Frag)(vs:List V)(H:Hp)(Q:VK)(E:XK):Prop|mk(l:Addr)(m:Nat)(ns:List Str):vs=[.int (m:Nat),.ref l]->H l=some (.lst (ns.map V.str))->m<=100->ns.length<=100->(∀(r:Addr) (H':Hp),zq H H'->yX K H' r (zfZ m ns)->Q (.ref r) H')->zd1 K vs H Q E
structure znu(mg:Str->Option Value):Prop where
 list:mg "list"=none
 range:mg "range"=none
theorem zmm:([Str.ofString "_law_name"]:List Str).Nodup:=by decide +kernel
theorem ziz:zv ["_law_more","_law_names"] ["_law_more","_law_names"] (zk zc1):=fsc
theorem zhn{P:Program}{w:World}{base:Heap}{fd:FuncData}(F:Fun K "_law_call" "_law_call" zc1 f fd)(U:znu mg):↥1 f fd ["_law_more","_law_names"] (zd1 K):=by
 specialize ziz;obtain⟨l,m,ns,rfl,hl,hm,ln,q⟩:=h;refine⟨_,zg (zA (zo yr (zP (ac (zT (ac zy (ac (cTy (zdv rfl) U.list PyProof.Rows.boot_list (ac (cTy zh7 U.range PyProof.Rows.boot_range (ac (pv 0) zc)) zc)) zc))) zc)) (wC [] ["_law_name"] [none] rfl ⟨rfl,rfl,rfl,rfl⟩ (z7 (pv 1)) (ya 0) rfl rfl rfl
   (fun pins fp s H C=>⟨zr (i:=0) zmm rfl (Or.inl rfl) (.inr rfl),yV,zT (ac zy (ac (pv 0) (ac zf zc)))⟩)))),?_⟩
 exists _,rfl,m,rfl,fun pr1 hpr1=>?_
 injections pr1 hpr1 H1 s1 e1
 exists pr1,m,rfl,e1,∅,fun lr hlr=>?_
 have s2:=ze hlr (.lst ((xm m).map V.int));have e2:upd H1 lr (.lst ((xm m).map V.int)) lr=some (.lst ((xm m).map V.int)):=za;have s2:=s1.trans s2;generalize upd H1 lr (.lst ((xm m).map V.int))=H2 at s2 e2 |-;exists yA,fun t1 ht1=>?_;have s3:=ze ht1 (.tup [.str "row",.ref lr]);have e3:upd H2 t1 (.tup [.str "row",.ref lr]) t1=some (.tup [.str "row",.ref lr]):=za;have i1:zJ K T' (upd H2 t1 (.tup [.str "row",.ref lr])) 3 (.ref t1) (yj (.row (xm m))):=.tup (zF e3) (.cons .str (.cons (.lst True.intro (s3 _ _ e2) (wo _)) .nil));have s3:=s2.trans s3;generalize upd H2 t1 (.tup [.str "row",.ref lr])=H3 at s3 i1 |-;exists jy,fun l4 hl4=>?_;have s4:=ze hl4 (.lst [.ref t1]);have e4:upd H3 l4 (.lst [.ref t1]) l4=some (.lst [.ref t1]):=za;have i1:=i1.same s4;have s4:=s3.trans s4;generalize upd H3 l4 (.lst [.ref t1])=H4 at s4 e4 i1 |-;exists _,rfl,l,rfl,⟨_,zh (s4 _ _ hl)⟩,fun Dd hDd=>?_;refine zhA (K:=K) (m:=3) (fun i=>yj (.named (ns.getD i "") 5)) hDd (zh (s4 _ _ hl)) (by rw[aA];omega) (fun i x H' Qf Qs hx sH qf=>?_) (fun ws HF sF eF pF=>?_)
 ·obtain⟨z,hz,rfl⟩:=strs_at hx
  exists fun _=>?_,fun e=>Bool.noConfusion e;exists _,rfl,jx,fun p hp=>?_;refine qf _ _ (ze hp _) ?_;rw[getD_eq_getElem?_getD,hz];exact zJ.tup (zF za) (.cons .str (.cons .str (.cons .int .nil)))
 have epd:(List.range (ns.map V.str).length).map (fun i=>yj (.named (ns.getD i "") 5))=(ns.map fun z=>ym.named z 5).map yj:=by
  rw[aA,map_map];refine List.ext_getElem (by simp) fun i h1 h2=>?_
  simp at h1 h2;simp [h1]
 rw[epd] at pF;have lw:ws.length=ns.length:=by rw[pF.length,aA,aA]
 exists l4,Dd,_,_,rfl,rfl,sF _ _ e4,eF,yg (by show 1+ws.length<=1000;omega),fun r hr'=>?_
 have s5:=ze hr' (.lst ([.ref t1]++ws));refine q r _ (s4.trans (sF.trans s5)) ⟨⟨_,zh za,?_⟩,by rw[zlY,zhH];omega,by rw[zjX,aA];omega⟩
 exact .cons (i1.same (sF.trans s5)) (zu (fun _ _ z=>wF (fun _ _ _=>trivial) (z.same s5)) pF)
structure SA(H:Hp)(t l:Addr)(m:Nat)(ns:List Str):Prop where
 ht:H t=some (.tup [.int (m:Nat),.ref l])
 hl:H l=some (.lst (ns.map V.str))
 lm:m<=60
 ln:ns.length<=60
theorem SA.same{H H':Hp}{t l:Addr}{m:Nat}{ns:List Str}(h:SA H t l m ns)(s:zq H H'):SA H' t l m ns:=⟨s _ _ h.ht,s _ _ h.hl,h.lm,h.ln⟩
def ShL(H:Hp)(us:List Addr):Prop:=∀u∈us,∃(l:Addr) (m:Nat) (ns:List Str),SA H u l m ns
inductive zfY(K:Frag)(c:C5)(CF:Addr)(vs:List V)(H:Hp)(Q:VK)(E:XK):Prop|mk(f a:Addr)(rows:List Rw)(bars:List Str)(ct:List ym):vs=[.ref f,.ref a]->xp c CF H f rows bars->yX K H a ct->(∀(H':Hp),zq H H'->Q (.bl (xa rows bars ct).isEmpty) H')->zfY K c CF vs H Q E
theorem zeK{rows:List Rw}{bs bs':List Str}(h:∀z,z∈bs ↔ z∈bs')(n:Nat)(z:Str):yx rows bs n z=yx rows bs' n z:=by
 unfold yx;by_cases c:z∈bs
 ·rw[aK c,aK ((h z).mp c)]
 ·rw[aJ c,aJ (fun k=>c ((h z).mpr k))]
theorem zdh{rows:List Rw}{bs bs':List Str}(h:∀z,z∈bs ↔ z∈bs')(ct:List ym):xa rows bs ct=xa rows bs' ct:=by
 unfold xa xP vf;rw[show(yx rows bs (zC ct).length)=yx rows bs' (zC ct).length from funext fun z=>zeK h _ z]
theorem LfQ.same{c:C5}{CF:Addr}{H H':Hp}{v:V}{o:Option (List Rw×List Str)}(h:LfQ c CF H v o)(s:zq H H'):LfQ c CF H' v o:=by
 cases o with
 | none=>exact h
 | some x=>obtain⟨g,e,hg⟩:=h;exact⟨g,e,hg.same s⟩
inductive za1(c:C5)(CF:Addr)(vs:List V)(H:Hp)(Q:VK)(E:XK):Prop|mk(v1 v2:V)(o1 o2:Option (List Rw×List Str))(ls:Addr)(us:List Addr):vs=[v1,v2,.ref ls]->LfQ c CF H v1 o1->LfQ c CF H v2 o2->zcA o1 o2->H ls=some (.lst (us.map V.ref))->us.length<=300->ShL H us->(∀H',zq H H'->Q (.bl true) H')->za1 c CF vs H Q E
theorem ShL.same{H H':Hp}{us:List Addr}(h:ShL H us)(s:zq H H'):ShL H' us:=fun u hu=>let ⟨a,b,c,d⟩:=h u hu;⟨a,b,c,d.same s⟩
theorem za8:zv ["_law_one","_law_other","_law_shapes_here","_law_more","_law_names"] ["_law_one","_law_other","_law_shapes_here"] (zk zcT):=fsc
theorem zg6{P:Program}{w:World}{base:Heap}{fd:FuncData}{g1 g2:Addr}{d1 d2:FuncData}(F:Fun K "_law_same_left" "_law_same_left" zcT f fd)(cFi:⇑6 "fits" g1 d1 ["form","call"] (zfY K c CF))(cC:⇑1 "_law_call" g2 d2 ["_law_more","_law_names"] (zd1 K)):↥7 f fd ["_law_one","_law_other","_law_shapes_here"] (za1 c CF):=by
 specialize za8;obtain⟨v1,v2,o1,o2,ls,us,rfl,q1,q2,so,hl,lus,hsh,q⟩:=h;have hr1:yl 1 _:=hr.mono ⋯
 refine zE (zS (xy (jh (xT (wA (pv 0))) (vV (xT (wA (pv 1)))))) (zg (zA (zgL (zgJ (wA (pv 0))) (zgE (zgJ (wA (pv 1))))))) zI) ?_
 match o1,o2,q1,q2,so with
 | none,none,e1,e2,_=>
  have e1:v1=.non:=e1;have e2:v2=.non:=e2;subst e1;subst e2;exact⟨_,rfl,_,rfl,⟨_,rfl,_,rfl,⟨_,rfl,q _ (zq.refl _)⟩⟩⟩
 | some (r1,b1),some (r2,b2),⟨g1',e1,h1⟩,⟨g2',e2,h2⟩,⟨er,eb⟩=>
  subst e1;subst e2;have er:r1=r2:=er;subst er;exists _,rfl,_,rfl,?_;exists _,rfl,_,rfl,?_;refine zE (yS PassesOwn.never rfl (z7 (pv 2)) (yB rfl (zB (zr (i:=3) za8.nd rfl (Or.inl rfl)) (zB (zr (i:=4) za8.nd rfl (Or.inl rfl)) yi))) wp) ?_;exists _,rfl,ls,rfl,⟨_,zh hl⟩,xE (K:=K) (a:=ls) (xs:=us.map V.ref) (fun i σ H'=>∃(v3 v4:Option V),σ=[~~~g1',~~~g2',~~~ls,v3,v4]/\zq H H') ⟨_,_,rfl,zq.refl _⟩ (fun i σ H' _ ⟨_,_,_,e⟩=>zh (e _ _ hl)) ?_ ?_;rotate_left
  ·rintro σ H1 ⟨v3,v4,rfl,s1⟩
   exact⟨_,zg (zA vo),q _ s1⟩
  rintro j x σ H1 hx ⟨v3,v4,rfl,s1⟩;obtain⟨u,hu,rfl⟩:∃u,u∈us/\x=.ref u:=by
   rw[getElem?_map] at hx;cases e:us[j]? with
   | none=>rw[e] at hx;cases hx
   | some u=>rw[e] at hx;exact⟨u,aH e,(Option.some.inj hx).symm⟩
  obtain⟨l2,m2,n2,sb⟩:=hsh u hu;have sb1:=sb.same s1;have lm:=sb.lm;have ln:=sb.ln;exists u,_,rfl,zF sb1.ht,rfl,_,_,rfl,_,_,rfl,rfl,?_;exfalso;exists _,zg (zS (zw zb5 (cF cFi hr (ac (pv 0) (ac (cF cC hr1 (ac (pv 3) (ac (pv 4) zc))) zc))) (cF cFi hr (ac (pv 1) (ac (cF cC hr1 (ac (pv 3) (ac (pv 4) zc))) zc))) (zM _)) (zg (zA vo)) zI),?_;exists _,rfl,_,rfl,_,rfl,l2,m2,n2,rfl,sb1.hl,∅,∅,fun r3 H3 s3 c3=>?_
  have s03:=s1.trans s3;exists g1',r3,r1,b1,zfZ m2 n2,rfl,h1.same s03,c3,fun H4 s4=>?_;have s04:=s03.trans s4;exists _,rfl,_,rfl,_,rfl,l2,m2,n2,rfl,(sb.same s04).hl,∅,∅,fun r5 H5 s5 c5=>?_
  have s05:=s04.trans s5;exists g2',r5,r1,b2,zfZ m2 n2,rfl,h2.same s05,c5,fun H6 s6=>?_;rw[zdh eb];exists rfl,_,rfl,?_;refine jI (by rw[aC rfl];rfl) ?_
  exact⟨_,_,rfl,s05.trans s6⟩
inductive zbP(K:Frag)(c:C5)(CF CP:Addr)(vs:List V)(H:Hp)(Q:VK)(E:XK):Prop|mk(p f a p2 ls:Addr)(us:List Addr)(N N2:Addr->Prop)(S:FS)(bars:List Str)(ts:List Int)(ps:List (Str×Int))(ct:List ym):vs=[.ref p,.ref a,.ref p2,.ref ls]->vM K CP N H p f ts ps->vM K CP N2 H p2 f (ts++zC ct) (ps++zG ct)->xp c CF H f S.rows bars->FM 24 S->bars.length<=60->yX K H a ct->ct.length<=100->ts.length+(zC ct).length<=100->ps.length+(zG ct).length<=100->vI S.rows bars ts.length (ps.map (·.1))->vI S.rows bars (ts++zC ct).length ((ps++zG ct).map (·.1))->H ls=some (.lst (us.map V.ref))->us.length<=300->ShL H us->(∀H',zq H H'->Q (.bl true) H')->zbP K c CF CP vs H Q E
theorem zey{S:FS}(M:FM 24 S){bars N:List Str}{a:Nat}(h:vI S.rows bars a N):∀k,fbF N 0 (plR S.rows)=some k->a<=k:=fun k hk=>by
 rw[qD M] at hk;obtain⟨j,r,ek,hr,hb,_⟩:=zez hk;have ek:k=j:=by omega
 subst ek;rcases lt_or_ge k a with hl|hl
 ·have:=zcx M (le_refl _) h.2.2 r (aH (i:=k) (by rw[getElem?_take,aK hl];exact hr))
  rw[hb] at this;cases this
 ·exact hl
theorem FM.len{S:FS}(M:FM 24 S):S.rows.length<=24:=by
 have:=M.ln
 unfold FS.rows;simp only[aG];omega
theorem zbV:zv ["_law_part","_law_items_here","_law_other","_law_shapes_here","_law_left"] ["_law_part","_law_items_here","_law_other","_law_shapes_here"] (zk zbk):=fsc
theorem ze8{P:Program}{w:World}{base:Heap}{fd:FuncData}{g1 gP gL:Addr}{d1 eP eL:FuncData}(F:Fun K "_law_left_again" "_law_left_again" zbk f fd)(hlist:mg "list"=none)(PC':PtC K CP)(kP:jq P w K mg base (CXs P w) 7 "Part" CP gP eP ["self","form","call"] [] (zbO K c CF CP cl))(mL:yW K CP "left" gL)(GL:↥7 gL eL ["self"] (vQ K c CF CP))(bL:zU K eL ["self"] [])(cS:⇑7 "_law_same_left" g1 d1 ["_law_one","_law_other","_law_shapes_here"] (za1 c CF)):↥9 f fd ["_law_part","_law_items_here","_law_other","_law_shapes_here"] (zbP K c CF CP):=by
 specialize zbV;obtain⟨p,f,a,p2,ls,us,N,N2,S,bars,ts,ps,ct,rfl,hP,hP2,hF,M,lb,hC,lct,lt,lp,t1,t2,hl,lus,hsh,q⟩:=h;have lr:=M.len;have hr7:yl 7 _:=hr.mono ⋯
 obtain⟨dx,l1,l2,ys,hp,_⟩:=id hP;obtain⟨dx2,l3,l4,ys2,hp2,_⟩:=id hP2;have lnm:((zG ct).map (·.1)).length<=100:=by rw[aA];omega
 have nk:∀{f l1 l2:Addr},(ptF f l1 l2).lookup ("left" : Str)=none:=zbZ (by decide +kernel) (by decide +kernel) (by decide +kernel)
 refine zbV[4]'(yc (pv 0) PC'.cl mL GL hr7 bL .nil zZ);exists _,rfl,p,dx,_,rfl,hp,nk,p,f,N,ts,ps,S.rows,bars,rfl,hP,hF,∅,zey M t1,∅,∅,fun v H1 s1 lq=>?_
 exfalso;have two:∀H2,zq H H2->∀Q':VK,(∀v2 H3,zq H2 H3->LfQ c CF H3 v2 (vZ S.rows bars (ps.map (·.1)++(zG ct).map (·.1)) (ts.length+(zC ct).length))->Q' v2 H3)->vQ K c CF CP [.ref p2] H2 Q' (fun _ _ _=>False):=fun H2 s2 Q' k=>by
  have t2':=zey M t2;rw[aG,aE] at t2';exists p2,f,N2,_,_,S.rows,bars,rfl,hP2.same s2,hF.same s2,by rw[aG];omega,by rw[aG,aE];exact t2',∅,∅,fun v2 H3 s3 l3=>k v2 H3 s3 ?_
  rw[aG,aE] at l3;exact l3
 refine zE (zS (xy (jh (xT (wA (pv 4))) (vV (xT (wA (yc (pv 2) PC'.cl mL GL hr7 bL .nil zZ)))))) (zg (zA vo)) zI) ?_;cases hlo:vZ S.rows bars (ps.map (·.1)) ts.length with
 | none=>
  rw[hlo] at lq;have lq:v=.non:=lq;subst lq;exact⟨_,rfl,_,rfl,q _ s1⟩
 | some rb=>
  obtain⟨rows1,bars1⟩:=rb;rw[hlo] at lq;obtain⟨g,rfl,hg⟩:=lq;have t2':vI S.rows bars (ts.length+(zC ct).length) (ps.map (·.1)++(zG ct).map (·.1)):=by
   have:=t2
   rwa [aG,aE] at this
  obtain⟨S1,rfl,M1,eb,t3,so,fb3⟩:=zfd M t2' hlo;exists _,rfl,_,rfl,?_;exists _,rfl,p2,dx2,_,rfl,s1 _ _ hp2,nk,two H1 s1 _ fun v2 H3 s3 lq2=>?_;have s03:=s1.trans s3;cases hlo2:vZ S.rows bars (ps.map (·.1)++(zG ct).map (·.1)) (ts.length+(zC ct).length) with
  | none=>
   rw[hlo2] at lq2;have lq2:v2=.non:=lq2;subst lq2;exact⟨_,rfl,q _ s03⟩
  | some rb2=>
   obtain⟨rows2,bars2⟩:=rb2;rw[hlo2] at lq2;obtain⟨g2,rfl,hg2⟩:=lq2;exists _,rfl,?_;obtain⟨⟨xs,hx,hxs⟩,c1,c2⟩:=hC;exists _,zg (zA (cF cS hr7 (ac (yc (cMk kP .nil zde hr (ac (pv 4) (ac (cTy yP hlist PyProof.Rows.boot_list (ac (pv 1) zc)) zc))) PC'.cl mL GL hr7 bL .nil zZ) (ac (yc (pv 2) PC'.cl mL GL hr7 bL .nil zZ) (ac (pv 3) zc))))),?_;exists _,rfl,_,rfl,a,xs,rfl,.inl (s03.seq hx),fun lc hlc=>?_;have s4:=ze hlc (.lst xs);have e4:upd H3 lc (.lst xs) lc=some (.lst xs):=za;have s04:=s03.trans s4;generalize upd H3 lc (.lst xs)=H4 at s4 e4 s04 |-;have hC4:yX K H4 lc ct:=⟨⟨xs,zh e4,yv s04 hxs⟩,c1,c2⟩;intro x dx hx hdx hne;have smk:zq H4 (upd (upd H4 dx (.own x)) x (.ins CP dx [])):=yH hx hdx;have hx1:upd (upd H4 dx (.own x)) x (.ins CP dx []) x=some (.ins CP dx []):=za;generalize upd (upd H4 dx (.own x)) x (.ins CP dx [])=H5 at smk hx1 |-;have hg5:=hg.same (s3.trans (s4.trans smk));exists x,g,lc,dx,S1.rows,bars1,ct,rfl,hx1,hg5,hC4.same smk,fun _ H6 sx pt=>⟨rfl,?_⟩,fun m hm=>?_;rotate_left
   ·have:=zdH t3
    unfold xa yN at hm;rw[this] at hm;cases hm
   have s46:zq H4 H6:=fun b' u e=>sx b' u (smk _ _ e) (zi e hx);have s56:zq H H6:=s04.trans s46;obtain⟨dx3,l5,l6,ys3,hp3,_⟩:=id pt;have lb1:bars1.length<=280:=by
    rw[eb]
    have:=zaF S.rows bars (ps.map (·.1)) ts.length
    rw[aA] at this;omega
   have lr1:=M1.len;exists x,dx3,_,rfl,hp3,nk,x,g,_,_,_,S1.rows,bars1,rfl,pt,(hg.same (s3.trans (s4.trans s46))),∅,fb3,∅,lb1,fun v3 H7 s7 lq3=>?_
   have s07:=s56.trans s7;exists _,rfl,p2,dx2,_,rfl,s07 _ _ hp2,nk,two H7 s07 _ fun v4 H8 s8 lq4=>?_;exists _,rfl,v3,v4,_,_,ls,us,rfl,lq3.same s8,lq4,so,(s07.trans s8) _ _ hl,lus,hsh.same (s07.trans s8),fun H9 s9=>q _ (s07.trans (s8.trans s9))
theorem zfo{α : Type}{p : α->Bool}:∀{xs:List α}{m : α},(∀x∈xs,p x=true)->xs.find? p=some m->∃r,xs=m::r
 | x::xs,m,h,e=>by
  rw[List.find?_cons_of_pos (h x mem_cons_self)] at e;cases e;exact⟨xs,rfl⟩
theorem zhq{rows:List Rw}{bars:List Str}{n:Nat}{zs:List Str}{m:Str×Nat}(h:nlF (xP rows bars n zs)=some m):∃r,xP rows bars n zs=m::r:=by
 have hd:∀(fk:List (Key×V)) (zs:List Str) (i:Nat),∀x∈uf fk i zs,x.1≠"lacking":=fun fk zs=>by
  induction zs with
  | nil=>intro i x h;cases h
  | cons z zs ih=>
   intro i x h;rcases List.mem_append.mp h with h|h
   ·split at h
    ·cases h
    ·rw[List.mem_singleton.mp h];show("doubled" : Str)≠"lacking";decide +kernel
   ·exact ih _ x h
 have ho:∀x∈wj rows n,x.1≠"lacking":=fun x h=>by
  unfold wj at h;split at h
  ·cases h
  ·obtain⟨_,_,rfl⟩:=List.mem_map.mp h
   show("over" : Str)≠"lacking";decide +kernel
 have hu:∀x∈vf rows bars n (fpZ zs),x.1≠"lacking":=fun x h=>by
  unfold vf at h;obtain⟨p,_,e⟩:=List.mem_filterMap.mp h;cases e2:yx rows bars n p.1 with
  | none=>rw[e2] at e;cases e
  | some w=>rw[e2] at e;cases e;exact zbK e2
 unfold xP at h |-;rw[uT,zel,or_none] at h;have hall:∀x∈uf (kvP (fpZ zs)) 0 zs++wj rows n++vf rows bars n (fpZ zs),x.1≠"lacking":=fun x hx=>by
  rcases List.mem_append.mp hx with hx|hx
  ·rcases List.mem_append.mp hx with hx|hx
   ·exact hd _ _ _ x hx
   ·exact ho x hx
  ·exact hu x hx
 obtain⟨r,e⟩:=zfo (fun x hx=>aC (hall x hx)) h;rw[e];exact⟨_,rfl⟩
theorem jz(rows:List Rw)(bars:List Str)(ts:List Int)(ps:List (Str×Int)):ptN rows bars ts ps=nlF (xP rows bars ts.length (ps.map (·.1))):=by
 unfold ptN xa yN;rw[v0,ua]
def zaA(ts:List Int)(ps:List (Str×Int)):List ym:=[.row (ts.take 30),.row (ts.drop 30),.book (ps.take 30),.book (ps.drop 30)]
theorem zeg(ts:List Int)(ps:List (Str×Int)):zC (zaA ts ps)=ts:=by
 show ts.take 30++(ts.drop 30++([]++([]++[])))=ts;simp
theorem zeh(ts:List Int)(ps:List (Str×Int)):zG (zaA ts ps)=ps:=by
 show[]++([]++(ps.take 30++(ps.drop 30++[])))=ps;simp
def zdA(H:Hp)(t:Addr):Option (Str×Nat)->Prop
 | none=>H t=some (.tup [.non,.str "part"])
 | some m=>H t=some (.tup [.int (m.2:Nat),.str m.1])
inductive zfV(K:Frag)(c:C5)(CF:Addr)(vs:List V)(H:Hp)(Q:VK)(E:XK):Prop|mk(la lb f lt lp:Addr)(us:List Addr)(rows:List Rw)(bars:List Str)(ts:List Int)(ys:List V)(ps:List (Str×Int)):vs=[.ref la,.ref lb,.ref f,.ref lt,.ref lp]->H la=some (.lst (us.map V.ref))->Paired (TAt H) us rows->VR rows->H lb=some (.lst (bars.map V.str))->xp c CF H f rows bars->H lt=some (.lst (ts.map V.int))->ts.length<=100->H lp=some (.lst ys)->Paired (zJ K T' H 1) ys (ps.map yT)->ps.length<=100->(∀(t:Addr) (H':Hp),zq H H'->zdA H' t (ptN rows bars ts ps)->Q (.ref t) H')->zfV K c CF vs H Q E
theorem za9:zv ["_law_row_here","_law_bars_here","_law_form_here","_law_things","_law_pairs","_law_call_here","_law_word_here","_law_number"] ["_law_row_here","_law_bars_here","_law_form_here","_law_things","_law_pairs"] (zk zkL):=fsc
theorem zi5{P:Program}{w:World}{base:Heap}{fd:FuncData}{g1 g2:Addr}{d1 d2:FuncData}(F:Fun K "_law_due" "_law_due" zkL f fd)(cT:⇑1 "_law_is_tame" g1 d1 ["_law_row_here","_law_bars_here","_law_things","_law_pairs"] (zcJ K))(cM:⇑5 "misfits" g2 d2 ["form","call"] (zdT K c CF)):↥6 f fd ["_law_row_here","_law_bars_here","_law_form_here","_law_things","_law_pairs"] (zfV K c CF):=by
 specialize za9;obtain⟨la,lb,f,lt,lp,us,rows,bars,ts,ys,ps,rfl,hla,hu,V1,hlb,hF,hlt,l1,hlp,hps,l2,q⟩:=h;have hr1:yl 1 _:=hr.mono ⋯
 have lys:ys.length=ps.length:=by rw[hps.length,aA]
 refine zE (zS (y7 (cF cT hr1 (ac (pv 0) (ac (pv 1) (ac (pv 3) (ac (pv 4) zc)))))) (zg (zA (zT (ac jA (ac zy zc))))) zI) ?_;exists _,rfl,_,rfl,_,rfl,_,rfl,la,lb,lt,lp,us,rows,bars,ts,ys,ps,rfl,hla,hu,V1,hlb,hlt,hlp,hps,∅,fun b H1 s1 hb=>?_
 exists _,rfl,?_;refine wf (fun e=>?_) (fun e=>?_)
 ·exists yA,fun t ht=>q t _ (s1.trans (ze ht _)) ?_
  rw[jz,zdH (hb.mp e)];exact za
 obtain⟨m,hm⟩:∃m,ptN rows bars ts ps=some m:=by
  cases em:ptN rows bars ts ps with
  | some m=>exact⟨m,rfl⟩
  | none=>rw[jz] at em;exact absurd (hb.mpr (zbq em)) e
 rw[hm] at q;clear hb e;refine za9[5]'(zo yr (zP (ac (zT (ac zy (ac (yp yC (pv 3) yU (yn zf)) zc))) (ac (zT (ac zy (ac (yp yC (pv 3) (yn zf) yU) zc))) zc))) (zP (ac (zT (ac zy (ac (yp yC (pv 4) yU (yn zf)) zc))) (ac (zT (ac zy (ac (yp yC (pv 4) (yn zf) yU) zc))) zc))));exists _,rfl,_,rfl,lt,_,rfl,s1.seq (zh hlt),fun m1 hm1=>?_;rw[show wg (ts.map V.int) none (some 30)=(ts.take 30).map V.int from (xZ (n:=30)).trans (by rw[map_take])]
 have s2:=ze hm1 (.lst ((ts.take 30).map V.int));have e1:upd H1 m1 (.lst ((ts.take 30).map V.int)) m1=some (.lst ((ts.take 30).map V.int)):=za;have s2:=s1.trans s2;generalize upd H1 m1 (.lst ((ts.take 30).map V.int))=H2 at s2 e1 |-;exists yA,fun t1 ht1=>?_;have s3:=ze ht1 (.tup [.str "row",.ref m1]);have e2:upd H2 t1 (.tup [.str "row",.ref m1]) t1=some (.tup [.str "row",.ref m1]):=za;have i1:zJ K T' (upd H2 t1 (.tup [.str "row",.ref m1])) 3 (.ref t1) (yj (.row (ts.take 30))):=.tup (zF e2) (.cons .str (.cons (.lst True.intro (s3 _ _ e1) (wo _)) .nil));have s3:=s2.trans s3;generalize upd H2 t1 (.tup [.str "row",.ref m1])=H3 at s3 i1 |-;exists _,rfl,_,rfl,lt,_,rfl,s3.seq (zh hlt),fun m2 hm2=>?_;rw[show wg (ts.map V.int) (some 30) none=(ts.drop 30).map V.int from (x6 (n:=30)).trans (by rw[map_drop])]
 have s4:=ze hm2 (.lst ((ts.drop 30).map V.int));have e3:upd H3 m2 (.lst ((ts.drop 30).map V.int)) m2=some (.lst ((ts.drop 30).map V.int)):=za;have i1:=i1.same s4;have s4:=s3.trans s4;generalize upd H3 m2 (.lst ((ts.drop 30).map V.int))=H4 at s4 e3 i1 |-;exists yA,fun t2 ht2=>?_;have s5:=ze ht2 (.tup [.str "row",.ref m2]);have e4:upd H4 t2 (.tup [.str "row",.ref m2]) t2=some (.tup [.str "row",.ref m2]):=za;have i2:zJ K T' (upd H4 t2 (.tup [.str "row",.ref m2])) 3 (.ref t2) (yj (.row (ts.drop 30))):=.tup (zF e4) (.cons .str (.cons (.lst True.intro (s5 _ _ e3) (wo _)) .nil));have i1:=i1.same s5;have s5:=s4.trans s5;generalize upd H4 t2 (.tup [.str "row",.ref m2])=H5 at s5 i1 i2 |-;exists yA,fun l6 hl6=>?_;have s6:=ze hl6 (.lst [.ref t1,.ref t2]);have e6:upd H5 l6 (.lst [.ref t1,.ref t2]) l6=some (.lst [.ref t1,.ref t2]):=za;have i1:=i1.same s6;have i2:=i2.same s6;have s6:=s5.trans s6;generalize upd H5 l6 (.lst [.ref t1,.ref t2])=H6 at s6 e6 i1 i2 |-;exists _,rfl,_,rfl,lp,_,rfl,s6.seq (zh hlp),fun m3 hm3=>?_;rw[show wg ys none (some 30)=ys.take 30 from xZ (n:=30)];have s7:=ze hm3 (.lst (ys.take 30));have e7:upd H6 m3 (.lst (ys.take 30)) m3=some (.lst (ys.take 30)):=za;have i1:=i1.same s7;have i2:=i2.same s7;have e6:=s7 _ _ e6;have s7:=s6.trans s7;generalize upd H6 m3 (.lst (ys.take 30))=H7 at s7 e6 e7 i1 i2 |-;exists yA,fun t3 ht3=>?_;have s8:=ze ht3 (.tup [.str "book",.ref m3]);have e8:upd H7 t3 (.tup [.str "book",.ref m3]) t3=some (.tup [.str "book",.ref m3]):=za;have s78:=s7.trans s8;have p3:Paired (zJ K T' (upd H7 t3 (.tup [.str "book",.ref m3])) 1) (ys.take 30) ((ps.take 30).map yT):=by rw[map_take];exact xU (xC s78 hps) 30
 have i3:zJ K T' (upd H7 t3 (.tup [.str "book",.ref m3])) 3 (.ref t3) (yj (.book (ps.take 30))):=.tup (zF e8) (.cons .str (.cons (.lst True.intro (s8 _ _ e7) p3) .nil));have i1:=i1.same s8;have i2:=i2.same s8;have e6:=s8 _ _ e6;generalize upd H7 t3 (.tup [.str "book",.ref m3])=H8 at s78 e6 i1 i2 i3 |-;exists _,rfl,_,rfl,lp,_,rfl,s78.seq (zh hlp),fun m4 hm4=>?_;rw[show wg ys (some 30) none=ys.drop 30 from x6 (n:=30)];have s9:=ze hm4 (.lst (ys.drop 30));have e9:upd H8 m4 (.lst (ys.drop 30)) m4=some (.lst (ys.drop 30)):=za;have i1:=i1.same s9;have i2:=i2.same s9;have i3:=i3.same s9;have e6:=s9 _ _ e6;have s9:=s78.trans s9;generalize upd H8 m4 (.lst (ys.drop 30))=H9 at s9 e6 e9 i1 i2 i3 |-;exists yA,fun t4 ht4=>?_;have sA:=ze ht4 (.tup [.str "book",.ref m4]);have eA:upd H9 t4 (.tup [.str "book",.ref m4]) t4=some (.tup [.str "book",.ref m4]):=za;have s9A:=s9.trans sA;have p4:Paired (zJ K T' (upd H9 t4 (.tup [.str "book",.ref m4])) 1) (ys.drop 30) ((ps.drop 30).map yT):=by rw[map_drop];exact wm (xC s9A hps) 30
 have i4:zJ K T' (upd H9 t4 (.tup [.str "book",.ref m4])) 3 (.ref t4) (yj (.book (ps.drop 30))):=.tup (zF eA) (.cons .str (.cons (.lst True.intro (sA _ _ e9) p4) .nil));have i1:=i1.same sA;have i2:=i2.same sA;have i3:=i3.same sA;have e6:=sA _ _ e6;generalize upd H9 t4 (.tup [.str "book",.ref m4])=HA at s9A e6 i1 i2 i3 i4 |-;exists yA,fun lB hlB=>?_;have sB:=ze hlB (.lst [.ref t3,.ref t4]);have eB:upd HA lB (.lst [.ref t3,.ref t4]) lB=some (.lst [.ref t3,.ref t4]):=za;have i1:=i1.same sB;have i2:=i2.same sB;have i3:=i3.same sB;have i4:=i4.same sB;have e6:=sB _ _ e6;have sB:=s9A.trans sB;generalize upd HA lB (.lst [.ref t3,.ref t4])=HB at sB e6 eB i1 i2 i3 i4 |-;exists l6,lB,_,_,rfl,rfl,e6,eB,zmU,fun lc hlc=>?_;have sC:=ze hlc (.lst ([.ref t1,.ref t2]++[.ref t3,.ref t4]));have eC:upd HB lc (.lst ([.ref t1,.ref t2]++[.ref t3,.ref t4])) lc=some (.lst [.ref t1,.ref t2,.ref t3,.ref t4]):=za;have hC:yX K (upd HB lc (.lst ([.ref t1,.ref t2]++[.ref t3,.ref t4]))) lc (zaA ts ps):=⟨⟨_,zh eC,.cons (i1.same sC) (.cons (i2.same sC) (.cons (i3.same sC) (.cons (i4.same sC) .nil)))⟩,by rw[zeg];omega,by rw[zeh];omega⟩
 have sC:=sB.trans sC;generalize upd HB lc (.lst ([.ref t1,.ref t2]++[.ref t3,.ref t4]))=HC at sC hC |-;clear eC i1 i2 i3 i4 e6 eB sB s9A s9 s78 s7 s6 s5 s4 s3 s2;exfalso;refine zE (vW (zV yO (cF cM hr (ac (pv 2) (ac (pv 5) zc))) zf (fun _ _=>rfl)) (yB rfl (zB (zr (i:=6) za9.nd rfl (Or.inl rfl)) (zB (zr (i:=7) za9.nd rfl (Or.inl rfl)) yi)))) ?_;exists _,rfl,_,rfl,f,lc,rows,bars,zaA ts ps,rfl,hF.same sC,hC,fun l HD sD ⟨vs,nl,el,ml⟩=>?_;have hm':nlF (xP rows bars (zC (zaA ts ps)).length ((zG (zaA ts ps)).map (·.1)))=some m:=by rw[zeg,zeh,<- jz];exact hm
 obtain⟨r,er⟩:=zhq hm';have ml:vc HD vs (m::r):=by rw[<- er];exact ml
 obtain⟨u,vs,rfl⟩:∃u vs',vs=u::vs':=by
  cases ml with
  | cons _ _=>exact⟨_,_,rfl⟩
 have hu1:HD u=some (.tup [.str m.1,.int (m.2:Nat)]):=by cases ml with|cons h _=>exact h
 exists l,_,0,.ref u,rfl,rfl,zh el,wW (j:=0) rfl,u,_,rfl,zF hu1,rfl,_,_,rfl,_,_,rfl,rfl,?_;exists _,zg (zA (zT (ac (pv 7) (ac (pv 6) zc)))),?_;exists _,rfl,_,rfl,yA,fun t ht=>q t _ (sC.trans (sD.trans (ze ht _))) za
theorem zd7{r:Rw}(h:r.k=0\/r.k=1\/r.k=3):atI (rv r) 2=some (.bl r.b):=by
 obtain⟨k,z,b⟩:=r;rcases h with e|e|e <;> (cases e;rfl)
def zgA(rows:List Rw):List Rw:=rows.filter fun r=>xV r.k
def ShQ(H:Hp)(Q:VK):Prop:=∀(t l:Addr) (m:Nat) (ns:List Str) (H':Hp),zq H H'->H l=none->SA H' t l m ns->Q (.ref t) H'
inductive zfX(vs:List V)(H:Hp)(Q:VK)(E:XK):Prop|mk(la lt pa:Addr)(us:List Addr)(rows:List Rw)(many:Nat)(n:Int)(told zs:List Str):vs=[.ref la,.ref lt,.int (many:Nat),.int n,.ref pa]->H la=some (.lst (us.map V.ref))->Paired (TAt H) us rows->VR rows->H lt=some (.lst (told.map V.str))->H pa=some (.lst (zs.map V.str))->zs.length<=26->(ShQ H Q)->zfX vs H Q E
structure znt(mg:Str->Option Value):Prop where
 len:mg "len"=none
 max:mg "max"=none
theorem ju{zs:List Str}(x:Int)(h : 0<zs.length):∃z∈zs,atI (zs.map V.str) (x % (((zs.map V.str).length:Nat):Int))=some (.str z):=by
 rw[aA];have d0 : 0<=x % (zs.length:Int):=emod_nonneg _ ∅
 have d1:x % (zs.length:Int)<(zs.length:Int):=emod_lt_of_pos _ ∅
 obtain⟨j,hj⟩:=eq_ofNat_of_zero_le d0;have hjl:j<zs.length:=by omega
 exact⟨zs[j],getElem_mem hjl,by rw[hj];exact wW (by rw[getElem?_map,aB hjl];rfl)⟩
theorem zld{n k:Nat}(h:k<n):ixN n (k:Int)=some k:=by
 unfold ixN;rw[aK ∅,aK ∅]
 rfl
theorem zjh{n k:Nat}(h:k<n):seqIndex? (k:Int) n=some k:=(zer (zld h)).1
theorem zlg{la D:Addr}{us:List Addr}{rows:List Rw}{σ : L2.St}{H:Hp}{Q:VK}(hla:H la=some (.lst (us.map V.ref)))(hu:Paired (TAt H) us rows)(hok:∀r∈rows,r.ok)(hl:rows.length<=24)(hD:H D=none)
  (q:∀H' vs,zq H H'->H' D=some (.lst (vs.map V.ref))->Paired (TAt H') vs (zgA rows)->Q (.ref D) H'):LCr (Itl K la) [none] (zK 0) (zat (tOp (rIn K false) (tOp (wv K) (ja 0) (tC (.int 0))) (zki (qj (tC (.str "seat")) (qj (tC (.str "both")) zeP))))) (ja 0) σ H Q D:=by
 refine vF (K:=K) TAt (fun r=>xV r.k) (fun u _=>.ref u) hD hla hu ∅ (fun i u r H' N S hu' hr' tr sH n1 s1=>?_) (fun H1 s1 e1=>?_)
 ·have rk:=hok r (aH hr')
  have tu:=sH _ _ tr;exists _,rfl,u,_,0,_,rfl,rfl,zF tu,wG rk,yA,fun l hl=>?_;have s2:=ze hl (.lst [.str "seat",.str "both"]);exists l,_,rfl,.inl (zh za),rfl,rfl,_,rfl,?_;rw[aJ zft,zhI rk.1];exact⟨fun e=>⟨_,rfl,n1 _ s2 e⟩,fun e=>s1 _ s2 e⟩
 ·obtain⟨vs,ev,p⟩:=zaY (zL s1 hu) fun r=>xV r.k
  exact q H1 vs s1 (by rw[e1,ev]) p
theorem zlf{la D:Addr}{us:List Addr}{rows:List Rw}{σ : L2.St}{H:Hp}{Q:VK}{z:Str}(k:Nat)(hk:k<5)(ez:kw k=z)(hla:H la=some (.lst (us.map V.ref)))(hu:Paired (TAt H) us rows)(hok:∀r∈rows,r.ok)(hl:rows.length<=24)(hD:H D=none)
  (q:∀H' vs,zq H H'->H' D=some (.lst (vs.map V.ref))->Paired (TAt H') vs (rows.filter fun r=>r.k==k)->Q (.ref D) H'):LCr (Itl K la) [none] (zK 0) (zat (tOp rEq (tOp (wv K) (ja 0) (tC (.int 0))) (tC (.str z)))) (ja 0) σ H Q D:=by
 refine vF (K:=K) TAt (fun r=>r.k==k) (fun u _=>.ref u) hD hla hu ∅ (fun i u r H' N S hu' hr' tr sH n1 s1=>?_) (fun H1 s1 hD1=>?_)
 ·have rk:=hok r (aH hr')
  have tu:=sH _ _ tr;exists _,rfl,u,_,0,_,rfl,rfl,zF tu,wG rk,rfl,_,rfl,?_;rw[<- ez,zhE k hk r.k rk.1];exact⟨fun e=>⟨_,rfl,n1 _ (zq.refl _) e⟩,fun e=>s1 _ (zq.refl _) e⟩
 ·obtain⟨vs,ev,p⟩:=zaY (zL s1 hu) fun r=>r.k==k
  exact q H1 vs s1 (by rw[hD1,ev]) p
theorem zmj:([Str.ofString "_law_one",Str.ofString "_law_told"]:List Str).Nodup:=by decide +kernel
theorem wN:zv ["_law_row_here","_law_told","_law_many","_law_number","_law_pool_here","_law_places","_law_most","_law_more","_law_late","_law_names","_law_spare","_law_way"] ["_law_row_here","_law_told","_law_many","_law_number","_law_pool_here"] (zk qx):=fsc
theorem zi8{P:Program}{w:World}{base:Heap}{fd:FuncData}(F:Fun K "_law_further" "_law_further" qx f fd)(U:znt mg):↥1 f fd ["_law_row_here","_law_told","_law_many","_law_number","_law_pool_here"] zfX:=by
 specialize wN;obtain⟨la,lt,pa,us,rows,many,n,told,zs,rfl,hla,hu,V1,hlt,hpa,pl,q⟩:=h;have hU:=hr.units;have hU0:_<cLine:=Nat.lt_of_le_of_lt (Nat.le_add_right _ 64) hU;have hok:=V1.ok;have l24:=V1.l24;refine zE (wO (i:=5) [] ["_law_one"] [none] wN.nd rfl (Or.inl rfl) rfl ⟨rfl,rfl,rfl,rfl⟩ (z7 (pv 0)) (ya 0) rfl rfl rfl
   (fun pins fp s H C=>⟨zr (i:=0) qL rfl (Or.inl rfl) (.inr rfl),xl (zw (r:=rIn K false) yY (zV (r:=wv K) yd (pv 0) zf (fun _ _=>rfl)) (zP (ac zy (ac zy zc))) (by with_unfolding_all rfl)),pv 0⟩)) ?_
 exists _,rfl,la,rfl,⟨_,zh hla⟩,fun D3 hD3=>?_;refine zlg hla hu hok l24 hD3 fun H1 vs s1 e1 p1=>?_;have lp:(zgA rows).length<=24:=le_trans (length_filter_le _ _) l24;have lv:vs.length=(zgA rows).length:=p1.length;have elv:(((vs.map V.ref).length:Nat):Int)=(vs.length:Nat):=by rw[aA]
 exfalso;refine wN[6]'(cB (zfB rfl) U.max boot_max (ac zf (ac (zo jB (cB zO U.len PySem.boot_len (ac (pv 5) zc)) (pv 2)) zc)));exists _,rfl,D3,_,rfl,.inl (zh e1),_,rfl,_,_,rfl,rfl,_,_,rfl,?_;rw[elv];obtain⟨most,em,lm⟩:∃most:Nat,(if ((vs.length:Nat):Int) - ((many:Nat):Int)>0 then ((vs.length:Nat):Int) - ((many:Nat):Int) else 0)=((most:Nat):Int)/\most<=24:=⟨vs.length - many,by split <;> omega,∅⟩
 rw[em];clear em;exfalso;refine wN[7]'(zo zR (pv 3) (zo yF (pv 6) zf));exists _,rfl,_,rfl,_,_,rfl,rfl,_,_,rfl,rfl,(by show(0:Int)<_+3;omega),?_
 obtain⟨more,em,lmore⟩:∃more:Nat,n % (((most:Nat):Int)+3)=((more:Nat):Int)/\more<=60:=by
  have n0 : 0<=n % (((most:Nat):Int)+3):=emod_nonneg _ ∅
  have n1:n % (((most:Nat):Int)+3)<((most:Nat):Int)+3:=emod_lt_of_pos _ ∅
  obtain⟨k,hk⟩:=eq_ofNat_of_zero_le n0;exact⟨k,hk,∅⟩
 rw[em];clear em;exfalso;refine zE (zS (zw yK (zo zR (zo z8 (pv 3) zf) zf) zf (zM _)) (zg (zx (i:=7) wN.nd rfl (Or.inl rfl) (zo zR (zo z8 (pv 3) zf) zf))) zI) ?_;refine xj (fun σ' H'=>∃more:Nat,σ'=[~~~la,~~~lt,some (.int (many:Nat)),some (.int n),~~~pa,~~~D3,some (.int (most:Nat)),some (.int (more:Nat)),none,none,none,none]/\H'=H1/\more<=60) ?_ (fun key=>?_);rotate_left
 ·exists _,rfl,_,_,rfl,rfl,⟨⋯,⋯⟩,_,_,rfl,rfl,zp2,rfl,_,rfl,?_
  refine wf (fun _=>?_) (fun _=>?_);rotate_left
  ·exact key _ _ ⟨more,rfl,rfl,lmore⟩
  exists _,rfl,_,_,rfl,rfl,⟨⋯,⋯⟩,_,_,rfl,rfl,(by show(0:Int)<3;decide),?_
  have n0 : 0<=n / 128 % 3:=emod_nonneg _ ⋯
  have n1:n / 128 % 3<3:=emod_lt_of_pos _ ⋯
  obtain⟨k,hk⟩:=eq_ofNat_of_zero_le n0;rw[hk];exact key _ _ ⟨k,rfl,rfl,∅⟩
 clear lmore;rintro σ H1' ⟨more,rfl,rfl,lmore⟩;refine wN[8]'(zo yr (yp yC (pv 5) (yn (zo yF (pv 2) (pv 7))) yU)
   (wC [] ["_law_one"] [none] rfl ⟨rfl,rfl,rfl,rfl⟩ (z7 (pv 0)) (ya 0) rfl rfl rfl
   (fun pins fp s H C=>⟨zr (i:=0) qL rfl (Or.inl rfl) (.inr rfl),xl (zw yK (zV (r:=wv K) yd (pv 0) zf (fun _ _=>rfl)) zy (zM _)),pv 0⟩)))
 exists _,rfl,_,rfl,_,rfl,_,_,rfl,rfl,_,rfl,D3,_,rfl,zh e1,fun l4 hl4=>?_;rw[show wg (vs.map V.ref) (some (((many:Nat):Int)+((more:Nat):Int))) none=(vs.drop (many+more)).map V.ref from (x6 (n:=many+more)).trans (map_drop ..).symm]
 injections l4 hl4 H4 s4 g4
 have s14:=s1.trans s4;exists _,rfl,la,rfl,⟨_,zh (s14 _ _ hla)⟩,fun Db hDb=>?_;refine zlf 3 ⋯ rfl (s14 _ _ hla) (zL s14 hu) hok l24 hDb (fun H6 vb s6 eb pb=>?_)
 have lva:(vs.drop (many+more)).length<=24:=by rw[length_drop];omega
 have lvb:vb.length<=24:=by rw[pb.length];exact le_trans (length_filter_le _ _) l24
 exists l4,Db,_,_,rfl,rfl,s6 _ _ g4,eb,yg (by rw[aA,aA];omega),fun D5 hD5=>?_
 rw[<- aE];have s7:=ze hD5 (.lst ((vs.drop (many+more)++vb).map V.ref));have g7:upd H6 D5 (.lst ((vs.drop (many+more)++vb).map V.ref)) D5=some (.lst ((vs.drop (many+more)++vb).map V.ref)):=za;have p7:=zL s7 (zX (zL (s4.trans s6) (wm p1 (many+more))) pb);have s07:=s14.trans (s6.trans s7);generalize upd H6 D5 (.lst ((vs.drop (many+more)++vb).map V.ref))=H7 at s7 g7 p7 s07 |-;have lL:(vs.drop (many+more)++vb).length<=48:=by rw[aG];omega
 have kL:∀r∈(zgA rows).drop (many+more)++(rows.filter fun r=>r.k==3),r.ok/\(r.k=0\/r.k=1\/r.k=3):=fun r hr=>by
  rcases List.mem_append.mp hr with h|h
  ·obtain⟨a,b⟩:=List.mem_filter.mp (mem_of_mem_drop h)
   exists hok r a,?_;have b:xV r.k=true:=b;unfold xV at b;rcases Bool.or_eq_true _ _ |>.mp b with b|b
   ·exact .inl (by simpa using b)
   ·exact .inr (.inl (by simpa using b))
  ·obtain⟨a,b⟩:=List.mem_filter.mp h
   exact⟨hok r a,.inr (.inr (by simpa using b))⟩
 generalize (zgA rows).drop (many+more)++(rows.filter fun r=>r.k==3)=L at p7 kL;generalize vs.drop (many+more)++vb=vl at g7 p7 lL;have lLL:L.length<=48:=by rw[<- p7.length];exact lL
 clear s14 s6 s7 s4 eb g4 hl4 pb lva lvb hDb;exfalso;have tk:∀(z:Str),(if true=true then !inV (V.str z) (told.map V.str) else inV (V.str z) (told.map V.str))=!decide (z∈told):=fun z=>by rw[aK rfl,xc]
 refine zE (wO (i:=9) ["_law_told"] ["_law_one","_law_told"] [none,some 1] wN.nd rfl (Or.inl rfl) rfl ⟨rfl,rfl,rfl,rfl⟩ (z7 (pv 8)) (ya 0) rfl rfl rfl
   (fun pins fp s H C=>⟨zr (i:=0) zmj rfl (Or.inl rfl) (.inr rfl),xl (xy (xr (zw zb5 (zV (r:=wv K) yd (pv 0) zf (fun _ _=>rfl)) zy (zM _)) (xr (vA (y7 (zV (r:=wv K) yd (pv 0) zf (fun _ _=>rfl)))) (y9 (zw (r:=rIn K true) yL (zV (r:=wv K) yd (pv 0) zf (fun _ _=>rfl)) (pv 1) (by with_unfolding_all rfl)))))),zV (r:=wv K) yd (pv 0) zf (fun _ _=>rfl)⟩)) ?_
 have hlt7:=s07 _ _ hlt;exists _,rfl,D5,rfl,⟨_,zh g7⟩,fun ln hln=>?_;refine vF (K:=K) TAt (fun r=>!(r.k==0)&&(!r.b&&!decide (r.z∈told))) (fun _ r=>.str r.z) hln g7 p7 ∅ (fun i u r H' N S hu' hr' tr sH n1 s1=>?_) (fun H8 s8 e8=>?_)
 ·have⟨rk,k3⟩:=kL r (aH hr')
  have tu:=sH _ _ tr;have e0:(!decide (V.str (kw r.k)=V.str "seat"))=!(r.k==0):=by
   rcases k3 with e|e|e <;> rw[e] <;> decide +kernel
  have nS:∀H'',zq H' H''->(!(r.k==0)&&(!r.b&&!decide (r.z∈told)))=false->S H'':=fun H'' s e=>s1 H'' s e;exists _,rfl,u,_,0,_,rfl,rfl,zF tu,wG rk,rfl,_,rfl,?_;rw[e0];cases ek:(r.k==0) with
  | true=>exact⟨fun e=>Bool.noConfusion e,fun _=>s1 _ (zq.refl _) (by rw[ek];rfl)⟩
  | false=>
   refine wZ ?_;exists _,rfl,u,_,2,_,rfl,rfl,zF tu,zd7 k3,_,rfl,?_;cases eb:r.b with
   | true=>exact⟨fun e=>Bool.noConfusion e,fun _=>s1 _ (zq.refl _) (by rw[ek,eb];rfl)⟩
   | false=>
    refine wZ ?_;exists _,rfl,u,_,1,_,rfl,rfl,zF tu,vw rk,_,rfl,lt,_,rfl,.inl (zh (sH _ _ hlt7)),rfl,xf,_,rfl,?_;rw[tk];exact⟨fun e=>⟨_,rfl,u,_,1,_,rfl,rfl,zF tu,vw rk,n1 _ (zq.refl _) (by rw[ek,eb,e];rfl)⟩,fun e=>s1 _ (zq.refl _) (by rw[ek,eb,e];rfl)⟩
 rw[uZ p7 (fun r=>!(r.k==0)&&(!r.b&&!decide (r.z∈told))) (fun r=>V.str r.z),show(L.filter fun r=>!(r.k==0)&&(!r.b&&!decide (r.z∈told))).map (fun r=>V.str r.z)=((L.filter fun r=>!(r.k==0)&&(!r.b&&!decide (r.z∈told))).map (·.z)).map V.str by rw[map_map];rfl] at e8
 have l8:((L.filter fun r=>!(r.k==0)&&(!r.b&&!decide (r.z∈told))).map (·.z)).length<=48:=by rw[aA];exact le_trans (length_filter_le _ _) lLL
 generalize (L.filter fun r=>!(r.k==0)&&(!r.b&&!decide (r.z∈told))).map (·.z)=nn at e8 l8;have nln:H ln=none:=s07.free hln;have s08:=s07.trans s8;have g7:=s8 _ _ g7;have p7:=zL s8 p7;clear hln s8 hlt7 s07;exfalso;refine zE (wO (i:=10) ["_law_told"] ["_law_one","_law_told"] [none,some 1] wN.nd rfl (Or.inl rfl) rfl ⟨rfl,rfl,rfl,rfl⟩ (z7 (pv 8)) (ya 0) rfl rfl rfl
   (fun pins fp s H C=>⟨zr (i:=0) zmj rfl (Or.inl rfl) (.inr rfl),xl (xy (xr (zw zb5 (zV (r:=wv K) yd (pv 0) zf (fun _ _=>rfl)) zy (zM _)) (xr (y7 (zV (r:=wv K) yd (pv 0) zf (fun _ _=>rfl))) (y9 (zw (r:=rIn K true) yL (zV (r:=wv K) yd (pv 0) zf (fun _ _=>rfl)) (pv 1) (by with_unfolding_all rfl)))))),zV (r:=wv K) yd (pv 0) zf (fun _ _=>rfl)⟩)) ?_
 have hlt7:=s08 _ _ hlt;exists _,rfl,D5,rfl,⟨_,zh g7⟩,fun lsp hlsp=>?_;refine vF (K:=K) TAt (fun r=>!(r.k==0)&&(r.b&&!decide (r.z∈told))) (fun _ r=>.str r.z) hlsp g7 p7 ∅ (fun i u r H' N S hu' hr' tr sH n1 s1=>?_) (fun H9 s9 e9=>?_)
 ·have⟨rk,k3⟩:=kL r (aH hr')
  have tu:=sH _ _ tr;have e0:(!decide (V.str (kw r.k)=V.str "seat"))=!(r.k==0):=by
   rcases k3 with e|e|e <;> rw[e] <;> decide +kernel
  exists _,rfl,u,_,0,_,rfl,rfl,zF tu,wG rk,rfl,_,rfl,?_;rw[e0];cases ek:(r.k==0) with
  | true=>exact⟨fun e=>Bool.noConfusion e,fun _=>s1 _ (zq.refl _) (by rw[ek];rfl)⟩
  | false=>
   refine wZ ?_;exists _,rfl,u,_,2,_,rfl,rfl,zF tu,zd7 k3,_,rfl,?_;cases eb:r.b with
   | false=>exact⟨fun e=>Bool.noConfusion e,fun _=>s1 _ (zq.refl _) (by rw[ek,eb];rfl)⟩
   | true=>
    refine wZ ?_;exists _,rfl,u,_,1,_,rfl,rfl,zF tu,vw rk,_,rfl,lt,_,rfl,.inl (zh (sH _ _ hlt7)),rfl,xf,_,rfl,?_;rw[tk];exact⟨fun e=>⟨_,rfl,u,_,1,_,rfl,rfl,zF tu,vw rk,n1 _ (zq.refl _) (by rw[ek,eb,e];rfl)⟩,fun e=>s1 _ (zq.refl _) (by rw[ek,eb,e];rfl)⟩
 rw[uZ p7 (fun r=>!(r.k==0)&&(r.b&&!decide (r.z∈told))) (fun r=>V.str r.z),show(L.filter fun r=>!(r.k==0)&&(r.b&&!decide (r.z∈told))).map (fun r=>V.str r.z)=((L.filter fun r=>!(r.k==0)&&(r.b&&!decide (r.z∈told))).map (·.z)).map V.str by rw[map_map];rfl] at e9
 generalize (L.filter fun r=>!(r.k==0)&&(r.b&&!decide (r.z∈told))).map (·.z)=sp at e9;have nlsp:ln≠lsp:=zi e8 hlsp;have e8:=s9 _ _ e8;have s09:=s08.trans s9;clear s08 s9 g7 p7 kL lL lLL hlt7 tk hlsp;exfalso;refine wN[11]'(zo zR (zo z8 (pv 3) zf) zf);exists _,rfl,_,_,rfl,rfl,⟨⋯,⋯⟩,_,_,rfl,rfl,zp8,?_
 generalize n / 4096 % 8=way;exfalso;refine zE (zS (xy (xr (zw yK (pv 11) zf (zM _)) (y9 (zw (zgP hU0) (pv 9) (zP zc) (zM _))))) (zg (zW (xh PySem.F.plainAttrs_list PySem.F.slot_list_pop PySem.F.type_list_pop zhs (pv 9) (ac (zo zR (zo z8 (pv 3) zf) (cB zO U.len PySem.boot_len (ac (pv 9) zc))) zc)))) zI) ?_;refine xj (fun σ' H'=>∃(nn:List Str),σ'=[~~~la,~~~lt,some (.int (many:Nat)),some (.int n),~~~pa,~~~D3,some (.int (most:Nat)),some (.int (more:Nat)),~~~D5,~~~ln,~~~lsp,some (.int way)]/\zq H H'/\H' ln=some (.lst (nn.map V.str))/\H' lsp=some (.lst (sp.map V.str))/\nn.length<=48) ?_ (fun key=>?_);rotate_left
 ·exists _,rfl,rfl,_,rfl,?_
  refine wf (fun _=>?_) (fun _=>?_);rotate_left
  ·exact key _ _ ⟨nn,rfl,s09,e8,e9,l8⟩
  exists _,rfl,xS,fun le hle=>?_;have s14:=ze hle (.lst []);exists ln,le,_,rfl,rfl,s14 _ _ e8,za,_,rfl,?_;by_cases hn:nn.map V.str=[]
  ·refine jI (by rw[aC hn];rfl) ?_
   exact key _ _ ⟨nn,rfl,s09.trans s14,s14 _ _ e8,s14 _ _ e9,l8⟩
  refine jJ (by rw[aD hn];rfl) ?_
  have z0 : 0<nn.length:=by
   rcases Nat.eq_zero_or_pos nn.length with h|h
   ·exact absurd (by rw[List.eq_nil_of_length_eq_zero h];rfl) hn
   ·exact h
  have e8:=s14 _ _ e8;have e9:=s14 _ _ e9;have s014:=s09.trans s14;generalize upd H9 le (.lst [])=H14 at e8 e9 s014 |-;have d0 : 0<=n / 32768 % (((nn.map V.str).length:Nat):Int):=emod_nonneg _ (by rw[aA];omega)
  have d1:n / 32768 % (((nn.map V.str).length:Nat):Int)<(((nn.map V.str).length:Nat):Int):=emod_lt_of_pos _ (by rw[aA];omega)
  obtain⟨j,hj⟩:=eq_ofNat_of_zero_le d0;rw[aA] at d1;have hjl:j<nn.length:=by rw[aA] at hj;omega
  exists _,rfl,.inl ⟨rfl,_,zh e8⟩,_,rfl,_,_,rfl,rfl,⟨⋯,⋯⟩,_,rfl,ln,_,rfl,.inl (zh e8),_,_,rfl,rfl,(by rw[aA];show(0:Int)<_;omega),ln,_,_,j,.str nn[j],rfl,rfl,e8,(by rw[hj];omega),(by rw[hj];omega),(by rw[hj];exact zjh (by rw[aA];exact hjl)),by rw[getElem?_map,aB hjl];rfl,?_
  have em:(nn.map V.str).eraseIdx j=(nn.eraseIdx j).map V.str:=by rw[List.eraseIdx_eq_take_drop_succ,List.eraseIdx_eq_take_drop_succ,aE,map_take,map_drop]
  rw[em];exact key _ _ ⟨nn.eraseIdx j,rfl,yy s014 nln _,za,by rw[zj nlsp.symm];exact e9,le_trans (List.length_eraseIdx_le ..) l8⟩
 rintro σ H14 ⟨nn,rfl,s014,g10,g13,l10⟩;refine zE (zS (xy (xr (zw yY (pv 11) (zP (ac zf (ac zf (ac zf zc)))) (by with_unfolding_all rfl)) (y9 (zw (zgP hU0) (pv 10) (zP zc) (zM _))))) (zg (zx (i:=9) wN.nd rfl (Or.inl rfl) (zo yr (pv 9) (zP (ac (zV yO (pv 10) (zo zR (zo z8 (pv 3) zf) (cB zO U.len PySem.boot_len (ac (pv 10) zc))) (fun _ _=>rfl)) zc))))) zI) ?_
 refine xj (fun σ' H'=>∃(ln:Addr) (nn:List Str),σ'=[~~~la,~~~lt,some (.int (many:Nat)),some (.int n),~~~pa,~~~D3,some (.int (most:Nat)),some (.int (more:Nat)),~~~D5,~~~ln,~~~lsp,some (.int way)]/\zq H H'/\H ln=none/\H' ln=some (.lst (nn.map V.str))/\nn.length<=49) ?_ (fun key=>?_);rotate_left
 ·exists _,rfl,jx,fun lw hlw=>?_
  have s15:=ze hlw (.lst [.int 1,.int 2,.int 3]);exists lw,_,rfl,.inl (zh za),rfl,rfl,_,rfl,?_;have g10:=s15 _ _ g10;have g13:=s15 _ _ g13;have s015:=s014.trans s15;generalize upd H14 lw (.lst [.int 1,.int 2,.int 3])=H15 at s15 g10 g13 s015 |-;refine wf (fun _=>?_) (fun _=>?_);rotate_left
  ·exact key _ _ ⟨ln,nn,rfl,s015,nln,g10,le_succ_of_le l10⟩
  exists _,rfl,xS,fun le hle=>?_;have s16:=ze hle (.lst []);exists lsp,le,_,rfl,rfl,s16 _ _ g13,za,_,rfl,?_;by_cases hn:sp.map V.str=[]
  ·refine jI (by rw[aC hn];rfl) ?_
   exact key _ _ ⟨ln,nn,rfl,s015.trans s16,nln,s16 _ _ g10,le_succ_of_le l10⟩
  refine jJ (by rw[aD hn];rfl) ?_
  have z0 : 0<sp.length:=by
   rcases Nat.eq_zero_or_pos sp.length with h|h
   ·exact absurd (by rw[List.eq_nil_of_length_eq_zero h];rfl) hn
   ·exact h
  have g10:=s16 _ _ g10;have g13:=s16 _ _ g13;have s016:=s015.trans s16;generalize upd H15 le (.lst [])=H16 at s16 g10 g13 s016 |-;obtain⟨z,hz,hat⟩:=ju (n / 32768) z0;exists _,rfl,_,rfl,_,rfl,_,_,rfl,rfl,⟨⋯,⋯⟩,_,rfl,lsp,_,rfl,.inl (zh g13),_,_,rfl,rfl,(by rw[aA];show(0:Int)<_;omega),lsp,_,_,.str z,rfl,rfl,zh g13,hat,jy,fun l17 hl17=>?_
  have s17:=ze hl17 (.lst [.str z]);exists ln,l17,_,_,rfl,rfl,s17 _ _ g10,za,yg (by rw[aA];show _+1<=_;omega),fun l18 hl18=>?_
  have s18:=ze hl18 (.lst (nn.map V.str++[.str z]));exact key _ _ ⟨l18,nn++[z],rfl,s016.trans (s17.trans s18),(s016.trans s17).free hl18,by rw[za,aE];rfl,by rw[aG];exact succ_le_succ l10⟩
 rintro σ H15 ⟨ln,nn,rfl,s015,nln,g10,l10⟩;refine zE (zS (zw yY (pv 11) (zP (ac zf (ac zf zc))) (by with_unfolding_all rfl)) (zg (zx (i:=9) wN.nd rfl (Or.inl rfl) (zo yr (pv 9) (zP (ac (zV yO (zo yr (pv 4) (zP (ac zy (ac zy zc)))) (zo zR (zo z8 (pv 3) zf) (zo yF (cB zO U.len PySem.boot_len (ac (pv 4) zc)) zf)) (fun _ _=>rfl)) zc))))) zI) ?_
 refine xj (fun σ' H'=>∃(ln:Addr) (nn:List Str),σ'=[~~~la,~~~lt,some (.int (many:Nat)),some (.int n),~~~pa,~~~D3,some (.int (most:Nat)),some (.int (more:Nat)),~~~D5,~~~ln,~~~lsp,some (.int way)]/\zq H H'/\H ln=none/\H' ln=some (.lst (nn.map V.str))/\nn.length<=50) ?_ (fun key=>?_);rotate_left
 ·exists _,rfl,yA,fun lw hlw=>?_
  have s18:=ze hlw (.lst [.int 3,.int 4]);exists lw,_,rfl,.inl (zh za),rfl,rfl,_,rfl,?_;have g10:=s18 _ _ g10;have s018:=s015.trans s18;generalize upd H15 lw (.lst [.int 3,.int 4])=H18 at s18 g10 s018 |-;refine wf (fun _=>?_) (fun _=>?_);rotate_left
  ·exact key _ _ ⟨ln,nn,rfl,s018,nln,g10,le_succ_of_le l10⟩
  exists _,rfl,_,rfl,yA,fun l16 hl16=>?_;have s16:=ze hl16 (.lst [.str "strange",.str "qq"]);exists pa,l16,_,_,rfl,rfl,(s018.trans s16) _ _ hpa,za,yg (by rw[aA];show _+2<=_;omega),fun l17 hl17=>?_
  have s17:=ze hl17 (.lst (zs.map V.str++[.str "strange",.str "qq"]));have g17:upd (upd H18 l16 (.lst [.str "strange",.str "qq"])) l17 (.lst (zs.map V.str++[.str "strange",.str "qq"])) l17=some (.lst ((zs++[Str.ofString "strange",Str.ofString "qq"]).map V.str)):=by rw[za,aE];rfl
  have s1617:=s16.trans s17;have s017:=s018.trans s1617;have g10:=s1617 _ _ g10;generalize upd (upd H18 l16 (.lst [.str "strange",.str "qq"])) l17 (.lst (zs.map V.str++[.str "strange",.str "qq"]))=H17 at g17 s017 g10 |-;obtain⟨z,hz,hat⟩:=ju (zs:=zs++[Str.ofString "strange",Str.ofString "qq"]) (n / 32768) (by rw[aG];exact succ_pos _)
  have elz:((((zs++[Str.ofString "strange",Str.ofString "qq"]).map V.str).length:Nat):Int)=(((zs.map V.str).length:Nat):Int)+2:=by rw[aA,aA,aG];rfl
  rw[elz] at hat;exists _,rfl,_,_,rfl,rfl,⟨⋯,⋯⟩,_,rfl,pa,_,rfl,.inl (zh (s017 _ _ hpa)),_,_,rfl,rfl,_,_,rfl,rfl,(by show(0:Int)<_+2;omega),l17,_,_,.str z,rfl,rfl,zh g17,hat,jy,fun l19 hl19=>?_
  have s19:=ze hl19 (.lst [.str z]);exists ln,l19,_,_,rfl,rfl,s19 _ _ g10,za,yg (by rw[aA];show _+1<=_;omega),fun l20 hl20=>?_
  have s20:=ze hl20 (.lst (nn.map V.str++[.str z]));exact key _ _ ⟨l20,nn++[z],rfl,s017.trans (s19.trans s20),(s017.trans s19).free hl20,by rw[za,aE];rfl,by rw[aG];exact succ_le_succ l10⟩
 rintro σ H18 ⟨ln,nn,rfl,s018,nln,g10,l10⟩;exists _,zg (zA (zT (ac (pv 7) (ac (pv 9) zc)))),?_;exists _,rfl,_,rfl,yA,fun t ht=>?_;have s19:=ze ht (.tup [.int (more:Nat),.ref ln]);exact q t ln more nn _ (s018.trans s19) nln ⟨za,s19 _ _ g10,lmore,∅⟩
theorem zan{X:Cx}{K:Frag}(e:X.K=K):xQ X (.builtin "len") (fun xs H Q=>∃p ys,xs=[V.ref p]/\(SqL K H p ys\/SqT K H p ys)/\Q (.int ys.length) H):=by subst e;exact zO
inductive zfU(vs:List V)(H:Hp)(Q:VK)(E:XK):Prop|mk(c:Int):vs=[.int c]->(∀n:Int,Q (.int n) H)->zfU vs H Q E
inductive zd0(vs:List V)(H:Hp)(Q:VK)(E:XK):Prop|mk(pa:Addr)(c:Int)(zs:List Str):vs=[.int c,.ref pa]->H pa=some (.lst (zs.map V.str))->PL zs->(ShQ H Q)->zd0 vs H Q E
inductive zbN(vs:List V)(H:Hp)(Q:VK)(E:XK):Prop|mk(ca la lt pa:Addr)(cs:List Int)(us:List Addr)(rows:List Rw)(many:Nat)(told zs:List Str)(b:Bool):vs=[.ref ca,.ref la,.ref lt,.int (many:Nat),.ref pa,.bl b]->H ca=some (.lst (cs.map V.int))->cs.length<=63->H la=some (.lst (us.map V.ref))->Paired (TAt H) us rows->VR rows->H lt=some (.lst (told.map V.str))->H pa=some (.lst (zs.map V.str))->PL zs->(∀(l:Addr) (ws:List Addr) (H':Hp),zq H H'->H' l=some (.lst (ws.map V.ref))->ws.length<=63->ShL H' ws->Q (.ref l) H')->zbN vs H Q E
structure GS(H0 H:Hp)(lf:Addr)(us:List Addr):Prop where
 sm:zq H0 H
 hl:H lf=some (.lst (us.map V.ref))
 at_:∀u∈us,∃(l:Addr) (m:Nat) (ns:List Str),SA H u l m ns/\l≠lf
theorem GS.same{H0 H H':Hp}{lf:Addr}{us:List Addr}(h:GS H0 H lf us)(s:zq H H'):GS H0 H' lf us:=⟨h.sm.trans s,s _ _ h.hl,fun u hu=>let ⟨l,m,ns,a,b⟩:=h.at_ u hu;⟨l,m,ns,a.same s,b⟩⟩
theorem GS.add{H0 H H':Hp}{lf t l:Addr}{us:List Addr}{m:Nat}{ns:List Str}(h:GS H0 H lf us)(nl:H0 lf=none)(s:zq H H')(n:H l=none)(a:SA H' t l m ns):GS H0 (upd H' lf (.lst (us.map V.ref++[.ref t]))) lf (us++[t]):=by
 have h':=h.same s;have put:∀{u l:Addr}{m:Nat}{ns:List Str},SA H' u l m ns->l≠lf->SA (upd H' lf (.lst (us.map V.ref++[.ref t]))) u l m ns:=fun {u l m ns} a hl=>⟨by rw[zj (fun e=>by have:=a.ht;rw[e,h'.hl] at this;cases this)];exact a.ht,by rw[zj hl];exact a.hl,a.lm,a.ln⟩
 exists yy h'.sm nl _,by rw[za,aE];rfl,fun u hu=>?_
 rcases List.mem_append.mp hu with hu|hu
 ·obtain⟨l,m,ns,a,b⟩:=h'.at_ u hu
  exact⟨l,m,ns,put a b,b⟩
 ·rw[List.mem_singleton.mp hu]
  have:l≠lf:=fun e=>by rw[e,h.hl] at n;cases n
  exact⟨l,m,ns,put a this,this⟩
theorem zni:([Str.ofString "_law_digit",Str.ofString "_law_some"]:List Str).Nodup:=by decide +kernel
theorem zba:zv ["_law_cell","_law_pool_here","_law_some","_law_names"] ["_law_cell","_law_pool_here"] (zk zc3):=fsc
theorem zhj{P:Program}{w:World}{base:Heap}{fd:FuncData}{g1:Addr}{e1:FuncData}(F:Fun K "_law_free_shape" "_law_free_shape" zc3 f fd)(hln:mg "len"=none)(cD:⇑2 "_law_digits" g1 e1 ["_law_cell","_law_most","_law_base"] vS):↥3 f fd ["_law_cell","_law_pool_here"] zd0:=by
 specialize zba;obtain⟨pa,c,zs,rfl,hpa,pz,q⟩:=h;have pl:=pz.le;refine zE (zx (i:=2) zba.nd rfl (Or.inr rfl) (zo yr (pv 1) (zP (ac zy (ac zy zc))))) ?_;exists _,rfl,yA,fun l1 hl1=>?_;have s1:=ze hl1 (.lst [.str "strange",.str "zz"]);exists pa,l1,_,_,rfl,rfl,s1 _ _ hpa,za,yg (by rw[aA];show _+2<=_;omega),fun l2 hl2=>?_
 have s2:=ze hl2 (.lst (zs.map V.str++[.str "strange",.str "zz"]));have g2:upd (upd H l1 (.lst [.str "strange",.str "zz"])) l2 (.lst (zs.map V.str++[.str "strange",.str "zz"])) l2=some (.lst ((zs++[Str.ofString "strange",Str.ofString "zz"]).map V.str)):=by rw[za,aE];rfl
 have s02:=s1.trans s2;generalize upd (upd H l1 (.lst [.str "strange",.str "zz"])) l2 (.lst (zs.map V.str++[.str "strange",.str "zz"]))=H2 at g2 s02 |-;have ys0 : 0<(zs++[Str.ofString "strange",Str.ofString "zz"]).length:=by rw[aG];exact succ_pos _
 generalize zs++[Str.ofString "strange",Str.ofString "zz"]=ys at g2 ys0;exfalso;refine zE (wO (i:=3) ["_law_some"] ["_law_digit","_law_some"] [none,some 2] zba.nd rfl (Or.inl rfl) rfl ⟨rfl,rfl,rfl,rfl⟩ (z7 (cF cD hr (ac (zo z8 (pv 0) zf) (ac zf (ac zf zc))))) (ya 0) rfl rfl rfl
  (fun pins fp s H C=>⟨zr (i:=0) zni rfl (Or.inl rfl) (.inr rfl),yV,zV (r:=zl8 K) yO (pv 1) (zo zR (pv 0) (cB (zan (K:=K) rfl) hln PySem.boot_len (ac (pv 1) zc))) (fun _ _=>rfl)⟩)) ?_
 exists _,rfl,_,_,rfl,rfl,⟨⋯,⋯⟩,_,12,28,rfl,⋯,⋯,⋯,fun ld ds H3 s3 nld hld lds=>?_
 exists ld,rfl,⟨_,zh hld⟩,fun D hD=>?_;have g3:=s3 _ _ g2;refine xx (K:=K) (xs:=ds.map V.int) (fun i xs H'=>zq H3 H'/\H' D=some (.lst xs)/\∃cs:List Str,xs=cs.map V.str/\cs.length=i) ⟨ze hD _,za,[],rfl,rfl⟩ (fun i xs H' h=>h.1.seq (zh hld)) ?_ ?_
 ·rintro i x xs H' hi hx ⟨sH,hDy,cs,ey,el⟩
  obtain⟨k,hk,rfl⟩:=wU hx;rw[aA] at hi;obtain⟨z,hz,hat⟩:=ju (zs:=ys) k ys0;have g4:=sH _ _ g3;exists fun _=>⟨_,rfl,_,rfl,_,rfl,l2,_,rfl,.inl (zh g4),_,_,rfl,rfl,(by rw[aA];show(0:Int)<_;omega),l2,_,_,.str z,rfl,rfl,zh g4,hat,?_⟩,fun z=>absurd z ⋯
  exact lcN.mk (by rw[aA];exact hi) (by rw[aA];exact yg ∅) hDy (by rw[ey,aA];omega) ⟨yy sH hD _,za,cs++[z],by rw[ey,aE];rfl,by rw[aG,el];rfl⟩
 ·rintro xs H4 ⟨sH,hDy,cs,ey,el⟩
  rw[aA] at el;exfalso;exists _,zg (zA (zT (ac (zo zR (pv 0) zf) (ac (pv 3) zc)))),?_;have n0 : 0<=c % 24:=emod_nonneg _ ⋯
  have n1:c % 24<24:=emod_lt_of_pos _ ⋯
  obtain⟨m,em⟩:=eq_ofNat_of_zero_le n0;exists _,rfl,_,_,rfl,rfl,(by show(0:Int)<24;decide),_,rfl,yA,fun t ht=>?_
  rw[em];have s5:=ze ht (.tup [.int (m:Nat),.ref D]);exact q t D m cs _ (s02.trans (s3.trans (sH.trans s5))) (s02.free (s3.free hD)) ⟨za,s5 _ _ (by rw[hDy,ey]),∅,∅⟩
theorem zku:zv ["_law_cell"] ["_law_cell"] (zk zgh):=fsc
theorem zi3{P:Program}{w:World}{base:Heap}{fd:FuncData}{g1:Addr}{e1:FuncData}(F:Fun K "_law_load" "_law_load" zgh f fd)(cS:⇑1 "_law_strewn" g1 e1 ["_law_cell","_law_k"] qk):↥2 f fd ["_law_cell"] zfU:=by
 specialize zku;obtain⟨c,rfl,q⟩:=h;refine zE (zS (xy (xr (zw zgQ zf (pv 0) (zM _)) (y9 (zw vX (pv 0) (zo jC zf zf) (zM _))))) (zg (zA (cF cS hr (ac (pv 0) (ac zf zc))))) zI) ?_;refine xj (fun σ' H'=>σ'=[some (.int c)]/\H'=H) ?_ (fun key=>?_);rotate_left
 ·exists _,rfl,_,_,rfl,rfl,_,rfl,?_
  refine wf (fun _=>?_) (fun _=>?_);rotate_left
  ·exact key _ _ ⟨rfl,rfl⟩
  exists _,rfl,_,_,rfl,rfl,⟨⋯,⋯,⋯⟩,_,_,rfl,rfl,_,rfl,?_
  refine wf (fun _=>?_) (fun _=>?_);rotate_left
  ·exact key _ _ ⟨rfl,rfl⟩
  exact⟨_,rfl,c,9,rfl,q⟩
 rintro σ _ ⟨rfl,rfl⟩;exact⟨_,zg (zA (zo z8 (pv 0) zf)),_,rfl,_,_,rfl,rfl,⟨⋯,⋯⟩,q _⟩
theorem jd:zv ["_law_cells","_law_row_here","_law_told","_law_many","_law_pool_here","_law_free","_law_shapes_here","_law_k","_law_cell"] ["_law_cells","_law_row_here","_law_told","_law_many","_law_pool_here","_law_free"] (zk zbc):=fsc
theorem ze4{P:Program}{w:World}{base:Heap}{fd:FuncData}{f2 f3 f4 f5:Addr}{e2 e3 e4 e5:FuncData}(F:Fun K "_law_shapes" "_law_shapes" zbc f fd)(hen:mg "enumerate"=none)(cSt:⇑1 "_law_stirred" f2 e2 ["_law_cell","_law_k"] za0)(cFu:⇑1 "_law_further" f3 e3 ["_law_row_here","_law_told","_law_many","_law_number","_law_pool_here"] zfX)
  (cFr:⇑3 "_law_free_shape" f4 e4 ["_law_cell","_law_pool_here"] zd0) (cL:⇑2 "_law_load" f5 e5 ["_law_cell"] zfU):↥4 f fd ["_law_cells","_law_row_here","_law_told","_law_many","_law_pool_here","_law_free"] zbN:=by
 specialize jd;obtain⟨ca,la,lt,pa,cs,us,rows,many,told,zs,b,rfl,hc,l63,hla,hu,V1,hlt,hpa,pz,q⟩:=h;have hr1:yl 1 _:=hr.mono ⋯
 have hr2:yl 2 _:=hr.mono ⋯
 have hr3:yl 3 _:=hr.mono ⋯
 have pl:zs.length<=26:=pz.le;refine jd[6]'(zP zc);exists xS,fun lf hlf=>?_;have G1:GS H (upd H lf (.lst [])) lf []:=⟨ze hlf _,za,fun _ h=>nomatch h⟩;have hc1:upd H lf (.lst []) ca=some (.lst (cs.map V.int)):=G1.sm _ _ hc;have nca:ca≠lf:=zi hc hlf;generalize upd H lf (.lst [])=H1 at G1 hc1 |-;exfalso;refine zE (yS PassesOwn.never rfl (wc rfl hen (ac (pv 0) zc)) (yB rfl (zB (zr (i:=7) jd.nd rfl (Or.inl rfl)) (zB (zr (i:=8) jd.nd rfl (Or.inl rfl)) yi))) wp) ?_;exists _,rfl,ca,rfl,⟨_,zh hc1⟩,wx (K:=K) (a:=ca) (xs:=cs.map V.int) (fun i σ H'=>∃(ws:List Addr) (v7 v8:Option V),σ=[~~~ca,~~~la,~~~lt,some (.int (many:Nat)),~~~pa,some (.bl b),~~~lf,v7,v8]/\GS H H' lf ws/\ws.length<=i/\H' ca=some (.lst (cs.map V.int))) ⟨[],_,_,rfl,G1,zero_le _,hc1⟩ (fun i σ H' _ ⟨_,_,_,_,_,_,e⟩=>zh e) ?_ ?_
 ·rintro i x p σ H4 hx ⟨ws,v7,v8,rfl,G4,lu,hc4⟩ hpn
  obtain⟨n,hn,rfl⟩:=wU hx;have hi:i<cs.length:=(List.getElem?_eq_some_iff.mp hn).1;have sp:=ze hpn (.tup [.int (i:Nat),.int n]);exists p,_,rfl,zF za,rfl,_,_,rfl,_,_,rfl,rfl,?_;have G5:=G4.same sp;have hc5:=sp _ _ hc4;generalize upd H4 p (.tup [.int (i:Nat),.int n])=H5 at sp G5 hc5 |-;exfalso;have fin:∀(tt l:Addr) (m:Nat) (nn:List Str) (H7:Hp),zq H5 H7->H5 l=none->SA H7 tt l m nn->GS H (upd H7 lf (.lst (ws.map V.ref++[.ref tt]))) lf (ws++[tt])/\(ws++[tt]).length<=i+1/\upd H7 lf (.lst (ws.map V.ref++[.ref tt])) ca=some (.lst (cs.map V.int)):=fun tt l m nn H7 s7 nl a7=>
   ⟨G5.add hlf s7 nl a7,by rw[aG];exact succ_le_succ lu,by rw[zj nca];exact s7 _ _ hc5⟩
  refine⟨_,zg (zS (vA (y7 (pv 5)))
   (zg (zW (xh PySem.F.plainAttrs_list PySem.F.slot_list_append PySem.F.type_list_append z9 (pv 6) (ac (cF cFu hr1 (ac (pv 1) (ac (pv 2) (ac (pv 3) (ac (cF cSt hr1 (ac (pv 8) (ac (zo yF (pv 7) zf) zc))) (ac (pv 4) zc)))))) zc))))
   (zg (zS (zw yK (zo zR (pv 8) zf) zf (zM _))
    (zg (zW (xh PySem.F.plainAttrs_list PySem.F.slot_list_append PySem.F.type_list_append z9 (pv 6) (ac (cF cFu hr1 (ac (pv 1) (ac (pv 2) (ac (pv 3) (ac (cF cL hr2 (ac (pv 8) zc)) (ac (pv 4) zc)))))) zc))))
    (zg (zW (xh PySem.F.plainAttrs_list PySem.F.slot_list_append PySem.F.type_list_append z9 (pv 6) (ac (cF cFr hr3 (ac (zo z8 (pv 8) zf) (ac (pv 4) zc))) zc))))))),?_⟩
  exists _,rfl,_,rfl,?_;refine wf (fun _=>?_) (fun _=>?_)
  ·exists _,rfl,.inl ⟨rfl,_,zh G5.hl⟩,_,rfl,_,rfl,_,rfl,_,rfl,_,rfl,_,_,rfl,rfl,n,_,rfl,?_
   generalize zav n _=mm;exists _,rfl,?_;exists la,lt,pa,us,rows,many,mm,told,zs,rfl,G5.sm _ _ hla,zL G5.sm hu,V1,G5.sm _ _ hlt,G5.sm _ _ hpa,pl,fun tt l m nn H7 s7 nl a7=>?_;obtain⟨f1,f2,f3⟩:=fin tt l m nn H7 s7 nl a7;exact⟨lf,_,_,rfl,rfl,(G5.same s7).hl,zY (by rw[aA];omega),ws++[tt],_,_,rfl,f1,f2,f3⟩
  ·exists _,rfl,_,_,rfl,rfl,zp2,rfl,_,rfl,?_
   refine wf (fun _=>?_) (fun _=>?_)
   ·exists _,rfl,.inl ⟨rfl,_,zh G5.hl⟩,_,rfl,_,rfl,_,rfl,_,rfl,n,rfl,fun mm=>?_
    exists _,rfl,?_;exists la,lt,pa,us,rows,many,mm,told,zs,rfl,G5.sm _ _ hla,zL G5.sm hu,V1,G5.sm _ _ hlt,G5.sm _ _ hpa,pl,fun tt l m nn H7 s7 nl a7=>?_;obtain⟨f1,f2,f3⟩:=fin tt l m nn H7 s7 nl a7;exact⟨lf,_,_,rfl,rfl,(G5.same s7).hl,zY (by rw[aA];omega),ws++[tt],_,_,rfl,f1,f2,f3⟩
   ·exists _,rfl,.inl ⟨rfl,_,zh G5.hl⟩,_,rfl,_,_,rfl,rfl,⟨⋯,⋯⟩,_,rfl,?_
    exists pa,_,zs,rfl,G5.sm _ _ hpa,pz,fun tt l m nn H7 s7 nl a7=>?_;obtain⟨f1,f2,f3⟩:=fin tt l m nn H7 s7 nl a7;exact⟨lf,_,_,rfl,rfl,(G5.same s7).hl,zY (by rw[aA];omega),ws++[tt],_,_,rfl,f1,f2,f3⟩
 ·rintro σ H4 ⟨ws,v7,v8,rfl,G4,lu,_⟩
  rw[aA] at lu;exists _,zg (zA (pv 6)),?_;exact⟨_,rfl,q lf ws H4 G4.sm G4.hl ∅ (fun u hu=>let ⟨l,m,ns,a,_⟩:=G4.at_ u hu;⟨l,m,ns,a⟩)⟩
end
end K64
namespace L2
open PySem PyProof.Rows
theorem yb.at2{xs:List V}{us:List Value}(r:yb xs us):∀k:Nat,(xs[k]?=none/\us[k]?=none)\/∃x u,xs[k]?=some x/\us[k]?=some u/\yf x u:=by
 induction r with
 | nil=>exact fun k=>.inl ⟨rfl,rfl⟩
 | cons h t ih=>
  intro k;cases k with
  | zero=>exact .inr ⟨_,_,rfl,rfl,h⟩
  | succ k=>exact ih k
theorem yb.picked{xs:List V}{us:List Value}(r:yb xs us):∀ks:List Nat,yb (ks.filterMap (xs[·]?)) (ks.filterMap (us[·]?)):=by
 intro ks;induction ks with
 | nil=>exact .nil
 | cons k ks ih=>
  rcases r.at2 k with ⟨a,b⟩|⟨x,u,a,b,h⟩
  ·rw[List.filterMap_cons_none a,List.filterMap_cons_none b];exact ih
  ·rw[List.filterMap_cons_some a,List.filterMap_cons_some b];exact .cons h ih
inductive zmKJ(K:Frag)(Q:VK)(x:V)(y:V)(H4:Hp):Prop|mk(k a xs:_):y=.int k->k≠0->x=.ref a->SqL K H4 a xs->(∀p (ks:List Nat),H4 p=none->(ks.filterMap (xs[·]?)).length<=xs.length->Q (.ref p) (upd H4 p (.lst (ks.filterMap (xs[·]?)))))->zmKJ K Q x y H4
def zmK(K:Frag)(te:TE)(tl th:TO)(ts:TE):TE:=fun σ H Q=>te σ H fun x H1=>tl σ H1 fun l H2=>th σ H2 fun u H3=>ts σ H3 fun y H4=>zmKJ K Q x y H4
theorem zeX{X:Cx}{e st:Expr}{lo hi:Option Expr}{p2 pos:Pos}{te ts:TE}{tl th:TO}(he:PE X e te)(hl:PO X lo tl)(hu:PO X hi th)(hs:PE X st ts):PE X (.Subscript e (.Slice lo hi (some st) p2) pos) (zmK X.K te tl th ts):=by
 and_intros;refine Subscript_ (thn (he pins s σ H _ I h) fun v s1 ⟨x,H1,I1,r1,q1⟩=>?_);refine wpAny_Slice (thn (hl pins s1 σ H1 _ I1 q1) fun vl s2 ⟨l,H2,I2,pl,q2⟩=>thn (hu pins s2 σ H2 _ I2 q2) fun vu s3 ⟨u,H3,I3,pu,q3⟩=>?_);rw[evalPart_some];refine thn (hs pins s3 σ H3 _ I3 q3) fun vs s4 ⟨y,H4,I4,r4,k,a,xs,ey,k0,ex,hx,q4⟩=>?_;subst ey ex;obtain⟨t,rfl⟩:=r4;cases r1;have I5:Inv X pins σ H4 { s4 with heap:=s4.heap.push { cls:=.type "slice",data:=.fields #[vl,vu,.int k t] } }:=I4.kept (t':=s4.toks) fun b ob q=>zgp _ q
 obtain⟨its,r,ht,hz⟩:=I5.list hx;have hlen:=r.length;refine tail_any (ops:=[.ref a,.ref s4.heap.objs.size]) ht.isList.typeIs slot_list_getitem.lookup ?_ (by with_unfolding_all rfl)
 refine wpAny_getItem_list_slice (st:=some k) ht.isList (Heap.IsSliceOf.new ..) pl pu (.int k t) (fun e=>k0 (Option.some.inj e)) ?_ (by rw[size_toArray];omega)
 have hsz:=slicePick_size_le its.toArray l u (some k);unfold slicePick at hsz |-;rw[size_toArray,size_toArray] at hsz;generalize sliceRange (sliceBounds l u (some k) its.toArray.size).1 (sliceBounds l u (some k) its.toArray.size).2.1 (sliceBounds l u (some k) its.toArray.size).2.2=ks at hsz;have e:ks.filterMap (its.toArray[·]?)=ks.filterMap (its[·]?):=by simp only[List.getElem?_toArray]
 rw[e] at hsz |-;have lk:=(r.picked ks).length;exists .ref _,_,I5.laid (t':=s4.toks) (o:=.lst (ks.filterMap (xs[·]?))) (fun b ob q=>zgp _ q) (le_refl _) ?_,rfl,q4 _ ks (I5.hok.fresh (le_refl _)) ∅
 exact⟨by show(ks.filterMap (xs[·]?)).length<=_;omega,_,0,r.picked ks,zgs _ rfl⟩
theorem zb1(ns:List Int)(ks:List Nat):∃cs:List Int,ks.filterMap ((ns.map V.int)[·]?)=cs.map V.int:=by
 induction ks with
 | nil=>exact⟨[],rfl⟩
 | cons k ks ih=>
  obtain⟨cs,e⟩:=ih;cases h:ns[k]? with
  | none=>exact⟨cs,by rw[List.filterMap_cons_none (by rw[getElem?_map,h];rfl),e]⟩
  | some n=>exact⟨n::cs,by rw[List.filterMap_cons_some (b:=.int n) (by rw[getElem?_map,h];rfl),e];rfl⟩
end L2
namespace K64
open PySem L2 PyProof.Rows
section
variable {K:Frag}{mg:Str->Option Value}{f CF:Addr}{c:C5}{m:MA}
theorem zkx:zv ["form","call"] ["form","call"] (zk zgo):=fsc
theorem zjb{P:Program}{w:World}{base:Heap}{fd:FuncData}{g1:Addr}{d1:FuncData}(F:Fun K "fits" "fits" zgo f fd)(c1:⇑5 "misfits" g1 d1 ["form","call"] (zdT K c CF)):↥6 f fd ["form","call"] (zfY K c CF):=by
 specialize zkx;obtain⟨f,a,rows,bars,ct,rfl,hF,hC,q⟩:=h;have hU:=hr.units;have hU0:=hr.units0;exists _,zg (zA (vB (OpR.or (zgU hU) (zb6 hU0)) (cF c1 hr (ac (pv 0) (ac (pv 1) zc))) (zP zc) (zM _))),?_;exists _,rfl,_,rfl,f,a,rows,bars,ct,rfl,hF,hC,fun l H1 s1 ⟨us,nl,el,ml⟩=>?_;exists xS,fun l2 hl2=>?_;have s2:=ze hl2 (.lst []);have lu:=ml.length;cases e:xa rows bars ct with
 | nil=>
  rw[e] at ml;cases ml;refine .inl ⟨l,l2,0,.lst [],fun _=>True,fun _=>True,rfl,rfl,⋯,zJ.lst True.intro (s2 _ _ el) .nil,zJ.lst True.intro za .nil,?_⟩
  have:=q _ (s1.trans s2)
  rw[e] at this;exact this
 | cons x xs=>
  refine .inr ⟨l,l2,_,_,rfl,rfl,s2 _ _ el,za,(by rw[aA,lu,e];exact Nat.succ_ne_zero _),?_⟩
  have:=q _ (s1.trans s2)
  rw[e] at this;exact this
theorem xI(a b:List ym):zC (a++b)=zC a++zC b:=by unfold zC;rw[aE,flatten_append]
theorem xJ(a b:List ym):zG (a++b)=zG a++zG b:=by unfold zG;rw[aE,flatten_append]
theorem zij{a b:List ym}(h:a.Sublist b):(zC a).length<=(zC b).length/\(zG a).length<=(zG b).length:=by
 induction h with
 | slnil=>exact⟨le_refl _,le_refl _⟩
 | @cons l1 l2 x _ ih=>
  have e1:=congrArg List.length (xI [x] l2);have e2:=congrArg List.length (xJ [x] l2);rw[aG] at e1 e2;show _<=(zC ([x]++l2)).length/\_<=(zG ([x]++l2)).length;omega
 | @cons_cons l1 l2 x _ ih=>
  have e1:=congrArg List.length (xI [x] l2);have e2:=congrArg List.length (xJ [x] l2);have e3:=congrArg List.length (xI [x] l1);have e4:=congrArg List.length (xJ [x] l1);rw[aG] at e1 e2 e3 e4;show(zC ([x]++l1)).length<=(zC ([x]++l2)).length/\(zG ([x]++l1)).length<=(zG ([x]++l2)).length;omega
theorem zmA{kt kept ct:List ym}(h:kt.Sublist (kept++ct)):(kt.drop kept.length).Sublist ct:=by
 have:=h.drop kept.length
 rwa [drop_left] at this
def zgX(ts:List Int)(ps:List (Str×Int)):List ym:=[.row (ts.take 30),.row (ts.drop 30),.book ps]
theorem zgV(ts:List Int)(ps:List (Str×Int)):zC (zgX ts ps)=ts:=by
 show(ts.take 30)++((ts.drop 30)++([]++[]))=ts;rw[append_nil,append_nil,take_append_drop]
theorem zgW(ts:List Int)(ps:List (Str×Int)):zG (zgX ts ps)=ps:=by
 show[]++([]++(ps++[]))=ps;rw[append_nil];rfl
def znp:Option (Str×Nat)->Dt
 | none=>.tup [.non,.str "part"]
 | some m=>.tup [.int (m.2:Nat),.str m.1]
theorem zdA.says{K:Frag}{H:Hp}{t:Addr}{o:Option (Str×Nat)}(h:zdA H t o):zJ K T' H 2 (.ref t) (znp o):=by
 cases o with
 | none=>exact zJ.tup (zF h) (.cons zJ.non (.cons zJ.str .nil))
 | some m=>exact zJ.tup (zF h) (.cons zJ.int (.cons zJ.str .nil))
theorem zcA.refl:∀o,zcA o o
 | none=>True.intro
 | some _=>⟨rfl,fun _=>Iff.rfl⟩
theorem zb3{K:Frag}{ok ok':Addr->Prop}{H3:Hp}:∀{ps:List (Str×Int)}{zs:List V},Paired (zJ K ok H3 1) zs (ps.map yT)->Paired (zJ K ok' H3 1) zs (ps.map yT)
 | [],_,r=>by cases r;exact .nil
 | p::ps,_,r=>by
  cases r with
  | cons h r=>
   refine .cons ?_ (zb3 r);obtain⟨b,ws,rfl,hS',r'⟩:=wb h;exact .tup hS' (zu (fun _ _ z=>z) r')
structure zjK(mg:Str->Option Value):Prop where
 isi:mg "isinstance"=none
 list:mg "list"=none
 tuple:mg "tuple"=none
 range:mg "range"=none
 len:mg "len"=none
 enum:mg "enumerate"=none
inductive zfW(K:Frag)(vs:List V)(H:Hp)(Q:VK)(E:XK):Prop|mk(n:Int)(pa:Addr)(zs:List Str):vs=[.int n,.ref pa]->H pa=some (.lst (zs.map V.str))->PL zs->(∀(x:Addr) (it:ym) (H':Hp),zq H H'->zJ K (fun b=>H b=none) H' 3 (.ref x) (yj it)->(itT it).length<=3->(itP it).length<=3->Q (.ref x) H')->zfW K vs H Q E
theorem zeF{xs:List V}{i:Int}:∃k:Nat,wg xs none (some (i % 4))=xs.take k/\k<=3:=by
 have d0 : 0<=i % 4:=emod_nonneg _ ⋯
 have d1:i % 4<4:=emod_lt_of_pos _ ⋯
 obtain⟨k,hk⟩:=eq_ofNat_of_zero_le d0;exact⟨k,by rw[hk];exact xZ,∅⟩
variable {cl:Nat->Addr}
theorem uQ:zv ["_law_number","_law_pool_here","_law_rest","_law_names","_law_j","_law_thing"] ["_law_number","_law_pool_here"] (zk zgl):=fsc
theorem zi7{P:Program}{w:World}{base:Heap}{fd:FuncData}(F:Fun K "_law_item" "_law_item" zgl f fd)(U:zjK mg):↥1 f fd ["_law_number","_law_pool_here"] (zfW K):=by
 specialize uQ;obtain⟨n,pa,zs,rfl,hpa,pz,q⟩:=h;have z0:=pz.pos;have z26:=pz.le;have pick:∀(x:Int),∃z:Str,atI (zs.map V.str) (x % (zs.length:Int))=some (.str z):=fun x=>by
  have d0 : 0<=x % (zs.length:Int):=emod_nonneg _ ∅
  have d1:x % (zs.length:Int)<(zs.length:Int):=emod_lt_of_pos _ ∅
  obtain⟨j,hj⟩:=eq_ofNat_of_zero_le d0;have hjl:j<zs.length:=by omega
  exact⟨zs[j],by rw[hj];exact wW (by rw[getElem?_map,aB hjl];rfl)⟩
 have lz:((zs.map V.str).length:Int)=(zs.length:Int):=by rw[aA]
 refine uQ[2]'(zo z8 (pv 0) zf);exists _,rfl,_,_,rfl,rfl,⟨⋯,⋯⟩,?_
 exfalso;generalize n / 32=r0;refine uQ[3]'(zP zc);exists xS,fun ln hln=>?_;have s1:=ze hln (.lst []);have e1:upd H ln (.lst []) ln=some (.lst (([]:List Str).map V.str)):=za;exfalso;generalize upd H ln (.lst [])=H1 at s1 e1 |-;refine zE (yS PassesOwn.never rfl (vm rfl U.range (ac zf zc)) (zr (i:=4) uQ.nd rfl (Or.inl rfl))
  (zm (zW (xh PySem.F.plainAttrs_list PySem.F.slot_list_append PySem.F.type_list_append z9 (pv 3) (ac (zV yO (pv 1) (zo zR (pv 2) (cB zO U.len PySem.boot_len (ac (pv 1) zc))) (fun _ _=>rfl)) zc)))
  (zg (zx (i:=2) uQ.nd rfl (Or.inl rfl) (zo z8 (pv 2) (cB zO U.len PySem.boot_len (ac (pv 1) zc))))))) ?_
 exists 3,rfl,⋯,⋯,?_
 refine jK (n:=3) (fun j σ H'=>∃(r:Int) (ws:List Str) (v4:Option V),σ=[some (.int n),~~~pa,some (.int r),~~~ln,v4,none]/\zq H H'/\H' ln=some (.lst (ws.map V.str))/\ws.length=j) ⟨_,[],_,rfl,s1,e1,rfl⟩ ?_ ?_
 ·rintro j σ H2 hj ⟨r,ws,v4,rfl,s2,e2,lw⟩
  obtain⟨z,hat⟩:=pick r;have hpa2:=s2 _ _ hpa;exists _,rfl,.inl ⟨rfl,_,zh e2⟩,_,rfl,_,rfl,_,rfl,pa,_,rfl,.inl (zh hpa2),_,_,rfl,rfl,(by rw[lz];omega),pa,_,_,.str z,rfl,rfl,zh hpa2,(by rw[lz];exact hat),ln,_,_,rfl,rfl,e2,zY (by rw[aA];omega),?_
  have s3:=yy s2 hln (.lst (ws.map V.str++[.str z]));have e3:upd H2 ln (.lst (ws.map V.str++[.str z])) ln=some (.lst ((ws++[z]).map V.str)):=by rw[za,aE];rfl
  generalize upd H2 ln (.lst (ws.map V.str++[.str z]))=H3 at s3 e3 |-;exists _,rfl,_,rfl,pa,_,rfl,.inl (zh (s3 _ _ hpa)),_,_,rfl,rfl,⟨by rw[lz];omega,by rw[lz];omega⟩,?_
  exact⟨_,ws++[z],_,rfl,s3,e3,by rw[aG,lw];rfl⟩
 rintro σ H2 ⟨r,ws,v4,rfl,s2,e2,lw⟩;obtain⟨z1,z2,z3,rfl⟩:∃z1 z2 z3,ws=[z1,z2,z3]:=by
  match ws,lw with
  | [a,b,c],_=>exact⟨a,b,c,rfl⟩
 exfalso;refine uQ[5]'(zo jB (zo zR (zo z8 (pv 2) zf) zf) zf);exists _,rfl,_,_,rfl,rfl,⟨⋯,⋯⟩,_,_,rfl,rfl,(by show(0:Int)<41;decide),_,_,rfl,rfl,?_
 exfalso;generalize r / 2 % 41 - 20=th0;refine zE (zS (zw yK (zo zR (pv 2) zf) zf (zM _)) (zg (zx (i:=5) uQ.nd rfl (Or.inl rfl) (zo yF (zo jB (zo zR (zo z8 (pv 2) zf) (zo jB (zo y8 zf (zo jC zf zf)) zf)) (zo jC zf zf)) zf))) zI) ?_;refine xj (fun σ' H'=>∃th:Int,σ'=[some (.int n),~~~pa,some (.int r),~~~ln,v4,some (.int th)]/\H'=H2) ?_ (fun key=>?_);rotate_left
 ·exists _,rfl,_,_,rfl,rfl,zp2,rfl,_,rfl,?_
  refine wf (fun _=>?_) (fun _=>?_)
  ·exists _,rfl,_,_,rfl,rfl,⟨⋯,⋯⟩,_,_,rfl,rfl,⟨⋯,⋯,⋯⟩,_,_,rfl,rfl,.inl ⟨⋯,⋯⟩,_,_,rfl,rfl,_,_,rfl,rfl,(by decide +kernel),_,_,rfl,rfl,⟨⋯,⋯,⋯⟩,_,_,rfl,rfl,_,_,rfl,rfl,?_
   exact key _ _ ⟨_,rfl,rfl⟩
  ·exact key _ _ ⟨_,rfl,rfl⟩
 rintro σ3 H3 ⟨th,rfl,rfl⟩;refine zE (zS (zw vX (zo zR (pv 0) zf) zf (zM _)) (zg (zA (zT (ac zy (ac (pv 5) zc))))) zI) ?_;exists _,rfl,_,_,rfl,rfl,zp8,_,_,rfl,rfl,_,rfl,?_;refine wf (fun _=>?_) (fun _=>?_)
 ·exists _,rfl,yA,fun t ht=>?_
  exact q t (.one th) _ (s2.trans (ze ht _)) (.tup (zF za) (.cons .str (.cons .int .nil))) (by show 1<=3;decide) (by show 0<=3;decide)
 refine zE (zS (zw yK (zo zR (pv 0) zf) zf (zM _)) (zg (zA (zT (ac zy (ac (yp yC (zP (ac (pv 5) (ac zf (ac zf zc)))) yU (yn (zo zR (zo z8 (pv 0) zf) zf))) zc))))) zI) ?_;exists _,rfl,_,_,rfl,rfl,zp8,rfl,_,rfl,?_;refine wf (fun _=>?_) (fun _=>?_)
 ·exists _,rfl,jx,fun l hl=>?_
  have s3:=ze hl (.lst (([th,0,1]:List Int).map V.int));have e3:upd H3 l (.lst (([th,0,1]:List Int).map V.int)) l=some (.lst (([th,0,1]:List Int).map V.int)):=za;generalize hE:upd H3 l (.lst (([th,0,1]:List Int).map V.int))=H4 at s3 e3;have hE':upd H3 l (.lst [.int th,.int 0,.int 1])=H4:=hE;rw[hE'];obtain⟨k,ek,hk⟩:=zeF (xs:=([th,0,1]:List Int).map V.int) (i:=n / 8);exists _,rfl,_,_,rfl,rfl,⟨⋯,⋯⟩,_,_,rfl,rfl,zp4,_,rfl,l,_,rfl,zh e3,fun l5 hl5=>?_
  rw[ek,<- map_take]
  injections l5 hl5 H5 s5 e5
  exists yA,fun t ht=>?_;have s6:=ze ht (.tup [.str "row",.ref l5]);exact q t (.row (([th,0,1]:List Int).take k)) _ (s2.trans (s3.trans (s5.trans s6))) (.tup (zF za) (.cons .str (.cons (.lst ((s2.trans s3).free hl5) (s6 _ _ e5) (wo _)) .nil))) (by show(([th,0,1]:List Int).take k).length<=3;rw[length_take];exact Nat.min_le_right _ _) (by show 0<=3;decide)
 refine zE (zS (zw vX (zo zR (pv 0) zf) zf (zM _)) (zg (zA (zT (ac zy (ac (zV yO (pv 3) zf (fun _ _=>rfl)) (ac (pv 5) zc)))))) zI) ?_;exists _,rfl,_,_,rfl,rfl,zp8,_,_,rfl,rfl,_,rfl,?_;refine wf (fun _=>?_) (fun _=>?_)
 ·exists _,rfl,ln,_,0,.str z1,rfl,rfl,zh e2,rfl,_,rfl,jx,fun t ht=>?_
  exact q t (.named z1 th) _ (s2.trans (ze ht _)) (.tup (zF za) (.cons .str (.cons .str (.cons .int .nil)))) (by show 0<=3;decide) (by show 1<=3;decide)
 exists _,zg (zA (zT (ac zy (ac (yp yC (zP (ac (zT (ac (zV yO (pv 3) zf (fun _ _=>rfl)) (ac (pv 5) zc))) (ac (zT (ac (zV yO (pv 3) zf (fun _ _=>rfl)) (ac zf zc))) (ac (zT (ac (zV yO (pv 3) zf (fun _ _=>rfl)) (ac (zl9 zkb zf) zc))) zc)))) yU (yn (zo zR (zo z8 (pv 0) zf) zf))) zc)))),?_;exists _,rfl,ln,_,0,.str z1,rfl,rfl,zh e2,rfl,_,rfl,yA,fun u1 hu1=>?_;have s5:=ze hu1 (.tup [.str z1,.int th]);have t1:upd H3 u1 (.tup [.str z1,.int th]) u1=some (.tup [.str z1,.int th]):=za;have e5:=s5 _ _ e2;generalize upd H3 u1 (.tup [.str z1,.int th])=H5 at s5 t1 e5 |-;exists _,rfl,ln,_,1,.str z2,rfl,rfl,zh e5,rfl,yA,fun u2 hu2=>?_;have s6:=ze hu2 (.tup [.str z2,.int 0]);have t2:upd H5 u2 (.tup [.str z2,.int 0]) u2=some (.tup [.str z2,.int 0]):=za;have e6:=s6 _ _ e5;have t1:=s6 _ _ t1;have s6:=s5.trans s6;generalize upd H5 u2 (.tup [.str z2,.int 0])=H6 at s6 t1 t2 e6 |-;exists _,rfl,ln,_,2,.str z3,rfl,rfl,zh e6,rfl,_,rfl,yA,fun u3 hu3=>?_;have s7:=ze hu3 (.tup [.str z3,.int (-1)]);have t3:upd H6 u3 (.tup [.str z3,.int (-1)]) u3=some (.tup [.str z3,.int (-1)]):=za;have t1:=s7 _ _ t1;have t2:=s7 _ _ t2;have s7:=s6.trans s7;generalize upd H6 u3 (.tup [.str z3,.int (-1)])=H7 at s7 t1 t2 t3 |-;exists jx,fun lq hlq=>?_;have s8:=ze hlq (.lst [.ref u1,.ref u2,.ref u3]);have g8:upd H7 lq (.lst [.ref u1,.ref u2,.ref u3]) lq=some (.lst [.ref u1,.ref u2,.ref u3]):=za;have t1:=s8 _ _ t1;have t2:=s8 _ _ t2;have t3:=s8 _ _ t3;have s8:=s7.trans s8;generalize upd H7 lq (.lst [.ref u1,.ref u2,.ref u3])=H8 at s8 g8 t1 t2 t3 |-;have hp3:Paired (zJ K T' H8 1) [.ref u1,.ref u2,.ref u3] (([(z1,th),(z2,0),(z3,-1)]:List (Str×Int)).map yT):=
  .cons (.tup (zF t1) (.cons .str (.cons .int .nil))) (.cons (.tup (zF t2) (.cons .str (.cons .int .nil))) (.cons (.tup (zF t3) (.cons .str (.cons .int .nil))) .nil))
 obtain⟨k,ek,hk⟩:=zeF (xs:=[V.ref u1,V.ref u2,V.ref u3]) (i:=n / 8);exists _,rfl,_,_,rfl,rfl,⟨⋯,⋯⟩,_,_,rfl,rfl,zp4,_,rfl,lq,_,rfl,zh g8,fun l5 hl5=>?_
 rw[ek];have s9:=ze hl5 (.lst (([V.ref u1,V.ref u2,V.ref u3]).take k));have g9:upd H8 l5 (.lst (([V.ref u1,V.ref u2,V.ref u3]).take k)) l5=some (.lst (([V.ref u1,V.ref u2,V.ref u3]).take k)):=za;have hp9:Paired (zJ K T' (upd H8 l5 (.lst (([V.ref u1,V.ref u2,V.ref u3]).take k))) 1) (([V.ref u1,V.ref u2,V.ref u3]).take k) ((([(z1,th),(z2,0),(z3,-1)]:List (Str×Int)).take k).map yT):=by
  rw[map_take];exact xU (xC s9 hp3) k
 generalize upd H8 l5 (.lst (([V.ref u1,V.ref u2,V.ref u3]).take k))=H9 at s9 g9 hp9 |-;exists yA,fun t ht=>?_;have s10:=ze ht (.tup [.str "book",.ref l5]);exact q t (.book (([(z1,th),(z2,0),(z3,-1)]:List (Str×Int)).take k)) _ (s2.trans (s8.trans (s9.trans s10))) (.tup (zF za) (.cons .str (.cons (.lst ((s2.trans s8).free hl5) (s10 _ _ g9) (zb3 (xC s10 hp9))) .nil))) (by show 0<=3;decide) (by show(([(z1,th),(z2,0),(z3,-1)]:List (Str×Int)).take k).length<=3;rw[length_take];exact Nat.min_le_right _ _)
theorem zbL(c k:Int): 0<=zav c k/\zav c k<2147483629:=⟨emod_nonneg _ ⋯,emod_lt_of_pos _ ⋯⟩
inductive zdZ(K:Frag)(vs:List V)(H:Hp)(Q:VK)(E:XK):Prop|mk(sa pa:Addr)(ns:List Int)(k b:Nat)(zs:List Str):vs=[.ref sa,.int (k:Nat),.int (b:Nat),.int 6,.ref pa]->SqL K H sa (ns.map V.int)->ns.length<=63->H pa=some (.lst (zs.map V.str))->PL zs->(∀(r:Addr) (xs:List V) (ct:List ym) (H':Hp),zq H H'->H r=none->H' r=some (.lst xs)->Paired (zJ K (fun b=>H b=none) H' 3) xs (ct.map yj)->ct.length<=6->(zC ct).length<=18->(zG ct).length<=18->Q (.ref r) H')->zdZ K vs H Q E
theorem znh:([Str.ofString "_law_number",Str.ofString "_law_pool_here"]:List Str).Nodup:=by decide +kernel
theorem uo:zv ["_law_script","_law_k","_law_begin","_law_most","_law_pool_here","_law_numbers","_law_j","_law_cell","_law_great"] ["_law_script","_law_k","_law_begin","_law_most","_law_pool_here"] (zk zc2):=fsc
theorem zhh{P:Program}{w:World}{base:Heap}{fd:FuncData}{g1 g2 g3 g4:Addr}{d1 d2 d3 d4:FuncData}(F:Fun K "_law_items" "_law_items" zc2 f fd)(U:zjK mg)(cN:⇑1 "_law_nth" g1 d1 ["_law_script","_law_k"] (za2 K))(cD:⇑2 "_law_digits" g2 d2 ["_law_cell","_law_most","_law_base"] vS)(cS:⇑1 "_law_stirred" g3 d3 ["_law_cell","_law_k"] za0)(cI:⇑1 "_law_item" g4 d4 ["_law_number","_law_pool_here"] (zfW K)):↥3 f fd ["_law_script","_law_k","_law_begin","_law_most","_law_pool_here"] (zdZ K):=by
 specialize uo;obtain⟨sa,pa,ns,k,b,zs,rfl,hS,h63,hpa,pz,q⟩:=h;have hr1:yl 1 _:=hr.mono ⋯
 have hr2:yl 2 _:=hr.mono ⋯
 refine⟨_,zm (zS (zw yK (zo zR (cF cN hr1 (ac (pv 0) (ac zf zc))) zf) zf (zM _)) (zg (zx (i:=5) uo.nd rfl (Or.inl rfl) (cF cD hr2 (ac (cF cN hr1 (ac (pv 0) (ac (pv 1) zc))) (ac (pv 3) (ac (zo y8 (zo y8 (zo y8 zf (zo jC zf zf)) zf) (zo jC zf zf)) zc))))))
   (zm (zx (i:=5) uo.nd rfl (Or.inl rfl) (zP zc))
   (zg (yS PassesOwn.never rfl (wc rfl U.enum (ac (yp yC (pv 0) (yn (pv 2)) (yn (zo yF (pv 2) (pv 3)))) zc)) (yB rfl (zB (zr (i:=6) uo.nd rfl (Or.inl rfl)) (zB (zr (i:=7) uo.nd rfl (Or.inl rfl)) yi)))
    (zm (zx (i:=8) uo.nd rfl (Or.inl rfl) (zo yF (zo y8 (cF cS hr1 (ac (pv 7) (ac (zo yF (pv 6) zf) zc))) zf) (cF cS hr1 (ac (pv 7) (ac (zo yF (pv 6) zf) zc)))))
    (zg (zW (xh PySem.F.plainAttrs_list PySem.F.slot_list_append PySem.F.type_list_append z9 (pv 5) (ac (zo yF (zo z8 (zo y8 (zo y8 (pv 8) (pv 8)) (pv 8)) zf) (pv 8)) zc)))))))))
  (zg (zA (wC ["_law_pool_here"] ["_law_number","_law_pool_here"] [none,some 4] rfl ⟨rfl,rfl,rfl,rfl⟩ (z7 (pv 5)) (ya 0) rfl rfl rfl
   (fun pins fp s H C=>⟨zr (i:=0) znh rfl (Or.inl rfl) (.inr rfl),yV,cF cI hr1 (ac (pv 0) (ac (pv 1) zc))⟩)))),?_⟩
 have z0:=pz.pos;refine xj (fun σ' H'=>∃(ln:Addr) (ds:List Int) (v6 v7 v8:Option V),σ'=[~~~sa,some (.int (k:Nat)),some (.int (b:Nat)),some (.int 6),~~~pa,~~~ln,v6,v7,v8]/\zq H H'/\H' ln=some (.lst (ds.map V.int))/\ds.length<=6) ?_ (fun key=>?_);rotate_left
 ·exists _,rfl,sa,ns,1,rfl,hS,h63,fun c1 H1 s1=>?_
  exists _,_,rfl,rfl,zp2,rfl,_,rfl,?_;refine wf (fun _=>?_) (fun _=>?_)
  ·exists _,rfl,_,rfl,sa,ns,k,rfl,s1.seq hS,h63,fun c2 H2 s2=>?_
   exists _,rfl,_,_,rfl,rfl,⟨⋯,⋯,⋯⟩,_,_,rfl,rfl,.inl ⟨⋯,⋯⟩,_,_,rfl,rfl,.inr ⟨⋯,⋯⟩,_,_,rfl,rfl,⟨⋯,⋯,⋯⟩,_,_,rfl,rfl,.inl ⟨⋯,⋯⟩,c2,6,_,rfl,⋯,by decide +kernel,by decide +kernel,fun ld ds H3 s3 nld hld lds=>?_
   exact key _ _ ⟨ld,ds,_,_,_,rfl,s1.trans (s2.trans s3),hld,lds⟩
  ·exists xS,fun ln hln=>?_
   have s2:=ze hln (.lst []);have e2:upd H1 ln (.lst []) ln=some (.lst (([]:List Int).map V.int)):=za;have s12:=s1.trans s2;exfalso;generalize upd H1 ln (.lst [])=H2 at s2 e2 s12 |-;exists _,rfl,_,rfl,_,rfl,_,rfl,_,rfl,_,_,rfl,rfl,_,rfl,sa,_,rfl,s12.seq hS,fun p2 hp2=>?_;obtain⟨ms,em,lm⟩:=zcp ns b (b+6);rw[show wg (ns.map V.int) (some ((b:Nat):Int)) (some (((b:Nat):Int)+6))=ms.map V.int from em];have lm:ms.length<=6:=by omega
   have s3:=ze hp2 (.lst (ms.map V.int));have g3:upd H2 p2 (.lst (ms.map V.int)) p2=some (.lst (ms.map V.int)):=za;have e3:=s3 _ _ e2;have s13:=s12.trans s3;have fl:H ln=none:=s1.free hln;generalize upd H2 p2 (.lst (ms.map V.int))=H3 at s3 g3 e3 s13 |-;have np:p2≠ln:=fun e=>by rw[e,e2] at hp2;cases hp2
   refine⟨p2,rfl,⟨_,zh g3⟩,wx (K:=K) (a:=p2) (xs:=ms.map V.int) (fun i σ H'=>∃(ds:List Int) (v6 v7 v8:Option V),σ=[~~~sa,some (.int (k:Nat)),some (.int (b:Nat)),some (.int 6),~~~pa,~~~ln,v6,v7,v8]/\zq H H'/\H' p2=some (.lst (ms.map V.int))/\H' ln=some (.lst (ds.map V.int))/\ds.length=i)
    ⟨[],_,_,_,rfl,s13,g3,e3,rfl⟩ (fun i σ H' _ ⟨_,_,_,_,_,_,e,_⟩=>zh e) ?_ ?_⟩
   rotate_left
   ·rintro σ H4 ⟨ds,v6,v7,v8,rfl,s4,_,e4,ld⟩
    exact key _ _ ⟨ln,ds,_,_,_,rfl,s4,e4,by rw[ld,aA];exact lm⟩
   rintro i x p σ H4 hx ⟨ds,v6,v7,v8,rfl,s4,g4,e4,ld⟩ hpn;obtain⟨n,hn,rfl⟩:=wU hx;have hi:i<ms.length:=(List.getElem?_eq_some_iff.mp hn).1;have sp:=ze hpn (.tup [.int (i:Nat),.int n]);exists p,_,rfl,zF za,rfl,_,_,rfl,_,_,rfl,rfl,?_;have g5:=sp _ _ g4;have e5:=sp _ _ e4;have s5:=s4.trans sp;generalize upd H4 p (.tup [.int (i:Nat),.int n])=H5 at sp g5 e5 s5 |-;exists _,rfl,_,rfl,_,_,rfl,rfl,n,_,rfl,?_;obtain⟨m0,m1⟩:=zbL n ((i:Nat)+31);generalize zav n ((i:Nat)+31)=mm at m0 m1 |-;exists _,_,rfl,rfl,.inr ⟨⋯,⋯⟩,_,rfl,_,rfl,_,_,rfl,rfl,n,_,rfl,?_
   obtain⟨k0,k1⟩:=zbL n ((i:Nat)+57);generalize zav n ((i:Nat)+57)=kk at k0 k1 |-;exists _,_,rfl,rfl,?_;exfalso;have b0 : 0<=mm * 2147483629+kk:=by omega
   have b1:mm * 2147483629+kk<2 ^ 63:=by omega
   generalize mm * 2147483629+kk=gg at b0 b1 |-;exists _,rfl,.inl ⟨rfl,_,zh e5⟩,_,rfl,_,rfl,_,_,rfl,rfl,.inl ⟨∅,∅⟩,_,rfl,_,_,rfl,rfl,.inr ⟨∅,∅⟩,_,_,rfl,rfl,⟨⋯,⋯⟩,_,rfl,_,_,rfl,rfl,ln,_,_,rfl,rfl,e5,zY (by rw[aA];omega),?_
   refine⟨ds++[gg * gg * gg / 11+gg],_,_,_,rfl,yy s5 fl _,?_,?_,by rw[aG,ld];rfl⟩
   ·rw[zj np];exact g5
   ·rw[za,aE];rfl
 rintro σ9 H9 ⟨ln,ds,v6,v7,v8,rfl,s9,e9,ld⟩;exists _,rfl,ln,rfl,⟨_,zh e9⟩,fun D hD=>?_;have fD:=s9.free hD;refine xx (K:=K) (xs:=ds.map V.int) (fun i ys H'=>∃ct:List ym,zq H9 H'/\H' D=some (.lst ys)/\Paired (zJ K (fun b=>H b=none/\b≠D) H' 3) ys (ct.map yj)/\ct.length=i/\(zC ct).length<=3 * i/\(zG ct).length<=3 * i)
  ⟨[],ze hD _,za,.nil,rfl,le_refl _,le_refl _⟩ (fun i ys H' ⟨_,sH,_⟩=>zh (sH _ _ e9)) ?_ ?_
 ·rintro i x ys H' hi hx ⟨ct,sH,hDy,hy,lc,lt,lp⟩
  obtain⟨n,hn,rfl⟩:=wU hx;have lys:ys.length=ct.length:=by rw[hy.length,aA]
  have hi':i<ds.length:=(List.getElem?_eq_some_iff.mp hn).1;exists fun _=>?_,fun e=>Bool.noConfusion e;exists _,rfl,_,rfl,n,pa,zs,rfl,(s9.trans sH) _ _ hpa,pz,fun y it H2 s2 hs l1 l2=>?_;have sH2:=sH.trans s2;have nD:∀b:Addr,H' b=none->b≠D:=fun b e z=>by rw[z,hDy] at e;cases e
  refine lcN.mk hi (yg (by rw[aA];omega)) (s2 _ _ hDy) ∅ ⟨ct++[it],fun b u e=>by rw[zj (zi e hD)];exact sH2 _ _ e,za,?_,by rw[aG,lc];rfl,?_,?_⟩
  ·rw[aE]
   exact zX (zu (fun _ _ z=>xX (s2 _ _ hDy) (fun b o=>⟨o,o.2⟩) (z.same s2)) hy) (.cons (xX (ok:=fun b=>H b=none/\b≠D) (s2 _ _ hDy) (fun b o=>⟨o,o.2⟩) (wF (fun b o _=>⟨(s9.trans sH).free o,nD b o⟩) hs)) .nil)
  ·rw[zaG,aG];omega
  ·rw[zaH,aG];omega
 ·rintro ys H2 ⟨ct,s2,hDy,hy,lc,lt,lp⟩
  rw[aA] at lc lt lp;exact q D ys ct H2 (s9.trans s2) fD hDy (zu (fun _ _ z=>wF (fun b o _=>o.1) z) hy) ∅ ∅ ∅
def zlx(H:Hp)(la:Addr)(rows:List Rw):Prop:=∃us:List Addr,H la=some (.lst (us.map V.ref))/\Paired (TAt H) us rows
theorem PAt.upd{c:C5}{H:Hp}{v D:Addr}{r:Rw}{ys:List V}{o:HO}(h:PAt c H v r)(hD:H D=some (.lst ys)):PAt c (upd H D o) v r:=by
 obtain⟨dx,h⟩:=h;exists dx,?_;rw[zj (fun e=>by rw[e,hD] at h;cases h)]
 exact h
inductive zdX(c:C5)(CF:Addr)(vs:List V)(H:Hp)(Q:VK)(E:XK):Prop|mk(la lb:Addr)(rows:List Rw)(bars:List Str):vs=[.ref la,.ref lb]->zlx H la rows->H lb=some (.lst (bars.map V.str))->zcy rows bars->(∀(f:Addr) (H':Hp),zq H H'->jY c CF H H' f rows bars->xp c CF H' f rows bars->Q (.ref f) H')->zdX c CF vs H Q E
theorem zng:([Str.ofString "_law_one"]:List Str).Nodup:=by decide +kernel
theorem ziv:zv ["_law_row_here","_law_bars_here"] ["_law_row_here","_law_bars_here"] (zk zgn):=fsc
theorem zhd{P:Program}{w:World}{base:Heap}{fd:FuncData}{gF g1:Addr}{eF e1:FuncData}(F:Fun K "_law_form" "_law_form" zgn f fd)(hlst:mg "list"=none)(mCF:mg "Form"= ~~~CF)(MF:Mk K CF gF)(GF:↥3 gF eF ["self","parameters","bars"] (zim c CF))(bF:zU K eF ["self","parameters","bars"] [])(cP:⇑5 "parameter_of" g1 e1 ["told"] (zjU K c)):↥6 f fd ["_law_row_here","_law_bars_here"] (zdX c CF):=by
 specialize ziv;obtain⟨la,lb,rows,bars,rfl,⟨us,hla,hu⟩,hlb,V1,q⟩:=h;have hr4:yl 4 _:=hr.mono ⋯
 have lu:us.length=rows.length:=hu.length;have l24:=V1.l24;have l60:=V1.l60;refine⟨_,zg (zA (zec MF GF hr4 rfl mCF bF .nil zZ (ac (wC [] ["_law_one"] [none] rfl ⟨rfl,rfl,rfl,rfl⟩ (z7 (pv 0)) (ya 0) rfl rfl rfl
   (fun pins fp s H C=>⟨zr (i:=0) zng rfl (Or.inl rfl) (.inr rfl),yV,cF cP hr (ac (pv 0) zc)⟩)) (ac (cTy yP hlst PyProof.Rows.boot_list (ac (pv 1) zc)) zc)))),?_⟩
 exists _,rfl,la,rfl,⟨_,zh hla⟩,fun D hD=>?_;refine zjm (K:=K) (bs:=rows) (PAt c) PAt.same PAt.upd (zh hla) (by rw[aA,lu]) ∅ hD (fun i x r H' Qf Qs hx hr' sH qf=>?_) fun ps H1 s1 e1 p1=>?_
 ·obtain⟨u,hu',rfl⟩:=xR hx
  obtain⟨r2,hr2',tr⟩:=yG hu hu';rw[hr'] at hr2';cases hr2';have rk:=V1.ok r (aH hr');exact⟨fun _=>⟨_,rfl,u,r.k,.str r.z,r.b,rfl,rk.1,sH _ _ tr,.inl ⟨r.z,rfl,qM rk.2⟩,rk.2,fun o dx H5 s5 ho=>qf o H5 s5 ⟨dx,ho⟩⟩,fun e=>Bool.noConfusion e⟩
 exists _,rfl,lb,_,rfl,.inl (zh (s1 _ _ hlb)),fun l2 hl2=>?_;have s2:=ze hl2 (.lst (bars.map V.str));have g2:upd H1 l2 (.lst (bars.map V.str)) l2=some (.lst (bars.map V.str)):=za;have e2:=s2 _ _ e1;have p2:=z5 s2 p1;generalize upd H1 l2 (.lst (bars.map V.str))=H2 at s2 g2 e2 p2 |-;have s02:=s1.trans s2;intro x dx hx hdx hne;have smk:zq H2 (upd (upd H2 dx (.own x)) x (.ins CF dx [])):=yH hx hdx;have hx1:upd (upd H2 dx (.own x)) x (.ins CF dx []) x=some (.ins CF dx []):=za;generalize upd (upd H2 dx (.own x)) x (.ins CF dx [])=H5 at smk hx1 |-;exists x,D,dx,.ref l2,ps,rows,bars,rfl,hx1,smk _ _ e2,z5 smk p2,.inr ⟨l2,rfl,smk _ _ g2⟩,V1,fun H6 sx F6 L6=>?_;exact⟨rfl,q x H6 (fun b' u e=>sx b' u (smk _ _ (s02 _ _ e)) (zi (s02 _ _ e) hx)) (F6.of (s02.trans smk)) ⟨let ⟨dx,fs,lr,lb,ld,ps,h1,h2,h3,h4,h5,h6,_,_⟩:=F6;⟨dx,fs,lr,lb,ld,ps,h1,h2,h3,h4,h5,h6⟩,∅,∅,V1.ok⟩⟩
inductive za3(K:Frag)(vs:List V)(H:Hp)(Q:VK)(E:XK):Prop|mk(a:Addr)(ns:List Int):vs=[.ref a]->SqL K H a (ns.map V.int)->ns.length<=63->(∀H',Q (.bl true) H')->za3 K vs H Q E
def uM(K:Frag)(D:Addr)(H:Hp)(a:Addr)(ct:List ym):Prop:=∃xs,H a=some (.lst xs)/\a≠D/\Paired (zJ K (fun b=>b≠D) H 3) xs (ct.map yj)/\ct.length<=6/\(zC ct).length<=18/\(zG ct).length<=18
theorem uM.same{K:Frag}{D a:Addr}{H H':Hp}{ct:List ym}(h:uM K D H a ct)(s:zq H H'):uM K D H' a ct:=let ⟨xs,a1,a2,a3,a4⟩:=h;⟨xs,s _ _ a1,a2,yv s a3,a4⟩
theorem uM.upd{K:Frag}{D a:Addr}{H:Hp}{ys:List V}{o:HO}{ct:List ym}(h:uM K D H a ct)(hD:H D=some (.lst ys)):uM K D (L2.upd H D o) a ct:=let ⟨xs,a1,a2,a3,a4⟩:=h;⟨xs,by rw[zj a2];exact a1,a2,zu (fun _ _ z=>xX hD (fun b o=>⟨o,o⟩) z) a3,a4⟩
structure IAt(K:Frag)(H:Hp)(a:Addr)(n m:Nat)(ct:List ym):Prop where
 at_:∃xs,H a=some (.lst xs)/\Paired (zJ K T' H 3) xs (ct.map yj)
 n:ct.length<=n
 t:(zC ct).length<=m
 p:(zG ct).length<=m
theorem IAt.same{K:Frag}{H H':Hp}{a:Addr}{n m:Nat}{ct:List ym}(h:IAt K H a n m ct)(s:zq H H'):IAt K H' a n m ct:=let ⟨⟨xs,a1,a2⟩,b,c,d⟩:=h;⟨⟨xs,s _ _ a1,yv s a2⟩,b,c,d⟩
theorem IAt.ok{K:Frag}{H:Hp}{a:Addr}{n m:Nat}{ct:List ym}(h:IAt K H a n m ct)(hm:m<=900):yX K H a ct:=let ⟨⟨xs,a1,a2⟩,_,c,d⟩:=h;⟨⟨xs,zh a1,a2⟩,∅,∅⟩
theorem IAt.cat{K:Frag}{H:Hp}{D:Addr}{xs ys:List V}{n m n' m' N M:Nat}{ct ct':List ym}(hD:H D=some (.lst (xs++ys)))(hx:Paired (zJ K T' H 3) xs (ct.map yj))(hy:Paired (zJ K T' H 3) ys (ct'.map yj))(n1:ct.length<=n)(t1:(zC ct).length<=m)(p1:(zG ct).length<=m)(n2:ct'.length<=n')(t2:(zC ct').length<=m')(p2:(zG ct').length<=m')(hN:n+n'<=N)(hM:m+m'<=M):IAt K H D N M (ct++ct'):=
 ⟨⟨xs++ys,hD,by rw[aE];exact zX hx hy⟩,by rw[aG];omega,by rw[xI,aG];omega,by rw[xJ,aG];omega⟩
theorem uM.i{K:Frag}{D a:Addr}{H:Hp}{ct:List ym}(h:uM K D H a ct):IAt K H a 6 18 ct:=let ⟨xs,a1,a2,a3,a4,a5,a6⟩:=h;⟨⟨xs,a1,zu (fun _ _ z=>wF (fun _ _ _=>True.intro) z) a3⟩,a4,a5,a6⟩
theorem zdA.same{H H':Hp}{t:Addr}{o:Option (Str×Nat)}(h:zdA H t o)(s:zq H H'):zdA H' t o:=by
 cases o <;> exact s _ _ h
theorem zmn:([Str.ofString "_law_k",Str.ofString "_law_pool_here",Str.ofString "_law_script"]:List Str).Nodup:=by decide +kernel
theorem xL:zv ["_law_script","_law_ends","_law_pool_here","_law_free","_law_row_here","_law_bars_here","_law_form_here","_law_some","_law_kept","_law_part","_law_begin","_law_items_here","_law_things","_law_pairs","_law_other","_law_found","_law_told","_law_shapes_here","_law_once"] ["_law_script"] (zk zkJ):=fsc
theorem zk9{P:Program}{w:World}{base:Heap}{fd:FuncData}{CP:Addr}{f1 f2 f3 f4 f5 f6 f7 f8 f9 g1 g2 g3 gP gW gL:Addr}{e1 e2 e3 e4 e5 e6 e7 e8 e9 h1 h2 h3 eP eW eL:FuncData}(F:Fun K "law" "law" zkJ f fd)(U:zjK mg)(PC':PtC K CP)
  (cN:⇑1 "_law_nth" f1 e1 ["_law_script","_law_k"] (za2 K)) (cPo:⇑3 "_law_pool" f2 e2 ["_law_cell"] zfQ) (cRo:⇑3 "_law_row_at" f3 e3 ["_law_script","_law_k","_law_pool_here","_law_ends"] (zfO K)) (cBa:⇑1 "_law_bars" f4 e4 ["_law_row_here","_law_pool_here","_law_number"] zdY) (cIt:⇑3 "_law_items" f5 e5 ["_law_script","_law_k","_law_begin","_law_most","_law_pool_here"] (zdZ K)) (cTa:⇑2 "_law_tamed" f6 e6 ["_law_row_here","_law_bars_here","_law_items_here"] (zdO K)) (cLd:⇑1 "_law_laid" f7 e7 ["_law_items_here"] (uN K)) (cFo:⇑6 "_law_form" f8 e8 ["_law_row_here","_law_bars_here"] (zdX c CF)) (kP:jq P w K mg base (CXs P w) 7 "Part" CP gP eP ["self","form","call"] [] (zbO K c CF CP cl))
  (cMa:⇑10 "_law_made" f9 e9 ["_law_part","_law_items_here"] (zdW K c CF CP)) (cDu:⇑6 "_law_due" g1 h1 ["_law_row_here","_law_bars_here","_law_form_here","_law_things","_law_pairs"] (zfV K c CF)) (cSh:⇑4 "_law_shapes" g2 h2 ["_law_cells","_law_row_here","_law_told","_law_many","_law_pool_here","_law_free"] zbN) {g4:Addr}{h4:FuncData}(cSL:⇑7 "_law_same_left" g3 h3 ["_law_one","_law_other","_law_shapes_here"] (za1 c CF)) (cLA:⇑9 "_law_left_again" g4 h4 ["_law_part","_law_items_here","_law_other","_law_shapes_here"] (zbP K c CF CP))
  (mW:yW K CP "whole" gW) (GW:↥2 gW eW ["self","call"] (j7 K CP)) (bW:zU K eW ["self","call"] []) (mL:yW K CP "left" gL) (GL:↥7 gL eL ["self"] (vQ K c CF CP)) (bL:zU K eL ["self"] []):↥11 f fd ["_law_script"] (za3 K):=by
 specialize xL;obtain⟨sa,ns,rfl,hS,h63,q⟩:=h;have hU:=hr.units;have hr1:yl 1 _:=hr.mono ⋯
 have hr2:yl 2 _:=hr.mono ⋯
 have hr3:yl 3 _:=hr.mono ⋯
 have hr4:yl 4 _:=hr.mono ⋯
 have hr6:yl 6 _:=hr.mono ⋯
 have hr7:yl 7 _:=hr.mono ⋯
 have hr8:yl 8 _:=hr.mono ⋯
 have hr9:yl 9 _:=hr.mono ⋯
 have hr10:yl 10 _:=hr.mono ⋯
 refine xL[1]'(cF cN hr1 (ac (pv 0) (ac zf zc)));exists _,rfl,sa,ns,0,rfl,hS,h63,fun en H0 s0=>?_;exfalso;refine zE (zx (i:=2) xL.nd rfl (Or.inr rfl) (cF cPo hr3 (ac (cF cN hr1 (ac (pv 0) (ac zf zc))) zc))) ?_;exists _,rfl,sa,ns,1,rfl,s0.seq hS,h63,fun c0 H1 s1=>⟨c0,rfl,fun pa zs H2 s2 npa hpa pz=>?_⟩;have s12:=s0.trans (s1.trans s2);exfalso;refine xL[3]'(vB yK (zo zR (cF cN hr1 (ac (pv 0) (ac zf zc))) zf) zf (zM _));exists _,rfl,sa,ns,1,rfl,s12.seq hS,h63,fun fr H3 s3=>⟨_,_,rfl,rfl,zp2,rfl,?_⟩;generalize decide (V.int (fr % 2)=V.int 1)=free;have hpa:=s3 _ _ hpa;have s13:=s12.trans s3;exfalso;refine xL[4]'(cF cRo hr3 (ac (pv 0) (ac zf (ac (pv 2) (ac (pv 1) zc)))));exists _,rfl,_,rfl,_,rfl,sa,pa,ns,4,zs,en,rfl,s13.seq hS,h63,.inl rfl,hpa,pz,fun la us rows H4 s4 nla hla hu V1 hnm ⟨S,eS,MS,lPG⟩=>?_;have s14:=s13.trans s4;have hpa4:=s4 _ _ hpa;exfalso;refine xL[5]'(cF cBa hr1 (ac (pv 4) (ac (pv 2) (ac (cF cN hr1 (ac (pv 0) (ac zf zc))) zc))));exists _,rfl,_,rfl,_,rfl,sa,ns,2,rfl,s14.seq hS,h63,fun bn H5 s5=>?_;exists la,pa,bn,us,rows,zs,rfl,s5 _ _ hla,zL s5 hu,V1,s5 _ _ hpa4,pz.nd,pz.le,fun lb bars H6 s6 nlb hlb bnd bz bk bl=>?_;have s56:=s5.trans s6;have s16:=s14.trans s56;have hla6:=s56 _ _ hla;have hu6:=zL s56 hu;have hpa6:=s56 _ _ hpa4;have VV:zcy rows bars:=⟨V1.ok,V1.l24,∅,V1.ord,fun z hz=>pz.nm z (bz z hz),List.nodup_append.mpr ⟨V1.nd,bnd,fun x hx y hy e=>bk y hy (e ▸ hx)⟩⟩
 exfalso;refine xL[6]'(cF cFo hr6 (ac (pv 4) (ac (pv 5) zc)));exists _,rfl,_,rfl,la,lb,rows,bars,rfl,⟨us,hla6,hu6⟩,hlb,VV,fun fo H7 s7 _ hF=>?_;have s17:=s16.trans s7;have hla7:=s7 _ _ hla6;have hu7:=zL s7 hu6;have hpa7:=s7 _ _ hpa6;have hlb7:=s7 _ _ hlb;clear s56 s16 s14 s13 s12 s6 s5 s4 s3 s2 s1 s0 hla6 hu6 hpa6 hlb hla hu hpa hpa4 s7;exfalso;refine zE (wO (i:=7) ["_law_script","_law_pool_here"] ["_law_k","_law_pool_here","_law_script"] [none,some 2,some 0] xL.nd rfl (Or.inl rfl) rfl ⟨rfl,rfl,rfl,rfl⟩ (vm rfl U.range (ac zf zc)) (ya 0) rfl rfl rfl
   (fun pins fp s H C=>⟨zr (i:=0) zmn rfl (Or.inl rfl) (.inr rfl),yV,cF cIt hr3 (ac (pv 2) (ac (zo yF zf (pv 0)) (ac (zo yF zf (zo y8 zf (pv 0))) (ac zf (ac (pv 1) zc)))))⟩)) ?_
 exists 3,rfl,⋯,⋯,fun D hD=>?_
 refine qP (n:=3) (fun j ys H'=>∃(as:List Addr) (cts:List (List ym)),zq H7 H'/\H' D=some (.lst ys)/\ys=as.map V.ref/\Paired (uM K D H') as cts/\as.length=j) ⟨[],[],ze hD _,za,rfl,.nil,rfl⟩ ?_ ?_
 ·rintro j ys H' hj ⟨as,cts,sH,hDy,rfl,hc,lj⟩
  exists fun _=>?_,fun e=>Bool.noConfusion e;exists _,rfl,_,rfl,_,_,rfl,rfl,_,rfl,_,_,rfl,rfl,.inl ⟨⋯,⋯⟩,_,_,rfl,rfl,_,rfl,sa,pa,ns,7+(0+j),24+6 * (0+j),zs,?_,(s17.trans sH).seq hS,h63,sH _ _ hpa7,pz,fun r xs ct H2 s2 nr er hx lc lt lp=>?_
  ·rfl
  have nD:∀b:Addr,H' b=none->b≠D:=fun b e z=>by rw[z,hDy] at e;cases e
  have cd:uM K D H2 r ct:=⟨xs,er,nD _ nr,zu (fun _ _ z=>wF (fun b o _=>nD b o) z) hx,lc,lt,lp⟩;refine lcN.mk hj ⋯ (s2 _ _ hDy) (by rw[aA];omega) ⟨as++[r],cts++[ct],fun b u e=>by rw[zj (zi e hD)];exact(sH.trans s2) _ _ e,za,by rw[aE];rfl,Paired.snoc (zu (fun _ _ z=>(z.same s2).upd (s2 _ _ hDy)) hc) (cd.upd (s2 _ _ hDy)),by rw[aG,lj];rfl⟩
 rintro ys H8 ⟨as,cts,s8,hD8,rfl,hc8,l3⟩;have hd8:Paired (fun a ct=>IAt K H8 a 6 18 ct) as cts:=zu (fun _ _ z=>z.i) hc8;obtain⟨a0,a1,a2,rfl⟩:∃a0 a1 a2,as=[a0,a1,a2]:=by
  match as,l3 with
  | [a,b,d],_=>exact⟨a,b,d,rfl⟩
 obtain⟨ct0,ct1,ct2,i0,i1,i2⟩:∃ct0 ct1 ct2,IAt K H8 a0 6 18 ct0/\IAt K H8 a1 6 18 ct1/\IAt K H8 a2 6 18 ct2:=by
  cases hd8 with
  | cons i0 hd8=>
  cases hd8 with
  | cons i1 hd8=>
  cases hd8 with
  | cons i2 hd8=>exact⟨_,_,_,i0,i1,i2⟩
 have s18:=s17.trans s8;have hla8:=s8 _ _ hla7;have hu8:=zL s8 hu7;have hpa8:=s8 _ _ hpa7;have hlb8:=s8 _ _ hlb7;have hF8:=hF.same s8;clear s8 s17 hla7 hu7 hpa7 hlb7 hF;obtain⟨⟨xs0,hx0,hy0⟩,n0,t0,p0⟩:=i0;exfalso;refine xL[8]'(cF cTa hr2 (ac (pv 4) (ac (pv 5) (ac (zV yO (pv 7) zf (fun _ _=>rfl)) zc))));exists _,rfl,_,rfl,_,rfl,D,_,0,_,rfl,rfl,zh hD8,rfl,?_;exists la,lb,a0,us,rows,bars,xs0,ct0,rfl,hla8,hu8,V1,hlb8,hx0,hy0,∅,∅,∅,fun lk ks k0 H9 s9 nlk hlk hk _ _ _ k1 k2 k3 _ hnl=>?_
 have ik:IAt K H9 lk 6 18 k0:=⟨⟨ks,hlk,hk⟩,∅,∅,∅⟩
 exfalso;refine xL[9]'(cMk kP .nil zde hr8 (ac (pv 6) (ac (pv 8) zc)));exists _,rfl,_,rfl,fun x dx hx hdx hne=>?_;have smk:zq H9 (upd (upd H9 dx (.own x)) x (.ins CP dx [])):=yH hx hdx;have hx1:upd (upd H9 dx (.own x)) x (.ins CP dx []) x=some (.ins CP dx []):=za;generalize upd (upd H9 dx (.own x)) x (.ins CP dx [])=H10 at smk hx1 |-;exists x,fo,lk,dx,rows,bars,k0,rfl,hx1,(hF8.same s9).same smk,(ik.ok ⋯).same smk,fun _ H11 sx pt=>⟨rfl,?_⟩,fun m hm=>?_
 rotate_left
 ·rw[hnl] at hm
  cases hm
 have s911:zq H9 H11:=fun b' u e=>sx b' u (smk _ _ e) (zi e hx);have s11:=s9.trans s911;have ik:=ik.same s911;have i1:=i1.same s11;have i2:=i2.same s11;have hD:=s11 _ _ hD8;have hla:=s11 _ _ hla8;have hu:=zL s11 hu8;have hpa:=s11 _ _ hpa8;have hlb:=s11 _ _ hlb8;have hF:=hF8.same s11;have hS:=(s18.trans s11).seq hS;have pt:vM K CP (fun _=>True) H11 x fo (zC k0) (zG k0):=pt.imp fun _ _=>True.intro;clear s911 s11 s18 s9 smk sx hla8 hu8 hpa8 hlb8 hF8 hD8 hx hdx hne hx1 hlk hk k1 k2 k3 nlk hx0 hy0 n0 t0 p0;exfalso;refine zE (yS PassesOwn.never rfl (wc rfl U.enum (ac (yp yC (pv 7) (yn zf) yU) zc)) (yB rfl (zB (zr (i:=10) xL.nd rfl (Or.inl rfl)) (zB (zr (i:=11) xL.nd rfl (Or.inl rfl)) yi))) wp) ?_;exists _,rfl,_,rfl,D,_,rfl,zh hD,fun ca hca=>?_;rw[show wg ([a0,a1,a2].map V.ref) (some 1) none=[a1,a2].map V.ref from rfl];have s12:=ze hca (.lst ([a1,a2].map V.ref));have gc:upd H11 ca (.lst ([a1,a2].map V.ref)) ca=some (.lst ([a1,a2].map V.ref)):=za;have i1:=i1.same s12;have i2:=i2.same s12;have ik:=ik.same s12;have hla:=s12 _ _ hla;have hu:=zL s12 hu;have hpa:=s12 _ _ hpa;have hlb:=s12 _ _ hlb;have hF:=hF.same s12;have pt:=pt.same s12;have hS:=s12.seq hS;generalize upd H11 ca (.lst ([a1,a2].map V.ref))=H12 at s12 gc i1 i2 ik hla hu hpa hlb hF pt hS |-;refine⟨ca,rfl,⟨_,zh gc⟩,wx (K:=K) (a:=ca) (xs:=[a1,a2].map V.ref) (fun i σ H'=>∃(lk p:Addr) (kt:List ym) (v10 v11 v12 v13 v14 v15 v16 v17 v18:Option V),σ=[~~~sa,some (.int en),~~~pa,some (.bl free),~~~la,~~~lb,~~~fo,~~~D,~~~lk,~~~p,v10,v11,v12,v13,v14,v15,v16,v17,v18]/\zq H12 H'/\IAt K H' lk (6+6 * i) (18+18 * i) kt/\nlF (xa rows bars kt)=none/\vM K CP (fun _=>True) H' p fo (zC kt) (zG kt))
  ⟨lk,x,k0,_,_,_,_,_,_,_,_,_,rfl,zq.refl _,ik,hnl,pt⟩ (fun i σ H' _ ⟨_,_,_,_,_,_,_,_,_,_,_,_,_,sH,_⟩=>zh (sH _ _ gc)) ?_ ?_⟩
 ·rintro i y pp σ H1 hy ⟨lk,p,kt,v10,v11,v12,v13,v14,v15,v16,v17,v18,rfl,s1,ik,hnl,pt⟩ hpn
  obtain⟨ai,ci,rfl,hi,ii⟩:∃(ai:Addr) (ci:List ym),y=.ref ai/\i<2/\IAt K H12 ai 6 18 ci:=by
   match i,hy with
   | 0,hy=>exact⟨a1,ct1,(Option.some.inj hy).symm,⋯,i1⟩
   | 1,hy=>exact⟨a2,ct2,(Option.some.inj hy).symm,⋯,i2⟩
  have sp:=ze hpn (.tup [.int (i:Nat),.ref ai]);exists pp,_,rfl,zF za,rfl,_,_,rfl,_,_,rfl,rfl,?_;have s2:=s1.trans sp;have ik:=ik.same sp;have pt:=pt.same sp;have ii:=ii.same s2;generalize upd H1 pp (.tup [.int (i:Nat),.ref ai])=H2 at sp s2 ik pt ii |-;clear s1 sp hpn;exfalso;refine zE (zS (zw yK (zo zR (cF cN hr1 (ac (pv 0) (ac zf zc))) zf) zf (zM _)) (zg (zx (i:=11) xL.nd rfl (Or.inl rfl) (yp yC (cF cTa hr2 (ac (pv 4) (ac (pv 5) (ac (zo yr (pv 8) (pv 11)) zc)))) (yn (cB zO U.len PySem.boot_len (ac (pv 8) zc))) yU))) zI) ?_;refine xj (fun σ' H'=>∃(li:Addr) (ct:List ym),σ'=[~~~sa,some (.int en),~~~pa,some (.bl free),~~~la,~~~lb,~~~fo,~~~D,~~~lk,~~~p,some (.int (i:Nat)),~~~li,v12,v13,v14,v15,v16,v17,v18]/\zq H2 H'/\IAt K H' li 6 18 ct) ?_ (fun key=>?_);rotate_left
  ·exists _,rfl,sa,ns,3,rfl,s2.seq hS,h63,fun c3 H3 s3=>?_
   exists _,_,rfl,rfl,zp2,rfl,_,rfl,?_;refine wf (fun _=>?_) (fun _=>?_);rotate_left
   ·exact key _ _ ⟨ai,ci,rfl,s3,ii.same s3⟩
   obtain⟨⟨xk,ek,hk⟩,nk,tk,pk⟩:=ik.same s3;obtain⟨⟨xi,ei,hi'⟩,ni,ti,pi⟩:=ii.same s3;have lk1:xk.length=kt.length:=by rw[hk.length,aA]
   have li1:xi.length=ci.length:=by rw[hi'.length,aA]
   exists _,rfl,_,rfl,_,rfl,_,rfl,lk,ai,_,_,rfl,rfl,ek,ei,yg ∅,fun l4 hl4=>?_
   have s4:=ze hl4 (.lst (xk++xi));have g4:upd H3 l4 (.lst (xk++xi)) l4=some (.lst (xk++xi)):=za;have s24:=s3.trans s4;generalize upd H3 l4 (.lst (xk++xi))=H4 at s4 g4 s24 |-;have s04:=s2.trans s24;exists la,lb,l4,us,rows,bars,xk++xi,kt++ci,rfl,s04 _ _ hla,zL s04 hu,V1,s04 _ _ hlb,g4,(by rw[aE];exact zX (yv s4 hk) (yv s4 hi')),(by rw[aG];omega),(by rw[xI,aG];omega),(by rw[xJ,aG];omega),fun l5 k5 kt5 H5 s5 nl5 el5 hk5 _ _ _ _ _ _ sub _=>?_
   exists _,rfl,lk,_,rfl,.inl (zh ((s4.trans s5) _ _ ek)),_,rfl,l5,_,rfl,zh el5,fun l6 hl6=>?_;rw[show wg k5 (some ((xk.length:Nat):Int)) none=k5.drop xk.length from x6];have s6:=ze hl6 (.lst (k5.drop xk.length));have su:=zmA sub;rw[<- lk1] at su;have l2:=zij su;exact key _ _ ⟨l6,kt5.drop xk.length,rfl,s24.trans (s5.trans s6),⟨⟨_,za,by rw[map_drop];exact wm (yv s6 hk5) _⟩,le_trans su.length_le ni,le_trans l2.1 ti,le_trans l2.2 pi⟩⟩
  rintro σ H3 ⟨li,ct,rfl,s3,ic⟩;have s03:=s2.trans s3;have ik:=ik.same s3;have pt:=pt.same s3;clear s3 s2 ii;obtain⟨⟨xk,ek,hk⟩,nk,tk,pk⟩:=id ik;obtain⟨⟨xi,ei,hi'⟩,ni,ti,pi⟩:=id ic;have lk1:xk.length=kt.length:=by rw[hk.length,aA]
  have li1:xi.length=ct.length:=by rw[hi'.length,aA]
  refine zE (vW (cF cLd hr1 (ac (zo yr (pv 8) (pv 11)) zc)) (yB rfl (zB (zr (i:=12) xL.nd rfl (Or.inl rfl)) (zB (zr (i:=13) xL.nd rfl (Or.inl rfl)) yi)))) ?_;exists _,rfl,_,rfl,lk,li,_,_,rfl,rfl,ek,ei,yg ∅,fun l4 hl4=>?_
  injections l4 hl4 H4 s4 g4
  have lT:(zC kt++zC ct).length<=54:=by rw[aG];omega
  have lP:(zG kt++zG ct).length<=54:=by rw[aG];omega
  exists l4,kt++ct,_,rfl,zh g4,(by rw[aE];exact zX (yv s4 hk) (yv s4 hi')),(by rw[xI];omega),(by rw[xJ];omega),fun pq H5 s5 two=>?_
  obtain⟨l1,l2,ys,n1,n2,n12,np,ep,e1,e2,gp⟩:=two;rw[xI] at e1;rw[xJ] at gp;exists pq,_,rfl,zF ep,rfl,_,_,rfl,_,_,rfl,rfl,?_;have s35:=s4.trans s5;have s05:=s03.trans s35;have ik:=ik.same s35;have ic:=ic.same s35;have pt:=pt.same s35;clear s4 s5 s35 s03 g4 hl4 ep n1 n2 n12 np ek ei hk hi' lk1 li1;exfalso;refine zE (vW (cF cMa hr10 (ac (pv 9) (ac (pv 11) zc))) (yB rfl (zB (zr (i:=14) xL.nd rfl (Or.inl rfl)) (zB (zr (i:=15) xL.nd rfl (Or.inl rfl)) yi)))) ?_;refine xj (fun σ' H'=>∃(v:V) (u:Addr),σ'=[~~~sa,some (.int en),~~~pa,some (.bl free),~~~la,~~~lb,~~~fo,~~~D,~~~lk,~~~p,some (.int (i:Nat)),~~~li,~~~l1,~~~l2,some v,~~~u,v16,v17,v18]/\zq H5 H'/\zdA H' u (ptN rows bars (zC kt++zC ct) (zG kt++zG ct))/\(v=.non\/∃p',v=.ref p'/\ptN rows bars (zC kt++zC ct) (zG kt++zG ct)=none/\vM K CP (fun _=>True) H' p' fo (zC kt++zC ct) (zG kt++zG ct))) ?_ (fun key=>?_);rotate_left
  ·exists _,rfl,_,rfl,p,fo,li,_,rows,bars,_,_,ct,rfl,pt,hF.same s05,ic.ok ⋯,∅,∅,fun hn t p' u H6 s6 et eu pt'=>?_,fun m hm t u H6 s6 et eu=>?_
   ·exists t,_,rfl,zF et,rfl,_,_,rfl,_,_,rfl,rfl,?_
    exact key _ _ ⟨_,u,rfl,s6,by rw[hn];exact eu,.inr ⟨p',rfl,hn,pt'⟩⟩
   ·exists t,_,rfl,zF et,rfl,_,_,rfl,_,_,rfl,rfl,?_
    exact key _ _ ⟨_,u,rfl,s6,by rw[hm];exact eu,.inl rfl⟩
  rintro σ H6 ⟨v,u,rfl,s6,du,hv⟩;have s06:=s05.trans s6;have e1:=s6 _ _ e1;have e2:=s6 _ _ e2;have gp:=zu (fun _ _ z=>z.same s6) gp;have ik:=ik.same s6;have ic:=ic.same s6;have pt:=pt.same s6;clear s6 s05;refine zE (zS (zw (zgO hU) (pv 15) (cF cDu hr6 (ac (pv 4) (ac (pv 5) (ac (pv 6) (ac (pv 12) (ac (pv 13) zc)))))) (zM _)) (zg (zA vo)) zI) ?_;exists _,rfl,_,rfl,_,rfl,_,rfl,_,rfl,_,rfl,la,lb,fo,l1,l2,us,rows,bars,_,ys,_,rfl,s06 _ _ hla,zL s06 hu,V1,s06 _ _ hlb,hF.same s06,e1,∅,e2,gp,∅,fun t7 H7 s7 d7=>?_
  exists u,t7,1,_,T',T',rfl,rfl,⋯,(du.same s7).says,d7.says,_,rfl,?_
  refine x8 ?_;have s07:=s06.trans s7;have e1:=s7 _ _ e1;have e2:=s7 _ _ e2;have gp:=zu (fun _ _ z=>z.same s7) gp;have ik:=ik.same s7;have ic:=ic.same s7;have pt:=pt.same s7;clear du d7;exists _,zg (zS (xT (zbo (pv 14))) wp zI),?_;rcases hv with rfl|⟨p',rfl,hn,pt'⟩
  ·exact⟨_,rfl,_,rfl,lk,p,kt,_,_,_,_,_,_,_,_,_,rfl,s07,⟨ik.at_,by have:=ik.n;omega,by have:=ik.t;omega,by have:=ik.p;omega⟩,hnl,pt⟩
  exists _,rfl,_,rfl,?_;have pt':=pt'.same s7;clear s7 s06;subst eS;have t1:vI S.rows bars (zC kt).length ((zG kt).map (·.1)):=zbq hnl;have t2:vI S.rows bars (zC kt++zC ct).length ((zG kt++zG ct).map (·.1)):=zbq (by rw[<- jz];exact hn)
  have lr:=MS.len;refine zE (wO (i:=16) [] ["_law_name","_law_thing"] [none,none] xL.nd rfl (Or.inl rfl) rfl ⟨rfl,rfl,rfl,rfl⟩ (z7 (pv 13)) (xY (K:=K) (n:=2) 0 1) rfl rfl rfl
   (fun pins fp s H C=>⟨yB rfl (zB (zr (i:=0) zem rfl (Or.inl rfl) (.inr rfl)) (zB (zr (i:=1) zem rfl (Or.inl rfl) (.inr rfl)) yi)),yV,pv 0⟩)) ?_
  exists _,rfl,l2,rfl,⟨_,zh e2⟩,fun D1 hD1=>?_;refine zeo (zh e2) gp ∅ hD1 (fun H8 s8 e8=>?_)
  have s08:=s07.trans s8;have e1:=s8 _ _ e1;have e2:=s8 _ _ e2;have gp:=zu (fun _ _ z=>z.same s8) gp;have ik:=ik.same s8;have ic:=ic.same s8;have pt:=pt.same s8;have pt':=pt'.same s8;clear s8 s07 hD1;exfalso;refine xL[17]'(cF cSh hr4 (ac (zeX (pv 0) (yn (pv 10)) (yn zf) zf) (ac (pv 4) (ac (pv 16) (ac (cB zO U.len PySem.boot_len (ac (pv 12) zc)) (ac (pv 2) (ac (pv 3) zc)))))));exists _,rfl,_,rfl,_,rfl,_,rfl,4,sa,_,rfl,⋯,rfl,s08.seq hS,fun cb kx hcb lkx=>?_
  obtain⟨cs,ecs⟩:=zb1 ns kx;rw[ecs,aA,aA] at lkx;rw[ecs]
  injections cb hcb H9 s9 g9
  have s09:=s08.trans s9;exists _,rfl,_,rfl,_,rfl,l1,_,rfl,.inl (zh (s9 _ _ e1)),_,rfl,_,rfl,?_;exists cb,la,D1,pa,cs,us,S.rows,_,_,zs,free,rfl,g9,∅,s09 _ _ hla,zL s09 hu,V1,s9 _ _ e8,s09 _ _ hpa,pz,fun ls ws H10 s10 els lws hsh=>?_
  have s010:=s09.trans s10;have s810:=s9.trans s10;have e1:=s810 _ _ e1;have e2:=s810 _ _ e2;have gp:=zu (fun _ _ z=>z.same s810) gp;clear s08 s9 s09 s10 g9 e8 hcb ecs lkx;exfalso;refine xL[18]'(cMk kP .nil zde hr8 (ac (pv 6) (ac (zP (ac (zT (ac zy (ac (yp yC (pv 12) yU (yn zf)) zc))) (ac (zT (ac zy (ac (yp yC (pv 12) (yn zf) yU) zc))) (ac (zT (ac zy (ac (pv 13) zc))) zc)))) zc)));exists _,rfl,_,rfl,_,rfl,l1,_,rfl,zh e1,fun q1 hq1=>?_;rw[show wg ((zC kt++zC ct).map V.int) none (some 30)=((zC kt++zC ct).take 30).map V.int from (xZ (n:=30)).trans (map_take ..).symm]
  injections q1 hq1 H11 s11 g1
  exists yA,fun t1a ht1=>?_;have s12:=ze ht1 (.tup [.str "row",.ref q1]);have y1:zJ K T' (upd H11 t1a (.tup [.str "row",.ref q1])) 3 (.ref t1a) (yj (.row ((zC kt++zC ct).take 30))):=zJ.tup (zF za) (.cons zJ.str (.cons (zJ.lst True.intro (s12 _ _ g1) (wo _)) .nil));generalize upd H11 t1a (.tup [.str "row",.ref q1])=H12' at s12 y1 |-;have sa1:=s11.trans s12;clear s11 s12 g1 hq1 ht1;exists _,rfl,_,rfl,l1,_,rfl,zh (sa1 _ _ e1),fun q2 hq2=>?_;rw[show wg ((zC kt++zC ct).map V.int) (some 30) none=((zC kt++zC ct).drop 30).map V.int from (x6 (n:=30)).trans (map_drop ..).symm]
  injections q2 hq2 H13 s11 g1
  exists yA,fun t2a ht2=>?_;have s12:=ze ht2 (.tup [.str "row",.ref q2]);have y2:zJ K T' (upd H13 t2a (.tup [.str "row",.ref q2])) 3 (.ref t2a) (yj (.row ((zC kt++zC ct).drop 30))):=zJ.tup (zF za) (.cons zJ.str (.cons (zJ.lst True.intro (s12 _ _ g1) (wo _)) .nil));have sa2:=s11.trans s12;have y1:=y1.same sa2;generalize upd H13 t2a (.tup [.str "row",.ref q2])=H14 at s12 y1 y2 sa2 |-;have sa2:=sa1.trans sa2;clear s11 s12 g1 hq2 ht2 sa1;exists _,rfl,yA,fun t3a ht3=>?_;have s12:=ze ht3 (.tup [.str "book",.ref l2]);have sa3:=sa2.trans s12;have y3:zJ K T' (upd H14 t3a (.tup [.str "book",.ref l2])) 3 (.ref t3a) (yj (.book (zG kt++zG ct))):=zJ.tup (zF za) (.cons zJ.str (.cons (zJ.lst True.intro (sa3 _ _ e2) (zu (fun _ _ z=>z.same sa3) gp)) .nil));have y1:=y1.same s12;have y2:=y2.same s12;generalize upd H14 t3a (.tup [.str "book",.ref l2])=H15 at s12 y1 y2 y3 sa3 |-;exists jx,fun lo hlo=>?_
  injections lo hlo H16 s16 g16
  have sa4:=sa3.trans s16;have hO:yX K H16 lo (zgX (zC kt++zC ct) (zG kt++zG ct)):=⟨⟨_,zh g16,.cons (y1.same s16) (.cons (y2.same s16) (.cons (y3.same s16) .nil))⟩,by rw[zgV];omega,by rw[zgW];omega⟩
  clear y1 y2 y3 s12 s16 sa2 sa3 hlo ht3;intro x3 dx3 hx3 hdx3 hne3;have smk:zq H16 (upd (upd H16 dx3 (.own x3)) x3 (.ins CP dx3 [])):=yH hx3 hdx3;have hx1:upd (upd H16 dx3 (.own x3)) x3 (.ins CP dx3 []) x3=some (.ins CP dx3 []):=za;generalize upd (upd H16 dx3 (.own x3)) x3 (.ins CP dx3 [])=H17 at smk hx1 |-;exists x3,fo,lo,dx3,S.rows,bars,_,rfl,hx1,((hF.same s010).same sa4).same smk,hO.same smk,fun _ H18 sx pt3=>⟨rfl,?_⟩,fun m hm=>?_;rotate_left
  ·rw[jz] at hn
   unfold xa yN at hm;rw[zgV,zgW,hn] at hm;cases hm
  rw[zgV,zgW] at pt3;have s1618:zq H16 H18:=fun b' u e=>sx b' u (smk _ _ e) (zi e hx3);have s1018:=sa4.trans s1618;have sB:=s010.trans s1018;have s818:=s810.trans s1018;have pt:=pt.same s818;have pt':=pt'.same s818;have ik:=ik.same s818;have ic:=ic.same s818;have els:=s1018 _ _ els;have hsh:=hsh.same s1018;have hF':=hF.same sB;clear smk sx hx1 hO s1618 s1018 s818 s810 s010 sa4 g16 hx3 hdx3 hne3 e1 e2 gp;have nkW:∀{f l1 l2:Addr},(ptF f l1 l2).lookup ("whole" : Str)=none:=zbZ (by decide +kernel) (by decide +kernel) (by decide +kernel)
  have nkL:∀{f l1 l2:Addr},(ptF f l1 l2).lookup ("left" : Str)=none:=zbZ (by decide +kernel) (by decide +kernel) (by decide +kernel)
  obtain⟨dxa,_,_,_,hpa1,_⟩:=id pt';obtain⟨dxb,_,_,_,hpb1,_⟩:=id pt3;exfalso;refine zE (zS (xy (jh (zw (zgO hU) (ur (pv 14) PC'.cl mW GW hr2 bW .nil zZ (ac (zP zc) zc)) (ur (pv 18) PC'.cl mW GW hr2 bW .nil zZ (ac (zP zc) zc)) (zM _)) (vV (vA (y7 (cF cSL hr7 (ac (yc (pv 14) PC'.cl mL GL hr7 bL .nil zZ) (ac (yc (pv 18) PC'.cl mL GL hr7 bL .nil zZ) (ac (pv 17) zc))))))))) (zg (zA vo)) zI) ?_;exists _,rfl,p',dxa,_,rfl,hpa1,nkW,xS,fun w0 hw0=>?_;have s19:=ze hw0 (.lst []);exists p',fo,w0,_,_,_,[],rfl,pt'.same s19,⟨⟨[],zh za,.nil⟩,⋯,⋯⟩,(by show _+0<=400;omega),(by show _+0<=400;omega),fun r1 xs1 H20 s20 nr1 er1 hxs1=>?_
  have s1820:=s19.trans s20;clear s19 s20 hw0;exists _,rfl,x3,dxb,_,rfl,s1820 _ _ hpb1,nkW,xS,fun w0 hw0=>?_;have s19:=ze hw0 (.lst []);exists x3,fo,w0,_,_,_,[],rfl,(pt3.same s1820).same s19,⟨⟨[],zh za,.nil⟩,⋯,⋯⟩,(by show _+0<=400;omega),(by show _+0<=400;omega),fun r2 xs2 H21 s21 nr2 er2 hxs2=>?_
  have s2021:=s19.trans s21;exists r1,r2,1,_,T',T',rfl,rfl,⋯,zJ.lst True.intro (s2021 _ _ er1) (yv s2021 hxs1),zJ.lst True.intro er2 hxs2,_,rfl,?_
  have s1821:=s1820.trans s2021;clear s19 s21 s1820 s2021 hw0 er1 er2 hxs1 hxs2 nr1 nr2;refine x8 ?_;exists _,rfl,p',dxa,_,rfl,s1821 _ _ hpa1,nkL,p',fo,_,_,_,S.rows,bars,rfl,pt'.same s1821,hF'.same s1821,∅,zey MS t2,∅,∅,fun v1 H22 s22 lq1=>?_
  have s1822:=s1821.trans s22;exists _,rfl,x3,dxb,_,rfl,s1822 _ _ hpb1,nkL,x3,fo,_,_,_,S.rows,bars,rfl,pt3.same s1822,hF'.same s1822,∅,zey MS t2,∅,∅,fun v2 H23 s23 lq2=>?_
  have s1823:=s1822.trans s23;exists _,rfl,v1,v2,_,_,ls,ws,rfl,lq1.same s23,lq2,zcA.refl _,s1823 _ _ els,∅,hsh.same s1823,fun H24 s24=>?_
  exists _,rfl,?_;refine x8 ?_;have sC:=s1823.trans s24;clear s1821 s22 s1822 s23 s1823 s24 lq1 lq2;refine zE (zS (vA (y7 (cF cLA hr9 (ac (pv 9) (ac (pv 11) (ac (pv 14) (ac (pv 17) zc))))))) (zg (zA vo)) zI) ?_;exists _,rfl,_,rfl,_,rfl,_,rfl,p,fo,li,p',ls,ws,_,_,S,bars,_,_,ct,rfl,pt.same sC,pt'.same sC,hF'.same sC,MS,∅,(ic.same sC).ok ⋯,∅,by rw[<- aG];omega,by rw[<- aG];omega,t1,t2,sC _ _ els,∅,hsh.same sC,fun H25 s25=>?_
  exists _,rfl,?_;refine x8 ?_;have sD:=sC.trans s25;refine xL[9]'(pv 14);exists _,rfl,?_;exfalso;obtain⟨⟨xk,ek,hk⟩,nk,tk,pk⟩:=ik.same sD;obtain⟨⟨xi,ei,hi'⟩,ni,ti,pi⟩:=ic.same sD;have lk1:xk.length=kt.length:=by rw[hk.length,aA]
  have li1:xi.length=ct.length:=by rw[hi'.length,aA]
  exists _,zg (zx (i:=8) xL.nd rfl (Or.inl rfl) (zo yr (pv 8) (pv 11))),?_;exists _,rfl,_,rfl,lk,li,_,_,rfl,rfl,ek,ei,yg ∅,fun l4 hl4=>?_
  have s4:=ze hl4 (.lst (xk++xi));refine⟨l4,p',kt++ct,_,_,_,_,_,_,_,_,_,rfl,(sB.trans sD).trans s4,IAt.cat za (yv s4 hk) (yv s4 hi') nk tk pk ni ti pi ∅ ∅,?_,by rw[xI,xJ];exact(pt'.same sD).same s4⟩
  unfold xa yN;rw[xI,xJ,<- jz];exact hn
 ·rintro σ H1 ⟨_,_,_,_,_,_,_,_,_,_,_,_,rfl,_⟩
  exact⟨_,zg (zA vo),q _⟩
end
end K64
namespace L2
open PySem PySem.Spec PyProof.Rows
section
variable {P:Program}{w:World}{K:Frag}{mg:Str->Option Value}{base h:Heap}{x q p p2 p3 p4 p5:Str}{st:Stmt}{f C T:Addr}{fd:FuncData}{sp:Sp}{k n:Nat}
structure TB(P:Program)(w:World)(K:Frag)(mg:Str->Option Value)(base:Heap):Prop where
 mgo:∀{x:Str}{v:Value},nsIn K mainGlobals x=some (some v)->mg x=some v
structure GD(K:Frag)(x:Str)(st:Stmt)(f:Addr)(fd:FuncData):Prop where
 a:nsIn K mainGlobals x=some (~~~f)
 F:Fun K x x st f fd
structure MD(K:Frag)(C:Addr)(x q:Str)(st:Stmt)(f:Addr)(fd:FuncData):Prop where
 m:yW K C x f
 F:Fun K x q st f fd
structure DD(K:Frag)(C:Addr)(x q:Str)(st:Stmt)(f:Addr)(fd:FuncData)(ds:List Value):Prop where
 m:yW K C x f
 F:zap K x q st f fd ds
structure CD(K:Frag)(x:Str)(C:Addr):Prop where
 a:nsIn K mainGlobals x=some (~~~C)
 c:Cls K C
 ms:makesIn K C=true
 kc:keepIn K (.ref C)=true
theorem znE{oc:Value}{od an:Option Addr}{osl:Array (Option Value)}{kV doc pm cdv ct:Value}(a:nsIn K mainGlobals x=some (~~~f))(l:K.lookup f=some ⟨oc,od,.func (fnOf x x (yh st) (ye st) (zk st) .none kV doc pm an cdv ct),osl⟩)
  (c:codeIn K cdv x=true) (k:keepIn K (.ref f)=true):GD K x st f (fnOf x x (yh st) (ye st) (zk st) .none kV doc pm an cdv ct):=⟨a,zhN l c k⟩
theorem znD{oc:Value}{od an:Option Addr}{osl:Array (Option Value)}{kV doc pm cdv ct:Value}(a:findIn K (.ref C) x=some (~~~f))(i:isFn K (.ref f)=true)(l:K.lookup f=some ⟨oc,od,.func (fnOf x q (yh st) (ye st) (zk st) .none kV doc pm an cdv ct),osl⟩)
  (c:codeIn K cdv q=true) (k:keepIn K (.ref f)=true):MD K C x q st f (fnOf x q (yh st) (ye st) (zk st) .none kV doc pm an cdv ct):=⟨⟨a,i,k⟩,zhN l c k⟩
theorem znF{oc oT:Value}{od an dT:Option Addr}{osl sT:Array (Option Value)}{kV doc pm cdv ct d:Value}(a:findIn K (.ref C) x=some (~~~f))(i:isFn K (.ref f)=true)(l:K.lookup f=some ⟨oc,od,.func (fnOf x q (yh st) (ye st) (zk st) (.ref T) kV doc pm an cdv ct),osl⟩)
  (c:codeIn K cdv q=true) (k:keepIn K (.ref f)=true) (t:K.lookup T=some ⟨oT,dT,.seq #[d] n,sT⟩):DD K C x q st f (fnOf x q (yh st) (ye st) (zk st) (.ref T) kV doc pm an cdv ct) [d]:=⟨⟨a,i,k⟩,zjx (items:=[d]) l c k t rfl⟩
theorem znG(a:nsIn K mainGlobals x=some (~~~C))(pg:plainGet K C Str.empty=true)(hd:hasDictIn K C=true)(po:plainOver K C=true)(sa:findIn K (.ref C) "__setattr__"=some (some (.builtin "object.__setattr__")))(mk:makesIn K C=true)(kc:keepIn K (.ref C)=true):CD K x C:=⟨a,⟨pg,hd,po,sa⟩,mk,kc⟩
theorem Fun.b1(F:Fun K x q st f fd)(h:∀(kV doc pm:Value) (an:Option Addr) (cdv ct u:Value),bindArgs (fnOf x q (yh st) (ye st) (zk st) .none kV doc pm an cdv ct) ⟨[u],[]⟩=pure [(p,u)]:=by intros;rfl):zU K fd [p] []:=
 F.binds fun _ _ _ _ _ _ us hl=>match us,hl with|[_],_=>h _ _ _ _ _ _ _
theorem Fun.b2(F:Fun K x q st f fd)(h:∀(kV doc pm:Value) (an:Option Addr) (cdv ct u u2:Value),bindArgs (fnOf x q (yh st) (ye st) (zk st) .none kV doc pm an cdv ct) ⟨[u,u2],[]⟩=pure [(p,u),(p2,u2)]:=by intros;rfl):zU K fd [p,p2] []:=
 F.binds fun _ _ _ _ _ _ us hl=>match us,hl with|[_,_],_=>h _ _ _ _ _ _ _ _
theorem Fun.b3(F:Fun K x q st f fd)(h:∀(kV doc pm:Value) (an:Option Addr) (cdv ct u u2 u3:Value),bindArgs (fnOf x q (yh st) (ye st) (zk st) .none kV doc pm an cdv ct) ⟨[u,u2,u3],[]⟩=pure [(p,u),(p2,u2),(p3,u3)]:=by intros;rfl):zU K fd [p,p2,p3] []:=
 F.binds fun _ _ _ _ _ _ us hl=>match us,hl with|[_,_,_],_=>h _ _ _ _ _ _ _ _ _
theorem Fun.b4(F:Fun K x q st f fd)(h:∀(kV doc pm:Value) (an:Option Addr) (cdv ct u u2 u3 u4:Value),bindArgs (fnOf x q (yh st) (ye st) (zk st) .none kV doc pm an cdv ct) ⟨[u,u2,u3,u4],[]⟩=pure [(p,u),(p2,u2),(p3,u3),(p4,u4)]:=by intros;rfl):zU K fd [p,p2,p3,p4] []:=
 F.binds fun _ _ _ _ _ _ us hl=>match us,hl with|[_,_,_,_],_=>h _ _ _ _ _ _ _ _ _ _
theorem Fun.b5(F:Fun K x q st f fd)(h:∀(kV doc pm:Value) (an:Option Addr) (cdv ct u u2 u3 u4 u5:Value),bindArgs (fnOf x q (yh st) (ye st) (zk st) .none kV doc pm an cdv ct) ⟨[u,u2,u3,u4,u5],[]⟩=pure [(p,u),(p2,u2),(p3,u3),(p4,u4),(p5,u5)]:=by intros;rfl):zU K fd [p,p2,p3,p4,p5] []:=
 F.binds fun _ _ _ _ _ _ us hl=>match us,hl with|[_,_,_,_,_],_=>h _ _ _ _ _ _ _ _ _ _ _
theorem GD.c1(g:GD K x st f fd)(B:TB P w K mg base)(ok:zD P w K mg base CX0 k f fd [p] sp)(h:∀(kV doc pm:Value) (an:Option Addr) (cdv ct u:Value),bindArgs (fnOf x x (yh st) (ye st) (zk st) .none kV doc pm an cdv ct) ⟨[u],[]⟩=pure [(p,u)]:=by intros;rfl):zH P w K mg base k x f fd [p] sp:=⟨ok,B.mgo g.a,g.F.kp,g.F.b1 h⟩
theorem GD.c2(g:GD K x st f fd)(B:TB P w K mg base)(ok:zD P w K mg base CX0 k f fd [p,p2] sp)(h:∀(kV doc pm:Value) (an:Option Addr) (cdv ct u u2:Value),bindArgs (fnOf x x (yh st) (ye st) (zk st) .none kV doc pm an cdv ct) ⟨[u,u2],[]⟩=pure [(p,u),(p2,u2)]:=by intros;rfl):zH P w K mg base k x f fd [p,p2] sp:=⟨ok,B.mgo g.a,g.F.kp,g.F.b2 h⟩
theorem GD.c3(g:GD K x st f fd)(B:TB P w K mg base)(ok:zD P w K mg base CX0 k f fd [p,p2,p3] sp)(h:∀(kV doc pm:Value) (an:Option Addr) (cdv ct u u2 u3:Value),bindArgs (fnOf x x (yh st) (ye st) (zk st) .none kV doc pm an cdv ct) ⟨[u,u2,u3],[]⟩=pure [(p,u),(p2,u2),(p3,u3)]:=by intros;rfl):zH P w K mg base k x f fd [p,p2,p3] sp:=⟨ok,B.mgo g.a,g.F.kp,g.F.b3 h⟩
theorem GD.c4(g:GD K x st f fd)(B:TB P w K mg base)(ok:zD P w K mg base CX0 k f fd [p,p2,p3,p4] sp)(h:∀(kV doc pm:Value) (an:Option Addr) (cdv ct u u2 u3 u4:Value),bindArgs (fnOf x x (yh st) (ye st) (zk st) .none kV doc pm an cdv ct) ⟨[u,u2,u3,u4],[]⟩=pure [(p,u),(p2,u2),(p3,u3),(p4,u4)]:=by intros;rfl):zH P w K mg base k x f fd [p,p2,p3,p4] sp:=⟨ok,B.mgo g.a,g.F.kp,g.F.b4 h⟩
theorem GD.c5(g:GD K x st f fd)(B:TB P w K mg base)(ok:zD P w K mg base CX0 k f fd [p,p2,p3,p4,p5] sp)(h:∀(kV doc pm:Value) (an:Option Addr) (cdv ct u u2 u3 u4 u5:Value),bindArgs (fnOf x x (yh st) (ye st) (zk st) .none kV doc pm an cdv ct) ⟨[u,u2,u3,u4,u5],[]⟩=pure [(p,u),(p2,u2),(p3,u3),(p4,u4),(p5,u5)]:=by intros;rfl):zH P w K mg base k x f fd [p,p2,p3,p4,p5] sp:=⟨ok,B.mgo g.a,g.F.kp,g.F.b5 h⟩
theorem GD.law(g:GD K x st f fd)(h:∀(kV doc pm:Value) (an:Option Addr) (cdv ct u:Value),bindArgs (fnOf x x (yh st) (ye st) (zk st) .none kV doc pm an cdv ct) ⟨[u],[]⟩=pure [(p,u)]:=by intros;rfl):∀(s:Shared) (v:Value),BindsTo s fd ⟨[v],[]⟩ [(p,v)]:=by
 obtain⟨oc,od,kV,doc,pm,an,cdv,ct,osl,rfl,lk,hcd⟩:=g.F.ex;exact fun s v=>.of_eq (h kV doc pm an cdv ct v)
theorem DD.b0{d:Value}(D:DD K C x q st f fd [d])(h:∀(T:Addr) (kV doc pm:Value) (an:Option Addr) (cdv ct u u2 u3:Value),∃k:Option (Array Value)->Sem (List (Str×Value)),bindArgs (fnOf x q (yh st) (ye st) (zk st) (.ref T) kV doc pm an cdv ct) ⟨[u,u2,u3],[]⟩=seqItems? (.ref T) >>= k/\k (some [d].toArray)=pure [(p,u),(p2,u2),(p3,u3)]:=by exact fun _ _ _ _ _ _ _ _ _ _=>⟨_,rfl,rfl⟩):zU K fd [p,p2,p3] []:=
 fun _ us KX hl=>match us,hl with|[_,_,_],_=>D.F.bindsTo (fun _ _ _ _ _ _ _=>h _ _ _ _ _ _ _ _ _ _) KX
theorem DD.b1{d:Value}(D:DD K C x q st f fd [d])(h:∀(T:Addr) (kV doc pm:Value) (an:Option Addr) (cdv ct u u2:Value),∃k:Option (Array Value)->Sem (List (Str×Value)),bindArgs (fnOf x q (yh st) (ye st) (zk st) (.ref T) kV doc pm an cdv ct) ⟨[u,u2],[]⟩=seqItems? (.ref T) >>= k/\k (some [d].toArray)=pure [(p,u),(p2,u2),(p3,d)]:=by exact fun _ _ _ _ _ _ _ _ _=>⟨_,rfl,rfl⟩):zU K fd [p,p2,p3] [d]:=
 fun _ us KX hl=>match us,(show us.length=2 by simpa using hl) with|[_,_],_=>D.F.bindsTo (fun _ _ _ _ _ _ _=>h _ _ _ _ _ _ _ _ _) KX
end
end L2
namespace L2
open PySem PyProof.Rows
section
variable {mg:Str->Option Value}{sp:Sp}{k n:Nat}
theorem Fun.b6{K:Frag}{x q p p2 p3 p4 p5:Str}{st:Stmt}{f:Addr}{fd:FuncData}{p6:Str}(F:Fun K x q st f fd)(h:∀(kV doc pm:Value) (an:Option Addr) (cdv ct u u2 u3 u4 u5 u6:Value),bindArgs (fnOf x q (yh st) (ye st) (zk st) .none kV doc pm an cdv ct) ⟨[u,u2,u3,u4,u5,u6],[]⟩=pure [(p,u),(p2,u2),(p3,u3),(p4,u4),(p5,u5),(p6,u6)]:=by intros;rfl):zU K fd [p,p2,p3,p4,p5,p6] []:=
 F.binds fun _ _ _ _ _ _ us hl=>match us,hl with|[_,_,_,_,_,_],_=>h _ _ _ _ _ _ _ _ _ _ _ _
theorem GD.c6{P:Program}{w:World}{K:Frag}{base:Heap}{x p p2 p3 p4 p5:Str}{st:Stmt}{f:Addr}{fd:FuncData}{p6:Str}(g:GD K x st f fd)(B:TB P w K mg base)(ok:zD P w K mg base CX0 k f fd [p,p2,p3,p4,p5,p6] sp)(h:∀(kV doc pm:Value) (an:Option Addr) (cdv ct u u2 u3 u4 u5 u6:Value),bindArgs (fnOf x x (yh st) (ye st) (zk st) .none kV doc pm an cdv ct) ⟨[u,u2,u3,u4,u5,u6],[]⟩=pure [(p,u),(p2,u2),(p3,u3),(p4,u4),(p5,u5),(p6,u6)]:=by intros;rfl):zH P w K mg base k x f fd [p,p2,p3,p4,p5,p6] sp:=⟨ok,B.mgo g.a,g.F.kp,g.F.b6 h⟩
end
end L2
namespace PySem.W.Fast
def tw8208343073257290415:=()
def tw17640529469571121606:=()
def tw7031276948506545156:=()
def tw16466672788838958941:=()
def tw11740486369395849868:=()
def tw13048016320026005721:=()
def tw786242669048301158:=()
def tw14729981225099284594:=()
def tw11988983214523333288:=()
def tw5046078084489491277:=()
def tw3425938977395114439:=()
def tw16958678524558939568:=()
def tw4538609269075213832:=()
def tw4313795391459836754:=()
def tw116050169683838764:=()
def tw8176017722432581640:=()
def tw16697304848829606084:=()
def tw5590101243861223544:=()
def tw6028167461264178765:=()
def tw16490026306297511082:=()
def tw5588464004764283483:=()
def tw11116572635349122958:=()
def tw14750238313222881864:=()
def tw12444920425097358535:=()
def tw8095761832941490316:=()
def tw296908271966960663:=()
def tw18035794751369097577:=()
def tw4514328831784608250:=()
def tw15834440777975370045:=()
def tw1394520848935297152:=()
def tw17926863617875152694:=()
def tw13283918586371681959:=()
def tw16804848260323378158:=()
def tw8822566188455863733:=()
def tw251539391863973499:=()
def tw5009468254844473887:=()
def tw7110176029563106389:=()
def tw10315102012773724026:=()
def tw13528248319278905347:=()
def tw1556936213485265003:=()
def tw15999701036049283174:=()
def tw2799565403365400072:=()
def tw10958826450964608387:=()
def tw3261179050399270329:=()
def tw2807397875739122439:=()
def tw4441888174451558036:=()
def tw14671668606646866306:=()
def tw9519540100095460613:=()
def tw17759644754300249710:=()
def tw13304126544685292038:=()
def tw15809591082402167895:=()
def tw16229215132567890964:=()
def tw3839828732097446385:=()
def tw2705702132324271854:=()
def tw11759246964716611060:=()
def tw15346311289045639757:=()
def tw15127777995333276272:=()
def tw3927295921500145327:=()
def tw6247674699372344141:=()
def tw2141821022643791271:=()
def tw1497232950696742953:=()
def tw3764367660333428503:=()
def tw10382306316296444079:=()
def tw14450706106055208028:=()
def tw15276316250887157831:=()
def tw6679626180808352125:=()
def tw3746103441011299477:=()
def tw8604601755523154701:=()
def tw9206476245559362559:=()
def tw2703442785366800354:=()
def tw6234452237370908339:=()
def tw8373417498269173131:=()
def tw4240813033295026038:=()
def tw6003505638126213006:=()
def tw239343775430224647:=()
def tw2958763455256529567:=()
def tw5272476927831589056:=()
def tw12967499047982276520:=()
def tw9615310792607054027:=()
def tw12100979615014202729:=()
def tw17212399445023958212:=()
def tw6444696342842580508:=()
def tw17409567014403363316:=()
def tw1535931572997560587:=()
def tw10717381477100608109:=()
def tw15548744877886244852:=()
def tw10436991947596972976:=()
def tw2784863956609609802:=()
def tw4798310121478440882:=()
def tw3854814164603932215:=()
def tw12100698883049506975:=()
def tw6384175924990148409:=()
def tw8323236219114004477:=()
def tw5905116871520898775:=()
def tw11510045966417627632:=()
def tw9498801712052632437:=()
def tw11270135582876770387:=()
def tw10905192703212624884:=()
def tw8194808165354019012:=()
def tw14747474264395660211:=()
def tw12957060320150522144:=()
def tw2630518907377040599:=()
def tw18257341460276565819:=()
def tw18117076510445342744:=()
def tw7261362934009122297:=()
def tw3204569989092214224:=()
def tw3635647537534267253:=()
def tw15097082611532389762:=()
def tw10970166126021135689:=()
def tw1251199068303965813:=()
def tw10277571380649636694:=()
def tw8715959805469197191:=()
def tw14798665156180274497:=()
def tw8460671277256392878:=()
def tw4606693614360299573:=()
def tw1168018705165912438:=()
def tw7141817630764264984:=()
def tw3735814149519874446:=()
def tw15602998258348845114:=()
def tw1060183928507001455:=()
def tw14234621344177958603:=()
def tw12671220086984104959:=()
def tw12185212881887058494:=()
def tw6699745533278422435:=()
def tw16492366937264396326:=()
def tw3061632909791487596:=()
def tw5723994006839355655:=()
def tw3931897445273292580:=()
def tw15628368555377998293:=()
def tw2933276091296178559:=()
def tw11249576148969398696:=()
def tw15629054076829443895:=()
def tw17342000829555025146:=()
def tw7168122521543556972:=()
def tw6739347220294654031:=()
def tw9633350650196075667:=()
def tw9478464930108729280:=()
def tw14460636031111304818:=()
def tw1778333649291686323:=()
def tw17950806659841805056:=()
def tw14159202700531351056:=()
def tw7008425875013639456:=()
def tw14692182762429857334:=()
def tw3162480247359387573:=()
def tw12237314757965397265:=()
def tw1327108194511459972:=()
def tw4444504357290358669:=()
def tw4587999362227811422:=()
def tw11076467686182613904:=()
def tw8634615978960961589:=()
def tw401118500327676795:=()
def tw5420481741905396608:=()
def tw12949481603599862999:=()
def tw15962208200794017956:=()
def tw13137072332540623580:=()
def tw11109003716535518550:=()
def tw6837090155668635592:=()
def tw627601150870608787:=()
def tw16681202928812876304:=()
def tw2363290520674301866:=()
def tw8685945623577227342:=()
def tw10462643838410136304:=()
def tw7665730995654278680:=()
def tw3764764394180123491:=()
def tw1648945375004899310:=()
def tw1931147176097553168:=()
def tw5064633810310489802:=()
def tw15961212895882178672:=()
def tw4109163606896485924:=()
def tw6295308621026333873:=()
def tw70879261172728354:=()
def tw7511588307968253501:=()
def tw15116827487917547156:=()
def tw700170211110188382:=()
def tw978909376190752707:=()
def tw7543860664921112839:=()
def tw12067410497647037154:=()
def tw10959391514149209256:=()
def tw4754214258710455575:=()
def tw15769964222088080932:=()
def tw2169124987065754909:=()
def tw5418532411657933379:=()
def tw15664709956549439235:=()
def tw17396455912723954384:=()
def tw1584203546609890477:=()
def tw3126903498497067188:=()
def tw247446777215894704:=()
def tw14658055678088114284:=()
def tw11177945122538073419:=()
def tw4257120055109640783:=()
def tw16471283383311008552:=()
def tw6873829696531520595:=()
def tw6180563275911673598:=()
def tw10417624456495948778:=()
def tw7804008299721986027:=()
def tw7741398794727290800:=()
def tw2626121450865042897:=()
def tw12285355824674051942:=()
def tw827701668496073782:=()
def tw483654493103661795:=()
def tw5401575591685900676:=()
def tw8296262185898261281:=()
def tw2386535218760232577:=()
def tw17295480509591006076:=()
def tw13559406500855312952:=()
def tw8029504783900741947:=()
def tw5113719141162753289:=()
def tw1185004680329252837:=()
def tw5870685664621055321:=()
def tw12897874654505367668:=()
def tw17481558469780662240:=()
def tw17898293557619744090:=()
def tw5023727021596895970:=()
def tw7088509534262559860:=()
def tw8592518566940224670:=()
def tw8560132139963557706:=()
def tw14519203021971201928:=()
def tw13531944112192928645:=()
def tw378731508047872010:=()
def tw15437203537812221640:=()
def tw11201557343171143526:=()
def tw10919685359525053908:=()
def tw12196895991899077467:=()
def tw3215401381498512045:=()
def tw9456009207962499789:=()
def tw3290991099079700088:=()
def tw11242043785042899940:=()
def tw5509312090656143794:=()
def tw11081937250623685195:=()
def tw6159715872802763248:=()
def tw13307796435138259304:=()
def tw6746192300923333178:=()
def tw4170223805127725097:=()
def tw15975645809665946643:=()
def tw5324330275942484717:=()
def tw7857980236416458466:=()
def tw12094259262680232270:=()
def tw17561793574921920427:=()
def tw14177371524686447882:=()
def tw1929484699353151280:=()
def tw14248320053886905188:=()
def tw10271329643292759844:=()
def tw7915923576129676055:=()
def tw740293818314529940:=()
def tw18119490385568782753:=()
def tw6766131778907571498:=()
def tw2072254854696173742:=()
def tw8087083571251661231:=()
end PySem.W.Fast
namespace K64
open PySem L2 PyProof.Rows
theorem zjp{w:World}{K:Frag}{Gr:Addr}{es:Array DictEntry}{n:Nat}{t0 t1 t2 t3 t4:Tok}(hl:K.lookup Gr=some ⟨.type "dict",none,.dict es n,#[]⟩)(hk:KeysLit w.params es.toList)(h0:nsIn K Gr "seat"=some (some (.int 0 t0)))(h1:nsIn K Gr "both"=some (some (.int 0 t1)))(h2:nsIn K Gr "tail"=some (some (.int 1 t2)))
  (h3:nsIn K Gr "tag"=some (some (.int 2 t3))) (h4:nsIn K Gr "bag"=some (some (.int 3 t4))):zlA w K Gr zjr:=by
 exists ⟨es,n,hl,hk⟩,fun x v h=>?_;unfold zjr at h;by_cases e0:x="seat"
 ·subst e0;rw[lookup_cons_self] at h;cases h;exact⟨_,h0,_,rfl⟩
 rw[lookup_cons,beq_eq_false_iff_ne.mpr e0] at h;by_cases e1:x="both"
 ·subst e1;rw[lookup_cons_self] at h;cases h;exact⟨_,h1,_,rfl⟩
 rw[lookup_cons,beq_eq_false_iff_ne.mpr e1] at h;by_cases e2:x="tail"
 ·subst e2;rw[lookup_cons_self] at h;cases h;exact⟨_,h2,_,rfl⟩
 rw[lookup_cons,beq_eq_false_iff_ne.mpr e2] at h;by_cases e3:x="tag"
 ·subst e3;rw[lookup_cons_self] at h;cases h;exact⟨_,h3,_,rfl⟩
 rw[lookup_cons,beq_eq_false_iff_ne.mpr e3] at h;by_cases e4:x="bag"
 ·subst e4;rw[lookup_cons_self] at h;cases h;exact⟨_,h4,_,rfl⟩
 rw[lookup_cons,beq_eq_false_iff_ne.mpr e4] at h;cases h
theorem znr{l:PySem.W.OpenLaw}{w:World}{K:Frag}{h:Heap}{mg:Str->Option Value}{fa D C0 C1 C2 C3 C4 FM f1 f2 f3 f4 f5 f6 f7 f8 f9 f10 f11 f12 f13 f14 f15 f16 f17 f18 f19 f20 f21 f22 f23 f24 f25 f26 f27 f28 PT f29 f30 f31 f32 f33 f34 f35 f36 f37 f38 f39 f40 f41 f42 f43 f44 f45 f46 f47 f48 f49 f50 f51 f52 f53 f54 f55 f56 f57 f58 f59 f60 f61 f62 f63 f64 f65 f66 f67 f68 f69 f70 f71 f72 f73 f74 f75 f76 CE E9 E10 E11 E12 E13 E14 E15:Addr}{e1 e2 e3 e4 e5 e6 e7 e8 e9 e10 e11 e12 e13 e14 e15 e16 e17 e18 e19 e20 e21 e22 e23 e24 e25 e26 e27 e28 e29 e30 e31 e32 e33 e34 e35 e36 e37 e38 e39 e40 e41 e42 e43 e44 e45 e46 e47 e48 e49 e50 e51 e52 e53 e54 e55 e56 e57 e58 e59 e60 e61 e62 e63 e64 e65 e66 e67 e68 e69 e70 e71 e72 e73 e74 e75 e76:FuncData}{tP tB tO sg Gr:Addr}{tL tN tMP tMB ktP0 ktP1 ktB0 ktB1 ktO0 ktO1 ktO2 ksg0 ksg1 kG0 kG1 kG2 kG3 kG4:Tok}{odtP odtB odtO odsg:Option Addr}{ntP ntB ntO nsg nG:Nat}{sltP sltB sltO slsg:Array (Option Value)}{esG:Array DictEntry}(X:K.In h)(G:h.Ns mainGlobals mg)(hfa:mg "law"= ~~~fa)
  (cD:CD K "Parameter" D)
  (cC0:CD K "Seat" C0)
  (nC0:findIn K (.ref C0) "word"=some none/\findIn K (.ref C0) "name"=some none/\findIn K (.ref C0) "may_lack"=some none)
  (cC1:CD K "Both" C1)
  (nC1:findIn K (.ref C1) "word"=some none/\findIn K (.ref C1) "name"=some none/\findIn K (.ref C1) "may_lack"=some none)
  (cC2:CD K "Tail" C2)
  (nC2:findIn K (.ref C2) "word"=some none/\findIn K (.ref C2) "name"=some none/\findIn K (.ref C2) "may_lack"=some none)
  (cC3:CD K "Tag" C3)
  (nC3:findIn K (.ref C3) "word"=some none/\findIn K (.ref C3) "name"=some none/\findIn K (.ref C3) "may_lack"=some none)
  (cC4:CD K "Bag" C4)
  (nC4:findIn K (.ref C4) "word"=some none/\findIn K (.ref C4) "name"=some none/\findIn K (.ref C4) "may_lack"=some none)
  (cFM:CD K "Form" FM)
  (nFM:findIn K (.ref FM) "row"=some none/\findIn K (.ref FM) "bar_names"=some none/\findIn K (.ref FM) "place_count"=some none/\findIn K (.ref FM) "tail_number"=some none/\findIn K (.ref FM) "bag_number"=some none/\findIn K (.ref FM) "doors"=some none)
  (g1:GD K "is_name" sIs f1 e1)
  (g2:MD K D "__init__" "Parameter.__init__" zcW f2 e2)
  (g3:MD K D "free" "Parameter.free" zgm f3 e3)
  (g4:MD K D "by_place" "Parameter.by_place" qA f4 e4)
  (g5:MD K D "by_name" "Parameter.by_name" zbn f5 e5)
  (g6:MD K D "takes_one" "Parameter.takes_one" zkD f6 e6)
  (g7:MD K D "told" "Parameter.told" zl3 f7 e7)
  (g8:DD K C0 "__init__" "Seat.__init__" zgd f8 e8 [Value.bool false])
  (g9:DD K C1 "__init__" "Both.__init__" zgt f9 e9 [Value.bool false])
  (g10:MD K C2 "__init__" "Tail.__init__" zgb f10 e10)
  (g11:DD K C3 "__init__" "Tag.__init__" zkE f11 e11 [Value.bool false])
  (g12:MD K C4 "__init__" "Bag.__init__" zkM f12 e12)
  (g13:DD K FM "__init__" "Form.__init__" zc6 f13 e13 [Value.none])
  (g14:MD K FM "keep" "Form.keep" zgk f14 e14)
  (g15:MD K FM "parameters" "Form.parameters" zc5 f15 e15)
  (g16:MD K FM "bars" "Form.bars" zc8 f16 e16)
  (g17:MD K FM "places" "Form.places" qz f17 e17)
  (g18:MD K FM "tail" "Form.tail" zc4 f18 e18)
  (g19:MD K FM "bag" "Form.bag" zgr f19 e19)
  (g20:MD K FM "number_of" "Form.number_of" zgq f20 e20)
  (g21:MD K FM "told" "Form.told" zkK f21 e21)
  (g22:GD K "parameter_of" zkG f22 e22)
  (g23:GD K "refuse_too_many" zcU f23 e23)
  (g24:GD K "refuse_bad_order" zbg f24 e24)
  (g25:GD K "refuse_bars_without_name" zcV f25 e25)
  (g26:GD K "refuse_twice" zbf f26 e26)
  (g27:GD K "number_of_word" zgg f27 e27)
  (yM:nsIn K mainGlobals "Misfit"=some (~~~E15))
  (g28:MD K E15 "__init__" "Misfit.__init__" zf8 f28 e28)
  (cPT:CD K "Part" PT)
  (nPT:findIn K (.ref PT) "kept_form"=some none/\findIn K (.ref PT) "things"=some none/\findIn K (.ref PT) "pairs"=some none)
  (g29:MD K PT "__init__" "Part.__init__" zbj f29 e29)
  (g30:MD K PT "whole" "Part.whole" qv f30 e30)
  (g31:MD K PT "further" "Part.further" uR f31 e31)
  (g32:MD K PT "left" "Part.left" zbi f32 e32)
  (g33:GD K "laid" zgi f33 e33)
  (g34:GD K "misfits" qw f34 e34)
  (g35:GD K "shape" zcS f35 e35)
  (g36:GD K "first_numbers" zbl f36 e36)
  (g37:GD K "misfits_of" zkI f37 e37)
  (g38:GD K "overs" zcX f38 e38)
  (g39:GD K "unwelcomes" zkC f39 e39)
  (g40:GD K "lackings" zgj f40 e40)
  (g41:GD K "one_entry" zgf f41 e41)
  (g42:GD K "refuse" zbe f42 e42)
  (g43:GD K "refuse_first_things" zbh f43 e43)
  (g44:GD K "call_of" sOf f44 e44)
  (g45:GD K "_law_nth" zkH f45 e45)
  (g46:GD K "_law_stirred" zgc f46 e46)
  (g47:GD K "_law_strewn" zbb f47 e47)
  (g48:GD K "_law_digits" zbm f48 e48)
  (g49:GD K "_law_word" zf9 f49 e49)
  (g50:GD K "_law_pool" zge f50 e50)
  (g51:GD K "_law_row" zkF f51 e51)
  (g52:GD K "_law_bars" zgu f52 e52)
  (g53:GD K "_law_form" zgn f53 e53)
  (g54:GD K "_law_row_at" zbd f54 e54)
  (g55:GD K "_law_item" zgl f55 e55)
  (g56:GD K "_law_items" zc2 f56 e56)
  (g57:GD K "_law_laid" zc0 f57 e57)
  (g58:GD K "_law_is_tame" zga f58 e58)
  (g59:GD K "_law_tamed" zcP f59 e59)
  (g60:GD K "_law_further" qx f60 e60)
  (g61:GD K "_law_free_shape" zc3 f61 e61)
  (g62:GD K "_law_call" zc1 f62 e62)
  (g63:GD K "_law_made" zcZ f63 e63)
  (g64:GD K "_law_due" zkL f64 e64)
  (g65:GD K "_law_same_left" zcT f65 e65)
  (g66:GD K "_law_left_again" zbk f66 e66)
  (g67:GD K "_law_load" zgh f67 e67)
  (g68:GD K "_law_shapes" zbc f68 e68)
  (g69:GD K "fits" zgo f69 e69)
  (g70:GD K "first_both" zc7 f70 e70)
  (g71:GD K "told_form" zcO f71 e71)
  (g72:GD K "left_behind" zcY f72 e72)
  (g73:GD K "tail_left" zcQ f73 e73)
  (g74:GD K "tags_left" zcR f74 e74)
  (g75:GD K "bag_of" zc9 f75 e75)
  (g76:GD K "law" zkJ f76 e76)
  (zisinstance:nsIn K mainGlobals "isinstance"=some none)
  (zstr:nsIn K mainGlobals "str"=some none)
  (zbool:nsIn K mainGlobals "bool"=some none)
  (zlen:nsIn K mainGlobals "len"=some none)
  (zall:nsIn K mainGlobals "all"=some none)
  (zrange:nsIn K mainGlobals "range"=some none)
  (zlist:nsIn K mainGlobals "list"=some none)
  (zenumerate:nsIn K mainGlobals "enumerate"=some none)
  (zset:nsIn K mainGlobals "set"=some none)
  (zint:nsIn K mainGlobals "int"=some none)
  (ztuple:nsIn K mainGlobals "tuple"=some none)
  (zmax:nsIn K mainGlobals "max"=some none)
  (zany:nsIn K mainGlobals "any"=some none)
  (gL:nsIn K mainGlobals "LETTERS"=some (some (.str letters tL)))
  (gN:nsIn K mainGlobals "LONGEST"=some (some (.int 8 tN)))
  (gMP:nsIn K mainGlobals "MOST_PARAMETERS"=some (some (.int 24 tMP)))
  (gMB:nsIn K mainGlobals "MOST_BARS"=some (some (.int 60 tMB)))
  (ytP:nsIn K mainGlobals "BY_PLACE"=some (~~~tP))
  (utP:K.lookup tP=some ⟨.type "tuple",odtP,.seq #[.str "seat" ktP0,.str "both" ktP1] ntP,sltP⟩)
  (ytB:nsIn K mainGlobals "BY_NAME"=some (~~~tB))
  (utB:K.lookup tB=some ⟨.type "tuple",odtB,.seq #[.str "both" ktB0,.str "tag" ktB1] ntB,sltB⟩)
  (ytO:nsIn K mainGlobals "OF_ONE_THING"=some (~~~tO))
  (utO:K.lookup tO=some ⟨.type "tuple",odtO,.seq #[.str "seat" ktO0,.str "both" ktO1,.str "tag" ktO2] ntO,sltO⟩)
  (ysg:nsIn K mainGlobals "SINGLE_GROUPS"=some (~~~sg))
  (usg:K.lookup sg=some ⟨.type "tuple",odsg,.seq #[.int 1 ksg0,.int 3 ksg1] nsg,slsg⟩)
  (yGr:nsIn K mainGlobals "GROUPS"=some (~~~Gr))
  (lGr:K.lookup Gr=some ⟨.type "dict",none,.dict esG nG,#[]⟩)
  (kGr:KeysLit w.params esG.toList)
  (eG0:nsIn K Gr "seat"=some (some (.int 0 kG0)))
  (eG1:nsIn K Gr "both"=some (some (.int 0 kG1)))
  (eG2:nsIn K Gr "tail"=some (some (.int 1 kG2)))
  (eG3:nsIn K Gr "tag"=some (some (.int 2 kG3)))
  (eG4:nsIn K Gr "bag"=some (some (.int 3 kG4)))
  (dga:zah K D "__init__" f2)
  (h0:findIn K (.ref C0) "free"=some (~~~f3)/\findIn K (.ref C0) "by_place"=some (~~~f4)/\findIn K (.ref C0) "by_name"=some (~~~f5)/\findIn K (.ref C0) "takes_one"=some (~~~f6)/\findIn K (.ref C0) "told"=some (~~~f7))
  (h1:findIn K (.ref C1) "free"=some (~~~f3)/\findIn K (.ref C1) "by_place"=some (~~~f4)/\findIn K (.ref C1) "by_name"=some (~~~f5)/\findIn K (.ref C1) "takes_one"=some (~~~f6)/\findIn K (.ref C1) "told"=some (~~~f7))
  (h2:findIn K (.ref C2) "free"=some (~~~f3)/\findIn K (.ref C2) "by_place"=some (~~~f4)/\findIn K (.ref C2) "by_name"=some (~~~f5)/\findIn K (.ref C2) "takes_one"=some (~~~f6)/\findIn K (.ref C2) "told"=some (~~~f7))
  (h3:findIn K (.ref C3) "free"=some (~~~f3)/\findIn K (.ref C3) "by_place"=some (~~~f4)/\findIn K (.ref C3) "by_name"=some (~~~f5)/\findIn K (.ref C3) "takes_one"=some (~~~f6)/\findIn K (.ref C3) "told"=some (~~~f7))
  (h4:findIn K (.ref C4) "free"=some (~~~f3)/\findIn K (.ref C4) "by_place"=some (~~~f4)/\findIn K (.ref C4) "by_name"=some (~~~f5)/\findIn K (.ref C4) "takes_one"=some (~~~f6)/\findIn K (.ref C4) "told"=some (~~~f7))
  (yCE:nsIn K mainGlobals "CallError"=some (~~~CE))
  (xg:specialIn K (.builtin "object.__class__") "__get__"=some (some (.builtin "getset_descriptor.__get__"))/\PySem.W.takesIn K (.builtin "object.__class__")=some true)
  (yE9:nsIn K mainGlobals "Doubled"=some (~~~E9))
  (yE10:nsIn K mainGlobals "Over"=some (~~~E10))
  (yE11:nsIn K mainGlobals "Barred"=some (~~~E11))
  (yE12:nsIn K mainGlobals "Again"=some (~~~E12))
  (yE13:nsIn K mainGlobals "Strange"=some (~~~E13))
  (yE14:nsIn K mainGlobals "Lacking"=some (~~~E14))
  (ec9:(clsIn K E9).isSome=true/\L2.zic K E9=true/\L2.zlD K E9=true)
  (ec10:(clsIn K E10).isSome=true/\L2.zic K E10=true/\L2.zlD K E10=true)
  (ec11:(clsIn K E11).isSome=true/\L2.zic K E11=true/\L2.zlD K E11=true)
  (ec12:(clsIn K E12).isSome=true/\L2.zic K E12=true/\L2.zlD K E12=true)
  (ec13:(clsIn K E13).isSome=true/\L2.zic K E13=true/\L2.zlD K E13=true)
  (ec14:(clsIn K E14).isSome=true/\L2.zic K E14=true/\L2.zlD K E14=true)
  (ea9:findIn K (.ref E9) "__getattribute__"=some (some (.builtin "BaseException.__getattribute__"))/\findIn K (.ref E9) "__getattr__"=some none/\findIn K (.ref E9) "__class__"=some (some (.builtin "object.__class__"))/\mroIn K E9 (.type "BaseException")=some true/\mroIn K E9 (.type "object")=some true/\keepIn K (.ref E9)=true/\findIn K (.ref E9) "__init__"=some (~~~f28)/\specialIn K (.ref E9) "__call__"=some (some (.builtin "type.__call__"))/\instIn K (.ref E9) (.type "type")=some true/\findIn K (.ref E9) "__setattr__"=some (some (.builtin "object.__setattr__"))/\findIn K (.ref E9) "number"=some none)
  (ea10:findIn K (.ref E10) "__getattribute__"=some (some (.builtin "BaseException.__getattribute__"))/\findIn K (.ref E10) "__getattr__"=some none/\findIn K (.ref E10) "__class__"=some (some (.builtin "object.__class__"))/\mroIn K E10 (.type "BaseException")=some true/\mroIn K E10 (.type "object")=some true/\keepIn K (.ref E10)=true/\findIn K (.ref E10) "__init__"=some (~~~f28)/\specialIn K (.ref E10) "__call__"=some (some (.builtin "type.__call__"))/\instIn K (.ref E10) (.type "type")=some true/\findIn K (.ref E10) "__setattr__"=some (some (.builtin "object.__setattr__"))/\findIn K (.ref E10) "number"=some none)
  (ea11:findIn K (.ref E11) "__getattribute__"=some (some (.builtin "BaseException.__getattribute__"))/\findIn K (.ref E11) "__getattr__"=some none/\findIn K (.ref E11) "__class__"=some (some (.builtin "object.__class__"))/\mroIn K E11 (.type "BaseException")=some true/\mroIn K E11 (.type "object")=some true/\keepIn K (.ref E11)=true/\findIn K (.ref E11) "__init__"=some (~~~f28)/\specialIn K (.ref E11) "__call__"=some (some (.builtin "type.__call__"))/\instIn K (.ref E11) (.type "type")=some true/\findIn K (.ref E11) "__setattr__"=some (some (.builtin "object.__setattr__"))/\findIn K (.ref E11) "number"=some none)
  (ea12:findIn K (.ref E12) "__getattribute__"=some (some (.builtin "BaseException.__getattribute__"))/\findIn K (.ref E12) "__getattr__"=some none/\findIn K (.ref E12) "__class__"=some (some (.builtin "object.__class__"))/\mroIn K E12 (.type "BaseException")=some true/\mroIn K E12 (.type "object")=some true/\keepIn K (.ref E12)=true/\findIn K (.ref E12) "__init__"=some (~~~f28)/\specialIn K (.ref E12) "__call__"=some (some (.builtin "type.__call__"))/\instIn K (.ref E12) (.type "type")=some true/\findIn K (.ref E12) "__setattr__"=some (some (.builtin "object.__setattr__"))/\findIn K (.ref E12) "number"=some none)
  (ea13:findIn K (.ref E13) "__getattribute__"=some (some (.builtin "BaseException.__getattribute__"))/\findIn K (.ref E13) "__getattr__"=some none/\findIn K (.ref E13) "__class__"=some (some (.builtin "object.__class__"))/\mroIn K E13 (.type "BaseException")=some true/\mroIn K E13 (.type "object")=some true/\keepIn K (.ref E13)=true/\findIn K (.ref E13) "__init__"=some (~~~f28)/\specialIn K (.ref E13) "__call__"=some (some (.builtin "type.__call__"))/\instIn K (.ref E13) (.type "type")=some true/\findIn K (.ref E13) "__setattr__"=some (some (.builtin "object.__setattr__"))/\findIn K (.ref E13) "number"=some none)
  (ea14:findIn K (.ref E14) "__getattribute__"=some (some (.builtin "BaseException.__getattribute__"))/\findIn K (.ref E14) "__getattr__"=some none/\findIn K (.ref E14) "__class__"=some (some (.builtin "object.__class__"))/\mroIn K E14 (.type "BaseException")=some true/\mroIn K E14 (.type "object")=some true/\keepIn K (.ref E14)=true/\findIn K (.ref E14) "__init__"=some (~~~f28)/\specialIn K (.ref E14) "__call__"=some (some (.builtin "type.__call__"))/\instIn K (.ref E14) (.type "type")=some true/\findIn K (.ref E14) "__setattr__"=some (some (.builtin "object.__setattr__"))/\findIn K (.ref E14) "number"=some none)
  (k9:kitOne K (.ref E9) (.ref E9)=some true/\kitOne K (.ref E9) (.ref E10)=some false/\kitOne K (.ref E9) (.ref E11)=some false/\kitOne K (.ref E9) (.ref E12)=some false/\kitOne K (.ref E9) (.ref E13)=some false/\kitOne K (.ref E9) (.ref E14)=some false)
  (k10:kitOne K (.ref E10) (.ref E9)=some false/\kitOne K (.ref E10) (.ref E10)=some true/\kitOne K (.ref E10) (.ref E11)=some false/\kitOne K (.ref E10) (.ref E12)=some false/\kitOne K (.ref E10) (.ref E13)=some false/\kitOne K (.ref E10) (.ref E14)=some false)
  (k11:kitOne K (.ref E11) (.ref E9)=some false/\kitOne K (.ref E11) (.ref E10)=some false/\kitOne K (.ref E11) (.ref E11)=some true/\kitOne K (.ref E11) (.ref E12)=some false/\kitOne K (.ref E11) (.ref E13)=some false/\kitOne K (.ref E11) (.ref E14)=some false)
  (k12:kitOne K (.ref E12) (.ref E9)=some false/\kitOne K (.ref E12) (.ref E10)=some false/\kitOne K (.ref E12) (.ref E11)=some false/\kitOne K (.ref E12) (.ref E12)=some true/\kitOne K (.ref E12) (.ref E13)=some false/\kitOne K (.ref E12) (.ref E14)=some false)
  (k13:kitOne K (.ref E13) (.ref E9)=some false/\kitOne K (.ref E13) (.ref E10)=some false/\kitOne K (.ref E13) (.ref E11)=some false/\kitOne K (.ref E13) (.ref E12)=some false/\kitOne K (.ref E13) (.ref E13)=some true/\kitOne K (.ref E13) (.ref E14)=some false)
  (k14:kitOne K (.ref E14) (.ref E9)=some false/\kitOne K (.ref E14) (.ref E10)=some false/\kitOne K (.ref E14) (.ref E11)=some false/\kitOne K (.ref E14) (.ref E12)=some false/\kitOne K (.ref E14) (.ref E13)=some false/\kitOne K (.ref E14) (.ref E14)=some true)
  (em9:exmOne K (.ref E9) (.ref CE)=some true)
  (em10:exmOne K (.ref E10) (.ref CE)=some true)
  (em11:exmOne K (.ref E11) (.ref CE)=some true)
  (em12:exmOne K (.ref E12) (.ref CE)=some true)
  (em13:exmOne K (.ref E13) (.ref CE)=some true)
  (em14:exmOne K (.ref E14) (.ref CE)=some true)
  : ∃fd:FuncData,(∀(s:Shared) (v:Value),BindsTo s fd ⟨[v],[]⟩ [("_law_script",v)])/\∀base:Heap,K.In base->base.Ns mainGlobals mg->zD l.prog w K mg base CX0 11 fa fd ["_law_script"] (za3 K):=by
 have e:=hfa.symm.trans (mg_of X G g76.a);cases e;have no:∀{x:Str},nsIn K mainGlobals x=some none->mg x=none:=fun z=>PySem.W.mg_none_of X G z;have T:zmE K mg:=⟨no zisinstance,no zstr,no zbool,no zlen,no zall,no zrange,⟨tL,mg_of X G gL⟩,⟨tN,mg_of X G gN⟩,j3 K,zdm K,zcg K,zce K,zbt K,zcf K,zdl K,zbu K⟩;have Wd:Wds K mg tP tB tO:=⟨mg_of X G ytP,mg_of X G ytB,mg_of X G ytO,fun H=>.inr ⟨_,_,_,utP,rfl,rfl,yA,.cons ⟨_,rfl⟩ (.cons ⟨_,rfl⟩ (.nil))⟩,fun H=>.inr ⟨_,_,_,utB,rfl,rfl,yA,.cons ⟨_,rfl⟩ (.cons ⟨_,rfl⟩ (.nil))⟩,fun H=>.inr ⟨_,_,_,utO,rfl,rfl,jx,.cons ⟨_,rfl⟩ (.cons ⟨_,rfl⟩ (.cons ⟨_,rfl⟩ (.nil)))⟩⟩;have TF:zcz w K mg Gr sg:=⟨no zlen,no zenumerate,no zlist,no zset,⟨tMP,mg_of X G gMP⟩,⟨tMB,mg_of X G gMB⟩,mg_of X G yGr,zjp lGr kGr eG0 eG1 eG2 eG3 eG4,mg_of X G ysg,fun H=>.inr ⟨_,_,_,usg,rfl,rfl,yA,.cons ⟨_,rfl⟩ (.cons ⟨_,rfl⟩ .nil)⟩⟩;have pc0:PC K ⟨f3,f4,f5,f6,f7⟩ C0:=⟨cC0.c,nC0.1,nC0.2.1,nC0.2.2,⟨h0.1,g3.m.fn,g3.F.kp⟩,⟨h0.2.1,g4.m.fn,g4.F.kp⟩,⟨h0.2.2.1,g5.m.fn,g5.F.kp⟩,⟨h0.2.2.2.1,g6.m.fn,g6.F.kp⟩,⟨h0.2.2.2.2,g7.m.fn,g7.F.kp⟩⟩;have pc1:PC K ⟨f3,f4,f5,f6,f7⟩ C1:=⟨cC1.c,nC1.1,nC1.2.1,nC1.2.2,⟨h1.1,g3.m.fn,g3.F.kp⟩,⟨h1.2.1,g4.m.fn,g4.F.kp⟩,⟨h1.2.2.1,g5.m.fn,g5.F.kp⟩,⟨h1.2.2.2.1,g6.m.fn,g6.F.kp⟩,⟨h1.2.2.2.2,g7.m.fn,g7.F.kp⟩⟩;have pc2:PC K ⟨f3,f4,f5,f6,f7⟩ C2:=⟨cC2.c,nC2.1,nC2.2.1,nC2.2.2,⟨h2.1,g3.m.fn,g3.F.kp⟩,⟨h2.2.1,g4.m.fn,g4.F.kp⟩,⟨h2.2.2.1,g5.m.fn,g5.F.kp⟩,⟨h2.2.2.2.1,g6.m.fn,g6.F.kp⟩,⟨h2.2.2.2.2,g7.m.fn,g7.F.kp⟩⟩;have pc3:PC K ⟨f3,f4,f5,f6,f7⟩ C3:=⟨cC3.c,nC3.1,nC3.2.1,nC3.2.2,⟨h3.1,g3.m.fn,g3.F.kp⟩,⟨h3.2.1,g4.m.fn,g4.F.kp⟩,⟨h3.2.2.1,g5.m.fn,g5.F.kp⟩,⟨h3.2.2.2.1,g6.m.fn,g6.F.kp⟩,⟨h3.2.2.2.2,g7.m.fn,g7.F.kp⟩⟩;have pc4:PC K ⟨f3,f4,f5,f6,f7⟩ C4:=⟨cC4.c,nC4.1,nC4.2.1,nC4.2.2,⟨h4.1,g3.m.fn,g3.F.kp⟩,⟨h4.2.1,g4.m.fn,g4.F.kp⟩,⟨h4.2.2.1,g5.m.fn,g5.F.kp⟩,⟨h4.2.2.2.1,g6.m.fn,g6.F.kp⟩,⟨h4.2.2.2.2,g7.m.fn,g7.F.kp⟩⟩;have PP:Pcs K ⟨f3,f4,f5,f6,f7⟩ ⟨C0,C1,C2,C3,C4⟩:=fun k hk=>by
  rcases lt5 hk with rfl|rfl|rfl|rfl|rfl
  ·exact pc0
  ·exact pc1
  ·exact pc2
  ·exact pc3
  ·exact pc4
 have FK:FC K FM:=⟨cFM.c,nFM.1,nFM.2.1,nFM.2.2.1,nFM.2.2.2.1,nFM.2.2.2.2.1,nFM.2.2.2.2.2⟩
 let cl:Nat->Addr:=fun j=>match j with|0=>E9|1=>E10|2=>E11|3=>E12|4=>E13|_=>E14
 have ex9:xF K E9:=⟨ec9.1,ea9.1,ea9.2.1,ea9.2.2.1,xg.1,xg.2,ea9.2.2.2.1,ea9.2.2.2.2.1⟩;have so9:jX K cl CE 0:=⟨ex9,⟨ec9.2.2,ea9.2.2.2.2.2.2.2.2.2.1,ea9.2.2.2.2.1⟩,ea9.2.2.2.2.2.2.2.2.2.2,fun l hl=>match l,hl with|0,_=>k9.1|1,_=>k9.2.1|2,_=>k9.2.2.1|3,_=>k9.2.2.2.1|4,_=>k9.2.2.2.2.1|5,_=>k9.2.2.2.2.2|l+6,h=>absurd h ∅,em9⟩
 have ex10:xF K E10:=⟨ec10.1,ea10.1,ea10.2.1,ea10.2.2.1,xg.1,xg.2,ea10.2.2.2.1,ea10.2.2.2.2.1⟩;have so10:jX K cl CE 1:=⟨ex10,⟨ec10.2.2,ea10.2.2.2.2.2.2.2.2.2.1,ea10.2.2.2.2.1⟩,ea10.2.2.2.2.2.2.2.2.2.2,fun l hl=>match l,hl with|0,_=>k10.1|1,_=>k10.2.1|2,_=>k10.2.2.1|3,_=>k10.2.2.2.1|4,_=>k10.2.2.2.2.1|5,_=>k10.2.2.2.2.2|l+6,h=>absurd h ∅,em10⟩
 have ex11:xF K E11:=⟨ec11.1,ea11.1,ea11.2.1,ea11.2.2.1,xg.1,xg.2,ea11.2.2.2.1,ea11.2.2.2.2.1⟩;have so11:jX K cl CE 2:=⟨ex11,⟨ec11.2.2,ea11.2.2.2.2.2.2.2.2.2.1,ea11.2.2.2.2.1⟩,ea11.2.2.2.2.2.2.2.2.2.2,fun l hl=>match l,hl with|0,_=>k11.1|1,_=>k11.2.1|2,_=>k11.2.2.1|3,_=>k11.2.2.2.1|4,_=>k11.2.2.2.2.1|5,_=>k11.2.2.2.2.2|l+6,h=>absurd h ∅,em11⟩
 have ex12:xF K E12:=⟨ec12.1,ea12.1,ea12.2.1,ea12.2.2.1,xg.1,xg.2,ea12.2.2.2.1,ea12.2.2.2.2.1⟩;have so12:jX K cl CE 3:=⟨ex12,⟨ec12.2.2,ea12.2.2.2.2.2.2.2.2.2.1,ea12.2.2.2.2.1⟩,ea12.2.2.2.2.2.2.2.2.2.2,fun l hl=>match l,hl with|0,_=>k12.1|1,_=>k12.2.1|2,_=>k12.2.2.1|3,_=>k12.2.2.2.1|4,_=>k12.2.2.2.2.1|5,_=>k12.2.2.2.2.2|l+6,h=>absurd h ∅,em12⟩
 have ex13:xF K E13:=⟨ec13.1,ea13.1,ea13.2.1,ea13.2.2.1,xg.1,xg.2,ea13.2.2.2.1,ea13.2.2.2.2.1⟩;have so13:jX K cl CE 4:=⟨ex13,⟨ec13.2.2,ea13.2.2.2.2.2.2.2.2.2.1,ea13.2.2.2.2.1⟩,ea13.2.2.2.2.2.2.2.2.2.2,fun l hl=>match l,hl with|0,_=>k13.1|1,_=>k13.2.1|2,_=>k13.2.2.1|3,_=>k13.2.2.2.1|4,_=>k13.2.2.2.2.1|5,_=>k13.2.2.2.2.2|l+6,h=>absurd h ∅,em13⟩
 have ex14:xF K E14:=⟨ec14.1,ea14.1,ea14.2.1,ea14.2.2.1,xg.1,xg.2,ea14.2.2.2.1,ea14.2.2.2.2.1⟩;have so14:jX K cl CE 5:=⟨ex14,⟨ec14.2.2,ea14.2.2.2.2.2.2.2.2.2.1,ea14.2.2.2.2.1⟩,ea14.2.2.2.2.2.2.2.2.2.2,fun l hl=>match l,hl with|0,_=>k14.1|1,_=>k14.2.1|2,_=>k14.2.2.1|3,_=>k14.2.2.2.1|4,_=>k14.2.2.2.2.1|5,_=>k14.2.2.2.2.2|l+6,h=>absurd h ∅,em14⟩
 have so:∀i,i<6->jX K cl CE i:=fun i hi=>match i,hi with|0,_=>so9|1,_=>so10|2,_=>so11|3,_=>so12|4,_=>so13|5,_=>so14|l+6,h=>absurd h ∅
 have UL:zlw mg:=⟨no zlen,no zrange,no zset,no zenumerate,no zlist,no zisinstance,no zbool,no ztuple⟩;have UQ:zjK mg:=⟨no zisinstance,no zlist,no ztuple,no zrange,no zlen,no zenumerate⟩;have UO:zmD mg:=⟨no zrange,no zint⟩;have PC:PtC K PT:=⟨cPT.c,nPT.1,nPT.2.1,nPT.2.2⟩;have UW:zmC mg cl CE:=⟨no zisinstance,mg_of X G yCE,mg_of X G yE9,mg_of X G yE10,mg_of X G yE11,mg_of X G yE12,mg_of X G yE13,mg_of X G yE14⟩;exists _,g76.law,fun base KB GB=>?_;have B:TB l.prog w K mg base:=⟨fun e=>mg_of X G e⟩;have x9:jQ l.prog w K mg base "Doubled" (cl 0) f28 _ "number" "number":=⟨⟨ec9.2.1,ea9.2.2.2.2.2.2.1,g28.m.fn,ea9.2.2.2.2.2.2.2.1,ea9.2.2.2.2.2.2.2.2.1,ea9.2.2.2.2.2.1⟩,⟨ec9.2.2,ea9.2.2.2.2.2.2.2.2.2.1,ea9.2.2.2.2.1⟩,ea9.2.2.2.2.2.2.2.2.2.2,ex9,mg_of X G yE9,uu g28.F,g28.F.b2⟩;have x10:jQ l.prog w K mg base "Over" (cl 1) f28 _ "number" "number":=⟨⟨ec10.2.1,ea10.2.2.2.2.2.2.1,g28.m.fn,ea10.2.2.2.2.2.2.2.1,ea10.2.2.2.2.2.2.2.2.1,ea10.2.2.2.2.2.1⟩,⟨ec10.2.2,ea10.2.2.2.2.2.2.2.2.2.1,ea10.2.2.2.2.1⟩,ea10.2.2.2.2.2.2.2.2.2.2,ex10,mg_of X G yE10,uu g28.F,g28.F.b2⟩;have x11:jQ l.prog w K mg base "Barred" (cl 2) f28 _ "number" "number":=⟨⟨ec11.2.1,ea11.2.2.2.2.2.2.1,g28.m.fn,ea11.2.2.2.2.2.2.2.1,ea11.2.2.2.2.2.2.2.2.1,ea11.2.2.2.2.2.1⟩,⟨ec11.2.2,ea11.2.2.2.2.2.2.2.2.2.1,ea11.2.2.2.2.1⟩,ea11.2.2.2.2.2.2.2.2.2.2,ex11,mg_of X G yE11,uu g28.F,g28.F.b2⟩;have x12:jQ l.prog w K mg base "Again" (cl 3) f28 _ "number" "number":=⟨⟨ec12.2.1,ea12.2.2.2.2.2.2.1,g28.m.fn,ea12.2.2.2.2.2.2.2.1,ea12.2.2.2.2.2.2.2.2.1,ea12.2.2.2.2.2.1⟩,⟨ec12.2.2,ea12.2.2.2.2.2.2.2.2.2.1,ea12.2.2.2.2.1⟩,ea12.2.2.2.2.2.2.2.2.2.2,ex12,mg_of X G yE12,uu g28.F,g28.F.b2⟩;have x13:jQ l.prog w K mg base "Strange" (cl 4) f28 _ "number" "number":=⟨⟨ec13.2.1,ea13.2.2.2.2.2.2.1,g28.m.fn,ea13.2.2.2.2.2.2.2.1,ea13.2.2.2.2.2.2.2.2.1,ea13.2.2.2.2.2.1⟩,⟨ec13.2.2,ea13.2.2.2.2.2.2.2.2.2.1,ea13.2.2.2.2.1⟩,ea13.2.2.2.2.2.2.2.2.2.2,ex13,mg_of X G yE13,uu g28.F,g28.F.b2⟩;have x14:jQ l.prog w K mg base "Lacking" (cl 5) f28 _ "number" "number":=⟨⟨ec14.2.1,ea14.2.2.2.2.2.2.1,g28.m.fn,ea14.2.2.2.2.2.2.2.1,ea14.2.2.2.2.2.2.2.2.1,ea14.2.2.2.2.2.1⟩,⟨ec14.2.2,ea14.2.2.2.2.2.2.2.2.2.1,ea14.2.2.2.2.1⟩,ea14.2.2.2.2.2.2.2.2.2.2,ex14,mg_of X G yE14,uu g28.F,g28.F.b2⟩;have X6:X6 l.prog w K mg base cl f28 _:=⟨x9,x10,x11,x12,x13,x14⟩;have cI:=g1.c1 B (zmd g1.F T);have GP:zD l.prog w K mg base CX0 2 f2 _ ["self","word","name","may_lack"] (spP K ⟨f3,f4,f5,f6,f7⟩):=zg8 g2.F cI;have mD:=mg_of X G cD.a;have UC:zj8 l.prog w K mg base ⟨C0,C1,C2,C3,C4⟩ f8 f9 f10 f11 f12 _ _ _ _ _:=⟨⟨⟨cC0.ms,g8.m.at_,g8.m.fn,cC0.kc⟩,ziX g8.F pc0 dga mD GP g2.F.b4,mg_of X G cC0.a,g8.b0⟩,⟨⟨cC1.ms,g9.m.at_,g9.m.fn,cC1.kc⟩,zjd g9.F pc1 dga mD GP g2.F.b4,mg_of X G cC1.a,g9.b0⟩,⟨⟨cC2.ms,g10.m.at_,g10.m.fn,cC2.kc⟩,ziV g10.F pc2 dga mD GP g2.F.b4,mg_of X G cC2.a,g10.F.b2⟩,⟨⟨cC3.ms,g11.m.at_,g11.m.fn,cC3.kc⟩,zg4 g11.F pc3 dga mD GP g2.F.b4,mg_of X G cC3.a,g11.b0⟩,⟨⟨cC4.ms,g12.m.at_,g12.m.fn,cC4.kc⟩,zla g12.F pc4 dga mD GP g2.F.b4,mg_of X G cC4.a,g12.F.b2⟩⟩;have GF:zD l.prog w K mg base CX0 1 f3 _ ["self"] (qm K ⟨f3,f4,f5,f6,f7⟩):=zi9 g3.F;have GQ:zD l.prog w K mg base CX0 1 f4 _ ["self"] (j0 K ⟨f3,f4,f5,f6,f7⟩ bpL):=zb8 g4.F Wd;have GN:zD l.prog w K mg base CX0 1 f5 _ ["self"] (j0 K ⟨f3,f4,f5,f6,f7⟩ bnL):=zdg g5.F Wd;have cM1:=g23.c2 B (zi2 g23.F TF);have cM2:=g24.c1 B (zha g24.F TF PP);have cM3:=g25.c1 B (zg7 g25.F cI);have cM4:=g26.c2 B (zgZ g26.F TF PP GN g5.F.b1);have cW:=g27.c2 B (zi1 g27.F TF PP);have GK:=zi6 g14.F TF PP FK cW GQ g4.F.b1 GN g5.F.b1;have GI:=zhl g13.F FK g14.m cM1 cM2 cM3 cM4 GK (g14.F.b3);have Gpa:zD l.prog w K mg base CX0 1 f15 _ ["self"] (vR ⟨C0,C1,C2,C3,C4⟩ FM):=zhk g15.F TF FK;have Gba:zD l.prog w K mg base CX0 1 f16 _ ["self"] (za4 ⟨C0,C1,C2,C3,C4⟩ FM):=zhm g16.F TF FK;have Gpl:zD l.prog w K mg base CX0 1 f17 _ ["self"] (wL ⟨C0,C1,C2,C3,C4⟩ FM):=zdf g17.F FK;have Gta:zD l.prog w K mg base CX0 1 f18 _ ["self"] (vP ⟨C0,C1,C2,C3,C4⟩ FM 2):=zhi g18.F FK;have Gbg:zD l.prog w K mg base CX0 1 f19 _ ["self"] (vP ⟨C0,C1,C2,C3,C4⟩ FM 4):=zjc g19.F FK;have Gnu:zD l.prog w K mg base CX0 1 f20 _ ["self","name"] (zfS ⟨C0,C1,C2,C3,C4⟩ FM):=zja g20.F FK;have cL:=g33.c1 B (zi4 g33.F);have cSh:=g35.c1 B (zg5 g35.F (no zlen) cL);have cFn:=g36.c1 B (ze9 g36.F (no zenumerate));have cOv:=g38.c2 B (zg9 g38.F (no zrange) FK g18.m Gta (g18.F.b1) g17.m Gpl (g17.F.b1));have cUn:=g39.c3 B (zk1 g39.F (no zset) FK g16.m Gba (g16.F.b1) g20.m Gnu (g20.F.b2) g19.m Gbg (g19.F.b1) g17.m Gpl (g17.F.b1));have cEn:=g41.c4 B (zi0 g41.F PP GQ g4.F.b1 GN g5.F.b1);have cLa:=g40.c3 B (zhg g40.F (no zenumerate) PP FK g15.m Gpa (g15.F.b1) GF g3.F.b1 cEn);have cMo:=g37.c3 B (zk7 g37.F (no zenumerate) cFn cOv cUn cLa);have cMi:=g34.c2 B (zk8 g34.F cSh cMo);have cRe:jr l.prog w K mg base 3 "refuse" f42 _ ["word","number"] (ql cl):=⟨ze6 g42.F X6,B.mgo g42.a,g42.F.kp,g42.F.b2⟩;have cRf:jr l.prog w K mg base 6 "refuse_first_things" f43 _ ["form","call"] (jv K ⟨C0,C1,C2,C3,C4⟩ FM cl):=⟨ze5 g43.F cMi cRe,B.mgo g43.a,g43.F.kp,g43.F.b2⟩;have kP:jq l.prog w K mg base (CXs l.prog w) 7 "Part" PT f29 _ ["self","form","call"] [] (zbO K ⟨C0,C1,C2,C3,C4⟩ FM PT cl):=⟨⟨cPT.ms,g29.m.at_,g29.m.fn,cPT.kc⟩,zk3 g29.F PC cRf cL,mg_of X G cPT.a,g29.F.b3⟩;have cOf:=g44.c2 B (zmc g44.F);have GW:zD l.prog w K mg base CX0 2 f30 _ ["self","call"] (j7 K PT):=zgY g30.F PC cL cOf;have GPF:zD l.prog w K mg base (CXs l.prog w) 9 f31 _ ["self","call"] (zfP K ⟨C0,C1,C2,C3,C4⟩ FM PT cl):=zk4 g31.F PC kP g30.m GW (g30.F.b2);have cPf:=g22.c1 B (zk5 g22.F UC);have cN:=g45.c2 B (zk6 g45.F);have cSt:=g46.c2 B (ziW g46.F);have cSw:=g47.c2 B (ze3 g47.F);have cDg:=g48.c3 B (zfa g48.F (no zrange) cSw);have cWd:=g49.c1 B (zk0 g49.F (no zrange));have cPl:=g50.c1 B (ziZ g50.F UO cDg cWd);have cRo:=g51.c3 B (zk2 g51.F (no zlen));have cBr:=g52.c3 B (zhf g52.F);have cFo:=g53.c2 B (zhd g53.F (no zlist) (mg_of X G cFM.a) ⟨cFM.ms,g13.m.at_,g13.m.fn,cFM.kc⟩ GI g13.b0 cPf);have cRa:=g54.c4 B (ziY g54.F (no zenumerate) cN cRo cDg cSt);have cI1:=g55.c2 B (zi7 g55.F UQ);have cIt:=g56.c5 B (zhh g56.F UQ cN cDg cSt cI1);have cLl:=g57.c1 B (zhc g57.F UL);have cTm:=g58.c4 B (ziU g58.F UL);have cTd:=g59.c3 B (zg1 g59.F cLl cTm);have kF:jq l.prog w K mg base CX0 3 "Form" FM f13 _ ["self","parameters","bars"] [.none] (zim ⟨C0,C1,C2,C3,C4⟩ FM):=⟨⟨cFM.ms,g13.m.at_,g13.m.fn,cFM.kc⟩,GI,mg_of X G cFM.a,g13.b1⟩;have kT:jq l.prog w K mg base CX0 3 "Tag" C3 f11 _ ["self","name","free"] [] (spS K C3 "tag"):=⟨⟨cC3.ms,g11.m.at_,g11.m.fn,cC3.kc⟩,zg4 g11.F pc3 dga mD GP g2.F.b4,mg_of X G cC3.a,g11.b0⟩;have cFB:=g70.c2 B (zme g70.F (no zenumerate) FK PP g15.m Gpa (g15.F.b1) g17.m Gpl (g17.F.b1) GN g5.F.b1);have cTl:=g73.c2 B (zg2 g73.F FK g18.m Gta (g18.F.b1) g15.m Gpa (g15.F.b1));have cTg:=g74.c3 B (zg3 g74.F FK PP g15.m Gpa (g15.F.b1) g17.m Gpl (g17.F.b1) GN g5.F.b1 GF g3.F.b1 kT);have cBg:=g75.c1 B (zho g75.F FK g19.m Gbg (g19.F.b1) g15.m Gpa (g15.F.b1));have cTF:=g71.c2 B (zg0 g71.F FK kF g14.m GK (g14.F.b3));have cLB:=g72.c3 B (zhe g72.F (no zany) FK PP g15.m Gpa (g15.F.b1) g17.m Gpl (g17.F.b1) g16.m Gba (g16.F.b1) GN g5.F.b1 GF g3.F.b1 cFB cTl cTg cBg cTF);have cFi:=g69.c2 B (zjb g69.F cMi);have cLC:=g62.c2 B (zhn g62.F ⟨no zlist,no zrange⟩);have cFu:=g60.c5 B (zi8 g60.F ⟨no zlen,no zmax⟩);have cFS:=g61.c2 B (zhj g61.F (no zlen) cDg);have cLo:=g67.c1 B (zi3 g67.F cSw);have cSp:=g68.c6 B (ze4 g68.F (no zenumerate) cSt cFu cFS cLo);have cMa:=g63.c2 B (zhb g63.F UW so PC g31.m GPF (g31.F.b2));have cDu:=g64.c5 B (zi5 g64.F cTm cMi);have cSL:=g65.c3 B (zg6 g65.F cFi cLC);have GPL:zD l.prog w K mg base CX0 7 f32 _ ["self"] (vQ K ⟨C0,C1,C2,C3,C4⟩ FM PT):=ze7 g32.F (no zlen) PC cLB;have cLA:=g66.c4 B (ze8 g66.F (no zlist) PC kP g32.m GPL (g32.F.b1) cSL);exact zk9 g76.F UQ PC cN cPl cRa cBr cIt cTd cLl cFo kP cMa cDu cSp cSL cLA g30.m GW (g30.F.b2) g32.m GPL (g32.F.b1)
theorem znH{l:PySem.W.OpenLaw}{q:Program}{loose:List Str}{XP:(Str->Option Value)->Heap->Prop}{YP:World->Heap->Prop}{d:DefRec}{K:Params->Frag}(hn:l.most=some 63)(hdf:d.params.defaults=[])
  (hY:∀(w:World) (h:Heap),YP w h->(K w.params).In h)
  (F:∀(w:World) (mg:Str->Option Value) (fa:Addr) (h:Heap),(K w.params).In h->h.Ns mainGlobals mg->mg d.name=some (.ref fa)->
   ∃fd:FuncData,(∀(s:Shared) (u:Value),BindsTo s fd ⟨[u],[]⟩ [("_law_script",u)])/\∀base:Heap,(K w.params).In base->base.Ns mainGlobals mg->zD l.prog w (K w.params) mg base CX0 11 fa fd ["_law_script"] (za3 (K w.params))) :
  PySem.W.WalkO q loose XP YP l.row.toRowW d [] (fun f vs=>PySem.call f vs):=
 L2.zlE (n:=63) (k:=11) (x:="_law_script") (CX:=fun _=>CX0) (sp:=fun w=>za3 (K w.params)) hn ⋯ hdf ⟨rfl,⋯,⋯,rfl⟩ hY F (fun _ _ a ns hl hb _ hS=>⟨a,ns,rfl,hS,hl,fun _=>rfl⟩) fun _ _ _ _ _ z=>z
end K64
end
open PySem PySem.W PyProof.Rows
set_option maxRecDepth 100000 in
set_option maxHeartbeats 0 in
theorem PySem.Challenge.cw_callbinds_k64_whole_part_of_a_part_holds : PySem.Challenge.rw_callbinds_k64_whole_part_of_a_part.Holds := by
 w_on; o_law; k_head; (case hw => w_witness2)
 k_fill
 refine K64.znH (l := PySem.Challenge.rw_callbinds_k64_whole_part_of_a_part) rfl rfl (fun w h Y => PySem.W.kIn_of Y) ?F
 case F =>
  intro w mg fa h KX G hmg
  refine' K64.znr KX G hmg ?cD ?cC0 ?nC0 ?cC1 ?nC1 ?cC2 ?nC2 ?cC3 ?nC3 ?cC4 ?nC4 ?cFM ?nFM ?g1 ?g2 ?g3 ?g4 ?g5 ?g6 ?g7 ?g8 ?g9 ?g10 ?g11 ?g12 ?g13 ?g14 ?g15 ?g16 ?g17 ?g18 ?g19 ?g20 ?g21 ?g22 ?g23 ?g24 ?g25 ?g26 ?g27 ?yM ?g28 ?cPT ?nPT ?g29 ?g30 ?g31 ?g32 ?g33 ?g34 ?g35 ?g36 ?g37 ?g38 ?g39 ?g40 ?g41 ?g42 ?g43 ?g44 ?g45 ?g46 ?g47 ?g48 ?g49 ?g50 ?g51 ?g52 ?g53 ?g54 ?g55 ?g56 ?g57 ?g58 ?g59 ?g60 ?g61 ?g62 ?g63 ?g64 ?g65 ?g66 ?g67 ?g68 ?g69 ?g70 ?g71 ?g72 ?g73 ?g74 ?g75 ?g76 ?zisinstance ?zstr ?zbool ?zlen ?zall ?zrange ?zlist ?zenumerate ?zset ?zint ?ztuple ?zmax ?zany ?gL ?gN ?gMP ?gMB ?ytP ?utP ?ytB ?utB ?ytO ?utO ?ysg ?usg ?yGr ?lGr ?kGr ?eG0 ?eG1 ?eG2 ?eG3 ?eG4 ?dga ?h0 ?h1 ?h2 ?h3 ?h4 ?yCE ?xg ?yE9 ?yE10 ?yE11 ?yE12 ?yE13 ?yE14 ?ec9 ?ec10 ?ec11 ?ec12 ?ec13 ?ec14 ?ea9 ?ea10 ?ea11 ?ea12 ?ea13 ?ea14 ?k9 ?k10 ?k11 ?k12 ?k13 ?k14 ?em9 ?em10 ?em11 ?em12 ?em13 ?em14
  (case cD | cC0 => apply L2.znG <;> k_is)
  (case nC0 => exact ⟨by k_is, by k_is, by k_is⟩)
  (case cC1 => apply L2.znG <;> k_is)
  (case nC1 => exact ⟨by k_is, by k_is, by k_is⟩)
  (case cC2 => apply L2.znG <;> k_is)
  (case nC2 => exact ⟨by k_is, by k_is, by k_is⟩)
  (case cC3 => apply L2.znG <;> k_is)
  (case nC3 => exact ⟨by k_is, by k_is, by k_is⟩)
  (case cC4 => apply L2.znG <;> k_is)
  (case nC4 => exact ⟨by k_is, by k_is, by k_is⟩)
  (case cFM => apply L2.znG <;> k_is)
  (case nFM => exact ⟨by k_is, by k_is, by k_is, by k_is, by k_is, by k_is⟩)
  (case g1 => apply L2.znE <;> k_is)
  (case g2 | g3 | g4 | g5 | g6 | g7 => apply L2.znD <;> k_is)
  (case g8 | g9 => apply L2.znF <;> k_is)
  (case g10 => apply L2.znD <;> k_is)
  (case g11 => apply L2.znF <;> k_is)
  (case g12 => apply L2.znD <;> k_is)
  (case g13 => apply L2.znF <;> k_is)
  (case g14 | g15 | g16 | g17 | g18 | g19 | g20 | g21 => apply L2.znD <;> k_is)
  (case g22 | g23 | g24 | g25 | g26 | g27 => apply L2.znE <;> k_is)
  (case yM => k_is)
  (case g28 => apply L2.znD <;> k_is)
  (case cPT => apply L2.znG <;> k_is)
  (case nPT => exact ⟨by k_is, by k_is, by k_is⟩)
  (case g29 | g30 | g31 | g32 => apply L2.znD <;> k_is)
  (case g33 | g34 | g35 | g36 | g37 | g38 | g39 | g40 | g41 | g42 | g43 | g44 | g45 | g46 | g47 | g48 | g49 | g50 | g51 | g52 | g53 | g54 | g55 | g56 | g57 | g58 | g59 | g60 | g61 | g62 | g63 | g64 | g65 | g66 | g67 | g68 | g69 | g70 | g71 | g72 | g73 | g74 | g75 | g76 => apply L2.znE <;> k_is)
  (case zisinstance | zstr | zbool | zlen | zall | zrange | zlist | zenumerate | zset | zint | ztuple | zmax | zany | gL | gN | gMP | gMB | ytP | utP | ytB | utB | ytO | utO | ysg | usg | yGr | lGr => k_is)
  (case kGr => k_keys)
  (case eG0 | eG1 | eG2 | eG3 | eG4 => k_is)
  (case dga => exact ⟨by k_is, by k_is, by k_is, by k_is⟩)
  (case h0 | h1 | h2 | h3 | h4 => exact ⟨by k_is, by k_is, by k_is, by k_is, by k_is⟩)
  (case yCE => k_is)
  (case xg => exact ⟨by k_is, by k_is⟩)
  (case yE9 | yE10 | yE11 | yE12 | yE13 | yE14 => k_is)
  (case ec9 | ec10 | ec11 | ec12 | ec13 | ec14 => exact ⟨by first | kernel_rfl | exact rfl, by first | kernel_rfl | exact rfl, by first | kernel_rfl | exact rfl⟩)
  (case ea9 | ea10 | ea11 | ea12 | ea13 | ea14 => exact ⟨by k_is, by k_is, by k_is, by k_is, by k_is, by k_is, by k_is, by k_is, by k_is, by k_is, by k_is⟩)
  (case k9 | k10 | k11 | k12 | k13 | k14 => exact ⟨by kit_is, by kit_is, by kit_is, by kit_is, by kit_is, by kit_is⟩)
  (case em9 | em10 | em11 | em12 | em13 | em14 => kts_exm)
#print axioms PySem.Challenge.cw_callbinds_k64_whole_part_of_a_part_holds
