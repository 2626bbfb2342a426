import PyProof.Rows.All
import Wide.All
import OpenK.AllK
import Wide.FinOn
import Lean
import PyProof.EqAt
import PyProof.EqKinds
import PyProof.TupleCall
import KE.KTryMore
import PyProof.ExcAttrAll.ValueError
import KE.KRevIter
import PyProof.SetNew
import PyProof.SetRoads
import PyProof.Rows.SetObj
import PyProof.DictCompW
import PyProof.DictItems
import PyProof.Rows.SetFrom
import PyProof.ListRange
import PyProof.Rows.Range3
import KE.IntBitsLaws
import PyProof.AttrMissHeap
import PyProof.FactsAll.bool_1
import KE.KDictOf
import PyProof.DictRoadsH
import PyProof.P3Eq
import PyProof.Rows.SortStr
import PyProof.Rows.SortWalk
import PyProof.FactsAll.set
import PyProof.CollectWalk
import PyProof.WalkInts
import PyProof.CollectIter
import PyProof.ConsumeS
import PyProof.StrCalls2
import PyProof.StrLawsJoin
import PyProof.NeData
import KE.RegKIsAll
import KE.RegKTryMore
import PySem.Challenge.RW_callbinds_k44_whole_two_functions_one_we
set_option Elab.async false
set_option linter.all false
set_option maxRecDepth 100000
set_option maxHeartbeats 4000000
open Nat (lt_of_lt_of_le lt_irrefl ne_of_lt le_trans le_of_lt ne_of_gt zero_le lt_succ_self le_succ lt_succ_of_lt not_lt_zero le_add_right lt_or_ge sub_self lt_of_sub_eq_succ le_succ_of_le sub_zero)
open List (filterMap_cons mem_cons_self mem_cons_of_mem mem_append_left getElem?_set_ne mem_append_right size_toArray length_cons map_cons length_map append_nil of_mem_zip length_take getElem?_append_right getElem?_append_left getElem?_map mem_of_getElem? length_append length_drop all_cons any_cons replicate_succ flatten_cons append_assoc length_singleton nil_append find?_cons length_nil map_nil lookup_cons length_set getElem?_eq_getElem getD_eq_getElem?_getD all_eq_true getElem_mem take_of_length_le map_map take_add_one map_append take_succ_eq_append_getElem filter_append length_filter_le take_length mem_append flatten_append take_append_drop length_range range_succ any_append contains_cons lookup_cons_self filter_cons length_zip countP_cons nodup_cons not_mem_nil nodup_nil map_take map_drop mem_cons take_zero ext_getElem getElem?_of_mem append_eq_nil_iff)
open Int (toNat_natCast eq_ofNat_of_zero_le emod_nonneg emod_lt_of_pos)
open Option (getD_none map_some isSome_map)
open PySem.W (instObj methodObj hideAll hideAll_none lookIn plainGet hasDictIn plainGet_of plainOver takerIn makesIn emptyDict makes_of kitOne kia_one callWith_K methodCall_KW callWith_K0 fnOf codeIn KeysLit nsIn exmOne mg_of Frag findIn specialIn keepIn isFn clsIn mroIn instIn Looks)
local macro_rules|`(tactic|exists $xs,*)=>`(tactic|refine ⟨$xs,*⟩)
section
set_option hygiene false in
local macro_rules|`($s:ident[$i]'$x)=>`(zr (zB (i:=$i) ($s).nd rfl (Or.inl rfl) $x) ?_)
set_option hygiene false in
local macro_rules|`(⋯)=>`(by decide)
set_option hygiene false in
local macro_rules|`(∅)=>`(by omega)
set_option hygiene false in
local macro_rules|`(~~~$x)=>`(some (.ref $x))
set_option hygiene false in
local macro_rules|`(↥$x)=>`(zA P w K mg base CX0 $x)
set_option hygiene false in
local macro_rules|`(⇑$x)=>`(zC P w K mg base $x)
set_option hygiene false in
local macro_rules|`(tactic|specialize $s)=>`(tactic|refine F.ok $s (fun cdv A outer s H vs Q E hr h=>?_))
set_option hygiene false in
local macro_rules|`(tactic|and_intros)=>`(tactic|(refine ⟨?_⟩;intro pins s σ H Q I h))
set_option hygiene false in
local macro_rules|`(tactic|exfalso)=>`(tactic|dsimp only[zD])
set_option hygiene false in
local macro_rules|`(↑$x)=>`(PySem.wpAny (PySem.model ($x).prog ($x).w) ($x).A)
namespace L2
open PySem PySem.Spec PyProof.Rows
abbrev aA:=@List.length_map
abbrev aB:=@List.getElem?_eq_getElem
abbrev aC:=@decide_eq_true
abbrev aD:=@decide_eq_false
abbrev aE:=@List.map_append
abbrev aF:=@Nat.le_refl
abbrev aG:=@List.length_append
abbrev aH:=@List.mem_of_getElem?
abbrev aI:=@PySem.Heap.lt_size
abbrev aJ:=@if_neg
abbrev aK:=@if_pos
abbrev PnL:=List (Addr×Obj)
abbrev VSP:=Value->Shared->Prop
theorem x8 : 0<=sizeLine:=by decide
theorem za1 : 1<=sizeLine:=by decide
theorem yL : 2<=sizeLine:=by decide
theorem za0 : 3<=sizeLine:=by decide
theorem zlH : 4<=sizeLine:=by decide
abbrev zwb:=@wpAny_bind
abbrev zwp:=@wpAny_pure
abbrev zft:=@Bool.false_ne_true
abbrev zgp:=@Heap.get?_push_of_some
abbrev zgs:=@Heap.get?_push_size
abbrev Key:=Sum Int Str
def qI:Key->Value->Bool
 | .inl k,v=>Value.isInt k v
 | .inr x,v=>Value.isStrOf x v
def znq(w:World):Key->Int
 | .inl k=>hashInt k
 | .inr x=>hashStr w x
theorem yH:∀{k:Key}{v:Value},qI k v=true->(∃i t,k=Sum.inl i/\v=Value.int i t)\/(∃x t,k=Sum.inr x/\v=Value.str x t)
 | .inl i,v,h=>by
  obtain⟨t,e⟩:=Value.isInt_shape (k:=i) (v:=v) h;exact .inl ⟨i,t,rfl,e⟩
 | .inr x,v,h=>by
  obtain⟨t,e⟩:=Value.isStrOf_shape (x:=x) (v:=v) h;exact .inr ⟨x,t,rfl,e⟩
theorem zfd(i:Int)(t:Tok):qI (.inl i) (.int i t)=true:=by simp [qI,Value.isInt]
theorem zfc(x:Str)(t:Tok):qI (.inr x) (.str x t)=true:=by simp [qI,Value.isStrOf]
theorem zk1(a b:Int):decide ((Sum.inl a:Key)=Sum.inl b)=(a==b):=by
 by_cases e:a=b
 ·subst e;simp
 ·have h:¬(Sum.inl a:Key)=Sum.inl b:=fun q=>e (Sum.inl.inj q)
  rw[aD h];exact(beq_eq_false_iff_ne.mpr e).symm
theorem zhn(a b:Str):decide ((Sum.inr a:Key)=Sum.inr b)=decide (a=b):=by
 by_cases e:a=b
 ·subst e;simp
 ·have h:¬(Sum.inr a:Key)=Sum.inr b:=fun q=>e (Sum.inr.inj q)
  rw[aD h,aD e]
theorem zk0(a:Int)(b:Str):decide ((Sum.inl a:Key)=Sum.inr b)=false:=aD (fun q=>nomatch q)
theorem zkZ(a:Str)(b:Int):decide ((Sum.inr a:Key)=Sum.inl b)=false:=aD (fun q=>nomatch q)
def yn(prog:Program)(w:World):PySem.KeyKind prog w Key where
 is:=qI
 hash:=znq w
 inj:=fun v a b ha hb=>by
  rcases yH ha with ⟨i,t,rfl,rfl⟩|⟨x,t,rfl,rfl⟩
  ·rcases yH hb with ⟨j,u,rfl,e⟩|⟨y,u,rfl,e⟩
   ·injection e with e1 _;rw[e1]
   ·exact nomatch e
  ·rcases yH hb with ⟨j,u,rfl,e⟩|⟨y,u,rfl,e⟩
   ·exact nomatch e
   ·injection e with e1 _;rw[e1]
 byValue:=fun k v h=>by
  rcases yH h with ⟨i,t,rfl,rfl⟩|⟨x,t,rfl,rfl⟩ <;> rfl
 pyHash:=fun hv h=>by
  rcases yH hv with ⟨i,t,rfl,rfl⟩|⟨x,t,rfl,rfl⟩
  ·exact wpAny_pyHash_int h
  ·exact wpAny_pyHash_str h
 eqBool:=fun hu hv h=>by
  rcases yH hu with ⟨i,t,rfl,rfl⟩|⟨x,t,rfl,rfl⟩
  ·rcases yH hv with ⟨j,u,rfl,rfl⟩|⟨y,u,rfl,rfl⟩
   ·rw[zk1] at h;exact wpAny_eqBool_int h
   ·rw[zk0] at h;exact SeqAt.EqAt.int_str i t y u _ _ _ _ h
  ·rcases yH hv with ⟨j,u,rfl,rfl⟩|⟨y,u,rfl,rfl⟩
   ·rw[zkZ] at h;exact SeqAt.EqAt.str_int x t j u _ _ _ _ h
   ·rw[zhn] at h;exact wpAny_eqBool_str h
 «strs»:=fun k x t v h=>by
  rcases yH h with ⟨i,u,rfl,e⟩|⟨y,u,rfl,e⟩
  ·exact nomatch e
  ·injection e with e1 _
   subst e1;cases v <;> rfl
theorem zb6(prog:Program)(w:World)(i:Int)(t:Tok):(yn prog w).is (.inl i) (.int i t)=true:=zfd i t
theorem zb5(prog:Program)(w:World)(x:Str)(t:Tok):(yn prog w).is (.inr x) (.str x t)=true:=zfc x t
inductive V where
 | non|bl (b:Bool)|int (i:Int)|str (x:Str)|byt (b:Array UInt8)|flt (b:UInt64)|ref (a:Addr)|ty (n:String)
 deriving DecidableEq
def z3:V->Value->Prop
 | .non,u=>u=Value.none
 | .bl b,u=>u=Value.bool b
 | .int i,u=>∃t,u=Value.int i t
 | .str x,u=>∃t,u=Value.str x t
 | .byt b,u=>∃t,u=Value.bytes b t
 | .flt b,u=>∃t,u=Value.float b t
 | .ref a,u=>u=Value.ref a
 | .ty n,u=>u=Value.type n
abbrev zX:List V->List Value->Prop:=Paired z3
theorem zX.length(r:zX xs us):xs.length=us.length:=Paired.length r
theorem zX.get:∀{xs:List V}{us:List Value}{i:Nat}{x:V},zX xs us->xs[i]?=some x->∃u,us[i]?=some u/\z3 x u
 | _,_,_,_,.nil,e=>by simp at e
 | _,_,0,_,.cons r _,e=>by simp at e;subst e;exact⟨_,rfl,r⟩
 | _,_,i+1,x,.cons _ t,e=>by
  obtain⟨u,h1,h2⟩:=zX.get (i:=i) (x:=x) t (by simpa using e)
  exact⟨u,by simpa using h1,h2⟩
theorem zX.append:∀{xs ys:List V}{us ws:List Value},zX xs us->zX ys ws->zX (xs++ys) (us++ws)
 | _,_,_,_,.nil,s=>s
 | _,_,_,_,.cons r t,s=>.cons r (zX.append t s)
theorem zX.take:∀{xs:List V}{us:List Value}(n:Nat),zX xs us->zX (xs.take n) (us.take n)
 | _,_,0,_=>.nil
 | _,_,_+1,.nil=>.nil
 | _,_,n+1,.cons r t=>.cons r (zX.take n t)
theorem zX.drop:∀{xs:List V}{us:List Value}(n:Nat),zX xs us->zX (xs.drop n) (us.drop n)
 | _,_,0,r=>r
 | _,_,_+1,.nil=>.nil
 | _,_,n+1,.cons _ t=>zX.drop n t
def uA:Option V->Option Value->Prop
 | some v,some u=>z3 v u
 | none,none=>True
 | _,_=>False
def KV{κ : Type}:List (κ×V)->List (κ×Value)->Prop:=Paired fun (p : κ×V) (q : κ×Value)=>p.1=q.1/\z3 p.2 q.2
def kV:Key->V
 | .inl i=>.int i
 | .inr x=>.str x
inductive HO where
 | lst (xs:List V)
 | tup (xs:List V)
 | dK (kvs:List (Key×V))|dT (kvs:List (List Key×V))
 | set (S:Int->Bool) (n:Nat)
 | ins (C dx:Addr) (fs:List (Str×V))
 | own (x:Addr)
 | xd (fs:List (Str×V))
 | met (f x:Addr)
 | rng (lo hi:Int)
 | frz (o:Obj) (u:HO)
 | tbl (ps:Array Value)
 | ext (φ : Heap->Prop)
abbrev Hp:=Addr->Option HO
def upd(H:Hp)(a:Addr)(o:HO):Hp:=fun b=>if b=a then some o else H b
theorem za:upd H a o a=some o:=by unfold upd;rw[aK rfl]
theorem zf(h:b≠a):upd H a o b=H b:=by unfold upd;rw[aJ h]
theorem vf:upd (upd H a o) a u=upd H a u:=by
 funext b;unfold upd;split <;> rfl
theorem zV{H:Hp}{a b:Addr}{o u:HO}(h:H a=some o)(h':H b=some u)(d:o≠u):a≠b:=by
 intro e;subst e;rw[h] at h';exact d (Option.some.inj h')
theorem ze{H:Hp}{a b:Addr}{o:HO}(h:H a=some o)(h':H b=none):a≠b:=by
 intro e;subst e;rw[h] at h';cases h'
section
variable (P:Program) (w:World)
def yD(H:Hp)(h:Heap)(a:Addr):HO->Prop
 | .lst xs=>xs.length<=sizeLine/\∃(its:List Value) (n:Nat),zX xs its/\h.get? a=some { cls:=.type "list",data:=.seq its.toArray n }
 | .tup xs=>xs.length<=sizeLine/\∃its:List Value,zX xs its/\IsTup h a its.toArray
 | .dK kvs=>kvs.length<=sizeLine/\(a==sysModules)=false/\∃vs,KV kvs vs/\h.DictOf (yn P w) a vs
 | .dT kvs=>kvs.length<=sizeLine/\(a==sysModules)=false/\∃xs:List (List Key×Addr×Value),
   Paired (fun (p:List Key×V) (q:List Key×Addr×Value)=>p.1=q.1/\H q.2.1=some (.tup (p.1.map kV))/\z3 p.2 q.2.2) kvs xs/\
   ∃o es ep,h.get? a=some o/\o.ExactDict/\o.data=.dict es ep/\es.toList=xs.map (entryOfKey (tupleKind (yn P w)))/\(xs.map (·.1)).Nodup
 | .set S n=>h.SetOf (intKind P w) a S n
 | .ins C dx fs=>H dx=some (.own a)/\fs.length<=1000/\dx≠a/\h.get? a=some (instObj C dx)/\
   ∃mA,h.Ns1 dx mA/\(∀f,uA (fs.lookup f) (mA f))/\PySem.Within mA (fs.map (·.1))
 | .own _=>∃o,h.get? a=some o
 | .xd fs=>∃mA,h.Ns1 a mA/\∀f,uA (fs.lookup f) (mA f)
 | .rng lo hi=>∃t u v,h.get? a=some { cls:=.type "range",data:=.fields #[.int lo t,.int hi u,.int 1 v] }
 | .frz o u=>h.get? a=some o/\yD H h a u
 | .tbl ps=>h.get? a=some { cls:=.none,data:=.fields ps }
 | .met f x=>h.get? a=some (methodObj (.ref f) (.ref x))
 | .ext φ=>φ h/\(∃o,h.get? a=some o)/\∀h1 h2:Heap,φ h1->(∀o,h1.get? a=some o->h2.get? a=some o)->φ h2
def HOk(H:Hp)(h:Heap):Prop:=∀a o,H a=some o->yD P w H h a o
end
section
variable {w:World}{H H':Hp}{h h':Heap}{o:HO}
theorem yD.lt(x:yD P w H h a o):a<h.objs.size:=by
 cases o with
 | lst xs=>obtain⟨_,_,_,_,e⟩:=x;exact aI e
 | tup xs=>obtain⟨_,_,_,p⟩:=x;exact p.lt
 | dK kvs=>obtain⟨_,_,_,_,o,_,_,e,_⟩:=x;exact aI e
 | dT kvs=>obtain⟨_,_,_,_,o,_,_,e,_⟩:=x;exact aI e
 | set S n=>obtain⟨o,_,_,_,e,_⟩:=x;exact aI e
 | ins C dx fs=>obtain⟨_,_,_,e,_⟩:=x;exact aI e
 | own y=>obtain⟨_,e⟩:=x;exact aI e
 | xd fs=>obtain⟨_,⟨_,_,_,e,_⟩,_⟩:=x;exact aI e
 | rng lo hi=>obtain⟨_,_,_,e⟩:=x;exact aI e
 | frz ob u=>obtain⟨e,_⟩:=x;exact aI e
 | tbl ps=>exact aI (show h.get? a=some _ from x)
 | met f y=>exact aI (show h.get? a=some _ from x)
 | ext φ=>obtain⟨_,⟨_,e⟩,_⟩:=x;exact aI e
theorem wJ{α β : Type}{F G : α->β->Prop}:∀{l₁:List α}{l₂:List β},Paired F l₁ l₂->(∀a b,F a b->G a b)->Paired G l₁ l₂
 | _,_,.nil,_=>.nil
 | _,_,.cons r t,f=>.cons (f _ _ r) (wJ t f)
theorem zm{α β : Type}{F G : α->β->Prop}(f:∀a b,F a b->G a b){l₁:List α}{l₂:List β}(r:Paired F l₁ l₂):Paired G l₁ l₂:=wJ r f
theorem yD.stay(x:yD P w H h a o)(k:∀b u,(b=a\/H b=some (.own a))->h.get? b=some u->h'.get? b=some u)
  (ho:∀b,H b=some (.own a)->H' b=some (.own a)) (ht:∀b xs,H b=some (.tup xs)->H' b=some (.tup xs)):yD P w H' h' a o:=by
 induction o with
 | lst xs=>obtain⟨z,its,n,r,e⟩:=x;exact⟨z,its,n,r,k _ _ (.inl rfl) e⟩
 | tup xs=>obtain⟨z,its,r,ob,e,c⟩:=x;exact⟨z,its,r,ob,k _ _ (.inl rfl) e,c⟩
 | dK kvs=>obtain⟨z,y,vs,r,ob,es,ep,e,c⟩:=x;exact⟨z,y,vs,r,ob,es,ep,k _ _ (.inl rfl) e,c⟩
 | dT kvs=>
  obtain⟨z,y,xs,r,ob,es,ep,e,c⟩:=x;exact⟨z,y,xs,wJ r fun p q z=>⟨z.1,ht _ _ z.2.1,z.2.2⟩,ob,es,ep,k _ _ (.inl rfl) e,c⟩
 | set S n=>obtain⟨ob,es,ep,t,e,c⟩:=x;exact⟨ob,es,ep,t,k _ _ (.inl rfl) e,c⟩
 | ins C dx fs=>
  obtain⟨d,z,ne,e,mA,⟨od,es,ep,e2,c⟩,r⟩:=x;exact⟨ho _ d,z,ne,k _ _ (.inl rfl) e,mA,⟨od,es,ep,k _ _ (.inr d) e2,c⟩,r⟩
 | own y=>obtain⟨ob,e⟩:=x;exact⟨ob,k _ _ (.inl rfl) e⟩
 | xd fs=>obtain⟨mA,⟨od,es,ep,e,c⟩,r⟩:=x;exact⟨mA,⟨od,es,ep,k _ _ (.inl rfl) e,c⟩,r⟩
 | rng lo hi=>obtain⟨t,u,v,e⟩:=x;exact⟨t,u,v,k _ _ (.inl rfl) e⟩
 | frz ob u ih=>obtain⟨e,q⟩:=x;exact⟨k _ _ (.inl rfl) e,ih q⟩
 | tbl ps=>
  have e:h.get? a=some { cls:=.none,data:=.fields ps }:=x;show h'.get? a=some { cls:=.none,data:=.fields ps };exact k a _ (.inl rfl) e
 | met f y=>
  have e:h.get? a=some (methodObj (.ref f) (.ref y)):=x;show h'.get? a=some (methodObj (.ref f) (.ref y));exact k a _ (.inl rfl) e
 | ext φ=>obtain⟨p,⟨o,e⟩,st⟩:=x;exact⟨st _ _ p fun o q=>k _ _ (.inl rfl) q,⟨o,k _ _ (.inl rfl) e⟩,st⟩
theorem HOk.lt(x:HOk P w H h)(e:H a=some o):a<h.objs.size:=(x a o e).lt
theorem HOk.fresh(x:HOk P w H h)(e:h.objs.size<=a):H a=none:=by
 cases q:H a with
 | none=>rfl
 | some u=>exact absurd (lt_of_lt_of_le (x.lt q) e) (lt_irrefl _)
theorem HOk.kept(x:HOk P w H h)(k:∀b u,h.get? b=some u->h'.get? b=some u):HOk P w H h':=fun a o e=>
 (x a o e).stay (fun b u _ q=>k b u q) (fun _ q=>q) fun _ _ q=>q
theorem HOk.laid(x:HOk P w H h)(k:∀b u,h.get? b=some u->h'.get? b=some u)(hp:h.objs.size<=a)(new:yD P w (upd H a o) h' a o):HOk P w (upd H a o) h':=fun b u e=>by
 have hn:=x.fresh hp;by_cases hb:b=a
 ·subst hb;rw[za] at e;cases e;exact new
 ·rw[zf hb] at e
  exact(x b u e).stay (fun c v _ q=>k c v q) (fun c q=>by rw[zf (ze q hn)];exact q) fun c xs q=>by rw[zf (ze q hn)];exact q
def Rd(H:Hp)(a:Addr)(u:HO):Prop:=H a=some u\/∃o,H a=some (.frz o u)
theorem Rd.ok(r:Rd H a u)(x:HOk P w H h):yD P w H h a u:=by
 rcases r with r|⟨o,r⟩
 ·exact x a u r
 ·obtain⟨_,q⟩:=x a _ r
  exact q
def Mut:Option HO->Prop
 | some (.lst _)=>True
 | some (.dK _)=>True
 | some (.dT _)=>True
 | some (.set _ _)=>True
 | some (.ins _ _ _)=>True
 | some (.ext _)=>True
 | _=>False
variable {x e:Addr}{o':HO}
theorem HOk.write(ok:HOk P w H h)(mu:Mut (H x))(he:e=x\/H e=some (.own x))(k:∀b u,b≠e->h.get? b=some u->h'.get? b=some u)(heo:∃u,h'.get? e=some u)
  (new:yD P w (upd H x o') h' x o'):HOk P w (upd H x o') h':=fun b u q=>by
 have nown:∀c y,H c=some (.own y)->c≠x:=fun c y r z=>by subst z;rw[r] at mu;exact mu
 have ntup:∀c xs,H c=some (.tup xs)->c≠x:=fun c xs r z=>by subst z;rw[r] at mu;exact mu
 by_cases hb:b=x
 ·subst hb;rw[za] at q;cases q;exact new
 ·rw[zf hb] at q
  by_cases hbe:b=e
  ·have q':H b=some (.own x):=by
    rcases he with z|z
    ·exact absurd (hbe.trans z) hb
    ·rw[hbe];exact z
   rw[q] at q';cases q';obtain⟨v,hv⟩:=heo;exact⟨v,by rw[hbe];exact hv⟩
  ·refine(ok b u q).stay (fun c v hc r=>k c v ?_ r) (fun c r=>by rw[zf (nown c b r)];exact r) fun c xs r=>by rw[zf (ntup c xs r)];exact r
   rcases hc with rfl|hc
   ·exact hbe
   ·rintro rfl
    rcases he with z|z
    ·exact nown c b hc z
    ·rw[hc] at z;cases z;exact hb rfl
structure Un(fs ex:List Addr)(H H':Hp)(h h':Heap):Prop where
 keep:∀b o,h.get? b=some o->H b=none->b∉fs->b∉ex->h'.get? b=some o
 slot:∀b o,h.get? b=some o->H b=none->b∈fs->b∉ex->∃sl,h'.get? b=some { o with slots:=sl }
 free:∀b o,h.get? b=some o->H b=none->b∉ex->H' b=none
 there:∀b o,h.get? b=some o->b∉ex->∃o',h'.get? b=some o'
 tups:∀b xs,H b=some (.tup xs)->H' b=some (.tup xs)
 frzs:∀b o u,H b=some (.frz o u)->H' b=some (.frz o u)
 tbls:∀b ps,H b=some (.tbl ps)->∃more,H' b=some (.tbl (ps++more))
variable {fs fs' ex ex':List Addr}
theorem Un.any(u:Un fs ex H H1 h h1)(q:h.get? b=some ob)(n:H b=none)(hx:b∉ex):∃sl,h1.get? b=some { ob with slots:=sl }:=by
 by_cases hb:b∈fs
 ·exact u.slot b ob q n hb hx
 ·exact⟨ob.slots,u.keep b ob q n hb hx⟩
theorem Un.kept(k:∀b u,h.get? b=some u->h'.get? b=some u):Un fs ex H H h h':=
 ⟨fun b ob q _ _ _=>k b ob q,fun b ob q _ _ _=>⟨ob.slots,k b ob q⟩,fun _ _ _ n _=>n,fun b ob q _=>⟨ob,k b ob q⟩,fun _ _ q=>q,fun _ _ _ q=>q,fun _ ps q=>⟨#[],by rw[q];simp⟩⟩
theorem Un.refl:Un fs ex H H h h:=Un.kept fun _ _ q=>q
theorem Un.laid(k:∀b u,h.get? b=some u->h'.get? b=some u)(hp:h.objs.size<=a)(hn:H a=none):Un fs ex H (upd H a o) h h' where
 keep:=fun b u q _ _ _=>k b u q
 slot:=fun b u q _ _ _=>⟨u.slots,k b u q⟩
 free:=fun b u q n _=>by rw[zf (ne_of_lt (lt_of_lt_of_le (aI q) hp))];exact n
 there:=fun b u q _=>⟨u,k b u q⟩
 tups:=fun b xs q=>by rw[zf (ze q hn)];exact q
 frzs:=fun b u xs q=>by rw[zf (ze q hn)];exact q
 tbls:=fun b ps q=>⟨#[],by rw[zf (ze q hn),q];simp⟩
theorem Un.write(mu:Mut (H x))(he:e=x\/H e=some (.own x))(k:∀b u,b≠e->h.get? b=some u->h'.get? b=some u)(heo:∃u,h'.get? e=some u):Un fs ex H (upd H x o) h h':=by
 have hx:∀b,H b=none->b≠x:=fun b n z=>by subst z;rw[n] at mu;exact mu
 have hb:∀b,H b=none->b≠e:=fun b n z=>by
  subst z;rcases he with r|r
  ·exact hx b n r
  ·rw[n] at r;cases r
 have hm:∀b u,H b=some u->¬Mut (some u)->b≠x:=fun b u q nm z=>by subst z;rw[q] at mu;exact nm mu
 refine⟨fun b u q n _ _=>k b u (hb b n) q,fun b u q n _ _=>⟨u.slots,k b u (hb b n) q⟩,fun b u q n _=>by rw[zf (hx b n)];exact n,fun b u q _=>?_,
  fun b xs q=>by rw[zf (hm b _ q fun z=>z)];exact q,fun b u xs q=>by rw[zf (hm b _ q fun z=>z)];exact q,fun b ps q=>⟨#[],by rw[zf (hm b _ q fun z=>z),q];simp⟩⟩
 by_cases hbe:b=e
 ·subst hbe;exact heo
 ·exact⟨u,k b u hbe q⟩
def trk(h:Heap)(H:Hp):List Addr:=(List.range h.objs.size).filter fun a=>(H a).isSome
def zbv(h:Heap)(H:Hp):Heap:=hideAll h (trk h H)
theorem zfg(h:Heap)(H:Hp):(zbv h H).objs.size=h.objs.size:=PySem.W.hideAll_size _ _
theorem zhs{h:Heap}{H:Hp}{b:Addr}{o:Obj}(e:h.get? b=some o)(n:H b=none):(zbv h H).get? b=some o:=
 PySem.W.hideAll_get _ e fun hm=>by
  have q:(H b).isSome=true:=(List.mem_filter.mp hm).2;rw[n] at q;simp at q
theorem ziX{h:Heap}{H:Hp}{b:Addr}{o:Obj}(e:(zbv h H).get? b=some o):h.get? b=some o/\H b=none:=by
 have e':h.get? b=some o:=PySem.W.of_hideAll (trk h H) e;exists e',?_;cases q:H b with
 | none=>rfl
 | some x=>
  have hm:b∈trk h H:=List.mem_filter.mpr ⟨List.mem_range.mpr (aI e'),by simp [q]⟩
  have z:(zbv h H).get? b=none:=hideAll_none (trk h H) hm;rw[z] at e;cases e
def zjs(g h:Heap)(L:Addr):List (Addr×Obj):=(List.range h.objs.size).filterMap fun a=>if a=L\/(g.get? a).isSome=true then none else (h.get? a).map fun o=>(a,o)
def ya(g h:Heap)(L d:Addr):List (Addr×Obj):=(zjs g h L).filter fun p=>decide (p.1≠d)
structure Mod(K:Frag)(mg:Str->Option Value)(base:Heap):Prop where
 kin:K.In base
 glob:base.Ns mainGlobals mg
 blt:∃mb,base.Ns builtinsNs mb/\∀x:Str,x≠"__name__"->mb x=bootBuiltins x
 nolimit:base.NoLimit
structure Cx where
 prog:Program
 w:World
 K:Frag
 mg:Str->Option Value
 base:Heap
 A:Around
 N:List Str
 s₀:Shared
 H₀:Hp
 env:Env
 outer:List Env
 stack:List Env
 ex:List Addr
 fn:Str->Bool
 calm:Bool
 pn:List (Addr×Obj)
 xe:Value->Shared->Prop
def frs(l:List Env):List Addr:=l.filterMap (·.frame)
end
abbrev Cx.fs(X:Cx):List Addr:=frs X.outer
def Vis(sc:Scope)(x:Str):Prop:=sc.names.lookup x=some .local\/sc.names.lookup x=some .cell\/sc.names.lookup x=some .free
def Loc(sc:Scope)(x:Str):Prop:=sc.names.lookup x=some .local\/sc.names.lookup x=some .cell
def zny(env:Env)(h:Heap)(m:Str->Option Value)(x:Str)(u:Value):Prop:=
 (env.kindOf x=some .local/\m x=some u)\/((env.kindOf x=some .cell\/env.kindOf x=some .free)/\∃c,env.cells.lookup x=some c/\h.IsCell c (some u))
structure Cx.Ok(X:Cx):Prop where
 mod:Mod X.K X.mg X.base
 kind:X.env.scope.kind=.function
 glob:X.env.globals=mainGlobals
 blt:X.env.builtins=builtinsNs
 above:X.s₀.heap.objs.size<=X.env.locals
 inj:∀x y c,X.env.cells.lookup x=some c->X.env.cells.lookup y=some c->x=y
 has:∀x,(X.env.kindOf x=some .cell\/X.env.kindOf x=some .free)->∃c,X.env.cells.lookup x=some c
 cab:∀x c,X.fn x=true->X.env.cells.lookup x=some c->X.s₀.heap.objs.size<=c
 hd:X.calm=true->X.A.handled=none
 frames:X.A.frames=some X.stack
 stk:X.stack=X.outer\/(X.stack=X.env::X.outer/\X.env.frame=some X.env.locals)
 exf:∀b∈X.ex,b≠X.env.locals/\∀x c,X.env.cells.lookup x=some c->c≠b
 bs:∀b o,X.base.get? b=some o->X.s₀.heap.get? b=some o/\X.H₀ b=none
 bsz:X.base.objs.size<=X.s₀.heap.objs.size
 noex:∀b o,X.base.get? b=some o->b∉X.ex
 exfs:∀b∈X.ex,b∉X.fs
 funs:X.s₀.heap.FunFrames X.base X.outer
 frf:∀b∈X.fs,X.H₀ b=none
structure Inv(X:Cx)(pins:PnL)(σ : List (Option V))(H:Hp)(s:Shared):Prop where
 ok:X.Ok
 os:s.os=X.s₀.os
 bare:AllBare s.gens
 base:Un X.fs X.ex X.H₀ H X.s₀.heap s.heap
 loc:∃m,s.heap.Ns X.env.locals m/\∀(i:Nat) (x:Str) (v:V),X.N[i]?=some x->σ[i]?=some (some v)->Vis X.env.scope x->∃u,z3 v u/\zny X.env s.heap m x u
 cell:∀x c,X.env.cells.lookup x=some c->∃v,s.heap.IsCell c v
 free:H X.env.locals=none
 freeC:∀x c,X.env.cells.lookup x=some c->H c=none
 pin:∀p∈X.pn++pins,s.heap.get? p.1=some p.2/\H p.1=none/\p.1≠X.env.locals/\p.1∉X.fs/\∀v,p.2.data≠.cell v
 hok:HOk X.prog X.w H s.heap
 len : σ.length=X.N.length
section
variable {X:Cx}{pins:PnL}{σ:List (Option V)}{H H':Hp}{s:Shared}
theorem Cx.Ok.nofr(ok:X.Ok)(e:X.base.get? b=some o):b∉X.fs:=fun hb=>by
 have:=(ok.funs.mem hb).1
 rw[e] at this;cases this
theorem Inv.bs(I:Inv X pins σ H s):∀b o,X.base.get? b=some o->s.heap.get? b=some o/\H b=none:=fun b o e=>
 ⟨I.base.keep b o (I.ok.bs b o e).1 (I.ok.bs b o e).2 (I.ok.nofr e) (I.ok.noex b o e),I.base.free b o (I.ok.bs b o e).1 (I.ok.bs b o e).2 (I.ok.noex b o e)⟩
theorem Inv.bk(I:Inv X pins σ H s):∀b o,X.base.get? b=some o->s.heap.get? b=some o:=fun b o e=>(I.bs b o e).1
theorem Inv.mod(I:Inv X pins σ H s):Mod X.K X.mg X.base:=I.ok.mod
theorem Inv.kIn(I:Inv X pins σ H s):X.K.In s.heap:=I.ok.mod.kin.keeps I.bk
theorem Inv.lt(I:Inv X pins σ H s):X.env.locals<s.heap.objs.size:=let ⟨_,hn,_⟩:=I.loc;hn.lt
theorem Inv.sz(I:Inv X pins σ H s):X.s₀.heap.objs.size<=s.heap.objs.size:=le_trans I.ok.above (le_of_lt I.lt)
theorem Inv.nofs(I:Inv X pins σ H s)(h:s.heap.objs.size<=a):a∉X.fs:=fun hb=>by
 obtain⟨_,o,ho,_⟩:=I.ok.funs.mem hb;exact absurd (lt_of_lt_of_le (aI ho) (le_trans I.sz h)) (lt_irrefl _)
theorem Inv.cne(I:Inv X pins σ H s):∀x c,X.env.cells.lookup x=some c->c≠X.env.locals:=fun x c e z=>by
 obtain⟨v,o,ho,hd⟩:=I.cell x c e;obtain⟨m,⟨o',es,ep,ho',hd',_⟩,_⟩:=I.loc;rw[z,ho'] at ho;cases ho;rw[hd'] at hd;cases hd
theorem Inv.funs(I:Inv X pins σ H s):s.heap.FunFrames X.base X.outer:=by
 have all:∀(l:List Env),(∀b∈frs l,b∈X.fs)->X.s₀.heap.FunFrames X.base l->s.heap.FunFrames X.base l:=by
  intro l;induction l with
  | nil=>intro _ _;trivial
  | cons env r ih=>
   intro hs hl;obtain⟨hk,⟨L,o,hf,hn,ho,hd⟩,hr⟩:=hl;have hL:L∈X.fs:=hs L (by unfold frs;rw[filterMap_cons,hf];exact mem_cons_self)
   obtain⟨sl,e⟩:=I.base.slot L o ho (I.ok.frf L hL) hL fun z=>I.ok.exfs L z hL;exact⟨hk,⟨L,_,hf,hn,e,hd⟩,ih (fun b hb=>hs b (by unfold frs;rw[filterMap_cons,hf];exact mem_cons_of_mem _ hb)) hr⟩
 exact all X.outer (fun _ hb=>hb) I.ok.funs
theorem Inv.stack(I:Inv X pins σ H s):s.heap.FunFrames X.base X.stack:=by
 rcases I.ok.stk with e|⟨e,hf⟩
 ·rw[e];exact I.funs
 ·rw[e]
  obtain⟨m,hn,_⟩:=I.loc;refine .cons (by rw[I.ok.kind];decide) hf hn ?_ I.funs
  exact Heap.get?_none_of_le (le_trans I.ok.bsz I.ok.above)
theorem Inv.stkSub(I:Inv X pins σ H s):∀b∈frs X.stack,b∈X.env.locals::X.fs:=fun b hb=>by
 rcases I.ok.stk with e|⟨e,hf⟩
 ·rw[e] at hb;exact mem_cons_of_mem _ hb
 ·rw[e] at hb
  unfold frs at hb;rw[filterMap_cons,hf] at hb;exact hb
theorem Inv.stkFree(I:Inv X pins σ H s):∀b∈frs X.stack,H b=none:=fun b hb=>by
 rcases List.mem_cons.mp (I.stkSub b hb) with e|hb
 ·rw[e];exact I.free
 ·obtain⟨_,o,ho,_⟩:=I.ok.funs.mem hb
  exact I.base.free b o ho (I.ok.frf b hb) fun z=>I.ok.exfs b z hb
theorem Inv.step{h':Heap}{g':Array GenState}{t':Nat}{d':Drawn}{ch:List Addr}(I:Inv X pins σ H s)
  (hch:∀b∈ch,(b∈X.ex\/X.s₀.heap.objs.size<=b)/\b≠X.env.locals/\(∀x c,X.env.cells.lookup x=some c->c≠b)/\∀p∈X.pn++pins,p.1≠b)
  (keep:∀b o,b≠X.env.locals->b∉X.fs->b∉ch->s.heap.get? b=some o->H b=none->h'.get? b=some o)
  (slot:∀b o,b≠X.env.locals->b∈X.fs->b∉ch->s.heap.get? b=some o->H b=none->∃sl,h'.get? b=some { o with slots:=sl }) (free:∀b o,b∉ch->s.heap.get? b=some o->H b=none->H' b=none)
  (there:∀b o,b∉ch->s.heap.get? b=some o->∃o',h'.get? b=some o')
  (tups:∀b xs,H b=some (.tup xs)->H' b=some (.tup xs)) (frzs:∀b o u,H b=some (.frz o u)->H' b=some (.frz o u)) (tbls:∀b ps,H b=some (.tbl ps)->∃more,H' b=some (.tbl (ps++more)))
  (ns:∀m,s.heap.Ns X.env.locals m->h'.Ns X.env.locals m) (hok:HOk X.prog X.w H' h') (hg:AllBare g') :
  Inv X pins σ H' { s with heap:=h',gens:=g',drawn:=d',toks:=t' }:=by
 have neL:∀b o,X.s₀.heap.get? b=some o->b≠X.env.locals:=fun b o e=>ne_of_lt (lt_of_lt_of_le (aI e) I.ok.above);have neC:∀b o,X.s₀.heap.get? b=some o->b∉X.ex->b∉ch:=fun b o e hx hb=>by
  rcases (hch b hb).1 with z|z
  ·exact hx z
  ·exact absurd (lt_of_lt_of_le (aI e) z) (lt_irrefl _)
 have cellK:∀x c,X.env.cells.lookup x=some c->∀v,s.heap.IsCell c v->h'.IsCell c v:=fun x c e v ⟨o,ho,hd⟩=>by
  have nch:c∉ch:=fun z=>(hch c z).2.2.1 x c e rfl;by_cases hc:c∈X.fs
  ·obtain⟨sl,q⟩:=slot c o (I.cne x c e) hc nch ho (I.freeC x c e)
   exact⟨_,q,hd⟩
  ·exact⟨o,keep c o (I.cne x c e) hc nch ho (I.freeC x c e),hd⟩
 exists I.ok,I.os,hg,⟨fun b o e n hb hx=>?_,fun b o e n hb hx=>?_,fun b o e n hx=>?_,fun b o e hx=>?_,fun b xs e=>tups b xs (I.base.tups b xs e),fun b o xs e=>frzs b o xs (I.base.frzs b o xs e),fun b ps e=>?_⟩,?_,fun x c e=>?_,?_,fun x c e=>?_,fun p hp=>?_,hok,I.len
 ·exact keep b o (neL b o e) hb (neC b o e hx) (I.base.keep b o e n hb hx) (I.base.free b o e n hx)
 ·obtain⟨sl,e1⟩:=I.base.slot b o e n hb hx
  obtain⟨sl',e2⟩:=slot b _ (neL b o e) hb (neC b o e hx) e1 (I.base.free b o e n hx);exact⟨sl',e2⟩
 ·obtain⟨o',e1⟩:=I.base.there b o e hx
  exact free b o' (neC b o e hx) e1 (I.base.free b o e n hx)
 ·obtain⟨o',e1⟩:=I.base.there b o e hx
  exact there b o' (neC b o e hx) e1
 ·obtain⟨m1,e1⟩:=I.base.tbls b ps e
  obtain⟨m2,e2⟩:=tbls b _ e1;exact⟨m1++m2,by rw[e2,Array.append_assoc]⟩
 ·obtain⟨m,hn,hl⟩:=I.loc
  exists m,ns m hn,fun i x v e1 e2 e3=>?_;obtain⟨u,r,l⟩:=hl i x v e1 e2 e3;exists u,r,?_;rcases l with l|⟨k,c,e,z⟩
  ·exact .inl l
  ·exact .inr ⟨k,c,e,cellK x c e _ z⟩
 ·obtain⟨v,z⟩:=I.cell x c e
  exact⟨v,cellK x c e v z⟩
 ·obtain⟨m,⟨o,_,_,ho,_⟩,_⟩:=I.loc
  exact free _ o (fun z=>(hch _ z).2.1 rfl) ho I.free
 ·obtain⟨v,o,ho,hd⟩:=I.cell x c e
  exact free c o (fun z=>(hch c z).2.2.1 x c e rfl) ho (I.freeC x c e)
 ·obtain⟨e,n,ne,nf,d⟩:=I.pin p hp
  have nch:p.1∉ch:=fun z=>(hch p.1 z).2.2.2 p hp rfl;exact⟨keep p.1 p.2 ne nf nch e n,free p.1 p.2 nch e n,ne,nf,d⟩
theorem Inv.un{t':Nat}(I:Inv X pins σ H s)(u:Un X.fs [] H H' s.heap h')(hok:HOk X.prog X.w H' h'):Inv X pins σ H' { s with heap:=h',toks:=t' }:=by
 obtain⟨m,⟨o,es,ep,ho,r⟩,_⟩:=id I.loc;obtain⟨sl,hL⟩:=u.any ho I.free (by simp)
 exact I.step (g':=s.gens) (d':=s.drawn) (ch:=[]) (fun _ z=>nomatch z) (fun b o _ hb _ e n=>u.keep b o e n hb (by simp)) (fun b o _ hb _ e n=>u.slot b o e n hb (by simp)) (fun b o _ e n=>u.free b o e n (by simp)) (fun b o _ e=>u.there b o e (by simp)) u.tups u.frzs u.tbls (fun m' hm=>by
  obtain⟨o',es',ep',ho',r'⟩:=hm;rw[ho] at ho';cases ho';exact⟨_,es',ep',hL,r'⟩) hok I.bare
theorem Inv.call{t':Nat}(I:Inv X pins σ H s)(u:Un (frs X.stack) ch H H' s.heap h')(hok:HOk X.prog X.w H' h')(hg:AllBare g')
  (hch:∀b∈ch,(b∈X.ex\/X.s₀.heap.objs.size<=b)/\b≠X.env.locals/\(∀x c,X.env.cells.lookup x=some c->c≠b)/\∀p∈X.pn++pins,p.1≠b) :
  Inv X pins σ H' { s with heap:=h',gens:=g',drawn:=d',toks:=t' }:=by
 obtain⟨m,⟨o,es,ep,ho,r⟩,_⟩:=id I.loc;obtain⟨sl,hL⟩:=u.any ho I.free fun z=>(hch _ z).2.1 rfl;exact I.step (ch:=ch) hch (fun b o hL hb hc e n=>u.keep b o e n (fun z=>(List.mem_cons.mp (I.stkSub b z)).elim hL hb) hc) (fun b o _ _ hc e n=>u.any e n hc) (fun b o hc e n=>u.free b o e n hc) (fun b o hc e=>u.there b o e hc) u.tups u.frzs u.tbls (fun m' hm=>by
  obtain⟨o',es',ep',ho',r'⟩:=hm;rw[ho] at ho';cases ho';exact⟨_,es',ep',hL,r'⟩) hok hg
theorem Inv.turned{t':Nat}(I:Inv X pins σ H s)(k:∀b o,b≠it->s.heap.get? b=some o->h'.get? b=some o)(hn:H it=none)(hL:it≠X.env.locals)
  (h1:it∈X.ex\/X.s₀.heap.objs.size<=it) (h2:∀x c,X.env.cells.lookup x=some c->c≠it) (h3:∀p∈X.pn++pins,p.1≠it):Inv X pins σ H { s with heap:=h',toks:=t' }:=by
 have nit:∀b u,H b=some u->b≠it:=fun b u e z=>by rw[z,hn] at e;cases e
 refine I.step (g':=s.gens) (d':=s.drawn) (ch:=[it]) (fun b hb=>?_) (fun b o _ _ hc e _=>k b o (fun z=>hc (by simp [z])) e) (fun b o _ _ hc e _=>⟨o.slots,k b o (fun z=>hc (by simp [z])) e⟩) (fun _ _ _ _ n=>n)
  (fun b o hc e=>⟨o,k b o (fun z=>hc (by simp [z])) e⟩) (fun _ _ e=>e) (fun _ _ _ e=>e) (fun b ps e=>⟨#[],by rw[e];simp⟩) (fun m hm=>?_) (fun b u e=>?_) I.bare
 ·have e:b=it:=by simpa using hb
  subst e;exact⟨h1,hL,h2,h3⟩
 ·obtain⟨o,es,ep,ho,r⟩:=hm
  exact⟨o,es,ep,k _ o (Ne.symm hL) ho,r⟩
 ·refine(I.hok b u e).stay (fun c v hc q=>k c v ?_ q) (fun _ q=>q) fun _ _ q=>q
  rcases hc with z|z
  ·rw[z];exact nit b u e
  ·exact nit c _ z
theorem Inv.tok(I:Inv X pins σ H s)(t:Nat):Inv X pins σ H { s with toks:=t }:=I.un (h':=s.heap) (t':=t) Un.refl I.hok
theorem Inv.kept{t':Nat}(I:Inv X pins σ H s)(k:∀b u,s.heap.get? b=some u->h'.get? b=some u):Inv X pins σ H { s with heap:=h',toks:=t' }:=I.un (Un.kept k) (I.hok.kept k)
theorem Inv.laid{t':Nat}(I:Inv X pins σ H s)(k:∀b u,s.heap.get? b=some u->h'.get? b=some u)(hp:s.heap.objs.size<=a)(new:yD X.prog X.w (upd H a o) h' a o):
  Inv X pins σ (upd H a o) { s with heap:=h',toks:=t' }:=I.un (Un.laid k hp (I.hok.fresh hp)) (I.hok.laid k hp new)
theorem Inv.write{t':Nat}(I:Inv X pins σ H s)(mu:Mut (H x))(he:e=x\/H e=some (.own x))(k:∀b u,b≠e->s.heap.get? b=some u->h'.get? b=some u)(heo:∃u,h'.get? e=some u)
  (new:yD X.prog X.w (upd H x o) h' x o):Inv X pins σ (upd H x o) { s with heap:=h',toks:=t' }:=I.un (Un.write mu he k heo) (I.hok.write mu he k heo new)
theorem Inv.weak(I:Inv X pins σ H s)(hl : σ'.length=σ.length)(w:∀(i:Nat) v,σ'[i]?=some (some v)->σ[i]?=some (some v)):Inv X pins σ' H s:=
 ⟨I.ok,I.os,I.bare,I.base,let ⟨m,hn,hl'⟩:=I.loc;⟨m,hn,fun i x v e1 e2 e3=>hl' i x v e1 (w i v e2) e3⟩,I.cell,I.free,I.freeC,I.pin,I.hok,hl.trans I.len⟩
theorem Inv.pins_of(I:Inv X pins σ H s)(h:∀p∈pins',s.heap.get? p.1=some p.2/\H p.1=none/\p.1≠X.env.locals/\p.1∉X.fs/\∀v,p.2.data≠.cell v):Inv X pins' σ H s:=
 ⟨I.ok,I.os,I.bare,I.base,I.loc,I.cell,I.free,I.freeC,fun p hp=>(List.mem_append.mp hp).elim (fun z=>I.pin p (mem_append_left _ z)) (h p),I.hok,I.len⟩
theorem zb3{N:List Str}(hN:N.Nodup){i j:Nat}{x:Str}(a:N[i]?=some x)(b:N[j]?=some x):i=j:=by
 obtain⟨h1,e1⟩:=List.getElem?_eq_some_iff.mp a;obtain⟨h2,e2⟩:=List.getElem?_eq_some_iff.mp b;exact(List.getElem_inj hN).mp (e1.trans e2.symm)
theorem zai{E:VSP}{i:Nat}{Q:Unit->Shared->Prop}(I:Inv X pins σ H s)(hN:X.N.Nodup)(hi:X.N[i]?=some x)(hx:Loc X.env.scope x)(r:z3 v u)
  (h:∀s',Inv X pins (σ.set i (some v)) H s'->(∃a,Heap.SameBut a s.heap s'.heap/\(a=X.env.locals\/X.env.cells.lookup x=some a))->Q () s') (hf:X.fn x=true\/X.env.scope.names.lookup x=some .local:=by first|exact .inl rfl|exact .inr rfl|assumption):wpAny M A (storeName X.env x u) Q E s:=by
 obtain⟨m,hn,hl⟩:=id I.loc;have hcls:(X.env.scope.kind==.class||(X.env.scope.kind==.module&&X.env.locals != X.env.globals))=false:=by rw[I.ok.kind];rfl
 have hiσ : i<σ.length:=by rw[I.len];exact(List.getElem?_eq_some_iff.mp hi).1
 have cne:=I.cne;have tracked:∀{a:Addr}{h':Heap},(∃o,s.heap.get? a=some o/\H a=none)->Heap.SameBut a s.heap h'->HOk X.prog X.w H h':=fun {a h'} ha hs b ob e=>by
  obtain⟨_,_,hfree⟩:=ha;refine(I.hok b ob e).stay (fun c w' hc q=>(hs.2 c ?_).trans q) (fun _ q=>q) fun _ _ q=>q;rintro rfl;rcases hc with rfl|hc
  ·rw[hfree] at e;cases e
  ·rw[hfree] at hc;cases hc
 rcases hx with hk|hk
 ·refine wpAny_storeName_local hk hn (fun h' hn' hs=>?_) hcls
  obtain⟨oL,_,_,hoL,_⟩:=id hn;refine h _ ⟨I.ok,I.os,I.bare,⟨fun b o e n hb hx=>?_,fun b o e n hb hx=>?_,I.base.free,fun b o e hx=>?_,I.base.tups,I.base.frzs,I.base.tbls⟩,⟨_,hn',fun j y v' e1 e2 e3=>?_⟩,fun y c e=>?_,I.free,I.freeC,fun p hp=>?_,tracked ⟨oL,hoL,I.free⟩ hs,by simpa using I.len⟩ ⟨_,hs,.inl rfl⟩
  ·exact(hs.2 b (ne_of_lt (lt_of_lt_of_le (aI e) I.ok.above))).trans (I.base.keep b o e n hb hx)
  ·obtain⟨sl,e1⟩:=I.base.slot b o e n hb hx
   exact⟨sl,(hs.2 b (ne_of_lt (lt_of_lt_of_le (aI e) I.ok.above))).trans e1⟩
  ·obtain⟨o',e1⟩:=I.base.there b o e hx
   exact⟨o',(hs.2 b (ne_of_lt (lt_of_lt_of_le (aI e) I.ok.above))).trans e1⟩
  ·by_cases hj:j=i
   ·subst hj
    rw[hi] at e1;cases e1;rw[List.getElem?_set_self hiσ] at e2;cases e2;exact⟨u,r,.inl ⟨hk,by simp⟩⟩
   ·rw[getElem?_set_ne (Ne.symm hj)] at e2
    obtain⟨u',r',q⟩:=hl j y v' e1 e2 e3;exists u',r',?_;rcases q with ⟨k,e⟩|⟨k,c,e,z⟩
    ·refine .inl ⟨k,?_⟩
     have:y≠x:=fun e=>hj (zb3 hN e1 (e ▸ hi))
     simp [this,e]
    ·exact .inr ⟨k,c,e,z.sameBut hs (cne y c e)⟩
  ·obtain⟨w',z⟩:=I.cell y c e
   exact⟨w',z.sameBut hs (cne y c e)⟩
  ·obtain⟨e,n,ne,nf,d⟩:=I.pin p hp
   exact⟨(hs.2 p.1 ne).trans e,n,ne,nf,d⟩
 ·have hfn:X.fn x=true:=by
   rcases hf with z|z
   ·exact z
   ·rw[z] at hk;cases hk
  obtain⟨c,hc⟩:=I.ok.has x (.inl hk);obtain⟨w',z⟩:=I.cell x c hc;refine wpAny_storeName_cell I.ok.kind hk hc z (fun h' hc' hs=>?_);obtain⟨oc,hoc,hocd⟩:=id z;refine h { s with heap:=h' } ⟨I.ok,I.os,I.bare,⟨fun b o e n hb hx=>?_,fun b o e n hb hx=>?_,I.base.free,fun b o e hx=>?_,I.base.tups,I.base.frzs,I.base.tbls⟩,⟨m,hn.sameBut hs (Ne.symm (cne x c hc)),fun j y v' e1 e2 e3=>?_⟩,fun y c' e=>?_,I.free,I.freeC,fun p hp=>?_,tracked ⟨oc,hoc,I.freeC x c hc⟩ hs,by simpa using I.len⟩ ⟨c,hs,.inr hc⟩
  ·exact(hs.2 b (ne_of_lt (lt_of_lt_of_le (aI e) (I.ok.cab x c hfn hc)))).trans (I.base.keep b o e n hb hx)
  ·obtain⟨sl,e1⟩:=I.base.slot b o e n hb hx
   exact⟨sl,(hs.2 b (ne_of_lt (lt_of_lt_of_le (aI e) (I.ok.cab x c hfn hc)))).trans e1⟩
  ·obtain⟨o',e1⟩:=I.base.there b o e hx
   exact⟨o',(hs.2 b (ne_of_lt (lt_of_lt_of_le (aI e) (I.ok.cab x c hfn hc)))).trans e1⟩
  ·by_cases hj:j=i
   ·subst hj
    rw[hi] at e1;cases e1;rw[List.getElem?_set_self hiσ] at e2;cases e2;exact⟨u,r,.inr ⟨.inl hk,c,hc,hc'⟩⟩
   ·rw[getElem?_set_ne (Ne.symm hj)] at e2
    obtain⟨u',r',q⟩:=hl j y v' e1 e2 e3;exists u',r',?_;rcases q with q|⟨k,c',e,z'⟩
    ·exact .inl q
    ·refine .inr ⟨k,c',e,z'.sameBut hs ?_⟩
     rintro rfl;exact hj (zb3 hN e1 (I.ok.inj _ _ _ e hc ▸ hi))
  ·by_cases hcc:c'=c
   ·subst hcc;exact⟨_,hc'⟩
   ·obtain⟨w2,z2⟩:=I.cell y c' e
    exact⟨w2,z2.sameBut hs hcc⟩
  ·obtain⟨e,n,ne,nf,d⟩:=I.pin p hp
   exists (hs.2 p.1 ?_).trans e,n,ne,nf,d;intro q;rw[q,hoc] at e;have q':oc=p.2:=Option.some.inj e;exact d w' (by rw[<- q'];exact hocd)
theorem j4{E:VSP}{i:Nat}{Q:Unit->Shared->Prop}(I:Inv X pins σ H s)(hN:X.N.Nodup)(hi:X.N[i]?=some x)(hx:Loc X.env.scope x)(r:z3 v u)
  (h:∀s',Inv X pins (σ.set i (some v)) H s'->Q () s') (hf:X.fn x=true\/X.env.scope.names.lookup x=some .local:=by first|exact .inl rfl|exact .inr rfl|assumption):wpAny M A (storeName X.env x u) Q E s:=
 zai I hN hi hx r (fun s' I' _=>h s' I') hf
theorem Inv.call'(I:Inv X pins σ H s)(ho:s'.os=s.os)(u:Un (frs X.stack) ch H H' s.heap s'.heap)(hok:HOk X.prog X.w H' s'.heap)(hg:AllBare s'.gens)
  (hch:∀b∈ch,(b∈X.ex\/X.s₀.heap.objs.size<=b)/\b≠X.env.locals/\(∀x c,X.env.cells.lookup x=some c->c≠b)/\∀p∈X.pn++pins,p.1≠b):Inv X pins σ H' s':=by
 obtain⟨h',g',d',t',o'⟩:=s';have e:o'=s.os:=ho;subst e;exact I.call (g':=g') (t':=t') (d':=d') u hok hg hch
abbrev XK:=Value->Option Addr->Hp->Prop
abbrev St:=List (Option V)
abbrev VK:=V->Hp->Prop
abbrev TE:=St->Hp->VK->Prop
abbrev TT:=St->Hp->(Bool->Hp->Prop)->Prop
abbrev TA:=St->Hp->(List V->Hp->Prop)->Prop
structure ve where
 nx:St->Hp->Prop
 rt:VK
 bk:St->Hp->Prop:=fun _ _=>False
 ct:St->Hp->Prop:=fun _ _=>False
abbrev TS:=ve->St->Hp->Prop
def EP(X:Cx)(pins:PnL)(σ : St)(Q:VK)(u:Value)(s':Shared):Prop:=∃v H',Inv X pins σ H' s'/\z3 v u/\Q v H'
def TP(X:Cx)(pins:PnL)(σ : St)(Q:Bool->Hp->Prop)(b:Bool)(s':Shared):Prop:=∃H',Inv X pins σ H' s'/\Q b H'
def AP(X:Cx)(pins:PnL)(σ : St)(Q:List V->Hp->Prop)(us:List Value)(s':Shared):Prop:=∃vs H',Inv X pins σ H' s'/\zX vs us/\Q vs H'
def SP(X:Cx)(pins:PnL)(D:ve)(f:Flow)(s':Shared):Prop:=
 match f with
 | .next=>∃σ' H',Inv X pins σ' H' s'/\D.nx σ' H'
 | .brk=>∃σ' H',Inv X pins σ' H' s'/\D.bk σ' H'
 | .cont=>∃σ' H',Inv X pins σ' H' s'/\D.ct σ' H'
 | .ret u=>∃v σ' H',Inv X pins σ' H' s'/\z3 v u/\D.rt v H'
structure PE(X:Cx)(e:Expr)(t:TE):Prop where
 run:∀(pins:PnL) (s:Shared) (σ : St) (H:Hp) (Q:VK),Inv X pins σ H s->t σ H Q->↑X (eval e X.env) (EP X pins σ Q) X.xe s
instance {X:Cx}{e:Expr}{t:TE}:CoeFun (PE X e t) (fun _=>∀(pins:PnL) (s:Shared) (σ : St) (H:Hp) (Q:VK),Inv X pins σ H s->t σ H Q->↑X (eval e X.env) (EP X pins σ Q) X.xe s):=⟨PE.run⟩
structure PT(X:Cx)(e:Expr)(t:TT):Prop where
 run:∀(pins:PnL) (s:Shared) (σ : St) (H:Hp) (Q:Bool->Hp->Prop),Inv X pins σ H s->t σ H Q->↑X (isTrue e X.env (eval e X.env)) (TP X pins σ Q) X.xe s
instance {X:Cx}{e:Expr}{t:TT}:CoeFun (PT X e t) (fun _=>∀(pins:PnL) (s:Shared) (σ : St) (H:Hp) (Q:Bool->Hp->Prop),Inv X pins σ H s->t σ H Q->↑X (isTrue e X.env (eval e X.env)) (TP X pins σ Q) X.xe s):=⟨PT.run⟩
structure PW(X:Cx)(e:Expr)(t:TT):Prop where
 run:∀(whole:Sem Value) (pins:PnL) (s:Shared) (σ : St) (H:Hp) (Q:Bool->Hp->Prop),Inv X pins σ H s->t σ H Q->↑X (isTrue e X.env whole) (TP X pins σ Q) X.xe s
instance {X:Cx}{e:Expr}{t:TT}:CoeFun (PW X e t) (fun _=>∀(whole:Sem Value) (pins:PnL) (s:Shared) (σ : St) (H:Hp) (Q:Bool->Hp->Prop),Inv X pins σ H s->t σ H Q->↑X (isTrue e X.env whole) (TP X pins σ Q) X.xe s):=⟨PW.run⟩
theorem yy{t:TT}(h:PW X e t):PT X e t:=⟨h _⟩
structure PA(X:Cx)(es:List Expr)(t:TA):Prop where
 run:∀(pos:Pos) (pins:PnL) (s:Shared) (σ : St) (H:Hp) (Q:List V->Hp->Prop),Inv X pins σ H s->t σ H Q->↑X (spliced (backTo pos (starEach es X.env))) (AP X pins σ Q) X.xe s
instance {X:Cx}{es:List Expr}{t:TA}:CoeFun (PA X es t) (fun _=>∀(pos:Pos) (pins:PnL) (s:Shared) (σ : St) (H:Hp) (Q:List V->Hp->Prop),Inv X pins σ H s->t σ H Q->↑X (spliced (backTo pos (starEach es X.env))) (AP X pins σ Q) X.xe s):=⟨PA.run⟩
structure PS(X:Cx)(st:Stmt)(t:TS):Prop where
 run:∀(pins:PnL) (s:Shared) (σ : St) (H:Hp) (D:ve),Inv X pins σ H s->t D σ H->↑X (exec st X.env) (SP X pins D) X.xe s
instance {X:Cx}{st:Stmt}{t:TS}:CoeFun (PS X st t) (fun _=>∀(pins:PnL) (s:Shared) (σ : St) (H:Hp) (D:ve),Inv X pins σ H s->t D σ H->↑X (exec st X.env) (SP X pins D) X.xe s):=⟨PS.run⟩
structure PSs(X:Cx)(st:List Stmt)(t:TS):Prop where
 run:∀(pins:PnL) (s:Shared) (σ : St) (H:Hp) (D:ve),Inv X pins σ H s->t D σ H->↑X (execs st X.env) (SP X pins D) X.xe s
instance {X:Cx}{st:List Stmt}{t:TS}:CoeFun (PSs X st t) (fun _=>∀(pins:PnL) (s:Shared) (σ : St) (H:Hp) (D:ve),Inv X pins σ H s->t D σ H->↑X (execs st X.env) (SP X pins D) X.xe s):=⟨PSs.run⟩
theorem thn{α : Type}{t:Sem α}{Q Q' : α->Shared->Prop}{E:VSP}(h:wpAny M A t Q E s)(hQ:∀a s,Q a s->Q' a s):wpAny M A t Q' E s:=wpAny_mono h hQ fun _ _ x=>x
inductive znA(i:Nat)(σ : St)(H:Hp)(Q:VK):Prop where
 | mk (v:V) (e : σ[i]?=some (some v)) (q:Q v H)
def zcx(i:Nat):TE:=fun σ H Q=>znA i σ H Q
def tC(v:V):TE:=fun _ H Q=>Q v H
theorem zkB{i:Nat}(hN:X.N[i]?=some x)(hv:Vis X.env.scope x)(hd:(x==("__debug__" : Str))=false:=by decide)(hcd:(x==("__classdict__" : Str))=false:=by decide):PE X (.Name x pos) (zcx i):=by
 and_intros;obtain⟨v,e,h⟩:=h;obtain⟨m,hn,hl⟩:=I.loc;obtain⟨u,r,l⟩:=hl i x v hN e hv;have fin:EP X pins σ Q u s:=⟨v,H,I,r,h⟩;rcases l with ⟨hk,hm⟩|⟨hk,c,hc,hcell⟩
 ·exact wpAny_Name (wpAny_loadName_local I.ok.kind hk hn hm fin) hd
 ·rcases hk with hk|hk
  ·exact wpAny_Name (wpAny_loadName_cell I.ok.kind hk hc hcell fin) hd
  ·exact wpAny_Name (wpAny_loadName_free I.ok.kind hk hc hcell fin hcd) hd
theorem zh{i j pos}:PE X (.Constant (.int i) j pos) (tC (.int i)):=⟨fun _ _ _ H _ I h=>wpAny_Constant_int ⟨.int i,H,I.tok _,⟨_,rfl⟩,h⟩⟩
theorem vz{b j pos}:PE X (.Constant (.bool b) j pos) (tC (.bl b)):=⟨fun _ _ _ H _ I h=>Constant_bool ⟨.bl b,H,I,rfl,h⟩⟩
theorem ur{j pos}:PE X (.Constant .none j pos) (tC .non):=⟨fun _ _ _ H _ I h=>Constant_none ⟨.non,H,I,rfl,h⟩⟩
theorem zw{x j pos}:PE X (.Constant (.str x) j pos) (tC (.str x)):=⟨fun _ _ _ H _ I h=>Calls.Constant_str ⟨.str x,H,I.tok _,⟨_,rfl⟩,h⟩⟩
def Gl(X:Cx)(x:Str):Prop:=X.env.kindOf x=some .globalImplicit
theorem wE{E:VSP}{Q:VSP}(I:Inv X pins σ H s)(hg:Gl X x)(hm:X.mg x=some u)(h:Q u s)
  (hd:(x==("__debug__" : Str))=false:=by decide):↑X (eval (.Name x pos) X.env) Q E s:=
 Calls.Name_function_global I.ok.kind hg (Calls.loadGlobal_global (by rw[I.ok.glob];exact I.mod.glob.keeps I.bk) hm h) hd
theorem vK{E:VSP}{Q:VSP}(I:Inv X pins σ H s)(hg:Gl X x)(hm:X.mg x=none)(hv:bootBuiltins x=some u)(h:Q u s)
  (hn:x≠"__name__":=by decide) (hd:(x==("__debug__" : Str))=false:=by decide):↑X (eval (.Name x pos) X.env) Q E s:=by
 obtain⟨mb,h1,h2⟩:=I.mod.blt;exact Calls.Name_function_global I.ok.kind hg (Calls.loadGlobal_builtin (by rw[I.ok.glob];exact I.mod.glob.keeps I.bk) hm (by rw[I.ok.blt];exact h1.keeps I.bk) ((h2 x hn).trans hv) h) hd
theorem xD(hg:Gl X x)(hm:X.mg x=some u)(r:z3 v u)(hd:(x==("__debug__" : Str))=false:=by decide):PE X (.Name x pos) (tC v):=⟨fun _ _ _ H _ I h=>wE I hg hm ⟨v,H,I,r,h⟩ hd⟩
theorem jQ(hg:Gl X x)(hm:X.mg x=none)(hv:bootBuiltins x=some u)(r:z3 v u)(hn:x≠"__name__":=by decide)(hd:(x==("__debug__" : Str))=false:=by decide):PE X (.Name x pos) (tC v):=⟨fun _ _ _ H _ I h=>vK I hg hm hv ⟨v,H,I,r,h⟩ hn hd⟩
variable {a b:Expr}{ta tb:TE}
structure PC(X:Cx)(op:CmpOp)(a b:Expr)(t:TE):Prop where
 run:∀(pins:PnL) (s:Shared) (σ : St) (H:Hp) (Q:VK),Inv X pins σ H s->t σ H Q->
  ↑X (eval a X.env) (fun v s₁=>↑X (eval b X.env) (fun u s₂=>↑X (compareOp op v u) (EP X pins σ Q) X.xe s₂) X.xe s₁) X.xe s
instance {X:Cx}{op:CmpOp}{a b:Expr}{t:TE}:CoeFun (PC X op a b t) (fun _=>∀(pins:PnL) (s:Shared) (σ : St) (H:Hp) (Q:VK),Inv X pins σ H s->t σ H Q->
  ↑X (eval a X.env) (fun v s₁=>↑X (eval b X.env) (fun u s₂=>↑X (compareOp op v u) (EP X pins σ Q) X.xe s₂) X.xe s₁) X.xe s):=⟨PC.run⟩
theorem zhc(b:Expr)(h:op≠.In)(h2:op≠.NotIn):behindInMarks op b=false:=by
 have e1:(op==CmpOp.In)=false:=by cases op <;> first|rfl|exact absurd rfl h
 have e2:(op==CmpOp.NotIn)=false:=by cases op <;> first|rfl|exact absurd rfl h2
 cases b <;> simp [behindInMarks,e1,e2]
def zmJ(ta:TE):TE:=fun σ H Q=>ta σ H fun x H1=>Q (.bl (decide (x=.non))) H1
def zlv(ta:TE):TE:=fun σ H Q=>ta σ H fun x H1=>Q (.bl (!decide (x=.non))) H1
theorem z3.none_iff(r:z3 x v):(v==Value.none)=decide (x=.non):=by
 cases x with
 | non=>cases r;rfl
 | bl _=>cases r;rfl
 | int _=>obtain⟨t,rfl⟩:=r;rfl
 | str _=>obtain⟨t,rfl⟩:=r;rfl
 | byt _=>obtain⟨t,rfl⟩:=r;rfl
 | flt _=>obtain⟨t,rfl⟩:=r;rfl
 | ref _=>cases r;rfl
 | ty _=>cases r;rfl
theorem qp{j pos'}(ha:PE X a ta):PC X .Is a (.Constant .none j pos') (zmJ ta):=by
 and_intros;refine thn (ha pins s σ H _ I h) fun v s1 ⟨x,H1,I1,r1,q1⟩=>?_;exact Constant_none (is_none_gen ⟨.bl _,H1,I1,by rw[r1.none_iff];rfl,q1⟩)
theorem zeh{j pos'}(ha:PE X a ta):PC X .IsNot a (.Constant .none j pos') (zlv ta):=by
 and_intros;refine thn (ha pins s σ H _ I h) fun v s1 ⟨x,H1,I1,r1,q1⟩=>?_;exact Constant_none (isnot_none_gen ⟨.bl _,H1,I1,by rw[r1.none_iff];rfl,q1⟩)
def tB(t:TE):TT:=fun σ H Q=>t σ H fun x H1=>∃c,x=.bl c/\Q c H1
theorem xL{t:TE}(h:PC X op a b t)(h1:behindInMarks op b=false:=by first|exact zhc _ ⋯ ⋯|rfl):PT X (.Compare a [op] [b] pos) (tB t):=by
 exists ?_;intro pins s σ H Q I hw;refine wpAny_isTrue_Compare1 (thn (h pins s σ H _ I hw) fun v s1 h1=>thn h1 fun u s2 h2=>thn h2 fun c s3 ⟨x,H1,I1,r1,q1⟩=>?_) h1;obtain⟨d,rfl,q⟩:=q1;cases r1;exact wpAny_truthy_bool ⟨H1,I1,q⟩
theorem yA{t:TE}(h:PE X e t)(he:∀whole,isTrue e X.env whole=(do let v <- whole;standAt e.pos;holding [v] (truthy v)):=by intro _;rfl):PT X e (tB t):=by
 exists ?_;intro pins s σ H Q I hw;refine isTrue_plain (thn (h pins s σ H _ I hw) fun v s1 ⟨x,H1,I1,r1,q1⟩=>?_) (he _);obtain⟨d,rfl,q⟩:=q1;cases r1;exact wpAny_truthy_bool ⟨H1,I1,q⟩
variable {tA tB':TT}
def zmO(t u:TT):TT:=fun σ H Q=>t σ H fun c H1=>if c=true then u σ H1 Q else Q false H1
def tOr(t u:TT):TT:=fun σ H Q=>t σ H fun c H1=>if c=true then Q true H1 else u σ H1 Q
def zmG(t:TT):TT:=fun σ H Q=>t σ H fun c H1=>Q (!c) H1
theorem yq(ha:PT X a tA):PW X (.BoolOp .And [a] pos) tA:=by
 exists ?_;intro wh pins s σ H Q I h;refine isTrue_and (thn (ha pins s σ H Q I h) fun c s1 e=>?_);cases c with
 | true=>exact isTrue_and_nil e
 | false=>exact e
theorem wx(ha:PT X a tA):PW X (.BoolOp .Or [a] pos) tA:=by
 exists ?_;intro wh pins s σ H Q I h;refine isTrue_or (thn (ha pins s σ H Q I h) fun c s1 e=>?_);cases c with
 | false=>exact isTrue_or_nil e
 | true=>exact e
theorem yz{pos:Pos}{ya:List Expr}(ha:PT X a tA)(hb:PW X (.BoolOp .And (b::ya) pos) tB'):PW X (.BoolOp .And (a::b::ya) pos) (zmO tA tB'):=by
 exists ?_;intro wh pins s σ H Q I h;refine isTrue_and (thn (ha pins s σ H _ I h) fun c s1 ⟨H1,I1,q1⟩=>?_);cases c with
 | true=>exact hb wh pins s1 σ H1 Q I1 q1
 | false=>exact⟨H1,I1,q1⟩
theorem vy{pos:Pos}{ya:List Expr}(ha:PT X a tA)(hb:PW X (.BoolOp .Or (b::ya) pos) tB'):PW X (.BoolOp .Or (a::b::ya) pos) (tOr tA tB'):=by
 exists ?_;intro wh pins s σ H Q I h;refine isTrue_or (thn (ha pins s σ H _ I h) fun c s1 ⟨H1,I1,q1⟩=>?_);cases c with
 | true=>exact⟨H1,I1,q1⟩
 | false=>exact hb wh pins s1 σ H1 Q I1 q1
theorem wL(ha:PT X a tA):PT X (.UnaryOp .Not a pos) (zmG tA):=by
 and_intros;exact isTrue_not (ha pins s σ H (fun c H1=>Q (!c) H1) I h)
def zlA(ta tb:TE):TE:=fun σ H Q=>ta σ H fun x H1=>∃c,x=.bl c/\if c=true then tb σ H1 Q else Q (.bl false) H1
theorem zc8{op}{t:TE}(h:PE X a t):PE X (.BoolOp op [a] pos) t:=⟨fun pins s σ H Q I hw=>BoolOp_one (h pins s σ H Q I hw)⟩
theorem zbp{pos:Pos}{ya:List Expr}(ha:PE X a ta)(hb:PE X (.BoolOp .And (b::ya) pos) tb):PE X (.BoolOp .And (a::b::ya) pos) (zlA ta tb):=by
 and_intros;refine BoolOp_and (thn (ha pins s σ H _ I h) fun v s1 ⟨x,H1,I1,r1,q1⟩=>?_);obtain⟨c,rfl,q1⟩:=q1;cases r1;refine wpAny_truthy_bool ?_;cases c with
 | true=>exact hb pins s1 σ H1 Q I1 q1
 | false=>exact⟨.bl false,H1,I1,rfl,q1⟩
def tIf(t:TT)(ta tb:TE):TE:=fun σ H Q=>t σ H fun c H1=>if c=true then ta σ H1 Q else tb σ H1 Q
theorem uG(hc:PT X c tA)(ha:PE X a ta)(hb:PE X b tb):PE X (.IfExp c a b pos) (tIf tA ta tb):=by
 and_intros;refine wpAny_IfExp (thn (hc pins s σ H _ I h) fun d s1 ⟨H1,I1,q1⟩=>?_);cases d with
 | true=>exact ha pins s1 σ H1 Q I1 q1
 | false=>exact hb pins s1 σ H1 Q I1 q1
def SqL(K:Frag)(H:Hp)(a:Addr)(xs:List V):Prop:=
 Rd H a (.lst xs)\/
  ∃(o:Obj) (its:Array Value) (n:Nat),K.lookup a=some o/\o.cls=.type "list"/\o.dict=none/\o.data=.seq its n/\its.size<=sizeLine/\zX xs its.toList
def SqT(K:Frag)(H:Hp)(a:Addr)(xs:List V):Prop:=
 Rd H a (.tup xs)\/
  ∃(o:Obj) (its:Array Value) (n:Nat),K.lookup a=some o/\o.cls=.type "tuple"/\o.data=.seq its n/\its.size<=sizeLine/\zX xs its.toList
def znv:Value->Option V
 | .none=>some .non
 | .bool b=>some (.bl b)
 | .int i _=>some (.int i)
 | .str x _=>some (.str x)
 | .bytes b _=>some (.byt b)
 | .float b _=>some (.flt b)
 | .ref a=>some (.ref a)
 | .type n=>some (.ty n)
 | _=>none
theorem z3.abs(r:z3 x u):znv u=some x:=by
 cases x with
 | non=>cases r;rfl
 | bl _=>cases r;rfl
 | int _=>obtain⟨t,rfl⟩:=r;rfl
 | str _=>obtain⟨t,rfl⟩:=r;rfl
 | byt _=>obtain⟨t,rfl⟩:=r;rfl
 | flt _=>obtain⟨t,rfl⟩:=r;rfl
 | ref _=>cases r;rfl
 | ty _=>cases r;rfl
theorem z3.inj(r:z3 x u)(q:z3 y u):x=y:=Option.some.inj (r.abs.symm.trans q.abs)
theorem zX.inj:∀{xs ys:List V}{us:List Value},zX xs us->zX ys us->xs=ys
 | _,_,_,.nil,.nil=>rfl
 | _,_,_,.cons r t,.cons r' t'=>by rw[r.inj r',zX.inj t t']
end
section
variable {X:Cx}{pins:PnL}{σ:St}{H:Hp}{s:Shared}{a:Addr}{xs ys:List V}
theorem zc{K:Frag}(h:H a=some (.lst xs)):SqL K H a xs:=.inl (.inl h)
theorem zz{K:Frag}(h:H a=some (.tup xs)):SqT K H a xs:=.inl (.inl h)
theorem Inv.list(I:Inv X pins σ H s)(h:SqL X.K H a xs):∃its:List Value,zX xs its/\PlainL s.heap a its.toArray/\xs.length<=sizeLine:=by
 rcases h with h|⟨o,its,n,hk,hc,hd,hs,hz,r⟩
 ·obtain⟨z,its,n,r,e⟩:=h.ok I.hok
  exact⟨its,r,⟨_,n,e,rfl,rfl,rfl⟩,z⟩
 ·exists its.toList,r,⟨o,n,I.kIn a o hk,hc,hd,by simpa using hs⟩,?_
  have e:=r.length;simp only[Array.length_toList] at e;omega
theorem Inv.tuple(I:Inv X pins σ H s)(h:SqT X.K H a xs):∃its:List Value,zX xs its/\IsTup s.heap a its.toArray/\xs.length<=sizeLine:=by
 rcases h with h|⟨o,its,n,hk,hc,hs,hz,r⟩
 ·obtain⟨z,its,r,p⟩:=h.ok I.hok
  exact⟨its,r,p,z⟩
 ·exists its.toList,r,⟨o,I.kIn a o hk,hc,n,by simpa using hs⟩,?_
  have e:=r.length;simp only[Array.length_toList] at e;omega
theorem Inv.list_inj(I:Inv X pins σ H s)(h:SqL X.K H a xs)(h':SqL X.K H a ys):xs=ys:=by
 obtain⟨its,r,⟨o,n,e,_,_,d⟩,_⟩:=I.list h;obtain⟨its',r',⟨o',n',e',_,_,d'⟩,_⟩:=I.list h';rw[e] at e';cases e';rw[d] at d';injection d' with d1 _
 have:its=its':=by simpa using congrArg Array.toList d1
 subst this;exact r.inj r'
abbrev Cx.wish(X:Cx)(E:VSP):Cx:={ X with xe:=E }
abbrev Cx.nox(X:Cx):Cx:=X.wish fun _ _=>False
theorem Cx.Ok.wish(ok:X.Ok)(E:VSP):(X.wish E).Ok:=
 ⟨ok.mod,ok.kind,ok.glob,ok.blt,ok.above,ok.inj,ok.has,ok.cab,ok.hd,ok.frames,ok.stk,ok.exf,ok.bs,ok.bsz,ok.noex,ok.exfs,ok.funs,ok.frf⟩
theorem Cx.Ok.unwish{E:VSP}(ok:(X.wish E).Ok):X.Ok:=
 ⟨ok.mod,ok.kind,ok.glob,ok.blt,ok.above,ok.inj,ok.has,ok.cab,ok.hd,ok.frames,ok.stk,ok.exf,ok.bs,ok.bsz,ok.noex,ok.exfs,ok.funs,ok.frf⟩
variable {E:VSP}
theorem Inv.wish(I:Inv X pins σ H s)(E:VSP):Inv (X.wish E) pins σ H s:=⟨I.ok.wish E,I.os,I.bare,I.base,I.loc,I.cell,I.free,I.freeC,I.pin,I.hok,I.len⟩
theorem Inv.unwish(I:Inv (X.wish E) pins σ H s):Inv X pins σ H s:=⟨I.ok.unwish,I.os,I.bare,I.base,I.loc,I.cell,I.free,I.freeC,I.pin,I.hok,I.len⟩
theorem SP.unwish(h:SP (X.wish E) pins D f s'):SP X pins D f s':=by
 cases f with
 | next=>obtain⟨σ',H',I,q⟩:=h;exact⟨σ',H',I.unwish,q⟩
 | brk=>obtain⟨σ',H',I,q⟩:=h;exact⟨σ',H',I.unwish,q⟩
 | cont=>obtain⟨σ',H',I,q⟩:=h;exact⟨σ',H',I.unwish,q⟩
 | ret u=>obtain⟨v,σ',H',I,r,q⟩:=h;exact⟨v,σ',H',I.unwish,r,q⟩
theorem PSs.nox{st:List Stmt}{t:TS}(h:PSs X.nox st t):PSs X st t:=⟨fun pins s σ H D I hw=>
 wpAny_mono (h pins s σ H D (I.wish _) hw) (fun _ _ q=>q.unwish) fun _ _ z=>False.elim z⟩
variable {t u:TS}{te:TE}
def zjv:TS:=fun D σ H=>D.nx σ H
def uW(t u:TS):TS:=fun D σ H=>t { D with nx:=u D } σ H
theorem zx:PSs X [] zjv:=⟨fun _ _ σ H _ I h=>wpAny_execs_nil ⟨σ,H,I,h⟩⟩
theorem zk{st:Stmt}{ya:List Stmt}(h1:PS X st t)(h2:PSs X ya u):PSs X (st::ya) (uW t u):=by
 exists ?_;intro pins s σ H D I h;refine wpAny_execs_cons (thn (h1 pins s σ H { D with nx:=u D } I h) fun f s1 q=>?_)
 cases f with
 | next=>
  obtain⟨σ',H',I',q⟩:=q;exact h2 pins s1 σ' H' D I' q
 | ret v=>exact q
 | brk=>exact q
 | cont=>exact q
theorem zd{st:Stmt}(h1:PS X st t):PSs X [st] t:=by
 exists ?_;intro pins s σ H D I h;refine wpAny_execs_cons (thn (h1 pins s σ H D I h) fun f s1 q=>?_);cases f with
 | next=>exact wpAny_execs_nil q
 | ret v=>exact q
 | brk=>exact q
 | cont=>exact q
theorem Inv.quiet(I:Inv X pins σ H s):interactive X.env=false:=by simp [interactive,I.ok.kind]
def zlx(te:TE):TS:=fun D σ H=>te σ H fun _ H1=>D.nx σ H1
theorem zG(he:PE X e te)(hs:swapsWith e none pos.line X.env=pure false:=by rfl):PS X (.Expr e pos) (zlx te):=by
 exists ?_;intro pins s σ H D I h;exact wpAny_Expr_any (thn (he pins s σ H _ I h) fun v s1 ⟨x,H1,I1,r1,q1⟩=>⟨σ,H1,I1,q1⟩) I.quiet hs
def zmF(te:TE):TS:=fun D σ H=>te σ H D.rt
theorem zt(he:PE X e te):PS X (.Return (some e) pos) (zmF te):=by
 exists ?_;intro pins s σ H D I h;exact wpAny_Return_some (thn (he pins s σ H _ I h) fun v s1 ⟨x,H1,I1,r1,q1⟩=>⟨x,σ,H1,I1,r1,q1⟩)
def zfJ(c:TT)(t u:TS):TS:=fun D σ H=>c σ H fun b H1=>if b=true then t D σ H1 else u D σ H1
theorem zJ{pos:Pos}{c:Expr}{a b:List Stmt}{tc:TT}(hc:PT X c tc)(ha:PSs X a t)(hb:PSs X b u):PS X (.If c a b pos) (zfJ tc t u):=by
 exists ?_;intro pins s σ H D I h;refine wpAny_If (thn (hc pins s σ H _ I h) fun d s1 ⟨H1,I1,q1⟩=>?_);cases d with
 | true=>exact ha pins s1 σ H1 D I1 q1
 | false=>exact hb pins s1 σ H1 D I1 q1
abbrev TG:=V->St->Hp->(St->Hp->Prop)->Prop
abbrev TGs:=List V->St->Hp->(St->Hp->Prop)->Prop
structure PG(X:Cx)(target:Expr)(t:TG):Prop where
 run:∀(pins:PnL) (s:Shared) (σ : St) (H:Hp) (v:V) (u:Value) (Q:St->Hp->Prop),Inv X pins σ H s->z3 v u->t v σ H Q->
  ↑X (assign target X.env u) (fun _ s'=>∃σ' H',Inv X pins σ' H' s'/\Q σ' H') X.xe s
instance {X:Cx}{target:Expr}{t:TG}:CoeFun (PG X target t) (fun _=>∀(pins:PnL) (s:Shared) (σ : St) (H:Hp) (v:V) (u:Value) (Q:St->Hp->Prop),Inv X pins σ H s->z3 v u->t v σ H Q->
  ↑X (assign target X.env u) (fun _ s'=>∃σ' H',Inv X pins σ' H' s'/\Q σ' H') X.xe s):=⟨PG.run⟩
structure PGs(X:Cx)(ts:List Expr)(t:TGs):Prop where
 run:∀(pins:PnL) (s:Shared) (σ : St) (H:Hp) (vs:List V) (us:List Value) (Q:St->Hp->Prop),Inv X pins σ H s->zX vs us->t vs σ H Q->
  ↑X (assignInOrder ((assignEach ts X.env).map (·.2)) us) (fun _ s'=>∃σ' H',Inv X pins σ' H' s'/\Q σ' H') X.xe s
instance {X:Cx}{ts:List Expr}{t:TGs}:CoeFun (PGs X ts t) (fun _=>∀(pins:PnL) (s:Shared) (σ : St) (H:Hp) (vs:List V) (us:List Value) (Q:St->Hp->Prop),Inv X pins σ H s->zX vs us->t vs σ H Q->
  ↑X (assignInOrder ((assignEach ts X.env).map (·.2)) us) (fun _ s'=>∃σ' H',Inv X pins σ' H' s'/\Q σ' H') X.xe s):=⟨PGs.run⟩
def zD(i:Nat):TG:=fun v σ H Q=>Q (σ.set i (some v)) H
theorem zl{i:Nat}(hN:X.N.Nodup)(hi:X.N[i]?=some x)(hx:Loc X.env.scope x)(hf:X.fn x=true\/X.env.scope.names.lookup x=some .local:=by first|exact .inl rfl|exact .inr rfl|assumption):PG X (.Name x pos) (zD i):=by
 exists ?_;intro pins s σ H v u Q I r h;exact wpAny_assign_Name (j4 I hN hi hx r (fun s' I'=>⟨_,H,I',h⟩) hf)
def zmo:TGs:=fun vs σ H Q=>vs=[]/\Q σ H
def zhx(t:TG)(u:TGs):TGs:=fun vs σ H Q=>∃v r,vs=v::r/\t v σ H fun σ' H'=>u r σ' H' Q
theorem zT:PGs X [] zmo:=by
 exists ?_;intro pins s σ H vs us Q I r h;obtain⟨e,h⟩:=h;subst e;cases r;exact assignInOrder_nil ⟨σ,H,I,h⟩
theorem zo{t:TG}{u:TGs}(h1:PG X e t)(h2:PGs X es u)
  (hs:(assignEach (e::es) X.env).map (·.2)=assign e X.env::(assignEach es X.env).map (·.2):=by rfl):PGs X (e::es) (zhx t u):=by
 exists ?_;intro pins s σ H vs us Q I r h;obtain⟨v,vr,e1,h⟩:=h;subst e1;cases r with
 | cons r rr=>
  rw[hs];refine assignInOrder_cons (thn (h1 pins s σ H _ _ _ I r h) fun _ s1 ⟨σ1,H1,I1,q1⟩=>?_);exact h2 pins s1 σ1 H1 _ _ Q I1 rr q1
inductive zmnJ(K:Frag)(n:Nat)(t:TGs)(v:V)(σ:St)(H:Hp)(Q:St->Hp->Prop):Prop|mk(a xs:_):v=.ref a->SqT K H a xs->xs.length=n->(t xs σ H Q)->zmnJ K n t v σ H Q
def zmn(K:Frag)(n:Nat)(t:TGs):TG:=fun v σ H Q=>zmnJ K n t v σ H Q
theorem yi{k:Nat}{t:TGs}{n:Nat}(hc:X.calm=true)(h:PGs X es t)
  (hn:(assignEach es X.env).length=n:=by rfl) (hst:(assignEach es X.env).findIdx? (·.1)=none:=by rfl):PG X (.Tuple es k pos) (zmn X.K n t):=by
 exists ?_;intro pins s σ H v u Q I r hw;obtain⟨a,xs,e1,hq,hl,hw⟩:=hw;subst e1;cases r;obtain⟨its,rv,ht,hz⟩:=I.tuple hq;refine assign_Tuple_tuple (I.ok.hd hc) ht (by simp [hn,<- hl,rv.length]) hst fun h' hx=>?_
 have I1:Inv X pins σ H { s with heap:=h' }:=I.kept (t':=s.toks) fun b o e=>hx b o (ne_of_lt (aI e)) e
 exact h pins _ σ H xs _ Q I1 (by simpa using rv) hw
def zhV(te:TE)(g:TG):TS:=fun D σ H=>te σ H fun x H1=>g x σ H1 D.nx
theorem y8{te:TE}{g:TG}(he:PE X e te)(hg:PG X tg g)(hs:swapsWithSole [tg] e pos.line X.env=pure false:=by rfl)(hw:swappedStores [tg] e X.env=pure none:=by rfl)
  (h1:(assignEach [tg] X.env).map (·.2)=[assign tg X.env]:=by rfl):PS X (.Assign [tg] e pos) (zhV te g):=by
 exists ?_;intro pins s σ H D I h;refine wpAny_Assign_stores (thn (he pins s σ H _ I h) fun v s1 ⟨x,H1,I1,r1,q1⟩=>?_) hs hw;rw[h1];exact thn (hg pins s1 σ H1 x v _ I1 r1 q1) fun _ s2 q=>q
theorem zB{i:Nat}{te:TE}(hN:X.N.Nodup)(hi:X.N[i]?=some x)(hx:Loc X.env.scope x)(he:PE X e te)(hs:swapsWith e (some (.Name x pos')) pos.line X.env=pure false:=by rfl)(hf:X.fn x=true\/X.env.scope.names.lookup x=some .local:=by first|exact .inl rfl|exact .inr rfl|assumption):
  PS X (.Assign [.Name x pos'] e pos) (zhV te (zD i)):=by
 exists ?_;intro pins s σ H D I h;refine wpAny_Assign_Name (thn (he pins s σ H _ I h) fun v s1 ⟨y,H1,I1,r1,q1⟩=>?_) hs;exact j4 I1 hN hi hx r1 (fun s2 I2=>⟨_,H1,I2,q1⟩) hf
structure It where
 go:Nat->Hp->Prop
 yld:Nat->Hp->V->Hp->Prop
 stop:Nat->Hp->Prop
def vw(X:Cx)(pins:PnL)(H:Hp)(b:Addr):Prop:=
 H b=none/\b≠X.env.locals/\b∉X.fs/\(b∈X.ex\/X.s₀.heap.objs.size<=b)/\(∀x c,X.env.cells.lookup x=some c->c≠b)/\∀p∈X.pn++pins,p.1≠b
theorem Inv.fpOk(I:Inv X pins σ H s)(hb:s.heap.objs.size<=b)(hn:H' b=none):vw X pins H' b:=by
 exists hn,ne_of_gt (lt_of_lt_of_le I.lt hb),I.nofs hb,.inr (le_trans I.sz hb),fun x c e z=>?_,fun p hp z=>?_
 ·obtain⟨v,q⟩:=I.cell x c e
  exact absurd (lt_of_lt_of_le q.lt (by rw[z];exact hb)) (lt_irrefl _)
 ·exact absurd (lt_of_lt_of_le (aI (I.pin p hp).1) (by rw[z];exact hb)) (lt_irrefl _)
structure zae(P:Program)(w:World)(K:Frag)(tg:Expr)(J:It)(fp:List Addr)(it:Addr)(tn:Nat->Heap->Prop):Prop where
 mem:it∈fp
 obj:∀i h,tn i h->∀b∈fp,∃o,h.get? b=some o/\∀v,o.data≠.cell v
 keep:∀i h h',tn i h->(∀b∈fp,∀o,h.get? b=some o->h'.get? b=some o)->tn i h'
 item:∀(X:Cx),X.prog=P->X.w=w->X.K=K->X.calm=true->∀(i:Nat) (pins:PnL) (s:Shared) (σ : St) (H:Hp) (E:VSP),Inv X pins σ H s->(∀b∈fp,vw X pins H b)->tn i s.heap->J.go i H->
  wpAny (model P w) X.A (pyNext (.ref it)) (fun r s1=>∃u,r=some u/\
   wpAny (model P w) X.A (letOwnedTupleGo tg (.ref it) u) (fun _ s2=>∃x H',Inv X pins σ H' s2/\z3 x u/\J.yld i H x H'/\tn (i+1) s2.heap/\∀b∈fp,H' b=none) E s1) E s
 done:∀(X:Cx),X.prog=P->X.w=w->X.K=K->X.calm=true->∀(i:Nat) (pins:PnL) (s:Shared) (σ : St) (H:Hp) (E:VSP),Inv X pins σ H s->(∀b∈fp,vw X pins H b)->tn i s.heap->J.stop i H->
  wpAny (model P w) X.A (pyNext (.ref it)) (fun r s1=>r=none/\Inv X pins σ H s1) E s
 self:∀(A:Around) (i:Nat) (s:Shared) (Q:VSP) (E:VSP),tn i s.heap->Q (.ref it) s->wpAny (model P w) A (pyIter (.ref it)) Q E s
abbrev TI:=St->Hp->(It->Hp->Prop)->Prop
def PIE(X:Cx)(pins:PnL)(σ : St)(tg:Expr)(R:It->Hp->Prop)(itv:Value)(s2:Shared):Prop:=
 ∃(it:Addr) (fp:List Addr) (tn:Nat->Heap->Prop) (J:It) (H':Hp),itv=.ref it/\Inv X pins σ H' s2/\zae X.prog X.w X.K tg J fp it tn/\tn 0 s2.heap/\(∀b∈fp,vw X pins H' b)/\R J H'
structure PI(X:Cx)(tg iter:Expr)(wi:TI):Prop where
 run:∀(pins:PnL) (s:Shared) (σ : St) (H:Hp) (R:It->Hp->Prop),Inv X pins σ H s->wi σ H R->
  ↑X (eval iter X.env) (fun v s1=>↑X (pyIter v) (PIE X pins σ tg R) X.xe s1) X.xe s
instance {X:Cx}{tg iter:Expr}{wi:TI}:CoeFun (PI X tg iter wi) (fun _=>∀(pins:PnL) (s:Shared) (σ : St) (H:Hp) (R:It->Hp->Prop),Inv X pins σ H s->wi σ H R->
  ↑X (eval iter X.env) (fun v s1=>↑X (pyIter v) (PIE X pins σ tg R) X.xe s1) X.xe s):=⟨PI.run⟩
theorem zhv{M:Model}{A:Around}{E:VSP}{s:Shared}{tg:Expr}{it:Addr}{u:Value}{o:Obj}{n:String}{vs:Array Value}{Q:Unit->Shared->Prop}(ho:s.heap.get? it=some o)(hc:o.cls=.type n)(hd:o.data=.fields vs)
  (hn:["enumerate","zip","dict_itemiterator","dict_reverseitemiterator","odict_iterator","itertools.zip_longest","itertools.pairwise"].contains n=false) (hQ:Q () s):wpAny M A (letOwnedTupleGo tg (.ref it) u) Q E s:=by
 unfold letOwnedTupleGo;cases tg <;> first
  | exact zwp hQ
  | (cases u <;> first
    | exact zwp hQ
    | (refine zwb (wpAny_load ho ?_)
       rw[hc,hd];show wpAny M A (if (["enumerate","zip","dict_itemiterator","dict_reverseitemiterator","odict_iterator","itertools.zip_longest","itertools.pairwise"].contains n&&vs[0]?==some (rawInt _))=true then _ else _) Q E s
       rw[aJ (by intro h;rw[hn,Bool.false_and] at h;cases h)]
       exact zwp hQ))
def Itl(K:Frag)(a:Addr):It:=
 ⟨fun i H=>∃xs x,SqL K H a xs/\xs[i]?=some x,fun i H x H'=>H'=H/\∀xs,SqL K H a xs->xs[i]?=some x,fun i H=>∃xs,SqL K H a xs/\xs.length<=i⟩
def Itr(lo:Int)(n:Nat):It:=⟨fun i _=>i<n,fun i H x H'=>H'=H/\x=.int (lo+i),fun i _=>n<=i⟩
theorem zeM{P:Program}{w:World}{K:Frag}{tg:Expr}(a it:Addr):zae P w K tg (Itl K a) [it] it (fun i h=>h.IsListIter it a i) where
 mem:=by simp
 obj:=fun i h st b hb=>by
  have e:b=it:=by simpa using hb
  subst e;obtain⟨o,e,c,d⟩:=st;exact⟨o,e,fun v z=>by rw[d] at z;cases z⟩
 keep:=fun i h h' st k=>st.at fun o e=>k it (by simp) o e
 item:=by
  intro X hP hw hK hc i pins s σ H E I hf st hg;subst hP hw hK;obtain⟨xs,x,hq,hx⟩:=hg;obtain⟨its,rv,p,hz⟩:=I.list hq;obtain⟨u,hu,ru⟩:=rv.get hx;obtain⟨f0,f1,f2,f3,f4,f5⟩:=hf it (by simp)
  refine wpAny_pyNext_list_item st p.isList (x:=u) (by simpa using hu) fun h' st' sb=>?_
  have I1:Inv X pins σ H { s with heap:=h' }:=I.turned (t':=s.toks) (fun b o hb e=>(sb.2 b hb).trans e) f0 f1 f3 f4 f5
  obtain⟨o,e,c,d⟩:=id st';exact⟨u,rfl,zhv (s:={ s with heap:=h' }) e c d ⋯ ⟨x,H,I1,ru,⟨rfl,fun ys hy=>by rw[I.list_inj hy hq];exact hx⟩,st',fun b hb=>(hf b hb).1⟩⟩
 done:=by
  intro X hP hw hK hc i pins s σ H E I hf st hg;subst hP hw hK;obtain⟨xs,hq,hx⟩:=hg;obtain⟨its,rv,p,hz⟩:=I.list hq;obtain⟨f0,f1,f2,f3,f4,f5⟩:=hf it (by simp)
  have hl:=rv.length;exact wpAny_pyNext_list_end (I.ok.hd hc) st p.isList (by simp;omega) fun h' eb=>⟨rfl,I.turned (t':=s.toks) (fun b o hb e=>eb b o hb e) f0 f1 f3 f4 f5⟩
 self:=fun _ _ _ _ _ st h=>wpAny_pyIter_listiter st h
theorem zcu{P:Program}{w:World}{K:Frag}{tg:Expr}(it:Addr)(lo:Int)(n:Nat):zae P w K tg (Itr lo n) [it] it (fun i h=>IsRangeIter h it (lo+(i:Nat) * 1) ((n:Int) - (i:Nat)) 1) where
 mem:=by simp
 obj:=fun i h st b hb=>by
  have e:b=it:=by simpa using hb
  subst e;exact⟨_,st,fun v z=>by
   have z':Data.fields _=Data.cell v:=z;cases z'⟩
 keep:=fun i h h' st k=>k it (by simp) _ st
 item:=by
  intro X hP hw hK hc i pins s σ H E I hf st hg;subst hP hw hK;obtain⟨f0,f1,f2,f3,f4,f5⟩:=hf it (by simp)
  have W:=Walks.range (prog:=X.prog) (w:=X.w) (I.ok.hd hc) it lo 1 n;refine W.item i s _ _ hg st fun v h' tk hv st' kk=>?_;obtain⟨t,rfl⟩:=hv;have I1:Inv X pins σ H { s with heap:=h',toks:=tk }:=I.turned (fun b o hb e=>kk b o (by simpa using hb) e) f0 f1 f3 f4 f5
  exists _,rfl,zhv (s:={ s with heap:=h',toks:=tk }) (n:="range_iterator") st' rfl rfl ⋯ ⟨.int (lo+i),H,I1,⟨t,?_⟩,⟨rfl,rfl⟩,st',fun b hb=>(hf b hb).1⟩
  rw[Int.mul_one]
 done:=by
  intro X hP hw hK hc i pins s σ H E I hf st hg;subst hP hw hK;obtain⟨f0,f1,f2,f3,f4,f5⟩:=hf it (by simp)
  exact wpAny_pyNext_range_end (I.ok.hd hc) st (by have:n<=i:=hg;omega) fun h' eb=>⟨rfl,I.turned (t':=s.toks) (fun b o hb e=>eb b o hb e) f0 f1 f3 f4 f5⟩
 self:=fun _ _ _ _ _ st h=>wpAny_pyIter_rangeiter st h
inductive zmlJ(K:Frag)(R:It->Hp->Prop)(x:V)(H1:Hp):Prop|mk(a:_):x=.ref a->(∃xs,SqL K H1 a xs)->(R (Itl K a) H1)->zmlJ K R x H1
def zml(K:Frag)(tl:TE):TI:=fun σ H R=>tl σ H fun x H1=>zmlJ K R x H1
theorem yb{tl:TE}(hl:PE X l tl):PI X tg l (zml X.K tl):=by
 exists ?_;intro pins s σ H R I h;refine thn (hl pins s σ H _ I h) fun v s1 ⟨x,H1,I1,r1,q1⟩=>?_;obtain⟨a,e,⟨xs,hq⟩,q⟩:=q1;subst e;cases r1;obtain⟨its,rv,p,hz⟩:=I1.list hq;refine wpAny_pyIter_list p.isList ?_;exists s1.heap.objs.size,[s1.heap.objs.size],_,_,H1,rfl,I1.kept (t':=s1.toks) fun b o e=>zgp _ e,zeM a _,⟨_,zgs _ rfl,rfl,rfl⟩,fun b hb=>?_,q;have e:b=s1.heap.objs.size:=by simpa using hb
 subst e;exact I1.fpOk (aF _) (I1.hok.fresh (aF _))
theorem zbS{tg:Expr}{pins:PnL}{σ : St}{H:Hp}{s:Shared}{R:It->Hp->Prop}{E:VSP}{lo hi:Int}{t u v:Tok}{tk:Nat}(I:Inv X pins σ H s)(h1 : -(2 ^ 62)<=lo)(h2:lo<2 ^ 62)(h3 : -(2 ^ 62)<=hi)(h4:hi<2 ^ 62)
  (q:R (Itr lo (hi - lo).toNat) H):↑X (pyIter (.ref s.heap.objs.size)) (PIE X pins σ tg R) E { s with heap:=s.heap.push { cls:=.type "range",data:=.fields #[.int lo t,.int hi u,.int 1 v] },toks:=tk }:=by
 refine wpAny_pyIter_range (IsRange.new ..) (small_one h1 h2 h3 h4) ?_;have I1:Inv X pins σ H { s with heap:=s.heap.push { cls:=.type "range",data:=.fields #[.int lo t,.int hi u,.int 1 v] },toks:=tk }:=I.kept fun b o e=>zgp _ e
 refine⟨(s.heap.push { cls:=.type "range",data:=.fields #[.int lo t,.int hi u,.int 1 v] }).objs.size,[(s.heap.push { cls:=.type "range",data:=.fields #[.int lo t,.int hi u,.int 1 v] }).objs.size],_,_,H,rfl,
  I1.kept (t':=tk) fun b o e=>zgp _ e,zcu _ lo (hi - lo).toNat,?_,fun b hb=>?_,q⟩
 ·have e1:lo+((0:Nat):Int) * 1=lo:=by simp
  have e2:(((hi - lo).toNat:Nat):Int) - ((0:Nat):Int)=Builtin.Range.rangeSize lo hi 1:=by rw[rangeSize_one];split <;> omega
  show IsRangeIter _ _ (lo+((0:Nat):Int) * 1) ((((hi - lo).toNat:Nat):Int) - ((0:Nat):Int)) 1;rw[e1,e2];exact zgs _ rfl
 ·have e:b=(s.heap.push { cls:=.type "range",data:=.fields #[.int lo t,.int hi u,.int 1 v] }).objs.size:=by simpa using hb
  subst e;exact I1.fpOk (aF _) (I1.hok.fresh (aF _))
inductive zmkJ(R:It->Hp->Prop)(vs:List V)(H1:Hp):Prop|mk(j:Int):vs=[.int j]->-(2 ^ 62)<=j->j<2 ^ 62->(R (Itr 0 j.toNat) H1)->zmkJ R vs H1
def zmk(ta:TA):TI:=fun σ H R=>ta σ H fun vs H1=>zmkJ R vs H1
inductive zmjJ(R:It->Hp->Prop)(vs:List V)(H1:Hp):Prop|mk(i j:Int):vs=[.int i,.int j]->(-(2 ^ 62)<=i/\i<2 ^ 62/\-(2 ^ 62)<=j/\j<2 ^ 62)->(R (Itr i (j - i).toNat) H1)->zmjJ R vs H1
def zmj(ta:TA):TI:=fun σ H R=>ta σ H fun vs H1=>zmjJ R vs H1
theorem yO{tg:Expr}{a:Expr}{ta:TA}{p pos:Pos}(hg:Gl X "range")(hm:X.mg "range"=none)(ha:PA X [a] ta)(hs:starEach [a] X.env=[(false,eval a X.env)]:=by rfl):PI X tg (.Call (.Name "range" p) [a] [] pos) (zmk ta):=by
 exists ?_;intro pins s σ H R I h;refine Call_ (vK I hg hm boot_range (PyProof.Rows.callWith_type1 (thn (ha pos pins s σ H _ I h) fun us s1 ⟨vs,H1,I1,r1,q1⟩=>?_) hs rfl));obtain⟨j,e,q1,q2,q⟩:=q1;subst e;cases r1 with
 | cons r rr=>
  cases rr;obtain⟨t,rfl⟩:=r;exact call_range_1 (zbS I1 ∅ ∅ q1 q2 (by simpa using q))
theorem zeX{tg:Expr}{a b:Expr}{ta:TA}{p pos:Pos}(hg:Gl X "range")(hm:X.mg "range"=none)(ha:PA X [a,b] ta)(hs:starEach [a,b] X.env=[(false,eval a X.env),(false,eval b X.env)]:=by rfl)(hs2:starEach [b] X.env=[(false,eval b X.env)]:=by rfl):
  PI X tg (.Call (.Name "range" p) [a,b] [] pos) (zmj ta):=by
 exists ?_;intro pins s σ H R I h;refine Call_ (vK I hg hm boot_range (PyProof.Rows.callWith_type1 (thn (ha pos pins s σ H _ I h) fun us s1 ⟨vs,H1,I1,r1,q1⟩=>?_) (by rw[hs,hs2]) (by rw[hs2];rfl)))
 obtain⟨i,j,e,⟨q1,q2,q3,q4⟩,q⟩:=q1;subst e;cases r1 with
 | cons r rr=>
  cases rr with
  | cons r' rr=>
   cases rr;obtain⟨t,rfl⟩:=r;obtain⟨t',rfl⟩:=r';exact call_range_2 (zbS I1 q1 q2 q3 q4 q)
def zmL(wi:TI)(g:TG)(tb:TS):TS:=fun D σ H=>wi σ H fun J H1=>∃W:Nat->Nat->St->Hp->Prop,(∃m,W 0 m σ H1)/\∀i m σ H,W i m σ H->
 (J.stop i H/\D.nx σ H)\/(J.go i H/\∃N:St->Hp->Prop,(∀σ' H',N σ' H'->∃m',m'<m/\W (i+1) m' σ' H')/\∀x H',J.yld i H x H'->g x σ H' fun σ2 H2=>tb { D with nx:=N,ct:=N,bk:=D.nx } σ2 H2)
def jc(fp:List Addr)(h:Heap):List (Addr×Obj):=fp.filterMap fun b=>(h.get? b).map fun o=>(b,o)
theorem xW(hb:b∈fp)(e:h.get? b=some o):(b,o)∈jc fp h:=List.mem_filterMap.mpr ⟨b,hb,by rw[e];rfl⟩
theorem ze9(hp:p∈jc fp h):p.1∈fp/\h.get? p.1=some p.2:=by
 obtain⟨b,hb,e⟩:=List.mem_filterMap.mp hp;cases q:h.get? b with
 | none=>rw[q] at e;cases e
 | some o=>
  rw[q] at e;have e':(b,o)=p:=Option.some.inj e;subst e';exact⟨hb,q⟩
theorem Inv.pinned(I:Inv X pins σ H s)(hf:∀b∈fp,vw X pins H b)(ho:∀b∈fp,∃o,s.heap.get? b=some o/\∀v,o.data≠.cell v):Inv X (pins++jc fp s.heap) σ H s:=
 I.pins_of fun p hp=>(List.mem_append.mp hp).elim (fun z=>I.pin p (mem_append_right _ z)) fun z=>by
  obtain⟨hb,e⟩:=ze9 z;obtain⟨f0,f1,f2,_⟩:=hf p.1 hb;obtain⟨o,e',d⟩:=ho p.1 hb;rw[e] at e';cases e';exact⟨e,f0,f1,f2,d⟩
theorem Inv.unpinned(I:Inv X (pins++pl) σ H s):Inv X pins σ H s:=I.pins_of fun p hp=>I.pin p (mem_append_right _ (mem_append_left _ hp))
theorem yr{wi:TI}{g:TG}{tb:TS}(hp:PassesOwn (model X.prog X.w) X.A X.env X.xe)(hc:X.calm=true)(hi:PI X tg iter wi)(hg:PG X tg g)(hb:PSs X body tb)
  (hs:∀x,foldedSetIterable iter X.env x=pure x:=by intro _;rfl):PS X (.For tg iter body [] pos) (zmL wi g tb):=by
 exists ?_;intro pins s σ H D I h;refine wpAny_For (thn (hi pins s σ H _ I h) fun v s1 h1=>thn h1 fun itv s2 h2=>?_) hs;obtain⟨it,fp,tn,J,H2,e,I2,T,st2,f2,W,⟨m0,w0⟩,turn⟩:=h2;subst e;have stat:∀{H':Hp},(∀b∈fp,H' b=none)->∀b∈fp,vw X pins H' b:=fun hn b hb=>⟨hn b hb,(f2 b hb).2⟩;refine codeAny_forLoop_any (fun n s'=>∃i σ' H',Inv X pins σ' H' s'/\tn i s'.heap/\(∀b∈fp,H' b=none)/\W i n σ' H') ?_ m0 ⟨0,σ,H2,I2,st2,fun b hb=>(f2 b hb).1,w0⟩;rintro n s3 ⟨i,σ3,H3,I3,st3,fr3,w3⟩;rcases turn i n σ3 H3 w3 with ⟨stop,qn⟩|⟨go,N,hN,step⟩
 ·refine wpAny_passesOwn hp (thn (T.done X rfl rfl rfl hc i pins s3 σ3 H3 X.xe I3 (stat fr3) st3 stop) fun r s4 ⟨hr,I4⟩=>?_)
  subst hr;exact wpAny_execs_nil ⟨σ3,H3,I4,qn⟩
 ·refine wpAny_passesOwn hp (thn (T.item X rfl rfl rfl hc i pins s3 σ3 H3 X.xe I3 (stat fr3) st3 go) fun r s4 ⟨u,hr,h4⟩=>?_)
  subst hr;refine wpAny_passesOwn hp (thn h4 fun _ s5 ⟨x,H5,I5,r5,y5,st5,fr5⟩=>?_);have I5':=I5.pinned (stat fr5) (T.obj _ _ st5);refine wpAny_passesOwn hp (thn (hg _ s5 σ3 H5 x u _ I5' r5 (step x H5 y5)) fun _ s6 ⟨σ6,H6,I6,q6⟩=>?_);refine wpAny_passesOwn hp (thn (hb _ s6 σ6 H6 _ I6 q6) fun f s7 q7=>?_);have again:∀{σ7:St}{H7:Hp},Inv X (pins++jc fp s5.heap) σ7 H7 s7->N σ7 H7->∃m,m<n/\∃i σ' H',Inv X pins σ' H' s7/\tn i s7.heap/\(∀b∈fp,H' b=none)/\W i m σ' H':=fun {σ7 H7} I7 n7=>by
   obtain⟨m',hm,w7⟩:=hN σ7 H7 n7;exists m',hm,i+1,σ7,H7,I7.unpinned,T.keep _ _ _ st5 fun b hb o e=>(I7.pin (b,o) (mem_append_right _ (mem_append_right _ (xW hb e)))).1,fun b hb=>?_,w7;obtain⟨o,e,d⟩:=T.obj _ _ st5 b hb;exact(I7.pin (b,o) (mem_append_right _ (mem_append_right _ (xW hb e)))).2.1
  cases f with
  | next=>obtain⟨σ7,H7,I7,n7⟩:=q7;exact again I7 n7
  | cont=>obtain⟨σ7,H7,I7,n7⟩:=q7;exact again I7 n7
  | brk=>obtain⟨σ7,H7,I7,q7⟩:=q7;exact⟨σ7,H7,I7.unpinned,q7⟩
  | ret v=>obtain⟨x7,σ7,H7,I7,r7,q7⟩:=q7;exact⟨x7,σ7,H7,I7.unpinned,r7,q7⟩
theorem yY{K:Frag}{a:Addr}{xs:List V}{g:TG}{tb:TS}{D:ve}{σ : St}{H:Hp}(Pv:Nat->St->Hp->Prop)(h0:Pv 0 σ H)(hl:∀i σ H,i<=xs.length->Pv i σ H->SqL K H a xs)
  (hs:∀i x σ H,xs[i]?=some x->Pv i σ H->g x σ H fun σ2 H2=>tb { D with nx:=Pv (i+1),ct:=Pv (i+1),bk:=D.nx } σ2 H2) (hd:∀σ H,Pv xs.length σ H->D.nx σ H) :
  ∃W:Nat->Nat->St->Hp->Prop,(∃m,W 0 m σ H)/\∀i m σ H,W i m σ H->
   ((Itl K a).stop i H/\D.nx σ H)\/((Itl K a).go i H/\∃N:St->Hp->Prop,(∀σ' H',N σ' H'->∃m',m'<m/\W (i+1) m' σ' H')/\∀x H',(Itl K a).yld i H x H'->g x σ H' fun σ2 H2=>tb { D with nx:=N,ct:=N,bk:=D.nx } σ2 H2):=by
 exists fun i m σ H=>m=xs.length - i/\i<=xs.length/\Pv i σ H,⟨xs.length,by simp,zero_le _,h0⟩,?_
 rintro i m σ H ⟨rfl,hi,p⟩;have q:=hl i σ H hi p;by_cases hlt:i<xs.length
 ·refine .inr ⟨⟨xs,xs[i],q,by simp [hlt]⟩,Pv (i+1),fun σ' H' p'=>⟨xs.length - (i+1),∅,rfl,hlt,p'⟩,fun x H' y=>?_⟩
  obtain⟨e,y⟩:=y;subst e;exact hs i x σ _ (y xs q) p
 ·have e:i=xs.length:=by omega
  subst e;exact .inl ⟨⟨xs,q,aF _⟩,hd σ H p⟩
theorem xH{lo:Int}{n:Nat}{g:TG}{tb:TS}{D:ve}{σ : St}{H:Hp}(Pv:Nat->St->Hp->Prop)(h0:Pv 0 σ H)
  (hs:∀i σ H,i<n->Pv i σ H->g (.int (lo+i)) σ H fun σ2 H2=>tb { D with nx:=Pv (i+1),ct:=Pv (i+1),bk:=D.nx } σ2 H2) (hd:∀σ H,Pv n σ H->D.nx σ H) :
  ∃W:Nat->Nat->St->Hp->Prop,(∃m,W 0 m σ H)/\∀i m σ H,W i m σ H->
   ((Itr lo n).stop i H/\D.nx σ H)\/((Itr lo n).go i H/\∃N:St->Hp->Prop,(∀σ' H',N σ' H'->∃m',m'<m/\W (i+1) m' σ' H')/\∀x H',(Itr lo n).yld i H x H'->g x σ H' fun σ2 H2=>tb { D with nx:=N,ct:=N,bk:=D.nx } σ2 H2):=by
 exists fun i m σ H=>m=n - i/\i<=n/\Pv i σ H,⟨n,by simp,zero_le _,h0⟩,?_
 rintro i m σ H ⟨rfl,hi,p⟩;by_cases hlt:i<n
 ·refine .inr ⟨hlt,Pv (i+1),fun σ' H' p'=>⟨n - (i+1),∅,rfl,hlt,p'⟩,fun x H' y=>?_⟩
  obtain⟨e,y⟩:=y;subst e y;exact hs i σ _ hlt p
 ·have e:i=n:=by omega
  subst e;exact .inl ⟨aF _,hd σ H p⟩
abbrev R2:=V->V->Hp->VK->Prop
def OpR(X:Cx)(f:Value->Value->Sem Value)(r:R2):Prop:=
 ∀(pins:PnL) s (σ:St) H x y v u (Q:VK),Inv X pins σ H s->z3 x v->z3 y u->r x y H Q->
  ↑X (f v u) (EP X pins σ Q) X.xe s
def UnR(X:Cx)(f:Value->Sem Value)(r:V->Hp->VK->Prop):Prop:=
 ∀(pins:PnL) s (σ:St) H x v (Q:VK),Inv X pins σ H s->z3 x v->r x H Q->
  ↑X (f v) (EP X pins σ Q) X.xe s
def xQ(X:Cx)(f:Value)(r:List V->Hp->VK->Prop):Prop:=
 ∀(pins:PnL) s (σ:St) H xs us (Q:VK),Inv X pins σ H s->zX xs us->r xs H Q->
  ↑X (call f us) (EP X pins σ Q) X.xe s
def znw(X:Cx)(r:V->Hp->(Bool->Hp->Prop)->Prop):Prop:=
 ∀(pins:PnL) s (σ:St) H x v (Q:Bool->Hp->Prop),Inv X pins σ H s->z3 x v->r x H Q->
  ↑X (truthy v) (TP X pins σ Q) X.xe s
def tOp(r:R2)(ta tb:TE):TE:=fun σ H Q=>ta σ H fun x H1=>tb σ H1 fun y H2=>r x y H2 Q
def tUn(r:V->Hp->VK->Prop)(ta:TE):TE:=fun σ H Q=>ta σ H fun x H1=>r x H1 Q
inductive IrI(C:Int->Int->Prop)(g:Int->Int->V)(x y:V)(H:Hp)(Q:VK):Prop where
 | mk (i j:Int) (e1:x=.int i) (e2:y=.int j) (c:C i j) (q:Q (g i j) H)
def rI(C:Int->Int->Prop)(g:Int->Int->V):R2:=fun x y H Q=>IrI C g x y H Q
inductive znz(g:Int->Int->V)(x y:V)(H:Hp)(Q:VK):Prop where
 | mk (i j:Int) (e1:x=.int i) (e2:y=.int j) (q:Q (g i j) H)
def rI0(g:Int->Int->V):R2:=fun x y H Q=>znz g x y H Q
def rU(g:Int->V):V->Hp->VK->Prop:=fun x H Q=>∃i,x=.int i/\Q (g i) H
end
section
variable {ta tb tc:TE}
theorem zlg(ha:PE X a ta)(hb:PE X b tb){R:V->V->Hp->Prop}(I:Inv X pins σ H s)
  (h:ta σ H fun x H1=>tb σ H1 fun y H2=>R x y H2) {Q:VSP}{f:Value->Value->Sem Value}
  (hf:∀v u s2 x y H2,Inv X pins σ H2 s2->z3 x v->z3 y u->R x y H2->↑X (f v u) Q X.xe s2) :
  ↑X (eval a X.env) (fun v s₁=>↑X (eval b X.env) (fun u s₂=>↑X (f v u) Q X.xe s₂) X.xe s₁) X.xe s:=by
 refine thn (ha pins s σ H _ I h) fun v s1 ⟨x,H1,I1,r1,q1⟩=>?_;refine thn (hb pins s1 σ H1 _ I1 q1) fun u s2 ⟨y,H2,I2,r2,q2⟩=>?_;exact hf v u s2 x y H2 I2 r1 r2 q2
theorem zN{r:R2}(ho:OpR X (binaryOp op) r)(ha:PE X a ta)(hb:PE X b tb):PE X (.BinOp a op b pos) (tOp r ta tb):=by
 and_intros;exact wpAny_BinOp (zlg ha hb I h fun v u s2 x y H2 I2 rx ry q=>ho pins s2 σ H2 x y v u Q I2 rx ry q)
theorem zlY{r:V->Hp->VK->Prop}(ho:UnR X (unaryOp op) r)(ha:PE X a ta):PE X (.UnaryOp op a pos) (tUn r ta):=by
 and_intros;exact UnaryOp_ (thn (ha pins s σ H _ I h) fun v s1 ⟨x,H1,I1,r1,q1⟩=>ho pins s1 σ H1 x v Q I1 r1 q1)
theorem opI{f:Value->Value->Sem Value}{C:Int->Int->Prop}{g:Int->Int->Int}
  (rule:∀(i j:Int) t u s (Q:VSP) (E:VSP),C i j->Q (.int (g i j) s.toks) { s with toks:=s.toks+1 }->↑X (f (.int i t) (.int j u)) Q E s) :
  OpR X f (rI C fun i j=>.int (g i j)):=by
 intro pins s σ H x y v u Q I rx ry h;obtain⟨i,j,rfl,rfl,hc,q⟩:=h;obtain⟨t,rfl⟩:=rx;obtain⟨t',rfl⟩:=ry;exact rule i j t t' s _ _ hc ⟨.int (g i j),H,I.tok _,⟨_,rfl⟩,q⟩
theorem zl1{f:Value->Value->Sem Value}{g:Int->Int->Int}
  (rule:∀(i j:Int) t u s (Q:VSP) (E:VSP),Q (.int (g i j) s.toks) { s with toks:=s.toks+1 }->↑X (f (.int i t) (.int j u)) Q E s) :
  OpR X f (rI0 fun i j=>.int (g i j)):=by
 intro pins s σ H x y v u Q I rx ry h;obtain⟨i,j,rfl,rfl,q⟩:=h;obtain⟨t,rfl⟩:=rx;obtain⟨t',rfl⟩:=ry;exact rule i j t t' s _ _ ⟨.int (g i j),H,I.tok _,⟨_,rfl⟩,q⟩
theorem ziA{f:Value->Value->Sem Value}{g:Int->Int->Bool}
  (rule:∀(i j:Int) t u s (Q:VSP) (E:VSP),Q (.bool (g i j)) s->↑X (f (.int i t) (.int j u)) Q E s) :
  OpR X f (rI0 fun i j=>.bl (g i j)):=by
 intro pins s σ H x y v u Q I rx ry h;obtain⟨i,j,rfl,rfl,q⟩:=h;obtain⟨t,rfl⟩:=rx;obtain⟨t',rfl⟩:=ry;exact rule i j t t' s _ _ ⟨.bl (g i j),H,I,rfl,q⟩
def znE(i j:Int):Prop:=0<j/\j<1073741824
def znD(i j:Int):Prop:=0<=j/\j<=1000000/\i.natAbs<2 ^ 64
def zlm(i j:Int):Prop:=(-(2 ^ 64)<i/\i<2 ^ 64)\/(-(2 ^ 64)<j/\j<2 ^ 64)
theorem zlm.ok{i j:Int}(h:zlm i j):IntMulOk i j:=by
 rcases h with ⟨h1,h2⟩|⟨h1,h2⟩
 ·exact .of_left (intBits_le_64 h1 h2)
 ·exact .of_right (intBits_le_64 h1 h2)
theorem xt:OpR X (binaryOp .Add) (rI0 fun i j=>.int (i+j)):=zl1 fun _ _ _ _ _ _ _ q=>add_int q
theorem qw:OpR X (binaryOp .Sub) (rI0 fun i j=>.int (i - j)):=zl1 fun _ _ _ _ _ _ _ q=>sub_int q
theorem xV:OpR X (binaryOp .Mult) (rI zlm fun i j=>.int (i * j)):=opI fun _ _ _ _ _ _ _ hc q=>mul_int q hc.ok
theorem zbq:OpR X (binaryOp .FloorDiv) (rI znE fun i j=>.int (i / j)):=opI fun i j _ _ _ _ _ hc q=>by
 have h1:(0:Int)<j:=hc.1;have h2:j<1073741824:=hc.2;exact floordiv_int ∅ (by rw[Int.fdiv_eq_ediv_of_nonneg i ∅];exact q) (.inl (PyProof.noPylong_small ∅))
theorem wM:OpR X (binaryOp .Mod) (rI (fun _ j=>0<j) fun i j=>.int (i % j)):=opI fun i j _ _ _ _ _ hc q=>by
 have h1:(0:Int)<j:=hc;exact mod_int' ∅ (by rw[Int.fmod_eq_emod_of_nonneg i ∅];exact q)
theorem zda:OpR X (binaryOp .Pow) (rI znD fun i j=>.int (i ^ j.toNat)):=opI fun _ _ _ _ _ _ _ hc q=>pow_int_small hc.1 hc.2.1 hc.2.2 q
theorem unI{f:Value->Sem Value}{g:Int->Int}
  (rule:∀(i:Int) t s (Q:VSP) (E:VSP),Q (.int (g i) s.toks) { s with toks:=s.toks+1 }->↑X (f (.int i t)) Q E s) :
  UnR X f (rU fun i=>.int (g i)):=by
 intro pins s σ H x v Q I rx h;obtain⟨i,rfl,q⟩:=h;obtain⟨t,rfl⟩:=rx;exact rule i t s _ _ ⟨.int (g i),H,I.tok _,⟨_,rfl⟩,q⟩
theorem zjS:UnR X (unaryOp .USub) (rU fun i=>.int (-i)):=unI fun _ _ _ _ _ q=>neg_int q
def zlI:V->V->Bool
 | .non,.non=>true|.non,.int _=>true|.int _,.non=>true|.non,.bl _=>true|.bl _,.non=>true|.non,.str _=>true|.str _,.non=>true
 | .int _,.int _=>true|.bl _,.bl _=>true|.str _,.str _=>true|.byt _,.byt _=>true
 | .int _,.str _=>true|.str _,.int _=>true|.bl _,.str _=>true|.str _,.bl _=>true
 | _,_=>false
def rEq:R2:=fun x y H Q=>zlI x y=true/\Q (.bl (decide (x=y))) H
def rNe:R2:=fun x y H Q=>zlI x y=true/\Q (.bl (!decide (x=y))) H
theorem zeD{i j:Int}:decide (V.int i=V.int j)=(i==j):=by
 rw[Bool.eq_iff_iff];simp
theorem zhG:decide (V.bl i=V.bl j)=(i==j):=by
 rw[Bool.eq_iff_iff];simp
theorem zeC:decide (V.str i=V.str j)=(i==j):=by
 rw[Bool.eq_iff_iff];simp
theorem zeE:decide (V.byt i=V.byt j)=(i.toList==j.toList):=by
 rw[Bool.eq_iff_iff];cases i;cases j;simp
theorem ym{Q:VK}(I:Inv X pins σ H s)(q:Q (.bl k) H)(e:k=k'):EP X pins σ Q (.bool k') s:=by
 subst e;exact⟨.bl k,H,I,rfl,q⟩
theorem ye:OpR X (compareOp .Eq) rEq:=by
 intro pins s σ H x y v u Q I rx ry h;obtain⟨hs,q⟩:=h;cases x with
 | non=>
  cases rx;cases y with
  | non=>cases ry;exact PySem.EqNone.eq_none_none (ym I q (by simp))
  | bl j=>cases ry;exact PySem.EqNone.eq_none_bool (ym I q (by simp))
  | int j=>obtain⟨t',rfl⟩:=ry;exact PySem.EqNone.eq_none_int (ym I q (by simp))
  | str j=>obtain⟨t',rfl⟩:=ry;exact PySem.EqNone.eq_none_str (ym I q (by simp))
  | _=>exact absurd (show false=true from hs) zft
 | bl i=>
  cases rx;cases y with
  | non=>cases ry;exact PySem.EqNone.eq_bool_none (ym I q (by simp))
  | bl j=>cases ry;exact eq_bool (ym I q zhG)
  | str j=>obtain⟨t',rfl⟩:=ry;exact PySem.EqMixed.eq_bool_str (ym I q (by simp))
  | _=>exact absurd (show false=true from hs) zft
 | int i=>
  obtain⟨t,rfl⟩:=rx;cases y with
  | non=>cases ry;exact PySem.EqNone.eq_int_none (ym I q (by simp))
  | int j=>obtain⟨t',rfl⟩:=ry;exact eq_int (ym I q zeD)
  | str j=>obtain⟨t',rfl⟩:=ry;exact PySem.EqMixed.eq_int_str (ym I q (by simp))
  | _=>exact absurd (show false=true from hs) zft
 | str i=>
  obtain⟨t,rfl⟩:=rx;cases y with
  | non=>cases ry;exact PySem.EqNone.eq_str_none (ym I q (by simp))
  | bl j=>cases ry;exact PySem.EqMixed.eq_str_bool (ym I q (by simp))
  | int j=>obtain⟨t',rfl⟩:=ry;exact PySem.EqMixed.eq_str_int (ym I q (by simp))
  | str j=>obtain⟨t',rfl⟩:=ry;exact eq_str (ym I q zeC)
  | _=>exact absurd (show false=true from hs) zft
 | byt i=>
  obtain⟨t,rfl⟩:=rx;cases y with
  | byt j=>obtain⟨t',rfl⟩:=ry;exact PySem.W.eq_bytes (ym I q zeE)
  | _=>exact absurd (show false=true from hs) zft
 | _=>cases y <;> exact absurd (show false=true from hs) zft
theorem qx:OpR X (compareOp .NotEq) rNe:=by
 intro pins s σ H x y v u Q I rx ry h;obtain⟨hs,q⟩:=h;cases x with
 | non=>
  cases rx;cases y with
  | non=>cases ry;exact PySem.EqNone.ne_none_none (ym I q (by simp))
  | bl j=>cases ry;exact PySem.EqNone.ne_none_bool (ym I q (by simp))
  | int j=>obtain⟨t',rfl⟩:=ry;exact PySem.EqNone.ne_none_int (ym I q (by simp))
  | str j=>obtain⟨t',rfl⟩:=ry;exact PySem.EqNone.ne_none_str (ym I q (by simp))
  | _=>exact absurd (show false=true from hs) zft
 | bl i=>
  cases rx;cases y with
  | non=>cases ry;exact PySem.EqNone.ne_bool_none (ym I q (by simp))
  | bl j=>cases ry;exact ne_bool (ym I q (congrArg not zhG))
  | str j=>obtain⟨t',rfl⟩:=ry;exact PySem.EqMixed.ne_bool_str (ym I q (by simp))
  | _=>exact absurd (show false=true from hs) zft
 | int i=>
  obtain⟨t,rfl⟩:=rx;cases y with
  | non=>cases ry;exact PySem.EqNone.ne_int_none (ym I q (by simp))
  | int j=>obtain⟨t',rfl⟩:=ry;exact ne_int (ym I q (congrArg not zeD))
  | str j=>obtain⟨t',rfl⟩:=ry;exact PySem.EqMixed.ne_int_str (ym I q (by simp))
  | _=>exact absurd (show false=true from hs) zft
 | str i=>
  obtain⟨t,rfl⟩:=rx;cases y with
  | non=>cases ry;exact PySem.EqNone.ne_str_none (ym I q (by simp))
  | bl j=>cases ry;exact PySem.EqMixed.ne_str_bool (ym I q (by simp))
  | int j=>obtain⟨t',rfl⟩:=ry;exact PySem.EqMixed.ne_str_int (ym I q (by simp))
  | str j=>obtain⟨t',rfl⟩:=ry;exact ne_str (ym I q (congrArg not zeC))
  | _=>exact absurd (show false=true from hs) zft
 | byt i=>
  obtain⟨t,rfl⟩:=rx;cases y with
  | byt j=>obtain⟨t',rfl⟩:=ry;exact PySem.W.ne_bytes (ym I q (congrArg not zeE))
  | _=>exact absurd (show false=true from hs) zft
 | _=>cases y <;> exact absurd (show false=true from hs) zft
theorem wD:OpR X (compareOp .Lt) (rI0 fun i j=>.bl (decide (i<j))):=ziA fun _ _ _ _ _ _ _ q=>lt_int q
theorem zek:OpR X (compareOp .LtE) (rI0 fun i j=>.bl (decide (i<=j))):=ziA fun _ _ _ _ _ _ _ q=>le_int q
theorem zap:OpR X (compareOp .Gt) (rI0 fun i j=>.bl (decide (j<i))):=ziA fun _ _ _ _ _ _ _ q=>gt_int q
theorem zl0:OpR X (compareOp .GtE) (rI0 fun i j=>.bl (decide (j<=i))):=ziA fun _ _ _ _ _ _ _ q=>ge_int q
theorem ze0:OpR X (compareOp .In) (fun x y H Q=>∃i j,x=.str i/\y=.str j/\Q (.bl (!(Builtin.Str.occurrences j i 0 j.length 1).isEmpty)) H):=by
 intro pins s σ H x y v u Q I rx ry h;obtain⟨i,j,rfl,rfl,q⟩:=h;obtain⟨t,rfl⟩:=rx;obtain⟨t',rfl⟩:=ry;exact in_str (ym I q rfl)
theorem zv(b:Expr)(h:op≠.In:=by decide)(h2:op≠.NotIn:=by decide):behindInMarks op b=false:=by
 have e1:(op==CmpOp.In)=false:=by cases op <;> first|rfl|exact absurd rfl h
 have e2:(op==CmpOp.NotIn)=false:=by cases op <;> first|rfl|exact absurd rfl h2
 cases b <;> simp [behindInMarks,e1,e2]
theorem y9{r:R2}(ho:OpR X (compareOp op) r)(ha:PE X a ta)(hb:PE X b tb)(hm:behindInMarks op b=false):PE X (.Compare a [op] [b] pos) (tOp r ta tb):=by
 and_intros;exact wpAny_Compare1 (zlg ha hb I h fun v u s2 x y H2 I2 rx ry q=>ho pins s2 σ H2 x y v u Q I2 rx ry q) hm
inductive zmC(x:V)(H:Hp)(Q:Bool->Hp->Prop):Prop where
 | mk (k:Bool) (e:x=.bl k) (q:Q k H)
def zju(t:TE):TT:=fun σ H Q=>t σ H fun x H'=>zmC x H' Q
theorem zn{r:R2}(ho:OpR X (compareOp op) r)(ha:PE X a ta)(hb:PE X b tb)(hm:behindInMarks op b=false):PT X (.Compare a [op] [b] pos) (zju (tOp r ta tb)):=by
 and_intros;refine wpAny_isTrue_Compare1 (thn (ha pins s σ H _ I h) fun v s1 ⟨x,H1,I1,r1,q1⟩=>thn (hb pins s1 σ H1 _ I1 q1) fun u s2 ⟨y,H2,I2,r2,q2⟩=>
  thn (ho pins s2 σ H2 x y v u _ I2 r1 r2 q2) fun c s3 ⟨z,H3,I3,r3,k,e,q3⟩=>?_) hm
 subst e;cases r3;exact wpAny_truthy_bool ⟨H3,I3,q3⟩
def zj2(r r':R2)(ta tb tc:TE):TE:=fun σ H Q=>ta σ H fun x H1=>tb σ H1 fun y H2=>r x y H2 fun z H3=>∃k,z=.bl k/\
 (if k=true then tc σ H3 fun w' H4=>r' y w' H4 Q else Q (.bl false) H3)
theorem zbT{r r':R2}(ho:OpR X (compareOp op) r)(ho':OpR X (compareOp op') r')(ha:PE X a ta)(hb:PE X b tb)(hc:PE X c tc)
  (hm:lastMarks [op,op'] [b,c]=false:=by with_unfolding_all rfl):PT X (.Compare a [op,op'] [b,c] pos) (zju (zj2 r r' ta tb tc)):=by
 and_intros;refine isTrue_chain (thn (ha pins s σ H _ I h) fun v s1 ⟨x,H1,I1,r1,q1⟩=>test_link (thn (hb pins s1 σ H1 _ I1 q1) fun u s2 ⟨y,H2,I2,r2,q2⟩=>
  thn (ho pins s2 σ H2 x y v u _ I2 r1 r2 q2) fun d s3 ⟨z,H3,I3,r3,k,e,q3⟩=>?_)) hm
 subst e;cases r3;refine wpAny_truthy_bool ?_;cases k with
 | false=>
  obtain⟨k',e',q'⟩:=q3;cases e';exact ite_ff ⟨H3,I3,q'⟩
 | true=>
  refine ite_tt (test_last (thn (hc pins s3 σ H3 _ I3 q3) fun w' s4 ⟨z',H4,I4,r4,q4⟩=>thn (ho' pins s4 σ H4 y z' u w' _ I4 r2 r4 q4) fun d' s5 ⟨z2,H5,I5,r5,k2,e2,q5⟩=>?_));subst e2;cases r5;exact wpAny_truthy_bool ⟨H5,I5,q5⟩
def zmz(K:Frag)(x:V)(H:Hp)(k:Bool):Prop:=
 match x with
 | .non=>k=false
 | .bl b=>k=b
 | .int i=>k=(i != 0)
 | .str y=>y.length<=sizeLine/\k=((y.length:Int) != 0)
 | .byt y=>y.size<=sizeLine/\k=((y.size:Int) != 0)
 | .ref p=>(∃xs,SqL K H p xs/\k=!xs.isEmpty)\/(∃xs,SqT K H p xs/\k=!xs.isEmpty)\/∃kvs,H p=some (.dK kvs)/\k=!kvs.isEmpty
 | _=>False
theorem zdr{κ : Type}{kvs:List (κ×V)}{vs:List (κ×Value)}(r:KV kvs vs):(!vs.isEmpty)=!kvs.isEmpty:=by
 cases r <;> rfl
theorem qJ(r:zX xs its):(!its.toArray.isEmpty)=!xs.isEmpty:=by
 cases r <;> simp
theorem jh:(sizeLine:Nat)<2 ^ 63:=by rw[sizeLine_eq];decide
theorem zjX:znw X (fun x H Q=>∃k,zmz X.K x H k/\Q k H):=by
 intro pins s σ H x v Q I rx h;obtain⟨k,e,q⟩:=h;have hl:=jh;have hs:sizeLine=16777216:=sizeLine_eq;cases x with
 | non=>
  cases rx;have e':k=false:=e;subst e';exact truthy_none ⟨H,I,q⟩
 | bl b=>
  cases rx;have e':k=b:=e;subst e';exact wpAny_truthy_bool ⟨H,I,q⟩
 | int i=>
  obtain⟨t,rfl⟩:=rx;have e':k=(i != 0):=e;subst e';exact PySem.P.truthy_int ⟨H,I,q⟩
 | str y=>
  obtain⟨t,rfl⟩:=rx;obtain⟨hy,e'⟩:y.length<=sizeLine/\k=((y.length:Int) != 0):=e;subst e';exact PySem.P.truthy_str ∅ ⟨H,I.tok _,q⟩
 | byt y=>
  obtain⟨t,rfl⟩:=rx;obtain⟨hy,e'⟩:y.size<=sizeLine/\k=((y.size:Int) != 0):=e;subst e';exact PySem.W.truthy_bytes ∅ ⟨H,I.tok _,q⟩
 | ref p=>
  cases rx;have e':(∃xs,SqL X.K H p xs/\k=!xs.isEmpty)\/(∃xs,SqT X.K H p xs/\k=!xs.isEmpty)\/∃kvs,H p=some (.dK kvs)/\k=!kvs.isEmpty:=e;rcases e' with ⟨xs,hx,e'⟩|⟨xs,hx,e'⟩|⟨kvs,hx,e'⟩
  ·subst e'
   obtain⟨its,r,pl,hz⟩:=I.list hx;have hlen:=r.length;exact wpAny_truthy_list pl.isList (by simp only[size_toArray];omega) ⟨H,I.tok _,by rw[qJ r];exact q⟩
  ·subst e'
   obtain⟨its,r,pl,hz⟩:=I.tuple hx;have hlen:=r.length;exact truthy_tuple pl (by simp only[size_toArray];omega) ⟨H,I.tok _,by rw[qJ r];exact q⟩
  ·subst e'
   obtain⟨hz,hS,vs,r,m⟩:kvs.length<=sizeLine/\(p==sysModules)=false/\∃vs,KV kvs vs/\s.heap.DictOf (yn X.prog X.w) p vs:=I.hok p _ hx;have hlen:kvs.length=vs.length:=Paired.length r;exact wpAny_truthy_dict hS m ∅ ⟨H,I.tok _,by rw[zdr r];exact q⟩
 | _=>exact(show False from e).elim
theorem zgv(ha:PE X a ta)(he:∀whole,isTrue a X.env whole=(do let v <- whole;standAt a.pos;holding [v] (truthy v))):
  PT X a (fun σ H Q=>ta σ H fun x H'=>∃k,zmz X.K x H' k/\Q k H'):=by
 and_intros;exact isTrue_plain (thn (ha pins s σ H _ I h) fun v s1 ⟨x,H1,I1,r1,q1⟩=>zjX pins s1 σ H1 x v Q I1 r1 q1) (he _)
theorem wQ(r:zX [x] us):∃u,us=[u]/\z3 x u:=by
 cases r with
 | cons r1 r2=>cases r2;exact⟨_,rfl,r1⟩
theorem zdN(r:zX [x,y] us):∃u w',us=[u,w']/\z3 x u/\z3 y w':=by
 cases r with
 | cons r1 r2=>
  cases r2 with
  | cons r3 r4=>cases r4;exact⟨_,_,rfl,r1,r3⟩
theorem zaJ:xQ X (.type "int") (fun xs H Q=>(∃i,xs=[.int i]/\Q (.int i) H)\/∃k,xs=[.bl k]/\Q (.int (if k then 1 else 0)) H):=by
 intro pins s σ H xs us Q I r h;rcases h with ⟨i,rfl,q⟩|⟨k,rfl,q⟩
 ·obtain⟨u,rfl,t,rfl⟩:=wQ r
  exact call_int_int ⟨.int i,H,I,⟨_,rfl⟩,q⟩
 ·obtain⟨u,rfl,r1⟩:=wQ r
  cases r1;exact call_int_bool ⟨.int (if k then 1 else 0),H,I.tok _,⟨_,rfl⟩,q⟩
structure zdH(h:Heap)(x dx C:Addr)(mA:Str->Option Value):Prop where
 obj:h.get? x=some (instObj C dx)
 ns:h.Ns1 dx mA
 ne:dx≠x
theorem zfb{h:Heap}{dx:Addr}{mA:Str->Option Value}(n:h.Ns1 dx mA):∃od,h.get? dx=some od/\∀name,lookIn name od=some (mA name):=by
 obtain⟨o,es,ep,ho,hd,hk,_,hm⟩:=n;exists o,ho,fun name=>?_;have e:=hm name;unfold nsFind findBy at e;rw[<- Array.find?_toList] at e;unfold lookIn;rw[hd];dsimp only;split
 ·rename_i y q
  rw[q] at e;exact congrArg some e
 ·rename_i q
  rw[q] at e;have a:es.toList.any (·.refKey)=false:=by
   rw[List.any_eq_false];intro y hy;obtain⟨z,t,hkey⟩:=hk y (Array.mem_toList_iff.mp hy);simp [DictEntry.refKey,hkey]
  have a':¬es.toList.any (·.refKey)=true:=by rw[a];exact zft
  rw[aJ a'];exact congrArg some e
theorem zdH.look{mA:Str->Option Value}(I:zdH h x dx C mA):∃od,PySem.W.InstAt h x (instObj C dx) C (some od)/\∀name,lookIn name od=some (mA name):=
 let ⟨od,ho,hl⟩:=zfb I.ns
 ⟨od,⟨I.obj,rfl,rfl,ho⟩,hl⟩
variable {E:VSP}{mA:Str->Option Value}
theorem zja{prog:Program}{w:World}{A:Around}{s:Shared}{K:Frag}{x dx C:Addr}{name:Str}{v:Value}{expr:Bool}{Q:VSP}(X:K.In s.heap)(I:zdH s.heap x dx C mA)(hg:plainGet K C name=true)(hh:hasDictIn K C=true)
  (ha:findIn K (.ref C) name=some none) (hv:mA name=some v) (hv':PySem.W.handedIn v=true) (h:Q v { s with toks:=s.toks+1 }) :
  wpAny (model prog w) A (getAttr (.ref x) name expr) Q E s:=by
 obtain⟨od,J,hl⟩:=I.look;exact PySem.W.get_value X J (plainGet_of hg).1 (PySem.W.findObj_own hh ha rfl (by rw[hl,hv])) hv' h
theorem zhw{prog:Program}{w:World}{A:Around}{s:Shared}{K:Frag}{x dx C f:Addr}{name:Str}{pl:Sem Bool}{Q:Value×List Value->Shared->Prop}(X:K.In s.heap)(I:zdH s.heap x dx C mA)(hg:plainGet K C name=true)
  (hf:findIn K (.ref C) name=some (~~~f)) (ht:isFn K (.ref f)=true) (hv:mA name=none) (h:Q (.ref f,[.ref x]) s) :
  wpAny (model prog w) A (getMethod (.ref x) name pl) Q E s:=by
 obtain⟨od,J,hl⟩:=I.look;exact PySem.W.method_fn X J (plainGet_of hg).1 (plainGet_of hg).2 hf (beq_iff_eq.mp ht) (by show(lookIn name od).map (·.isSome)=some false;rw[hl,hv];rfl) h
theorem zhZ{prog:Program}{w:World}{A:Around}{s:Shared}{K:Frag}{x dx C:Addr}{name:Str}{v:Value}{ns:List Str}{Q:Unit->Shared->Prop}(X:K.In s.heap)(I:zdH s.heap x dx C mA)
  (hs:findIn K (.ref C) "__setattr__"=some (some (.builtin "object.__setattr__"))) (hp:plainOver K C=true) (ht:takerIn K C name=some none) (hh:hasDictIn K C=true)
  (hw:PySem.Within mA ns) (hsz:ns.length<=sizeLine)
  (h:∀h',zdH h' x dx C (fun y=>if y=name then some v else mA y)->Heap.SameBut dx s.heap h'->Q () { s with heap:=h',toks:=s.toks+2 }) :
  wpAny (model prog w) A (setAttr (.ref x) name v) Q E s:=by
 obtain⟨od,J,hl⟩:=I.look;refine PySem.W.set_plain X J hs (PySem.W.osa_open (s:={ s with toks:=s.toks+1 }) (r:=none) X J hp ht fun b=>?_)
 obtain⟨cd,hc,hd'⟩:=PySem.W.any_some hh;have hx:s.heap.get? x=some ⟨.ref C,some dx,.plain,#[]⟩:=I.obj;refine zwb (zwp (zwb (zwb (wpAny_loadPart hx (zwb (PySem.W.Looks.here (s:={ s with toks:=s.toks+1 }) (PySem.W.looks_clsIn X hc) ?_))))))
 rw[hd'];refine zwp (a:=some dx) (zwb (zwp (zwb ?_)));refine wpAny_nsSet1 (s:={ s with toks:=s.toks+1 }) I.ns fun h' hn2 hs2=>?_
 obtain⟨oD,esD,epD,hoD,hdD,hcD⟩:=hn2.count (PySem.Within.cons name v hw);refine zwb (wpAny_lookBehind hoD (by rw[hdD];exact pastItsLine_dict (le_trans hcD (by rw[length_cons];omega))) ?_)
 exact zwp (h _ ⟨(hs2.2 _ (Ne.symm I.ne)).trans I.obj,hn2,I.ne⟩ hs2)
theorem zhg{s:Shared}{K:Frag}{f:Addr}{R:Result->Shared->Prop}{vs:List Value}{kw:List (Str×Value)}(X:K.In s.heap)(hm:makesIn K C=true)
  (hi:findIn K (.ref C) "__init__"=some (~~~f)) (hf:PySem.W.typeIn K (.ref f)=some (.type "function"))
  (h:codeAny (model prog w) (A.under (.builtin "type.__call__" ⟨.ref C::vs,kw⟩)) (.call (.ref f) ⟨.ref (s.heap.objs.size+1)::vs,kw⟩) (PySem.W.InitBack (s.heap.objs.size+1) R)
   { s with heap:=(s.heap.push emptyDict).push (instObj C s.heap.objs.size) }) :
  codeAny (model prog w) A (.call (.ref C) ⟨vs,kw⟩) R s:=by
 obtain⟨hh,g,d,t,os⟩:=s;exact PySem.W.make_core (makes_of X hm) (PySem.W.looks_findIn X hi) (fun self=>PySem.W.bind_fn X self hf) (.inl rfl) h
theorem zfa{prog:Program}{w:World}{A:Around}{s:Shared}{K:Frag}{C:Addr}{R:Result->Shared->Prop}(X:K.In s.heap)(hm:makesIn K C=true)
  (hi:findIn K (.ref C) "__init__"=some (some (.builtin "object.__init__")))
  (hb:∀self,Looks (model prog w) s.heap (bindSpecial (.builtin "object.__init__") self) (.builtin "object.__init__",[self]))
  (h:codeAny (model prog w) (A.under (.builtin "type.__call__" ⟨[.ref C],[]⟩)) (.call (.builtin "object.__init__") ⟨[.ref (s.heap.objs.size+1)],[]⟩) (PySem.W.InitBack (s.heap.objs.size+1) R)
   { s with heap:=(s.heap.push emptyDict).push (instObj C s.heap.objs.size) }) :
  codeAny (model prog w) A (.call (.ref C) ⟨[],[]⟩) R s:=by
 obtain⟨hh,g,d,t,os⟩:=s;exact PySem.W.make_core (makes_of X hm) (PySem.W.looks_findIn X hi) hb (.inr ⟨rfl,rfl⟩) h
def zP(f:Str)(v:V):List (Str×V)->List (Str×V)
 | []=>[(f,v)]
 | (g,x)::r=>if g=f then (g,v)::r else (g,x)::zP f v r
theorem zj(f g:Str)(v:V):∀fs:List (Str×V),(zP f v fs).lookup g=if g=f then some v else fs.lookup g
 | []=>by
  show List.lookup g [(f,v)]=_;by_cases h:g=f
  ·have hb:(g==f)=true:=beq_iff_eq.mpr h
   simp only[List.lookup,hb,aK h]
  ·have hb:(g==f)=false:=beq_eq_false_iff_ne.mpr h
   simp only[List.lookup,hb,aJ h]
 | (k,x)::r=>by
  have ih:=zj f g v r;rw[show zP f v ((k,x)::r)=(if k=f then (k,v)::r else (k,x)::zP f v r) from rfl]
  by_cases hk:k=f
  ·rw[aK hk]
   by_cases h:g=k
   ·have hb:(g==k)=true:=beq_iff_eq.mpr h
    simp only[List.lookup,hb,aK (h.trans hk)]
   ·have hb:(g==k)=false:=beq_eq_false_iff_ne.mpr h
    simp only[List.lookup,hb,aJ (fun e:g=f=>h (e.trans hk.symm))]
  ·rw[aJ hk]
   by_cases h:g=k
   ·have hb:(g==k)=true:=beq_iff_eq.mpr h
    simp only[List.lookup,hb,aJ (fun e:g=f=>hk (h.symm.trans e))]
   ·have hb:(g==k)=false:=beq_eq_false_iff_ne.mpr h
    simp only[List.lookup,hb];exact ih
theorem jj(f:Str)(v:V):∀fs:List (Str×V),f∈(zP f v fs).map (·.1)/\∀g,g∈fs.map (·.1)->g∈(zP f v fs).map (·.1)
 | []=>⟨by simp [zP],fun g h=>by simp at h⟩
 | (k,x)::r=>by
  obtain⟨i1,i2⟩:=jj f v r;rw[show zP f v ((k,x)::r)=(if k=f then (k,v)::r else (k,x)::zP f v r) from rfl]
  by_cases hk:k=f
  ·rw[aK hk]
   subst hk;exact⟨by simp,fun g h=>by simpa using h⟩
  ·rw[aJ hk]
   exists ?_,fun g h=>?_
   ·rw[map_cons]
    exact mem_cons_of_mem _ i1
   ·rw[map_cons] at h |-
    rcases List.mem_cons.mp h with e|e
    ·exact List.mem_cons.mpr (.inl e)
    ·exact mem_cons_of_mem _ (i2 g e)
theorem ju(f:Str)(v:V):∀fs:List (Str×V),(zP f v fs).length<=fs.length+1
 | []=>by simp [zP]
 | (k,x)::r=>by
  have ih:=ju f v r;rw[show zP f v ((k,x)::r)=(if k=f then (k,v)::r else (k,x)::zP f v r) from rfl]
  by_cases hk:k=f
  ·rw[aK hk,length_cons,length_cons];omega
  ·rw[aJ hk,length_cons,length_cons];omega
theorem vt(r:uA (some v) o):∃u,o=some u/\z3 v u:=by
 cases o with
 | none=>exact(show False from r).elim
 | some u=>exact⟨u,rfl,r⟩
theorem uA.none_of(r:uA none o):o=none:=by
 cases o with
 | none=>rfl
 | some u=>exact(show False from r).elim
theorem zfh(r:z3 v u):PySem.W.handedIn u=true:=by
 cases v with
 | non=>cases (show u=Value.none from r);rfl
 | bl b=>cases (show u=Value.bool b from r);rfl
 | int i=>obtain⟨t,e⟩:=(show ∃t,u=Value.int i t from r);cases e;rfl
 | str x=>obtain⟨t,e⟩:=(show ∃t,u=Value.str x t from r);cases e;rfl
 | byt b=>obtain⟨t,e⟩:=(show ∃t,u=Value.bytes b t from r);cases e;rfl
 | flt b=>obtain⟨t,e⟩:=(show ∃t,u=Value.float b t from r);cases e;rfl
 | ref a=>cases (show u=Value.ref a from r);rfl
 | ty n=>cases (show u=Value.type n from r);rfl
end
section
variable {P:Program}{w:World}{H H':Hp}{a C dx:Addr}{fs fs':List (Str×V)}
theorem jU(hok:HOk P w H h)(e:H a=some (.ins C dx fs)):∃mA,zdH h a dx C mA/\(∀f,uA (fs.lookup f) (mA f))/\PySem.Within mA (fs.map (·.1))/\fs.length<=1000/\H dx=some (.own a):=by
 obtain⟨d,z,ne,ob,mA,n,r,q⟩:=(show yD P w H h a (.ins C dx fs) from hok a _ e);exact⟨mA,⟨ob,n,ne⟩,r,q,z,d⟩
structure Cls(K:Frag)(C:Addr):Prop where
 pg:plainGet K C Str.empty=true
 hd:hasDictIn K C=true
 po:plainOver K C=true
 sa:findIn K (.ref C) "__setattr__"=some (some (.builtin "object.__setattr__"))
theorem Cls.get{K:Frag}{C:Addr}(c:Cls K C)(f:Str):plainGet K C f=true:=c.pg
def yl(K:Frag)(C:Addr)(f:Str):Prop:=findIn K (.ref C) f=some none
theorem yl.taker{K:Frag}{C:Addr}{f:Str}(n:yl K C f):takerIn K C f=some none:=by
 unfold takerIn;rw[show findIn K (.ref C) f=some none from n];rfl
structure y6(K:Frag)(C:Addr)(m:Str)(f:Addr):Prop where
 at_:findIn K (.ref C) m=some (~~~f)
 fn:isFn K (.ref f)=true
 kp:keepIn K (.ref f)=true
variable {σ:St}{s:Shared}{f:Str}{v:V}{A:Around}{E:VSP}
theorem qM{Q:VSP}(I:Inv X pins σ H s)(e:H a=some (.ins C dx fs))(c:Cls X.K C)(n:yl X.K C f)(l:fs.lookup f=some v)
  (h:∀u s',Inv X pins σ H s'->z3 v u->Q u s'):wpAny (model X.prog X.w) A (getAttr (.ref a) f b) Q E s:=by
 obtain⟨mA,O,r,_,_,_⟩:=jU I.hok e;obtain⟨u,hu,ru⟩:=vt (v:=v) (o:=mA f) (by rw[<- l];exact r f)
 exact zja I.kIn O (c.get f) c.hd n hu (zfh ru) (h u _ (I.tok _) ru)
theorem vq{Q:Value×List Value->Shared->Prop}(I:Inv X pins σ H s)(e:H a=some (.ins C dx fs))(c:Cls X.K C)(k:y6 X.K C m g)(l:fs.lookup m=none)
  (h:Q (.ref g,[.ref a]) s):wpAny (model X.prog X.w) A (getMethod (.ref a) m pl) Q E s:=by
 obtain⟨mA,O,r,_,_,_⟩:=jU I.hok e;have hn:mA m=none:=uA.none_of (by rw[<- l];exact r m)
 exact zhw I.kIn O (c.get m) k.at_ k.fn hn h
theorem j9{Q:Unit->Shared->Prop}(I:Inv X pins σ H s)(e:H a=some (.ins C dx fs))(c:Cls X.K C)(n:yl X.K C f)(hl:fs.length<1000)(ry:z3 y u)
  (h:∀s',Inv X pins σ (upd H a (.ins C dx (zP f y fs))) s'->Q () s'):wpAny (model X.prog X.w) A (setAttr (.ref a) f u) Q E s:=by
 obtain⟨mA,O,r,wi,_,ho⟩:=jU I.hok e;have hz:(fs.map (·.1)).length<=sizeLine:=by rw[aA,sizeLine_eq];omega
 refine zhZ I.kIn O c.sa c.po n.taker c.hd wi hz fun h' O' sb=>h _ ?_;have hd:∃o,h'.get? dx=some o:=let ⟨o,_,_,e',_⟩:=O'.ns;⟨o,e'⟩;refine I.write (x:=a) (e:=dx) (by rw[e];exact True.intro) (.inr ho) (fun b q hb z=>(sb.2 b hb).trans z) hd ?_
 exists by rw[zf O.ne];exact ho,?_,O.ne,O'.obj,_,O'.ns,fun g=>?_,fun g hg=>?_
 ·have:=ju f y fs;omega
 ·show uA ((zP f y fs).lookup g) (if g=f then some u else mA g)
  rw[zj];by_cases q:g=f
  ·rw[aK q,aK q];exact ry
  ·rw[aJ q,aJ q];exact r g
 ·by_cases q:g=f
  ·rw[q];exact(jj f y fs).1
  ·refine(jj f y fs).2 g (wi g fun z=>hg ?_)
   show(if g=f then some u else mA g)=none
   rw[aJ q];exact z
theorem Inv.made(I:Inv X pins σ H s):Inv X pins σ (upd (upd H s.heap.objs.size (.own (s.heap.objs.size+1))) (s.heap.objs.size+1) (.ins C s.heap.objs.size []))
  { s with heap:=(s.heap.push emptyDict).push (instObj C s.heap.objs.size) }:=by
 have e1:(s.heap.push emptyDict).get? s.heap.objs.size=some emptyDict:=zgs s.heap rfl;have e2:((s.heap.push emptyDict).push (instObj C s.heap.objs.size)).get? (s.heap.objs.size+1)=some (instObj C s.heap.objs.size):=by
  have:=zgs (s.heap.push emptyDict) (o:=instObj C s.heap.objs.size) rfl
  rwa [Heap.size_push] at this
 have e3:(s.heap.push emptyDict).Ns s.heap.objs.size (fun _=>none):=⟨emptyDict,#[],_,e1,rfl,(fun e he=>absurd he (by simp)),fun _=>rfl⟩
 have I1:=I.laid (a:=s.heap.objs.size) (o:=.own (s.heap.objs.size+1)) (h':=s.heap.push emptyDict) (t':=s.toks) (fun b u q=>zgp _ q) (aF _) ⟨_,e1⟩;refine I1.laid (a:=s.heap.objs.size+1) (o:=.ins C s.heap.objs.size []) (t':=s.toks) (fun b u q=>zgp _ q) (Nat.le_of_eq (Heap.size_push _ _)) ?_;have ne:s.heap.objs.size≠s.heap.objs.size+1:=ne_of_lt (lt_succ_self _);exists by rw[zf ne,za],zero_le _,ne,e2,fun _=>none,(Heap.Ns1.of_empty e3).at fun o q=>zgp _ q,fun _=>True.intro,fun y hy=>absurd rfl hy
theorem zjo{Q:VSP}(hb:attributeBase e f env (eval e env)=eval e env)
  (h:wpAny (model prog w) A (eval e env) (fun o s₁=>wpAny (model prog w) A (getAttr o f true) Q E s₁) E s):wpAny (model prog w) A (eval (.Attribute e f pos) env) Q E s:=
 Attribute_any_ h (by rw[arm_eval_Attribute,hb])
inductive zlwJ(K:Frag)(f:Str)(Q:VK)(x:V)(H1:Hp):Prop|mk(a C dx fs v:_):x=.ref a->H1 a=some (.ins C dx fs)->Cls K C->yl K C f->fs.lookup f=some v->(Q v H1)->zlwJ K f Q x H1
def zlw(K:Frag)(ta:TE)(f:Str):TE:=fun σ H Q=>ta σ H fun x H1=>zlwJ K f Q x H1
inductive zmQJ(K:Frag)(f:Str)(D:L2.ve)(σ:St)(y:V)(x:V)(H2:Hp):Prop|mk(a C dx fs:_):x=.ref a->H2 a=some (.ins C dx fs)->Cls K C->yl K C f->fs.length<1000->(D.nx σ (upd H2 a (.ins C dx (zP f y fs))))->zmQJ K f D σ y x H2
def zmQ(K:Frag)(ta tv:TE)(f:Str):TS:=fun D σ H=>tv σ H fun y H1=>ta σ H1 fun x H2=>zmQJ K f D σ y x H2
def zmB(X:Cx)(op:Operator)(rd:V->V->Hp->VK->Prop):Prop:=
 ∀(pins:PnL) s (σ:St) H x y u v (Q:VK),Inv X pins σ H s->z3 x u->z3 y v->rd x y H Q->↑X (inplaceOp op u v) (EP X pins σ Q) X.xe s
inductive zifJ(K:Frag)(tv:TE)(rd:V->V->Hp->VK->Prop)(f:Str)(D:L2.ve)(σ:St)(x:V)(H1:Hp):Prop|mk(a C dx fs v:_):x=.ref a->H1 a=some (.ins C dx fs)->Cls K C->yl K C f->fs.lookup f=some v->(tv σ H1 fun y H2=>rd v y H2 fun z H3=>∃dx' fs',H3 a=some (.ins C dx' fs')/\fs'.length<1000/\D.nx σ (upd H3 a (.ins C dx' (zP f z fs'))))->zifJ K tv rd f D σ x H1
def zif(K:Frag)(ta tv:TE)(rd:V->V->Hp->VK->Prop)(f:Str):TS:=fun D σ H=>ta σ H fun x H1=>zifJ K tv rd f D σ x H1
variable {o e value:Expr}{ta tv:TE}
theorem yo(he:PE X e ta)(hb:attributeBase e f X.env (eval e X.env)=eval e X.env):PE X (.Attribute e f pos) (zlw X.K ta f):=by
 and_intros;refine zjo hb (thn (he pins s σ H _ I h) fun u s1 ⟨x,H1,I1,rx,a,C,dx,fs,v,ex,ea,c,n,l,q⟩=>?_);subst ex;obtain rfl:u=Value.ref a:=rx;exact qM I1 ea c n l fun u' s2 I2 ru=>⟨v,H1,I2,ru,q⟩
theorem xl(ha:PE X o ta)(hv:PE X value tv)(hs:swapsWith value (some (.Attribute o f pos')) pos.line X.env=pure false):PS X (.Assign [.Attribute o f pos'] value pos) (zmQ X.K ta tv f):=by
 exists ?_;intro pins s σ H D I h;refine plainObj_wpAny_Assign_Attribute (thn (hv pins s σ H _ I h) fun u s1 ⟨y,H1,I1,ry,q⟩=>thn (ha pins s1 σ H1 _ I1 q) fun ov s2 ⟨x,H2,I2,rx,a,C,dx,fs,ex,ea,c,n,l,q2⟩=>?_) hs;subst ex;obtain rfl:ov=Value.ref a:=rx;exact j9 I2 ea c n l ry fun s3 I3=>⟨σ,_,I3,q2⟩
theorem zeV{rd:V->V->Hp->VK->Prop}(ha:PE X o ta)(hv:PE X value tv)(hop:zmB X op rd):PS X (.AugAssign (.Attribute o f tpos) op value pos) (zif X.K ta tv rd f):=by
 exists ?_;intro pins s σ H D I h;refine wpAny_AugAssign_AttributeAny (thn (ha pins s σ H _ I h) fun ov s1 ⟨x,H1,I1,rx,a,C,dx,fs,v,ex,ea,c,n,l,q⟩=>?_);subst ex;obtain rfl:ov=Value.ref a:=rx;refine qM I1 ea c n l fun u s2 I2 ru=>thn (hv pins s2 σ H1 _ I2 q) fun w3 s3 ⟨y,H2,I3,ry,q3⟩=>thn (hop pins s3 σ H2 v y u w3 _ I3 ru ry q3) fun w4 s4 ⟨z,H3,I4,rz,dx',fs',ea',l',q4⟩=>?_;exact j9 I4 ea' c n l' rz fun s5 I5=>⟨σ,_,I5,q4⟩
def zmZ:V->V->Hp->VK->Prop:=fun x y H Q=>∃i j,x=.int i/\y=.int j/\Q (.int (i+j)) H
theorem zk5:zmB X .Add zmZ:=by
 rintro pins s σ H x y u v Q I rx ry ⟨i,j,rfl,rfl,q⟩;obtain⟨t,rfl⟩:=(show ∃t,u=Value.int i t from rx);obtain⟨t',rfl⟩:=(show ∃t',v=Value.int j t' from ry);exact PyProof.Rows.iadd_int ⟨.int (i+j),H,I.tok _,⟨_,rfl⟩,q⟩
variable {Q:VSP}{b:Bool}
inductive wA(K:Frag)(H:Hp):V->Value->Prop where
 | non:wA K H .non (.type "NoneType")
 | bl (x:Bool):wA K H (.bl x) (.type "bool")
 | int (i:Int):wA K H (.int i) (.type "int")
 | str (x:Str):wA K H (.str x) (.type "str")
 | flt (x:UInt64):wA K H (.flt x) (.type "float")
 | lst {a:Addr}{xs:List V}(e:H a=some (.lst xs)):wA K H (.ref a) (.type "list")
 | frz {a:Addr}{o:Obj}{xs:List V}(e:H a=some (.frz o (.lst xs))):wA K H (.ref a) (.type "list")
 | tup {a:Addr}{xs:List V}(e:H a=some (.tup xs)):wA K H (.ref a) (.type "tuple")
 | dK {a:Addr}{kvs:List (Key×V)}(e:H a=some (.dK kvs)):wA K H (.ref a) (.type "dict")
 | dT {a:Addr}{kvs:List (List Key×V)}(e:H a=some (.dT kvs)):wA K H (.ref a) (.type "dict")
 | ins {a C dx:Addr}{fs:List (Str×V)}(e:H a=some (.ins C dx fs)) (cl:Cls K C) (ha:findIn K (.ref C) "__class__"=some (some (.builtin "object.__class__")))
   (hn:specialIn K (.builtin "object.__class__") "__get__"=some (some (.builtin "getset_descriptor.__get__"))) (htk:PySem.W.takesIn K (.builtin "object.__class__")=some true)
   (hm:mroIn K C (.type "object")=some true):wA K H (.ref a) (.ref C)
theorem zaA(I:Inv X pins σ H s)(rx:z3 x u)(ty:wA X.K H x t)(e:kitOne X.K t c=some b)(h:∀tk,Q (.bool b) { s with toks:=tk }):
  wpAny (model X.prog X.w) A (call (.builtin "isinstance") [u,c]) Q E s:=by
 cases ty with
 | non=>cases (show u=Value.none from rx);exact kia_one PySem.W.kitx_none I.kIn True.intro e (fun z=>nomatch z) h
 | bl y=>cases (show u=Value.bool y from rx);exact kia_one PySem.W.kitx_bool I.kIn True.intro e (fun z=>nomatch z) h
 | int i=>obtain⟨t,q⟩:=(show ∃t,u=Value.int i t from rx);cases q;exact kia_one PySem.W.kitx_int I.kIn True.intro e (fun z=>nomatch z) h
 | str y=>obtain⟨t,q⟩:=(show ∃t,u=Value.str y t from rx);cases q;exact kia_one PySem.W.kitx_str I.kIn True.intro e (fun z=>nomatch z) h
 | flt y=>obtain⟨t,q⟩:=(show ∃t,u=Value.float y t from rx);cases q;exact kia_one PySem.W.kitx_float I.kIn True.intro e (fun z=>nomatch z) h
 | @lst a xs ea=>
  cases (show u=Value.ref a from rx);obtain⟨_,_,n,_,h1⟩:=(show yD X.prog X.w H s.heap a (.lst xs) from I.hok a _ ea);exact kia_one PySem.W.kitx_list I.kIn ⟨_,h1,rfl⟩ e (fun z=>nomatch z) h
 | @frz a ob xs ea=>
  cases (show u=Value.ref a from rx);obtain⟨_,_,_,n,_,h1⟩:=(show yD X.prog X.w H s.heap a (.frz ob (.lst xs)) from I.hok a _ ea);exact kia_one PySem.W.kitx_list I.kIn ⟨_,h1,rfl⟩ e (fun z=>nomatch z) h
 | @tup a xs ea=>
  cases (show u=Value.ref a from rx);obtain⟨_,_,_,p⟩:=(show yD X.prog X.w H s.heap a (.tup xs) from I.hok a _ ea);obtain⟨o,h1,h2,_⟩:=p;exact kia_one PySem.W.kitx_tuple I.kIn ⟨o,h1,h2⟩ e (fun z=>nomatch z) h
 | @dK a kvs ea=>
  cases (show u=Value.ref a from rx);obtain⟨_,_,vs,_,p⟩:=(show yD X.prog X.w H s.heap a (.dK kvs) from I.hok a _ ea);obtain⟨o,es,ep,h1,h2,_⟩:=p;exact kia_one PySem.W.kitx_dict I.kIn ⟨o,h1,h2.1⟩ e (fun z=>nomatch z) h
 | @dT a kvs ea=>
  cases (show u=Value.ref a from rx);obtain⟨_,_,xs,_,o,es,ep,h1,h2,_⟩:=(show yD X.prog X.w H s.heap a (.dT kvs) from I.hok a _ ea);exact kia_one PySem.W.kitx_dict I.kIn ⟨o,h1,h2.1⟩ e (fun z=>nomatch z) h
 | @ins a C dx fs ea cl ha hn htk hm=>
  cases (show u=Value.ref a from rx);obtain⟨mA,O,_⟩:=jU I.hok ea;obtain⟨od,J,_⟩:=O.look;exact kia_one (PySem.W.kitx_own (cl.get _) cl.hd ha hn htk hm) I.kIn J e (fun z=>nomatch z) h
structure yg(k:Nat)(A:Around):Prop where
 hd:A.handled=none
 dp:A.depth+3 * k+5<recursionLimit
 un:A.units+16 * k+200<cLine
 gd:A.guards=some []
theorem yg.mono{j k:Nat}(r:yg k A)(h:j<=k):yg j A:=⟨r.hd,by have:=r.dp;omega,by have:=r.un;omega,r.gd⟩
theorem yg.deeper{k:Nat}(r:yg (k+1) A)(env:Env):yg k (A.deeper env):=
 ⟨r.hd,by have:=r.dp;show A.depth+1+3 * k+5<_;omega,by have:=r.un;show A.units+3+16 * k+200<_;omega,r.gd⟩
theorem zdi:(A.under (.builtin "type.__call__" ⟨.ref C::us,kw⟩)).depth=A.depth+1:=by
 first|rfl|simp [Around.under,Code.weight,Code.isCreation,Code.isGuard,Code.isCaller,Code.frames,Code.isFrame,guardIds]
theorem zdh:(A.under (.builtin "type.__call__" ⟨.ref C::us,kw⟩)).units=A.units+1:=by
 first|rfl|simp [Around.under,Code.cUnits,Code.frames,Code.isFrame]
theorem yg.make{k:Nat}(r:yg (k+1) A)(C:Addr)(us:List Value)(kw:List (Str×Value)):yg k (A.under (.builtin "type.__call__" ⟨.ref C::us,kw⟩)):=
 ⟨r.hd,by have:=r.dp;rw[zdi];omega,by have:=r.un;rw[zdh];omega,r.gd⟩
theorem yg.depth{k:Nat}(r:yg k A):A.depth<recursionLimit:=by have:=r.dp;omega
theorem yg.units{k:Nat}(r:yg k A):A.units+64<cLine:=by have:=r.un;omega
theorem yg.units0{k:Nat}(r:yg k A):A.units<cLine:=by have:=r.un;omega
def zhT:TA:=fun _ H Q=>Q [] H
def zfK(ta:TE)(tr:TA):TA:=fun σ H Q=>ta σ H fun x H1=>tr σ H1 fun xs H2=>Q (x::xs) H2
variable {te:TE}{t:TA}
theorem zb:PA X [] zhT:=⟨fun _ _ _ _ H Q I h=>Calls.spliced_nil ⟨[],H,I,.nil,h⟩⟩
theorem ziv(ha:PE X e te)(hr:PA X es t)(hs:starEach (e::es) X.env=(false,eval e X.env)::starEach es X.env:=by rfl):PA X (e::es) (zfK te t):=by
 exists ?_;intro pos pins s σ H Q I h;rw[hs];show wpAny _ _ (spliced ((false,eval e X.env)::backTo pos (starEach es X.env))) _ _ s;refine Calls.spliced_cons (thn (ha pins s σ H _ I h) fun u s1 ⟨x,H1,I1,r1,q1⟩=>?_);exact thn (hr pos pins s1 σ H1 _ I1 q1) fun us s2 ⟨xs,H2,I2,r2,q2⟩=>⟨x::xs,H2,I2,.cons r1 r2,q2⟩
def zmE(t:TA):TE:=fun σ H Q=>t σ H fun xs H1=>xs.length<=sizeLine/\∀p,H1 p=none->Q (.ref p) (upd H1 p (.tup xs))
def zmI(t:TA):TE:=fun σ H Q=>t σ H fun xs H1=>xs.length<=sizeLine/\∀p,H1 p=none->Q (.ref p) (upd H1 p (.lst xs))
theorem zQ{x1}(h:PA X es t):PE X (.Tuple es x1 pos) (zmE t):=by
 exists ?_;intro pins s σ H Q I hq;refine wpAny_Tuple_spliced (thn (h pos pins s σ H _ I hq) fun us s1 ⟨xs,H1,I1,r,z,q⟩=>⟨by rw[<- r.length];exact z,?_⟩)
 have hf:H1 s1.heap.objs.size=none:=I1.hok.fresh (aF _);exists .ref s1.heap.objs.size,upd H1 s1.heap.objs.size (.tup xs),I1.laid (t':=s1.toks) (fun b u e=>zgp _ e) (aF _) ?_,rfl,q _ hf;exact⟨z,us,r,⟨_,zgs _ rfl,rfl,_,rfl⟩⟩
theorem zZ(h:PA X es t):PE X (.List es pos) (zmI t):=by
 exists ?_;intro pins s σ H Q I hq;refine wpAny_List_spliced (thn (h pos pins s σ H _ I hq) fun us s1 ⟨xs,H1,I1,r,z,q⟩=>⟨by rw[<- r.length];exact z,?_⟩)
 have hf:H1 s1.heap.objs.size=none:=I1.hok.fresh (aF _);exists .ref s1.heap.objs.size,upd H1 s1.heap.objs.size (.lst xs),I1.laid (t':=s1.toks) (fun b u e=>zgp _ e) (aF _) ?_,rfl,q _ hf;exact⟨z,us,0,r,zgs _ rfl⟩
abbrev Sp:=List V->Hp->VK->XK->Prop
abbrev CXT:=List Env->Hp->Shared->XK->Value->Shared->Prop
structure zdJ(P:Program)(w:World)(K:Frag)(mg:Str->Option Value)(base:Heap)(A:Around)(outer:List Env)(s:Shared)(H:Hp):Prop where
 frames:A.frames=some outer
 mod:Mod K mg base
 bs:∀b o,base.get? b=some o->s.heap.get? b=some o/\H b=none
 bsz:base.objs.size<=s.heap.objs.size
 funs:s.heap.FunFrames base outer
 frf:∀b∈frs outer,H b=none
 hok:HOk P w H s.heap
 bare:AllBare s.gens
def CE(outer:List Env)(P:Program)(w:World)(H:Hp)(s:Shared)(Q:VK)(u:Value)(s':Shared):Prop:=
 ∃v H',s'.os=s.os/\AllBare s'.gens/\Un (frs outer) [] H H' s.heap s'.heap/\HOk P w H' s'.heap/\z3 v u/\Q v H'
def CR(CX:CXT)(outer:List Env)(P:Program)(w:World)(H:Hp)(s:Shared)(Q:VK)(E:XK)(r:Result)(s':Shared):Prop:=
 match r with
 | .ok (.ret u)=>CE outer P w H s Q u s'
 | .ok _=>False
 | .error e=>CX outer H s E e s'
structure zA(P:Program)(w:World)(K:Frag)(mg:Str->Option Value)(base:Heap)(CX:CXT)(k:Nat)(f:Addr)(fd:FuncData)(ps:List Str)(sp:Sp):Prop where
 len:∀vs H Q E,sp vs H Q E->vs.length=ps.length
 run:∀(A:Around) (outer:List Env) (s:Shared) (H:Hp) (args:Args) (us:List Value) (vs:List V) (Q:VK) (E:XK),yg k A->zdJ P w K mg base A outer s H->BindsTo s fd args (ps.zip us)->zX vs us->sp vs H Q E->
  codeAny (model P w) A (.call (.ref f) args) (CR CX outer P w H s Q E) s
theorem zdJ.make{P:Program}{w:World}{K:Frag}{mg:Str->Option Value}{base:Heap}{A:Around}{outer:List Env}{s:Shared}{H:Hp}(e:zdJ P w K mg base A outer s H)(C:Addr)(us:List Value)(kw:List (Str×Value)):
  zdJ P w K mg base (A.under (.builtin "type.__call__" ⟨.ref C::us,kw⟩)) outer s H:=⟨by first|exact e.frames|(simpa [Around.under,Code.envs,Code.isFrame,pushEnvs] using e.frames),e.mod,e.bs,e.bsz,e.funs,e.frf,e.hok,e.bare⟩
theorem Inv.env0(I:Inv X pins σ H s):zdJ X.prog X.w X.K X.mg X.base X.A X.stack s H:=
 ⟨I.ok.frames,I.ok.mod,I.bs,le_trans I.ok.bsz I.sz,I.stack,I.stkFree,I.hok,I.bare⟩
theorem Inv.after{Q:VK}(I:Inv X pins σ H s)(h:CE X.stack X.prog X.w H s Q u s'):EP X pins σ Q u s':=by
 obtain⟨v,H',os,bare,un,hok,r,q⟩:=h;obtain⟨hh,g,d,t,os'⟩:=s';obtain rfl:os'=s.os:=os;exact⟨v,H',I.call (h':=hh) (g':=g) (d':=d) (t':=t) (ch:=[]) un hok bare (fun b z=>absurd z (by simp)),r,q⟩
def zdQ(sp:Sp)(dvs:List V)(E:XK)(t:TA):TE:=fun σ H Q=>t σ H fun vs H1=>sp (vs++dvs) H1 Q E
inductive zfHJ(C:Addr)(m:Str)(sp:Sp)(dvs:List V)(E:XK)(t:TA)(σ:St)(Q:VK)(x:V)(H1:Hp):Prop|mk(a dx fs:_):x=.ref a->H1 a=some (.ins C dx fs)->fs.lookup m=none->(t σ H1 fun vs H2=>sp (x::(vs++dvs)) H2 Q E)->zfHJ C m sp dvs E t σ Q x H1
def zfH(C:Addr)(m:Str)(sp:Sp)(dvs:List V)(E:XK)(ta:TE)(t:TA):TE:=fun σ H Q=>ta σ H fun x H1=>zfHJ C m sp dvs E t σ Q x H1
def zjw(C:Addr)(sp:Sp)(dvs:List V)(E:XK)(t:TA):TE:=fun σ H Q=>t σ H fun vs H1=>∀x dx,H1 x=none->H1 dx=none->dx≠x->
 sp (.ref x::(vs++dvs)) (upd (upd H1 dx (.own x)) x (.ins C dx [])) (fun v H2=>v=.non/\Q (.ref x) H2) E
def zM(K:Frag)(fd:FuncData)(ps:List Str)(ds:List Value):Prop:=
 ∀s us,K.In s.heap->(us++ds).length=ps.length->BindsTo s fd ⟨us,[]⟩ (ps.zip (us++ds))
theorem zM.all{K:Frag}{fd:FuncData}{ps:List Str}(h:∀us:List Value,us.length=ps.length->bindArgs fd ⟨us,[]⟩=pure (ps.zip us)):zM K fd ps []:=fun s us _ hl=>by
 rw[append_nil] at hl |-;exact .of_eq (h us hl)
def xO(CX:CXT)(X:Cx)(E:XK):Prop:=∀(pins:PnL) (σ:St) H s e s',Inv X pins σ H s->CX X.stack H s E e s'->X.xe e s'
end
section
variable {CX:CXT}{k:Nat}{f C:Addr}{sp:Sp}{x m:Str}{ta:TE}{t:TA}
theorem qm{Q:VK}(F:zA X.prog X.w X.K X.mg X.base CX k f fd ps sp)(hr:yg k X.A)(hb:zM X.K fd ps ds)(hd:zX dvs ds)(hx:xO CX X E)
  (I:Inv X pins σ H s) (r:zX vs us) (h:sp (vs++dvs) H Q E):↑X (call (.ref f) us) (EP X pins σ Q) X.xe s:=by
 have r2:zX (vs++dvs) (us++ds):=r.append hd;have hl:(us++ds).length=ps.length:=by rw[<- r2.length];exact F.len _ _ _ _ h
 refine wpAny_call (codeAny_mono (F.run X.A X.stack s H ⟨us,[]⟩ (us++ds) (vs++dvs) Q E hr I.env0 (hb s us I.kIn hl) r2 h) fun r s' hq=>?_);cases r with
 | error e=>exact hx pins σ H s e s' I hq
 | ok fl=>
  cases fl with
  | ret u=>exact I.after hq
  | next=>exact False.elim hq
  | brk=>exact False.elim hq
  | cont=>exact False.elim hq
theorem zeg(F:zA X.prog X.w X.K X.mg X.base CX k f fd ps sp)(hr:yg k X.A)(hg:Gl X x)(hm:X.mg x= ~~~f)(hk:keepIn X.K (.ref f)=true)(hb:zM X.K fd ps ds)(hd:zX dvs ds)(hx:xO CX X E)
  (ha:PA X (e::es) t) (hdb:(x==("__debug__" : Str))=false:=by decide) (he:starEach (e::es) X.env=(false,eval e X.env)::starEach es X.env:=by rfl) (hpl:(backTo pos (starEach es X.env)).any (·.1)=false:=by rfl) :
  PE X (.Call (.Name x p) (e::es) [] pos) (zdQ sp dvs E t):=by
 and_intros;refine wpAny_Call_Name_kw (wE I hg hm ?_ hdb);refine callWith_K (h₀:=X.base) I.ok.mod.kin hk (thn (ha pos pins s σ H _ I h) fun us s1 ⟨vs,H1,I1,r,q⟩=>⟨I1.kIn,?_⟩) he hpl;exact qm F hr hb hd hx I1 r q
theorem jP(he:PE X o ta)(c:Cls X.K C)(hm:y6 X.K C m f)(F:zA X.prog X.w X.K X.mg X.base CX k f fd ps sp)(hr:yg k X.A)(hb:zM X.K fd ps ds)(hd:zX dvs ds)(hx:xO CX X E)(ha:PA X (e::es) t)
  (hst:starEach (e::es) X.env=(false,eval e X.env)::starEach es X.env:=by rfl) (hpl:(backTo pos (starEach es X.env)).any (·.1)=false:=by rfl)
  (ht:eval (.Call (.Attribute o m apos) (e::es) [] pos) X.env=(do
   let ov <- eval o X.env
   standAt apos.atName
   let (f,first) <- holding [ov] (getMethod ov m pl)
   callWith pos f first (backTo pos (starEach (e::es) X.env)) (backToKw pos (keywordEach [] X.env))):=by rfl) :
  PE X (.Call (.Attribute o m apos) (e::es) [] pos) (zfH C m sp dvs E ta t):=by
 and_intros;refine methodCall_KW (pl:=pl) (thn (he pins s σ H _ I h) fun u s1 ⟨x,H1,I1,rx,a,dx,fs,ex,ea,l,q⟩=>?_) ht;subst ex;obtain rfl:u=Value.ref a:=rx;refine vq I1 ea c hm l ?_;refine callWith_K (first:=[.ref a]) (h₀:=X.base) I.ok.mod.kin hm.kp (thn (ha pos pins s1 σ H1 _ I1 q) fun us s2 ⟨vs,H2,I2,r,q2⟩=>⟨I2.kIn,?_⟩) hst hpl
 exact qm (us:=.ref a::us) (vs:=.ref a::vs) F hr hb hd hx I2 (.cons rfl r) q2
theorem yk(he:PE X o ta)(c:Cls X.K C)(hm:y6 X.K C m f)(F:zA X.prog X.w X.K X.mg X.base CX k f fd ps sp)(hr:yg k X.A)(hb:zM X.K fd ps ds)(hd:zX dvs ds)(hx:xO CX X E)
  (ht:eval (.Call (.Attribute o m apos) [] [] pos) X.env=(do
   let ov <- eval o X.env
   standAt apos.atName
   let (f,first) <- holding [ov] (getMethod ov m pl)
   callWith pos f first (backTo pos (starEach [] X.env)) (backToKw pos (keywordEach [] X.env))):=by rfl) :
  PE X (.Call (.Attribute o m apos) [] [] pos) (zfH C m sp dvs E ta zhT):=by
 and_intros;refine methodCall_KW (pl:=pl) (thn (he pins s σ H _ I h) fun u s1 ⟨x,H1,I1,rx,a,dx,fs,ex,ea,l,q⟩=>?_) ht;subst ex;obtain rfl:u=Value.ref a:=rx;refine vq I1 ea c hm l ?_;exact callWith_K0 (first:=[.ref a]) I1.kIn hm.kp (qm (us:=[.ref a]) (vs:=[.ref a]) F hr hb hd hx I1 (.cons rfl .nil) q)
structure Mk(K:Frag)(C f:Addr):Prop where
 makes:makesIn K C=true
 init:findIn K (.ref C) "__init__"=some (~~~f)
 fn:isFn K (.ref f)=true
 kp:keepIn K (.ref C)=true
theorem zgq{Q:VK}(M:Mk X.K C f)(F:zA X.prog X.w X.K X.mg X.base CX k f fd ps sp)(hr:yg (k+1) X.A)(hb:zM X.K fd ps ds)(hd:zX dvs ds)
  (hx:xO CX X E) (I:Inv X pins σ H s) (r:zX vs us)
  (h:∀x dx,H x=none->H dx=none->dx≠x->sp (.ref x::(vs++dvs)) (upd (upd H dx (.own x)) x (.ins C dx [])) (fun v H2=>v=.non/\Q (.ref x) H2) E) :
  ↑X (call (.ref C) us) (EP X pins σ Q) X.xe s:=by
 have hq:=h (s.heap.objs.size+1) s.heap.objs.size (I.hok.fresh (le_succ _)) (I.hok.fresh (aF _)) (ne_of_lt (lt_succ_self _));have I2:=Inv.made (C:=C) I;have r2:zX (V.ref (s.heap.objs.size+1)::(vs++dvs)) (Value.ref (s.heap.objs.size+1)::(us++ds)):=.cons rfl (r.append hd);have hl:(Value.ref (s.heap.objs.size+1)::us++ds).length=ps.length:=by
  have e:=r2.length;rw[F.len _ _ _ _ hq] at e;exact e.symm
 refine wpAny_call (zhg (f:=f) I.kIn M.makes M.init (beq_iff_eq.mp M.fn) (codeAny_mono (F.run _ X.stack _ _ ⟨Value.ref (s.heap.objs.size+1)::us,[]⟩ (Value.ref (s.heap.objs.size+1)::(us++ds)) _ _ E (hr.make C us [])
  (I2.env0.make C us []) (hb _ (Value.ref (s.heap.objs.size+1)::us) I2.kIn hl) r2 hq) fun r s' hq'=>?_))
 cases r with
 | error e=>exact hx pins σ _ _ e s' I2 hq'
 | ok fl=>
  cases fl with
  | ret u=>
   obtain⟨v,H',I3,rv,ev,q3⟩:=I2.after hq';subst ev;exact⟨rv,⟨V.ref (s.heap.objs.size+1),H',I3,rfl,q3⟩⟩
  | next=>exact False.elim hq'
  | brk=>exact False.elim hq'
  | cont=>exact False.elim hq'
theorem zbo(M:Mk X.K C f)(F:zA X.prog X.w X.K X.mg X.base CX k f fd ps sp)(hr:yg (k+1) X.A)(hg:Gl X x)(hm:X.mg x= ~~~C)(hb:zM X.K fd ps ds)(hd:zX dvs ds)(hx:xO CX X E)
  (ha:PA X (e::es) t) (hdb:(x==("__debug__" : Str))=false:=by decide) (he:starEach (e::es) X.env=(false,eval e X.env)::starEach es X.env:=by rfl) (hpl:(backTo pos (starEach es X.env)).any (·.1)=false:=by rfl) :
  PE X (.Call (.Name x p) (e::es) [] pos) (zjw C sp dvs E t):=by
 and_intros;refine wpAny_Call_Name_kw (wE I hg hm ?_ hdb);refine callWith_K (h₀:=X.base) I.ok.mod.kin M.kp (thn (ha pos pins s σ H _ I h) fun us s1 ⟨vs,H1,I1,r,q⟩=>⟨I1.kIn,?_⟩) he hpl;exact zgq M F hr hb hd hx I1 r q
variable {te:TE}{tk:TA}
variable {g:List Value->List Value->List Value}{gV:List V->List V->List V}
structure zp(N P:List Str)(sc:Scope):Prop where
 kind:sc.kind=.function
 co:sc.isCoroutine=false
 gen:sc.isGenerator=false
 nd:N.Nodup
 pre:N.take P.length=P
 par:∀x∈P,sc.names.lookup x=some .local\/sc.names.lookup x=some .cell
 nofree:∀y∈sc.names,y.2≠.free
theorem fsc(a:sc.kind=.function:=by rfl)(b:sc.isCoroutine=false:=by rfl)(c:sc.isGenerator=false:=by rfl)(d:N.Nodup:=by decide +kernel)(e:N.take P.length=P:=by rfl)(f:∀x∈P,sc.names.lookup x=some .local\/sc.names.lookup x=some .cell:=by decide +kernel)(g:∀y∈sc.names,y.2≠.free:=by decide +kernel):zp N P sc:=⟨a,b,c,d,e,f,g⟩
theorem zaL{kindOf:Str->Option NameKind}{x:Str}:∀{binds:List (Str×Value)}{m:Str->Option Value},(∀v,(x,v)∉binds)->bindL kindOf binds m x=m x
 | [],_,_=>rfl
 | (n,v)::r,m,h=>by
  unfold bindL;rw[zaL fun w hw=>h w (mem_cons_of_mem _ hw)];split
  ·have:x≠n:=by rintro rfl;exact h v mem_cons_self
   simp [this]
  ·rfl
theorem zaN{kindOf:Str->Option NameKind}{x:Str}:∀{binds:List (Str×Value)}{m:Str->Option Value},(∀v,(x,v)∉binds)->bindC kindOf binds m x=m x
 | [],_,_=>rfl
 | (n,v)::r,m,h=>by
  unfold bindC;rw[zaN fun w hw=>h w (mem_cons_of_mem _ hw)];split
  ·rfl
  ·have:x≠n:=by rintro rfl;exact h v mem_cons_self
   simp [this]
theorem zaM{kindOf:Str->Option NameKind}{x:Str}{v:Value}:∀{P:List Str}{vs:List Value}{i:Nat}{m:Str->Option Value},P.Nodup->P[i]?=some x->vs[i]?=some v->kindOf x=some .local->
  bindL kindOf (P.zip vs) m x=some v
 | [],_,_,_,_,h,_,_=>by simp at h
 | _::_,[],_,_,_,_,h,_=>by simp at h
 | p::P,w::vs,0,m,nd,h1,h2,hk=>by
  simp at h1 h2;subst h1;subst h2;show bindL kindOf ((p,w)::P.zip vs) m p=_;unfold bindL;rw[zaL fun v hv=>(List.nodup_cons.mp nd).1 (of_mem_zip hv).1,aK hk];simp
 | p::P,w::vs,i+1,m,nd,h1,h2,hk=>by
  show bindL kindOf ((p,w)::P.zip vs) m x=_;unfold bindL;exact zaM (i:=i) (List.nodup_cons.mp nd).2 (by simpa using h1) (by simpa using h2) hk
theorem zaO{kindOf:Str->Option NameKind}{x:Str}{v:Value}:∀{P:List Str}{vs:List Value}{i:Nat}{m:Str->Option Value},P.Nodup->P[i]?=some x->vs[i]?=some v->kindOf x≠some .local->
  bindC kindOf (P.zip vs) m x=some v
 | [],_,_,_,_,h,_,_=>by simp at h
 | _::_,[],_,_,_,_,h,_=>by simp at h
 | p::P,w::vs,0,m,nd,h1,h2,hk=>by
  simp at h1 h2;subst h1;subst h2;show bindC kindOf ((p,w)::P.zip vs) m p=_;unfold bindC;rw[zaN fun v hv=>(List.nodup_cons.mp nd).1 (of_mem_zip hv).1,aJ hk];simp
 | p::P,w::vs,i+1,m,nd,h1,h2,hk=>by
  show bindC kindOf ((p,w)::P.zip vs) m x=_;unfold bindC;exact zaO (i:=i) (List.nodup_cons.mp nd).2 (by simpa using h1) (by simpa using h2) hk
def ul(N:List Str)(vs:List V):St:=vs.map some++List.replicate (N.length - vs.length) none
def zaa(CX:CXT)(P:Program)(w:World)(K:Frag)(mg:Str->Option Value)(base:Heap)(N:List Str)(qual:Str)(scope:Scope)(f:Addr)(cd:Value)(A:Around)(outer:List Env)(s:Shared)(H:Hp)(E:XK):Cx where
 prog:=P
 w:=w
 K:=K
 mg:=mg
 base:=base
 A:=A.deeper (envOfC qual scope s.heap.objs.size f cd)
 N:=N
 s₀:=s
 H₀:=H
 env:=envOfC qual scope s.heap.objs.size f cd
 outer:=outer
 stack:=envOfC qual scope s.heap.objs.size f cd::outer
 ex:=[]
 calm:=true
 fn:=fun _=>true
 pn:=[]
 xe:=fun e s'=>wpAny (model P w) (A.deeper (envOfC qual scope s.heap.objs.size f cd)) (leaving (envOfC qual scope s.heap.objs.size f cd) e) (fun _ s''=>CX outer H s E e s'') (fun e' s''=>CX outer H s E e' s'') s'
theorem zcn{sc:Scope}{n:Nat}{x:Str}(h:sc.names.lookup x=some .cell):∃c,(cellsFrom n sc.names []).lookup x=some c:=by
 have q:=PySem.W.cellsFrom_some sc.names n [] (.inl h);exact Option.isSome_iff_exists.mp q
theorem zff{CX:CXT}{P:Program}{w:World}{K:Frag}{mg:Str->Option Value}{base:Heap}{N ps:List Str}{qual:Str}{scope:Scope}{f:Addr}{cd:Value}{A:Around}{outer:List Env}{s s1:Shared}{H:Hp}{E:XK}{us:List Value}{vs:List V}
  (S:zp N ps scope) (hd:A.handled=none) (e0:zdJ P w K mg base A outer s H) (hl:vs.length=ps.length) (r:zX vs us)
  (x:InCallC s s.heap.objs.size (bindL (envOfC qual scope s.heap.objs.size f cd).kindOf (ps.zip us) fun _=>none) (cellsFrom (s.heap.objs.size+1) scope.names []) (bindC (envOfC qual scope s.heap.objs.size f cd).kindOf (ps.zip us) fun _=>none) s1) :
  Inv (zaa CX P w K mg base N qual scope f cd A outer s H E) [] (ul N vs) H s1:=by
 have hpl:ps.length<=N.length:=by have:=congrArg List.length S.pre;rw[length_take] at this;omega
 obtain⟨h1,tk,rfl,hk⟩:=x.done;have noA:∀b:Addr,b∉(zaa CX P w K mg base N qual scope f cd A outer s H E).ex:=fun b z=>absurd (show b∈([]:List Addr) from z) (by simp)
 refine⟨⟨e0.mod,S.kind,rfl,rfl,aF _,fun y z c h1 h2=>?_,fun y hy=>?_,fun y c _ h=>?_,fun _=>hd,Around.frames_deeper e0.frames,.inr ⟨rfl,rfl⟩,fun b z=>absurd z (noA b),e0.bs,e0.bsz,fun b _ _=>noA b,fun b z=>absurd z (noA b),e0.funs,e0.frf⟩,
  rfl,e0.bare,Un.kept hk,⟨_,x.toInCall.ns,fun i y v h1 h2 h3=>?_⟩,fun y c h=>⟨_,x.cell y c h⟩,e0.hok.fresh (aF _),fun y c h=>?_,fun p hp=>absurd (show p∈([]:PnL) from hp) (by simp),e0.hok.kept hk,?_⟩
 ·exact name_of_addr x.apart (PySem.mem_of_lookup h1) (PySem.mem_of_lookup h2)
 ·have hy:scope.names.lookup y=some .cell\/scope.names.lookup y=some .free:=hy
  rcases hy with hy|hy
  ·exact zcn hy
  ·exact absurd rfl (S.nofree _ (PySem.mem_of_lookup hy))
 ·exact le_of_lt (x.above y c (PySem.mem_of_lookup h))
 ·have hi:i<vs.length:=by
   unfold ul at h2;by_cases hi:i<vs.length
   ·exact hi
   ·rw[getElem?_append_right (by simpa using hi)] at h2
    rw[List.getElem?_replicate] at h2;split at h2 <;> cases h2
  have ha:vs[i]?=some v:=by
   unfold ul at h2;rw[getElem?_append_left (by simpa using hi),getElem?_map] at h2
   cases e:vs[i]? with
   | none=>rw[e] at h2;cases h2
   | some a=>rw[e] at h2;cases h2;rfl
  obtain⟨u,hu,rv⟩:=r.get ha;have hp:ps[i]?=some y:=by
   rw[<- S.pre,List.getElem?_take_of_lt ∅];exact h1
  have ndP:ps.Nodup:=by rw[<- S.pre];exact S.nd.sublist (List.take_sublist _ _)
  exists u,rv,?_;rcases S.par y (aH hp) with k|k
  ·exact .inl ⟨k,zaM ndP hp hu k⟩
  ·obtain⟨c,e⟩:=zcn (n:=s.heap.objs.size+1) k
   refine .inr ⟨.inl k,c,e,?_⟩;have q:=x.cell y c e;rw[zaO ndP hp hu (by show scope.names.lookup y≠_;rw[k];decide)] at q
   exact q
 ·exact e0.hok.fresh (le_of_lt (x.above y c (PySem.mem_of_lookup h)))
 ·unfold ul
  show _=N.length;rw[aG,aA,List.length_replicate];omega
theorem zhB{CX:CXT}{P:Program}{w:World}{K:Frag}{mg:Str->Option Value}{base:Heap}{k:Nat}{f:Addr}{name qual:Str}{params:Arguments}{body:List Stmt}{scope:Scope}{dV kV doc pm cdv ct oc:Value}{an od:Option Addr}
  {osl:Array (Option Value)}{N ps:List Str}{sp:Sp}(lk:K.lookup f=some ⟨oc,od,.func (fnOf name qual params body scope dV kV doc pm an cdv ct),osl⟩) (hcd:codeIn K cdv qual=true) (S:zp N ps scope)
  (len:∀vs H Q E,sp vs H Q E->vs.length=ps.length)
  (hbody:∀(A:Around) (outer:List Env) (s:Shared) (H:Hp) (vs:List V) (Q:VK) (E:XK),yg k (A.deeper (envOfC qual scope s.heap.objs.size f cdv))->sp vs H Q E->
   ∃t,PSs (zaa CX P w K mg base N qual scope f cdv A outer s H E) body t/\t { nx:=fun _ H'=>Q .non H',rt:=Q } (ul N vs) H) :
  zA P w K mg base CX (k+1) f (fnOf name qual params body scope dV kV doc pm an cdv ct) ps sp:=by
 exists len,fun A outer s H args us vs Q E hr e0 hb r hsp=>?_;have hl:=len _ _ _ _ hsp;have KX:K.In s.heap:=e0.mod.kin.keeps fun b o e=>(e0.bs b o e).1;have lim:s.heap.NoLimit:=e0.mod.nolimit.keeps fun b o e=>(e0.bs b o e).1;have hkind:∀y∈ps.zip us,scope.names.lookup y.1=some .local\/(scope.names.lookup y.1=some .cell/\((cellsFrom (s.heap.objs.size+1) scope.names []).lookup y.1).isSome=true):=fun⟨n,v⟩ hy=>by
  rcases S.par n (of_mem_zip hy).1 with q|q
  ·exact .inl q
  ·exact .inr ⟨q,PySem.W.cellsFrom_some _ _ _ (.inl q)⟩
 refine codeAny_call_function hr.depth (KX _ _ lk) rfl S.co S.gen rfl (PySem.W.codeRec_of KX hcd) (hb _ _ _ _ ?_);refine wpAny_newFunctionEnv_cells S.kind hkind fun env he s1 x=>?_;subst he;exists lim.keeps x.toInCall.keep,codeAny_func ?_;obtain⟨t,ht,hq⟩:=hbody A outer s H vs Q E (hr.deeper _) hsp;have I:Inv (zaa CX P w K mg base N qual scope f cdv A outer s H E) [] (ul N vs) H s1:=zff S hr.hd e0 hl r x;refine wpAny_mono (ht [] s1 (ul N vs) H _ I hq) (fun fl s' hs=>?_) fun e s' hs=>hs;have fin:∀{σ':St}{H':Hp}{v:V}{u:Value},Inv (zaa CX P w K mg base N qual scope f cdv A outer s H E) [] σ' H' s'->z3 v u->Q v H'->CE outer P w H s Q u s':=
  fun {σ' H' v u} J rv q=>⟨v,H',J.os,J.bare,J.base,J.hok,rv,q⟩
 cases fl with
 | ret u=>
  obtain⟨v,σ',H',J,rv,q⟩:=hs;exact fin J rv q
 | next=>
  obtain⟨σ',H',J,q⟩:=hs;exact fin (v:=V.non) (u:=Value.none) J rfl q
 | brk=>
  obtain⟨_,_,_,q⟩:=hs;exact False.elim q
 | cont=>
  obtain⟨_,_,_,q⟩:=hs;exact False.elim q
variable {r:List V->Hp->VK->Prop}
def tCB(r:List V->Hp->VK->Prop)(t:TA):TE:=fun σ H Q=>t σ H fun vs H1=>r vs H1 Q
theorem zgA{X:Cx}{p pos:Pos}{e:Expr}{es:List Expr}{id:String}(hc:xQ X (.builtin id) r)(hg:Gl X x)(hm:X.mg x=none)(hv:bootBuiltins x=some (.builtin id))(ha:PA X (e::es) t)(hn:x≠"__name__":=by decide)(hdb:(x==("__debug__" : Str))=false:=by decide)
  (he:starEach (e::es) X.env=(false,eval e X.env)::starEach es X.env:=by rfl) (hpl:(backTo pos (starEach es X.env)).any (·.1)=false:=by rfl):PE X (.Call (.Name x p) (e::es) [] pos) (tCB r t):=by
 and_intros;refine wpAny_Call_Name_kw (vK I hg hm hv ?_ hn hdb);exact PyProof.Rows.callWith_builtin1 (thn (ha pos pins s σ H _ I h) fun us s1 ⟨vs,H1,I1,r1,q1⟩=>hc pins s1 σ H1 vs us Q I1 r1 q1) he hpl
theorem zeY(hc:xQ X (.type T) r)(hg:Gl X x)(hm:X.mg x=none)(hv:bootBuiltins x=some (.type T))(ha:PA X (e::es) t)(hn:x≠"__name__":=by decide)(hdb:(x==("__debug__" : Str))=false:=by decide)
  (he:starEach (e::es) X.env=(false,eval e X.env)::starEach es X.env:=by rfl) (hpl:(backTo pos (starEach es X.env)).any (·.1)=false:=by rfl):PE X (.Call (.Name x p) (e::es) [] pos) (tCB r t):=by
 and_intros;refine wpAny_Call_Name_kw (vK I hg hm hv ?_ hn hdb);exact PyProof.Rows.callWith_type1 (thn (ha pos pins s σ H _ I h) fun us s1 ⟨vs,H1,I1,r1,q1⟩=>hc pins s1 σ H1 vs us Q I1 r1 q1) he hpl
theorem zc9(hc:xQ X (.type T) r)(hg:Gl X x)(hm:X.mg x=none)(hv:bootBuiltins x=some (.type T))(hn:x≠"__name__":=by decide)(hdb:(x==("__debug__" : Str))=false:=by decide):
  PE X (.Call (.Name x p) [] [] pos) (tCB r zhT):=by
 and_intros;refine wpAny_Call_Name_kw (vK I hg hm hv ?_ hn hdb);exact PyProof.Rows.callWith_type0 (hc pins s σ H [] [] Q I .nil h)
end
end L2
namespace HT
open PySem PyProof.Rows
section
open PySem.SeqAt
open PySem.AutoSeq1 (wpAny_loadPart')
open PySem.MeetsSeq PySem.MeetsSeq2 PySem.MeetsSeq3
end
section
def sIx(n d:Nat):Option Int->Nat
 | none=>d
 | some v=>if v<0 then (v+(n:Int)).toNat else min v.toNat n
theorem zlR(n d:Nat):sIx n d none=d:=rfl
theorem zmD(n d k:Nat):sIx n d (some (k:Int))=min k n:=by
 show(if (k:Int)<0 then ((k:Int)+(n:Int)).toNat else min (k:Int).toNat n)=min k n
 rw[L2.aJ ∅,toNat_natCast]
end
end HT
namespace L2
open PySem PySem.Spec PyProof.Rows
abbrev TO:=St->Hp->(Option Int->Hp->Prop)->Prop
structure PO(X:Cx)(e:Option Expr)(t:TO):Prop where
 run:∀(pins:PnL) (s:Shared) (σ : St) (H:Hp) (Q:Option Int->Hp->Prop),Inv X pins σ H s->t σ H Q->
  ↑X (evalPart e X.env) (fun u s'=>∃o H',Inv X pins σ H' s'/\IsPart u o/\Q o H') X.xe s
instance {X:Cx}{e:Option Expr}{t:TO}:CoeFun (PO X e t) (fun _=>∀(pins:PnL) (s:Shared) (σ : St) (H:Hp) (Q:Option Int->Hp->Prop),Inv X pins σ H s->t σ H Q->
  ↑X (evalPart e X.env) (fun u s'=>∃o H',Inv X pins σ H' s'/\IsPart u o/\Q o H') X.xe s):=⟨PO.run⟩
def zhS:TO:=fun _ H Q=>Q none H
def zlu(t:TE):TO:=fun σ H Q=>t σ H fun x H1=>∃i,x=.int i/\Q (some i) H1
section
variable {te:TE}{lo hi:Option Expr}{tl th:TO}
theorem zee:PO X none zhS:=by
 and_intros;rw[evalPart_none];exact zwp ⟨none,H,I,.none,h⟩
theorem xZ(h:PE X e te):PO X (some e) (zlu te):=by
 exists ?_;intro pins s σ H Q I hw;rw[evalPart_some];refine thn (h pins s σ H _ I hw) fun u s1 ⟨x,H1,I1,r1,q1⟩=>?_;obtain⟨i,rfl,q⟩:=q1;obtain⟨t,rfl⟩:=r1;exact⟨some i,H1,I1,.int i t,q⟩
def SlR(X:Cx)(r:V->Option Int->Option Int->Hp->VK->Prop):Prop:=
 ∀(pins:PnL) s (σ:St) H x v vl vu (lo hi:Option Int) sl (Q:VK),Inv X pins σ H s->z3 x v->s.heap.IsSliceOf sl vl vu .none->IsPart vl lo->IsPart vu hi->r x lo hi H Q->
  ∃T id,typeLookup (.type T) "__getitem__"=pure (some (.builtin id))/\s.TypeIs v T/\↑X (getItem v (.ref sl)) (EP X pins σ Q) X.xe s
def tSl(r:V->Option Int->Option Int->Hp->VK->Prop)(te:TE)(tl th:TO):TE:=fun σ H Q=>te σ H fun x H1=>tl σ H1 fun l H2=>th σ H2 fun u H3=>r x l u H3 Q
theorem wX{r:V->Option Int->Option Int->Hp->VK->Prop}(hr:SlR X r)(he:PE X e te)(hl:PO X lo tl)(hu:PO X hi th):PE X (.Subscript e (.Slice lo hi none p2) pos) (tSl r te tl th):=by
 and_intros;refine Subscript_ (thn (he pins s σ H _ I h) fun v s1 ⟨x,H1,I1,r1,q1⟩=>?_);refine wpAny_Slice (thn (hl pins s1 σ H1 _ I1 q1) fun vl s2 ⟨l,H2,I2,pl,q2⟩=>thn (hu pins s2 σ H2 _ I2 q2) fun vu s3 ⟨u,H3,I3,pu,q3⟩=>?_);rw[evalPart_none];refine zwp ?_;have I4:Inv X pins σ H3 { s3 with heap:=s3.heap.push { cls:=.type "slice",data:=.fields #[vl,vu,.none] } }:=I3.kept (t':=s3.toks) fun b ob q=>zgp _ q
 obtain⟨T,id,hT,ht,hg⟩:=hr pins { s3 with heap:=s3.heap.push { cls:=.type "slice",data:=.fields #[vl,vu,.none] } } σ H3 x v vl vu l u s3.heap.objs.size Q I4 r1 (Heap.IsSliceOf.new ..) pl pu q3
 show ↑X (subscriptTail e (.Slice lo hi none p2) v (.ref s3.heap.objs.size)) (EP X pins σ Q) X.xe { s3 with heap:=s3.heap.push { cls:=.type "slice",data:=.fields #[vl,vu,.none] } }
 exact tail_any (ops:=[.ref s3.heap.objs.size,v]) ht hT hg (by with_unfolding_all rfl)
def jI(xs:List V)(lo hi:Option Int):List V:=(xs.drop (HT.sIx xs.length 0 lo)).take (HT.sIx xs.length xs.length hi - HT.sIx xs.length 0 lo)
theorem zcj(xs:List V)(lo hi:Option Int):(jI xs lo hi).length<=xs.length:=by
 unfold jI;rw[length_take,length_drop];omega
def ixN(n:Nat)(i:Int):Option Nat:=if 0<=i then (if i<n then some i.toNat else none) else if -(n:Int)<=i then some (i+n).toNat else none
def atI{α : Type}(xs:List α)(i:Int):Option α:=(ixN xs.length i).bind fun j=>xs[j]?
theorem zi7{n:Nat}{i:Int}{j:Nat}(h:ixN n i=some j):seqIndex? i n=some j/\j<n/\-(n:Int)<=i/\i<n:=by
 unfold ixN at h;by_cases h0 : 0<=i
 ·rw[aK h0] at h
  by_cases h1:i<n
  ·rw[aK h1] at h
   have e:i.toNat=j:=Option.some.inj h;exact⟨by rw[seqIndex_of h0 h1,e],∅,∅,h1⟩
  ·rw[aJ h1] at h;cases h
 ·rw[aJ h0] at h
  by_cases h1 : -(n:Int)<=i
  ·rw[aK h1] at h
   have e:(i+n).toNat=j:=Option.some.inj h;exact⟨by rw[seqIndex_neg ∅ h1,e],∅,h1,∅⟩
  ·rw[aJ h1] at h;cases h
theorem zbA{α : Type}{xs:List α}{i:Int}{v : α}(h:atI xs i=some v):∃j,seqIndex? i xs.length=some j/\xs[j]?=some v/\j<xs.length/\-(xs.length:Int)<=i/\i<xs.length:=by
 unfold atI at h;cases e:ixN xs.length i with
 | none=>rw[e] at h;cases h
 | some j=>
  rw[e] at h;obtain⟨h1,h2,h3,h4⟩:=zi7 e;exact⟨j,h1,h,h2,h3,h4⟩
theorem yF{α : Type}{xs:List α}{j:Nat}{v : α}(h:xs[j]?=some v):atI xs (j:Int)=some v:=by
 have hj:j<xs.length:=(List.getElem?_eq_some_iff.mp h).1;have e:ixN xs.length (j:Int)=some j:=by
  unfold ixN;rw[aK ∅,aK ∅];simp
 unfold atI;rw[e];exact h
def zjt(b:Expr):Prop:=∀o i,subscripted b false o i=operate [o,i] (getItem o i)
def IxR(X:Cx)(r:R2):Prop:=
 ∀(value slice:Expr) (pins:PnL) s (σ:St) H x y v u (Q:VK),Inv X pins σ H s->z3 x v->z3 y u->r x y H Q->
  subscripted slice false v u=operate [v,u] (getItem v u)->↑X (subscriptTail value slice v u) (EP X pins σ Q) X.xe s
def MtR(X:Cx)(id:String)(r:V->List V->Hp->VK->Prop):Prop:=
 ∀(pins:PnL) s (σ:St) H x xs v us (Q:VK),Inv X pins σ H s->z3 x v->zX xs us->r x xs H Q->
  ↑X (call (.builtin id) (v::us)) (EP X pins σ Q) X.xe s
variable {a b:Expr}{ta tb:TE}
theorem zu{r:R2}(hr:IxR X r)(ha:PE X a ta)(hb:PE X b tb)(hs:zjt b):PE X (.Subscript a b pos) (tOp r ta tb):=by
 and_intros;exact Subscript_ (zlg ha hb I h fun v u s2 x y H2 I2 rx ry q=>hr a b pins s2 σ H2 x y v u Q I2 rx ry q (hs _ _))
inductive znC(K:Frag)(x y:V)(H:Hp)(Q:VK):Prop where
 | mk (p:Addr) (xs:List V) (i:Int) (v:V) (e1:x=.ref p) (e2:y=.int i) (h:SqL K H p xs) (a:atI xs i=some v) (q:Q v H)
def zeU(K:Frag):R2:=fun x y H Q=>znC K x y H Q
inductive znB(K:Frag)(x y:V)(H:Hp)(Q:VK):Prop where
 | mk (p:Addr) (xs:List V) (i:Int) (v:V) (e1:x=.ref p) (e2:y=.int i) (h:SqT K H p xs) (a:atI xs i=some v) (q:Q v H)
def q0(K:Frag):R2:=fun x y H Q=>znB K x y H Q
inductive zmXJ(x:V)(y:V)(H:Hp)(Q:VK):Prop|mk(z i c:_):x=.str z->y=.int i->z.length<=sizeLine->atI z.cps.toList i=some c->(Q (.str ⟨#[c]⟩) H)->zmXJ x y H Q
def zmX:R2:=fun x y H Q=>zmXJ x y H Q
theorem zy:IxR X (zeU X.K):=by
 intro value slice pins s σ H x y v u Q I rx ry h hs;obtain⟨p,xs,i,z,rfl,rfl,hq,he,q⟩:=h;cases rx;obtain⟨t,rfl⟩:=ry;obtain⟨its,r,pl,hz⟩:=I.list hq;obtain⟨j,h1,h2,h3,h4,h5⟩:=zbA he;obtain⟨w,ew,rw'⟩:=r.get h2;have hl:=r.length;have hn:=jh;have fin:EP X pins σ Q w s:=⟨z,H,I,rw',q⟩;by_cases h0 : 0<=i
 ·have hj:i.toNat=j:=by
   rw[seqIndex_of h0 h5] at h1;exact Option.some.inj h1
  exact item_listR pl.isList h0 ∅ (by rw[hj];simpa using ew) fin hs
 ·have hj:(i+(its.toArray.size:Int)).toNat=j:=by
   rw[seqIndex_neg ∅ h4] at h1
   rw[size_toArray,<- hl];exact Option.some.inj h1
  exact subscriptTail_builtinR (x:=w) pl.isList.typeIs slot_list_getitem.lookup
   (wpAny_getItem_list_neg (Q:=fun r s'=>r=w/\EP X pins σ Q r s') pl.isList ∅ (by rw[size_toArray] <;> omega) ∅ (by rw[hj];simpa using ew) ⟨rfl,fin⟩) hs
theorem zL:IxR X (q0 X.K):=by
 intro value slice pins s σ H x y v u Q I rx ry h hs;obtain⟨p,xs,i,z,rfl,rfl,hq,he,q⟩:=h;cases rx;obtain⟨t,rfl⟩:=ry;obtain⟨its,r,pl,hz⟩:=I.tuple hq;obtain⟨j,h1,h2,h3,h4,h5⟩:=zbA he;obtain⟨w,ew,rw'⟩:=r.get h2;have hl:=r.length;have hn:=jh;have fin:EP X pins σ Q w s:=⟨z,H,I,rw',q⟩;exact subscriptTail_builtinR (x:=w) pl.typeIs slot_tuple_getitem.lookup
  (getItem_tuple (j:=j) (Q:=fun r s'=>r=w/\EP X pins σ Q r s') pl ∅ ∅ (by rw[size_toArray,<- hl];exact h1) (by simpa using ew) ⟨rfl,fin⟩) hs
theorem zk2:IxR X zmX:=by
 intro value slice pins s σ H x y v u Q I rx ry h hs;obtain⟨z,i,c,rfl,rfl,hz,he,q⟩:=h;obtain⟨t,rfl⟩:=rx;obtain⟨t',rfl⟩:=ry;obtain⟨j,h1,h2,h3,h4,h5⟩:=zbA he;have hl:z.cps.toList.length=z.length:=by simp [Str.length]
 rw[hl] at h1 h4 h5;have hn:=jh;exact tail_any (typeIs_str s z t) slot_str_getitem.lookup (getItem_str (c:=c) (by
  have e1:decide (i < -(2 ^ 63:Int))=false:=aD ∅
  have e2:decide (i>=2 ^ 63)=false:=aD ∅
  rw[e1,e2,Bool.or_false]) (by rw[h1];simpa using h2) ⟨.str ⟨#[c]⟩,H,I.tok _,⟨_,rfl⟩,q⟩) hs
theorem zaZ(lo hi:Option Int)(n:Nat):(sliceBounds lo hi none n).1=((HT.sIx n 0 lo:Nat):Int)/\(sliceBounds lo hi none n).2.1=((HT.sIx n n hi:Nat):Int)/\(sliceBounds lo hi none n).2.2=1:=by
 exists ?_,?_,rfl
 ·cases lo with
  | none=>simp [sliceBounds,HT.sIx]
  | some i=>
   simp only[sliceBounds,HT.sIx,getD_none,show(1:Int)>0 by decide,if_true]
   by_cases h:i<0
   ·simp only[h,if_true] <;> omega
   ·simp only[h,if_false] <;> omega
 ·cases hi with
  | none=>simp [sliceBounds,HT.sIx]
  | some i=>
   simp only[sliceBounds,HT.sIx,getD_none,show(1:Int)>0 by decide,if_true]
   by_cases h:i<0
   ·simp only[h,if_true] <;> omega
   ·simp only[h,if_false] <;> omega
theorem qZ(its:List Value)(lo hi:Option Int):slicePick its.toArray lo hi none=((its.drop (HT.sIx its.length 0 lo)).take (HT.sIx its.length its.length hi - HT.sIx its.length 0 lo)).toArray:=by
 obtain⟨h1,h2,h3⟩:=zaZ lo hi its.toArray.size;unfold slicePick;rw[h1,h2,h3];simp only[sliceRange_one,pick_run,size_toArray] <;> rfl
inductive zmSJ(K:Frag)(x:V)(lo:Option Int)(hi:Option Int)(H:Hp)(Q:VK):Prop|mk(a xs:_):x=.ref a->SqL K H a xs->(∀p,H p=none->Q (.ref p) (upd H p (.lst (jI xs lo hi))))->zmSJ K x lo hi H Q
def zmS(K:Frag):V->Option Int->Option Int->Hp->VK->Prop:=fun x lo hi H Q=>zmSJ K x lo hi H Q
theorem vS:SlR X (zmS X.K):=by
 intro pins s σ H x v vl vu lo hi sl Q I rx hs pl pu h;obtain⟨a,xs,rfl,hx,q⟩:=h;cases rx;obtain⟨its,r,ht,hz⟩:=I.list hx;have hlen:=r.length;exists "list",_,slot_list_getitem.lookup,ht.isList.typeIs,?_;refine wpAny_getItem_list_slice ht.isList hs pl pu .none (by simp) ?_ (by rw[size_toArray] <;> omega)
 rw[qZ,<- hlen];exists .ref s.heap.objs.size,_,I.laid (t':=s.toks) (o:=.lst (jI xs lo hi)) (fun b ob q=>zgp _ q) (aF _) ?_,rfl,q _ (I.hok.fresh (aF _));exact⟨le_trans (zcj xs lo hi) hz,_,0,(r.drop (HT.sIx xs.length 0 lo)).take (HT.sIx xs.length xs.length hi - HT.sIx xs.length 0 lo),zgs _ rfl⟩
def yZ:V->Bool
 | .non=>true
 | .bl _=>true
 | .int _=>true
 | .str _=>true
 | _=>false
def eqV:V->V->Bool
 | .non,.non=>true
 | .bl a,.bl b=>a==b
 | .bl a,.int b=>(if a then 1 else 0)==b
 | .int a,.bl b=>a==(if b then 1 else 0)
 | .int a,.int b=>a==b
 | .str a,.str b=>a==b
 | _,_=>false
theorem zdz(ry:z3 y u)(rx:z3 x v)(fy:yZ y=true)(fx:yZ x=true):SeqAt.EqAt A s u v (eqV y x):=by
 cases y with
 | non=>
  cases ry;cases x with
  | non=>cases rx;exact SeqAt.EqAt.same _
  | bl b=>cases rx;exact SeqAt.EqAt.none_bool b
  | int b=>obtain⟨t,rfl⟩:=rx;exact SeqAt.EqAt.none_int b t
  | str b=>obtain⟨t,rfl⟩:=rx;exact SeqAt.EqAt.none_str b t
  | _=>exact absurd (show false=true from fx) zft
 | bl a=>
  cases ry;cases x with
  | non=>cases rx;exact SeqAt.EqAt.bool_none a
  | bl b=>cases rx;exact SeqAt.EqAt.bool_bool a b
  | int b=>obtain⟨t,rfl⟩:=rx;exact SeqAt.EqAt.bool_int a b t
  | str b=>obtain⟨t,rfl⟩:=rx;exact SeqAt.EqAt.bool_str a b t
  | _=>exact absurd (show false=true from fx) zft
 | int a=>
  obtain⟨t',rfl⟩:=ry;cases x with
  | non=>cases rx;exact SeqAt.EqAt.int_none a t'
  | bl b=>cases rx;exact SeqAt.EqAt.int_bool a t' b
  | int b=>obtain⟨t,rfl⟩:=rx;exact SeqAt.EqAt.int_int a t' b t
  | str b=>obtain⟨t,rfl⟩:=rx;exact SeqAt.EqAt.int_str a t' b t
  | _=>exact absurd (show false=true from fx) zft
 | str a=>
  obtain⟨t',rfl⟩:=ry;cases x with
  | non=>cases rx;exact SeqAt.EqAt.str_none a t'
  | bl b=>cases rx;exact SeqAt.EqAt.str_bool a t' b
  | int b=>obtain⟨t,rfl⟩:=rx;exact SeqAt.EqAt.str_int a t' b t
  | str b=>obtain⟨t,rfl⟩:=rx;exact SeqAt.EqAt.str_str a t' b t
  | _=>exact absurd (show false=true from fx) zft
 | _=>exact absurd (show false=true from fy) zft
def eqU(x:V)(u:Value):Bool:=match u with
 | .none=>eqV .non x
 | .bool b=>eqV (.bl b) x
 | .int i _=>eqV (.int i) x
 | .str z _=>eqV (.str z) x
 | _=>false
theorem zdy(r:z3 y u)(f:yZ y=true):eqU x u=eqV y x:=by
 cases y with
 | non=>cases r;rfl
 | bl b=>cases r;rfl
 | int i=>obtain⟨t,rfl⟩:=r;rfl
 | str z=>obtain⟨t,rfl⟩:=r;rfl
 | _=>exact absurd (show false=true from f) zft
theorem uR{x:V}:∀{xs:List V}{us:List Value},zX xs us->xs.all yZ=true->us.any (eqU x)=xs.any fun y=>eqV y x
 | _,_,.nil,_=>rfl
 | y::xs,u::us,.cons r t,f=>by
  rw[all_cons,Bool.and_eq_true] at f;rw[any_cons,any_cons,zdy r f.1,uR t f.2]
theorem w9{A:Around}{s:Shared}{x:V}{v:Value}(rx:z3 x v)(fx:yZ x=true):∀{xs:List V}{us:List Value},zX xs us->xs.all yZ=true->∀u∈us,SeqAt.EqAt A s u v (eqU x u)
 | _,_,.nil,_=>fun u hu=>by cases hu
 | y::xs,u::us,.cons r t,f=>fun u' hu=>by
  rw[all_cons,Bool.and_eq_true] at f;rcases List.mem_cons.mp hu with rfl|hu
  ·rw[zdy r f.1];exact zdz r rx f.1 fx
  ·exact w9 rx fx t f.2 u' hu
def inV(x:V)(xs:List V):Bool:=xs.any fun y=>eqV y x
inductive rInJ(K:Frag)(neg:Bool)(x:V)(y:V)(H:Hp)(Q:VK):Prop|mk(p xs:_):y=.ref p->(SqL K H p xs\/SqT K H p xs)->yZ x=true->xs.all yZ=true->(Q (.bl (if neg then !inV x xs else inV x xs)) H)->rInJ K neg x y H Q
def rIn(K:Frag)(neg:Bool):R2:=fun x y H Q=>rInJ K neg x y H Q
theorem xq:OpR X (compareOp .In) (rIn X.K false):=by
 intro pins s σ H x y v u Q I rx ry h;obtain⟨p,xs,rfl,hq,fx,fs,q⟩:=h;cases ry;rcases hq with hq|hq
 ·obtain⟨its,r,pl,hz⟩:=I.list hq
  refine SeqAt.in_listAt (eqU x) pl.isList (fun w hw=>w9 rx fx r fs w (by simpa using hw)) ⟨.bl _,H,I,rfl,?_⟩
  rw[show its.toArray.any (eqU x)=its.any (eqU x) by simp,uR r fs]
  exact q
 ·obtain⟨its,r,pl,hz⟩:=I.tuple hq
  refine SeqAt.in_tupleAt (eqU x) pl (fun w hw=>w9 rx fx r fs w (by simpa using hw)) ⟨.bl _,H,I,rfl,?_⟩
  rw[show its.toArray.any (eqU x)=its.any (eqU x) by simp,uR r fs]
  exact q
theorem yE:OpR X (compareOp .NotIn) (rIn X.K true):=by
 intro pins s σ H x y v u Q I rx ry h;obtain⟨p,xs,rfl,hq,fx,fs,q⟩:=h;cases ry;rcases hq with hq|hq
 ·obtain⟨its,r,pl,hz⟩:=I.list hq
  refine SeqAt.notIn_listAt (eqU x) pl.isList (fun w hw=>w9 rx fx r fs w (by simpa using hw)) ⟨.bl _,H,I,rfl,?_⟩
  rw[show its.toArray.any (eqU x)=its.any (eqU x) by simp,uR r fs]
  exact q
 ·obtain⟨its,r,pl,hz⟩:=I.tuple hq
  refine SeqAt.notIn_tupleAt (eqU x) pl (fun w hw=>w9 rx fx r fs w (by simpa using hw)) ⟨.bl _,H,I,rfl,?_⟩
  rw[show its.toArray.any (eqU x)=its.any (eqU x) by simp,uR r fs]
  exact q
theorem zF:xQ X (.builtin "len") (fun xs H Q=>∃p ys,xs=[.ref p]/\(SqL X.K H p ys\/SqT X.K H p ys)/\Q (.int ys.length) H):=by
 intro pins s σ H xs us Q I r h;obtain⟨p,ys,rfl,hq,q⟩:=h;obtain⟨u,rfl,rx⟩:=wQ r;cases rx;have hn:=jh;rcases hq with hq|hq
 ·obtain⟨its,r',pl,hz⟩:=I.list hq
  have hlen:=r'.length;exact Calls.call_len_list pl.isList (by simp only[size_toArray] <;> omega) ⟨.int ys.length,H,I.tok _,⟨s.toks+1,by rw[size_toArray,hlen]⟩,q⟩
 ·obtain⟨its,r',pl,hz⟩:=I.tuple hq
  have hlen:=r'.length;exact len_tuple pl (by simp only[size_toArray] <;> omega) ⟨.int ys.length,H,I.tok _,⟨s.toks+1,by rw[size_toArray,hlen]⟩,q⟩
theorem zbz:xQ X (.builtin "len") (fun xs H Q=>∃z,xs=[.str z]/\z.length<=sizeLine/\Q (.int z.length) H):=by
 intro pins s σ H xs us Q I r h;obtain⟨z,rfl,hz,q⟩:=h;obtain⟨u,rfl,t,rfl⟩:=wQ r;have hn:=jh;exact len_str ∅ ⟨.int z.length,H,I.tok _,⟨_,rfl⟩,q⟩
theorem xa:xQ X (.type "list") (fun xs H Q=>∃p ys,xs=[.ref p]/\(SqL X.K H p ys\/SqT X.K H p ys)/\∀l,H l=none->Q (.ref l) (upd H l (.lst ys))):=by
 intro pins s σ H xs us Q I r h;obtain⟨p,ys,rfl,hq,q⟩:=h;obtain⟨u,rfl,rx⟩:=wQ r;cases rx;have fin:∀its,zX ys its->ys.length<=sizeLine->∀h' (c':Nat),(∀b o',s.heap.get? b=some o'->h'.get? b=some o')->
   h'.get? s.heap.objs.size=some { cls:=.type "list",dict:=none,data:=.seq its.toArray c',slots:=#[] }->EP X pins σ Q (.ref s.heap.objs.size) { s with heap:=h' }:=fun its r' hz h' c' kp e=>
  ⟨.ref s.heap.objs.size,_,I.laid (t':=s.toks) kp (aF _) (show yD X.prog X.w _ h' _ (.lst ys) from ⟨hz,its,c',r',e⟩),rfl,q _ (I.hok.fresh (aF _))⟩
 rcases hq with hq|hq
 ·obtain⟨its,r',pl,hz⟩:=I.list hq
  have hlen:=r'.length;obtain⟨o,ho,hc,n,hd⟩:=pl.isList;exact call_list_seq p (.inl rfl) ho hc hd (fun h' c' kp e=>fin its r' hz h' c' kp e) (by simp only[size_toArray] <;> omega)
 ·obtain⟨its,r',pl,hz⟩:=I.tuple hq
  have hlen:=r'.length;obtain⟨o,ho,hc,n,hd⟩:=pl;exact call_list_seq p (.inr rfl) ho hc hd (fun h' c' kp e=>fin its r' hz h' c' kp e) (by simp only[size_toArray] <;> omega)
def tyV(K:Frag)(T:String)(x:V)(H:Hp):Prop:=match x with
 | .str _=>T="str"
 | .int _=>T="int"
 | .ref p=>(T="list"/\∃xs,SqL K H p xs)\/(T="tuple"/\∃o,K.lookup p=some o/\o.cls=.type "tuple"/\o.dict=none)\/
   (T="dict"/\((∃kvs,H p=some (.dK kvs))\/∃kvs,H p=some (.dT kvs)))\/(T="set"/\∃S n,H p=some (.set S n))
 | _=>False
theorem zfD(I:Inv X pins σ H s)(r:z3 x v)(ty:tyV X.K T x H):
  s.TypeIs v T/\∀a,v=.ref a->∃ob,s.heap.get? a=some ob/\ob.dict=none:=by
 cases x with
 | str z=>
  obtain⟨t,rfl⟩:=r;cases (show T="str" from ty);exact⟨typeIs_str s z t,fun _ e=>nomatch e⟩
 | int i=>
  obtain⟨t,rfl⟩:=r;cases (show T="int" from ty);exact⟨typeIs_int s i t,fun _ e=>nomatch e⟩
 | ref p=>
  cases r;rcases ty with ⟨rfl,xs,hq⟩|⟨rfl,o,hk,hc,hd⟩|⟨rfl,hk⟩|⟨rfl,S,n,hk⟩
  ·obtain⟨its,_,pl,_⟩:=I.list hq
   exists pl.isList.typeIs,fun a e=>?_;cases e;obtain⟨o,n,e,c,hd,_⟩:=pl;exact⟨o,e,hd⟩
  ·exists ⟨o,I.kIn p o hk,hc⟩,fun a e=>?_
   cases e;exact⟨o,I.kIn _ o hk,hd⟩
  ·have z:∃o,s.heap.get? p=some o/\o.ExactDict:=by
    rcases hk with ⟨kvs,hk⟩|⟨kvs,hk⟩
    ·obtain⟨_,_,_,_,o,_,_,e,ex,_⟩:=I.hok p _ hk
     exact⟨o,e,ex⟩
    ·obtain⟨_,_,_,_,o,_,_,e,ex,_⟩:=I.hok p _ hk
     exact⟨o,e,ex⟩
   obtain⟨o,e,ex⟩:=z;exists ⟨o,e,ex.1⟩,fun a e2=>?_;cases e2;exact⟨o,e,ex.2.1⟩
  ·obtain⟨o,_,_,_,e,ex,_⟩:=I.hok p _ hk
   exists ⟨o,e,ex.1⟩,fun a e2=>?_;cases e2;exact⟨o,e,ex.2.1⟩
 | _=>exact False.elim ty
def zmN(K:Frag)(T:String)(r:V->List V->Hp->VK->Prop)(to:TE):TE:=fun σ H Q=>to σ H fun x H1=>tyV K T x H1/\r x [] H1 Q
def tBM(K:Frag)(T:String)(r:V->List V->Hp->VK->Prop)(to:TE)(t:TA):TE:=fun σ H Q=>to σ H fun x H1=>tyV K T x H1/\t σ H1 fun xs H2=>r x xs H2 Q
variable {to:TE}{t:TA}{r:V->List V->Hp->VK->Prop}
theorem zkD{X:Cx}{o:Expr}{name:Str}{apos cpos:Pos}{T id:String}(pa:PlainAttrs T)(slot:Slot T name id)(hty:typeOf (.builtin id)=pure (.type "method_descriptor"))(hm:MtR X id r)(ho:PE X o to)
  (hbase:attributeBase o name X.env (eval o X.env)=eval o X.env:=by rfl) (hline:(apos.endLine==cpos.line)=true:=by rfl):PE X (.Call (.Attribute o name apos) [] [] cpos) (zmN X.K T r to):=by
 and_intros;refine wpAny_Call_method0_late hbase hline (thn (ho pins s σ H _ I h) fun v s1 ⟨x,H1,I1,r1,ty,q1⟩=>?_);obtain⟨h1,h2⟩:=zfD I1 r1 ty;exact⟨T,id,pa,slot,hty,h1,h2,Calls.callWith_builtin rfl (PySem.evalArgs_none (hm pins s1 σ H1 x [] v [] Q I1 r1 .nil q1))⟩
theorem yt{X:Cx}{e:Expr}{o:Expr}{es:List Expr}{name:Str}{apos cpos:Pos}{T id:String}(pa:PlainAttrs T)(slot:Slot T name id)(hty:typeOf (.builtin id)=pure (.type "method_descriptor"))(hm:MtR X id r)(ho:PE X o to)(ha:PA X (e::es) t)
  (hbase:attributeBase o name X.env (eval o X.env)=eval o X.env:=by rfl)
  (hfew:((backTo cpos (starEach (e::es) X.env)).all (fun x=>!x.1)&&(backToKw cpos (keywordEach [] X.env)).all (fun x=>x.1.isSome)
   && decide ((e::es).length+([]:List Keyword).length+(if ([]:List Keyword).isEmpty then 0 else 1)<30))=true:=by rfl)
  (hline:(apos.endLine==cpos.line)=true:=by rfl) (hs:starEach (e::es) X.env=(false,eval e X.env)::starEach es X.env:=by rfl) (hplain:(backTo cpos (starEach es X.env)).any (·.1)=false:=by rfl) :
  PE X (.Call (.Attribute o name apos) (e::es) [] cpos) (tBM X.K T r to t):=by
 and_intros;refine wpAny_Call_method_late hbase hfew hline rfl (thn (ho pins s σ H _ I h) fun v s1 ⟨x,H1,I1,r1,ty,q1⟩=>?_);obtain⟨h1,h2⟩:=zfD I1 r1 ty;exists T,id,pa,slot,hty,h1,h2,?_;have hA:=ha cpos pins s1 σ H1 _ I1 q1;rw[hs] at hA |-;refine Calls.callWith_builtin (by show(false||(backTo cpos (starEach es X.env)).any (·.1))=false;rw[hplain] <;> rfl) (Calls.evalArgs_plain ?_)
 exact thn hA fun us s2 ⟨vs,H2,I2,r2,q2⟩=>hm pins s2 σ H2 x vs v us Q I2 r1 r2 q2
def MtM(X:Cx)(id:String)(r:V->List V->Hp->VK->Prop):Prop:=
 ∀(pins:PnL) s (σ:St) H x xs v us (Q:VK),Inv X pins σ H s->z3 x v->zX xs us->r x xs H Q->
  ↑X (call (.builtin id) (v::us)) (EP X pins σ Q) X.xe s
theorem zX.one:∀{x:V}{us:List Value},zX [x] us->∃u,us=[u]/\z3 x u
 | _,_,.cons r .nil=>⟨_,rfl,r⟩
theorem zX.zero:∀{us:List Value},zX [] us->us=[]
 | _,.nil=>rfl
theorem zX.reverse(h:zX xs us):zX xs.reverse us.reverse:=by
 induction h with
 | nil=>exact .nil
 | cons r t ih=>rw[List.reverse_cons,List.reverse_cons];exact zX.append ih (.cons r .nil)
theorem zX.rep{xs:List V}{us:List Value}(h:zX xs us):∀k:Nat,zX (List.replicate k xs).flatten (List.replicate k us).flatten
 | 0=>.nil
 | k+1=>by
  rw[replicate_succ,replicate_succ,flatten_cons,flatten_cons];exact zX.append h (zX.rep h k)
theorem zaD(its:List Value):∀(k:Nat) (acc:List Value),
  List.foldl (fun x1 x2=>x1++x2) acc.toArray (List.replicate k its.toArray)=(acc++(List.replicate k its).flatten).toArray
 | 0,acc=>by simp
 | k+1,acc=>by
  have e:acc.toArray++its.toArray=(acc++its).toArray:=by simp
  have e2:(acc++its)++(List.replicate k its).flatten=acc++(List.replicate (k+1) its).flatten:=by
   rw[replicate_succ,flatten_cons,append_assoc]
  rw[<- e2,<- zaD its k (acc++its),<- e,replicate_succ,List.foldl_cons]
end
section
variable {H:Hp}{l b:Addr}{xs ys zs:List V}
theorem Inv.lset{X:Cx}{pins:PnL}{σ:St}{s:Shared}{its its':List Value}{n:Nat}{f:Array Value->Array Value}{t':Nat}(I:Inv X pins σ H s)(hH:H l=some (.lst xs))
  (e:s.heap.get? l=some { cls:=.type "list",data:=.seq its.toArray n }) (hf:f its.toArray=its'.toArray) (hv:zX ys its') (hz:ys.length<=sizeLine) :
  Inv X pins σ (upd H l (.lst ys)) { s with heap:=s.heap.update l (Obj.mapSeq f),toks:=t' }:=by
 have q:=PySem.IsL.update e f;rw[hf] at q;refine I.write (x:=l) (e:=l) (by rw[hH];exact trivial) (.inl rfl) (fun b' u hb hu=>(Heap.get?_update_other s.heap (Obj.mapSeq f) (Ne.symm hb)).trans hu) ⟨_,q⟩ ?_
 exact⟨hz,its',_,hv,q⟩
theorem Inv.lnew{t':Nat}(I:Inv X pins σ H s)(hv:zX ys its)(hz:ys.length<=sizeLine):
  Inv X pins σ (upd H s.heap.objs.size (.lst ys)) { s with heap:=s.heap.push { cls:=.type "list",data:=.seq its.toArray },toks:=t' }:=
 I.laid (fun _ _ q=>zgp _ q) (aF _) ⟨hz,its,0,hv,zgs _ rfl⟩
theorem Inv.fresh(I:Inv X pins σ H s):H s.heap.objs.size=none:=I.hok.fresh (aF _)
theorem Inv.lstM(I:Inv X pins σ H s)(hH:H l=some (.lst xs)):xs.length<=sizeLine/\∃(its:List Value) (n:Nat),zX xs its/\xs.length=its.length/\s.heap.get? l=some { cls:=.type "list",data:=.seq its.toArray n }:=by
 obtain⟨z,its,n,r,e⟩:=I.hok l _ hH;exact⟨z,its,n,r,r.length,e⟩
theorem zb2{n:Nat}(h:n<=sizeLine):Builtin.List.listTooLong n=false:=by
 unfold Builtin.List.listTooLong;exact aD ∅
inductive zijJ(x:V)(vs:List V)(H:Hp)(Q:VK):Prop|mk(l xs y:_):x=.ref l->vs=[y]->H l=some (.lst xs)->xs.length<sizeLine->(Q .non (upd H l (.lst (xs++[y]))))->zijJ x vs H Q
def zij:V->List V->Hp->VK->Prop:=fun x vs H Q=>zijJ x vs H Q
theorem zK:MtM X "list.append" zij:=by
 intro pins s σ H x vs v us Q I rx rv h;obtain⟨l,xs,y,rfl,rfl,hH,hz,q⟩:=h;cases rx;obtain⟨u,rfl,ru⟩:=rv.one;obtain⟨z,its,n,r,hl,e⟩:=I.lstM hH;refine call_meets F.slot_list_append ⟨_,e,rfl⟩ F.entry_list_append (F.args_list_append_2 _ _) (PySem.list_append l its.toArray n u (by rw[size_toArray];omega)) ⟨e,?_⟩
 exists .non,_,I.lset (its':=its++[u]) hH e (by simp) (r.append (.cons ru .nil)) ?_,rfl,q
 rw[aG,length_singleton];omega
inductive zihJ(x:V)(vs:List V)(H:Hp)(Q:VK):Prop|mk(l b xs zs:_):x=.ref l->vs=[.ref b]->H l=some (.lst xs)->H b=some (.lst zs)->xs.length+zs.length<=sizeLine->(Q .non (upd H l (.lst (xs++zs))))->zihJ x vs H Q
def zih:V->List V->Hp->VK->Prop:=fun x vs H Q=>zihJ x vs H Q
theorem zau:MtM X "list.extend" zih:=by
 intro pins s σ H x vs v us Q I rx rv h;obtain⟨l,b,xs,zs,rfl,rfl,hH,hB,hz,q⟩:=h;cases rx;obtain⟨u,rfl,ru⟩:=rv.one;cases ru;obtain⟨z,its,n,r,hl,e⟩:=I.lstM hH;obtain⟨z2,its2,n2,r2,hl2,e2⟩:=I.lstM hB;have hsz:its.toArray.size+its2.toArray.size<=sizeLine:=by rw[size_toArray,size_toArray];omega
 have hlong:¬(!its.toArray.isEmpty&&Builtin.List.listTooLong (its.toArray.size+its2.toArray.size))=true:=by
  rw[zb2 hsz,Bool.and_false];exact zft
 refine call_meets F.slot_list_extend ⟨_,e,rfl⟩ F.entry_list_extend (F.args_list_extend_2 _ _)
  (AutoSeq1.list_extend_list_list_0 l its.toArray n b its2.toArray n2 hlong (by rw[size_toArray];omega) ∅) ⟨e,e2,?_⟩
 exists .non,_,I.lset (its':=its++its2) hH e (by simp) (r.append r2) ?_,rfl,q
 rw[aG];omega
inductive zguJ(x:V)(vs:List V)(H:Hp)(Q:VK):Prop|mk(l xs:_):x=.ref l->vs=[]->H l=some (.lst xs)->(Q .non (upd H l (.lst xs.reverse)))->zguJ x vs H Q
def zgu:V->List V->Hp->VK->Prop:=fun x vs H Q=>zguJ x vs H Q
theorem zdg:MtM X "list.reverse" zgu:=by
 intro pins s σ H x vs v us Q I rx rv h;obtain⟨l,xs,rfl,rfl,hH,q⟩:=h;cases rx;have hus:=rv.zero;subst hus;obtain⟨z,its,n,r,hl,e⟩:=I.lstM hH;refine call_meets F.slot_list_reverse ⟨_,e,rfl⟩ F.entry_list_reverse (F.args_list_reverse_1 _) (AutoSeq1.list_reverse_list_0 l its.toArray n (by rw[size_toArray];omega)) ⟨e,?_⟩
 exists .non,_,I.lset (its':=its.reverse) hH e (by simp) r.reverse ?_,rfl,q
 rw[List.length_reverse];omega
inductive zmYJ(x:V)(y:V)(H:Hp)(Q:VK):Prop|mk(l b xs zs:_):x=.ref l->y=.ref b->H l=some (.lst xs)->H b=some (.lst zs)->xs.length+zs.length<=sizeLine->(∀p,H p=none->Q (.ref p) (upd H p (.lst (xs++zs))))->zmYJ x y H Q
def zmY:R2:=fun x y H Q=>zmYJ x y H Q
theorem vm:OpR X (binaryOp .Add) zmY:=by
 intro pins s σ H x y v u Q I rx ry h;obtain⟨l,b,xs,zs,rfl,rfl,hH,hB,hz,q⟩:=h;cases rx;cases ry;obtain⟨z,its,n,r,hl,e⟩:=I.lstM hH;obtain⟨z2,its2,n2,r2,hl2,e2⟩:=I.lstM hB;refine PySem.P.add_list e e2 ?_ (by rw[size_toArray,size_toArray];omega)
 have ea:its.toArray++its2.toArray=(its++its2).toArray:=by simp
 rw[ea];exact⟨.ref _,_,I.lnew (t':=s.toks) (r.append r2) (by rw[aG];omega),rfl,q _ I.fresh⟩
inductive zmTJ(x:V)(y:V)(H:Hp)(Q:VK):Prop|mk(l k xs:_):x=.ref l->y=.int k->H l=some (.lst xs)->-(2 ^ 63)<=k->k<2 ^ 63->xs.length * k.toNat<=sizeLine->(∀p,H p=none->Q (.ref p) (upd H p (.lst (List.replicate k.toNat xs).flatten)))->zmTJ x y H Q
def zmT:R2:=fun x y H Q=>zmTJ x y H Q
theorem zi2{α : Type}(xs:List α)(k:Nat):(List.replicate k xs).flatten.length=k * xs.length:=by
 induction k with
 | zero=>simp
 | succ k ih=>rw[replicate_succ,flatten_cons,aG,ih,Nat.succ_mul,Nat.add_comm]
theorem zkE:OpR X (binaryOp .Mult) zmT:=by
 intro pins s σ H x y v u Q I rx ry h;obtain⟨l,k,xs,rfl,rfl,hH,h1,h2,hz,q⟩:=h;cases rx;obtain⟨t,rfl⟩:=ry;obtain⟨z,its,n,r,hl,e⟩:=I.lstM hH;have hlen:its.toArray.size * k.toNat<=sizeLine:=by rw[size_toArray,<- hl];exact hz
 have hcap:¬its.toArray.size * k.toNat>(2 ^ 63 - 1) / 8:=by
  have:(sizeLine:Nat)<=(2 ^ 63 - 1) / 8:=by decide
  omega
 have hfit:¬(!Builtin.List.listFitsIndex k)=true:=by
  rw[fitsIndex_both h1 h2];exact zft
 have hlong:¬Builtin.List.listTooLong (its.toArray.size * k.toNat)=true:=by
  rw[zb2 hlen];exact zft
 have hnew:List.foldl (fun x1 x2=>x1++x2) #[] (List.replicate (if its.toArray.isEmpty=true then 0 else k.toNat) its.toArray)=(List.replicate k.toNat its).flatten.toArray:=by
  have f0:∀m:Nat,List.foldl (fun x1 x2=>x1++x2) #[] (List.replicate m its.toArray)=(List.replicate m its).flatten.toArray:=fun m=>by
   have:=zaD its m []
   rw[nil_append] at this;exact this
  rw[f0];cases its with
  | nil=>simp
  | cons a r'=>rw[aJ (by simp)]
 refine wpAny_binaryOp_repeat_ref (T:="list") (U:="int") ⋯ ⟨_,e,rfl⟩ (fun s'=>typeIs_int s' k t) noFill_list_mul F.fills_int_mul F.slot_int_rmul repeat_list F.slot_int_index.lookup
  (call_meets F.slot_int_rmul (typeIs_int s k t) F.entry_int_rmul (F.args_int_rmul_2 _ _) (int___rmul___int_list k t l its.toArray n)
   ⟨e,rfl,⟨_,e,rfl⟩,call_meets F.slot_list_mul ⟨_,e,rfl⟩ F.entry_list_mul (F.args_list_mul_2 _ _) (AutoListH.list___mul___list_int_3 l its.toArray n k t hfit hcap hlong) ⟨e,?_⟩⟩)
 rw[hnew];exact⟨.ref _,_,I.lnew (t':=s.toks) (r.rep k.toNat) (by rw[zi2,Nat.mul_comm];exact hz),rfl,q _ I.fresh⟩
variable {E:VSP}
end
section
variable {κ : Type}[DecidableEq κ]
def zO(kvs:List (κ×V))(k : κ):Option V:=(kvs.find? fun kv=>decide (kv.1=k)).map (·.2)
def yK(kvs:List (κ×V))(k : κ)(v:V):List (κ×V):=
 if (kvs.any fun kv=>decide (kv.1=k))=true then kvs.map (fun kv=>if kv.1=k then (kv.1,v) else kv) else kvs++[(k,v)]
theorem yC{p : κ×V}{r:List (κ×V)}{k : κ}(e:p.1=k):zO (p::r) k=some p.2:=by simp [zO,find?_cons,e]
theorem yv{p : κ×V}{r:List (κ×V)}{k : κ}(e:¬p.1=k):zO (p::r) k=zO r k:=by simp [zO,find?_cons,e]
theorem wo(k : κ):∀kvs:List (κ×V),(kvs.any fun kv=>decide (kv.1=k))=(zO kvs k).isSome
 | []=>rfl
 | p::r=>by
  rw[any_cons];by_cases e:p.1=k
  ·simp only[yC e,aC e,Bool.true_or,Option.isSome_some]
  ·rw[yv e,aD e,Bool.false_or];exact wo k r
theorem zbH(k j : κ)(y:V):∀kvs:List (κ×V),zO (kvs.map fun kv=>if kv.1=k then (kv.1,y) else kv) j=(zO kvs j).map fun x=>if j=k then y else x
 | []=>rfl
 | p::r=>by
  have ih:=zbH k j y r;rw[map_cons];by_cases h:p.1=k
  ·rw[aK h]
   by_cases e:p.1=j
   ·rw[yC (p:=(p.1,y)) e,yC e,map_some,aK (e.symm.trans h)]
   ·rw[yv (p:=(p.1,y)) e,yv e,ih]
  ·rw[aJ h]
   by_cases e:p.1=j
   ·rw[yC (p:=p) e,yC e,map_some,aJ (fun z=>h (e.trans z))]
   ·rw[yv (p:=p) e,yv e,ih]
theorem zah(k j : κ)(y:V):∀kvs:List (κ×V),zO kvs k=none->zO (kvs++[(k,y)]) j=if j=k then some y else zO kvs j
 | [],_=>by
  by_cases e:k=j
  ·rw[aK e.symm];exact yC (p:=(k,y)) e
  ·rw[aJ (fun z=>e z.symm)];exact yv (p:=(k,y)) e
 | p::r,hn=>by
  rw[List.cons_append];have hk:¬p.1=k:=fun z=>by rw[yC z] at hn;cases hn
  rw[yv hk] at hn;have ih:=zah k j y r hn;by_cases e:p.1=j
  ·rw[yC e,yC e,aJ (fun z=>hk (e.trans z))]
  ·rw[yv e,yv e,ih]
theorem zbG(kvs:List (κ×V))(k j : κ)(y:V):zO (yK kvs k y) j=if j=k then some y else zO kvs j:=by
 unfold yK;by_cases a:(kvs.any fun kv=>decide (kv.1=k))=true
 ·rw[aK a,zbH]
  rw[wo] at a;by_cases e:j=k
  ·obtain⟨x,hx⟩:=Option.isSome_iff_exists.mp a
   rw[aK e,e,hx,map_some,aK rfl]
  ·rw[aJ e]
   cases zO kvs j with
   | none=>rfl
   | some x=>rw[map_some,aJ e]
 ·rw[aJ a]
  refine zah k j y kvs ?_;rw[wo] at a;cases q:zO kvs k with
  | none=>rfl
  | some x=>rw[q] at a;exact(a rfl).elim
theorem xG(kvs:List (κ×V))(k : κ)(v:V):(yK kvs k v).length<=kvs.length+1:=by
 unfold yK;split
 ·rw[aA];omega
 ·rw[aG,length_cons,length_nil];omega
theorem uA.isSome_eq(r:uA o u):o.isSome=u.isSome:=by
 cases o with
 | none=>cases u with
  | none=>rfl
  | some _=>exact(show False from r).elim
 | some _=>cases u with
  | none=>exact(show False from r).elim
  | some _=>rfl
theorem uA.getD(r:uA o u)(rd:z3 d d'):z3 (o.getD d) (u.getD d'):=by
 cases o with
 | none=>cases u with
  | none=>exact rd
  | some _=>exact(show False from r).elim
 | some _=>cases u with
  | none=>exact(show False from r).elim
  | some _=>exact r
theorem KV.val(r:KV kvs vs)(k : κ):uA (zO kvs k) (valueAt vs k):=by
 unfold KV at r;induction r with
 | nil=>exact True.intro
 | @cons p q ps qs h t ih=>
  obtain⟨h1,h2⟩:=h;by_cases e:p.1=k
  ·have e':q.1=k:=h1.symm.trans e
   have b:valueAt (q::qs) k=some q.2:=by simp [valueAt,find?_cons,e']
   rw[yC e,b];exact h2
  ·have e':¬q.1=k:=fun z=>e (h1.trans z)
   have b:valueAt (q::qs) k=valueAt qs k:=by simp [valueAt,find?_cons,e']
   rw[yv e,b];exact ih
theorem KV.any(r:KV kvs vs)(k : κ):(kvs.any fun kv=>decide (kv.1=k))=vs.any fun kv=>decide (kv.1=k):=by
 unfold KV at r;induction r with
 | nil=>rfl
 | cons h t ih=>rw[any_cons,any_cons,ih,h.1]
theorem KV.repl(r:KV kvs vs)(k : κ)(ry:z3 y u):
  KV (kvs.map fun kv=>if kv.1=k then (kv.1,y) else kv) (vs.map fun kv=>if kv.1=k then (kv.1,u) else kv):=by
 unfold KV at r |-;induction r with
 | nil=>exact .nil
 | @cons p q ps qs h t ih=>
  rw[map_cons,map_cons];refine .cons ?_ ih;obtain⟨h1,h2⟩:=h;by_cases e:p.1=k
  ·rw[aK e,aK (h1.symm.trans e)];exact⟨h1,ry⟩
  ·rw[aJ e,aJ (fun z=>e (h1.trans z))];exact⟨h1,h2⟩
theorem KV.put(r:KV kvs vs)(k : κ)(ry:z3 y u):KV (yK kvs k y) (stored vs k u):=by
 unfold yK stored;rw[r.any k];by_cases e:(vs.any fun kv=>decide (kv.1=k))=true
 ·rw[aK e,aK e];exact r.repl k ry
 ·rw[aJ e,aJ e];exact Paired.snoc r ⟨rfl,ry⟩
theorem KV.length(r:KV kvs vs):kvs.length=vs.length:=Paired.length r
end
theorem jy(r:z3 (kV k) u):(yn P w).is k u=true:=by
 cases k with
 | inl i=>obtain⟨t,e⟩:=(show ∃t,u=Value.int i t from r);subst e;exact zb6 P w i t
 | inr x=>obtain⟨t,e⟩:=(show ∃t,u=Value.str x t from r);subst e;exact zb5 P w x t
theorem zaz{P:Program}{w:World}:∀{ks:List Key}{us:List Value},zX (ks.map kV) us->ItemsAre (yn P w) ks us
 | [],_,r=>by rw[map_nil] at r;cases r;exact .nil
 | k::ks,_,r=>by
  rw[map_cons] at r;cases r with
  | cons h t=>exact .cons (jy h) (zaz t)
abbrev KT(H:Hp):List (List Key×V)->List (List Key×Addr×Value)->Prop:=Paired fun p q=>p.1=q.1/\H q.2.1=some (.tup (p.1.map kV))/\z3 p.2 q.2.2
theorem KT.val(r:KT H kvs xs)(k:List Key):uA (zO kvs k) ((atKey xs k).map (·.2)):=by
 induction r with
 | nil=>exact True.intro
 | @cons p q ps qs h t ih=>
  obtain⟨h1,_,h2⟩:=h;by_cases e:p.1=k
  ·have e':q.1=k:=h1.symm.trans e
   have b:atKey (q::qs) k=some q.2:=by simp [atKey,find?_cons,e']
   rw[yC e,b];exact h2
  ·have e':¬q.1=k:=fun z=>e (h1.trans z)
   have b:atKey (q::qs) k=atKey qs k:=by simp [atKey,find?_cons,e']
   rw[yv e,b];exact ih
theorem KT.repl(r:KT H kvs xs)(k:List Key)(ry:z3 y u):
  KT H (kvs.map fun kv=>if kv.1=k then (kv.1,y) else kv) (xs.map (putAt k u)):=by
 induction r with
 | nil=>exact .nil
 | @cons p q ps qs h t ih=>
  rw[map_cons,map_cons];refine .cons ?_ ih;obtain⟨h1,h2,h3⟩:=h;unfold putAt;by_cases e:p.1=k
  ·rw[aK e,aK (h1.symm.trans e)];exact⟨h1,h2,ry⟩
  ·rw[aJ e,aJ (fun z=>e (h1.trans z))];exact⟨h1,h2,h3⟩
theorem KT.put(r:KT H kvs xs)(k:List Key)(hb:H b=some (.tup (k.map kV)))(ry:z3 y u):
  KT H (yK kvs k y) (storedH xs k b u):=by
 have e:(kvs.any fun kv=>decide (kv.1=k))=(atKey xs k).isSome:=by
  rw[wo,(r.val k).isSome_eq,isSome_map]
 unfold yK storedH;rw[e];by_cases q:(atKey xs k).isSome=true
 ·rw[aK q,aK q];exact r.repl k ry
 ·rw[aJ q,aJ q];exact Paired.snoc r ⟨rfl,hb,ry⟩
theorem KT.keeps(r:KT H kvs xs)(ht:∀b ys,H b=some (.tup ys)->H' b=some (.tup ys)):KT H' kvs xs:=
 wJ r fun _ _ z=>⟨z.1,ht _ _ z.2.1,z.2.2⟩
section
variable {a:Addr}
theorem zjH(ok:HOk P w H h)(e:Rd H a u):yD P w H h a u:=e.ok ok
theorem qR(ok:HOk P w H h)(e:Rd H a (.dK kvs)):kvs.length<=sizeLine/\(a==sysModules)=false/\∃vs,KV kvs vs/\h.DictOf (yn P w) a vs:=
 show yD P w H h a (.dK kvs) from zjH ok e
theorem zhF(ok:HOk P w H h)(e:H a=some (.dK kvs)):kvs.length<=sizeLine/\(a==sysModules)=false/\∃vs,KV kvs vs/\h.DictOf (yn P w) a vs:=qR ok (.inl e)
theorem jk(ok:HOk P w H h)(e:H a=some (.tup (ks.map kV))):(tupleKind (yn P w)).is h ks a:=by
 obtain⟨_,its,r,o,h1,h2,n,h3⟩:=(show yD P w H h a (.tup (ks.map kV)) from ok a _ e);exact⟨o,its.toArray,n,h1,h2,h3,by simpa using zaz r⟩
theorem qQ(ok:HOk P w H h)(e:Rd H a (.dT kvs)):kvs.length<=sizeLine/\(a==sysModules)=false/\
  ∃xs,KT H kvs xs/\h.DictOfH (tupleKind (yn P w)) a xs:=by
 obtain⟨z,y,xs,r,o,es,ep,h1,h2,h3,h4,h5⟩:=(show yD P w H h a (.dT kvs) from zjH ok e);exists z,y,xs,r,o,es,ep,h1,h2,h3,h4,fun x hx=>?_,h5;have all:∀{l:List (List Key×V)}{m:List (List Key×Addr×Value)},KT H l m->∀x∈m,(tupleKind (yn P w)).is h x.1 x.2.1:=by
  intro l m q;induction q with
  | nil=>intro x hx;exact nomatch hx
  | @cons p q ps qs hq t ih=>
   intro x hx;rcases List.mem_cons.mp hx with e|hx
   ·subst e
    exact jk ok (by rw[<- hq.1];exact hq.2.1)
   ·exact ih x hx
 exact all r x hx
theorem zms(ok:HOk P w H h)(e:H a=some (.dT kvs)):kvs.length<=sizeLine/\(a==sysModules)=false/\
  ∃xs,KT H kvs xs/\h.DictOfH (tupleKind (yn P w)) a xs:=qQ ok (.inl e)
def xP(H:Hp)(a:Addr)(y:V)(r:Option V):Prop:=
 (∃kvs k,Rd H a (.dK kvs)/\y=kV k/\r=zO kvs k)\/∃kvs k b,Rd H a (.dT kvs)/\y=.ref b/\H b=some (.tup (k.map kV))/\r=zO kvs k
def zaf(H:Hp)(a:Addr)(y v:V)(H':Hp):Prop:=
 (∃kvs k,H a=some (.dK kvs)/\y=kV k/\kvs.length<sizeLine/\H'=upd H a (.dK (yK kvs k v)))\/
 ∃kvs k b,H a=some (.dT kvs)/\y=.ref b/\H b=some (.tup (k.map kV))/\kvs.length<sizeLine/\H'=upd H a (.dT (yK kvs k v))
theorem xP.k{H:Hp}{a:Addr}{kvs:List (Key×V)}{k:Key}(e:H a=some (.dK kvs)):xP H a (kV k) (zO kvs k):=.inl ⟨kvs,k,.inl e,rfl,rfl⟩
theorem zaf.k{H:Hp}{a:Addr}{kvs:List (Key×V)}{k:Key}{v:V}(e:H a=some (.dK kvs))(hl:kvs.length<sizeLine):zaf H a (kV k) v (upd H a (.dK (yK kvs k v))):=.inl ⟨kvs,k,e,rfl,hl,rfl⟩
variable {σ:St}{y v:V}{o:Option V}{E:VSP}
theorem Inv.big(I:Inv X pins σ H s):sysModules<s.heap.objs.size:=by
 have h:mainGlobals<s.heap.objs.size:=(I.mod.glob.keeps I.bk).lt;exact Nat.lt_trans ⋯ h
theorem zfo{Q:VSP}(hu:A.units+1<cLine)(I:Inv X pins σ H s)(g:xP H a y (some v))(ry:z3 y u)(h:∀w' s',Inv X pins σ H s'->z3 v w'->Q w' s'):
  wpAny (model X.prog X.w) A (getItem (.ref a) u) Q E s:=by
 rcases g with ⟨kvs,k,e,ey,l⟩|⟨kvs,k,b,e,ey,eb,l⟩
 ·subst ey
  obtain⟨z,hd,vs,rel,dd⟩:=qR I.hok e;obtain⟨w',hw,rw'⟩:=vt (v:=v) (o:=valueAt vs k) (by rw[l];exact rel.val k)
  exact wpAny_getItem_of (jy ry) dd.mapOf hw (h w' _ (I.tok _) rw')
 ·subst ey
  cases (show u=Value.ref b from ry);obtain⟨z,hd,xs,rel,dd⟩:=qQ I.hok e;obtain⟨w',hw,rw'⟩:=vt (v:=v) (o:=(atKey xs k).map (·.2)) (by rw[l];exact rel.val k)
  obtain⟨p,hp,hp2⟩:=Option.map_eq_some_iff.mp hw;refine wpAny_getItem_heap (tupleKind_room_in1 hu) (jk I.hok eb) dd hp ?_;rw[hp2];exact h w' _ (I.tok _) rw'
theorem znt{Q:VSP}(hu:A.units+1<cLine)(I:Inv X pins σ H s)(g:xP H a y o)(ry:z3 y u)(h:∀s',Inv X pins σ H s'->Q (.bool o.isSome) s'):
  wpAny (model X.prog X.w) A (compareOp .In u (.ref a)) Q E s:=by
 rcases g with ⟨kvs,k,e,ey,l⟩|⟨kvs,k,b,e,ey,eb,l⟩
 ·subst ey
  obtain⟨z,hd,vs,rel,dd⟩:=qR I.hok e;refine wpAny_in_of (jy ry) hd dd.mapOf ?_;rw[<- (rel.val k).isSome_eq,<- l];exact h _ (I.tok _)
 ·subst ey
  cases (show u=Value.ref b from ry);obtain⟨z,hd,xs,rel,dd⟩:=qQ I.hok e;refine wpAny_in_heap (tupleKind_room_in1 hu) (jk I.hok eb) hd dd ?_;have q:=(rel.val k).isSome_eq;rw[isSome_map] at q;rw[<- q,<- l];exact h _ (I.tok _)
theorem zjn{Q:VSP}(hu:A.units+1<cLine)(I:Inv X pins σ H s)(g:xP H a y o)(ry:z3 y u)(h:∀s',Inv X pins σ H s'->Q (.bool (!o.isSome)) s'):
  wpAny (model X.prog X.w) A (compareOp .NotIn u (.ref a)) Q E s:=by
 rcases g with ⟨kvs,k,e,ey,l⟩|⟨kvs,k,b,e,ey,eb,l⟩
 ·subst ey
  obtain⟨z,hd,vs,rel,dd⟩:=qR I.hok e;refine wpAny_notIn_of (jy ry) hd dd.mapOf ?_;rw[<- (rel.val k).isSome_eq,<- l];exact h _ (I.tok _)
 ·subst ey
  cases (show u=Value.ref b from ry);obtain⟨z,hd,xs,rel,dd⟩:=qQ I.hok e;refine wpAny_notIn_heap (tupleKind_room_in1 hu) (jk I.hok eb) hd dd ?_;have q:=(rel.val k).isSome_eq;rw[isSome_map] at q;rw[<- q,<- l];exact h _ (I.tok _)
theorem jW{t':Nat}(I:Inv X pins σ H s)(mu:Mut (H a))(hs:Heap.SameBut a s.heap h')(he:∃q,h'.get? a=some q)(new:yD X.prog X.w (upd H a ob) h' a ob):
  Inv X pins σ (upd H a ob) { s with heap:=h',toks:=t' }:=
 I.write (x:=a) (e:=a) mu (.inl rfl) (fun b q hb z=>(hs.2 b hb).trans z) he new
theorem zdB(z:kvs.length<=sizeLine)(hd:(a==sysModules)=false)(rel:KV kvs vs)(dd:h'.DictOf (yn P w) a vs):
  yD P w H' h' a (.dK kvs):=⟨z,hd,vs,rel,dd⟩
theorem zfn{Q:Unit->Shared->Prop}(hu:A.units+1<cLine)(I:Inv X pins σ H s)(g:zaf H a y v H')(ry:z3 y u)(rv:z3 v r)(h:∀s',Inv X pins σ H' s'->Q () s'):
  wpAny (model X.prog X.w) A (setItem (.ref a) u r) Q E s:=by
 rcases g with ⟨kvs,k,e,ey,l,eH⟩|⟨kvs,k,b,e,ey,eb,l,eH⟩
 ·subst ey eH
  obtain⟨z,hd,vs,rel,dd⟩:=zhF I.hok e;have hz:vs.length<=sizeLine:=by rw[<- rel.length];exact z
  have hl:(yK kvs k v).length<=sizeLine:=by have:=xG kvs k v;omega
  refine wpAny_setItem_pairs (hsz:=hz) (jy ry) dd fun h' dd' hs=>h _ ?_;have he:∃q,h'.get? a=some q:=let ⟨q,_,_,hq,_⟩:=dd';⟨q,hq⟩;exact jW I (by rw[e];exact True.intro) hs he (zdB hl hd (rel.put k rv) dd')
 ·subst ey eH
  cases (show u=Value.ref b from ry);obtain⟨z,hd,xs,rel,dd⟩:=zms I.hok e;have hz:xs.length<=sizeLine:=by rw[<- Paired.length rel];exact z
  have hl:(yK kvs k v).length<=sizeLine:=by have:=xG kvs k v;omega
  refine wpAny_setItem_heap (hsz:=hz) (tupleKind_room_in1 hu) (jk I.hok eb) dd fun h' dd' hs=>h _ ?_;obtain⟨q,es,ep,hq,h2,h3,h4,_,h5⟩:=dd';refine jW I (by rw[e];exact True.intro) hs ⟨q,hq⟩ ⟨hl,hd,_,(rel.put k eb rv).keeps fun c ys ec=>?_,q,es,ep,hq,h2,h3,h4,h5⟩
  rw[zf (zV ec e (fun z=>nomatch z))];exact ec
def zlk(i:Expr):Prop:=∀ov iv,subscripted i false ov iv=operate [ov,iv] (getItem ov iv)
theorem zdR{prog:Program}{w:World}{A:Around}{E:VSP}{s:Shared}{env:Env}{value slice:Expr}{pos:Pos}{T id:String}{Q:VSP}
  (hl:typeLookup (.type T) "__getitem__"=pure (some (.builtin id))) (hs:zlk slice)
  (h:wpAny (model prog w) A (eval value env) (fun o s₁=>wpAny (model prog w) A (eval slice env) (fun i s₂=>s₂.TypeIs o T/\wpAny (model prog w) A (getItem o i) Q E s₂) E s₁) E s) :
  wpAny (model prog w) A (eval (.Subscript value slice pos) env) Q E s:=by
 refine Subscript_ (wpAny_mono h (fun o s₁ h₁=>wpAny_mono h₁ (fun i s₂ h₂=>?_) fun _ _ x=>x) fun _ _ x=>x);obtain⟨hT,h₂⟩:=h₂;unfold subscriptTail;refine zwb ?_;rw[getitemInPython_of_ne hT.not_modules];refine zwb (wpAny_specialOf hT hl ?_);have fin:wpAny (model prog w) A (subscripted slice false o i) (fun r s₃=>wpAny (model prog w) A (letTemporaryGo value o r >>= fun _=>pure r) Q E s₃) E s₂:=by
  rw[hs o i];exact wpAny_operating (wpAny_mono h₂ (fun r s₃ h₃=>zwb (wpAny_letTemporaryGo (zwp h₃))) fun _ _ x=>x)
 first
  | exact zwp (zwb fin)
  | exact zwb (zwp (zwb fin))
  | exact zwb fin
theorem zcg(I:Inv X pins σ H s)(g:xP H a y o):s.TypeIs (.ref a) "dict":=by
 rcases g with ⟨kvs,k,e,_,_⟩|⟨kvs,k,b,e,_,_,_⟩
 ·obtain⟨_,_,vs,_,dd⟩:=qR I.hok e
  exact dd.typeIs
 ·obtain⟨_,_,xs,_,dd⟩:=qQ I.hok e
  exact dd.typeIs
inductive zlzJ(Q:VK)(x:V)(y:V)(H2:Hp):Prop|mk(a v:_):x=.ref a->xP H2 a y (some v)->(Q v H2)->zlzJ Q x y H2
def zlz(td ty:TE):TE:=fun σ H Q=>td σ H fun x H1=>ty σ H1 fun y H2=>zlzJ Q x y H2
inductive zmMJ(Q:VK)(y:V)(x:V)(H2:Hp):Prop|mk(a o:_):x=.ref a->xP H2 a y o->(Q (.bl o.isSome) H2)->zmMJ Q y x H2
def zmM(ty td:TE):TE:=fun σ H Q=>ty σ H fun y H1=>td σ H1 fun x H2=>zmMJ Q y x H2
inductive zhUJ(Q:VK)(y:V)(x:V)(H2:Hp):Prop|mk(a o:_):x=.ref a->xP H2 a y o->(Q (.bl (!o.isSome)) H2)->zhUJ Q y x H2
def zhU(ty td:TE):TE:=fun σ H Q=>ty σ H fun y H1=>td σ H1 fun x H2=>zhUJ Q y x H2
inductive zlTJ(D:L2.ve)(σ:St)(v:V)(x:V)(y:V)(H3:Hp):Prop|mk(a H4:_):x=.ref a->zaf H3 a y v H4->(D.nx σ H4)->zlTJ D σ v x y H3
def zlT(td ty tv:TE):TS:=fun D σ H=>tv σ H fun v H1=>td σ H1 fun x H2=>ty σ H2 fun y H3=>zlTJ D σ v x y H3
end
section
variable {X:Cx}{o i e value:Expr}{pos pos' tpos:Pos}{td ty tv:TE}
theorem yT(hu:X.A.units+1<cLine)(ho:PE X o td)(hi:PE X i ty)(hs:zlk i):PE X (.Subscript o i pos) (zlz td ty):=by
 and_intros;refine zdR PySem.F.slot_dict_getitem.lookup hs (thn (ho pins s σ H _ I h) fun u s1 ⟨x,H1,I1,rx,q1⟩=>thn (hi pins s1 σ H1 _ I1 q1) fun iv s2 ⟨y,H2,I2,ry,a,v,ex,g,q2⟩=>?_);subst ex;obtain rfl:u=Value.ref a:=rx;exact⟨zcg I2 g,zfo hu I2 g ry fun w' s3 I3 rw'=>⟨v,H2,I3,rw',q2⟩⟩
theorem qr(hu:X.A.units+1<cLine)(hi:PE X i ty)(ho:PE X o td):PC X .In i o (zmM ty td):=by
 and_intros;refine thn (hi pins s σ H _ I h) fun iv s1 ⟨y,H1,I1,ry,q1⟩=>thn (ho pins s1 σ H1 _ I1 q1) fun u s2 ⟨x,H2,I2,rx,a,ov,ex,g,q2⟩=>?_;subst ex;obtain rfl:u=Value.ref a:=rx;exact znt hu I2 g ry fun s3 I3=>⟨.bl ov.isSome,H2,I3,rfl,q2⟩
theorem zan(hu:X.A.units+1<cLine)(hi:PE X i ty)(ho:PE X o td):PC X .NotIn i o (zhU ty td):=by
 and_intros;refine thn (hi pins s σ H _ I h) fun iv s1 ⟨y,H1,I1,ry,q1⟩=>thn (ho pins s1 σ H1 _ I1 q1) fun u s2 ⟨x,H2,I2,rx,a,ov,ex,g,q2⟩=>?_;subst ex;obtain rfl:u=Value.ref a:=rx;exact zjn hu I2 g ry fun s3 I3=>⟨.bl (!ov.isSome),H2,I3,rfl,q2⟩
theorem vV(hu:X.A.units+1<cLine)(ho:PE X o td)(hi:PE X i ty)(hv:PE X value tv)(hs:swapsWith value (some (.Subscript o i pos')) pos.line X.env=pure false):
  PS X (.Assign [.Subscript o i pos'] value pos) (zlT td ty tv):=by
 exists ?_;intro pins s σ H D I h;refine wpAny_Assign_Subscript (thn (hv pins s σ H _ I h) fun r s1 ⟨v,H1,I1,rv,q1⟩=>thn (ho pins s1 σ H1 _ I1 q1) fun u s2 ⟨x,H2,I2,rx,q2⟩=>thn (hi pins s2 σ H2 _ I2 q2) fun iv s3 ⟨y,H3,I3,ry,a,H4,ex,g,q3⟩=>?_) hs;subst ex;obtain rfl:u=Value.ref a:=rx;exact zfn hu I3 g ry rv fun s4 I4=>⟨σ,H4,I4,q3⟩
theorem zcf(h:Heap)(hb:sysModules<h.objs.size):yD P w H (h.push { cls:=.type "dict",data:=.dict #[] }) h.objs.size (.dK []):=
 ⟨zero_le _,beq_eq_false_iff_ne.mpr (Ne.symm (ne_of_lt hb)),[],.nil,Heap.DictOf.new h⟩
def zj0:TE:=fun _ H Q=>∀p,H p=none->Q (.ref p) (upd H p (.dK []))
theorem vJ:PE X (.Dict [] [] pos) zj0:=⟨fun pins s σ H Q I h=>
 wpAny_Dict_empty ⟨.ref s.heap.objs.size,_,I.laid (a:=s.heap.objs.size) (o:=.dK []) (t':=s.toks) (fun _ _ q=>zgp _ q) (aF _) (zcf s.heap I.big),rfl,h _ (I.hok.fresh (aF _))⟩⟩
def zaS:List (TE×TE)->St->Hp->(List (V×V)->Hp->Prop)->Prop
 | [],_,H,Q=>Q [] H
 | (tk,tv)::r,σ,H,Q=>tk σ H fun x H1=>tv σ H1 fun y H2=>zaS r σ H2 fun ps H3=>Q ((x,y)::ps) H3
abbrev VV:List (V×V)->List (Value×Value)->Prop:=Paired fun p q=>z3 p.1 q.1/\z3 p.2 q.2
structure PPs(X:Cx)(pos:Pos)(keys:List (Option Expr))(values:List Expr)(trs:List (TE×TE)):Prop where
 run:∀(pins:PnL) (s:Shared) (σ : St) (H:Hp) (Q:List (V×V)->Hp->Prop),Inv X pins σ H s->zaS trs σ H Q->
  ↑X (evalPairs (pairTrees keys values X.env pos)) (fun vs s'=>∃ps H',Inv X pins σ H' s'/\VV ps vs/\Q ps H') X.xe s
instance {X:Cx}{pos:Pos}{keys:List (Option Expr)}{values:List Expr}{trs:List (TE×TE)}:CoeFun (PPs X pos keys values trs) (fun _=>∀(pins:PnL) (s:Shared) (σ : St) (H:Hp) (Q:List (V×V)->Hp->Prop),Inv X pins σ H s->zaS trs σ H Q->
  ↑X (evalPairs (pairTrees keys values X.env pos)) (fun vs s'=>∃ps H',Inv X pins σ H' s'/\VV ps vs/\Q ps H') X.xe s):=⟨PPs.run⟩
theorem zim:PPs X pos [] [] []:=⟨fun pins s σ H Q I h=>pairTrees_nil_walk ⟨[],H,I,.nil,h⟩⟩
theorem zbU{tk tv:TE}(hk:PE X k tk)(hv:PE X v tv)(hr:PPs X pos ks vs trs):
  PPs X pos (some k::ks) (v::vs) ((tk,tv)::trs):=⟨fun pins s σ H Q I h=>
 pairTrees_cons_walk (thn (hk pins s σ H _ I h) fun u s1 ⟨x,H1,I1,rx,q1⟩=>thn (hv pins s1 σ H1 _ I1 q1) fun w2 s2 ⟨y,H2,I2,ry,q2⟩=>
  thn (hr pins s2 σ H2 _ I2 q2) fun ws s3 ⟨ps,H3,I3,rel,q3⟩=>⟨(x,y)::ps,H3,I3,.cons ⟨rx,ry⟩ rel,q3⟩)⟩
def jg(kvs more:List (Key×V)):List (Key×V):=more.foldl (fun acc kv=>yK acc kv.1 kv.2) kvs
theorem KV.merge:∀{more:List (Key×V)}{rs:List (Key×Value)}{kvs:List (Key×V)}{vs:List (Key×Value)},KV more rs->KV kvs vs->KV (jg kvs more) (merged vs rs):=by
 intro more rs kvs vs r;unfold KV at r;induction r generalizing kvs vs with
 | nil=>intro q;exact q
 | @cons p q ps qs h t ih=>
  intro r0;have e:KV (yK kvs p.1 p.2) (stored vs q.1 q.2):=by
   have:=r0.put p.1 h.2
   rw[<- h.1];exact this
  exact ih e
theorem uq:∀(more kvs:List (Key×V)),(jg kvs more).length<=kvs.length+more.length
 | [],kvs=>by show kvs.length<=kvs.length+0;omega
 | p::r,kvs=>by
  have h1:=uq r (yK kvs p.1 p.2);have h2:=xG kvs p.1 p.2;show(jg (yK kvs p.1 p.2) r).length<=_;rw[length_cons];omega
theorem qU{P:Program}{w:World}:∀{kvs:List (Key×V)}{ws:List (Value×Value)},VV (kvs.map fun kv=>(kV kv.1,kv.2)) ws->∃rs,Carries (yn P w) ws rs/\KV kvs rs
 | [],_,r=>by rw[map_nil] at r;cases r;exact⟨[],True.intro,.nil⟩
 | p::kvs,_,r=>by
  rw[map_cons] at r;cases r with
  | @cons a b as bs h t=>
   obtain⟨rs,c,q⟩:=qU (P:=P) (w:=w) t;obtain⟨b1,b2⟩:=b;exact⟨(p.1,b2)::rs,⟨jy h.1,rfl,c⟩,.cons ⟨rfl,h.2⟩ q⟩
def zly(trs:List (TE×TE)):TE:=fun σ H Q=>∀p,H p=none->zaS trs σ (upd H p (.dK [])) fun ps H2=>H2 p=some (.dK [])/\∃kvs:List (Key×V),ps=kvs.map (fun kv=>(kV kv.1,kv.2))/\kvs.length<=15/\Q (.ref p) (upd H2 p (.dK (jg [] kvs)))
theorem zit(h:PPs X pos keys values trs)(hall:keys.all (·.isSome)=true)(hl:keys.length=values.length)(h0:keys≠[])
  (h15:keys.length<=15):PE X (.Dict keys values pos) (zly trs):=by
 exists ?_;intro pins s σ H Q I q;have hn:=I.hok.fresh (aF s.heap.objs.size);have I1:=I.laid (a:=s.heap.objs.size) (o:=.dK []) (h':=s.heap.push { cls:=.type "dict",data:=.dict #[] }) (t':=s.toks) (fun _ _ q=>zgp _ q) (aF _) (zcf s.heap I.big);refine wpAny_Dict_walk (knd:=yn X.prog X.w) hall hl h0 h15 (thn (h pins _ σ _ _ I1 (q _ hn)) fun ws s2 ⟨ps,H2,I2,rel,e,kvs,ep,lk,q2⟩=>?_);subst ep;obtain⟨rs,c,rk⟩:=qU (P:=X.prog) (w:=X.w) rel;obtain⟨z,hd,vs0,r0,dd⟩:=zhF I2.hok e;cases r0;exists rs,c,dd,fun h' dd' hs=>⟨.ref s.heap.objs.size,_,?_,rfl,q2⟩;have hz:(jg [] kvs).length<=sizeLine:=by
  have h1:=uq kvs [];rw[length_nil] at h1;rw[sizeLine_eq];omega
 have he:∃q,h'.get? s.heap.objs.size=some q:=let ⟨q,_,_,hq,_⟩:=dd';⟨q,hq⟩;exact jW I2 (by rw[e];exact True.intro) hs he (zdB hz hd (rk.merge .nil) dd')
structure M1(X:Cx)(o:Expr)(m:Str)(apos:Pos)(e:Expr)(cpos:Pos):Prop where
 base:attributeBase o m X.env (eval o X.env)=eval o X.env
 few:((backTo cpos (starEach [e] X.env)).all (fun x=>!x.1)&&(backToKw cpos (keywordEach [] X.env)).all (fun x=>x.1.isSome)
  && decide (([e]:List Expr).length+([]:List Keyword).length+(if ([]:List Keyword).isEmpty then 0 else 1)<30))=true
 line:(apos.endLine==cpos.line)=true
 trees:backTo cpos (starEach [e] X.env)=[(false,eval e X.env)]
def IsD(H:Hp)(a:Addr):Prop:=(∃kvs,Rd H a (.dK kvs))\/∃kvs,Rd H a (.dT kvs)
theorem zk3(I:Inv X pins σ H s)(d:IsD H a):
  s.TypeIs (.ref a) "dict"/\(∀b,Value.ref a=.ref b->∃ob,s.heap.get? b=some ob/\ob.dict=none)/\(a==sysModules)=false:=by
 rcases d with ⟨kvs,e⟩|⟨kvs,e⟩
 ·obtain⟨_,hd,vs,_,dd⟩:=qR I.hok e
  exists dd.typeIs,fun b q=>?_,hd;cases q;obtain⟨ob,_,_,h1,h2,_⟩:=dd;exact⟨ob,h1,h2.2.1⟩
 ·obtain⟨_,hd,xs,_,dd⟩:=qQ I.hok e
  exists dd.typeIs,fun b q=>?_,hd;cases q;obtain⟨ob,_,_,h1,h2,_⟩:=dd;exact⟨ob,h1,h2.2.1⟩
end
section
variable {σ:St}{a:Addr}{y d:V}{o:Option V}{E:VSP}
theorem zlf{Q:VSP}(hu:A.units+1<cLine)(I:Inv X pins σ H s)(g:xP H a y o)(ry:z3 y u)(h:∀w' s',Inv X pins σ H s'->z3 (o.getD .non) w'->Q w' s'):
  wpAny (model X.prog X.w) A (call (.builtin "dict.get") [.ref a,u]) Q E s:=by
 rcases g with ⟨kvs,k,e,ey,l⟩|⟨kvs,k,b,e,ey,eb,l⟩
 ·subst ey
  obtain⟨z,hd,vs,rel,dd⟩:=qR I.hok e;refine call_meetsIn PySem.F.slot_dict_get dd.typeIs PySem.F.entry_dict_get (PySem.F.args_dict_get_2 _ _) (meets_dict_get (yn X.prog X.w) a (jy ry) hd) ⟨_,dd.mapOf,h _ _ (I.tok _) ?_⟩;rw[l];exact(rel.val k).getD rfl
 ·subst ey
  cases (show u=Value.ref b from ry);obtain⟨z,hd,xs,rel,dd⟩:=qQ I.hok e;refine call_meetsIn PySem.F.slot_dict_get dd.typeIs PySem.F.entry_dict_get (PySem.F.args_dict_get_2 _ _) (meetsH_dict_get (tupleKind (yn X.prog X.w)) a b hd) ⟨tupleKind_room_in1 hu,k,xs,jk I.hok eb,dd,h _ _ (I.tok _) ?_⟩;rw[l];exact(rel.val k).getD rfl
inductive zj1J(ty:TE)(σ:St)(Q:VK)(x:V)(H1:Hp):Prop|mk(a:_):x=.ref a->IsD H1 a->(ty σ H1 fun y H2=>∃o,xP H2 a y o/\Q (o.getD .non) H2)->zj1J ty σ Q x H1
def zj1(td ty:TE):TE:=fun σ H Q=>td σ H fun x H1=>zj1J ty σ Q x H1
end
section
variable {td ty tx:TE}
theorem zgz(hu:X.A.units+1<cLine)(ho:PE X o td)(he:PE X e ty)(m:M1 X o "get" apos e cpos):PE X (.Call (.Attribute o "get" apos) [e] [] cpos) (zj1 td ty):=by
 and_intros;refine wpAny_Call_method m.base m.few m.line PySem.F.plainAttrs_dict PySem.F.slot_dict_get PySem.F.type_dict_get (thn (ho pins s σ H _ I h) fun u s1 ⟨x,H1,I1,rx,a,ex,d,q1⟩=>?_);subst ex;obtain rfl:u=Value.ref a:=rx;obtain⟨t1,t2,_⟩:=zk3 I1 d;exists t1,t2,?_;rw[m.trees];refine Calls.callWith_builtin rfl (Calls.evalArgs_plain (Calls.spliced_cons (thn (he pins s1 σ H1 _ I1 q1) fun iv s2 ⟨y,H2,I2,ry,ov,g,q2⟩=>Calls.spliced_nil ?_)));exact zlf hu I2 g ry fun w' s3 I3 rw'=>⟨_,H2,I3,rw',q2⟩
variable {E:VSP}
end
end L2
namespace Att
open PySem PySem.W PySem.Calls PyProof.Rows
theorem jG:∀(ns:List Int) vs,WellAll P h vs (ns.map WData.int)->IntsAre vs ns:=by
 intro ns;induction ns with
 | nil=>
  intro vs w;rw[map_nil] at w;cases w;exact .nil
 | cons n ns ih=>
  intro vs w;rw[map_cons] at w;cases w with
  | cons a b=>
   cases a;exact .cons _ _ (ih _ b)
theorem zeQ{l:OpenLaw}{n:Nat}(hn:l.most=some n){P:Params}{h:Heap}{args:List WData}{vals:List Value}
  (hpre:l.row.toRowW.claim.pre args=true) (hwl:WellAll P h vals args) :
  ∃a vs ns,vals=[Value.ref a]/\args=[WData.list (ns.map WData.int)]/\h.get? a=some { cls:=.type "list",data:=.seq vs.toArray }/\IntsAre vs ns/\ns.length<=n:=by
 have hsh:WShape.hasAll [] args [.list .int]=true:=(pre_splitW hpre).1;have hc:l.pre.holds [] { args:=args }=true:=(pre_splitW hpre).2;obtain⟨d,r,rfl,h1,h2⟩:=hasAllW_cons hsh;obtain rfl:=hasAllW_nil h2;obtain⟨xs,rfl,h3⟩:=hasW_list h1;obtain⟨ns,rfl⟩:=items_int h3;have hlen:ns.length<=n:=by
  unfold OpenLaw.pre at hc;have h4:(WTm.not (.lt (.lit (.int (n:Int))) (.len (.arg 0)))).holds [] { args:=[.list (ns.map .int)] }=true:=by
   have h4:=(holds_andW hc).1;rw[hn] at h4;exact h4
  have h5:=condW_of h4 (w_not (w_lt w_lit (w_len_list (w_arg rfl))));rw[L2.aA] at h5;refine Nat.le_of_not_lt fun q=>?_;have q':(n:Int)<((ns.length:Nat):Int):=by omega
  first
   | (rw[L2.aC q'] at h5;exact absurd h5 ⋯)
   | (simp at h5;omega)
 cases hwl with
 | cons w1 w2=>
  cases w2;cases w1 with
  | list ho hall=>exact⟨_,_,ns,rfl,rfl,ho,jG ns _ hall,hlen⟩
theorem zeW(l:OpenLaw)(args:List WData):l.row.toRowW.claim.post args (.bool true) args=true:=
 postW_of (r:=l.row.toRowW) (X:=(true==true))
  (show WShape.has [] (.bool true) .bool=true by first|rfl|decide|simp [WShape.has,WShape.arms,WShape.armsAll])
  (show(WTm.eq .res (.lit (.bool true))).value [] { args:=args,res:=some (.bool true),after:=args }=some (.bool (true==true)) from w_eq_bool (w_res rfl) w_lit) rfl
section
def znp(h:Heap)(L d:Addr):List (Addr×Obj):=(List.range h.objs.size).filterMap fun a=>if a=L\/a=d then none else (h.get? a).map fun o=>(a,o)
end
end Att
namespace L2
open PySem PySem.Spec PyProof.Rows
theorem zag:∀{vs:List Value}{ns:List Int},IntsAre vs ns->zX (ns.map V.int) vs
 | _,_,.nil=>.nil
 | _,_,.cons n t h=>.cons ⟨t,rfl⟩ (zag h)
def zlj(H:Hp):Prop:=∀b,H b=none\/∃o xs,H b=some (.frz o (.lst xs))
theorem zhj{P:Program}{w:World}{K:Frag}{mg mb:Str->Option Value}{CX:CXT}{k:Nat}{fa a:Addr}{fd:FuncData}{x:Str}{sp:Sp}{s₁:Shared}{vs:List Value}{ns:List Int}
  (KX:K.In s₁.heap) (hns:s₁.heap.Ns mainGlobals mg) (hb:s₁.heap.Ns builtinsNs mb) (hbb:∀x:Str,x≠"__name__"->mb x=bootBuiltins x) (hlim:s₁.heap.NoLimit) (hg:s₁.gens=#[])
  (ha:s₁.heap.get? a=some { cls:=.type "list",data:=.seq vs.toArray }) (hi:IntsAre vs ns) (hl:ns.length<=sizeLine) (hr:yg k callerA)
  (F:∀base:Heap,K.In base->base.Ns mainGlobals mg->zA P w K mg base CX k fa fd [x] sp) (hbind:∀(s:Shared) (u:Value),BindsTo s fd ⟨[u],[]⟩ [(x,u)])
  (hsp:∀H:Hp,zlj H->SqL K H a (ns.map V.int)->sp [.ref a] H (fun v _=>v=.bl true) fun _ _ _=>False)
  (hCX:∀H e s',CX [] H s₁ (fun _ _ _=>False) e s'->False) :
  codeAny (model P w) callerA (.call (.ref fa) ⟨[.ref a],[]⟩) (fun r s'=>r=.ok (.ret (.bool true))/\OldK s₁.heap s'.heap/\s'.os=s₁.os/\AllBare s'.gens) s₁:=by
 have rv:=zag hi;have lenV:=hi.length;have core:∀H:Hp,zlj H->SqL K H a (ns.map V.int)->HOk P w H s₁.heap->(∀b,H b≠none->b=a)->(H a≠none->K.lookup a=none)->
   codeAny (model P w) callerA (.call (.ref fa) ⟨[.ref a],[]⟩) (fun r s'=>r=.ok (.ret (.bool true))/\OldK s₁.heap s'.heap/\s'.os=s₁.os/\AllBare s'.gens) s₁:=by
  intro H hO hS hok hA hK;have base_of:∀{b:Addr}{o:Obj},s₁.heap.get? b=some o->H b=none->(zbv s₁.heap H).get? b=some o:=fun e n=>zhs e n;have noA:∀{b:Addr}{o:Obj}{es:Array DictEntry}{ep:Nat},s₁.heap.get? b=some o->o.data=.dict es ep->H b=none:=fun {b o es ep} e d=>by
   cases q:H b with
   | none=>rfl
   | some u=>
    have e':b=a:=hA b (by rw[q];simp)
    subst e';rw[ha] at e;cases e;have d':Data.seq vs.toArray _=Data.dict es ep:=d;cases d'
  have nsK:∀{b:Addr}{m:Str->Option Value},s₁.heap.Ns b m->(zbv s₁.heap H).Ns b m:=fun {b m} ⟨o,es,ep,e,d,r⟩=>⟨o,es,ep,base_of e (noA e d),d,r⟩;have hKb:K.In (zbv s₁.heap H):=fun b o e=>base_of (KX b o e) (by
   cases q:H b with
   | none=>rfl
   | some u=>
    have e':b=a:=hA b (by rw[q];simp)
    subst e';rw[hK (by rw[q];simp)] at e;cases e)
  have hM:Mod K mg (zbv s₁.heap H):=⟨hKb,nsK hns,⟨mb,nsK hb,hbb⟩,let ⟨mc,h1,h2⟩:=hlim;⟨mc,nsK h1,h2⟩⟩;have e0:zdJ P w K mg (zbv s₁.heap H) callerA [] s₁ H:=⟨rfl,hM,fun b o e=>ziX e,Nat.le_of_eq (zfg _ _),trivial,fun b hb=>absurd (show b∈([]:List Addr) from hb) (by simp),hok,.of_eq hg⟩
  refine codeAny_mono ((F _ hKb (nsK hns)).run callerA [] s₁ H ⟨[.ref a],[]⟩ [.ref a] [.ref a] _ _ hr e0 (hbind s₁ (.ref a)) (.cons rfl .nil) (hsp H hO hS)) fun r s' h=>?_;cases r with
  | error e=>exact(hCX H e s' h).elim
  | ok fl=>
   cases fl with
   | next=>exact False.elim h
   | brk=>exact False.elim h
   | cont=>exact False.elim h
   | ret u=>
    obtain⟨v,H',os,bare,un,hok',r',q⟩:=h;have q':v=.bl true:=q;subst q';obtain rfl:u=Value.bool true:=r';exists rfl,OldK.of_keep fun b o e=>?_,os,bare;cases q:H b with
    | none=>exact un.keep b o e q (by intro z;exact absurd (show b∈([]:List Addr) from z) (by simp)) (by simp)
    | some u=>
     rcases hO b with z|⟨ob,xs,z⟩
     ·rw[q] at z;cases z
     ·have z2:=un.frzs b ob _ z
      obtain⟨e1,_⟩:=hok b _ z;obtain⟨e2,_⟩:=hok' b _ z2;rw[e] at e1;cases e1;exact e2
 cases hk:K.lookup a with
 | some o=>
  have e:=KX a o hk;rw[ha] at e;cases e;refine core (fun _=>none) (fun _=>.inl rfl) (.inr ⟨_,vs.toArray,_,hk,rfl,rfl,rfl,by rw[size_toArray,lenV];exact hl,by simpa using rv⟩) (fun b u z=>by have z':(none:Option HO)=some u:=z;cases z') (fun b z=>absurd rfl z) fun z=>absurd rfl z
 | none=>
  refine core (fun b=>if b=a then some (.frz { cls:=.type "list",data:=.seq vs.toArray } (.lst (ns.map V.int))) else none) (fun b=>?_) (.inl (.inr ⟨{ cls:=.type "list",data:=.seq vs.toArray },aK rfl⟩)) (fun b u z=>?_) (fun b z=>?_) fun _=>hk
  ·by_cases hb:b=a
   ·exact .inr ⟨_,_,aK hb⟩
   ·exact .inl (aJ hb)
  ·by_cases hb:b=a
   ·have z':=(aK hb).symm.trans z
    cases z';subst hb;exact⟨ha,by rw[aA];exact hl,vs,_,rv,ha⟩
   ·have z':=(aJ hb).symm.trans z
    cases z'
  ·by_cases hb:b=a
   ·exact hb
   ·exact absurd (aJ hb) z
def yf(s:Stmt)(j:Nat):Stmt:=match s with
 | .ClassDef _ _ _ body _ _ _ _ _ _ _=>body.getD j (.Pass ⟨0,0,0,0⟩)
 | _=>.Pass ⟨0,0,0,0⟩
def yh(s:Stmt):Arguments:=match s with
 | .FunctionDef _ a _ _ _ _ _ _ _ _=>a
 | _=>{ posonlyargs:=[],args:=[],vararg:=none,kwonlyargs:=[],kw_defaults:=[],kwarg:=none,defaults:=[] }
def z9(s:Stmt):List Stmt:=match s with
 | .FunctionDef _ _ b _ _ _ _ _ _ _=>b
 | _=>[]
def zi(s:Stmt):Scope:=match s with
 | .FunctionDef _ _ _ _ _ _ sc _ _ _=>sc
 | _=>{ kind:=.function,names:=[],isGenerator:=false,isCoroutine:=false }
abbrev CX0:CXT:=fun _ _ _ _ _ _=>False
abbrev E0:XK:=fun _ _ _=>False
theorem zY:xO CX0 X E0:=fun _ _ _ _ _ _ _ h=>h.elim
structure Fun(K:Frag)(x qual:Str)(st:Stmt)(f:Addr)(fd:FuncData):Prop where
 ex:∃(oc:Value) (od:Option Addr) (kV doc pm:Value) (an:Option Addr) (cdv ct:Value) (osl:Array (Option Value)),
  fd=fnOf x qual (yh st) (z9 st) (zi st) .none kV doc pm an cdv ct/\K.lookup f=some ⟨oc,od,.func fd,osl⟩/\codeIn K cdv qual=true
 kp:keepIn K (.ref f)=true
section
variable {mg:Str->Option Value}
theorem Fun.ok{P:Program}{w:World}{K:Frag}{base:Heap}{x qual:Str}{st:Stmt}{f:Addr}{fd:FuncData}{N ps:List Str}{k:Nat}{sp:Sp}(F:Fun K x qual st f fd)(S:zp N ps (zi st))(hbody:∀(cdv:Value) (A:Around) (outer:List Env) (s:Shared) (H:Hp) (vs:List V) (Q:VK) (E:XK),yg k (A.deeper (envOfC qual (zi st) s.heap.objs.size f cdv))->sp vs H Q E->
   ∃t,PSs (zaa CX0 P w K mg base N qual (zi st) f cdv A outer s H E).nox (z9 st) t/\t { nx:=fun _ H'=>Q .non H',rt:=Q } (ul N vs) H) (len:∀vs H Q E,sp vs H Q E->vs.length=ps.length:=by intro vs H Q E h;first|(obtain⟨_,rfl,_⟩:=h;rfl)|(obtain⟨_,_,rfl,_⟩:=h;rfl)|(obtain⟨_,_,_,rfl,_⟩:=h;rfl)|(obtain⟨_,_,_,_,rfl,_⟩:=h;rfl)|(obtain⟨_,_,_,_,_,rfl,_⟩:=h;rfl)|(obtain⟨_,_,_,_,_,_,rfl,_⟩:=h;rfl)|(obtain⟨_,_,_,_,_,_,_,rfl,_⟩:=h;rfl)|(obtain⟨_,_,_,_,_,_,_,_,rfl,_⟩:=h;rfl)|(obtain⟨_,_,_,_,_,_,_,_,_,rfl,_⟩:=h;rfl)|(obtain⟨_,_,_,_,_,_,_,_,_,_,rfl,_⟩:=h;rfl)|(obtain⟨_,_,_,_,_,_,_,_,_,_,_,rfl,_⟩:=h;rfl)|(obtain⟨_,_,_,_,_,_,_,_,_,_,_,_,rfl,_⟩:=h;rfl)|(obtain⟨_,_,_,_,_,_,_,_,_,_,_,_,_,rfl,_⟩:=h;rfl)|(obtain⟨_,_,_,_,_,_,_,_,_,_,_,_,_,_,rfl,_⟩:=h;rfl)|(obtain⟨_,_,_,_,_,_,_,_,_,_,_,_,_,_,_,rfl,_⟩:=h;rfl)|(obtain⟨_,_,_,_,_,_,_,_,_,_,_,_,_,_,_,_,rfl,_⟩:=h;rfl)|(obtain⟨_,_,_,_,_,_,_,_,_,_,_,_,_,_,_,_,_,_,_,_,_,rfl,_⟩:=h;rfl)):zA P w K mg base CX0 (k+1) f fd ps sp:=by
 obtain⟨oc,od,kV,doc,pm,an,cdv,ct,osl,rfl,lk,hcd⟩:=F.ex;refine zhB lk hcd S len fun A outer s H vs Q E hr hsp=>?_;obtain⟨t,h,q⟩:=hbody cdv A outer s H vs Q E hr hsp;exact⟨t,h.nox,q⟩
theorem Fun.binds{K:Frag}{x qual:Str}{st:Stmt}{f:Addr}{fd:FuncData}{ps:List Str}(F:Fun K x qual st f fd)
  (h:∀(kV doc pm:Value) (an:Option Addr) (cdv ct:Value) (us:List Value),us.length=ps.length->bindArgs (fnOf x qual (yh st) (z9 st) (zi st) .none kV doc pm an cdv ct) ⟨us,[]⟩=pure (ps.zip us)):zM K fd ps []:=by
 obtain⟨oc,od,kV,doc,pm,an,cdv,ct,osl,rfl,lk,hcd⟩:=F.ex;exact .all (h kV doc pm an cdv ct)
theorem zhy{K:Frag}{x qual:Str}{st:Stmt}{f:Addr}{oc:Value}{od an:Option Addr}{osl:Array (Option Value)}{kV doc pm cdv ct:Value}(l:K.lookup f=some ⟨oc,od,.func (fnOf x qual (yh st) (z9 st) (zi st) .none kV doc pm an cdv ct),osl⟩)
  (c:codeIn K cdv qual=true) (k:keepIn K (.ref f)=true):Fun K x qual st f (fnOf x qual (yh st) (z9 st) (zi st) .none kV doc pm an cdv ct):=⟨⟨oc,od,kV,doc,pm,an,cdv,ct,osl,rfl,l,c⟩,k⟩
theorem vA{k:Nat}(hr:yg k A):A.units+1<cLine:=Nat.lt_of_le_of_lt (Nat.add_le_add_left (by decide : 1<=64) _) hr.units
theorem zE{n:Nat}(h:n<=1000):n<sizeLine:=Nat.lt_of_le_of_lt h ⋯
theorem pv(i:Nat)(hN:X.N[i]?=some x:=by rfl)(hv:Vis X.env.scope x:=by first|exact Or.inl rfl|exact Or.inr (Or.inl rfl)|exact Or.inr (Or.inr rfl))(hd:(x==("__debug__" : Str))=false:=by decide)
  (hcd:(x==("__classdict__" : Str))=false:=by decide):PE X (.Name x pos) (zcx i):=zkB hN hv hd hcd
theorem yB{A B:Prop}(h:B):if false=true then A else B:=by
 rw[aJ zft];exact h
theorem xu{A B:Prop}(h:A):if true=true then A else B:=by
 rw[aK rfl];exact h
theorem vE{c A B:Prop}[Decidable c](h1:c->A)(h2:¬c->B):if c then A else B:=by
 by_cases h:c
 ·rw[aK h]
  exact h1 h
 ·rw[aJ h]
  exact h2 h
def zq(H H':Hp):Prop:=∀b o,H b=some o->H' b=some o
theorem zq.refl(H:Hp):zq H H:=fun _ _ h=>h
theorem zq.trans(a:zq H H1)(b:zq H1 H2):zq H H2:=fun c o h=>b c o (a c o h)
theorem zq.free(e:zq H H')(h:H' l=Option.none):H l=Option.none:=by
 cases q:H l with
 | none=>rfl
 | some o=>
  rw[e l o q] at h;cases h
theorem zq.seq{K:Frag}{H H':Hp}{a:Addr}{xs:List V}(e:zq H H')(h:SqL K H a xs):SqL K H' a xs:=by
 rcases h with (h|⟨o,h⟩)|h
 ·exact .inl (.inl (e _ _ h))
 ·exact .inl (.inr ⟨o,e _ _ h⟩)
 ·exact .inr h
end
section
variable {κ : Type}[DecidableEq κ]
end
def clB(env:Env)(fr:List Str):List (Str×Addr):=fr.map fun n=>(n,(env.cells.lookup n).getD 0)
theorem zcm{env:Env}:∀{fr:List Str}{x:Str}{c:Addr},(clB env fr).lookup x=some c->x∈fr/\c=(env.cells.lookup x).getD 0
 | [],x,c,h=>by simp [clB] at h
 | n::r,x,c,h=>by
  have h':List.lookup x ((n,(env.cells.lookup n).getD 0)::clB env r)=some c:=h;rw[lookup_cons] at h';cases e:x==n with
  | true=>
   rw[e] at h';have e':x=n:=by simpa using e
   subst e';exact⟨mem_cons_self,(Option.some.inj h').symm⟩
  | false=>
   rw[e] at h';obtain⟨h1,h2⟩:=zcm h';exact⟨mem_cons_of_mem _ h1,h2⟩
theorem zby{env:Env}:∀{fr:List Str}{x:Str},x∈fr->(clB env fr).lookup x=some ((env.cells.lookup x).getD 0)
 | n::r,x,h=>by
  show List.lookup x ((n,(env.cells.lookup n).getD 0)::clB env r)=_;rw[lookup_cons];cases e:x==n with
  | true=>
   have e':x=n:=by simpa using e
   subst e';rfl
  | false=>
   rcases List.mem_cons.mp h with z|z
   ·subst z;simp at e
   ·exact zby z
theorem vI{env:Env}:∀{names:List (Str×NameKind)}{x:Str}{k:NameKind},
  (names.map fun (n,k)=>if (k==NameKind.free&&env.scope.kind==.function&&env.kindOf n==some .cell) then (n,NameKind.cell) else (n,k)).lookup x=some k->
  ∃k0,(x,k0)∈names/\(k=k0\/(k0=.free/\k=.cell))
 | [],_,_,h=>by simp at h
 | (n,k0)::r,x,k,h=>by
  have h':List.lookup x ((if (k0==NameKind.free&&env.scope.kind==.function&&env.kindOf n==some .cell)=true then (n,NameKind.cell) else (n,k0)) ::
   (r.map fun (n,k)=>if (k==NameKind.free&&env.scope.kind==.function&&env.kindOf n==some .cell) then (n,NameKind.cell) else (n,k)))=some k:=h
  by_cases hc:(k0==NameKind.free&&env.scope.kind==.function&&env.kindOf n==some .cell)=true
  ·rw[aK hc,lookup_cons] at h'
   cases e:x==n with
   | true=>
    rw[e] at h';have e':x=n:=by simpa using e
    subst e';simp only[Bool.and_eq_true] at hc;exact⟨k0,mem_cons_self,.inr ⟨by simpa using hc.1.1,(Option.some.inj h').symm⟩⟩
   | false=>
    rw[e] at h';obtain⟨k1,h1,h2⟩:=vI h';exact⟨k1,mem_cons_of_mem _ h1,h2⟩
  ·rw[aJ hc,lookup_cons] at h'
   cases e:x==n with
   | true=>
    rw[e] at h';have e':x=n:=by simpa using e
    subst e';exact⟨k0,mem_cons_self,.inl (Option.some.inj h').symm⟩
   | false=>
    rw[e] at h';obtain⟨k1,h1,h2⟩:=vI h';exact⟨k1,mem_cons_of_mem _ h1,h2⟩
theorem vj{env:Env}(hk:env.scope.kind=.function):∀{names:List (Str×NameKind)}{x:Str},names.lookup x=some .free->env.kindOf x=some .cell->
  (names.map fun (n,k)=>if (k==NameKind.free&&env.scope.kind==.function&&env.kindOf n==some .cell) then (n,NameKind.cell) else (n,k)).lookup x=some .cell
 | [],_,h,_=>by simp at h
 | (n,k0)::r,x,h,hx=>by
  show List.lookup x ((if (k0==NameKind.free&&env.scope.kind==.function&&env.kindOf n==some .cell)=true then (n,NameKind.cell) else (n,k0)) ::
   (r.map fun (n,k)=>if (k==NameKind.free&&env.scope.kind==.function&&env.kindOf n==some .cell) then (n,NameKind.cell) else (n,k)))=some .cell
  rw[lookup_cons] at h;cases e:x==n with
  | true=>
   rw[e] at h;have e':x=n:=by simpa using e
   subst e';have h0:k0=.free:=Option.some.inj h;subst h0;rw[aK (by rw[hk,hx];decide),lookup_cons]
   simp
  | false=>
   rw[e] at h;have ih:=vj hk h hx;split
   ·rw[lookup_cons,e];exact ih
   ·rw[lookup_cons,e];exact ih
abbrev yd(X:Cx)(pins:PnL)(sc:Scope)(fr Nc:List Str)(fp:List Addr)(s:Shared)(H:Hp)(C:Addr):Cx:=
 { prog:=X.prog,w:=X.w,K:=X.K,mg:=X.mg,base:=X.base,A:=X.A,N:=Nc,s₀:=s,H₀:=H,env:=compEnvC sc (clB X.env fr) C X.env,outer:=X.stack,stack:=X.stack,ex:=fp,fn:=fun _=>false,calm:=X.calm,pn:=X.pn++pins,xe:=fun _ _=>False }
structure xc(env:Env)(sc:Scope)(fr:List Str):Prop where
 kind:sc.kind=.function
 clos:closureFor sc env=pure (clB env fr)
 cells:(fr.all fun n=>(env.cells.lookup n).isSome)=true
 names:(sc.names.all fun y=>(y.2 != .cell)&&(y.2 != .free||fr.contains y.1)&&(y.2 != .local||sc.names.lookup y.1==some .local))=true
def vO(N Nc:List Str)(caps:List (Option Nat))(env:Env)(sc:Scope)(fr:List Str):Bool:=
 (Nc.zip caps).all fun p=>match p.2 with
  | none=>true
  | some j=>(N[j]?==some p.1)&&(env.kindOf p.1==some .cell)&&(sc.names.lookup p.1==some .free)&&fr.contains p.1
def xh(caps:List (Option Nat))(σ : St):St:=caps.map fun o=>match o with
 | none=>none
 | some j=>(σ[j]?).join
section
variable {X:Cx}{pins:PnL}{σ:St}{H:Hp}{s:Shared}
theorem xc.sub(B:xc env sc fr)(h:(clB env fr).lookup x=some c):env.cells.lookup x=some c:=by
 obtain⟨h1,h2⟩:=zcm h;have h3:=List.all_eq_true.mp B.cells x h1;obtain⟨d,hd⟩:=Option.isSome_iff_exists.mp h3;rw[hd] at h2 |-;rw[h2];rfl
theorem xc.free(B:xc env sc fr)(h:(relabel sc env).names.lookup x=some k)(hk:k=.cell\/k=.free):x∈fr:=by
 obtain⟨k0,h1,h2⟩:=vI h;have h3:=List.all_eq_true.mp B.names _ h1;simp only[Bool.and_eq_true,Bool.or_eq_true,bne_iff_ne,ne_eq,List.contains_iff_mem] at h3;have h4:k0=.free:=by
  rcases h2 with h2|⟨h2,_⟩
  ·subst h2
   rcases hk with z|z
   ·exact absurd z h3.1.1
   ·exact z
  ·exact h2
 rcases h3.1.2 with z|z
 ·exact absurd h4 z
 ·exact z
theorem zeF(I:Inv X pins σ H s)(B:xc X.env sc fr)(hf:∀b∈fp,vw X pins H b)(ho:∀b∈fp,∃o,s.heap.get? b=some o)(hC:s.heap.objs.size<=C):(yd X pins sc fr Nc fp s H C).Ok where
 mod:=I.ok.mod
 kind:=B.kind
 glob:=I.ok.glob
 blt:=I.ok.blt
 above:=hC
 inj:=fun x y c h1 h2=>I.ok.inj x y c (B.sub h1) (B.sub h2)
 has:=fun x h=>by
  have hx:x∈fr:=by
   rcases h with h|h
   ·exact B.free h (.inl rfl)
   ·exact B.free h (.inr rfl)
  exact⟨_,zby hx⟩
 cab:=fun x c h=>absurd h (by simp)
 hd:=I.ok.hd
 frames:=I.ok.frames
 stk:=.inl rfl
 exf:=fun b hb=>by
  obtain⟨o,e⟩:=ho b hb;exists fun z=>?_,fun x c h=>(hf b hb).2.2.2.2.1 x c (B.sub h);have z':b=C:=z
  have:=aI e
  rw[z'] at this;exact absurd (lt_of_lt_of_le this hC) (lt_irrefl _)
 bs:=I.bs
 bsz:=le_trans I.ok.bsz I.sz
 noex:=fun b o e hb=>by
  rcases (hf b hb).2.2.2.1 with z|z
  ·exact I.ok.noex b o e z
  ·exact absurd (lt_of_lt_of_le (aI (I.ok.bs b o e).1) z) (lt_irrefl _)
 exfs:=fun b hb h=>by
  rcases List.mem_cons.mp (I.stkSub b h) with z|z
  ·exact(hf b hb).2.1 z
  ·exact(hf b hb).2.2.1 z
 funs:=I.stack
 frf:=I.stkFree
theorem Inv.pin_lt(I:Inv X pins σ H s)(hp:p∈X.pn++pins):p.1<s.heap.objs.size:=aI (I.pin p hp).1
theorem zdD{m:Str->Option Value}{t' n0:Nat}(I:Inv X pins σ H s)(B:xc X.env sc fr)(hf:∀b∈fp,vw X pins H b)(ho:∀b∈fp,∃o,s.heap.get? b=some o)
  (hC:s.heap.objs.size<=C) (hD:s.heap.objs.size<=D) (hDC:D≠C) (keep:∀b o,s.heap.get? b=some o->h'.get? b=some o) (hl:h'.get? D=some { cls:=.type "list",data:=.seq ([]:List Value).toArray n0 }) (hn:h'.Ns C m)
  (hcap:vO X.N Nc caps X.env sc fr=true) (hlen:caps.length=Nc.length) :
  Inv (yd X pins sc fr Nc fp s H C) [] (xh caps σ) (upd H D (.lst [])) { s with heap:=h',toks:=t' }:=by
 have hk:X.env.scope.kind=.function:=I.ok.kind;have fresh:∀a,s.heap.objs.size<=a->H a=none:=fun a ha=>I.hok.fresh ha;exists zeF I B hf ho hC,rfl,I.bare,Un.laid keep hD (fresh D hD),⟨m,hn,fun i x v e1 e2 e3=>?_⟩,fun x c h=>?_,?_,fun x c h=>?_,fun p hp=>?_,?_,?_
 ·
  have e2':(caps[i]?).map (fun o=>match o with|none=>none|some j=>(σ[j]?).join)=some (some v):=by
   have:(xh caps σ)[i]?=some (some v):=e2
   unfold xh at this;rw[getElem?_map] at this;exact this
  cases hc:caps[i]? with
  | none=>rw[hc] at e2';cases e2'
  | some o=>
   rw[hc] at e2';cases o with
   | none=>simp at e2'
   | some j=>
    have e4:(σ[j]?).join=some v:=by simpa using e2'
    have e5 : σ[j]?=some (some v):=by
     cases q : σ[j]? with
     | none=>rw[q] at e4;cases e4
     | some w'=>rw[q] at e4;simp at e4;rw[e4]
    have e6:(Nc.zip caps)[i]?=some (x,some j):=by
     rw[List.getElem?_zip_eq_some];exact⟨e1,hc⟩
    have e7:=List.all_eq_true.mp hcap _ (aH e6);simp only[Bool.and_eq_true,beq_iff_eq,List.contains_iff_mem] at e7;obtain⟨⟨⟨a1,a2⟩,a3⟩,a4⟩:=e7;obtain⟨m0,hn0,hl0⟩:=I.loc;obtain⟨u,r,l⟩:=hl0 j x v a1 e5 (.inr (.inl a2));exists u,r,.inr ⟨.inl (vj hk a3 a2),_,zby a4,?_⟩;rcases l with ⟨z,_⟩|⟨_,c,ec,hcell⟩
    ·rw[a2] at z;cases z
    ·have:(X.env.cells.lookup x).getD 0=c:=by rw[ec];rfl
     rw[this];exact hcell.keeps keep
 ·obtain⟨v,hv⟩:=I.cell x c (B.sub h)
  exact⟨v,hv.keeps keep⟩
 ·show upd H D (.lst []) C=none
  rw[zf (Ne.symm hDC)];exact fresh C hC
 ·obtain⟨v,hv⟩:=I.cell x c (B.sub h)
  have:c≠D:=fun z=>by have:=hv.lt;rw[z] at this;exact absurd (lt_of_lt_of_le this hD) (lt_irrefl _)
  rw[zf this];exact I.freeC x c (B.sub h)
 ·have hp':p∈X.pn++pins:=by simpa using hp
  obtain⟨e,n,ne,nf,d⟩:=I.pin p hp';have hlt:=I.pin_lt hp';exists keep _ _ e,?_,?_,fun z=>?_,d
  ·rw[zf (fun z=>by rw[z] at hlt;exact absurd (lt_of_lt_of_le hlt hD) (lt_irrefl _))];exact n
  ·intro z
   have z':p.1=C:=z;rw[z'] at hlt;exact absurd (lt_of_lt_of_le hlt hC) (lt_irrefl _)
  ·rcases List.mem_cons.mp (I.stkSub p.1 z) with q|q
   ·exact ne q
   ·exact nf q
 ·exact I.hok.laid keep hD ⟨zero_le _,[],n0,.nil,hl⟩
 ·show(xh caps σ).length=Nc.length
  unfold xh;rw[aA,hlen]
theorem jo(I:Inv X pins σ H s)(hf:∀b∈fp,vw X pins H b)(J:Inv (yd X pins sc fr Nc fp s H C) pl σ' H' s'):Inv X pins σ H' s':=
 I.call' J.os J.base J.hok J.bare fun b hb=>⟨(hf b hb).2.2.2.1,(hf b hb).2.1,(hf b hb).2.2.2.2.1,(hf b hb).2.2.2.2.2⟩
theorem zaI{t2:Nat}(I:Inv X pins σ H s)(J:Inv (yd X pins sc fr Nc fp s H C) pl σ' H' s')(J2:Inv X pins σ2 H' s')(hs:Heap.SameBut C s'.heap h2):Inv X pins σ2 H' { s' with heap:=h2,toks:=t2 }:=by
 have hC:s.heap.objs.size<=C:=J.ok.above;refine J2.turned (it:=C) (fun b o hb e=>(hs.2 b hb).trans e) J.free ?_ (.inr (le_trans I.sz hC)) (fun x c h z=>?_) fun p hp z=>?_
 ·intro z
  have:=I.lt
  rw[<- z] at this;exact absurd (lt_of_lt_of_le this hC) (lt_irrefl _)
 ·obtain⟨v,hv⟩:=I.cell x c h
  have:=hv.lt
  rw[z] at this;exact absurd (lt_of_lt_of_le this hC) (lt_irrefl _)
 ·have:=I.pin_lt hp
  rw[z] at this;exact absurd (lt_of_lt_of_le this hC) (lt_irrefl _)
def zfG:TT:=fun _ H Q=>Q true H
structure PIf(X:Cx)(ifs:List Expr)(t:TT):Prop where
 run:∀(pins:PnL) (s:Shared) (σ : St) (H:Hp) (Q:Bool->Hp->Prop),Inv X pins σ H s->t σ H Q->
  ↑X (forIn ifs true fun c r=>if r=true then do let ok <- isTrue c X.env (eval c X.env);pure (ForInStep.yield ok) else pure (ForInStep.yield r)) (TP X pins σ Q) X.xe s
instance {X:Cx}{ifs:List Expr}{t:TT}:CoeFun (PIf X ifs t) (fun _=>∀(pins:PnL) (s:Shared) (σ : St) (H:Hp) (Q:Bool->Hp->Prop),Inv X pins σ H s->t σ H Q->
  ↑X (forIn ifs true fun c r=>if r=true then do let ok <- isTrue c X.env (eval c X.env);pure (ForInStep.yield ok) else pure (ForInStep.yield r)) (TP X pins σ Q) X.xe s):=⟨PIf.run⟩
theorem yS:PIf X [] zfG:=⟨fun _ _ _ H _ I h=>wpAny_tests_nil ⟨H,I,h⟩⟩
theorem xM{t:TT}(hc:PT X c t):PIf X [c] t:=⟨fun pins s σ H Q I h=>wpAny_tests_one (hc pins s σ H Q I h)⟩
def zct(g:TG)(ow:List Nat):Prop:=
 ∀v (σ:St) H (Q:St->Hp->Prop),g v σ H Q->g v σ H fun σ2 H2=>Q σ2 H2/\σ2.length=σ.length/\∀i,i∉ow->σ2[i]?=σ[i]?
theorem yc(i:Nat):zct (zD i) [i]:=fun v σ H Q h=>⟨h,length_set ..,fun j hj=>getElem?_set_ne (fun e=>hj (by simp [e]))⟩
theorem wn{K:Frag}{n:Nat}(i j:Nat):zct (zmn K n (zhx (zD i) (zhx (zD j) zmo))) [i,j]:=by
 rintro v σ H Q ⟨a,xs,e1,e2,e3,v1,r1,e4,v2,r2,e5,e6,q⟩;exists a,xs,e1,e2,e3,v1,r1,e4,v2,r2,e5,e6,q,by rw[length_set,length_set],fun k hk=>?_
 have h1:i≠k:=fun e=>hk (by simp [e])
 have h2:j≠k:=fun e=>hk (by simp [e])
 rw[getElem?_set_ne h2,getElem?_set_ne h1]
variable {R:Result->Shared->Prop}
theorem zab(Ex:VSP)(hE:∀e s,Ex e s->notedBy (model prog w) A env (fun x s'=>R (.error x) s') e s)(I:Nat->Shared->Prop)
  (turn:∀n s,I n s->wpAny (model prog w) A (pyNext it) (fun r s₁=>match r with
   | none=>R (.ok .next) s₁
   | some v=>wpAny (model prog w) A (letOwnedTupleGo target it v) (fun _ s₀=>wpAny (model prog w) A (assign target env v) (fun _ s₂=>
     wpAny (model prog w) A (forIn ifs true fun c r=>if r=true then do let ok <- isTrue c env (eval c env);pure (ForInStep.yield ok) else pure (ForInStep.yield r)) (fun ok s₃=>
      if ok=true then wpAny (model prog w) A (eval elt env) (fun x s₄=>
       wpAny (model prog w) A (call (.builtin "list.append") [acc,x]) (fun _ s₅=>∃m,m<n/\I m s₅) Ex s₄) Ex s₃
      else ∃m,m<n/\I m s₃) Ex s₂) Ex s₀) Ex s₁) Ex s)
  (n:Nat) (h:I n s) :
  codeAny (model prog w) A (.compLoop (.ListComp elt [⟨target,iter,ifs,0⟩] scope pos) 0 it acc env) R s:=by
 refine codeAny_loop rfl I (fun n s hI=>?_) n h;show wpAny _ A ((compTurn (.ListComp elt [⟨target,iter,ifs,0⟩] scope pos) 0 it acc env).onRaise (fun x=>do noteFrame x env;theTreesLotGoes x)) _ _ s
 refine wpAny_noted ?_;rw[compTurn_list];refine zwb (wpAny_standAt (zwb (wpAny_mono (turn n s hI) (fun r s₁ h₁=>?_) hE)));cases r with
 | none=>exact zwp h₁
 | some v=>
  refine zwb (wpAny_mono h₁ (fun _ s₀ h₀=>?_) hE);refine zwb (wpAny_mono h₀ (fun _ s₂ h₂=>zwb (wpAny_mono h₂ (fun ok s₃ h₃=>?_) hE)) hE);cases ok with
  | false=>exact zwp ⟨rfl,h₃⟩
  | true=>
   exact zwb (zwb (wpAny_mono h₃ (fun x s₄ h₄=>zwb (wpAny_mono h₄ (fun _ s₅ h₅=>zwp (zwp ⟨rfl,h₅⟩)) hE)) hE))
def LCr(J:It)(caps:List (Option Nat))(g:TG)(tt:TT)(te:TE)(σ : St)(H1:Hp)(Q:VK)(D:Addr):Prop:=
 ∃W:Nat->Nat->List V->Hp->Prop,(∃m,W 0 m [] (upd H1 D (.lst [])))/\∀i m ys H,W i m ys H->
  (J.stop i H/\Q (.ref D) H)\/
  (J.go i H/\∀x H',J.yld i H x H'->g x (xh caps σ) H' fun σ2 H2=>tt σ2 H2 fun ok H3=>
   (ok=true->te σ2 H3 fun v H4=>H4 D=some (.lst ys)/\ys.length<sizeLine/\∃m',m'<m/\W (i+1) m' (ys++[v]) (upd H4 D (.lst (ys++[v]))))/\
   (ok=false->∃m',m'<m/\W (i+1) m' ys H3))
def tLC(wi:TI)(caps:List (Option Nat))(g:TG)(tt:TT)(te:TE):TE:=fun σ H Q=>wi σ H fun J H1=>∀D,H1 D=none->LCr J caps g tt te σ H1 Q D
variable {g:TG}{tt:TT}{te:TE}{E:VSP}
theorem zfp{tn:Nat->Heap->Prop}{J:It}{Q:VK}{RR:Value->Addr->Result->Shared->Prop}
  (hc:X.calm=true) (B:xc X.env sc fr) (go:zct g ow) (how:(ow.all fun i=>caps[i]?==some none)=true) (hcap:vO X.N Nc caps X.env sc fr=true) (hlen:caps.length=Nc.length)
  (Ex:Addr->Addr->Value->Shared->Prop) (hb:∀D C,PG ((yd X pins sc fr Nc fp s H2 C).wish (Ex D C)) tg g/\PIf ((yd X pins sc fr Nc fp s H2 C).wish (Ex D C)) ifs tt/\PE ((yd X pins sc fr Nc fp s H2 C).wish (Ex D C)) elt te)
  (I2:Inv X pins σ H2 s) (T:zae X.prog X.w X.K tg J fp it tn) (st2:tn 0 s.heap) (f2:∀b∈fp,vw X pins H2 b) (h:∀D,H2 D=none->LCr J caps g tt te σ H2 Q D)
  (hE:∀D C e s',Ex D C e s'->notedBy (model X.prog X.w) X.A (compEnvC sc (clB X.env fr) C X.env) (fun x s3=>RR (.ref D) C (.error x) s3) e s')
  (fin:∀D C (σ':St) H' s',Inv (yd X pins sc fr Nc fp s H2 C) [] σ' H' s'->Q (.ref D) H'->RR (.ref D) C (.ok .next) s') :
  ↑X (newList []) (fun acc s₃=>↑X (newFunctionEnv sc X.env.globals (clB X.env fr) [] X.env.qual none .none (some X.env)) (fun cenv s₄=>
   codeAny (model X.prog X.w) X.A (.compStart (.ListComp elt [⟨tg,iter,ifs,0⟩] sc pos) 0 (.ref it) acc { cenv with scope:=relabel sc X.env }) (RR acc cenv.locals) s₄) E s₃) E s:=by
 have hcell:∀y∈sc.names,y.2≠.cell:=fun y hy=>by
  have h3:=List.all_eq_true.mp B.names _ hy;simp only[Bool.and_eq_true,bne_iff_ne,ne_eq] at h3;exact h3.1.1
 refine wpAny_newObj_type (wpAny_newFunctionEnv hcell (by intro y hy;simp at hy) (fun h₁ hns₁ hsb₁=>?_) B.kind)
 dsimp only at hns₁ hsb₁ |-;generalize hH2:s.heap.push { cls:=.type "list",dict:=none,data:=.seq ([]:List Value).toArray }=H3 at hns₁ hsb₁ |-;have hCs:H3.objs.size=s.heap.objs.size+1:=by rw[<- hH2,Heap.size_push]
 have hDC:s.heap.objs.size≠H3.objs.size:=by rw[hCs];exact ne_of_lt (lt_succ_self _)
 have hC:s.heap.objs.size<=H3.objs.size:=by rw[hCs];exact le_succ _
 have old:∀b o,s.heap.get? b=some o->h₁.get? b=some o:=fun b o e=>
  hsb₁.extBut b o (ne_of_lt (lt_of_lt_of_le (aI e) hC)) (zgp _ (hH2 ▸ zgp _ e))
 have hD:h₁.get? s.heap.objs.size=some { cls:=.type "list",data:=.seq ([]:List Value).toArray }:=hsb₁.extBut _ _ hDC (zgp _ (hH2 ▸ zgs _ rfl));have ho:∀b∈fp,∃o,s.heap.get? b=some o:=fun b hb'=>let ⟨o,e,_⟩:=T.obj 0 _ st2 b hb';⟨o,e⟩
 let CC:Cx:=yd X pins sc fr Nc fp s H2 H3.objs.size
 let xb:Value->Shared->Prop:=Ex s.heap.objs.size H3.objs.size
 have I4:∀t',Inv (CC.wish xb) [] (xh caps σ) (upd H2 s.heap.objs.size (.lst [])) { s with heap:=h₁,toks:=t' }:=fun t'=>
  (zdD I2 B f2 ho hC (aF _) hDC old hD hns₁ hcap hlen).wish xb
 have ok:=(I4 0).ok;obtain⟨hbg,hbt,hbe⟩:=hb s.heap.objs.size H3.objs.size;obtain⟨W,⟨m0,w0⟩,turn⟩:=h s.heap.objs.size (I2.hok.fresh (aF _));have stat:∀{H':Hp},(∀b∈fp,H' b=none)->∀b∈fp,vw (CC.wish xb) [] H' b:=fun hn b hb'=>
  ⟨hn b hb',(ok.exf b hb').1,ok.exfs b hb',.inl hb',(ok.exf b hb').2,fun p hp=>(f2 b hb').2.2.2.2.2 p (by have hp':p∈(X.pn++pins)++[]:=hp;simpa using hp')⟩
 have hfp0:∀b∈fp,upd H2 s.heap.objs.size (.lst []) b=none:=fun b hb'=>by
  obtain⟨o,e⟩:=ho b hb';rw[zf (ne_of_lt (aI e))];exact(f2 b hb').1
 have loop:∀s₃:Shared,s₃={ s with heap:=h₁,toks:=s.toks+([]:List (Str×Value)).length }->
   codeAny (model X.prog X.w) X.A (.compLoop (.ListComp elt [⟨tg,iter,ifs,0⟩] sc pos) 0 (.ref it) (.ref s.heap.objs.size) (compEnvC sc (clB X.env fr) H3.objs.size X.env)) (RR (.ref s.heap.objs.size) H3.objs.size) s₃:=by
  rintro s₃ rfl;refine zab xb (hE _ _) (fun n s'=>∃i σ' H' ys,Inv (CC.wish xb) [] σ' H' s'/\tn i s'.heap/\(∀b∈fp,H' b=none)/\W i n ys H'/\
   (∀(k:Nat) v,(xh caps σ)[k]?=some (some v)->σ'[k]?=some (some v))) ?_ m0
   ⟨0,_,_,[],I4 _,T.keep _ _ _ st2 (fun b _ o e=>old b o e),hfp0,w0,fun _ _ e=>e⟩
  rintro n s3 ⟨i,σ3,H4,ys,I3,st3,fr3,w3,wk3⟩;have I3':Inv (CC.wish xb) [] (xh caps σ) H4 s3:=I3.weak (by rw[I3.len];exact(I4 0).len) wk3
  rcases turn i n ys H4 w3 with ⟨stop,qn⟩|⟨gg,step⟩
  ·refine thn (T.done (CC.wish xb) rfl rfl rfl hc i [] s3 _ H4 xb I3' (stat fr3) st3 stop) fun r s4 ⟨hr,I4'⟩=>?_
   subst hr;exact fin _ _ _ _ _ I4'.unwish qn
  ·refine thn (T.item (CC.wish xb) rfl rfl rfl hc i [] s3 _ H4 xb I3' (stat fr3) st3 gg) fun r s4 ⟨u,hr,h4⟩=>?_
   subst hr;refine thn h4 fun _ s5 ⟨x,H5,I5,r5,y5,st5,fr5⟩=>?_;have I5':=I5.pinned (stat fr5) (T.obj _ _ st5);refine thn (hbg _ s5 _ H5 x u _ I5' r5 (go _ _ _ _ (step x H5 y5))) fun _ s6 ⟨σ6,H6,I6,q6,l6,k6⟩=>?_;have wk6:∀(k:Nat) v,(xh caps σ)[k]?=some (some v)->σ6[k]?=some (some v):=fun k v e=>by
    rw[k6 k fun hk=>?_]
    ·exact e
    ·have h1:=List.all_eq_true.mp how k hk
     have h2:caps[k]?=some none:=by simpa using h1
     unfold xh at e;rw[getElem?_map,h2] at e;cases e
   refine thn (hbt _ s6 σ6 H6 _ I6 q6) fun ok s7 ⟨H7,I7,q7⟩=>?_;have again:∀{H8:Hp}{s8:Shared}{ys':List V},Inv (CC.wish xb) ([]++jc fp s5.heap) σ6 H8 s8->(∃m',m'<n/\W (i+1) m' ys' H8)->
     ∃m,m<n/\∃i σ' H' ys,Inv (CC.wish xb) [] σ' H' s8/\tn i s8.heap/\(∀b∈fp,H' b=none)/\W i m ys H'/\(∀(k:Nat) v,(xh caps σ)[k]?=some (some v)->σ'[k]?=some (some v)):=fun {H8 s8 ys'} I8 ⟨m',hm,w8⟩=>by
    exists m',hm,i+1,σ6,H8,ys',I8.unpinned,T.keep _ _ _ st5 fun b hb' o e=>(I8.pin (b,o) (mem_append_right _ (mem_append_right _ (xW hb' e)))).1,fun b hb'=>?_,w8,wk6;obtain⟨o,e,d⟩:=T.obj _ _ st5 b hb';exact(I8.pin (b,o) (mem_append_right _ (mem_append_right _ (xW hb' e)))).2.1
   cases ok with
   | false=>
    rw[aJ zft];exact again I7 (q7.2 rfl)
   | true=>
    rw[aK rfl];refine thn (hbe _ s7 σ6 H7 _ I7 (q7.1 rfl)) fun uv s8 ⟨v,H8,I8,r8,hD8,hz,q8⟩=>?_;refine thn (zK (X:=CC.wish xb) _ s8 σ6 H8 (.ref s.heap.objs.size) [v] _ [uv] (fun _ H'=>H'=upd H8 s.heap.objs.size (.lst (ys++[v]))) I8 rfl (.cons r8 .nil) ⟨_,ys,v,rfl,rfl,hD8,hz,rfl⟩) fun _ s9 ⟨_,H9,I9,_,e9⟩=>?_;subst e9;exact again I9 q8
 exact codeAny_compStart_list (loop _ rfl) (T.self _ 0 _ _ _ (T.keep _ _ _ st2 (fun b _ o e=>old b o e)) (loop _ rfl))
theorem zcl{tn:Nat->Heap->Prop}{J:It}{Q:VK}{RR:Value->Addr->Result->Shared->Prop}
  (hc:X.calm=true) (B:xc X.env sc fr) (go:zct g ow) (how:(ow.all fun i=>caps[i]?==some none)=true) (hcap:vO X.N Nc caps X.env sc fr=true) (hlen:caps.length=Nc.length)
  (hb:∀(pins:PnL) fp s H C,PG (yd X pins sc fr Nc fp s H C) tg g/\PIf (yd X pins sc fr Nc fp s H C) ifs tt/\PE (yd X pins sc fr Nc fp s H C) elt te)
  (I2:Inv X pins σ H2 s) (T:zae X.prog X.w X.K tg J fp it tn) (st2:tn 0 s.heap) (f2:∀b∈fp,vw X pins H2 b) (h:∀D,H2 D=none->LCr J caps g tt te σ H2 Q D)
  (fin:∀D C (σ':St) H' s',Inv (yd X pins sc fr Nc fp s H2 C) [] σ' H' s'->Q (.ref D) H'->RR (.ref D) C (.ok .next) s') :
  ↑X (newList []) (fun acc s₃=>↑X (newFunctionEnv sc X.env.globals (clB X.env fr) [] X.env.qual none .none (some X.env)) (fun cenv s₄=>
   codeAny (model X.prog X.w) X.A (.compStart (.ListComp elt [⟨tg,iter,ifs,0⟩] sc pos) 0 (.ref it) acc { cenv with scope:=relabel sc X.env }) (RR acc cenv.locals) s₄) E s₃) E s:=
 zfp hc B go how hcap hlen (fun _ _ _ _=>False) (fun _ C=>hb pins fp s H2 C) I2 T st2 f2 h (fun _ _ _ _ z=>z.elim) fin
theorem xc.loc(B:xc env sc fr):∀x∈sc.names,x.2=.local->sc.names.lookup x.1=some .local:=fun y hy e=>by
 have h3:=List.all_eq_true.mp B.names _ hy;simp only[Bool.and_eq_true,Bool.or_eq_true,bne_iff_ne,ne_eq,beq_iff_eq] at h3;rcases h3.2 with z|z
 ·exact absurd e z
 ·exact z
theorem xF{wi:TI}(fr Nc:List Str)(caps:List (Option Nat))(hc:X.calm=true)(B:xc X.env sc fr)(hi:PI X tg iter wi)(go:zct g ow)(how:(ow.all fun i=>caps[i]?==some none)=true)
  (hcap:vO X.N Nc caps X.env sc fr=true) (hlen:caps.length=Nc.length)
  (hb:∀(pins:PnL) fp s H C,PG (yd X pins sc fr Nc fp s H C) tg g/\PIf (yd X pins sc fr Nc fp s H C) ifs tt/\PE (yd X pins sc fr Nc fp s H C) elt te)
  (hs:∀x,foldedSetIterable iter X.env x=pure x:=by intro _;rfl):PE X (.ListComp elt [⟨tg,iter,ifs,0⟩] sc pos) (tLC wi caps g tt te):=by
 and_intros;rw[eval_ListComp];refine wpAny_comprehension_free (use:=none) rfl hs B.clos B.kind B.loc (thn (hi pins s σ H _ I h) fun v s1 h1=>thn h1 fun itv s2 h2=>?_);obtain⟨it,fp,tn,J,H2,e,I2,T,st2,f2,q⟩:=h2;subst e;refine zcl (RR:=fun acc C=>compPost (model X.prog X.w) X.A X.xe none (EP X pins σ Q) acc C) hc B go how hcap hlen hb I2 T st2 f2 q ?_;intro D C σ' H' s' J' qq;obtain⟨m,hn,_⟩:=J'.loc;exact⟨m,hn,fun h' hs'=>⟨.ref D,H',zaI I2 J' (jo I2 f2 J') hs',rfl,qq⟩⟩
theorem zal{wi:TI}{i:Nat}(fr Nc:List Str)(caps:List (Option Nat))(hN:X.N.Nodup)(hix:X.N[i]?=some x)(hx:Loc X.env.scope x)(hc:X.calm=true)(B:xc X.env sc fr)(hi:PI X tg iter wi)(go:zct g ow)(how:(ow.all fun i=>caps[i]?==some none)=true)
  (hcap:vO X.N Nc caps X.env sc fr=true) (hlen:caps.length=Nc.length)
  (hb:∀(pins:PnL) fp s H C,PG (yd X pins sc fr Nc fp s H C) tg g/\PIf (yd X pins sc fr Nc fp s H C) ifs tt/\PE (yd X pins sc fr Nc fp s H C) elt te)
  (hsw:swapsWith (.ListComp elt [⟨tg,iter,ifs,0⟩] sc pos) (some (.Name x pos')) pos2.line X.env=pure true:=by rfl)
  (hs:∀x,foldedSetIterable iter X.env x=pure x:=by intro _;rfl) (hf:X.fn x=true\/X.env.scope.names.lookup x=some .local:=by first|exact .inl rfl|exact .inr rfl|assumption) :
  PS X (.Assign [.Name x pos'] (.ListComp elt [⟨tg,iter,ifs,0⟩] sc pos) pos2) (zhV (tLC wi caps g tt te) (zD i)):=by
 exists ?_;intro pins s σ H D0 I h;rw[exec_Assign_Name_used _ _ _ _ hsw];refine zwb (wpAny_standAt (zwb ?_));show wpAny _ X.A (do let _ <- comprehension (.ListComp elt [⟨tg,iter,ifs,0⟩] sc pos) sc X.env _ (newList []) false (eval iter X.env) (some (assign (.Name x pos') X.env))) _ _ s
 refine zwb (wpAny_mono (wpAny_comprehension_free (use:=some (assign (.Name x pos') X.env)) (Q:=fun _ s'=>SP X pins D0 .next s') rfl hs B.clos B.kind B.loc
  (thn (hi pins s σ H _ I h) fun v s1 h1=>thn h1 fun itv s2 h2=>?_)) (fun _ s' hq=>zwp (zwp hq)) fun _ _ e=>e)
 obtain⟨it,fp,tn,J,H2,e,I2,T,st2,f2,q⟩:=h2;subst e;refine zcl (Q:=fun v H1=>zD i v σ H1 D0.nx) (RR:=fun acc C=>compPost (model X.prog X.w) X.A X.xe (some (assign (.Name x pos') X.env)) (fun _ s'=>SP X pins D0 .next s') acc C) hc B go how hcap hlen hb I2 T st2 f2 q ?_;intro D C σ' H' s' J' qq;have I':=jo I2 f2 J';obtain⟨m,hn,_⟩:=J'.loc;have hC:s2.heap.objs.size<=C:=J'.ok.above;show wpAny _ X.A (assign (.Name x pos') X.env (.ref D)) _ _ s';refine wpAny_assign_Name (zai (v:=.ref D) I' hN hix hx rfl (fun s'' I'' ⟨a,sb,ha⟩=>?_) hf);have haC:C≠a:=by
  rintro rfl;rcases ha with z|z
  ·have:=I2.lt
   rw[<- z] at this;exact absurd (lt_of_lt_of_le this hC) (lt_irrefl _)
  ·obtain⟨v,hv⟩:=I2.cell x C z
   exact absurd (lt_of_lt_of_le hv.lt hC) (lt_irrefl _)
 have hCH:H' C=none:=J'.free;exists m,hn.sameBut sb haC,fun h' hs'=>⟨_,H',?_,qq⟩;refine I''.turned (it:=C) (t':=s''.toks) (fun b o hb e=>(hs'.2 b hb).trans e) hCH ?_ (.inr (le_trans I2.sz hC)) (fun x c h z=>?_) fun p hp z=>?_
 ·intro z
  have:=I2.lt
  rw[<- z] at this;exact absurd (lt_of_lt_of_le this hC) (lt_irrefl _)
 ·obtain⟨v,hv⟩:=I2.cell x c h
  have:=hv.lt
  rw[z] at this;exact absurd (lt_of_lt_of_le this hC) (lt_irrefl _)
 ·have:=I2.pin_lt hp
  rw[z] at this;exact absurd (lt_of_lt_of_le this hC) (lt_irrefl _)
def Its(z:Str):It:=⟨fun i _=>i<z.cps.size,fun i H x H'=>H'=H/\∃c,z.cps[i]?=some c/\x=.str ⟨#[c]⟩,fun i _=>z.cps.size<=i⟩
theorem zfF{P:Program}{w:World}{K:Frag}{tg:Expr}(it:Addr)(z:Str)(t:Tok):zae P w K tg (Its z) [it] it (fun i h=>h.IsStrIter it (strIterType z) z t i) where
 mem:=by simp
 obj:=fun i h st b hb=>by
  have e:b=it:=by simpa using hb
  subst e;obtain⟨o,e,_,d⟩:=st;exact⟨o,e,fun v q=>by rw[d] at q;cases q⟩
 keep:=fun i h h' st k=>by
  obtain⟨o,e,r⟩:=st;exact⟨o,k it (by simp) o e,r⟩
 item:=by
  intro X hP hw hK hc i pins s σ H E I hf st hg;subst hP hw hK;obtain⟨f0,f1,f2,f3,f4,f5⟩:=hf it (by simp)
  have hi:i<z.cps.size:=hg;have hx:z.cps[i]?=some z.cps[i]:=by simp [hi]
  have fin:∀h',h'.IsStrIter it (strIterType z) z t (i+1)->Heap.SameBut it s.heap h'->
    ∃u,some (Value.str ⟨#[z.cps[i]]⟩ s.toks)=some u/\↑X (letOwnedTupleGo tg (.ref it) u) (fun _ s2=>∃x H',Inv X pins σ H' s2/\z3 x u/\(Its z).yld i H x H'/\s2.heap.IsStrIter it (strIterType z) z t (i+1)/\∀b∈[it],H' b=none) E { s with heap:=h',toks:=s.toks+1 }:=fun h' hit hs=>by
   have I1:Inv X pins σ H { s with heap:=h',toks:=s.toks+1 }:=I.turned (fun b o hb e=>(hs.2 b hb).trans e) f0 f1 f3 f4 f5
   obtain⟨o,e1,e2,e3⟩:=id hit;exists _,rfl,zhv (s:={ s with heap:=h',toks:=s.toks+1 }) e1 e2 e3 ?_ ⟨.str ⟨#[z.cps[i]]⟩,H,I1,⟨_,rfl⟩,⟨rfl,_,hx,rfl⟩,hit,fun b hb=>(hf b hb).1⟩
   unfold strIterType;split <;> decide
  cases ha:z.cps.all (·<128)
  ·have e:strIterType z="str_iterator":=by simp [strIterType,ha]
   rw[e] at st;exact wpAny_pyNext_wide_item st hx fun h' a b=>fin h' (e.symm ▸ a) b
  ·have e:strIterType z="str_ascii_iterator":=by simp [strIterType,ha]
   rw[e] at st;exact wpAny_pyNext_ascii_item st hx fun h' a b=>fin h' (e.symm ▸ a) b
 done:=by
  intro X hP hw hK hc i pins s σ H E I hf st hg;subst hP hw hK;obtain⟨f0,f1,f2,f3,f4,f5⟩:=hf it (by simp)
  have hi:z.cps.size<=i:=hg;have hx:z.cps[i]?=none:=by simp [hi]
  have fin:∀h',Heap.ExtBut it s.heap h'->(none:Option Value)=none/\Inv X pins σ H { s with heap:=h' }:=fun h' eb=>⟨rfl,I.turned (t':=s.toks) (fun b o hb e=>eb b o hb e) f0 f1 f3 f4 f5⟩
  cases ha:z.cps.all (·<128)
  ·have e:strIterType z="str_iterator":=by simp [strIterType,ha]
   rw[e] at st;exact wpAny_pyNext_wide_end (I.ok.hd hc) st hx fin
  ·have e:strIterType z="str_ascii_iterator":=by simp [strIterType,ha]
   rw[e] at st;exact wpAny_pyNext_ascii_end (I.ok.hd hc) st hx fin
 self:=fun A i s Q E st h=>by
  cases ha:z.cps.all (·<128)
  ·have e:strIterType z="str_iterator":=by simp [strIterType,ha]
   rw[e] at st;exact wpAny_pyIter_striter_wide st h
  ·have e:strIterType z="str_ascii_iterator":=by simp [strIterType,ha]
   rw[e] at st;exact wpAny_pyIter_striter_ascii st h
def zns(tl:TE):TI:=fun σ H R=>tl σ H fun x H1=>∃z,x=.str z/\R (Its z) H1
theorem zkz{tl:TE}(hl:PE X l tl):PI X tg l (zns tl):=by
 exists ?_;intro pins s σ H R I h;refine thn (hl pins s σ H _ I h) fun v s1 ⟨x,H1,I1,r1,q1⟩=>?_;obtain⟨z,e,q⟩:=q1;subst e;obtain⟨t,rfl⟩:=r1;refine wpAny_pyIter_strU ?_;exists s1.heap.objs.size,[s1.heap.objs.size],_,_,H1,rfl,I1.kept (t':=s1.toks) fun b o e=>zgp _ e,zfF _ z t,⟨_,zgs _ rfl,rfl,rfl⟩,fun b hb=>?_,q;have e:b=s1.heap.objs.size:=by simpa using hb
 subst e;exact I1.fpOk (aF _) (I1.hok.fresh (aF _))
theorem zaK(hc:X.calm=true):xQ X (.builtin "all") (fun xs H Q=>∃(p:Addr) (bs:List Bool),xs=[.ref p]/\SqL X.K H p (bs.map V.bl)/\Q (.bl (bs.all id)) H):=by
 intro pins s σ H xs us Q I r h;obtain⟨p,bs,rfl,hS,q⟩:=h;obtain⟨u,rfl,ru⟩:=wQ r;cases ru;obtain⟨its,rv,hp,hz⟩:=I.list hS;have hlen:its.length=bs.length:=by rw[<- rv.length,aA]
 have hne:p≠s.heap.objs.size:=ne_of_lt (by obtain⟨_,e,_⟩:=hp.isList;exact aI e)
 refine call_all_walk (wpAny_pyIter_list hp.isList ?_);exists s.heap.objs.size,_,_,_,_,_,fun i=>bs.getD i false,rfl,Walks.list (A:=X.A.in1) (I.ok.hd hc) s.heap.objs.size p hne its.toArray,⟨⟨_,zgs _ rfl,rfl,rfl⟩,hp.isList.push _⟩,?_,fun h' tk k=>?_
 ·intro i v s' Q' E' hP hQ
  have hv:its[i]?=some v:=by simpa using hP
  have hi:i<bs.length:=by rw[<- hlen];exact(List.getElem?_eq_some_iff.mp hv).1
  obtain⟨u',e1,e2⟩:=rv.get (i:=i) (x:=V.bl bs[i]) (by rw[getElem?_map,aB hi];rfl)
  rw[hv] at e1;cases e1;cases e2;refine wpAny_truthy_bool ?_
  have:bs.getD i false=bs[i]:=by rw[getD_eq_getElem?_getD,aB hi];rfl
  rw[<- this];exact hQ
 ·have e:((List.range its.toArray.size).all fun i=>bs.getD i false)=bs.all id:=by
   rw[size_toArray,hlen,Bool.eq_iff_iff,all_eq_true,all_eq_true];constructor
   ·intro hh b hb
    obtain⟨i,hi,rfl⟩:=List.getElem_of_mem hb
    have:=hh i (List.mem_range.mpr hi)
    rw[getD_eq_getElem?_getD,aB hi] at this;exact this
   ·intro hh i hi
    have hi':=List.mem_range.mp hi;rw[getD_eq_getElem?_getD,aB hi'];exact hh _ (getElem_mem hi')
  rw[e];exact⟨.bl (bs.all id),H,I.kept (h':=h') (t':=tk) (fun b o q=>k b o (fun hm=>by
   have e:b=s.heap.objs.size:=by simpa using hm
   exact absurd (aI q) (by rw[e];exact lt_irrefl _)) (zgp _ q)),rfl,q⟩
theorem wI:xQ X (.builtin "isinstance") (fun xs H Q=>∃x T t b,xs=[x,.ty T]/\wA X.K H x t/\kitOne X.K t (.type T)=some b/\Q (.bl b) H):=by
 intro pins s σ H xs us Q I r h;obtain⟨x,T,t,b,rfl,ty,e,q⟩:=h;obtain⟨u,w',rfl,ru,rw'⟩:=zdN r;cases rw';exact zaA I ru ty e fun tk=>⟨.bl b,H,I.tok tk,rfl,q⟩
theorem wk:xQ X (.builtin "isinstance") (fun xs H Q=>∃x C t b,xs=[x,.ref C]/\wA X.K H x t/\kitOne X.K t (.ref C)=some b/\Q (.bl b) H):=by
 intro pins s σ H xs us Q I r h;obtain⟨x,T,t,b,rfl,ty,e,q⟩:=h;obtain⟨u,w',rfl,ru,rw'⟩:=zdN r;cases rw';exact zaA I ru ty e fun tk=>⟨.bl b,H,I.tok tk,rfl,q⟩
def vF:Expr->Bool
 | .Starred ..=>true
 | _=>false
theorem yV(h:vF e=false):starEach (e::es) env=(false,eval e env)::starEach es env:=by
 cases e <;> first|rfl|cases h
theorem wq{env:Env}{pos:Pos}:∀{es:List Expr},es.any vF=false->(backTo pos (starEach es env)).any (·.1)=false
 | [],_=>rfl
 | e::es,h=>by
  rw[any_cons,Bool.or_eq_false_iff] at h;rw[yV h.1];show(false||(backTo pos (starEach es env)).any (·.1))=false
  rw[wq h.2];rfl
end
section
variable {CX:CXT}{k:Nat}{f C:Addr}{fd:FuncData}{ps:List Str}{sp:Sp}{x m:Str}{te ta:TE}{t:TA}{r:List V->Hp->VK->Prop}
theorem ac(ha:PE X e te)(hr:PA X es t)(h:vF e=false:=by rfl):PA X (e::es) (zfK te t):=ziv ha hr (yV h)
theorem cB{X:Cx}{p pos:Pos}{e:Expr}{es:List Expr}{id:String}(hc:xQ X (.builtin id) r)(hm:X.mg x=none)(hv:bootBuiltins x=some (.builtin id))(ha:PA X (e::es) t)(hg:Gl X x:=by rfl)(hn:x≠"__name__":=by decide)(hdb:(x==("__debug__" : Str))=false:=by decide)
  (h1:vF e=false:=by rfl) (h2:es.any vF=false:=by rfl):PE X (.Call (.Name x p) (e::es) [] pos) (tCB r t):=zgA hc hg hm hv ha hn hdb (yV h1) (wq h2)
theorem cTy(hc:xQ X (.type T) r)(hm:X.mg x=none)(hv:bootBuiltins x=some (.type T))(ha:PA X (e::es) t)(hg:Gl X x:=by rfl)(hn:x≠"__name__":=by decide)(hdb:(x==("__debug__" : Str))=false:=by decide)
  (h1:vF e=false:=by rfl) (h2:es.any vF=false:=by rfl):PE X (.Call (.Name x p) (e::es) [] pos) (tCB r t):=zeY hc hg hm hv ha hn hdb (yV h1) (wq h2)
structure zC(P:Program)(w:World)(K:Frag)(mg:Str->Option Value)(base:Heap)(k:Nat)(x:Str)(f:Addr)(fd:FuncData)(ps:List Str)(sp:Sp):Prop where
 ok:zA P w K mg base CX0 k f fd ps sp
 mg:mg x=some (.ref f)
 kp:keepIn K (.ref f)=true
 bd:zM K fd ps []
theorem cF(c:zC X.prog X.w X.K X.mg X.base k x f fd ps sp)(hr:yg k X.A)(ha:PA X (e::es) t)(hg:Gl X x:=by rfl)(hdb:(x==("__debug__" : Str))=false:=by decide)
  (h1:vF e=false:=by rfl) (h2:es.any vF=false:=by rfl):PE X (.Call (.Name x p) (e::es) [] pos) (zdQ sp [] E0 t):=
 zeg c.ok hr hg c.mg c.kp c.bd .nil zY ha hdb (yV h1) (wq h2)
end
end L2
namespace L2
open PySem PyProof.Rows
theorem jF(K:Frag):kitOne K (.type "NoneType") (.type "str")=some false:=by kernel_rfl
theorem zdp(K:Frag):kitOne K (.type "int") (.type "str")=some false:=by kernel_rfl
theorem jw(K:Frag):kitOne K (.type "int") (.type "list")=some false:=by kernel_rfl
theorem zcc(K:Frag):kitOne K (.type "bool") (.type "str")=some false:=by kernel_rfl
theorem zbu(K:Frag):kitOne K (.type "bool") (.type "bool")=some true:=by kernel_rfl
theorem zdo(K:Frag):kitOne K (.type "str") (.type "str")=some true:=by kernel_rfl
theorem zca(K:Frag):kitOne K (.type "list") (.type "str")=some false:=by kernel_rfl
theorem vp(K:Frag):kitOne K (.type "list") (.type "list")=some true:=by kernel_rfl
theorem zbt(K:Frag):kitOne K (.type "tuple") (.type "str")=some false:=by kernel_rfl
theorem zcb(K:Frag):kitOne K (.type "dict") (.type "str")=some false:=by kernel_rfl
end L2
namespace L2
open PySem PySem.Spec PyProof.Rows
inductive Dt where
 | non|bl (b:Bool)|int (i:Int)|str (z:Str)|tup (ds:List Dt)|lst (ds:List Dt)
def jC:V->Dt->Prop
 | .non,.non=>True
 | .bl a,.bl b=>a=b
 | .int a,.int b=>a=b
 | .str a,.str b=>a=b
 | _,_=>False
def zI(K:Frag)(ok:Addr->Prop)(H:Hp):Nat->V->Dt->Prop
 | 0,x,d=>jC x d
 | n+1,x,d=>jC x d\/(∃a xs ds,x=.ref a/\d=.tup ds/\SqT K H a xs/\Paired (zI K ok H n) xs ds)\/(∃a xs ds,x=.ref a/\d=.lst ds/\ok a/\H a=some (.lst xs)/\Paired (zI K ok H n) xs ds)
section
variable {K:Frag}{ok ok':Addr->Prop}{H H':Hp}
theorem zI.flat{n:Nat}(h:jC x d):zI K ok H n x d:=by
 cases n with
 | zero=>exact h
 | succ n=>exact .inl h
theorem zI.int{n:Nat}{i:Int}:zI K ok H n (.int i) (.int i):=.flat rfl
theorem zI.str{n:Nat}:zI K ok H n (.str z) (.str z):=.flat rfl
theorem zI.tup{n:Nat}(h:SqT K H a xs)(r:Paired (zI K ok H n) xs ds):zI K ok H (n+1) (.ref a) (.tup ds):=.inr (.inl ⟨a,xs,ds,rfl,rfl,h,r⟩)
theorem zI.lst{n:Nat}(o:ok a)(h:H a=some (.lst xs))(r:Paired (zI K ok H n) xs ds):zI K ok H (n+1) (.ref a) (.lst ds):=.inr (.inr ⟨a,xs,ds,rfl,rfl,o,h,r⟩)
theorem zI.frame(hT:∀a xs,SqT K H a xs->SqT K H' a xs)(hL:∀a xs,ok a->H a=some (.lst xs)->ok' a/\H' a=some (.lst xs)):∀{n:Nat}{x:V}{d:Dt},zI K ok H n x d->zI K ok' H' n x d
 | 0,_,_,h=>h
 | n+1,x,d,h=>by
  rcases h with h|⟨a,xs,ds,e1,e2,h,r⟩|⟨a,xs,ds,e1,e2,o,h,r⟩
  ·exact .inl h
  ·exact .inr (.inl ⟨a,xs,ds,e1,e2,hT a xs h,zm (fun _ _ z=>zI.frame hT hL z) r⟩)
  ·exact .inr (.inr ⟨a,xs,ds,e1,e2,(hL a xs o h).1,(hL a xs o h).2,zm (fun _ _ z=>zI.frame hT hL z) r⟩)
theorem zq.sqT(e:zq H H')(h:SqT K H a xs):SqT K H' a xs:=by
 rcases h with (h|⟨o,h⟩)|h
 ·exact .inl (.inl (e _ _ h))
 ·exact .inl (.inr ⟨o,e _ _ h⟩)
 ·exact .inr h
theorem zI.same{n:Nat}(e:zq H H')(h:zI K ok H n x d):zI K ok H' n x d:=h.frame (fun _ _ z=>e.sqT z) fun _ _ o z=>⟨o,e _ _ z⟩
theorem Paired.get{α β : Type}{F : α->β->Prop}:∀{l₁:List α}{l₂:List β}{i:Nat}{a : α},Paired F l₁ l₂->l₁[i]?=some a->∃b,l₂[i]?=some b/\F a b
 | _,_,_,_,.nil,e=>by simp at e
 | _,_,0,_,.cons r _,e=>by simp at e;subst e;exact⟨_,rfl,r⟩
 | _,_,i+1,a,.cons _ t,e=>by
  obtain⟨b,h1,h2⟩:=Paired.get (i:=i) (a:=a) t (by simpa using e)
  exact⟨b,by simpa using h1,h2⟩
theorem zaE(hx:jC x d)(hy:jC y d)(ru:z3 x u)(rv:z3 y v):SeqAt.EqAt A s u v true:=by
 cases d with
 | non=>
  cases x <;> try exact hx.elim
  cases y <;> try exact hy.elim
  cases ru;cases rv;exact SeqAt.EqAt.same _
 | bl b=>
  cases x <;> try exact hx.elim
  cases y <;> try exact hy.elim
  rename_i a c;obtain rfl:a=b:=hx;obtain rfl:c=a:=hy;cases ru;cases rv;exact SeqAt.EqAt.same _
 | int b=>
  cases x <;> try exact hx.elim
  cases y <;> try exact hy.elim
  rename_i a c;obtain rfl:a=b:=hx;obtain rfl:c=a:=hy;obtain⟨t,rfl⟩:=ru;obtain⟨t',rfl⟩:=rv
  have:=SeqAt.EqAt.int_int (A:=A) (s:=s) c t c t'
  simpa using this
 | str b=>
  cases x <;> try exact hx.elim
  cases y <;> try exact hy.elim
  rename_i a c;obtain rfl:a=b:=hx;obtain rfl:c=a:=hy;obtain⟨t,rfl⟩:=ru;obtain⟨t',rfl⟩:=rv
  have:=SeqAt.EqAt.str_str (A:=A) (s:=s) c t c t'
  simpa using this
 | tup ds=>cases x <;> exact hx.elim
 | lst ds=>cases x <;> exact hx.elim
theorem qO(h:jC (.ref a) d):False:=by cases d <;> exact h
theorem vP(n:Nat):((List.range n).all fun _=>true)=true:=by rw[all_eq_true];intro _ _;rfl
theorem uc{X:Cx}{pins:PnL}{σ:St}{s:Shared}(I:Inv X pins σ H s):∀(n:Nat) {A:Around}{x y:V}{d:Dt}{u v:Value},zI X.K ok H n x d->zI X.K ok' H n y d->z3 x u->z3 y v->A.units+n<cLine->SeqAt.EqAt A s u v true
 | 0,A,x,y,d,u,v,hx,hy,ru,rv,_=>zaE hx hy ru rv
 | n+1,A,x,y,d,u,v,hx,hy,ru,rv,hu=>by
  have hin:A.in1.units+n<cLine:=by show A.units+1+n<cLine;omega
  rcases hx with hx|⟨a,xs,ds,rfl,rfl,hx,r⟩|⟨a,xs,ds,rfl,rfl,_,hx,r⟩
  ·rcases hy with hy|⟨b,ys,es,rfl,rfl,hy,q⟩|⟨b,ys,es,rfl,rfl,_,hy,q⟩
   ·exact zaE hx hy ru rv
   ·cases x <;> exact hx.elim
   ·cases x <;> exact hx.elim
  ·rcases hy with hy|⟨b,ys,es,rfl,e2,hy,q⟩|⟨b,ys,es,rfl,e2,_,hy,q⟩
   ·cases y <;> exact hy.elim
   ·cases e2
    cases ru;cases rv;by_cases hab:a=b
    ·subst hab;exact SeqAt.EqAt.same _
    ·obtain⟨ia,va,pa,_⟩:=I.tuple hx
     obtain⟨ib,vb,pb,_⟩:=I.tuple hy;have la:ia.length=ds.length:=by rw[<- va.length,r.length]
     have lb:ib.length=ds.length:=by rw[<- vb.length,q.length]
     have:=SeqAt.RcAt.tuples (A:=A) (s:=s) (e:=fun _=>true) (show s.heap.IsTuple a ia.toArray from pa) (show s.heap.IsTuple b ib.toArray from pb) ∅ (fun j h1 h2=>by
      have j1:j<ia.length:=by simpa using h1
      have j2:j<ib.length:=by simpa using h2
      have hxl:j<xs.length:=by rw[va.length];exact j1
      have hyl:j<ys.length:=by rw[vb.length];exact j2
      obtain⟨u',e1,e2⟩:=va.get (i:=j) (aB hxl);obtain⟨v',e3,e4⟩:=vb.get (i:=j) (aB hyl);obtain⟨d1,f1,f2⟩:=Paired.get r (aB hxl);obtain⟨d2,f3,f4⟩:=Paired.get q (aB hyl);rw[f1] at f3;cases f3;rw[aB j1] at e1;rw[aB j2] at e3;cases e1;cases e3;simpa using uc I n f2 f4 e2 e4 hin)
     rw[vP] at this;have z:(ia.toArray.size==ib.toArray.size)=true:=by simp [la,lb]
     rw[z] at this;exact SeqAt.EqAt.of_refs hab this
   ·cases e2
  ·rcases hy with hy|⟨b,ys,es,rfl,e2,hy,q⟩|⟨b,ys,es,rfl,e2,_,hy,q⟩
   ·cases y <;> exact hy.elim
   ·cases e2
   ·cases e2
    cases ru;cases rv;by_cases hab:a=b
    ·subst hab;exact SeqAt.EqAt.same _
    ·obtain⟨ia,va,pa,_⟩:=I.list (zc hx)
     obtain⟨ib,vb,pb,_⟩:=I.list (zc hy);have la:ia.length=ds.length:=by rw[<- va.length,r.length]
     have lb:ib.length=ds.length:=by rw[<- vb.length,q.length]
     have:=SeqAt.RcAt.lists (A:=A) (s:=s) (e:=fun _=>true) pa.isList pb.isList (by simp [la,lb]) ∅ (fun j h1 h2=>by
      have j1:j<ia.length:=by simpa using h1
      have j2:j<ib.length:=by simpa using h2
      have hxl:j<xs.length:=by rw[va.length];exact j1
      have hyl:j<ys.length:=by rw[vb.length];exact j2
      obtain⟨u',e1,e2⟩:=va.get (i:=j) (aB hxl);obtain⟨v',e3,e4⟩:=vb.get (i:=j) (aB hyl);obtain⟨d1,f1,f2⟩:=Paired.get r (aB hxl);obtain⟨d2,f3,f4⟩:=Paired.get q (aB hyl);rw[f1] at f3;cases f3;rw[aB j1] at e1;rw[aB j2] at e3;cases e1;cases e3;simpa using uc I n f2 f4 e2 e4 hin)
     rw[vP] at this;exact SeqAt.EqAt.of_refs hab this
theorem zed(I:Inv X pins σ H s){n:Nat}(hx:zI X.K ok H (n+1) (.ref a) d)(hy:zI X.K ok' H (n+1) (.ref b) d)(hu:A.units+n+1<cLine):
  SeqAt.RcAt A s (.ref a) (.ref b) true/\SeqAt.RcNeAt A s (.ref a) (.ref b) false:=by
 have hin:A.in1.units+n<cLine:=by show A.units+1+n<cLine;omega
 rcases hx with hx|⟨a,xs,ds,e0,rfl,hx,r⟩|⟨a,xs,ds,e0,rfl,_,hx,r⟩
 ·exact(qO hx).elim
 ·cases e0
  rcases hy with hy|⟨b,ys,es,e1,e2,hy,q⟩|⟨b,ys,es,e1,e2,_,hy,q⟩
  ·exact(qO hy).elim
  ·cases e1;cases e2
   obtain⟨ia,va,pa,_⟩:=I.tuple hx;obtain⟨ib,vb,pb,_⟩:=I.tuple hy;have la:ia.length=ds.length:=by rw[<- va.length,r.length]
   have lb:ib.length=ds.length:=by rw[<- vb.length,q.length]
   have el:∀j (h1:j<ia.toArray.size) (h2:j<ib.toArray.size),SeqAt.EqAt A.in1 s ia.toArray[j] ib.toArray[j] true:=fun j h1 h2=>by
    have j1:j<ia.length:=by simpa using h1
    have j2:j<ib.length:=by simpa using h2
    have hxl:j<xs.length:=by rw[va.length];exact j1
    have hyl:j<ys.length:=by rw[vb.length];exact j2
    obtain⟨u',e1,e2⟩:=va.get (i:=j) (aB hxl);obtain⟨v',e3,e4⟩:=vb.get (i:=j) (aB hyl);obtain⟨d1,f1,f2⟩:=Paired.get r (aB hxl);obtain⟨d2,f3,f4⟩:=Paired.get q (aB hyl);rw[f1] at f3;cases f3;rw[aB j1] at e1;rw[aB j2] at e3;cases e1;cases e3;simpa using uc I n f2 f4 e2 e4 hin
   have z:(ia.toArray.size==ib.toArray.size)=true:=by simp [la,lb]
   have t1:=SeqAt.RcAt.tuples (A:=A) (s:=s) (e:=fun _=>true) (show s.heap.IsTuple a ia.toArray from pa) (show s.heap.IsTuple b ib.toArray from pb) ∅ el
   have t2:=SeqAt.RcNeAt.tuples (A:=A) (s:=s) (e:=fun _=>true) (show s.heap.IsTuple a ia.toArray from pa) (show s.heap.IsTuple b ib.toArray from pb) ∅ el
   rw[vP,z] at t1 t2;exact⟨t1,t2⟩
  ·cases e1;cases e2
 ·cases e0
  rcases hy with hy|⟨b,ys,es,e1,e2,hy,q⟩|⟨b,ys,es,e1,e2,_,hy,q⟩
  ·exact(qO hy).elim
  ·cases e1;cases e2
  ·cases e1;cases e2
   obtain⟨ia,va,pa,_⟩:=I.list (zc hx);obtain⟨ib,vb,pb,_⟩:=I.list (zc hy);have la:ia.length=ds.length:=by rw[<- va.length,r.length]
   have lb:ib.length=ds.length:=by rw[<- vb.length,q.length]
   have el:∀j (h1:j<ia.toArray.size) (h2:j<ib.toArray.size),SeqAt.EqAt A.in1 s ia.toArray[j] ib.toArray[j] true:=fun j h1 h2=>by
    have j1:j<ia.length:=by simpa using h1
    have j2:j<ib.length:=by simpa using h2
    have hxl:j<xs.length:=by rw[va.length];exact j1
    have hyl:j<ys.length:=by rw[vb.length];exact j2
    obtain⟨u',e1,e2⟩:=va.get (i:=j) (aB hxl);obtain⟨v',e3,e4⟩:=vb.get (i:=j) (aB hyl);obtain⟨d1,f1,f2⟩:=Paired.get r (aB hxl);obtain⟨d2,f3,f4⟩:=Paired.get q (aB hyl);rw[f1] at f3;cases f3;rw[aB j1] at e1;rw[aB j2] at e3;cases e1;cases e3;simpa using uc I n f2 f4 e2 e4 hin
   have t1:=SeqAt.RcAt.lists (A:=A) (s:=s) (e:=fun _=>true) pa.isList pb.isList (by simp [la,lb]) ∅ el
   have t2:=SeqAt.RcNeAt.lists (A:=A) (s:=s) (e:=fun _=>true) pa.isList pb.isList (by simp [la,lb]) ∅ el
   rw[vP] at t1 t2;exact⟨t1,t2⟩
inductive zgtJ(K:Frag)(b:Bool)(x:V)(y:V)(H:Hp)(Q:VK):Prop|mk(a c:Addr)(n:Nat)(d:Dt)(ok ok':Addr->Prop):x=.ref a->y=.ref c->n<=20->zI K ok H (n+1) x d->zI K ok' H (n+1) y d->(Q (.bl b) H)->zgtJ K b x y H Q
def zgt(K:Frag)(b:Bool):R2:=fun x y H Q=>zgtJ K b x y H Q
theorem zgH(hu:X.A.units+64<cLine):OpR X (compareOp .Eq) (zgt X.K true):=by
 intro pins s σ H x y v u Q I rx ry h;obtain⟨a,c,n,d,ok,ok',rfl,rfl,hn,hx,hy,q⟩:=h;cases rx;cases ry;exact(zed (A:=X.A) I hx hy ∅).1 X.prog X.w X.xe _ ⟨.bl true,H,I,rfl,q⟩
theorem zgD(hu:X.A.units+64<cLine):OpR X (compareOp .NotEq) (zgt X.K false):=by
 intro pins s σ H x y v u Q I rx ry h;obtain⟨a,c,n,d,ok,ok',rfl,rfl,hn,hx,hy,q⟩:=h;cases rx;cases ry;exact(zed (A:=X.A) I hx hy ∅).2 X.prog X.w X.xe _ ⟨.bl false,H,I,rfl,q⟩
def Ite(K:Frag)(a:Addr):It:=
 ⟨fun i H=>∃xs x,SqL K H a xs/\xs[i]?=some x,fun i H x H'=>∃p y,x=.ref p/\H p=none/\(∀xs,SqL K H a xs->xs[i]?=some y)/\H'=upd H p (.tup [.int i,y]),fun i H=>∃xs,SqL K H a xs/\xs.length<=i⟩
theorem zeN{x1:Nat}(a e it:Addr)(hne:e≠it):
  zae P w K (.Tuple elts x1 tpos) (Ite K a) [e,it] e (fun i h=>(∃old,IsEnum h e it (i:Int) old)/\h.IsListIter it a i) where
 mem:=by simp
 obj:=fun i h st b hb=>by
  rcases List.mem_cons.mp hb with rfl|hb
  ·obtain⟨⟨old,he⟩,_⟩:=st
   exact⟨_,he,fun v q=>by cases q⟩
  ·have e':b=it:=by simpa using hb
   subst e';obtain⟨_,o,ho,_,hd⟩:=st;exact⟨o,ho,fun v q=>by rw[hd] at q;cases q⟩
 keep:=fun i h h' st k=>by
  obtain⟨⟨old,he⟩,o,ho,r⟩:=st;exact⟨⟨old,k e (by simp) _ he⟩,o,k it (by simp) o ho,r⟩
 item:=by
  intro X hP hw hK hc i pins s σ H E I hf st hg;subst hP hw hK;obtain⟨f0,f1,f2,f3,f4,f5⟩:=hf e (by simp)
  obtain⟨g0,g1,g2,g3,g4,g5⟩:=hf it (by simp)
  obtain⟨⟨old,he⟩,hit⟩:=st;obtain⟨xs,x,hS,hx⟩:=hg;obtain⟨its,rv,hp,hz⟩:=I.list hS;obtain⟨u,hu,ru⟩:=rv.get hx;refine wpAny_pyNext_enum_item he hit hp.isList (x:=u) (by simpa using hu) hne fun h' he' hit' htup hsz hk=>?_
  have I0:Inv X pins σ H { s with heap:=h',toks:=s.toks+1 }:=by
   refine I.step (g':=s.gens) (d':=s.drawn) (ch:=[e,it]) (fun b hb=>?_) (fun b o _ _ hc' e1 _=>hk b o (fun z=>hc' (by simp [z])) (fun z=>hc' (by simp [z])) e1) (fun b o _ _ hc' e1 _=>⟨o.slots,hk b o (fun z=>hc' (by simp [z])) (fun z=>hc' (by simp [z])) e1⟩) (fun _ _ _ _ n=>n)
    (fun b o hc' e1=>⟨o,hk b o (fun z=>hc' (by simp [z])) (fun z=>hc' (by simp [z])) e1⟩) (fun _ _ e1=>e1) (fun _ _ _ e1=>e1) (fun b ps e1=>⟨#[],by rw[e1];simp⟩) (fun m hm=>?_) (fun b u' e1=>?_) I.bare
   ·rcases List.mem_cons.mp hb with rfl|hb
    ·exact⟨f3,f1,f4,f5⟩
    ·have e':b=it:=by simpa using hb
     subst e';exact⟨g3,g1,g4,g5⟩
   ·obtain⟨o,es,ep,ho,r⟩:=hm
    exact⟨o,es,ep,hk _ o (Ne.symm f1) (Ne.symm g1) ho,r⟩
   ·have nit:∀c v',H c=some v'->c≠e/\c≠it:=fun c v' q=>⟨fun z=>(by rw[z,f0] at q;cases q),fun z=>(by rw[z,g0] at q;cases q)⟩
    refine(I.hok b u' e1).stay (fun c v' hc' q=>?_) (fun _ q=>q) fun _ _ q=>q;rcases hc' with z|z
    ·subst z;exact hk c v' (nit c _ e1).1 (nit c _ e1).2 q
    ·exact hk c v' (nit c _ z).1 (nit c _ z).2 q
  have hfr:H s.heap.objs.size=none:=I.hok.fresh (aF _);have I1:Inv X pins σ (upd H s.heap.objs.size (.tup [.int i,x])) { s with heap:=h',toks:=s.toks+1 }:=by
   have hok:HOk X.prog X.w (upd H s.heap.objs.size (.tup [.int i,x])) h':=fun b o q=>by
    by_cases hb:b=s.heap.objs.size
    ·subst hb
     rw[za] at q;cases q;exact⟨by show 2<=sizeLine;decide,[.int i s.toks,u],.cons ⟨_,rfl⟩ (.cons ru .nil),⟨_,htup,rfl,_,rfl⟩⟩
    ·rw[zf hb] at q
     exact(I0.hok b o q).stay (fun _ _ _ z=>z) (fun c z=>by rw[zf (ze z hfr)];exact z) fun c xs' z=>by rw[zf (ze z hfr)];exact z
   refine I0.step (s:={ s with heap:=h',toks:=s.toks+1 }) (g':=s.gens) (d':=s.drawn) (h':=h') (t':=s.toks+1) (ch:=[s.heap.objs.size]) (fun b hb=>?_) (fun b o _ _ _ e1 _=>e1) (fun b o _ _ _ e1 _=>⟨o.slots,e1⟩) (fun b o hb e1 n=>by rw[zf (fun z=>hb (by simp [z]))];exact n)
    (fun b o _ e1=>⟨o,e1⟩) (fun b xs' e1=>by rw[zf (ze e1 hfr)];exact e1) (fun b o' u' e1=>by rw[zf (ze e1 hfr)];exact e1) (fun b ps e1=>⟨#[],by rw[zf (ze e1 hfr),e1];simp⟩) (fun m hm=>hm) hok I0.bare
   have e':b=s.heap.objs.size:=by simpa using hb
   subst e';exists .inr I.sz,fun z=>?_,fun y c h z=>?_,fun p hp' z=>?_
   ·have:=I.lt;rw[<- z] at this;exact absurd this (lt_irrefl _)
   ·obtain⟨v',hv⟩:=I.cell y c h
    have:=hv.lt;rw[z] at this;exact absurd this (lt_irrefl _)
   ·have:=I.pin_lt hp';rw[z] at this;exact absurd this (lt_irrefl _)
  exists _,rfl,wpAny_letOwnedTupleGo_enum he' fun h2 he2 hs2=>?_;have nes:s.heap.objs.size≠e:=fun z=>by
   have:=aI (show s.heap.get? e=some _ from he)
   rw[<- z] at this;exact absurd this (lt_irrefl _)
  have nis:s.heap.objs.size≠it:=fun z=>by
   obtain⟨o,ho,_⟩:=hit
   have:=aI ho
   rw[<- z] at this;exact absurd this (lt_irrefl _)
  have I2:Inv X pins σ (upd H s.heap.objs.size (.tup [.int i,x])) { s with heap:=h2,toks:=s.toks+1 }:=
   I1.turned (s:={ s with heap:=h',toks:=s.toks+1 }) (t':=s.toks+1) (it:=e) (fun b o hb q=>(hs2.2 b hb).trans q) (by rw[zf nes.symm];exact f0) f1 f3 f4 f5
  exists .ref s.heap.objs.size,_,I2,rfl,⟨_,x,rfl,hfr,fun xs' h'=>?_,rfl⟩,⟨⟨_,by simpa using he2⟩,?_⟩,fun b hb=>?_
  ·rw[I.list_inj h' hS];exact hx
  ·obtain⟨o,ho,r⟩:=hit'
   exact⟨o,(hs2.2 it (Ne.symm hne)).trans ho,r⟩
  ·rcases List.mem_cons.mp hb with rfl|hb
   ·rw[zf nes.symm];exact f0
   ·have e':b=it:=by simpa using hb
    subst e';rw[zf nis.symm];exact g0
 done:=by
  intro X hP hw hK hc i pins s σ H E I hf st hg;subst hP hw hK;obtain⟨⟨old,he⟩,hit⟩:=st;obtain⟨g0,g1,g2,g3,g4,g5⟩:=hf it (by simp)
  obtain⟨xs,hS,hle⟩:=hg;obtain⟨its,rv,hp,hz⟩:=I.list hS;have hx:its.toArray[i]?=none:=by simp [<- rv.length,hle]
  exact wpAny_pyNext_enum_end (I.ok.hd hc) he hit hp.isList hx fun h' eb=>⟨rfl,I.turned (t':=s.toks) (fun b o hb e1=>eb b o hb e1) g0 g1 g3 g4 g5⟩
 self:=fun A i s Q E st h=>by
  obtain⟨⟨old,he⟩,_⟩:=st;exact wpAny_pyIter_enum he h
variable {x1:Nat}
inductive zmmJ(K:Frag)(R:It->Hp->Prop)(vs:List V)(H1:Hp):Prop|mk(a:_):vs=[.ref a]->(∃xs,SqL K H1 a xs)->(R (Ite K a) H1)->zmmJ K R vs H1
def zmm(K:Frag)(ta:TA):TI:=fun σ H R=>ta σ H fun vs H1=>zmmJ K R vs H1
theorem wC{ta:TA}(hg:Gl X "enumerate")(hm:X.mg "enumerate"=none)(ha:PA X [l] ta)(hl:vF l=false:=by rfl):PI X (.Tuple elts x1 tpos) (.Call (.Name "enumerate" p) [l] [] pos) (zmm X.K ta):=by
 exists ?_;intro pins s σ H R I h;refine Call_ (vK I hg hm PyProof.Rows.boot_enumerate (PyProof.Rows.callWith_type1 (thn (ha pos pins s σ H _ I h) fun us s1 ⟨vs,H1,I1,r1,q1⟩=>?_) (yV hl) rfl));obtain⟨a,e,⟨xs,hS⟩,q⟩:=q1;subst e;obtain⟨u,rfl,ru⟩:=wQ r1;cases ru;obtain⟨its,rv,hp,hz⟩:=I1.list hS;refine call_enumerate_list hp.isList fun h' he hit hsz hk=>?_;refine wpAny_pyIter_enum he ?_;have hfr:∀b,s1.heap.objs.size<=b->H1 b=none:=fun b hb=>I1.hok.fresh hb;have I2:Inv X pins σ H1 { s1 with heap:=h' }:=I1.kept (t':=s1.toks) hk
 exists s1.heap.objs.size+1,[s1.heap.objs.size+1,s1.heap.objs.size],_,_,H1,rfl,I2,zeN a _ _ (Nat.succ_ne_self _),⟨⟨_,he⟩,hit⟩,fun b hb=>?_,q;rcases List.mem_cons.mp hb with rfl|hb
 ·exact I1.fpOk (le_succ _) (hfr _ (le_succ _))
 ·have e':b=s1.heap.objs.size:=by simpa using hb
  subst e';exact I1.fpOk (aF _) (hfr _ (aF _))
end
end L2
namespace Att
open PySem PySem.W PySem.Calls PyProof.Rows
theorem zbQ{ns:List Int}(h:WData.layableAll [WData.list (ns.map WData.int)]=true):∀n∈ns,Builtin.Int.intBits n<=1048576:=fun n hn=>
 PySem.intBits_le_of_layable (layable0_of_all (lay0_int (layableW_item (layW_cons h).1 (.int n) (List.mem_map.mpr ⟨n,hn,rfl⟩))))
theorem zjp{l:OpenLaw}{n:Nat}{q:Program}{loose:List Str}{XP:(Str->Option Value)->Heap->Prop}{YP:World->Heap->Prop}{d:DefRec}
  (hn:l.most=some n) (hdf:d.params.defaults=[])
  (call:∀(w:World) (s₀ s₁:Shared) (mg mb:Str->Option Value) (fa:Addr) (o:Obj) (pm cd doc:Value) (a:Addr) (vs:List Value) (ns:List Int),
   Ground q loose [] XP w s₀ mg mb s₁.heap->YP w s₁.heap->
   s₁.heap.get? fa=some o->o.data=.func (docDef d.name d.params d.body d.scope pm cd doc)->s₁.heap.CodeRec cd d.name->mg d.name=some (.ref fa)->
   s₁.heap.get? a=some { cls:=.type "list",data:=.seq vs.toArray }->IntsAre vs ns->ns.length<=n->(∀m∈ns,Builtin.Int.intBits m<=1048576)->s₁.gens=#[]->
   codeAny (model l.prog w) callerA (.call (.ref fa) ⟨[.ref a],[]⟩) (fun r s'=>r=.ok (.ret (.bool true))/\OldK s₁.heap s'.heap/\s'.os=s₁.os/\AllBare s'.gens) s₁) :
  WalkO q loose XP YP l.row.toRowW d [] (fun f vs=>PySem.call f vs):=by
 intro w s₀ s₁ mg mb G Y fa o pm cd doc dV kV ho hd hcd hD hmg hg args vals as hpre hlay hrd hwl hlo;obtain rfl:dV=.none:=Dflts.none hD hdf;obtain rfl:kV=.none:=Dflts.noKw hD;obtain⟨a,vs,ns,rfl,rfl,hobj,hints,hlen⟩:=zeQ hn hpre hwl;refine enter_call (codeAny_mono (call w s₀ s₁ mg mb fa o pm cd doc a vs ns G Y ho (fd_plain hd) hcd hmg hobj hints hlen (zbQ hlay) hg) fun r s' hq=>?_);obtain⟨rfl,h2,h3,h4⟩:=hq;exact⟨.inl ⟨.bool true,.bool true,[],rfl,fun _=>rfl,.bool true,zeW l _,fun _=>⟨List.Pairwise.nil,fun _ hm=>(nomatch hm)⟩⟩,h2,h3,h4⟩
end Att
namespace L2
open PySem PySem.Spec PyProof.Rows
theorem zlp{l:PySem.W.OpenLaw}{n k:Nat}{q:Program}{loose:List Str}{XP:(Str->Option Value)->Heap->Prop}{YP:World->Heap->Prop}{d:DefRec}{K:Params->Frag}{CX:World->CXT}{sp:World->Sp}{x:Str}
  (hn:l.most=some n) (hn2:n<=sizeLine) (hdf:d.params.defaults=[]) (hr:yg k callerA)
  (hY:∀(w:World) (h:Heap),YP w h->(K w.params).In h)
  (F:∀(w:World) (mg:Str->Option Value) (fa:Addr) (h:Heap),(K w.params).In h->h.Ns mainGlobals mg->mg d.name=some (.ref fa)->
   ∃fd:FuncData,(∀(s:Shared) (u:Value),BindsTo s fd ⟨[u],[]⟩ [(x,u)])/\
    ∀base:Heap,(K w.params).In base->base.Ns mainGlobals mg->zA l.prog w (K w.params) mg base (CX w) k fa fd [x] (sp w))
  (hsp:∀(w:World) (H:Hp) (a:Addr) (ns:List Int),ns.length<=n->(∀m∈ns,Builtin.Int.intBits m<=1048576)->zlj H->SqL (K w.params) H a (ns.map V.int)->sp w [.ref a] H (fun v _=>v=.bl true) fun _ _ _=>False)
  (hCX:∀(w:World) (H:Hp) (s:Shared) (e:Value) (s':Shared),CX w [] H s (fun _ _ _=>False) e s'->False) :
  PySem.W.WalkO q loose XP YP l.row.toRowW d [] (fun f vs=>PySem.call f vs):=by
 refine Att.zjp hn hdf fun w s₀ s₁ mg mb fa o pm cd doc a vs ns G Y ho hd hcd hmg hobj hints hlen hbits hg=>?_;have KX:=hY w _ Y;obtain⟨fd,hb,hF⟩:=F w mg fa _ KX G.T.g hmg;exact zhj KX G.T.g G.T.b G.T.builtins G.T.nolimit hg hobj hints (le_trans hlen hn2) hr hF hb (fun H hO hS=>hsp w H a ns hlen hbits hO hS) fun H e s'=>hCX w H s₁ e s'
section
theorem ziy:OpR X (binaryOp .Mult) (rI IntMulOk fun i j=>.int (i * j)):=opI fun _ _ _ _ _ _ _ hc q=>mul_int q hc
structure qV(K:Frag)(x qual:Str)(st:Stmt)(f:Addr)(fd:FuncData)(items:List Value):Prop where
 ex:∃(oc:Value) (od:Option Addr) (T:Addr) (kV doc pm:Value) (an:Option Addr) (cdv ct:Value) (osl:Array (Option Value)) (o:Obj) (n:Nat),
  fd=fnOf x qual (yh st) (z9 st) (zi st) (.ref T) kV doc pm an cdv ct/\K.lookup f=some ⟨oc,od,.func fd,osl⟩/\codeIn K cdv qual=true/\K.lookup T=some o/\o.data=.seq items.toArray n
 kp:keepIn K (.ref f)=true
variable {mg:Str->Option Value}
theorem qV.ok{P:Program}{w:World}{K:Frag}{base:Heap}{x qual:Str}{st:Stmt}{f:Addr}{fd:FuncData}{items:List Value}{N ps:List Str}{k:Nat}{sp:Sp}(F:qV K x qual st f fd items)(S:zp N ps (zi st))(len:∀vs H Q E,sp vs H Q E->vs.length=ps.length)
  (hbody:∀(cdv:Value) (A:Around) (outer:List Env) (s:Shared) (H:Hp) (vs:List V) (Q:VK) (E:XK),yg k (A.deeper (envOfC qual (zi st) s.heap.objs.size f cdv))->sp vs H Q E->
   ∃t,PSs (zaa CX0 P w K mg base N qual (zi st) f cdv A outer s H E).nox (z9 st) t/\t { nx:=fun _ H'=>Q .non H',rt:=Q } (ul N vs) H):zA P w K mg base CX0 (k+1) f fd ps sp:=by
 obtain⟨oc,od,T,kV,doc,pm,an,cdv,ct,osl,o,n,rfl,lk,hcd,_,_⟩:=F.ex;refine zhB lk hcd S len fun A outer s H vs Q E hr hsp=>?_;obtain⟨t,h,q⟩:=hbody cdv A outer s H vs Q E hr hsp;exact⟨t,h.nox,q⟩
theorem qV.bindsTo{K:Frag}{x qual:Str}{st:Stmt}{f:Addr}{fd:FuncData}{items:List Value}(F:qV K x qual st f fd items){args:Args}{bs:List (Str×Value)}
  (h:∀(T:Addr) (kV doc pm:Value) (an:Option Addr) (cdv ct:Value),∃k:Option (Array Value)->Sem (List (Str×Value)),
   bindArgs (fnOf x qual (yh st) (z9 st) (zi st) (.ref T) kV doc pm an cdv ct) args=seqItems? (.ref T) >>= k/\k (some items.toArray)=pure bs) {s:Shared}(KX:K.In s.heap):BindsTo s fd args bs:=by
 obtain⟨oc,od,T,kV,doc,pm,an,cdv,ct,osl,o,n,rfl,lk,hcd,lt,hs⟩:=F.ex;obtain⟨k,h1,h2⟩:=h T kV doc pm an cdv ct;exact BindsTo.of_defaults (T:=T) (n:=n) rfl (KX _ _ lt) hs h1 h2
theorem zjb{K:Frag}{x qual:Str}{st:Stmt}{f T:Addr}{oc:Value}{od an:Option Addr}{osl:Array (Option Value)}{kV doc pm cdv ct:Value}{o:Obj}{n:Nat}{items:List Value}
  (l:K.lookup f=some ⟨oc,od,.func (fnOf x qual (yh st) (z9 st) (zi st) (.ref T) kV doc pm an cdv ct),osl⟩)
  (c:codeIn K cdv qual=true) (k:keepIn K (.ref f)=true) (lT:K.lookup T=some o) (hs:o.data=.seq items.toArray n) :
  qV K x qual st f (fnOf x qual (yh st) (z9 st) (zi st) (.ref T) kV doc pm an cdv ct) items:=⟨⟨oc,od,T,kV,doc,pm,an,cdv,ct,osl,o,n,rfl,l,c,lT,hs⟩,k⟩
variable {CX:CXT}{k:Nat}{sp:Sp}{t tk:TA}{g:List Value->List Value->List Value}{gV:List V->List V->List V}
theorem xC{t u:TS}(R:St->Hp->Prop)(h2:∀σ H,R σ H->u D σ H)(h1:(∀σ H,R σ H->u D σ H)->t { D with nx:=u D } σ H):uW t u D σ H:=h1 h2
def lcN(n i:Nat)(D:Addr)(Pv:Nat->List V->Hp->Prop)(ys:List V):VK:=fun v H4=>H4 D=some (.lst ys)/\ys.length<sizeLine/\∃m',m'<n - i/\m'=n - (i+1)/\i+1<=n/\Pv (i+1) (ys++[v]) (upd H4 D (.lst (ys++[v])))
def lcS(n i:Nat)(Pv:Nat->List V->Hp->Prop)(ys:List V):Hp->Prop:=fun H4=>∃m',m'<n - i/\m'=n - (i+1)/\i+1<=n/\Pv (i+1) ys H4
theorem lcN.mk{n i:Nat}{Pv:Nat->List V->Hp->Prop}(hi:i<n)(hn:n<=sizeLine)(hD:H4 D=some (.lst ys))(hy:ys.length<=i)(p:Pv (i+1) (ys++[v]) (upd H4 D (.lst (ys++[v])))):lcN n i D Pv ys v H4:=
 ⟨hD,∅,n - (i+1),∅,rfl,hi,p⟩
theorem lcS.mk{n i:Nat}{Pv:Nat->List V->Hp->Prop}(hi:i<n)(p:Pv (i+1) ys H4):lcS n i Pv ys H4:=⟨n - (i+1),∅,rfl,hi,p⟩
theorem wF{K:Frag}{a:Addr}{xs:List V}{caps:List (Option Nat)}{g:TG}{tt:TT}{te:TE}{σ : St}{H1:Hp}{Q:VK}{D:Addr}(Pv:Nat->List V->Hp->Prop)(h0:Pv 0 [] (upd H1 D (.lst [])))
  (hl:∀i ys H,Pv i ys H->SqL K H a xs)
  (hs:∀i x ys H,i<xs.length->xs[i]?=some x->Pv i ys H->g x (xh caps σ) H fun σ2 H2=>tt σ2 H2 fun ok H3=>(ok=true->te σ2 H3 (lcN xs.length i D Pv ys))/\(ok=false->lcS xs.length i Pv ys H3))
  (hd:∀ys H,Pv xs.length ys H->Q (.ref D) H):LCr (Itl K a) caps g tt te σ H1 Q D:=by
 exists fun i m ys H=>m=xs.length - i/\i<=xs.length/\Pv i ys H,⟨xs.length,by simp,zero_le _,h0⟩,?_
 rintro i m ys H ⟨rfl,hi,p⟩;have q:=hl i ys H p;by_cases hlt:i<xs.length
 ·refine .inr ⟨⟨xs,xs[i],q,by simp [hlt]⟩,fun x H' y=>?_⟩
  obtain⟨e,y⟩:=y;subst e;exact hs i x ys _ hlt (y xs q) p
 ·have e:i=xs.length:=by omega
  subst e;exact .inl ⟨⟨xs,q,aF _⟩,hd ys H p⟩
theorem vU(hx:H x=none)(hd:H dx=none):zq H (upd (upd (upd H dx (.own x)) x o1) x o2):=fun b u q=>by
 rw[zf (ze q hx),zf (ze q hx),zf (ze q hd)];exact q
theorem yQ(hx:H x=none)(hd:H dx=none):zq H (upd (upd H dx (.own x)) x o1):=fun b u q=>by
 rw[zf (ze q hx),zf (ze q hd)];exact q
theorem zg(h:H p=none)(o:HO):zq H (upd H p o):=fun b u q=>by rw[zf (ze q h)];exact q
end
end L2
namespace L2
open PySem
theorem nS(h:H p=none)(e:upd H p o=H'):zq H H':=e ▸ zg h o
theorem nE(e:upd H p o=H'):H' p=some o:=e ▸ za
end L2
local macro_rules|`(tactic|injections $l:ident $h:ident $H:ident $s:ident $e:ident)=>`(tactic|(generalize hE:L2.upd _ $l _=$H:ident;have $s:ident:=L2.nS $h hE;have $e:ident:=L2.nE hE;clear hE))
namespace L2
open PySem PySem.Spec PyProof.Rows
theorem uK{lo:Int}{n:Nat}{g:TG}{tt:TT}{te:TE}{Q:VK}(Pv:Nat->List V->Hp->Prop)(h0:Pv 0 [] (upd H1 D (.lst [])))
  (hs:∀i ys H,i<n->Pv i ys H->g (.int (lo+i)) (xh caps σ) H fun σ2 H2=>tt σ2 H2 fun ok H3=>(ok=true->te σ2 H3 (lcN n i D Pv ys))/\(ok=false->lcS n i Pv ys H3))
  (hd:∀ys H,Pv n ys H->Q (.ref D) H):LCr (Itr lo n) caps g tt te σ H1 Q D:=by
 exists fun i m ys H=>m=n - i/\i<=n/\Pv i ys H,⟨n,by simp,zero_le _,h0⟩,?_
 rintro i m ys H ⟨rfl,hi,p⟩;by_cases hlt:i<n
 ·refine .inr ⟨hlt,fun x H' y=>?_⟩
  obtain⟨e,y⟩:=y;subst e y;exact hs i ys _ hlt p
 ·have e:i=n:=by omega
  subst e;exact .inl ⟨aF _,hd ys H p⟩
theorem zer{K:Frag}{a:Addr}{xs:List V}{caps:List (Option Nat)}{g:TG}{tt:TT}{te:TE}{σ : St}{H1:Hp}{Q:VK}{D:Addr}(Pv:Nat->List V->Hp->Prop)(h0:Pv 0 [] (upd H1 D (.lst [])))
  (hl:∀i ys H,Pv i ys H->SqL K H a xs)
  (hs:∀i x p ys H,i<xs.length->xs[i]?=some x->Pv i ys H->H p=none->g (.ref p) (xh caps σ) (upd H p (.tup [.int i,x])) fun σ2 H2=>tt σ2 H2 fun ok H3=>(ok=true->te σ2 H3 (lcN xs.length i D Pv ys))/\(ok=false->lcS xs.length i Pv ys H3))
  (hd:∀ys H,Pv xs.length ys H->Q (.ref D) H):LCr (Ite K a) caps g tt te σ H1 Q D:=by
 exists fun i m ys H=>m=xs.length - i/\i<=xs.length/\Pv i ys H,⟨xs.length,by simp,zero_le _,h0⟩,?_
 rintro i m ys H ⟨rfl,hi,p⟩;have q:=hl i ys H p;by_cases hlt:i<xs.length
 ·refine .inr ⟨⟨xs,xs[i],q,by simp [hlt]⟩,fun x H' y=>?_⟩
  obtain⟨pp,y,rfl,hp,y2,rfl⟩:=y;exact hs i y pp ys H hlt (y2 xs q) p hp
 ·have e:i=xs.length:=by omega
  subst e;exact .inl ⟨⟨xs,q,aF _⟩,hd ys H p⟩
theorem vL{K:Frag}{a:Addr}{xs:List V}{g:TG}{tb:TS}{D:ve}{σ : St}{H:Hp}(Pv:Nat->St->Hp->Prop)(h0:Pv 0 σ H)(hl:∀i σ H,i<=xs.length->Pv i σ H->SqL K H a xs)
  (hs:∀i x p σ H,xs[i]?=some x->Pv i σ H->H p=none->g (.ref p) σ (upd H p (.tup [.int i,x])) fun σ2 H2=>tb { D with nx:=Pv (i+1),ct:=Pv (i+1),bk:=D.nx } σ2 H2) (hd:∀σ H,Pv xs.length σ H->D.nx σ H) :
  ∃W:Nat->Nat->St->Hp->Prop,(∃m,W 0 m σ H)/\∀i m σ H,W i m σ H->
   ((Ite K a).stop i H/\D.nx σ H)\/((Ite K a).go i H/\∃N:St->Hp->Prop,(∀σ' H',N σ' H'->∃m',m'<m/\W (i+1) m' σ' H')/\∀x H',(Ite K a).yld i H x H'->g x σ H' fun σ2 H2=>tb { D with nx:=N,ct:=N,bk:=D.nx } σ2 H2):=by
 exists fun i m σ H=>m=xs.length - i/\i<=xs.length/\Pv i σ H,⟨xs.length,by simp,zero_le _,h0⟩,?_
 rintro i m σ H ⟨rfl,hi,p⟩;have q:=hl i σ H hi p;by_cases hlt:i<xs.length
 ·refine .inr ⟨⟨xs,xs[i],q,by simp [hlt]⟩,Pv (i+1),fun σ' H' p'=>⟨xs.length - (i+1),∅,rfl,hlt,p'⟩,fun x H' y=>?_⟩
  obtain⟨pp,y,rfl,hp,y2,rfl⟩:=y;exact hs i y pp σ H (y2 xs q) p hp
 ·have e:i=xs.length:=by omega
  subst e;exact .inl ⟨⟨xs,q,aF _⟩,hd σ H p⟩
theorem zjq{α : Type}{xs:List α}{i:Int}(h0 : 0<=i)(h1:i<xs.length):∃x,x∈xs/\atI xs i=some x/\xs[i.toNat]?=some x:=by
 obtain⟨k,rfl⟩:=eq_ofNat_of_zero_le h0;have hk:k<xs.length:=by omega
 exact⟨xs[k],getElem_mem hk,yF (aB hk),by simp [hk]⟩
section
variable {E:VSP}
theorem zaC{X:Cx}(hstk:X.stack=X.env::X.outer)(hfl:X.env.frame=some X.env.locals):frs X.stack=X.env.locals::frs X.outer:=by
 rw[hstk];unfold frs;rw[filterMap_cons,hfl]
theorem HOk.sameAt(x:HOk P w H h)(k:∀b u o,H b=some u->h.get? b=some o->h'.get? b=some o):HOk P w H h':=fun a o e=>
 (x a o e).stay (fun b u hb q=>by
  rcases hb with z|z
  ·exact k b o u (by rw[z];exact e) q
  ·exact k b _ u z q) (fun _ q=>q) fun _ _ q=>q
theorem HOk.rec(x:HOk P w H h)(e:H b=some u):∃o,h.get? b=some o:=by
 have q:=x b u e;cases u with
 | lst xs=>obtain⟨_,_,_,_,e⟩:=q;exact⟨_,e⟩
 | tup xs=>obtain⟨_,_,_,o,e,_⟩:=q;exact⟨_,e⟩
 | dK kvs=>obtain⟨_,_,_,_,o,_,_,e,_⟩:=q;exact⟨_,e⟩
 | dT kvs=>obtain⟨_,_,_,_,o,_,_,e,_⟩:=q;exact⟨_,e⟩
 | set S n=>obtain⟨o,_,_,_,e,_⟩:=q;exact⟨_,e⟩
 | ins C dx fs=>obtain⟨_,_,_,e,_⟩:=q;exact⟨_,e⟩
 | own y=>exact q
 | xd fs=>obtain⟨_,⟨o,_,_,e,_⟩,_⟩:=q;exact⟨_,e⟩
 | rng lo hi=>obtain⟨_,_,_,e⟩:=q;exact⟨_,e⟩
 | frz ob u=>obtain⟨e,_⟩:=q;exact⟨_,e⟩
 | tbl ps=>exact⟨_,q⟩
 | met f y=>exact⟨_,q⟩
 | ext φ=>exact q.2.1
end
section
variable {t:TA}
variable {mg:Str->Option Value}
variable {k:Nat}{sp:Sp}
theorem Inv.track(I:Inv X pins σ H s)(hn:H a=none)(new:yD X.prog X.w (upd H a o) s.heap a o)(h0:∀u,X.s₀.heap.get? a=some u->X.H₀ a=none->a∉X.ex->False)(hL:X.env.locals≠a)
  (hc:∀x c,X.env.cells.lookup x=some c->c≠a) (hp:∀p∈X.pn++pins,p.1≠a):Inv X pins σ (upd H a o) s:=by
 exists I.ok,I.os,I.bare,⟨I.base.keep,I.base.slot,fun b u e n x=>?_,I.base.there,fun b xs e=>?_,fun b u v e=>?_,fun b ps e=>?_⟩,I.loc,I.cell,?_,fun x c e=>?_,fun p hp'=>?_,fun b u e=>?_,I.len
 ·have hb:b≠a:=fun z=>by subst z;exact h0 u e n x
  rw[zf hb];exact I.base.free b u e n x
 ·have e1:=I.base.tups b xs e
  rw[zf (ze e1 hn)];exact e1
 ·have e1:=I.base.frzs b u v e
  rw[zf (ze e1 hn)];exact e1
 ·obtain⟨more,e1⟩:=I.base.tbls b ps e
  exact⟨more,by rw[zf (ze e1 hn)];exact e1⟩
 ·rw[zf hL];exact I.free
 ·rw[zf (hc x c e)];exact I.freeC x c e
 ·obtain⟨q1,q2,q3⟩:=I.pin p hp'
  exact⟨q1,by rw[zf (hp p hp')];exact q2,q3⟩
 ·by_cases hb:b=a
  ·subst hb;rw[za] at e;cases e;exact new
  ·rw[zf hb] at e
   exact(I.hok b u e).stay (fun _ _ _ q=>q) (fun c q=>by rw[zf (ze q hn)];exact q) fun c xs q=>by rw[zf (ze q hn)];exact q
end
section
variable {X:Cx}{pins:PnL}{σ:St}{H:Hp}{s:Shared}{A:Around}{E:VSP}{i:Nat}
structure PE1(X:Cx)(pins:PnL)(σ : St)(e:Expr)(t:TE):Prop where
 run:∀(s:Shared) (H:Hp) (Q:VK),Inv X pins σ H s->t σ H Q->↑X (eval e X.env) (EP X pins σ Q) X.xe s
structure PS1(X:Cx)(pins:PnL)(σ : St)(st:Stmt)(t:TS):Prop where
 run:∀(s:Shared) (H:Hp) (D:ve),Inv X pins σ H s->t D σ H->↑X (exec st X.env) (SP X pins D) X.xe s
end
section
variable {te ta:TE}{t tr:TA}{k:Nat}{sp:Sp}
theorem zkv{i:Nat}(hN:X.N.Nodup)(hi:X.N[i]?=some x)(hx:Loc X.env.scope x)(he:PE1 X pins σ e te)(hs:swapsWith e (some (.Name x pos')) pos.line X.env=pure false:=by rfl)
  (hf:X.fn x=true\/X.env.scope.names.lookup x=some .local:=by first|exact .inl rfl|exact .inr rfl|assumption):PS1 X pins σ (.Assign [.Name x pos'] e pos) (zhV te (zD i)):=by
 exists fun s H D I h=>?_;refine wpAny_Assign_Name (thn (he.run s H _ I h) fun v s1 ⟨y,H1,I1,r1,q1⟩=>?_) hs;exact j4 I1 hN hi hx r1 (fun s2 I2=>⟨_,H1,I2,q1⟩) hf
abbrev Cx.suite(X:Cx)(ea:Addr):Cx:={ X with A:=X.A.mark (~~~ea),calm:=false,xe:=fun _ _=>False }
theorem Inv.suite(I:Inv X pins σ H s)(ea:Addr):Inv (X.suite ea) pins σ H s:=
 ⟨⟨I.ok.mod,I.ok.kind,I.ok.glob,I.ok.blt,I.ok.above,I.ok.inj,I.ok.has,I.ok.cab,(fun z=>Bool.noConfusion z),I.ok.frames,I.ok.stk,I.ok.exf,I.ok.bs,I.ok.bsz,I.ok.noex,I.ok.exfs,I.ok.funs,I.ok.frf⟩,I.os,I.bare,I.base,I.loc,I.cell,I.free,I.freeC,I.pin,I.hok,I.len⟩
theorem wK(hok:X.Ok)(I:Inv (X.suite ea) pins σ H s):Inv X pins σ H s:=
 ⟨hok,I.os,I.bare,I.base,I.loc,I.cell,I.free,I.freeC,I.pin,I.hok,I.len⟩
abbrev zlr(X:Cx)(pins:PnL)(D:ve)(hs:List ExceptHandler):Value->Shared->Prop:=fun e s₁=>
 ↑X (noteFrame e X.env) (fun _ s₂=>↑X (setFlight e none) (fun _ s₃=>↑X (handleBy e X.env hs) (SP X pins D) X.xe s₃) X.xe s₂) X.xe s₁
variable {i:Nat}{tb:XK->TS}{ts:TS}{ok:Value->Prop}
end
end L2
namespace L2
open PySem PySem.W PySem.Builtin PySem.Builtin.ObjectAttr PySem.Builtin.Getset_descriptor PySem.Spec PyProof.Rows
structure vR(K:Frag)(D:Addr):Prop where
 cd:(clsIn K D).isSome=true
 ga:findIn K (.ref D) "__getattribute__"=some (some (.builtin "BaseException.__getattribute__"))
 no:findIn K (.ref D) "__getattr__"=some none
 cl:findIn K (.ref D) "__class__"=some (some (.builtin "object.__class__"))
 gt:specialIn K (.builtin "object.__class__") "__get__"=some (some (.builtin "getset_descriptor.__get__"))
 tk:takesIn K (.builtin "object.__class__")=some true
 be:mroIn K D (.type "BaseException")=some true
 ob:mroIn K D (.type "object")=some true
section
variable {E:VSP}
end
end L2
namespace L2
open PySem PySem.Spec PyProof.Rows
section
variable {mg:Str->Option Value}
variable {k:Nat}{sp:Sp}{t:TA}
end
section
variable {w:World}{E:VSP}{n:Int}
variable {o i:Expr}{to ti:TE}
inductive zmWJ(x:V)(y:V)(H:Hp)(Q:VK):Prop|mk(a c:Addr)(xs ys:List V):x=.ref a->y=.ref c->H a=some (.lst xs)->H c=some (.lst ys)->xs.length≠ys.length->(Q (.bl false) H)->zmWJ x y H Q
def zmW:R2:=fun x y H Q=>zmWJ x y H Q
theorem zgI(hu:X.A.units<cLine):OpR X (compareOp .Eq) zmW:=by
 intro pins s σ H x y v u Q I rx ry h;obtain⟨a,c,xs,ys,rfl,rfl,ha,hc,hn,q⟩:=h;cases rx;cases ry;obtain⟨its,r,pl,_⟩:=I.list (zc ha);obtain⟨its2,r2,pl2,_⟩:=I.list (zc hc);have e1:=r.length;have e2:=r2.length;exact PySem.SeqAt.eq_list_lengthsAt pl.isList pl2.isList (by simp only[size_toArray,bne_iff_ne];omega) hu ⟨.bl false,H,I,rfl,q⟩
variable {te:TE}{C:Addr}{x:Str}
structure Mk0(K:Frag)(C:Addr):Prop where
 makes:makesIn K C=true
 init:findIn K (.ref C) "__init__"=some (some (.builtin "object.__init__"))
 kp:keepIn K (.ref C)=true
def zmH(C:Addr):TE:=fun _ H Q=>∀x dx,H x=none->H dx=none->dx≠x->Q (.ref x) (upd (upd H dx (.own x)) x (.ins C dx []))
theorem zgy(M:Mk0 X.K C)(hg:Gl X x)(hm:X.mg x= ~~~C)(hdb:(x==("__debug__" : Str))=false:=by decide):PE X (.Call (.Name x p) [] [] pos) (zmH C):=by
 and_intros;refine wpAny_Call_Name_kw (wE I hg hm ?_ hdb);refine callWith_K0 I.kIn M.kp ?_;have hq:=h (s.heap.objs.size+1) s.heap.objs.size (I.hok.fresh (le_succ _)) (I.hok.fresh (aF _)) (ne_of_lt (lt_succ_self _));have I2:=Inv.made (C:=C) I;have Y:=makes_of (M:=model X.prog X.w) I.kIn M.makes;refine wpAny_call (zfa I.kIn M.makes M.init (fun self=>PySem.W.Looks.of_pure (PySem.W.oi_bind self)) ?_);have e2:((s.heap.push emptyDict).push (instObj C s.heap.objs.size)).get? (s.heap.objs.size+1)=some (instObj C s.heap.objs.size):=by
  have:=zgs (s.heap.push emptyDict) (o:=instObj C s.heap.objs.size) rfl
  rwa [Heap.size_push] at this
 have t1:Looks (model X.prog X.w) ((s.heap.push emptyDict).push (instObj C s.heap.objs.size)) (typeOf (.ref (s.heap.objs.size+1))) (.ref C):=(PySem.W.Looks.ld e2).andThen .now;have t2:Looks (model X.prog X.w) ((s.heap.push emptyDict).push (instObj C s.heap.objs.size)) (isInstance (.ref (s.heap.objs.size+1)) (.type "object")) true:=
  t1.andThen (Y.top.keeps fun b o e=>zgp _ (zgp _ e))
 refine codeAny_call_builtin PySem.W.oi_plain PySem.W.entry_oi (@PySem.W.check_slot (model X.prog X.w) _ _ _ "object.__init__" "object" "__init__" (.ref (s.heap.objs.size+1)) [] [] _ PySem.W.oi_kind PySem.W.oi_split t2 (PySem.W.oi_args (.ref (s.heap.objs.size+1))) ?_);rw[PySem.W.oi_run];exact zwp (And.intro rfl ⟨V.ref (s.heap.objs.size+1),_,I2,rfl,hq⟩)
theorem ww{H H1:Hp}{x dx:Addr}{o1 o2:HO}(hx:H x=none)(hd:H dx=none)(s:zq (upd (upd H dx (.own x)) x o1) H1):zq H (upd H1 x o2):=fun b u q=>by
 rw[zf (ze q hx)];exact s _ _ (yQ hx hd b u q)
structure jr(P:Program)(w:World)(K:Frag)(mg:Str->Option Value)(base:Heap)(CX:CXT)(k:Nat)(x:Str)(C i:Addr)(fd:FuncData)(ps:List Str)(ds:List Value)(sp:Sp):Prop where
 mkr:Mk K C i
 ok:zA P w K mg base CX k i fd ps sp
 mg:mg x=some (.ref C)
 bd:zM K fd ps ds
end
section
variable {CX:CXT}{k:Nat}{C i f:Addr}{sp:Sp}{E:XK}{x m:Str}{es:List Expr}{t tk:TA}{g:List Value->List Value->List Value}{gV:List V->List V->List V}
theorem cMk(c:jr X.prog X.w X.K X.mg X.base CX k x C i fd ps ds sp)(hd:zX dvs ds)(hp:xO CX X E)(hr:yg (k+1) X.A)(ha:PA X (e::es) t)(hg:Gl X x:=by rfl)(hdb:(x==("__debug__" : Str))=false:=by decide)
  (h1:vF e=false:=by rfl) (h2:es.any vF=false:=by rfl):PE X (.Call (.Name x p) (e::es) [] pos) (zjw C sp dvs E t):=zbo c.mkr c.ok hr hg c.mg c.bd hd hp ha hdb (yV h1) (wq h2)
structure qY(K:Frag)(C:Addr)(m:Str)(f:Addr):Prop where
 ga:specialIn K (.ref C) "__getattribute__"=some (some (.builtin "type.__getattribute__"))
 rd:PySem.W.readsIn K C (.type "type")=true
 fc:PySem.W.findCls K (.ref C) (.type "type") m=some (.val (.ref f))
 kp:keepIn K (.ref f)=true
theorem zbW(B:qY X.K C m f)(hm:X.mg x= ~~~C)(F:zA X.prog X.w X.K X.mg X.base CX k f fd ps sp)(hr:yg k X.A)(hb:zM X.K fd ps [])(hx:xO CX X E)(ha:PA X (e::es) t)(hg:Gl X x:=by rfl)
  (hdb:(x==("__debug__" : Str))=false:=by decide) (h1:vF e=false:=by rfl) (h2:es.any vF=false:=by rfl)
  (ht:eval (.Call (.Attribute (.Name x p) m apos) (e::es) [] pos) X.env=(do
   let ov <- eval (.Name x p) X.env
   standAt apos.atName
   let (f,first) <- holding [ov] (getMethod ov m pl)
   callWith pos f first (backTo pos (starEach (e::es) X.env)) (backToKw pos (keywordEach [] X.env))):=by rfl) :
  PE X (.Call (.Attribute (.Name x p) m apos) (e::es) [] pos) (zdQ sp [] E t):=by
 and_intros;refine methodCall_KW (pl:=pl) (wE I hg hm ?_ hdb) ht;refine PySem.W.method_cls I.kIn B.ga (PySem.W.cls_value I.kIn B.rd B.fc rfl ?_);have It:=I.tok (s.toks+1);refine callWith_K (first:=[]) (h₀:=X.base) I.ok.mod.kin B.kp (thn (ha pos pins _ σ H _ It h) fun us s2 ⟨vs,H2,I2,r,q2⟩=>⟨I2.kIn,?_⟩) (yV h1) (wq h2)
 exact qm F hr hb .nil hx I2 r q2
theorem wj{X:Cx}{st:Stmt}:PS X st (fun _ _ _=>False):=⟨fun _ _ _ _ _ _ h=>h.elim⟩
def znx(P:Program)(w:World)(a:Addr)(S:Str->Bool)(n:Nat)(h:Heap):Prop:=h.SetOf (strKind P w) a S n
abbrev vC(P:Program)(w:World)(a:Addr)(S:Str->Bool)(n:Nat):HO:=.ext (znx P w a S n)
theorem za2{S:Str->Bool}{n:Nat}(e:h.SetOf (strKind P w) a S n):yD P w H h a (vC P w a S n):=
 ⟨e,let ⟨o,_,_,_,h1,_⟩:=e;⟨o,h1⟩,fun g1 g2 q k=>let ⟨o,es,ep,t,h1,c⟩:=q;⟨o,es,ep,t,k o h1,c⟩⟩
theorem zfv:xQ X (.type "set") (fun xs H Q=>xs=[]/\∀p,H p=none->Q (.ref p) (upd H p (vC X.prog X.w p (fun _=>false) 0))):=by
 intro pins s σ H xs us Q I r h;obtain⟨rfl,q⟩:=h;cases r;refine call_set_0 fun led=>?_;have hf:H s.heap.objs.size=none:=I.hok.fresh (aF _);exists .ref s.heap.objs.size,_,I.laid (t':=s.toks) (fun b u e=>zgp _ e) (aF _) (za2 ?_),rfl,q _ hf;exact(setObjOf_fresh led).setOf (zgs _ rfl) ⋯
theorem qy:OpR X (compareOp .In) (fun x y H Q=>∃(a:Addr) (S:Str->Bool) (n:Nat) (z:Str),x=.str z/\y=.ref a/\H a=some (vC X.prog X.w a S n)/\Q (.bl (S z)) H):=by
 intro pins s σ H x y v u Q I rx ry h;obtain⟨a,S,n,z,rfl,rfl,e,q⟩:=h;obtain⟨t,rfl⟩:=rx;cases ry;have hS:s.heap.SetOf (strKind X.prog X.w) a S n:=(I.hok a _ e).1;exact wpAny_inSet_of (strKind_is X.prog X.w z t) rfl hS ⟨.bl (S z),H,I.tok _,rfl,q⟩
inductive zltJ(P:Program)(w:World)(te:TE)(σ:St)(Q:VK)(x:V)(H1:Hp):Prop|mk(a:Addr)(S:Str->Bool)(n:Nat):x=.ref a->H1 a=some (vC P w a S n)->(te σ H1 fun y H2=>∃(S:Str->Bool) (n:Nat) (z:Str),y=.str z/\H2 a=some (vC P w a S n)/\n+1<scanBound/\Q .non (upd H2 a (vC P w a (fun k=>S k||decide (k=z)) (if S z then n else n+1))))->zltJ P w te σ Q x H1
def zlt(P:Program)(w:World)(to te:TE):TE:=fun σ H Q=>to σ H fun x H1=>zltJ P w te σ Q x H1
theorem zir{to te:TE}(ho:PE X o to)(he:PE X e te)(m:M1 X o "add" apos e cpos):PE X (.Call (.Attribute o "add" apos) [e] [] cpos) (zlt X.prog X.w to te):=by
 and_intros;refine wpAny_Call_method m.base m.few m.line PySem.F.plainAttrs_set PySem.F.slot_set_add PySem.F.type_set_add (thn (ho pins s σ H _ I h) fun u s1 ⟨x,H1,I1,rx,a,S,n,ex,d,q1⟩=>?_);subst ex;obtain rfl:u=Value.ref a:=rx;have hS:s1.heap.SetOf (strKind X.prog X.w) a S n:=(I1.hok a _ d).1;exists hS.typeIs,hS.noDict,?_;rw[m.trees];refine Calls.callWith_builtin rfl (Calls.evalArgs_plain (Calls.spliced_cons (thn (he pins s1 σ H1 _ I1 q1) fun iv s2 ⟨y,H2,I2,ry,S2,n2,z,ey,e2,hn,q2⟩=>Calls.spliced_nil ?_)));subst ey;obtain⟨t,rfl⟩:=ry;have hS2:s2.heap.SetOf (strKind X.prog X.w) a S2 n2:=(I2.hok a _ e2).1;refine call_set_add (strKind_is X.prog X.w z t) rfl hS2 hn fun h' hs hS3=>⟨.non,_,?_,rfl,q2⟩;refine I2.write (x:=a) (e:=a) (by rw[e2];exact True.intro) (.inl rfl) (fun b q hb z=>(hs.2 b hb).trans z) (let ⟨o,_,_,_,h1,_⟩:=hS3;⟨o,h1⟩) (za2 hS3)
inductive zjZJ(Cs:Addr->Prop)(m:Str)(sp:Sp)(E:XK)(Q:VK)(x:V)(H1:Hp):Prop|mk(a C dx fs:_):x=.ref a->Cs C->H1 a=some (.ins C dx fs)->fs.lookup m=none->(sp [x] H1 Q E)->zjZJ Cs m sp E Q x H1
def zjZ(Cs:Addr->Prop)(m:Str)(sp:Sp)(E:XK)(ta:TE):TE:=fun σ H Q=>ta σ H fun x H1=>zjZJ Cs m sp E Q x H1
theorem wY{CX:CXT}{k:Nat}{sp:Sp}{ta:TE}{Cs:Addr->Prop}(he:PE X o ta)(hC:∀C,Cs C->Cls X.K C/\y6 X.K C m f)(F:zA X.prog X.w X.K X.mg X.base CX k f fd ps sp)(hr:yg k X.A)(hb:zM X.K fd ps [])(hx:xO CX X E)
  (ht:eval (.Call (.Attribute o m apos) [] [] pos) X.env=(do
   let ov <- eval o X.env
   standAt apos.atName
   let (f,first) <- holding [ov] (getMethod ov m pl)
   callWith pos f first (backTo pos (starEach [] X.env)) (backToKw pos (keywordEach [] X.env))):=by rfl) :
  PE X (.Call (.Attribute o m apos) [] [] pos) (zjZ Cs m sp E ta):=by
 and_intros;refine methodCall_KW (pl:=pl) (thn (he pins s σ H _ I h) fun u s1 ⟨x,H1,I1,rx,a,C,dx,fs,ex,hc,ea,l,q⟩=>?_) ht;subst ex;obtain rfl:u=Value.ref a:=rx;obtain⟨c,hm⟩:=hC C hc;refine vq I1 ea c hm l ?_;exact callWith_K0 (first:=[.ref a]) I1.kIn hm.kp (qm (us:=[.ref a]) (vs:=[.ref a]) F hr hb .nil hx I1 (.cons rfl .nil) q)
structure zll(w:World)(K:Frag)(a:Addr)(f:Str->Option V):Prop where
 obj:∃es n,K.lookup a=some ⟨.type "dict",none,.dict es n,#[]⟩/\KeysLit w.params es.toList
 vals:∀x v,f x=some v->∃u,nsIn K a x=some (some u)/\z3 v u
theorem zis{f:Str->Option V}{te:TE}(T:zll X.w X.K a f)(hm:X.mg d= ~~~a)(he:PE X e te)(hg:Gl X d:=by rfl)(hs:zlk e:=by first|exact fun _ _=>rfl|decide|rfl)(hdb:(d==("__debug__" : Str))=false:=by decide):
  PE X (.Subscript (.Name d p) e pos) (fun σ H Q=>te σ H fun y H1=>∃x v,y=.str x/\f x=some v/\Q v H1):=by
 and_intros;obtain⟨es,n,hl,hk⟩:=T.obj;refine zdR PySem.F.slot_dict_getitem.lookup hs (wE I hg hm (thn (he pins s σ H _ I h) fun iv s2 ⟨y,H2,I2,ry,x,v,ey,ef,q2⟩=>?_) hdb);subst ey;obtain⟨t,rfl⟩:=ry;obtain⟨u,eu,ru⟩:=T.vals x v ef;have hmap:=PySem.W.mapOf_K (prog:=X.prog) (w:=X.w) I2.kIn hl hk;exact⟨hmap.typeIs,wpAny_getItem_of (strKind_is X.prog X.w x t) hmap (PySem.W.find_K hl eu) ⟨v,H2,I2.tok _,ru,q2⟩⟩
theorem zck{m:Str->Option Value}{t':Nat}(I:Inv X pins σ H s)(B:xc X.env sc fr)(hf:∀b∈fp,vw X pins H b)(ho:∀b∈fp,∃o,s.heap.get? b=some o)
  (hC:s.heap.objs.size<=C) (hD:s.heap.objs.size<=D) (hDC:D≠C) (keep:∀b o,s.heap.get? b=some o->h'.get? b=some o) (new:yD X.prog X.w (upd H D o0) h' D o0) (hn:h'.Ns C m)
  (hcap:vO X.N Nc caps X.env sc fr=true) (hlen:caps.length=Nc.length) :
  Inv (yd X pins sc fr Nc fp s H C) [] (xh caps σ) (upd H D o0) { s with heap:=h',toks:=t' }:=by
 have hk:X.env.scope.kind=.function:=I.ok.kind;have fresh:∀a,s.heap.objs.size<=a->H a=none:=fun a ha=>I.hok.fresh ha;exists zeF I B hf ho hC,rfl,I.bare,Un.laid keep hD (fresh D hD),⟨m,hn,fun i x v e1 e2 e3=>?_⟩,fun x c h=>?_,?_,fun x c h=>?_,fun p hp=>?_,?_,?_
 ·
  have e2':(caps[i]?).map (fun o=>match o with|none=>none|some j=>(σ[j]?).join)=some (some v):=by
   have:(xh caps σ)[i]?=some (some v):=e2
   unfold xh at this;rw[getElem?_map] at this;exact this
  cases hc:caps[i]? with
  | none=>rw[hc] at e2';cases e2'
  | some o=>
   rw[hc] at e2';cases o with
   | none=>simp at e2'
   | some j=>
    have e4:(σ[j]?).join=some v:=by simpa using e2'
    have e5 : σ[j]?=some (some v):=by
     cases q : σ[j]? with
     | none=>rw[q] at e4;cases e4
     | some w'=>rw[q] at e4;simp at e4;rw[e4]
    have e6:(Nc.zip caps)[i]?=some (x,some j):=by
     rw[List.getElem?_zip_eq_some];exact⟨e1,hc⟩
    have e7:=List.all_eq_true.mp hcap _ (aH e6);simp only[Bool.and_eq_true,beq_iff_eq,List.contains_iff_mem] at e7;obtain⟨⟨⟨a1,a2⟩,a3⟩,a4⟩:=e7;obtain⟨m0,hn0,hl0⟩:=I.loc;obtain⟨u,r,l⟩:=hl0 j x v a1 e5 (.inr (.inl a2));exists u,r,.inr ⟨.inl (vj hk a3 a2),_,zby a4,?_⟩;rcases l with ⟨z,_⟩|⟨_,c,ec,hcell⟩
    ·rw[a2] at z;cases z
    ·have:(X.env.cells.lookup x).getD 0=c:=by rw[ec];rfl
     rw[this];exact hcell.keeps keep
 ·obtain⟨v,hv⟩:=I.cell x c (B.sub h)
  exact⟨v,hv.keeps keep⟩
 ·show upd H D o0 C=none
  rw[zf (Ne.symm hDC)];exact fresh C hC
 ·obtain⟨v,hv⟩:=I.cell x c (B.sub h)
  have:c≠D:=fun z=>by have:=hv.lt;rw[z] at this;exact absurd (lt_of_lt_of_le this hD) (lt_irrefl _)
  rw[zf this];exact I.freeC x c (B.sub h)
 ·have hp':p∈X.pn++pins:=by simpa using hp
  obtain⟨e,n,ne,nf,d⟩:=I.pin p hp';have hlt:=I.pin_lt hp';exists keep _ _ e,?_,?_,fun z=>?_,d
  ·rw[zf (fun z=>by rw[z] at hlt;exact absurd (lt_of_lt_of_le hlt hD) (lt_irrefl _))];exact n
  ·intro z
   have z':p.1=C:=z;rw[z'] at hlt;exact absurd (lt_of_lt_of_le hlt hC) (lt_irrefl _)
  ·rcases List.mem_cons.mp (I.stkSub p.1 z) with q|q
   ·exact ne q
   ·exact nf q
 ·exact I.hok.laid keep hD new
 ·show(xh caps σ).length=Nc.length
  unfold xh;rw[aA,hlen]
variable {R:Result->Shared->Prop}
theorem zac(I:Nat->Shared->Prop)
  (turn:∀n s,I n s->wpAny (model prog w) A (pyNext it) (fun r s₁=>match r with
   | none=>R (.ok .next) s₁
   | some v=>wpAny (model prog w) A (letOwnedTupleGo target it v) (fun _ s₀=>wpAny (model prog w) A (assign target env v) (fun _ s₂=>
     wpAny (model prog w) A (forIn ifs true fun c r=>if r=true then do let ok <- isTrue c env (eval c env);pure (ForInStep.yield ok) else pure (ForInStep.yield r)) (fun ok s₃=>
      if ok=true then wpAny (model prog w) A (eval kx env) (fun kv s₄=>wpAny (model prog w) A (eval vx env) (fun vv s₅=>
       wpAny (model prog w) A (dictSet D kv vv) (fun _ s₆=>∃m,m<n/\I m s₆) (fun _ _=>False) s₅) (fun _ _=>False) s₄) (fun _ _=>False) s₃
      else ∃m,m<n/\I m s₃) (fun _ _=>False) s₂) (fun _ _=>False) s₀) (fun _ _=>False) s₁) (fun _ _=>False) s)
  (n:Nat) (h:I n s) :
  codeAny (model prog w) A (.compLoop (.DictComp kx vx [⟨target,iter,ifs,0⟩] scope pos) 0 it (.ref D) env) R s:=by
 refine codeAny_loop rfl I (fun n s hI=>?_) n h;show wpAny _ A ((compTurn (.DictComp kx vx [⟨target,iter,ifs,0⟩] scope pos) 0 it (.ref D) env).onRaise (fun x=>do noteFrame x env;theTreesLotGoes x)) _ _ s
 refine wpAny_noted ?_;rw[compTurn_dict];refine zwb (wpAny_standAt (zwb (wpAny_mono (turn n s hI) (fun r s₁ h₁=>?_) fun _ _ z=>z.elim)));cases r with
 | none=>exact zwp h₁
 | some v=>
  refine zwb (wpAny_mono h₁ (fun _ s₀ h₀=>?_) fun _ _ z=>z.elim);refine zwb (wpAny_mono h₀ (fun _ s₂ h₂=>zwb (wpAny_mono h₂ (fun ok s₃ h₃=>?_) fun _ _ z=>z.elim)) fun _ _ z=>z.elim);cases ok with
  | false=>exact zwp ⟨rfl,h₃⟩
  | true=>
   exact zwb (zwb (wpAny_mono h₃ (fun kv s₄ h₄=>zwb (wpAny_holding (wpAny_mono h₄ (fun vv s₅ h₅=>zwb (wpAny_standAt (wpAny_holding (wpAny_mono h₅ (fun _ s₆ h₆=>zwp ⟨rfl,h₆⟩) fun _ _ z=>z.elim)))) fun _ _ z=>z.elim))) fun _ _ z=>z.elim))
def DCr(J:It)(caps:List (Option Nat))(g:TG)(tt:TT)(tk tv:TE)(σ : St)(H1:Hp)(Q:VK)(D:Addr):Prop:=
 ∃W:Nat->Nat->List (Key×V)->Hp->Prop,(∃m,W 0 m [] (upd H1 D (.dK [])))/\∀i m ys H,W i m ys H->
  (J.stop i H/\Q (.ref D) H)\/
  (J.go i H/\∀x H',J.yld i H x H'->g x (xh caps σ) H' fun σ2 H2=>tt σ2 H2 fun ok H3=>
   (ok=true->tk σ2 H3 fun y H4=>tv σ2 H4 fun v H5=>∃k,y=kV k/\H5 D=some (.dK ys)/\ys.length<sizeLine/\∃m',m'<m/\W (i+1) m' (yK ys k v) (upd H5 D (.dK (yK ys k v))))/\
   (ok=false->∃m',m'<m/\W (i+1) m' ys H3))
def tDC(wi:TI)(caps:List (Option Nat))(g:TG)(tt:TT)(tk tv:TE):TE:=fun σ H Q=>wi σ H fun J H1=>∀D,H1 D=none->DCr J caps g tt tk tv σ H1 Q D
end
section
variable {g:TG}{tt:TT}{tk tv:TE}{E:VSP}
theorem zlB(I:Inv X pins σ H s):sysModules<s.heap.objs.size:=I.big
theorem zfq{tn:Nat->Heap->Prop}{J:It}{Q:VK}{RR:Value->Addr->Result->Shared->Prop}
  (hc:X.calm=true) (B:xc X.env sc fr) (go:zct g ow) (how:(ow.all fun i=>caps[i]?==some none)=true) (hcap:vO X.N Nc caps X.env sc fr=true) (hlen:caps.length=Nc.length)
  (hb:∀(pins:PnL) fp s H C,PG (yd X pins sc fr Nc fp s H C) tg g/\PIf (yd X pins sc fr Nc fp s H C) ifs tt/\PE (yd X pins sc fr Nc fp s H C) kx tk/\PE (yd X pins sc fr Nc fp s H C) vx tv)
  (I2:Inv X pins σ H2 s) (T:zae X.prog X.w X.K tg J fp it tn) (st2:tn 0 s.heap) (f2:∀b∈fp,vw X pins H2 b) (h:∀D,H2 D=none->DCr J caps g tt tk tv σ H2 Q D)
  (fin:∀D C (σ':St) H' s',Inv (yd X pins sc fr Nc fp s H2 C) [] σ' H' s'->Q (.ref D) H'->RR (.ref D) C (.ok .next) s') :
  ↑X newDict (fun acc s₃=>↑X (newFunctionEnv sc X.env.globals (clB X.env fr) [] X.env.qual none .none (some X.env)) (fun cenv s₄=>
   codeAny (model X.prog X.w) X.A (.compStart (.DictComp kx vx [⟨tg,iter,ifs,0⟩] sc pos) 0 (.ref it) acc { cenv with scope:=relabel sc X.env }) (RR acc cenv.locals) s₄) E s₃) E s:=by
 have hcell:∀y∈sc.names,y.2≠.cell:=fun y hy=>by
  have h3:=List.all_eq_true.mp B.names _ hy;simp only[Bool.and_eq_true,bne_iff_ne,ne_eq] at h3;exact h3.1.1
 refine wpAny_newObj_type (wpAny_newFunctionEnv hcell (by intro y hy;simp at hy) (fun h₁ hns₁ hsb₁=>?_) B.kind)
 dsimp only at hns₁ hsb₁ |-;have hnew:(s.heap.push { cls:=.type "dict",dict:=none,data:=.dict #[] }).DictOf (yn X.prog X.w) s.heap.objs.size []:=Heap.DictOf.new s.heap;generalize hH2:s.heap.push { cls:=.type "dict",dict:=none,data:=.dict #[] }=H3 at hns₁ hsb₁ hnew |-;have hCs:H3.objs.size=s.heap.objs.size+1:=by rw[<- hH2,Heap.size_push]
 have hDC:s.heap.objs.size≠H3.objs.size:=by rw[hCs];exact ne_of_lt (lt_succ_self _)
 have hC:s.heap.objs.size<=H3.objs.size:=by rw[hCs];exact le_succ _
 have old:∀b o,s.heap.get? b=some o->h₁.get? b=some o:=fun b o e=>
  hsb₁.extBut b o (ne_of_lt (lt_of_lt_of_le (aI e) hC)) (zgp _ (hH2 ▸ zgp _ e))
 have hsm:sysModules<s.heap.objs.size:=zlB I2;have hD:h₁.DictOf (yn X.prog X.w) s.heap.objs.size []:=hnew.at fun o e=>hsb₁.extBut _ _ hDC (zgp _ e);have hDo:∀H',yD X.prog X.w H' h₁ s.heap.objs.size (.dK []):=fun _=>⟨zero_le _,beq_eq_false_iff_ne.mpr (Ne.symm (ne_of_lt hsm)),[],.nil,hD⟩;have ho:∀b∈fp,∃o,s.heap.get? b=some o:=fun b hb'=>let ⟨o,e,_⟩:=T.obj 0 _ st2 b hb';⟨o,e⟩;have I4:∀t',Inv (yd X pins sc fr Nc fp s H2 H3.objs.size) [] (xh caps σ) (upd H2 s.heap.objs.size (.dK [])) { s with heap:=h₁,toks:=t' }:=fun t'=>
  zck I2 B f2 ho hC (aF _) hDC old (hDo _) hns₁ hcap hlen
 have ok:=(I4 0).ok;obtain⟨hbg,hbt,hbk,hbv⟩:=hb pins fp s H2 H3.objs.size;obtain⟨W,⟨m0,w0⟩,turn⟩:=h s.heap.objs.size (I2.hok.fresh (aF _));have stat:∀{H':Hp},(∀b∈fp,H' b=none)->∀b∈fp,vw (yd X pins sc fr Nc fp s H2 H3.objs.size) [] H' b:=fun hn b hb'=>
  ⟨hn b hb',(ok.exf b hb').1,ok.exfs b hb',.inl hb',(ok.exf b hb').2,fun p hp=>(f2 b hb').2.2.2.2.2 p (by simpa using hp)⟩
 have hfp0:∀b∈fp,upd H2 s.heap.objs.size (.dK []) b=none:=fun b hb'=>by
  obtain⟨o,e⟩:=ho b hb';rw[zf (ne_of_lt (aI e))];exact(f2 b hb').1
 have loop:∀s₃:Shared,s₃={ s with heap:=h₁,toks:=s.toks+([]:List (Str×Value)).length }->
   codeAny (model X.prog X.w) X.A (.compLoop (.DictComp kx vx [⟨tg,iter,ifs,0⟩] sc pos) 0 (.ref it) (.ref s.heap.objs.size) (compEnvC sc (clB X.env fr) H3.objs.size X.env)) (RR (.ref s.heap.objs.size) H3.objs.size) s₃:=by
  rintro s₃ rfl;refine zac (fun n s'=>∃i σ' H' ys,Inv (yd X pins sc fr Nc fp s H2 H3.objs.size) [] σ' H' s'/\tn i s'.heap/\(∀b∈fp,H' b=none)/\W i n ys H'/\
   (∀(k:Nat) v,(xh caps σ)[k]?=some (some v)->σ'[k]?=some (some v))) ?_ m0
   ⟨0,_,_,[],I4 _,T.keep _ _ _ st2 (fun b _ o e=>old b o e),hfp0,w0,fun _ _ e=>e⟩
  rintro n s3 ⟨i,σ3,H4,ys,I3,st3,fr3,w3,wk3⟩;have I3':Inv (yd X pins sc fr Nc fp s H2 H3.objs.size) [] (xh caps σ) H4 s3:=I3.weak (by rw[I3.len];exact(I4 0).len) wk3
  rcases turn i n ys H4 w3 with ⟨stop,qn⟩|⟨gg,step⟩
  ·refine thn (T.done (yd X pins sc fr Nc fp s H2 H3.objs.size) rfl rfl rfl hc i [] s3 _ H4 (fun _ _=>False) I3' (stat fr3) st3 stop) fun r s4 ⟨hr,I4'⟩=>?_
   subst hr;exact fin _ _ _ _ _ I4' qn
  ·refine thn (T.item (yd X pins sc fr Nc fp s H2 H3.objs.size) rfl rfl rfl hc i [] s3 _ H4 (fun _ _=>False) I3' (stat fr3) st3 gg) fun r s4 ⟨u,hr,h4⟩=>?_
   subst hr;refine thn h4 fun _ s5 ⟨x,H5,I5,r5,y5,st5,fr5⟩=>?_;have I5':=I5.pinned (stat fr5) (T.obj _ _ st5);refine thn (hbg _ s5 _ H5 x u _ I5' r5 (go _ _ _ _ (step x H5 y5))) fun _ s6 ⟨σ6,H6,I6,q6,l6,k6⟩=>?_;have wk6:∀(k:Nat) v,(xh caps σ)[k]?=some (some v)->σ6[k]?=some (some v):=fun k v e=>by
    rw[k6 k fun hk=>?_]
    ·exact e
    ·have h1:=List.all_eq_true.mp how k hk
     have h2:caps[k]?=some none:=by simpa using h1
     unfold xh at e;rw[getElem?_map,h2] at e;cases e
   refine thn (hbt _ s6 σ6 H6 _ I6 q6) fun ok s7 ⟨H7,I7,q7⟩=>?_;have again:∀{H8:Hp}{s8:Shared}{ys':List (Key×V)},Inv (yd X pins sc fr Nc fp s H2 H3.objs.size) ([]++jc fp s5.heap) σ6 H8 s8->(∃m',m'<n/\W (i+1) m' ys' H8)->
     ∃m,m<n/\∃i σ' H' ys,Inv (yd X pins sc fr Nc fp s H2 H3.objs.size) [] σ' H' s8/\tn i s8.heap/\(∀b∈fp,H' b=none)/\W i m ys H'/\(∀(k:Nat) v,(xh caps σ)[k]?=some (some v)->σ'[k]?=some (some v)):=fun {H8 s8 ys'} I8 ⟨m',hm,w8⟩=>by
    exists m',hm,i+1,σ6,H8,ys',I8.unpinned,T.keep _ _ _ st5 fun b hb' o e=>(I8.pin (b,o) (mem_append_right _ (mem_append_right _ (xW hb' e)))).1,fun b hb'=>?_,w8,wk6;obtain⟨o,e,d⟩:=T.obj _ _ st5 b hb';exact(I8.pin (b,o) (mem_append_right _ (mem_append_right _ (xW hb' e)))).2.1
   cases ok with
   | false=>
    rw[aJ zft];exact again I7 (q7.2 rfl)
   | true=>
    rw[aK rfl];refine thn (hbk _ s7 σ6 H7 _ I7 (q7.1 rfl)) fun uk s8 ⟨y,H8,I8,r8,q8⟩=>?_;refine thn (hbv _ s8 σ6 H8 _ I8 q8) fun uv s9 ⟨v,H9,I9,r9,k,ey,hD9,hz,q9⟩=>?_;subst ey;obtain⟨z,hd,vs,rel,dd⟩:=zhF I9.hok hD9;have hzs:vs.length<=sizeLine:=by rw[<- rel.length];exact z
    have hl:(yK ys k v).length<=sizeLine:=by have:=xG ys k v;omega
    refine wpAny_dictSet_pairs (hsz:=hzs) (jy r8) dd fun h' dd' hs=>?_;have he:∃q,h'.get? s.heap.objs.size=some q:=let ⟨q,_,_,hq,_⟩:=dd';⟨q,hq⟩;exact again (jW I9 (by rw[hD9];exact True.intro) hs he (zdB hl hd (rel.put k r9) dd')) q9
 exact codeAny_compStart_dict (loop _ rfl) (T.self _ 0 _ _ _ (T.keep _ _ _ st2 (fun b _ o e=>old b o e)) (loop _ rfl))
theorem zlZ{wi:TI}(fr Nc:List Str)(caps:List (Option Nat))(hc:X.calm=true)(B:xc X.env sc fr)(hi:PI X tg iter wi)(go:zct g ow)(how:(ow.all fun i=>caps[i]?==some none)=true)
  (hcap:vO X.N Nc caps X.env sc fr=true) (hlen:caps.length=Nc.length)
  (hb:∀(pins:PnL) fp s H C,PG (yd X pins sc fr Nc fp s H C) tg g/\PIf (yd X pins sc fr Nc fp s H C) ifs tt/\PE (yd X pins sc fr Nc fp s H C) kx tk/\PE (yd X pins sc fr Nc fp s H C) vx tv)
  (hs:∀x,foldedSetIterable iter X.env x=pure x:=by intro _;rfl):PE X (.DictComp kx vx [⟨tg,iter,ifs,0⟩] sc pos) (tDC wi caps g tt tk tv):=by
 and_intros;rw[arm_eval_DictComp];refine wpAny_comprehension_free (use:=none) rfl hs B.clos B.kind B.loc (thn (hi pins s σ H _ I h) fun v s1 h1=>thn h1 fun itv s2 h2=>?_);obtain⟨it,fp,tn,J,H2,e,I2,T,st2,f2,q⟩:=h2;subst e;refine zfq (RR:=fun acc C=>compPost (model X.prog X.w) X.A X.xe none (EP X pins σ Q) acc C) hc B go how hcap hlen hb I2 T st2 f2 q ?_;intro D C σ' H' s' J' qq;obtain⟨m,hn,_⟩:=J'.loc;exact⟨m,hn,fun h' hs'=>⟨.ref D,H',zaI I2 J' (jo I2 f2 J') hs',rfl,qq⟩⟩
def eqT(xs ys:List V):Bool:=((List.range (min xs.length ys.length)).all fun j=>eqV (xs[j]?.getD .non) (ys[j]?.getD .non))&&xs.length==ys.length
end
end L2
namespace K44
open PySem L2 PyProof.Rows
def top(i:Nat):Stmt:=PySem.Challenge.pw_callbinds_k44_whole_two_functions_one_we.main.body.getD i (.Pass ⟨0,0,0,0⟩)
abbrev zkp:Stmt:=top 68
abbrev zcP:Stmt:=top 74
abbrev zgo:Stmt:=top 75
abbrev zbb:Stmt:=top 78
abbrev zcX:Stmt:=top 79
abbrev qk:Stmt:=top 84
abbrev zc6:Stmt:=top 80
abbrev zc0:Stmt:=top 35
abbrev zgb:Stmt:=top 36
abbrev u9:Stmt:=top 88
abbrev qi:Stmt:=top 37
abbrev zba:Stmt:=top 85
abbrev ja:Stmt:=top 38
abbrev zcJ:Stmt:=yf (top 66) 0
abbrev zcK:Stmt:=yf (top 66) 1
abbrev za9:Stmt:=yf (top 66) 2
abbrev zc7:Stmt:=yf (top 4) 0
abbrev zgm:Stmt:=yf (top 7) 0
abbrev zcM:Stmt:=yf (top 34) 0
abbrev qg:Stmt:=yf (top 34) 2
abbrev zcL:Stmt:=yf (top 34) 3
abbrev sIs:Stmt:=top 42
abbrev zcU:Stmt:=yf (top 58) 0
abbrev zgj:Stmt:=yf (top 58) 1
abbrev ql:Stmt:=yf (top 58) 2
abbrev zbl:Stmt:=yf (top 58) 3
abbrev zcO:Stmt:=yf (top 58) 4
abbrev zlQ:Stmt:=yf (top 58) 5
abbrev zf9:Stmt:=yf (top 59) 0
abbrev zgn:Stmt:=yf (top 60) 0
abbrev zf8:Stmt:=yf (top 61) 0
abbrev zkn:Stmt:=yf (top 62) 0
abbrev zku:Stmt:=yf (top 63) 0
abbrev zc3:Stmt:=yf (top 48) 0
abbrev zgh:Stmt:=yf (top 48) 1
abbrev zc2:Stmt:=yf (top 48) 2
abbrev zc4:Stmt:=yf (top 48) 3
abbrev qj:Stmt:=yf (top 48) 4
abbrev zc1:Stmt:=yf (top 48) 5
abbrev zgl:Stmt:=yf (top 48) 6
abbrev zgk:Stmt:=yf (top 48) 7
abbrev zkt:Stmt:=yf (top 48) 8
abbrev zf6:Stmt:=yf (top 15) 0
abbrev zko:Stmt:=top 64
abbrev zcR:Stmt:=top 49
abbrev zbf:Stmt:=top 50
abbrev zcS:Stmt:=top 51
abbrev zbe:Stmt:=top 52
abbrev zgd:Stmt:=top 53
abbrev zgf:Stmt:=top 1
abbrev zcQ:Stmt:=top 24
abbrev zbi:Stmt:=top 25
abbrev zkr:Stmt:=top 26
abbrev zcV:Stmt:=top 27
abbrev zkm:Stmt:=top 28
abbrev zgg:Stmt:=top 29
abbrev zgc:Stmt:=top 31
abbrev zbd:Stmt:=top 32
abbrev zcT:Stmt:=top 23
abbrev zc5:Stmt:=top 30
abbrev zkq:Stmt:=top 69
abbrev zks:Stmt:=top 93
abbrev zga:Stmt:=top 70
abbrev zgi:Stmt:=top 71
abbrev zf7:Stmt:=top 72
abbrev zcY:Stmt:=top 73
abbrev zcW:Stmt:=top 76
abbrev zcZ:Stmt:=top 77
abbrev zcN:Stmt:=top 81
abbrev zbg:Stmt:=top 82
abbrev zbh:Stmt:=top 83
abbrev zbm:Stmt:=top 86
abbrev zbc:Stmt:=top 87
abbrev qh:Stmt:=top 89
abbrev zbj:Stmt:=top 90
abbrev zbk:Stmt:=top 91
abbrev zge:Stmt:=top 92
def low(c:Nat):Bool:=decide (97<=c)&&decide (c<=122)
def xn(z:Str):Bool:=decide (1<=z.length)&&decide (z.length<=8)&&z.cps.toList.all low
def nmV:V->Bool
 | .str z=>xn z
 | _=>false
def OkS(z:Str):Prop:=z.length<=1000/\∀c∈z.cps.toList,c<128
def OkV(K:Frag)(H:Hp)(x:V):Prop:=(∃z,x=.str z/\OkS z)\/(nmV x=false/\∃t,wA K H x t/\kitOne K t (.type "str")=some false)
theorem jf:xn z=true ↔ 1<=z.length/\z.length<=8/\∀c∈z.cps.toList,97<=c/\c<=122:=by
 unfold xn low;simp only[Bool.and_eq_true,decide_eq_true_eq,all_eq_true];constructor
 ·rintro⟨⟨a,b⟩,c⟩;exact⟨a,b,c⟩
 ·rintro⟨a,b,c⟩;exact⟨⟨a,b⟩,c⟩
theorem qC(h:z.length=0\/9<=z.length):xn z=false:=by
 cases e:xn z with
 | false=>rfl
 | true=>
  have:=jf.mp e
  omega
theorem zb4(h:xn z=true):OkS z:=by
 obtain⟨_,h2,h3⟩:=jf.mp h;exact⟨∅,fun c hc=>by have:=h3 c hc;omega⟩
def letters:Str:="abcdefghijklmnopqrstuvwxyz"
theorem zdj:∀c:Nat,c<128->(!(Builtin.Str.occurrences letters ⟨#[c]⟩ 0 letters.length 1).isEmpty)=low c:=by decide +kernel
theorem zg(h:H p=none)(o:HO):zq H (upd H p o):=fun b u q=>by rw[zf (ze q h)];exact q
theorem zeL{K:Frag}{H H':Hp}{x:V}{t:Value}(s:zq H H')(h:wA K H x t):wA K H' x t:=by
 cases h with
 | non=>exact .non
 | bl b=>exact .bl b
 | int i=>exact .int i
 | str z=>exact .str z
 | flt z=>exact .flt z
 | lst e=>exact .lst (s _ _ e)
 | frz e=>exact .frz (s _ _ e)
 | tup e=>exact .tup (s _ _ e)
 | dK e=>exact .dK (s _ _ e)
 | dT e=>exact .dT (s _ _ e)
 | ins e a b c d f=>exact .ins (s _ _ e) a b c d f
theorem OkV.same{K:Frag}{H H':Hp}{x:V}(s:zq H H')(h:OkV K H x):OkV K H' x:=by
 rcases h with h|⟨h,t,ty,e⟩
 ·exact .inl h
 ·exact .inr ⟨h,t,zeL s ty,e⟩
theorem nd1:([Str.ofString "sign"]:List Str).Nodup:=by decide +kernel
inductive zj6(K:Frag)(vs:List V)(H:Hp)(Q:VK)(E:XK):Prop|mk(x:_):vs=[x]->OkV K H x->(∀H',zq H H'->Q (.bl (nmV x)) H')->zj6 K vs H Q E
structure zmx(K:Frag)(mg:Str->Option Value):Prop where
 isi:mg "isinstance"=none
 str:mg "str"=none
 bool:mg "bool"=none
 len:mg "len"=none
 all:mg "all"=none
 range:mg "range"=none
 letters:∃t,mg "LETTERS"=some (.str letters t)
 longest:∃t,mg "LONGEST"=some (.int 8 t)
 kNon:kitOne K (.type "NoneType") (.type "str")=some false
 kInt:kitOne K (.type "int") (.type "str")=some false
 kBl:kitOne K (.type "bool") (.type "str")=some false
 kLst:kitOne K (.type "list") (.type "str")=some false
 kTup:kitOne K (.type "tuple") (.type "str")=some false
 kDct:kitOne K (.type "dict") (.type "str")=some false
 kStr:kitOne K (.type "str") (.type "str")=some true
 bBl:kitOne K (.type "bool") (.type "bool")=some true
section
variable {P:Program}{w:World}{K:Frag}{mg:Str->Option Value}{base:Heap}
theorem zmP:zp ["thing"] ["thing"] (zi sIs):=fsc
theorem zl2(F:Fun K "is_name" "is_name" sIs f fd)(T:zmx K mg):↥1 f fd ["thing"] (zj6 K):=by
 specialize zmP;obtain⟨x,rfl,hx,q⟩:=h;obtain⟨tL,hL⟩:=T.letters;obtain⟨tN,hN⟩:=T.longest;refine⟨_,zk (zJ (yy (vy (wL (yA (cB wI T.isi boot_isinstance (ac (pv 0) (ac (jQ (v:=.ty "str") rfl T.str PyProof.Rows.boot_str rfl) zb)))))
   (wx (wL (zbT zek zek zh (cB zbz T.len PySem.boot_len (ac (pv 0) zb)) (xD (v:=.int 8) rfl hN ⟨_,rfl⟩))))))
   (zd (zt vz)) zx)
  (zd (zt (cB (zaK rfl) T.all boot_all (ac (xF [] ["sign"] [none] rfl ⟨rfl,rfl,rfl,rfl⟩ (zkz (pv 0)) (yc 0) rfl rfl rfl
   (fun pins fp s H C=>⟨zl (i:=0) nd1 rfl (Or.inl rfl) (.inr rfl),yS,y9 ze0 (pv 0) (xD (v:=.str letters) rfl hL ⟨_,rfl⟩) (by with_unfolding_all rfl)⟩)) zb)))),?_⟩
 rcases hx with ⟨z,rfl,hz1,hz2⟩|⟨hn,t,ty,e⟩
 ·exists _,rfl,_,_,_,_,rfl,.str z,T.kStr,_,rfl,?_
  refine yB ?_;exists _,rfl,z,rfl,le_trans hz1 ⋯,_,_,rfl,rfl,_,rfl,?_
  have no:xn z=false->Q (.bl false) H:=fun e=>by
   have:=q H (zq.refl H)
   have e':nmV (.str z)=false:=e;rw[e'] at this;exact this
  refine vE (fun c=>?_) (fun c=>?_)
  ·have c':(1:Int)<=(z.length:Int):=of_decide_eq_true c
   exists _,_,rfl,rfl,_,rfl,?_;by_cases h8:(z.length:Int)<=8
   ·rw[aC h8]
    refine yB ?_;exists _,rfl,z,rfl,fun D hD=>?_;exists fun i m ys H'=>i<=z.cps.size/\m=z.cps.size - i/\ys=(z.cps.toList.take i).map (fun c=>V.bl (low c))/\H'=upd H D (.lst ys),⟨_,zero_le _,rfl,rfl,rfl⟩,?_;rintro i m ys H' ⟨hi,rfl,rfl,rfl⟩;by_cases he:i=z.cps.size
    ·subst he
     refine .inl ⟨aF _,?_⟩;exists D,z.cps.toList.map low,rfl,zc ?_,?_
     ·rw[za,take_of_length_le (by simp),map_map]
      rfl
     ·have e:(z.cps.toList.map low).all id=nmV (.str z):=by
       show _=xn z;unfold xn;rw[aC (show 1<=z.length by omega),aC (show z.length<=8 by omega),List.all_map]
       rfl
      rw[e];exact q _ (zg hD _)
    ·refine .inr ⟨by show i<z.cps.size;omega,?_⟩
     rintro x H' ⟨rfl,c,hc,rfl⟩;exists fun _=>?_,fun e=>Bool.noConfusion e;exists _,rfl,_,_,rfl,rfl,za,?_,z.cps.size - (i+1),∅,∅,rfl,?_,?_
     ·rw[aA,length_take]
      have:z.cps.size<=1000:=hz1
      exact zE ∅
     ·have hc':z.cps.toList[i]?=some c:=by simpa using hc
      have hlow:=zdj c (hz2 c (aH hc'));rw[hlow,take_add_one,hc',aE];rfl
     ·rw[vf]
   ·rw[aD h8]
    refine xu ?_;exact no (qC (.inr ∅))
  ·have c':¬(1:Int)<=(z.length:Int):=of_decide_eq_false (Bool.eq_false_iff.mpr c)
   exists _,rfl,?_;exact xu (no (qC (.inl ∅)))
 ·exists _,rfl,_,_,_,_,rfl,ty,e,_,rfl,?_
  refine xu ?_;refine xu ?_
  have:=q H (zq.refl H)
  rw[hn] at this;exact this
theorem dT{A B:Prop}{c:Prop}[Decidable c](h:c)(a:A):if decide c=true then A else B:=by rw[aC h];exact xu a
theorem dF{A B:Prop}{c:Prop}[Decidable c](h:¬c)(b:B):if decide c=true then A else B:=by rw[aD h];exact yB b
def kw:Nat->Str
 | 0=>"seat"|1=>"both"|2=>"tail"|3=>"tag"|_=>"bag"
def zkw(k:Nat)(x:V)(b:Bool):List V:=match k with
 | 0=>[.str "seat",x,.bl b]|1=>[.str "both",x,.bl b]|2=>[.str "tail",x]|3=>[.str "tag",x,.bl b]|_=>[.str "bag",x]
def fr(k:Nat)(b:Bool):Bool:=match k with
 | 0=>b|1=>b|2=>true|3=>b|_=>true
theorem lt5{k:Nat}(h:k<5):k=0\/k=1\/k=2\/k=3\/k=4:=by omega
def pf(wd:Str)(x:V)(b:Bool):List (Str×V):=zP "may_lack" (.bl b) (zP "name" x (zP "word" (.str wd) []))
theorem vW:(pf wd x b).lookup ("word" : Str)=some (.str wd):=by
 unfold pf;rw[zj,aJ (by decide +kernel),zj,aJ (by decide +kernel),zj,aK rfl]
theorem jO:(pf wd x b).lookup ("name" : Str)=some x:=by
 unfold pf;rw[zj,aJ (by decide +kernel),zj,aK rfl]
theorem ziq:(pf wd x b).lookup ("may_lack" : Str)=some (.bl b):=by
 unfold pf;rw[zj,aK rfl]
theorem jt{wd:Str}{x:V}{b:Bool}{m:Str}(h1:¬m="may_lack")(h2:¬m="name")(h3:¬m="word"):(pf wd x b).lookup m=none:=by
 unfold pf;rw[zj,aJ h1,zj,aJ h2,zj,aJ h3];rfl
structure MA where
 (fF fP fB fT fO:Addr)
structure PC(K:Frag)(m:MA)(C:Addr):Prop where
 cl:Cls K C
 nW:yl K C "word"
 nN:yl K C "name"
 nM:yl K C "may_lack"
 mF:y6 K C "free" m.fF
 mP:y6 K C "by_place" m.fP
 mB:y6 K C "by_name" m.fB
 mT:y6 K C "takes_one" m.fT
 mO:y6 K C "told" m.fO
inductive spP(K:Frag)(m:MA)(vs:List V)(H:Hp)(Q:VK)(E:XK):Prop|mk(p dx C:Addr)(wd:Str)(x:V)(b:Bool):vs=[.ref p,.str wd,x,.bl b]->H p=some (.ins C dx [])->PC K m C->OkV K H x->nmV x=true->(∀H1,zq H H1->Q .non (upd H1 p (.ins C dx (pf wd x b))))->spP K m vs H Q E
inductive spS(K:Frag)(C:Addr)(wd:Str)(vs:List V)(H:Hp)(Q:VK)(E:XK):Prop|mk(p dx:Addr)(x:V)(b:Bool):vs=[.ref p,x,.bl b]->H p=some (.ins C dx [])->OkV K H x->nmV x=true->(∀H1,zq H H1->Q .non (upd H1 p (.ins C dx (pf wd x b))))->spS K C wd vs H Q E
inductive spT(K:Frag)(C:Addr)(wd:Str)(vs:List V)(H:Hp)(Q:VK)(E:XK):Prop|mk(p dx:Addr)(x:V):vs=[.ref p,x]->H p=some (.ins C dx [])->OkV K H x->nmV x=true->(∀H1,zq H H1->Q .non (upd H1 p (.ins C dx (pf wd x true))))->spT K C wd vs H Q E
def bpL:List V:=[.str "seat",.str "both"]
def bnL:List V:=[.str "both",.str "tag"]
def otL:List V:=[.str "seat",.str "both",.str "tag"]
inductive zaY(K:Frag)(m:MA)(vs:List V)(H:Hp)(Q:VK)(E:XK):Prop|mk(p dx C:Addr)(wd:Str)(x:V)(b:Bool):vs=[.ref p]->PC K m C->H p=some (.ins C dx (pf wd x b))->(Q (.bl b) H)->zaY K m vs H Q E
inductive jE(K:Frag)(m:MA)(l:List V)(vs:List V)(H:Hp)(Q:VK)(E:XK):Prop|mk(p dx C:Addr)(wd:Str)(x:V)(b:Bool):vs=[.ref p]->PC K m C->H p=some (.ins C dx (pf wd x b))->(Q (.bl (inV (.str wd) l)) H)->jE K m l vs H Q E
structure Wds(K:Frag)(mg:Str->Option Value)(tP tB tO:Addr):Prop where
 mP:mg "BY_PLACE"=some (.ref tP)
 mB:mg "BY_NAME"=some (.ref tB)
 mO:mg "OF_ONE_THING"=some (.ref tO)
 hP:∀H,SqT K H tP bpL
 hB:∀H,SqT K H tB bnL
 hO:∀H,SqT K H tO otL
theorem zh7:zp ["self","word","name","may_lack"] ["self","word","name","may_lack"] (zi zcU):=fsc
theorem zgU(F:Fun K "__init__" "Parameter.__init__" zcU f fd)(cI:⇑1 "is_name" g gd ["thing"] (zj6 K)):
  ↥2 f fd ["self","word","name","may_lack"] (spP K m):=by
 specialize zh7;obtain⟨p,dx,C,wd,x,b,rfl,hp,c,hx,q1,q2⟩:=h;refine⟨_,zk (zJ (wL (yA (cF cI hr (ac (pv 2) zb)))) (zd wj) zx)
  (zk (xl (pv 0) (pv 1) rfl) (zk (xl (pv 0) (pv 2) rfl) (zd (xl (pv 0) (pv 3) rfl)))),?_⟩
 exists _,rfl,x,rfl,hx,fun H1 s1=>⟨_,rfl,?_⟩;rw[q1];refine yB ?_;exists _,rfl,_,rfl,p,C,dx,[],rfl,s1 _ _ hp,c.cl,c.nW,(by show 0<1000;decide),?_
 exists _,rfl,_,rfl,p,C,dx,_,rfl,za,c.cl,c.nN,(by show 1<1000;decide),?_
 exists _,rfl,_,rfl,p,C,dx,_,rfl,za,c.cl,c.nM,(by show 2<1000;decide),?_
 rw[vf,vf];exact q2 _ s1
theorem zkc:zp ["self","name","free"] ["self","name","free"] (zi zf9):=fsc
theorem ziF(F:qV K "__init__" "Seat.__init__" zf9 f fd ds)(c:PC K m C)(B:qY K D "__init__" g)(mD:mg "Parameter"= ~~~D)(G:↥2 g gd ["self","word","name","may_lack"] (spP K m))(bg:zM K gd ["self","word","name","may_lack"] []):
  ↥3 f fd ["self","name","free"] (spS K C "seat"):=by
 refine F.ok zkc (fun vs H Q E h=>?_) (fun cdv A outer s H vs Q E hr h=>?_)
 ·obtain⟨p,dx,x,b,rfl,_⟩:=h
  rfl
 obtain⟨p,dx,x,b,rfl,hp,hx,q1,q2⟩:=h;exists _,zd (zG (zbW B mD G hr bg zY (ac (pv 0) (ac zw (ac (pv 1) (ac (pv 2) zb)))))),?_;exact⟨_,rfl,_,rfl,_,rfl,p,dx,C,_,x,b,rfl,hp,c,hx,q1,q2⟩
theorem zkl:zp ["self","name","free"] ["self","name","free"] (zi zgn):=fsc
theorem ziW(F:qV K "__init__" "Both.__init__" zgn f fd ds)(c:PC K m C)(B:qY K D "__init__" g)(mD:mg "Parameter"= ~~~D)(G:↥2 g gd ["self","word","name","may_lack"] (spP K m))(bg:zM K gd ["self","word","name","may_lack"] []):
  ↥3 f fd ["self","name","free"] (spS K C "both"):=by
 refine F.ok zkl (fun vs H Q E h=>?_) (fun cdv A outer s H vs Q E hr h=>?_)
 ·obtain⟨p,dx,x,b,rfl,_⟩:=h
  rfl
 obtain⟨p,dx,x,b,rfl,hp,hx,q1,q2⟩:=h;exists _,zd (zG (zbW B mD G hr bg zY (ac (pv 0) (ac zw (ac (pv 1) (ac (pv 2) zb)))))),?_;exact⟨_,rfl,_,rfl,_,rfl,p,dx,C,_,x,b,rfl,hp,c,hx,q1,q2⟩
theorem zlJ:zp ["self","name","free"] ["self","name","free"] (zi zkn):=fsc
theorem zkG(F:qV K "__init__" "Tag.__init__" zkn f fd ds)(c:PC K m C)(B:qY K D "__init__" g)(mD:mg "Parameter"= ~~~D)(G:↥2 g gd ["self","word","name","may_lack"] (spP K m))(bg:zM K gd ["self","word","name","may_lack"] []):
  ↥3 f fd ["self","name","free"] (spS K C "tag"):=by
 refine F.ok zlJ (fun vs H Q E h=>?_) (fun cdv A outer s H vs Q E hr h=>?_)
 ·obtain⟨p,dx,x,b,rfl,_⟩:=h
  rfl
 obtain⟨p,dx,x,b,rfl,hp,hx,q1,q2⟩:=h;exists _,zd (zG (zbW B mD G hr bg zY (ac (pv 0) (ac zw (ac (pv 1) (ac (pv 2) zb)))))),?_;exact⟨_,rfl,_,rfl,_,rfl,p,dx,C,_,x,b,rfl,hp,c,hx,q1,q2⟩
theorem zkb:zp ["self","name"] ["self","name"] (zi zf8):=fsc
theorem ziD(F:Fun K "__init__" "Tail.__init__" zf8 f fd)(c:PC K m C)(B:qY K D "__init__" g)(mD:mg "Parameter"= ~~~D)(G:↥2 g gd ["self","word","name","may_lack"] (spP K m))(bg:zM K gd ["self","word","name","may_lack"] []):
  ↥3 f fd ["self","name"] (spT K C "tail"):=by
 specialize zkb;obtain⟨p,dx,x,rfl,hp,hx,q1,q2⟩:=h;exists _,zd (zG (zbW B mD G hr bg zY (ac (pv 0) (ac zw (ac (pv 1) (ac vz zb)))))),?_;exact⟨_,rfl,_,rfl,p,dx,C,_,x,true,rfl,hp,c,hx,q1,q2⟩
theorem zlP:zp ["self","name"] ["self","name"] (zi zku):=fsc
theorem zkQ(F:Fun K "__init__" "Bag.__init__" zku f fd)(c:PC K m C)(B:qY K D "__init__" g)(mD:mg "Parameter"= ~~~D)(G:↥2 g gd ["self","word","name","may_lack"] (spP K m))(bg:zM K gd ["self","word","name","may_lack"] []):
  ↥3 f fd ["self","name"] (spT K C "bag"):=by
 specialize zlP;obtain⟨p,dx,x,rfl,hp,hx,q1,q2⟩:=h;exists _,zd (zG (zbW B mD G hr bg zY (ac (pv 0) (ac zw (ac (pv 1) (ac vz zb)))))),?_;exact⟨_,rfl,_,rfl,p,dx,C,_,x,true,rfl,hp,c,hx,q1,q2⟩
theorem zkh:zp ["self"] ["self"] (zi zgj):=fsc
theorem ziS(F:Fun K "free" "Parameter.free" zgj f fd):↥1 f fd ["self"] (zaY K m):=by
 specialize zkh;obtain⟨p,dx,C,wd,x,b,rfl,c,hp,q⟩:=h;exists _,zd (zt (yo (pv 0) rfl)),?_;exact⟨_,rfl,p,C,dx,_,_,rfl,hp,c.cl,c.nM,ziq,q⟩
theorem zeS:zp ["self"] ["self"] (zi ql):=fsc
theorem zb0{f:Addr}{fd:FuncData}{tP tB tO:Addr}{m:MA}(F:Fun K "by_place" "Parameter.by_place" ql f fd)(Wd:Wds K mg tP tB tO):↥1 f fd ["self"] (jE K m bpL):=by
 specialize zeS;obtain⟨p,dx,C,wd,x,b,rfl,c,hp,q⟩:=h;exists _,zd (zt (y9 xq (yo (pv 0) rfl) (xD (v:=.ref tP) rfl Wd.mP rfl) (by with_unfolding_all rfl))),?_
 exact⟨_,rfl,p,C,dx,_,_,rfl,hp,c.cl,c.nW,vW,tP,bpL,rfl,.inr (Wd.hP H),rfl,⋯,q⟩
theorem zf5:zp ["self"] ["self"] (zi zbl):=fsc
theorem zdc{f:Addr}{fd:FuncData}{tP tB tO:Addr}{m:MA}(F:Fun K "by_name" "Parameter.by_name" zbl f fd)(Wd:Wds K mg tP tB tO):↥1 f fd ["self"] (jE K m bnL):=by
 specialize zf5;obtain⟨p,dx,C,wd,x,b,rfl,c,hp,q⟩:=h;exists _,zd (zt (y9 xq (yo (pv 0) rfl) (xD (v:=.ref tB) rfl Wd.mB rfl) (by with_unfolding_all rfl))),?_
 exact⟨_,rfl,p,C,dx,_,_,rfl,hp,c.cl,c.nW,vW,tB,bnL,rfl,.inr (Wd.hB H),rfl,⋯,q⟩
theorem zh5:zp ["self"] ["self"] (zi zcO):=fsc
theorem zbr{f:Addr}{fd:FuncData}{tP tB tO:Addr}{m:MA}(F:Fun K "takes_one" "Parameter.takes_one" zcO f fd)(Wd:Wds K mg tP tB tO):↥1 f fd ["self"] (jE K m otL):=by
 specialize zh5;obtain⟨p,dx,C,wd,x,b,rfl,c,hp,q⟩:=h;exists _,zd (zt (y9 xq (yo (pv 0) rfl) (xD (v:=.ref tO) rfl Wd.mO rfl) (by with_unfolding_all rfl))),?_
 exact⟨_,rfl,p,C,dx,_,_,rfl,hp,c.cl,c.nW,vW,tO,otL,rfl,.inr (Wd.hO H),rfl,⋯,q⟩
structure C5 where
 (c0 c1 c2 c3 c4:Addr)
def C5.at(c:C5):Nat->Addr
 | 0=>c.c0|1=>c.c1|2=>c.c2|3=>c.c3|_=>c.c4
structure zjQ(P:Program)(w:World)(K:Frag)(mg:Str->Option Value)(base:Heap)(c:C5)(i0 i1 i2 i3 i4:Addr)(d0 d1 d2 d3 d4:FuncData):Prop where
 k0:jr P w K mg base CX0 3 "Seat" c.c0 i0 d0 ["self","name","free"] [] (spS K c.c0 "seat")
 k1:jr P w K mg base CX0 3 "Both" c.c1 i1 d1 ["self","name","free"] [] (spS K c.c1 "both")
 k2:jr P w K mg base CX0 3 "Tail" c.c2 i2 d2 ["self","name"] [] (spT K c.c2 "tail")
 k3:jr P w K mg base CX0 3 "Tag" c.c3 i3 d3 ["self","name","free"] [] (spS K c.c3 "tag")
 k4:jr P w K mg base CX0 3 "Bag" c.c4 i4 d4 ["self","name"] [] (spT K c.c4 "bag")
def Res(c:C5)(H:Hp)(k:Nat)(x:V)(b:Bool)(Q:VK):Prop:=
 nmV x=true/\∀o dx H',zq H H'->H' o=some (.ins (c.at k) dx (pf (kw k) x (fr k b)))->Q (.ref o) H'
inductive zjz(K:Frag)(c:C5)(vs:List V)(H:Hp)(Q:VK)(E:XK):Prop|mk(p:Addr)(k:Nat)(x:V)(b:Bool):vs=[.ref p]->k<5->H p=some (.tup (zkw k x b))->OkV K H x->(Res c H k x b Q)->zjz K c vs H Q E
theorem zm9:¬(V.str "both"=V.str "seat"):=by decide +kernel
theorem zm8:¬(V.str "tail"=V.str "seat"):=by decide +kernel
theorem zm7:¬(V.str "tail"=V.str "both"):=by decide +kernel
theorem zm6:¬(V.str "tag"=V.str "seat"):=by decide +kernel
theorem zm5:¬(V.str "tag"=V.str "both"):=by decide +kernel
theorem zm4:¬(V.str "tag"=V.str "tail"):=by decide +kernel
theorem zm3:¬(V.str "bag"=V.str "seat"):=by decide +kernel
theorem zm2:¬(V.str "bag"=V.str "both"):=by decide +kernel
theorem zm1:¬(V.str "bag"=V.str "tail"):=by decide +kernel
theorem zm0:¬(V.str "bag"=V.str "tag"):=by decide +kernel
theorem zno{k:Nat}(h:k<5):atI (zkw k x b) 0=some (.str (kw k)):=by rcases lt5 h with rfl|rfl|rfl|rfl|rfl <;> rfl
theorem zjF:zp ["told","word"] ["told"] (zi zko):=fsc
theorem zkK(F:Fun K "parameter_of" "parameter_of" zko f fd)(U:zjQ P w K mg base c i0 i1 i2 i3 i4 d0 d1 d2 d3 d4):↥5 f fd ["told"] (zjz K c):=by
 specialize zjF;obtain⟨p,k,x,b,rfl,hk,hp,hx,r1,r2⟩:=h;refine⟨_,zk (zB (i:=1) zjF.nd rfl (Or.inl rfl) (zu zL (pv 0) zh (fun _ _=>rfl)))
  (zk (zJ (zn ye (pv 1) zw (zv _)) (zd (zt (cMk U.k0 .nil zY hr (ac (zu zL (pv 0) zh (fun _ _=>rfl)) (ac (zu zL (pv 0) zh (fun _ _=>rfl)) zb))))) zx)
  (zk (zJ (zn ye (pv 1) zw (zv _)) (zd (zt (cMk U.k1 .nil zY hr (ac (zu zL (pv 0) zh (fun _ _=>rfl)) (ac (zu zL (pv 0) zh (fun _ _=>rfl)) zb))))) zx)
  (zk (zJ (zn ye (pv 1) zw (zv _)) (zd (zt (cMk U.k2 .nil zY hr (ac (zu zL (pv 0) zh (fun _ _=>rfl)) zb)))) zx)
  (zk (zJ (zn ye (pv 1) zw (zv _)) (zd (zt (cMk U.k3 .nil zY hr (ac (zu zL (pv 0) zh (fun _ _=>rfl)) (ac (zu zL (pv 0) zh (fun _ _=>rfl)) zb))))) zx)
  (zd (zt (cMk U.k4 .nil zY hr (ac (zu zL (pv 0) zh (fun _ _=>rfl)) zb)))))))),?_⟩
 exists _,rfl,p,_,_,.str (kw k),rfl,rfl,zz hp,zno hk,?_;rcases lt5 hk with rfl|rfl|rfl|rfl|rfl
 ·have hS:SqT K H p _:=zz hp
  exists _,rfl,rfl,_,rfl,?_;refine dT rfl ?_;exact⟨_,rfl,p,_,_,x,rfl,rfl,hS,rfl,_,rfl,p,_,_,.bl b,rfl,rfl,hS,rfl,fun o dx ho hdx ne=>⟨o,dx,x,b,rfl,za,hx.same (yQ ho hdx),r1,fun H1 s1=>⟨rfl,r2 o dx _ (ww ho hdx s1) za⟩⟩⟩
 ·have hS:SqT K H p _:=zz hp
  exists _,rfl,rfl,_,rfl,?_;refine dF zm9 ?_;exists _,rfl,rfl,_,rfl,?_;refine dT rfl ?_;exact⟨_,rfl,p,_,_,x,rfl,rfl,hS,rfl,_,rfl,p,_,_,.bl b,rfl,rfl,hS,rfl,fun o dx ho hdx ne=>⟨o,dx,x,b,rfl,za,hx.same (yQ ho hdx),r1,fun H1 s1=>⟨rfl,r2 o dx _ (ww ho hdx s1) za⟩⟩⟩
 ·have hS:SqT K H p _:=zz hp
  exists _,rfl,rfl,_,rfl,?_;refine dF zm8 ?_;exists _,rfl,rfl,_,rfl,?_;refine dF zm7 ?_;exists _,rfl,rfl,_,rfl,?_;refine dT rfl ?_;exact⟨_,rfl,p,_,_,x,rfl,rfl,hS,rfl,fun o dx ho hdx ne=>⟨o,dx,x,rfl,za,hx.same (yQ ho hdx),r1,fun H1 s1=>⟨rfl,r2 o dx _ (ww ho hdx s1) za⟩⟩⟩
 ·have hS:SqT K H p _:=zz hp
  exists _,rfl,rfl,_,rfl,?_;refine dF zm6 ?_;exists _,rfl,rfl,_,rfl,?_;refine dF zm5 ?_;exists _,rfl,rfl,_,rfl,?_;refine dF zm4 ?_;exists _,rfl,rfl,_,rfl,?_;refine dT rfl ?_;exact⟨_,rfl,p,_,_,x,rfl,rfl,hS,rfl,_,rfl,p,_,_,.bl b,rfl,rfl,hS,rfl,fun o dx ho hdx ne=>⟨o,dx,x,b,rfl,za,hx.same (yQ ho hdx),r1,fun H1 s1=>⟨rfl,r2 o dx _ (ww ho hdx s1) za⟩⟩⟩
 ·have hS:SqT K H p _:=zz hp
  exists _,rfl,rfl,_,rfl,?_;refine dF zm3 ?_;exists _,rfl,rfl,_,rfl,?_;refine dF zm2 ?_;exists _,rfl,rfl,_,rfl,?_;refine dF zm1 ?_;exists _,rfl,rfl,_,rfl,?_;refine dF zm0 ?_;exact⟨_,rfl,p,_,_,x,rfl,rfl,hS,rfl,fun o dx ho hdx ne=>⟨o,dx,x,rfl,za,hx.same (yQ ho hdx),r1,fun H1 s1=>⟨rfl,r2 o dx _ (ww ho hdx s1) za⟩⟩⟩
end
end K44
namespace L2
open PySem PySem.Spec PyProof.Rows
def dcN(n i:Nat)(D:Addr)(Pv:Nat->List (Key×V)->Hp->Prop)(ys:List (Key×V))(y:V):VK:=fun v H5=>∃k,y=kV k/\H5 D=some (.dK ys)/\ys.length<sizeLine/\∃m',m'<n - i/\m'=n - (i+1)/\i+1<=n/\Pv (i+1) (yK ys k v) (upd H5 D (.dK (yK ys k v)))
def dcS(n i:Nat)(Pv:Nat->List (Key×V)->Hp->Prop)(ys:List (Key×V))(H4:Hp):Prop:=∃m',m'<n - i/\m'=n - (i+1)/\i+1<=n/\Pv (i+1) ys H4
theorem dcN.mk{n i:Nat}{Pv:Nat->List (Key×V)->Hp->Prop}(k:Key)(hi:i<n)(ek:y=kV k)(hn:n<=sizeLine)(hD:H5 D=some (.dK ys))(hy:ys.length<=i)(p:Pv (i+1) (yK ys k v) (upd H5 D (.dK (yK ys k v)))):dcN n i D Pv ys y v H5:=
 ⟨k,ek,hD,∅,n - (i+1),∅,rfl,hi,p⟩
theorem dcS.mk{n i:Nat}{Pv:Nat->List (Key×V)->Hp->Prop}(hi:i<n)(p:Pv (i+1) ys H4):dcS n i Pv ys H4:=⟨n - (i+1),∅,rfl,hi,p⟩
theorem zjk{K:Frag}{a:Addr}{xs:List V}{caps:List (Option Nat)}{g:TG}{tt:TT}{tk tv:TE}{σ : St}{H1:Hp}{Q:VK}{D:Addr}(Pv:Nat->List (Key×V)->Hp->Prop)(h0:Pv 0 [] (upd H1 D (.dK [])))
  (hl:∀i ys H,Pv i ys H->SqL K H a xs)
  (hs:∀i x p ys H,i<xs.length->xs[i]?=some x->Pv i ys H->H p=none->g (.ref p) (xh caps σ) (upd H p (.tup [.int i,x])) fun σ2 H2=>tt σ2 H2 fun ok H3=>(ok=true->tk σ2 H3 fun y H4=>tv σ2 H4 (dcN xs.length i D Pv ys y))/\(ok=false->dcS xs.length i Pv ys H3))
  (hd:∀ys H,Pv xs.length ys H->Q (.ref D) H):DCr (Ite K a) caps g tt tk tv σ H1 Q D:=by
 exists fun i m ys H=>m=xs.length - i/\i<=xs.length/\Pv i ys H,⟨xs.length,by simp,zero_le _,h0⟩,?_
 rintro i m ys H ⟨rfl,hi,p⟩;have q:=hl i ys H p;by_cases hlt:i<xs.length
 ·refine .inr ⟨⟨xs,xs[i],q,by simp [hlt]⟩,fun x H' y=>?_⟩
  obtain⟨pp,y,rfl,hp,y2,rfl⟩:=y;exact hs i y pp ys H hlt (y2 xs q) p hp
 ·have e:i=xs.length:=by omega
  subst e;exact .inl ⟨⟨xs,q,aF _⟩,hd ys H p⟩
end L2
namespace K44
open PySem L2 PyProof.Rows
structure Rw where
 (k:Nat) (z:Str) (b:Bool)
def Rw.ok(r:Rw):Prop:=r.k<5/\xn r.z=true
abbrev rv(r:Rw):List V:=zkw r.k (.str r.z) r.b
abbrev pr(r:Rw):List (Str×V):=pf (kw r.k) (.str r.z) (fr r.k r.b)
def PAt(c:C5)(H:Hp)(p:Addr)(r:Rw):Prop:=∃dx,H p=some (.ins (c.at r.k) dx (pr r))
def xi(k:Nat):Bool:=k==0||k==1
def yI(k:Nat):Bool:=k==1||k==3
theorem zjJ:∀k:Nat,k<5->inV (.str (kw k)) bpL=xi k:=by decide +kernel
theorem zet:∀k:Nat,k<5->inV (.str (kw k)) bnL=yI k:=by decide +kernel
def grp:Nat->Nat
 | 0=>0|1=>0|2=>1|3=>2|_=>3
def xI(l g:Nat):Bool:=decide (g<l)||(g==l&&(g==1||g==3))
def yG:Nat->List Rw->Bool
 | _,[]=>true
 | l,r::rs=>!xI l (grp r.k)&&yG (grp r.k) rs
def nms(rows:List Rw):List Str:=(rows.filter fun r=>yI r.k).map (·.z)
structure zcr(rows:List Rw)(bars:List Str):Prop where
 ok:∀r∈rows,r.ok
 l24:rows.length<=24
 l60:bars.length<=60
 ord:yG 0 rows=true
 bn:∀z∈bars,xn z=true
 nd:(nms rows++bars).Nodup
def zH(kk:Nat):Nat->List Rw->Option Nat
 | _,[]=>none
 | i,r::rs=>if r.k=kk then some i else zH kk (i+1) rs
def wy:Option Nat->V
 | none=>.non
 | some i=>.int i
def yx:Nat->List (Key×V)->List Rw->List (Key×V)
 | _,acc,[]=>acc
 | i,acc,r::rs=>yx (i+1) (if yI r.k=true then yK acc (.inr r.z) (.int i) else acc) rs
def plN(rows:List Rw):Nat:=(rows.filter fun r=>xi r.k).length
def zhK:List Str:=["row","bar_names","place_count","tail_number","bag_number","doors"]
structure FF(fs:List (Str×V))(lr lb ld:Addr)(rows:List Rw):Prop where
 row:fs.lookup ("row" : Str)=some (.ref lr)
 bn:fs.lookup ("bar_names" : Str)=some (.ref lb)
 pc:fs.lookup ("place_count" : Str)=some (.int (plN rows))
 tn:fs.lookup ("tail_number" : Str)=some (wy (zH 2 0 rows))
 bg:fs.lookup ("bag_number" : Str)=some (wy (zH 4 0 rows))
 dr:fs.lookup ("doors" : Str)=some (.ref ld)
 no:∀m,m∉zhK->fs.lookup m=none
def yN(c:C5)(CF:Addr)(H:Hp)(f:Addr)(rows:List Rw)(bars:List Str):Prop:=
 ∃dx fs lr lb ld ps,H f=some (.ins CF dx fs)/\FF fs lr lb ld rows/\H lr=some (.lst (ps.map V.ref))/\Paired (PAt c H) ps rows/\H lb=some (.lst (bars.map V.str))/\H ld=some (.dK (yx 0 [] rows))
section
variable {c:C5}{H H':Hp}{rows:List Rw}{bars:List Str}{r:Rw}{ps:List Addr}
theorem PAt.same(h:PAt c H p r)(s:zq H H'):PAt c H' p r:=h.imp fun _=>s _ _
theorem xU(s:zq H H')(h:Paired (PAt c H) ps rows):Paired (PAt c H') ps rows:=zm (fun _ _ z=>z.same s) h
theorem yN.same(h:yN c CF H f rows bars)(s:zq H H'):yN c CF H' f rows bars:=by
 obtain⟨dx,fs,lr,lb,ld,ps,h1,h2,h3,h4,h5,h6⟩:=h;exact⟨dx,fs,lr,lb,ld,ps,s _ _ h1,h2,s _ _ h3,xU s h4,s _ _ h5,s _ _ h6⟩
def qW(c:C5)(CF:Addr)(H H':Hp)(f:Addr)(rows:List Rw)(bars:List Str):Prop:=
 ∃dx fs lr lb ld ps,H' f=some (.ins CF dx fs)/\FF fs lr lb ld rows/\H' lr=some (.lst (ps.map V.ref))/\Paired (PAt c H') ps rows/\H' lb=some (.lst (bars.map V.str))/\H' ld=some (.dK (yx 0 [] rows))/\H lr=none/\H lb=none
theorem qW.at(h:qW c CF H H' f rows bars):yN c CF H' f rows bars:=by
 obtain⟨dx,fs,lr,lb,ld,ps,h1,h2,h3,h4,h5,h6,_,_⟩:=h;exact⟨dx,fs,lr,lb,ld,ps,h1,h2,h3,h4,h5,h6⟩
theorem qW.of(h:qW c CF H H' f rows bars)(s:zq H0 H):qW c CF H0 H' f rows bars:=by
 obtain⟨dx,fs,lr,lb,ld,ps,h1,h2,h3,h4,h5,h6,h7,h8⟩:=h;exact⟨dx,fs,lr,lb,ld,ps,h1,h2,h3,h4,h5,h6,s.free h7,s.free h8⟩
theorem zU{α β : Type}{R : α->β->Prop}{xs:List α}{ys:List β}(h:Paired R xs ys):∀{i:Nat}{x : α},xs[i]?=some x->∃y,ys[i]?=some y/\R x y:=by
 induction h with
 | nil=>intro i x e;simp at e
 | cons r t ih=>
  intro i x e;cases i with
  | zero=>exact⟨_,rfl,by simp at e;exact e ▸ r⟩
  | succ i=>simpa using ih (by simpa using e)
def zi9(x:Str):Option V:=([(("seat" : Str),V.int 0),("both",.int 0),("tail",.int 1),("tag",.int 2),("bag",.int 3)]:List (Str×V)).lookup x
theorem zi8:∀k:Nat,k<5->zi9 (kw k)=some (.int (grp k)):=by decide +kernel
theorem zk8(k:Nat):grp k<4:=by unfold grp;split <;> decide
structure zcs(w:World)(K:Frag)(mg:Str->Option Value)(G sg:Addr):Prop where
 len:mg "len"=none
 en:mg "enumerate"=none
 lst:mg "list"=none
 set:mg "set"=none
 mp:∃t,mg "MOST_PARAMETERS"=some (.int 24 t)
 mb:∃t,mg "MOST_BARS"=some (.int 60 t)
 mgr:mg "GROUPS"=some (.ref G)
 gt:zll w K G zi9
 ms:mg "SINGLE_GROUPS"=some (.ref sg)
 hs:∀H,SqT K H sg [.int 1,.int 3]
def Cs5(c:C5):Addr->Prop:=fun C=>∃k,k<5/\C=c.at k
inductive zfQ(K:Frag)(vs:List V)(H:Hp)(Q:VK)(E:XK):Prop|mk(a b:Addr)(xs ys:List V):vs=[.ref a,.ref b]->SqL K H a xs->SqL K H b ys->xs.length<=24->ys.length<=60->(Q .non H)->zfQ K vs H Q E
inductive zjA(c:C5)(vs:List V)(H:Hp)(Q:VK)(E:XK):Prop|mk(a:Addr)(ps:List Addr)(rows:List Rw):vs=[.ref a]->H a=some (.lst (ps.map V.ref))->Paired (PAt c H) ps rows->(∀r∈rows,r.ok)->yG 0 rows=true->(∀H',zq H H'->Q .non H')->zjA c vs H Q E
inductive zlD(vs:List V)(H:Hp)(Q:VK)(E:XK):Prop|mk(b:Addr)(bars:List Str):vs=[.ref b]->H b=some (.lst (bars.map V.str))->(∀z∈bars,xn z=true)->(∀H',zq H H'->Q .non H')->zlD vs H Q E
inductive zlC(c:C5)(vs:List V)(H:Hp)(Q:VK)(E:XK):Prop|mk(a b:Addr)(ps:List Addr)(rows:List Rw)(bars:List Str):vs=[.ref a,.ref b]->H a=some (.lst (ps.map V.ref))->Paired (PAt c H) ps rows->(∀r∈rows,r.ok)->rows.length<=500->H b=some (.lst (bars.map V.str))->bars.length<=500->(nms rows++bars).Nodup->(∀H',zq H H'->Q .non H')->zlC c vs H Q E
inductive zlE(c:C5)(vs:List V)(H:Hp)(Q:VK)(E:XK):Prop|mk(a:Addr)(ps:List Addr)(rows:List Rw)(kk:Nat):vs=[.ref a,.str (kw kk)]->kk<5->H a=some (.lst (ps.map V.ref))->Paired (PAt c H) ps rows->(∀r∈rows,r.ok)->(∀H',zq H H'->Q (wy (zH kk 0 rows)) H')->zlE c vs H Q E
theorem zhl:∀i:Nat,i<5->∀k:Nat,k<5->decide (V.str (kw k)=V.str (kw i))=(k==i):=by decide +kernel
theorem zeB{α : Type}{xs:List α}{i:Nat}{x : α}(h:xs[i]?=some x):xs.drop i=x::xs.drop (i+1):=by
 have hi:i<xs.length:=(List.getElem?_eq_some_iff.mp h).1;rw[List.drop_eq_getElem_cons hi];rw[aB hi] at h;rw[Option.some.inj h]
theorem xK{i:Nat}(h:(ps.map V.ref)[i]?=some x):∃p,ps[i]?=some p/\x=.ref p:=by
 rw[getElem?_map] at h;cases e:ps[i]? with
 | none=>rw[e] at h;cases h
 | some p=>rw[e] at h;exact⟨p,rfl,(Option.some.inj h).symm⟩
theorem strs_at{zs:List Str}{i:Nat}{x:V}(h:(zs.map V.str)[i]?=some x):∃z,zs[i]?=some z/\x=.str z:=by
 rw[getElem?_map] at h;cases e:zs[i]? with
 | none=>rw[e] at h;cases h
 | some p=>rw[e] at h;exact⟨p,rfl,(Option.some.inj h).symm⟩
variable {mg:Str->Option Value}
def Pcs(K:Frag)(m:MA)(c:C5):Prop:=∀k,k<5->PC K m (c.at k)
theorem zh6:zp ["parameters","bars"] ["parameters","bars"] (zi zcR):=fsc
theorem ziM{f:Addr}{P:Program}{w:World}{K:Frag}{base:Heap}{G sg:Addr}{fd:FuncData}(F:Fun K "refuse_too_many" "refuse_too_many" zcR f fd)(T:zcs w K mg G sg):↥1 f fd ["parameters","bars"] (zfQ K):=by
 specialize zh6;obtain⟨a,b,xs,ys,rfl,ha,hb,l1,l2,q⟩:=h;obtain⟨t1,m1⟩:=T.mp;obtain⟨t2,m2⟩:=T.mb;refine⟨_,zk (zJ (zn zap (cB zF T.len PySem.boot_len (ac (pv 0) zb)) (xD (v:=.int 24) rfl m1 ⟨_,rfl⟩) (zv _)) (zd wj) zx)
  (zd (zJ (zn zap (cB zF T.len PySem.boot_len (ac (pv 1) zb)) (xD (v:=.int 60) rfl m2 ⟨_,rfl⟩) (zv _)) (zd wj) zx)),?_⟩
 exists _,rfl,a,_,rfl,.inl ha,_,_,rfl,rfl,_,rfl,?_;refine dF (by show ¬(24:Int)<(xs.length:Int);omega) ?_
 exists _,rfl,b,_,rfl,.inl hb,_,_,rfl,rfl,_,rfl,?_;exact dF (by show ¬(60:Int)<(ys.length:Int);omega) q
theorem wT:zp ["parameters","last","at","parameter","group"] ["parameters"] (zi zbf):=fsc
theorem zgX{f:Addr}{P:Program}{w:World}{K:Frag}{base:Heap}{G sg:Addr}{fd:FuncData}{m:MA}(F:Fun K "refuse_bad_order" "refuse_bad_order" zbf f fd)(T:zcs w K mg G sg)(PP:Pcs K m c):↥1 f fd ["parameters"] (zjA c):=by
 specialize wT;obtain⟨a,ps,rows,rfl,ha,hp,hok,ho,q⟩:=h;refine⟨_,zk (zB (i:=1) wT.nd rfl (Or.inl rfl) zh)
  (zd (yr PassesOwn.never rfl (wC rfl T.en (ac (pv 0) zb)) (yi rfl (zo (zl (i:=2) wT.nd rfl (Or.inl rfl)) (zo (zl (i:=3) wT.nd rfl (Or.inl rfl)) zT)))
   (zk (zB (i:=4) wT.nd rfl (Or.inl rfl) (zis T.gt T.mgr (yo (pv 3) rfl)))
   (zk (zJ (yy (vy (zn wD (pv 4) (pv 1) (zv _)) (wx (yy (yz (zn ye (pv 4) (pv 1) (zv _)) (yq (zn xq (pv 4) (xD (v:=.ref sg) rfl T.ms rfl) (by with_unfolding_all rfl)))))))) (zd wj) zx)
   (zd (zB (i:=1) wT.nd rfl (Or.inl rfl) (pv 4))))))),?_⟩
 show uW _ _ _ _ _;refine⟨_,rfl,a,rfl,⟨_,zc ha⟩,vL (K:=K) (a:=a) (xs:=ps.map V.ref) (fun i σ H'=>∃(l:Nat) (v2 v3 v4:Option V),σ=[~~~a,some (.int (l:Nat)),v2,v3,v4]/\zq H H'/\yG l (rows.drop i)=true)
  ⟨0,_,_,_,rfl,zq.refl _,ho⟩ (fun i σ H' _ ⟨_,_,_,_,_,sH,_⟩=>zc (sH _ _ ha)) ?_ ?_⟩
 ·rintro i x p σ H' hx ⟨l,v2,v3,v4,rfl,sH,hl⟩ hpn
  obtain⟨pa,hpa,rfl⟩:=xK hx;obtain⟨r,hr',dx,hdx⟩:=zU hp hpa;have rok:=hok r (aH hr');have C:=PP r.k rok.1;rw[zeB hr'] at hl;have hl':(!xI l (grp r.k)&&yG (grp r.k) (rows.drop (i+1)))=true:=hl;rw[Bool.and_eq_true,Bool.not_eq_true'] at hl';obtain⟨hb,hl2⟩:=hl';have hb':(decide (grp r.k<l)||(grp r.k==l&&(grp r.k==1||grp r.k==3)))=false:=hb
  rw[Bool.or_eq_false_iff] at hb';have sp:=zg hpn (.tup [.int (i:Nat),.ref pa]);exists p,_,rfl,zz za,rfl,_,_,rfl,_,_,rfl,rfl,?_;exists _,rfl,pa,_,dx,_,_,rfl,sp _ _ (sH _ _ hdx),C.cl,C.nW,vW,kw r.k,.int (grp r.k),rfl,zi8 r.k rok.1,?_;exists _,rfl,_,rfl,_,_,rfl,rfl,_,rfl,?_;refine dF (fun z=>by have:=of_decide_eq_false hb'.1;omega) ?_
  have fin:∃(l':Nat) (v2 v3 v4:Option V),([~~~a,some (.int (grp r.k:Nat)),some (.int (i:Nat)),~~~pa,some (.int (grp r.k:Nat))]:L2.St)=[~~~a,some (.int (l':Nat)),v2,v3,v4]/\zq H (upd H' p (.tup [.int (i:Nat),.ref pa]))/\yG l' (rows.drop (i+1))=true:=
   ⟨grp r.k,_,_,_,rfl,sH.trans sp,hl2⟩
  exists _,rfl,_,rfl,rfl,_,rfl,?_;by_cases e:grp r.k=l
  ·refine dT (by rw[e]) ?_
   exists _,rfl,sg,_,rfl,.inr (T.hs _),rfl,⋯,_,rfl,?_
   have h13:(grp r.k==1||grp r.k==3)=false:=by
    have:=hb'.2
    rw[e] at this |-;simpa using this
   have hin:inV (.int (grp r.k:Nat)) [.int 1,.int 3]=false:=by
    have g4:=zk8 r.k
    have:∀g:Nat,g<4->(g==1||g==3)=false->inV (.int (g:Nat)) [.int 1,.int 3]=false:=by decide +kernel
    exact this _ g4 h13
   rw[show(if false=true then !inV (V.int ((grp r.k:Nat):Int)) [V.int 1,V.int 3] else inV (V.int ((grp r.k:Nat):Int)) [V.int 1,V.int 3])=false from hin]
   refine yB ?_;exact⟨_,rfl,fin⟩
  ·refine dF (fun z=>e (by have:=V.int.inj z;omega)) ?_
   exact⟨_,rfl,fin⟩
 ·rintro σ H' ⟨l,v2,v3,v4,rfl,sH,_⟩
  exact q _ sH
end
end K44
namespace L2
open PySem PySem.Spec PyProof.Rows
theorem zef{X:Cx}{K:Frag}{e:Expr}{f:Str}{pos:Pos}{ta:TE}(hK:X.K=K)(he:PE X e ta)(hb:attributeBase e f X.env (eval e X.env)=eval e X.env):PE X (.Attribute e f pos) (zlw K ta f):=hK ▸ yo he hb
end L2
namespace K44
open PySem L2 PyProof.Rows
theorem xo{n:Nat}(h:n<=1000):n<=sizeLine:=le_of_lt (zE h)
theorem ziY{rows:List Rw}{i:Nat}{r:Rw}(h:rows[i]?=some r):nms (rows.take (i+1))=nms (rows.take i)++(if yI r.k=true then [r.z] else []):=by
 have hi:i<rows.length:=(List.getElem?_eq_some_iff.mp h).1;have e:rows[i]=r:=by rw[aB hi] at h;exact Option.some.inj h
 unfold nms;rw[take_succ_eq_append_getElem hi,filter_append,aE,e];cases hb:yI r.k <;> simp [hb]
section
variable {K:Frag}{mg:Str->Option Value}{f G sg:Addr}{c:C5}
theorem zcG:zp ["parameters","word","at","parameter"] ["parameters","word"] (zi zgd):=fsc
theorem ziJ(F:Fun K "number_of_word" "number_of_word" zgd f fd)(T:zcs w K mg G sg)(PP:Pcs K m c):↥1 f fd ["parameters","word"] (zlE c):=by
 specialize zcG;obtain⟨a,ps,rows,kk,rfl,hkk,ha,hp,hok,q⟩:=h;refine⟨_,zk (yr PassesOwn.never rfl (wC rfl T.en (ac (pv 0) zb)) (yi rfl (zo (zl (i:=2) zcG.nd rfl (Or.inl rfl)) (zo (zl (i:=3) zcG.nd rfl (Or.inl rfl)) zT)))
   (zd (zJ (zn ye (yo (pv 3) rfl) (pv 1) (zv _)) (zd (zt (pv 2))) zx))) (zd (zt ur)),?_⟩
 refine⟨_,rfl,a,rfl,⟨_,zc ha⟩,vL (K:=K) (a:=a) (xs:=ps.map V.ref) (fun i σ H'=>∃v2 v3,σ=[~~~a,some (.str (kw kk)),v2,v3]/\zq H H'/\zH kk i (rows.drop i)=zH kk 0 rows)
  ⟨_,_,rfl,zq.refl _,rfl⟩ (fun i σ H' _ ⟨_,_,_,sH,_⟩=>zc (sH _ _ ha)) ?_ ?_⟩
 ·rintro i x p σ H' hx ⟨v2,v3,rfl,sH,hl⟩ hpn
  obtain⟨pa,hpa,rfl⟩:=xK hx;obtain⟨r,hr',dx,hdx⟩:=zU hp hpa;have rok:=hok r (aH hr');have C:=PP r.k rok.1;rw[zeB hr'] at hl;have hl':(if r.k=kk then some i else zH kk (i+1) (rows.drop (i+1)))=zH kk 0 rows:=hl
  have sp:=zg hpn (.tup [.int (i:Nat),.ref pa]);exists p,_,rfl,zz za,rfl,_,_,rfl,_,_,rfl,rfl,?_;exists _,rfl,pa,_,dx,_,_,rfl,sp _ _ (sH _ _ hdx),C.cl,C.nW,vW,_,rfl,rfl,_,rfl,?_;by_cases e:r.k=kk
  ·refine dT (by rw[e]) ?_
   rw[aK e] at hl';exists _,rfl,?_
   have:=q _ (sH.trans sp)
   rw[<- hl'] at this;exact this
  ·refine dF (fun z=>?_) ?_
   ·have h1:=zhl kk hkk r.k rok.1
    rw[aC z] at h1;exact e (by simpa using h1.symm)
   ·rw[aJ e] at hl'
    exact⟨_,_,rfl,sH.trans sp,hl'⟩
 ·rintro σ H' ⟨v2,v3,rfl,sH,hl⟩
  have e:zH kk 0 rows=none:=by
   rw[<- hl,aA,hp.length,List.drop_length];rfl
  have:=q _ sH
  rw[e] at this;exact this
theorem zea:zp ["bars","bar"] ["bars"] (zi zcS):=fsc
theorem zgT(F:Fun K "refuse_bars_without_name" "refuse_bars_without_name" zcS f fd)(cI:⇑1 "is_name" g gd ["thing"] (zj6 K)):↥2 f fd ["bars"] zlD:=by
 specialize zea;obtain⟨b,bars,rfl,hb,hn,q⟩:=h;exists _,zd (yr PassesOwn.never rfl (yb (pv 0)) (zl (i:=1) zea.nd rfl (Or.inl rfl)) (zd (zJ (wL (yA (cF cI hr (ac (pv 1) zb)))) (zd wj) zx))),?_;exists _,rfl,b,rfl,⟨_,zc hb⟩,yY (K:=K) (a:=b) (xs:=bars.map V.str) (fun i σ H'=>∃v1,σ=[~~~b,v1]/\zq H H') ⟨_,rfl,zq.refl _⟩ (fun i σ H' _ ⟨_,_,sH⟩=>zc (sH _ _ hb)) ?_ ?_
 ·rintro i x σ H' hx ⟨v1,rfl,sH⟩
  obtain⟨z,hz,rfl⟩:=strs_at hx;have nz:=hn z (aH hz);exists _,rfl,_,rfl,.inl ⟨z,rfl,zb4 nz⟩,fun H2 s2=>⟨_,rfl,?_⟩;rw[show nmV (.str z)=true from nz];refine yB ?_;exact⟨_,rfl,sH.trans s2⟩
 ·rintro σ H' ⟨v1,rfl,sH⟩
  exact q _ sH
theorem zl8:([Str.ofString "parameter"]:List Str).Nodup:=by decide +kernel
theorem qb:zp ["parameters","bars","seen","name"] ["parameters","bars"] (zi zbe):=fsc
theorem zgO(F:Fun K "refuse_twice" "refuse_twice" zbe f fd)(T:zcs w K mg G sg)(PP:Pcs K m c)(GB:↥1 m.fB gd ["self"] (jE K m bnL))(bB:zM K gd ["self"] []):↥2 f fd ["parameters","bars"] (zlC c):=by
 specialize qb;obtain⟨a,b,ps,rows,bars,rfl,ha,hp,hok,l1,hb,l2,nd,q⟩:=h;have hC:∀C,Cs5 c C->Cls K C/\y6 K C "by_name" m.fB:=fun C ⟨k,hk,e⟩=>by rw[e];exact⟨(PP k hk).cl,(PP k hk).mB⟩
 refine⟨_,zk (zB (i:=2) qb.nd rfl (Or.inl rfl) (zc9 zfv rfl T.set (by decide +kernel:bootBuiltins "set"=some (.type "set"))))
  (zd (yr PassesOwn.never rfl (yb (zN vm (xF [] ["parameter"] [none] rfl ⟨rfl,rfl,rfl,rfl⟩ (yb (pv 0)) (yc 0) rfl rfl rfl
    (fun pins fp s H C=>⟨zl (i:=0) zl8 rfl (Or.inl rfl) (.inr rfl),xM (yA (wY (pv 0) hC GB hr bB zY)),zef (K:=K) rfl (pv 0) rfl⟩)) (cTy xa T.lst PyProof.Rows.boot_list (ac (pv 1) zb)))) (zl (i:=3) qb.nd rfl (Or.inl rfl))
   (zk (zJ (zn qy (pv 3) (pv 2) (by with_unfolding_all rfl)) (zd wj) zx)
   (zd (zG (zir (pv 2) (pv 3) ⟨rfl,rfl,rfl,rfl⟩)))))),?_⟩
 exists rfl,fun se hse=>?_;have s1:zq H (upd H se (vC P w se (fun _=>false) 0)):=zg hse _;have g1:upd H se (vC P w se (fun _=>false) 0) se=some (vC P w se (fun _=>false) 0):=za;show uW _ _ _ _ (upd H se (vC P w se (fun _=>false) 0));generalize upd H se (vC P w se (fun _=>false) 0)=H1 at s1 g1 |-;have ha1:=s1 _ _ ha;have hp1:=xU s1 hp;exists _,rfl,a,rfl,⟨_,zc ha1⟩,fun D hD=>?_;refine wF (K:=K) (xs:=ps.map V.ref) (fun i ys H'=>zq H1 H'/\H' D=some (.lst ys)/\ys=(nms (rows.take i)).map V.str) ⟨zg hD _,za,rfl⟩ (fun i ys H' h=>zc (h.1 _ _ ha1)) ?_ ?_
 ·rintro i x ys H' hlt hx ⟨sH,hDy,ey⟩
  obtain⟨pa,hpa,rfl⟩:=xK hx;obtain⟨r,hr',dx,hdx⟩:=zU hp1 hpa;have rok:=hok r (aH hr');have C:=PP r.k rok.1;have nl:ys.length<=i:=by
   rw[ey,aA];unfold nms;rw[aA];refine le_trans (length_filter_le _ _) ?_;rw[length_take];omega
  have hd2:=sH _ _ hdx;exists _,rfl,pa,_,dx,_,rfl,⟨r.k,rok.1,rfl⟩,hd2,jt (by decide +kernel) (by decide +kernel) (by decide +kernel),pa,dx,_,_,_,_,rfl,C,hd2,_,rfl,?_
  rw[zet r.k rok.1];have tk:=ziY hr';exists fun e=>?_,fun e=>?_
  ·rw[e,aK rfl] at tk
   exists _,rfl,pa,_,dx,_,_,rfl,hd2,C.cl,C.nN,jO,?_;refine lcN.mk hlt (xo (by rw[aA,hp.length];omega)) hDy nl ⟨fun b u e=>?_,za,?_⟩
   ·rw[zf (ze e hD)]
    exact sH b u e
   ·rw[ey,tk,aE]
    rfl
  ·rw[e,aJ zft,append_nil] at tk
   exact lcS.mk hlt ⟨sH,hDy,by rw[ey,tk]⟩
 rintro ys H2 ⟨s2,hDy,ey⟩;have ey:ys=(nms rows).map V.str:=by
  rw[ey,aA,hp.length,take_length]
 subst ey;have hb2:=s2 _ _ (s1 _ _ hb);exists _,rfl,b,_,rfl,.inl (zc hb2),fun l hl=>?_
 injections l hl H3 s3 g3
 have ln:(nms rows).length<=500:=by
  unfold nms;rw[aA];exact le_trans (length_filter_le _ _) l1
 exists D,l,_,_,rfl,rfl,s3 _ _ hDy,g3,xo (by rw[aA,aA];omega),fun l4 hl4=>?_
 rw[<- aE];have s4:=zg hl4 (.lst ((nms rows++bars).map V.str));have g4:upd H3 l4 (.lst ((nms rows++bars).map V.str)) l4=some (.lst ((nms rows++bars).map V.str)):=za;have nse:l4≠se:=fun z=>by
  rw[z] at hl4;rw[s3 _ _ (s2 _ _ g1)] at hl4;cases hl4
 generalize upd H3 l4 (.lst ((nms rows++bars).map V.str))=H4 at s4 g4 |-;have sA:zq H1 H4:=s2.trans (s3.trans s4);have gse:=sA _ _ g1;refine⟨l4,rfl,⟨_,zc g4⟩,yY (K:=K) (a:=l4) (xs:=(nms rows++bars).map V.str) (fun i σ H'=>∃(S:Str->Bool) (n:Nat) (v3:Option V),σ=[~~~a,~~~b,~~~se,v3]/\H' se=some (vC P w se S n)/\(∀z,S z=decide (z∈(nms rows++bars).take i))/\n<=i/\(∀b' u,H4 b'=some u->b'≠se->H' b'=some u))
  ⟨_,0,_,rfl,gse,fun z=>by simp,aF _,fun b' u e _=>e⟩ (fun i σ H' _ ⟨_,_,_,_,_,_,_,k⟩=>zc (k _ _ g4 nse)) ?_ ?_⟩
 ·rintro i x σ H' hx ⟨S,n,v3,rfl,hS,hSz,hn,k⟩
  obtain⟨z,hz,rfl⟩:=strs_at hx;have hi:i<(nms rows++bars).length:=(List.getElem?_eq_some_iff.mp hz).1;have ez:(nms rows++bars)[i]=z:=by rw[aB hi] at hz;exact Option.some.inj hz
  have nz:S z=false:=by
   rw[hSz,decide_eq_false_iff_not];intro hm;obtain⟨j,hj,ej⟩:=List.mem_take_iff_getElem.mp hm
   have:=List.pairwise_iff_getElem.mp nd j i ∅ hi ∅
   exact this (ej.trans ez.symm)
  exists _,rfl,_,rfl,se,S,n,z,rfl,rfl,hS,_,rfl,?_;rw[nz];refine yB ?_;exists _,rfl,se,S,n,rfl,hS,_,rfl,S,n,z,rfl,hS,?_,?_
  ·rw[aG] at hi
   show n+1<4096;omega
  ·exists _,_,_,rfl,za,fun y=>?_,?_,fun b' u e ne=>?_
   ·rw[hSz y,take_succ_eq_append_getElem hi,ez]
    simp [mem_append]
   ·rw[nz]
    show n+1<=i+1;omega
   ·rw[zf ne]
    exact k b' u e ne
 ·rintro σ H' ⟨S,n,v3,rfl,hS,hSz,hn,k⟩
  refine q _ fun b' u e=>k b' u (sA _ _ (s1 _ _ e)) fun z=>?_;rw[z,hse] at e;cases e
def SX(f:Addr)(H H':Hp):Prop:=∀b u,H b=some u->b≠f->H' b=some u
theorem SX.same(x:SX f H H1)(s:zq H1 H2):SX f H H2:=fun b u e n=>s b u (x b u e n)
theorem SX.upd(x:SX f H H1):SX f H (upd H1 f o):=fun b u e n=>by rw[zf n];exact x b u e n
theorem SX.refl:SX f H H:=fun _ _ e _=>e
theorem vk(f:Str)(v:V):∀fs:List (Str×V),(zP f v fs).length<=fs.length+1
 | []=>aF _
 | (g,x)::r=>by
  show(if g=f then (g,v)::r else (g,x)::zP f v r).length<=_
  split
  ·simp
  ·have:=vk f v r
   simp only[length_cons];omega
def Pre(fs:List (Str×V)):Prop:=fs.length<=50/\∀m,m∉zhK->fs.lookup m=none
structure FC(K:Frag)(CF:Addr):Prop where
 cl:Cls K CF
 n1:yl K CF "row"
 n2:yl K CF "bar_names"
 n3:yl K CF "place_count"
 n4:yl K CF "tail_number"
 n5:yl K CF "bag_number"
 n6:yl K CF "doors"
inductive zfS(c:C5)(CF:Addr)(vs:List V)(H:Hp)(Q:VK)(E:XK):Prop|mk(f a b dx:Addr)(fs:List (Str×V))(ps:List Addr)(rows:List Rw)(bars:List Str):vs=[.ref f,.ref a,.ref b]->H f=some (.ins CF dx fs)->Pre fs->H a=some (.lst (ps.map V.ref))->Paired (PAt c H) ps rows->(∀r∈rows,r.ok)->rows.length<=500->H b=some (.lst (bars.map V.str))->(∀H',SX f H H'->qW c CF H H' f rows bars->(∃dx' fs',H' f=some (.ins CF dx' fs')/\fs'.length<=fs.length+6)->Q .non H')->zfS c CF vs H Q E
theorem zin{rows:List Rw}{i:Nat}{r:Rw}(h:rows[i]?=some r):plN (rows.take (i+1))=plN (rows.take i)+(if xi r.k=true then 1 else 0):=by
 have hi:i<rows.length:=(List.getElem?_eq_some_iff.mp h).1;have e:rows[i]=r:=by rw[aB hi] at h;exact Option.some.inj h
 unfold plN;rw[take_succ_eq_append_getElem hi,filter_append,aG,e];cases hb:xi r.k <;> simp [hb]
theorem jm:∀(rows:List Rw) (i:Nat) (acc:List (Key×V)),(yx i acc rows).length<=acc.length+rows.length
 | [],_,_=>aF _
 | r::rs,i,acc=>by
  have h:=jm rs (i+1) (if yI r.k=true then yK acc (.inr r.z) (.int i) else acc)
  have h2:(if yI r.k=true then yK acc (.inr r.z) (.int i) else acc).length<=acc.length+1:=by
   split
   ·exact xG acc _ _
   ·omega
  show(yx (i+1) _ rs).length<=acc.length+(rs.length+1);omega
theorem vN{r:Rw}:∀(rows:List Rw) (j i:Nat) (acc:List (Key×V)),rows[i]?=some r->yx j acc (rows.take (i+1))=(if yI r.k=true then yK (yx j acc (rows.take i)) (.inr r.z) (.int (j+i:Nat)) else yx j acc (rows.take i))
 | [],_,_,_,h=>by simp at h
 | r0::rs,j,0,acc,h=>by
  have e:r0=r:=by simpa using h
  subst e;show(if yI r0.k=true then yK acc (.inr r0.z) (.int j) else acc)=_
  rfl
 | r0::rs,j,i+1,acc,h=>by
  have:=vN rs (j+1) i (if yI r0.k=true then yK acc (.inr r0.z) (.int j) else acc) (by simpa using h)
  show yx (j+1) _ (rs.take (i+1))=_;rw[this,show j+1+i=j+(i+1) by omega]
  rfl
variable {CF:Addr}
theorem PAt.ne(h:PAt c H p r)(e:H f=some (.ins CF dx fs))(n:fs.lookup ("word" : Str)=none):p≠f:=fun z=>by
 obtain⟨d,h⟩:=h;rw[z,e] at h;injection h with h
 injection h with h1 h2 h3
 rw[h3,vW] at n;cases n
theorem vX(e:H f=some (.ins CF dx fs))(n:fs.lookup ("word" : Str)=none)(x:SX f H H')(h:Paired (PAt c H) ps rows):Paired (PAt c H') ps rows:=
 zm (fun _ _ z=>by
  have ne:=z.ne e n;obtain⟨d,q⟩:=z;exact⟨d,x _ _ q ne⟩) h
theorem zmg:([Str.ofString "at",Str.ofString "parameter"]:List Str).Nodup:=by decide +kernel
theorem zke:zp ["self","parameters","bars"] ["self","parameters","bars"] (zi zgh):=fsc
theorem ziQ(F:Fun K "keep" "Form.keep" zgh f fd)(T:zcs w K mg G sg)(PP:Pcs K m c)(FK:FC K CF)(cW:⇑1 "number_of_word" g gd ["parameters","word"] (zlE c))
  (GP:↥1 m.fP gp ["self"] (jE K m bpL)) (bP:zM K gp ["self"] []) (GB:↥1 m.fB gb ["self"] (jE K m bnL)) (bB:zM K gb ["self"] []):↥2 f fd ["self","parameters","bars"] (zfS c CF):=by
 specialize zke;obtain⟨f,a,b,dx,fs,ps,rows,bars,rfl,hf,⟨pl,pn⟩,ha,hp,hok,l5,hb,q⟩:=h;have hP:∀C,Cs5 c C->Cls K C/\y6 K C "by_place" m.fP:=fun C ⟨k,hk,e⟩=>by rw[e];exact⟨(PP k hk).cl,(PP k hk).mP⟩
 have hB:∀C,Cs5 c C->Cls K C/\y6 K C "by_name" m.fB:=fun C ⟨k,hk,e⟩=>by rw[e];exact⟨(PP k hk).cl,(PP k hk).mB⟩
 have nw:fs.lookup ("word" : Str)=none:=pn _ (by decide +kernel)
 refine⟨_,zk (xl (pv 0) (cTy xa T.lst PyProof.Rows.boot_list (ac (pv 1) zb)) rfl)
  (zk (xl (pv 0) (cTy xa T.lst PyProof.Rows.boot_list (ac (pv 2) zb)) rfl)
  (zk (xl (pv 0) (cB zF T.len PySem.boot_len (ac (xF [] ["parameter"] [none] rfl ⟨rfl,rfl,rfl,rfl⟩ (yb (yo (pv 0) rfl)) (yc 0) rfl rfl rfl
    (fun pins fp s H C=>⟨zl (i:=0) zl8 rfl (Or.inl rfl) (.inr rfl),xM (yA (wY (pv 0) hP GP hr bP zY)),pv 0⟩)) zb)) rfl)
  (zk (xl (pv 0) (cF cW hr (ac (yo (pv 0) rfl) (ac zw zb))) rfl)
  (zk (xl (pv 0) (cF cW hr (ac (yo (pv 0) rfl) (ac zw zb))) rfl)
  (zd (xl (pv 0) (zlZ [] ["at","parameter"] [none,none] rfl ⟨rfl,rfl,rfl,rfl⟩ (wC rfl T.en (ac (yo (pv 0) rfl) zb)) (wn (K:=K) (n:=2) 0 1) rfl rfl rfl
    (fun pins fp s H C=>⟨yi rfl (zo (zl (i:=0) zmg rfl (Or.inl rfl) (.inr rfl)) (zo (zl (i:=1) zmg rfl (Or.inl rfl) (.inr rfl)) zT)),xM (yA (wY (pv 1) hB GB hr bB zY)),zef (K:=K) rfl (pv 1) rfl,pv 0⟩)) rfl)))))),?_⟩
 exists _,rfl,a,_,rfl,.inl (zc ha),fun l1 hl1=>?_;have s1:=zg hl1 (.lst (ps.map V.ref));exists _,rfl,f,CF,dx,fs,rfl,s1 _ _ hf,FK.cl,FK.n1,∅,?_
 have x1:SX f H (upd (upd H l1 (.lst (ps.map V.ref))) f (.ins CF dx (zP "row" (.ref l1) fs))):=(SX.refl.same s1).upd;have f1:upd (upd H l1 (.lst (ps.map V.ref))) f (.ins CF dx (zP "row" (.ref l1) fs)) f=some (.ins CF dx (zP "row" (.ref l1) fs)):=za;have e1:upd (upd H l1 (.lst (ps.map V.ref))) f (.ins CF dx (zP "row" (.ref l1) fs)) l1=some (.lst (ps.map V.ref)):=by
  rw[zf (fun z=>by rw[z,hf] at hl1;cases hl1),za]
 have p1:=vk "row" (.ref l1) fs;have r1:(zP "row" (.ref l1) fs).lookup ("row" : Str)=some (.ref l1):=by rw[zj,aK rfl]
 show uW _ _ _ _ (upd (upd H l1 (.lst (ps.map V.ref))) f (.ins CF dx (zP "row" (.ref l1) fs)));generalize upd (upd H l1 (.lst (ps.map V.ref))) f (.ins CF dx (zP "row" (.ref l1) fs))=H1 at x1 f1 e1 |-;have nbf:b≠f:=zV hb hf (by intro z;cases z)
 exists _,rfl,b,_,rfl,.inl (zc (x1 _ _ hb nbf)),fun l2 hl2=>?_;have s2:=zg hl2 (.lst (bars.map V.str));have hlb:H l2=none:=by
  cases e:H l2 with
  | none=>rfl
  | some u=>exact absurd (x1 _ _ e (fun z=>by rw[z,f1] at hl2;cases hl2)) (by rw[hl2];intro z;cases z)
 exists _,rfl,f,CF,dx,_,rfl,s2 _ _ f1,FK.cl,FK.n2,∅,?_
 have x2:SX f H (upd (upd H1 l2 (.lst (bars.map V.str))) f (.ins CF dx (zP "bar_names" (.ref l2) (zP "row" (.ref l1) fs)))):=(x1.same s2).upd;have f2:upd (upd H1 l2 (.lst (bars.map V.str))) f (.ins CF dx (zP "bar_names" (.ref l2) (zP "row" (.ref l1) fs))) f=some (.ins CF dx (zP "bar_names" (.ref l2) (zP "row" (.ref l1) fs))):=za;have g2:upd (upd H1 l2 (.lst (bars.map V.str))) f (.ins CF dx (zP "bar_names" (.ref l2) (zP "row" (.ref l1) fs))) l2=some (.lst (bars.map V.str)):=by
  rw[zf (fun z=>by rw[z,f1] at hl2;cases hl2),za]
 have e2:upd (upd H1 l2 (.lst (bars.map V.str))) f (.ins CF dx (zP "bar_names" (.ref l2) (zP "row" (.ref l1) fs))) l1=some (.lst (ps.map V.ref)):=by
  rw[zf (zV e1 f1 (by intro z;cases z)),s2 _ _ e1]
 have p2:=vk "bar_names" (.ref l2) (zP "row" (.ref l1) fs);have r2:(zP "bar_names" (.ref l2) (zP "row" (.ref l1) fs)).lookup ("row" : Str)=some (.ref l1):=by rw[zj,aJ (by decide +kernel)];exact r1
 show uW _ _ _ _ (upd (upd H1 l2 (.lst (bars.map V.str))) f (.ins CF dx (zP "bar_names" (.ref l2) (zP "row" (.ref l1) fs))));generalize hfs2:zP "bar_names" (.ref l2) (zP "row" (.ref l1) fs)=fs2 at f2 e2 g2 p2 r2 x2 |-;generalize upd (upd H1 l2 (.lst (bars.map V.str))) f (.ins CF dx fs2)=H2 at x2 f2 e2 g2 |-;have hp2:=vX hf nw x2 hp;exists _,rfl,f,CF,dx,_,_,rfl,f2,FK.cl,FK.n1,r2,l1,rfl,⟨_,zc e2⟩,fun D hD=>?_;refine wF (K:=K) (xs:=ps.map V.ref) (fun i ys H'=>zq H2 H'/\H' D=some (.lst ys)/\ys.length=plN (rows.take i)) ⟨zg hD _,za,rfl⟩ (fun i ys H' h=>zc (h.1 _ _ e2)) ?_ ?_
 ·rintro i x ys H' hlt hx ⟨sH,hDy,ey⟩
  obtain⟨pa,hpa,rfl⟩:=xK hx;obtain⟨r,hr',dx',hdx⟩:=zU hp2 hpa;have rok:=hok r (aH hr');have C:=PP r.k rok.1;have nl:ys.length<=i:=by
   rw[ey];unfold plN;refine le_trans (length_filter_le _ _) ?_;rw[length_take];omega
  have hd2:=sH _ _ hdx;exists _,rfl,pa,_,dx',_,rfl,⟨r.k,rok.1,rfl⟩,hd2,jt (by decide +kernel) (by decide +kernel) (by decide +kernel),pa,dx',_,_,_,_,rfl,C,hd2,_,rfl,?_
  rw[zjJ r.k rok.1];have tk:=zin hr';exists fun e=>?_,fun e=>?_
  ·rw[e,aK rfl] at tk
   exists _,rfl,lcN.mk hlt (xo (by rw[aA,hp.length];omega)) hDy nl ⟨fun b u e=>?_,za,?_⟩
   ·rw[zf (ze e hD)]
    exact sH b u e
   ·rw[aG,ey,tk]
    rfl
  ·rw[e,aJ zft] at tk
   exact lcS.mk hlt ⟨sH,hDy,by rw[ey,tk];rfl⟩
 rintro ys H3 ⟨s3,hDy,ey⟩;rw[aA,hp.length,take_length] at ey;exists D,_,rfl,.inl (zc hDy),?_;rw[ey];have x3:=x2.same s3;exists _,rfl,f,CF,dx,_,rfl,s3 _ _ f2,FK.cl,FK.n3,∅,?_
 have f3:upd H3 f (.ins CF dx (zP "place_count" (.int (plN rows:Nat)) fs2)) f=some (.ins CF dx (zP "place_count" (.int (plN rows:Nat)) fs2)):=za;have x4:SX f H (upd H3 f (.ins CF dx (zP "place_count" (.int (plN rows:Nat)) fs2))):=x3.upd;have e4:upd H3 f (.ins CF dx (zP "place_count" (.int (plN rows:Nat)) fs2)) l1=some (.lst (ps.map V.ref)):=by rw[zf (zV e2 f2 (by intro z;cases z))];exact s3 _ _ e2
 have g4:upd H3 f (.ins CF dx (zP "place_count" (.int (plN rows:Nat)) fs2)) l2=some (.lst (bars.map V.str)):=by rw[zf (zV g2 f2 (by intro z;cases z))];exact s3 _ _ g2
 have p3:=vk "place_count" (.int (plN rows:Nat)) fs2;have r3:(zP "place_count" (.int (plN rows:Nat)) fs2).lookup ("row" : Str)=some (.ref l1):=by rw[zj,aJ (by decide +kernel)];exact r2
 show uW _ _ _ _ (upd H3 f (.ins CF dx (zP "place_count" (.int (plN rows:Nat)) fs2)));generalize hfs3:zP "place_count" (.int (plN rows:Nat)) fs2=fs3 at f3 x4 e4 g4 p3 r3 |-;generalize upd H3 f (.ins CF dx fs3)=H4 at x4 f3 e4 g4 |-;exists _,rfl,f,CF,dx,_,_,rfl,f3,FK.cl,FK.n1,r3,l1,ps,rows,2,rfl,⋯,e4,vX hf nw x4 hp,hok,fun H5 s5=>?_
 exists _,rfl,f,CF,dx,_,rfl,s5 _ _ f3,FK.cl,FK.n4,∅,?_
 have f5:upd H5 f (.ins CF dx (zP "tail_number" (wy (zH 2 0 rows)) fs3)) f=some (.ins CF dx (zP "tail_number" (wy (zH 2 0 rows)) fs3)):=za;have x5:SX f H (upd H5 f (.ins CF dx (zP "tail_number" (wy (zH 2 0 rows)) fs3))):=(x4.same s5).upd;have e5:upd H5 f (.ins CF dx (zP "tail_number" (wy (zH 2 0 rows)) fs3)) l1=some (.lst (ps.map V.ref)):=by rw[zf (zV e4 f3 (by intro z;cases z))];exact s5 _ _ e4
 have g5:upd H5 f (.ins CF dx (zP "tail_number" (wy (zH 2 0 rows)) fs3)) l2=some (.lst (bars.map V.str)):=by rw[zf (zV g4 f3 (by intro z;cases z))];exact s5 _ _ g4
 have p4:=vk "tail_number" (wy (zH 2 0 rows)) fs3;have r4:(zP "tail_number" (wy (zH 2 0 rows)) fs3).lookup ("row" : Str)=some (.ref l1):=by rw[zj,aJ (by decide +kernel)];exact r3
 show uW _ _ _ _ (upd H5 f (.ins CF dx (zP "tail_number" (wy (zH 2 0 rows)) fs3)));generalize hfs4:zP "tail_number" (wy (zH 2 0 rows)) fs3=fs4 at f5 x5 e5 g5 p4 r4 |-;generalize upd H5 f (.ins CF dx fs4)=H6 at x5 f5 e5 g5 |-;exists _,rfl,f,CF,dx,_,_,rfl,f5,FK.cl,FK.n1,r4,l1,ps,rows,4,rfl,⋯,e5,vX hf nw x5 hp,hok,fun H7 s7=>?_
 exists _,rfl,f,CF,dx,_,rfl,s7 _ _ f5,FK.cl,FK.n5,∅,?_
 have f7:upd H7 f (.ins CF dx (zP "bag_number" (wy (zH 4 0 rows)) fs4)) f=some (.ins CF dx (zP "bag_number" (wy (zH 4 0 rows)) fs4)):=za;have x7:SX f H (upd H7 f (.ins CF dx (zP "bag_number" (wy (zH 4 0 rows)) fs4))):=(x5.same s7).upd;have e7:upd H7 f (.ins CF dx (zP "bag_number" (wy (zH 4 0 rows)) fs4)) l1=some (.lst (ps.map V.ref)):=by rw[zf (zV e5 f5 (by intro z;cases z))];exact s7 _ _ e5
 have g7:upd H7 f (.ins CF dx (zP "bag_number" (wy (zH 4 0 rows)) fs4)) l2=some (.lst (bars.map V.str)):=by rw[zf (zV g5 f5 (by intro z;cases z))];exact s7 _ _ g5
 have p5:=vk "bag_number" (wy (zH 4 0 rows)) fs4;have r5:(zP "bag_number" (wy (zH 4 0 rows)) fs4).lookup ("row" : Str)=some (.ref l1):=by rw[zj,aJ (by decide +kernel)];exact r4
 generalize hfs5:zP "bag_number" (wy (zH 4 0 rows)) fs4=fs5 at f7 x7 e7 g7 p5 r5 |-;generalize upd H7 f (.ins CF dx fs5)=H8 at x7 f7 e7 g7 |-;have hp8:=vX hf nw x7 hp;exists _,rfl,f,CF,dx,_,_,rfl,f7,FK.cl,FK.n1,r5,l1,rfl,⟨_,zc e7⟩,fun D2 hD2=>?_;refine zjk (K:=K) (xs:=ps.map V.ref) (fun i ys H'=>zq H8 H'/\H' D2=some (.dK ys)/\ys=yx 0 [] (rows.take i)) ⟨zg hD2 _,za,rfl⟩ (fun i ys H' h=>zc (h.1 _ _ e7)) ?_ ?_
 ·rintro i x p ys H' hlt hx ⟨sH,hDy,ey⟩ hpn
  obtain⟨pa,hpa,rfl⟩:=xK hx;obtain⟨r,hr',dx',hdx⟩:=zU hp8 hpa;have rok:=hok r (aH hr');have C:=PP r.k rok.1;have sp:=zg hpn (.tup [.int (i:Nat),.ref pa]);have hd2:=sp _ _ (sH _ _ hdx);have hDp:upd H' p (.tup [.int (i:Nat),.ref pa]) D2=some (.dK ys):=by rw[zf (ze hDy hpn)];exact hDy
  have nl:ys.length<=i:=by
   rw[ey];refine le_trans (jm _ _ _) ?_;rw[length_take];show 0+_<=i;omega
  exists p,_,rfl,zz za,rfl,_,_,rfl,_,_,rfl,rfl,?_;exists _,rfl,pa,_,dx',_,rfl,⟨r.k,rok.1,rfl⟩,hd2,jt (by decide +kernel) (by decide +kernel) (by decide +kernel),pa,dx',_,_,_,_,rfl,C,hd2,_,rfl,?_
  rw[zet r.k rok.1];have tk:=vN rows 0 i [] hr';exists fun e=>?_,fun e=>?_
  ·rw[e,aK rfl] at tk
   exists _,rfl,pa,_,dx',_,_,rfl,hd2,C.cl,C.nN,jO,_,rfl,dcN.mk (.inr r.z) hlt rfl (xo (by rw[aA,hp.length];omega)) hDp nl ⟨fun b u e=>?_,za,?_⟩
   ·rw[zf (ze e hD2)]
    exact sp _ _ (sH b u e)
   ·rw[tk,<- ey,Nat.zero_add]
  ·rw[e,aJ zft] at tk
   exact dcS.mk hlt ⟨sH.trans sp,hDp,by rw[ey,tk]⟩
 rintro ys H9 ⟨s9,hDy,ey⟩;rw[aA,hp.length,take_length] at ey;exists _,rfl,f,CF,dx,_,rfl,s9 _ _ f7,FK.cl,FK.n6,∅,?_
 have nf:∀{x:Addr}{o:HO},H9 x=some o->(∀C d g,o≠.ins C d g)->upd H9 f (.ins CF dx (zP "doors" (.ref D2) fs5)) x=some o:=fun {x o} e n=>by
  rw[zf (zV e (s9 _ _ f7) (by intro z;exact n _ _ _ z))]
  exact e
 refine q _ (x7.same s9).upd ⟨dx,_,l1,l2,D2,ps,za,?_,nf (s9 _ _ e7) (by intro _ _ _ z;cases z),vX hf nw (x7.same s9).upd hp,nf (s9 _ _ g7) (by intro _ _ _ z;cases z),nf (by rw[hDy,ey]) (by intro _ _ _ z;cases z),hl1,hlb⟩ ⟨dx,_,za,le_trans (vk _ _ _) ∅⟩
 rw[<- hfs5,<- hfs4,<- hfs3,<- hfs2];exists ?_,?_,?_,?_,?_,?_,fun mm hm=>?_
 ·rw[zj,aJ (by decide +kernel),zj,aJ (by decide +kernel),zj,aJ (by decide +kernel),zj,aJ (by decide +kernel),zj,aJ (by decide +kernel),zj,aK rfl]
 ·rw[zj,aJ (by decide +kernel),zj,aJ (by decide +kernel),zj,aJ (by decide +kernel),zj,aJ (by decide +kernel),zj,aK rfl]
 ·rw[zj,aJ (by decide +kernel),zj,aJ (by decide +kernel),zj,aJ (by decide +kernel),zj,aK rfl]
 ·rw[zj,aJ (by decide +kernel),zj,aJ (by decide +kernel),zj,aK rfl]
 ·rw[zj,aJ (by decide +kernel),zj,aK rfl]
 ·rw[zj,aK rfl]
 ·have h':∀a∈zhK,¬mm=a:=fun a ha e=>hm (e ▸ ha)
  rw[zj,aJ (h' _ (by decide +kernel)),zj,aJ (h' _ (by decide +kernel)),zj,aJ (h' _ (by decide +kernel)),zj,aJ (h' _ (by decide +kernel)),zj,aJ (h' _ (by decide +kernel)),zj,aJ (h' _ (by decide +kernel))]
  exact pn mm hm
inductive zlG(c:C5)(CF:Addr)(vs:List V)(H:Hp)(Q:VK)(E:XK):Prop|mk(f a dx:Addr)(bv:V)(ps:List Addr)(rows:List Rw)(bars:List Str):vs=[.ref f,.ref a,bv]->H f=some (.ins CF dx [])->H a=some (.lst (ps.map V.ref))->Paired (PAt c H) ps rows->((bv=.non/\bars=[])\/∃b,bv=.ref b/\H b=some (.lst (bars.map V.str)))->zcr rows bars->(∀H',SX f H H'->qW c CF H H' f rows bars->(∃dx' fs',H' f=some (.ins CF dx' fs')/\fs'.length<=6)->Q .non H')->zlG c CF vs H Q E
inductive uY(c:C5)(CF:Addr)(vs:List V)(H:Hp)(Q:VK)(E:XK):Prop|mk(f:Addr)(rows:List Rw)(bars:List Str):vs=[.ref f]->yN c CF H f rows bars->(∀(l:Addr) (ps:List Addr) (H':Hp),zq H H'->H l=none->H' l=some (.lst (ps.map V.ref))->Paired (PAt c H') ps rows->Q (.ref l) H')->uY c CF vs H Q E
inductive zcE(c:C5)(CF:Addr)(vs:List V)(H:Hp)(Q:VK)(E:XK):Prop|mk(f:Addr)(rows:List Rw)(bars:List Str):vs=[.ref f]->yN c CF H f rows bars->(∀(l:Addr) (H':Hp),zq H H'->H l=none->H' l=some (.lst (bars.map V.str))->Q (.ref l) H')->zcE c CF vs H Q E
inductive vG(c:C5)(CF:Addr)(vs:List V)(H:Hp)(Q:VK)(E:XK):Prop|mk(f:Addr)(rows:List Rw)(bars:List Str):vs=[.ref f]->yN c CF H f rows bars->(Q (.int (plN rows:Nat)) H)->vG c CF vs H Q E
inductive vg(c:C5)(CF:Addr)(kk:Nat)(vs:List V)(H:Hp)(Q:VK)(E:XK):Prop|mk(f:Addr)(rows:List Rw)(bars:List Str):vs=[.ref f]->yN c CF H f rows bars->(Q (wy (zH kk 0 rows)) H)->vg c CF kk vs H Q E
inductive zdY(c:C5)(CF:Addr)(vs:List V)(H:Hp)(Q:VK)(E:XK):Prop|mk(f:Addr)(z:Str)(rows:List Rw)(bars:List Str):vs=[.ref f,.str z]->yN c CF H f rows bars->(Q ((zO (yx 0 [] rows) (.inr z)).getD .non) H)->zdY c CF vs H Q E
def TAt(H:Hp)(u:Addr)(r:Rw):Prop:=H u=some (.tup (rv r))
theorem z8(s:zq H H')(h:Paired (TAt H) us rows):Paired (TAt H') us rows:=zm (fun _ _ z=>s _ _ z) h
theorem zeb:zp ["self","parameters","bars","names"] ["self","parameters","bars"] (zi zc3):=fsc
theorem zg5(F:qV K "__init__" "Form.__init__" zc3 f fd ds)(FK:FC K CF)(mK:y6 K CF "keep" g5)
  (cM:⇑1 "refuse_too_many" g1 e1 ["parameters","bars"] (zfQ K)) (cO:⇑1 "refuse_bad_order" g2 e2 ["parameters"] (zjA c)) (cB':⇑2 "refuse_bars_without_name" g3 e3 ["bars"] zlD) (cT:⇑2 "refuse_twice" g4 e4 ["parameters","bars"] (zlC c))
  (GK:↥2 g5 e5 ["self","parameters","bars"] (zfS c CF)) (bK:zM K e5 ["self","parameters","bars"] []):↥3 f fd ["self","parameters","bars"] (zlG c CF):=by
 refine F.ok zeb (fun vs H Q E h=>?_) (fun cdv A outer s H vs Q E hr h=>?_)
 ·obtain⟨f,a,dx,bv,ps,rows,bars,rfl,_⟩:=h
  rfl
 obtain⟨f,a,dx,bv,ps,rows,bars,rfl,hf,ha,hp,hb,V',q⟩:=h;have hr1:yg 1 _:=hr.mono ⋯
 refine⟨_,zk (zB (i:=3) zeb.nd rfl (Or.inl rfl) (uG (xL (qp (pv 2))) (zZ zb) (pv 2)))
  (zk (zG (cF cM hr1 (ac (pv 1) (ac (pv 3) zb))))
  (zk (zG (cF cO hr1 (ac (pv 1) zb)))
  (zk (zG (cF cB' hr (ac (pv 3) zb)))
  (zk (zG (cF cT hr (ac (pv 1) (ac (pv 3) zb))))
  (zd (zG (jP (pv 0) FK.cl mK GK hr bK .nil zY (ac (pv 1) (ac (pv 3) zb))))))))),?_⟩
 try dsimp only
 refine xC (fun σ' H'=>∃b,σ'=[~~~f,~~~a,some bv,~~~b]/\zq H H'/\H' b=some (.lst (bars.map V.str))) ?_ (fun key=>?_);rotate_left
 ·rcases hb with ⟨rfl,rfl⟩|⟨b,rfl,hb⟩
  ·exists _,rfl,_,rfl,?_
   refine dT rfl ?_;exists x8,fun l hl=>?_;exact key _ _ ⟨l,rfl,zg hl _,za⟩
  ·exists _,rfl,_,rfl,?_
   refine dF (by intro z;cases z) ?_
   exact⟨_,rfl,key _ _ ⟨b,rfl,zq.refl _,hb⟩⟩
 rintro σ1 H1 ⟨b,rfl,s1,hb1⟩;have ha1:=s1 _ _ ha;exists _,rfl,_,rfl,a,b,_,_,rfl,zc ha1,zc hb1,(by rw[aA,hp.length];exact V'.l24),(by rw[aA];exact V'.l60),?_
 exists _,rfl,a,ps,rows,rfl,ha1,xU s1 hp,V'.ok,V'.ord,fun H2 s2=>?_;exists _,rfl,b,bars,rfl,s2 _ _ hb1,V'.bn,fun H3 s3=>?_;have s13:=s1.trans (s2.trans s3);exists _,rfl,_,rfl,a,b,ps,rows,bars,rfl,s13 _ _ ha,xU s13 hp,V'.ok,le_trans V'.l24 ⋯,s3 _ _ (s2 _ _ hb1),le_trans V'.l60 ⋯,V'.nd,fun H4 s4=>?_
 have s14:=s13.trans s4;exists _,rfl,f,dx,_,rfl,s14 _ _ hf,rfl,_,rfl,_,rfl,f,a,b,dx,[],ps,rows,bars,rfl,s14 _ _ hf,⟨⋯,fun _ _=>rfl⟩,s14 _ _ ha,xU s14 hp,V'.ok,le_trans V'.l24 ⋯,s4 _ _ (s3 _ _ (s2 _ _ hb1)),fun H5 x5 F5 L5=>?_
 exact q _ (fun b' u e n=>x5 b' u (s14 _ _ e) n) (F5.of s14) L5
theorem zib:zp ["self"] ["self"] (zi zc2):=fsc
theorem zg4(F:Fun K "parameters" "Form.parameters" zc2 f fd)(T:zcs w K mg G sg)(FK:FC K CF):↥1 f fd ["self"] (uY c CF):=by
 specialize zib;obtain⟨f,rows,bars,rfl,⟨dx,fs,lr,lb,ld,ps,h1,h2,h3,h4,h5,h6⟩,q⟩:=h;exists _,zd (zt (cTy xa T.lst PyProof.Rows.boot_list (ac (yo (pv 0) rfl) zb))),?_;exists _,rfl,f,CF,dx,_,_,rfl,h1,FK.cl,FK.n1,h2.row,lr,_,rfl,.inl (zc h3),fun l hl=>?_;have s1:=zg hl (.lst (ps.map V.ref));exact q l ps _ s1 hl za (xU s1 h4)
theorem zic:zp ["self"] ["self"] (zi zc4):=fsc
theorem zg6(F:Fun K "bars" "Form.bars" zc4 f fd)(T:zcs w K mg G sg)(FK:FC K CF):↥1 f fd ["self"] (zcE c CF):=by
 specialize zic;obtain⟨f,rows,bars,rfl,⟨dx,fs,lr,lb,ld,ps,h1,h2,h3,h4,h5,h6⟩,q⟩:=h;exists _,zd (zt (cTy xa T.lst PyProof.Rows.boot_list (ac (yo (pv 0) rfl) zb))),?_;exists _,rfl,f,CF,dx,_,_,rfl,h1,FK.cl,FK.n2,h2.bn,lb,_,rfl,.inl (zc h5),fun l hl=>?_;exact q l _ (zg hl _) hl za
theorem zeR:zp ["self"] ["self"] (zi qj):=fsc
theorem zdb(F:Fun K "places" "Form.places" qj f fd)(FK:FC K CF):↥1 f fd ["self"] (vG c CF):=by
 specialize zeR;obtain⟨f,rows,bars,rfl,⟨dx,fs,lr,lb,ld,ps,h1,h2,h3,h4,h5,h6⟩,q⟩:=h;exact⟨_,zd (zt (yo (pv 0) rfl)),_,rfl,f,CF,dx,_,_,rfl,h1,FK.cl,FK.n3,h2.pc,q⟩
theorem zia:zp ["self"] ["self"] (zi zc1):=fsc
theorem zg3(F:Fun K "tail" "Form.tail" zc1 f fd)(FK:FC K CF):↥1 f fd ["self"] (vg c CF 2):=by
 specialize zia;obtain⟨f,rows,bars,rfl,⟨dx,fs,lr,lb,ld,ps,h1,h2,h3,h4,h5,h6⟩,q⟩:=h;exact⟨_,zd (zt (yo (pv 0) rfl)),_,rfl,f,CF,dx,_,_,rfl,h1,FK.cl,FK.n4,h2.tn,q⟩
theorem zkj:zp ["self"] ["self"] (zi zgl):=fsc
theorem ziU(F:Fun K "bag" "Form.bag" zgl f fd)(FK:FC K CF):↥1 f fd ["self"] (vg c CF 4):=by
 specialize zkj;obtain⟨f,rows,bars,rfl,⟨dx,fs,lr,lb,ld,ps,h1,h2,h3,h4,h5,h6⟩,q⟩:=h;exact⟨_,zd (zt (yo (pv 0) rfl)),_,rfl,f,CF,dx,_,_,rfl,h1,FK.cl,FK.n5,h2.bg,q⟩
theorem zki:zp ["self","name"] ["self","name"] (zi zgk):=fsc
theorem ziT(F:Fun K "number_of" "Form.number_of" zgk f fd)(FK:FC K CF):↥1 f fd ["self","name"] (zdY c CF):=by
 specialize zki;obtain⟨f,z,rows,bars,rfl,⟨dx,fs,lr,lb,ld,ps,h1,h2,h3,h4,h5,h6⟩,q⟩:=h;exists _,zd (zt (zgz (vA hr) (yo (pv 0) rfl) (pv 1) ⟨rfl,rfl,rfl,rfl⟩)),?_;exists _,rfl,f,CF,dx,_,_,rfl,h1,FK.cl,FK.n6,h2.dr,ld,rfl,?_,_,rfl,_,.inl ⟨_,.inr z,.inl h6,rfl,rfl⟩,q;exact .inl ⟨_,.inl h6⟩
end
end K44
namespace L2
open PySem PySem.Spec PyProof.Rows
section
variable {H:Hp}
theorem Inv.freeze(I:Inv X pins σ H s)(hl:H l=some (.dK kvs)):∃o,s.heap.get? l=some o/\Inv X pins σ (upd H l (.frz o (.dK kvs))) s:=by
 obtain⟨hz,hy,vs,r,o,es,ep,ho,c⟩:=id (I.hok l _ hl);exists o,ho,⟨I.ok,I.os,I.bare,⟨I.base.keep,I.base.slot,fun b u e n x=>?_,I.base.there,fun b xs e=>?_,fun b u v e=>?_,fun b ps e=>?_⟩,I.loc,I.cell,?_,fun x c e=>?_,fun p hp'=>?_,fun b u e=>?_,I.len⟩
 ·have e1:=I.base.free b u e n x
  rw[zf (ze hl e1).symm];exact e1
 ·have e1:=I.base.tups b xs e
  rw[zf (zV e1 hl (by intro z;cases z))];exact e1
 ·have e1:=I.base.frzs b u v e
  rw[zf (zV e1 hl (by intro z;cases z))];exact e1
 ·obtain⟨more,e1⟩:=I.base.tbls b ps e
  exact⟨more,by rw[zf (zV e1 hl (by intro z;cases z))];exact e1⟩
 ·rw[zf (ze hl I.free).symm];exact I.free
 ·rw[zf (ze hl (I.freeC x c e)).symm];exact I.freeC x c e
 ·obtain⟨q1,q2,q3⟩:=I.pin p hp'
  exact⟨q1,by rw[zf (ze hl q2).symm];exact q2,q3⟩
 ·have ho':∀c,∀b,H b=some (.own c)->upd H l (.frz o (.dK kvs)) b=some (.own c):=fun c b q=>by rw[zf (zV q hl (by intro z;cases z))];exact q
  have ht':∀b xs,H b=some (.tup xs)->upd H l (.frz o (.dK kvs)) b=some (.tup xs):=fun b xs q=>by rw[zf (zV q hl (by intro z;cases z))];exact q
  by_cases hb:b=l
  ·subst hb;rw[za] at e;cases e
   exact⟨ho,(I.hok b _ hl).stay (fun _ _ _ q=>q) (ho' b) ht'⟩
  ·rw[zf hb] at e
   exact(I.hok b u e).stay (fun _ _ _ q=>q) (ho' b) ht'
inductive zmKJ(Q:VK)(x:V)(H1:Hp):Prop|mk(l kvs:_):x=.ref l->H1 l=some (.dK kvs)->(∀o,Q x (upd H1 l (.frz o (.dK kvs))))->zmKJ Q x H1
def zmK(te:TE):TE:=fun σ H Q=>te σ H fun x H1=>zmKJ Q x H1
theorem zkC{te:TE}(h:PE X e te):PE X e (zmK te):=by
 exists ?_;intro pins s σ H Q I hw;refine thn (h pins s σ H _ I hw) fun v s1 ⟨x,H1,I1,r1,l,kvs,ex,hl,q⟩=>?_;obtain⟨o,_,I2⟩:=I1.freeze hl;exact⟨x,_,I2,r1,q o⟩
theorem zig(h:qI k u=true):z3 (kV k) u:=by
 rcases yH h with ⟨i,t,rfl,rfl⟩|⟨x,t,rfl,rfl⟩
 ·exact⟨t,rfl⟩
 ·exact⟨t,rfl⟩
def Itd(d:Addr)(o:Obj)(kvs:List (Key×V)):It:=
 ⟨fun i H=>H d=some (.frz o (.dK kvs))/\i<kvs.length,fun i H x H'=>∃p k v,x=.ref p/\H p=none/\kvs[i]?=some (k,v)/\H'=upd H p (.tup [kV k,v]),fun i H=>H d=some (.frz o (.dK kvs))/\kvs.length<=i⟩
theorem zhz{ep:Nat}(I:Inv X pins σ H s)(hd:H d=some (.frz o (.dK kvs)))(ho:o.data=.dict es ep):
  (d==sysModules)=false/\∃vs,KV kvs vs/\s.heap.DictAt (yn X.prog X.w) d vs ep:=by
 obtain⟨e,hz,hy,vs,r,o',es',ep',ho',c1,c2,c3⟩:=id (I.hok d _ hd);rw[e] at ho';cases ho';rw[ho] at c2;cases c2;exact⟨hy,vs,r,o,es,e,c1,ho,c3⟩
theorem ui:entryFor table "dict_itemiterator.__iter__"=some Builtin.«dict_keyiterator.__iter__»:=entryFor_alias (id':="dict_keyiterator.__iter__") (by kernel_rfl) (by first|rfl|decide +kernel|(unfold String.splitOn;simp +decide [String.splitOnAux])) (by decide +kernel) (by kernel_rfl)
theorem vB{E:VSP}{i n ep:Nat}{Q:VSP}(he:IsItemIter s.heap it d i n ep ok ov)(h:Q (.ref it) s):wpAny (model P w) A (pyIter (.ref it)) Q E s:=by
 have hT:s.TypeIs (.ref it) "dict_itemiterator":=⟨_,he,rfl⟩;refine wpAny_pyIter_slot hT F.slot_dict_itemiterator_iter (wpAny_call_entry F.slot_dict_itemiterator_iter hT ui ?_ (F.args_dict_itemiterator_iter_1 _));show wpAny _ _ (ret (.ref it)) _ _ s;exact zwp ⟨_,rfl,"dict_itemiterator",_,hT,F.slot_dict_itemiterator_next.lookup,h⟩
theorem zcv{P:Program}{w:World}{K:Frag}{elts:List Expr}{x1:Nat}{tpos:Pos}(d it:Addr)(o:Obj)(kvs:List (Key×V))(es:Array DictEntry)(ep:Nat)(ho:o.data=.dict es ep):
  zae P w K (.Tuple elts x1 tpos) (Itd d o kvs) [it] it (fun i h=>∃ok ov,IsItemIter h it d i kvs.length ep ok ov) where
 mem:=by simp
 obj:=fun i h st b hb=>by
  have e':b=it:=by simpa using hb
  subst e';obtain⟨ok,ov,hi⟩:=st;exact⟨_,hi,fun v q=>by cases q⟩
 keep:=fun i h h' st k=>by
  obtain⟨ok,ov,hi⟩:=st;exact⟨ok,ov,k it (by simp) _ hi⟩
 item:=by
  intro X hP hw hK hc i pins s σ H E I hf st hg;subst hP hw hK;obtain⟨f0,f1,f2,f3,f4,f5⟩:=hf it (by simp)
  obtain⟨ok,ov,hit⟩:=st;obtain⟨hd,hlt⟩:=hg;obtain⟨hy,vs,r,hm⟩:=zhz I hd ho;have hl:kvs.length=vs.length:=r.length;obtain⟨⟨k2,u⟩,hu,ek,ru⟩:=Paired.get r (aB hlt);rw[hl] at hit;obtain⟨k,v,hkv⟩:∃k v,kvs[i]=(k,v):=⟨_,_,rfl⟩;have ek:k=k2:=by rw[hkv] at ek;exact ek
  have ru2:z3 v u:=by rw[hkv] at ru;exact ru
  subst ek;refine wpAny_pyNext_items_item hit hm hu fun key h' hk2 he' htup hsz hkp=>?_;have rk:z3 (kV k) key:=zig hk2;have I0:Inv X pins σ H { s with heap:=h' }:=I.turned (t':=s.toks) (it:=it) hkp f0 f1 f3 f4 f5
  have hfr:H s.heap.objs.size=none:=I.hok.fresh (aF _);have I1:Inv X pins σ (upd H s.heap.objs.size (.tup [kV k,v])) { s with heap:=h' }:=by
   have hok:HOk X.prog X.w (upd H s.heap.objs.size (.tup [kV k,v])) h':=fun b o q=>by
    by_cases hb:b=s.heap.objs.size
    ·subst hb
     rw[za] at q;cases q;exact⟨by show 2<=sizeLine;decide,[key,u],.cons rk (.cons ru2 .nil),⟨_,htup,rfl,_,rfl⟩⟩
    ·rw[zf hb] at q
     exact(I0.hok b o q).stay (fun _ _ _ z=>z) (fun c z=>by rw[zf (ze z hfr)];exact z) fun c xs' z=>by rw[zf (ze z hfr)];exact z
   refine I0.step (s:={ s with heap:=h' }) (g':=s.gens) (d':=s.drawn) (h':=h') (t':=s.toks) (ch:=[s.heap.objs.size]) (fun b hb=>?_) (fun b o _ _ _ e1 _=>e1) (fun b o _ _ _ e1 _=>⟨o.slots,e1⟩) (fun b o hb e1 n=>by rw[zf (fun z=>hb (by simp [z]))];exact n)
    (fun b o _ e1=>⟨o,e1⟩) (fun b xs' e1=>by rw[zf (ze e1 hfr)];exact e1) (fun b o' u' e1=>by rw[zf (ze e1 hfr)];exact e1) (fun b ps e1=>⟨#[],by rw[zf (ze e1 hfr),e1];simp⟩) (fun m hm=>hm) hok I0.bare
   have e':b=s.heap.objs.size:=by simpa using hb
   subst e';exists .inr I.sz,fun z=>?_,fun y c h z=>?_,fun p hp' z=>?_
   ·have:=I.lt;rw[<- z] at this;exact absurd this (lt_irrefl _)
   ·obtain⟨v',hv⟩:=I.cell y c h
    have:=hv.lt;rw[z] at this;exact absurd this (lt_irrefl _)
   ·have:=I.pin_lt hp';rw[z] at this;exact absurd this (lt_irrefl _)
  exists _,rfl,wpAny_letOwnedTupleGo_items he' fun h2 he2 hs2=>?_;have nis:s.heap.objs.size≠it:=fun z=>by
   have:=aI (show s.heap.get? it=some _ from hit)
   rw[<- z] at this;exact absurd this (lt_irrefl _)
  have I2:Inv X pins σ (upd H s.heap.objs.size (.tup [kV k,v])) { s with heap:=h2 }:=
   I1.turned (s:={ s with heap:=h' }) (t':=s.toks) (it:=it) (fun b o hb q=>(hs2.2 b hb).trans q) (by rw[zf nis.symm];exact f0) f1 f3 f4 f5
  exists .ref s.heap.objs.size,_,I2,rfl,⟨_,k,v,rfl,hfr,by rw[aB hlt,hkv],rfl⟩,⟨_,_,by rw[hl];exact he2⟩,fun b hb=>?_
  have e':b=it:=by simpa using hb
  subst e';rw[zf nis.symm];exact f0
 done:=by
  intro X hP hw hK hc i pins s σ H E I hf st hg;subst hP hw hK;obtain⟨ok,ov,hit⟩:=st;obtain⟨f0,f1,f2,f3,f4,f5⟩:=hf it (by simp)
  obtain⟨hd,hle⟩:=hg;obtain⟨hy,vs,r,hm⟩:=zhz I hd ho;have hl:kvs.length=vs.length:=r.length;rw[hl] at hit;exact wpAny_pyNext_items_end (I.ok.hd hc) hit hm (List.getElem?_eq_none ∅) fun h' eb=>⟨rfl,I.turned (t':=s.toks) (fun b o hb e1=>eb b o hb e1) f0 f1 f3 f4 f5⟩
 self:=fun A i s Q E st h=>by
  obtain⟨ok,ov,hit⟩:=st;exact vB hit h
variable {x1:Nat}
inductive zk6J(R:It->Hp->Prop)(x:V)(H1:Hp):Prop|mk(d o kvs:_):x=.ref d->H1 d=some (.frz o (.dK kvs))->(R (Itd d o kvs) H1)->zk6J R x H1
def zk6(te:TE):TI:=fun σ H R=>te σ H fun x H1=>zk6J R x H1
theorem zbV{te:TE}(hl:PE X l te)(hbase:attributeBase l "items" X.env (eval l X.env)=eval l X.env:=by rfl)(hline:(apos.endLine==cpos.line)=true:=by rfl):
  PI X (.Tuple elts x1 tpos) (.Call (.Attribute l "items" apos) [] [] cpos) (zk6 te):=by
 exists ?_;intro pins s σ H R I h;refine wpAny_Call_method0_late hbase hline (thn (hl pins s σ H _ I h) fun v s1 ⟨x,H1,I1,r1,d,o,kvs,ex,hd,q⟩=>?_);subst ex;cases r1;obtain⟨e,hz,hy,vs,r,o',es,ep,ho',c1,c2,c3⟩:=id (I1.hok d _ hd);rw[e] at ho';cases ho';have hm:s1.heap.DictAt (yn X.prog X.w) d vs ep:=⟨o,es,e,c1,c2,c3⟩;exists "dict","dict.items",F.plainAttrs_dict,F.slot_dict_items,F.type_dict_items,⟨o,e,c1.1⟩,fun a ea=>by cases ea;exact⟨o,e,c1.2.1⟩,Calls.callWith_builtin rfl (PySem.evalArgs_none ?_)
 refine call_meetsIn F.slot_dict_items ⟨o,e,c1.1⟩ F.entry_dict_items (F.args_dict_items_1 _) (meets_dict_items (yn X.prog X.w) d hy) ⟨⟨vs,hm.dictOf⟩,?_⟩;show wpAny _ _ (pyIter (.ref s1.heap.objs.size)) _ _ _;have hl:kvs.length=vs.length:=r.length;refine wpAny_pyIter_items (knd:=yn X.prog X.w) (d:=d) (kvs:=vs) (ep:=ep) ⟨_,zgs _ rfl,rfl,rfl⟩ (hm.push _) ?_;have hk:∀b ob,s1.heap.get? b=some ob->((s1.heap.push { cls:=.type "dict_items",data:=.fields #[.ref d] }).push { cls:=.type "dict_itemiterator",data:=.fields #[.none,.bool false,.ref d,.int 0 0,.int vs.length 0,.int ep 0,.none,.none] }).get? b=some ob:=fun b ob q=>zgp _ (zgp _ q);have I2:=I1.kept (t':=s1.toks) hk;have hsz:(s1.heap.push { cls:=.type "dict_items",data:=.fields #[.ref d] }).objs.size=s1.heap.objs.size+1:=Heap.size_push ..;exists (s1.heap.push { cls:=.type "dict_items",data:=.fields #[.ref d] }).objs.size,[(s1.heap.push { cls:=.type "dict_items",data:=.fields #[.ref d] }).objs.size],_,Itd d o kvs,H1,rfl,I2,zcv d _ o kvs es ep c2,⟨.none,.none,?_⟩,fun b hb=>?_,q
 ·rw[hl]
  exact zgs (s1.heap.push { cls:=.type "dict_items",data:=.fields #[.ref d] }) (o:={ cls:=.type "dict_itemiterator",data:=.fields #[.none,.bool false,.ref d,.int 0 0,.int vs.length 0,.int ep 0,.none,.none] }) rfl
 ·have e':b=(s1.heap.push { cls:=.type "dict_items",data:=.fields #[.ref d] }).objs.size:=by simpa using hb
  subst e';rw[hsz];exact I1.fpOk (le_succ _) (I1.hok.fresh (le_succ _))
theorem zfk{d:Addr}{o:Obj}{kvs:List (Key×V)}{g:TG}{tb:TS}{D:ve}{σ : St}{H:Hp}(Pv:Nat->St->Hp->Prop)(h0:Pv 0 σ H)(hl:∀i σ H,i<=kvs.length->Pv i σ H->H d=some (.frz o (.dK kvs)))
  (hs:∀i k v p σ H,kvs[i]?=some (k,v)->Pv i σ H->H p=none->g (.ref p) σ (upd H p (.tup [kV k,v])) fun σ2 H2=>tb { D with nx:=Pv (i+1),ct:=Pv (i+1),bk:=D.nx } σ2 H2) (hd:∀σ H,Pv kvs.length σ H->D.nx σ H) :
  ∃W:Nat->Nat->St->Hp->Prop,(∃m,W 0 m σ H)/\∀i m σ H,W i m σ H->
   ((Itd d o kvs).stop i H/\D.nx σ H)\/((Itd d o kvs).go i H/\∃N:St->Hp->Prop,(∀σ' H',N σ' H'->∃m',m'<m/\W (i+1) m' σ' H')/\∀x H',(Itd d o kvs).yld i H x H'->g x σ H' fun σ2 H2=>tb { D with nx:=N,ct:=N,bk:=D.nx } σ2 H2):=by
 exists fun i m σ H=>m=kvs.length - i/\i<=kvs.length/\Pv i σ H,⟨kvs.length,by simp,zero_le _,h0⟩,?_
 rintro i m σ H ⟨rfl,hi,p⟩;have q:=hl i σ H hi p;by_cases hlt:i<kvs.length
 ·refine .inr ⟨⟨q,hlt⟩,Pv (i+1),fun σ' H' p'=>⟨kvs.length - (i+1),∅,rfl,hlt,p'⟩,fun x H' y=>?_⟩
  obtain⟨pp,k,v,rfl,hp,y2,rfl⟩:=y;exact hs i k v pp σ H y2 p hp
 ·have e:i=kvs.length:=by omega
  subst e;exact .inl ⟨⟨q,aF _⟩,hd σ H p⟩
theorem zmR(I:Inv X pins σ H s)(ha:SqT X.K H a xs)(hb:SqT X.K H b ys)(fx:xs.all yZ=true)(fy:ys.all yZ=true)(hu:A.units+8<cLine):
  SeqAt.RcAt A s (.ref a) (.ref b) (eqT xs ys):=by
 obtain⟨ia,va,pa,_⟩:=I.tuple ha;obtain⟨ib,vb,pb,_⟩:=I.tuple hb;have la:ia.toArray.size=xs.length:=by rw[size_toArray];exact va.length.symm
 have lb:ib.toArray.size=ys.length:=by rw[size_toArray];exact vb.length.symm
 have:=SeqAt.RcAt.tuples (A:=A) (s:=s) (e:=fun j=>eqV (xs[j]?.getD .non) (ys[j]?.getD .non)) (show s.heap.IsTuple a ia.toArray from pa) (show s.heap.IsTuple b ib.toArray from pb) ∅ (fun j h1 h2=>by
  have j1:j<ia.length:=by simpa using h1
  have j2:j<ib.length:=by simpa using h2
  have hxl:j<xs.length:=by rw[va.length];exact j1
  have hyl:j<ys.length:=by rw[vb.length];exact j2
  obtain⟨u',e1,e2⟩:=va.get (i:=j) (aB hxl);obtain⟨v',e3,e4⟩:=vb.get (i:=j) (aB hyl);rw[aB j1] at e1;rw[aB j2] at e3;cases e1;cases e3;have q:=zdz (A:=A.in1) (s:=s) e2 e4 (List.all_eq_true.mp fx _ (getElem_mem hxl)) (List.all_eq_true.mp fy _ (getElem_mem hyl));simpa [hxl,hyl] using q)
 rw[la,lb] at this;exact this
inductive zkyJ(K:Frag)(x:V)(y:V)(H:Hp)(Q:VK):Prop|mk(a c:Addr)(xs ys:List V):x=.ref a->y=.ref c->SqT K H a xs->SqT K H c ys->xs.all yZ=true->ys.all yZ=true->(Q (.bl (eqT xs ys)) H)->zkyJ K x y H Q
def zky(K:Frag):R2:=fun x y H Q=>zkyJ K x y H Q
theorem zgG(hu:X.A.units+64<cLine):OpR X (compareOp .Eq) (zky X.K):=by
 intro pins s σ H x y v u Q I rx ry h;obtain⟨a,c,xs,ys,rfl,rfl,ha,hc,fx,fy,q⟩:=h;cases rx;cases ry;exact zmR (A:=X.A) I ha hc fx fy ∅ X.prog X.w X.xe _ ⟨.bl _,H,I,rfl,q⟩
end
end L2
namespace K44
open PySem L2 PyProof.Rows
inductive vd where
 | one (t:Int)|row (ts:List Int)|named (n:Str) (t:Int)|book (ps:List (Str×Int))
def yP(p:Str×Int):Dt:=.tup [.str p.1,.int p.2]
def jz:vd->Dt
 | .one t=>.tup [.str "one",.int t]
 | .row ts=>.tup [.str "row",.lst (ts.map .int)]
 | .named n t=>.tup [.str "named",.str n,.int t]
 | .book ps=>.tup [.str "book",.lst (ps.map yP)]
def itT:vd->List Int
 | .one t=>[t]
 | .row ts=>ts
 | _=>[]
def itP:vd->List (Str×Int)
 | .named n t=>[(n,t)]
 | .book ps=>ps
 | _=>[]
def yu(c:List vd):List Int:=(c.map itT).flatten
def xj(c:List vd):List (Str×Int):=(c.map itP).flatten
abbrev T':Addr->Prop:=fun _=>True
def Two(K:Frag)(H H':Hp)(p:Addr)(ts:List Int)(ps:List (Str×Int)):Prop:=
 ∃l1 l2 xs,H l1=none/\H l2=none/\l1≠l2/\H p=none/\H' p=some (.tup [.ref l1,.ref l2])/\H' l1=some (.lst (ts.map V.int))/\H' l2=some (.lst xs)/\Paired (zI K T' H' 1) xs (ps.map yP)
inductive zcB(K:Frag)(vs:List V)(H:Hp)(Q:VK)(E:XK):Prop|mk(a:Addr)(c:List vd)(xs:List V):vs=[.ref a]->SqL K H a xs->Paired (zI K T' H 3) xs (c.map jz)->(yu c).length<=900->(xj c).length<=900->(∀(p:Addr) (H':Hp),zq H H'->Two K H H' p (yu c) (xj c)->Q (.ref p) H')->zcB K vs H Q E
section
variable {mg:Str->Option Value}
variable {ok:Addr->Prop}{n:Nat}
theorem xJ{K:Frag}{H:Hp}{x:V}{i:Int}(h:zI K ok H n x (.int i)):x=.int i:=by
 have fl:jC x (.int i)->x=.int i:=fun h=>by
  cases x <;> first|exact h.elim|(have e:=(show _=_ from h);rw[e])
 cases n with
 | zero=>exact fl h
 | succ n=>
  rcases h with h|⟨_,_,_,_,e,_⟩|⟨_,_,_,_,e,_⟩
  ·exact fl h
  ·cases e
  ·cases e
theorem yp{K:Frag}{H:Hp}{x:V}{z:Str}(h:zI K ok H n x (.str z)):x=.str z:=by
 have fl:jC x (.str z)->x=.str z:=fun h=>by
  cases x <;> first|exact h.elim|(have e:=(show _=_ from h);rw[e])
 cases n with
 | zero=>exact fl h
 | succ n=>
  rcases h with h|⟨_,_,_,_,e,_⟩|⟨_,_,_,_,e,_⟩
  ·exact fl h
  ·cases e
  ·cases e
theorem xA{K:Frag}{H:Hp}{x:V}{ds:List Dt}(h:zI K ok H (n+1) x (.tup ds)):∃a xs,x=.ref a/\SqT K H a xs/\Paired (zI K ok H n) xs ds:=by
 rcases h with h|⟨a,xs,ds',e1,e2,e3,r⟩|⟨_,_,_,_,e,_⟩
 ·cases x <;> exact h.elim
 ·cases e2;exact⟨a,xs,e1,e3,r⟩
 ·cases e
theorem wU{K:Frag}{H:Hp}{x:V}{ds:List Dt}(h:zI K ok H (n+1) x (.lst ds)):∃a xs,x=.ref a/\ok a/\H a=some (.lst xs)/\Paired (zI K ok H n) xs ds:=by
 rcases h with h|⟨_,_,_,_,e,_⟩|⟨a,xs,ds',e1,e2,o,e3,r⟩
 ·cases x <;> exact h.elim
 ·cases e
 ·cases e2;exact⟨a,xs,e1,o,e3,r⟩
theorem wV{K:Frag}{H:Hp}:∀{ts:List Int}{xs:List V},Paired (zI K ok H n) xs (ts.map .int)->xs=ts.map V.int
 | [],_,r=>by cases r;rfl
 | t::ts,_,r=>by
  cases r with
  | cons h r=>rw[xJ h,wV r];rfl
theorem xX{K:Frag}{H:Hp}:∀(ts:List Int),Paired (zI K ok H n) (ts.map V.int) (ts.map .int)
 | []=>.nil
 | t::ts=>.cons .int (xX ts)
theorem yJ{α β : Type}{F : α->β->Prop}:∀{a c:List α}{b d:List β},Paired F a b->Paired F c d->Paired F (a++c) (b++d)
 | _,_,_,_,.nil,s=>s
 | _,_,_,_,.cons r t,s=>.cons r (yJ t s)
theorem zhp{K:Frag}{H:Hp}{x:V}{t:Int}(h:zI K ok H 3 x (jz (.one t))):∃a,x=.ref a/\SqT K H a [.str "one",.int t]:=by
 obtain⟨a,xs,rfl,hS,r⟩:=xA h;cases r with
 | cons h1 r=>cases r with
  | cons h2 r=>cases r;rw[yp h1,xJ h2] at hS;exact⟨a,rfl,hS⟩
theorem zho{K:Frag}{H:Hp}{x:V}{ts:List Int}(h:zI K ok H 3 x (jz (.row ts))):∃a b,x=.ref a/\SqT K H a [.str "row",.ref b]/\ok b/\H b=some (.lst (ts.map V.int)):=by
 obtain⟨a,xs,rfl,hS,r⟩:=xA h;cases r with
 | cons h1 r=>cases r with
  | cons h2 r=>
   cases r;obtain⟨b,ys,rfl,o,hb,q⟩:=wU h2;rw[yp h1] at hS;rw[wV q] at hb;exact⟨a,b,rfl,hS,o,hb⟩
theorem zdq{K:Frag}{H:Hp}{x:V}{z:Str}{t:Int}(h:zI K ok H 3 x (jz (.named z t))):∃a,x=.ref a/\SqT K H a [.str "named",.str z,.int t]:=by
 obtain⟨a,xs,rfl,hS,r⟩:=xA h;cases r with
 | cons h1 r=>cases r with
  | cons h2 r=>cases r with
   | cons h3 r=>cases r;rw[yp h1,yp h2,xJ h3] at hS;exact⟨a,rfl,hS⟩
theorem zfe{K:Frag}{H:Hp}{x:V}{ps:List (Str×Int)}(h:zI K ok H 3 x (jz (.book ps))):∃a b ys,x=.ref a/\SqT K H a [.str "book",.ref b]/\ok b/\H b=some (.lst ys)/\Paired (zI K ok H 1) ys (ps.map yP):=by
 obtain⟨a,xs,rfl,hS,r⟩:=xA h;cases r with
 | cons h1 r=>cases r with
  | cons h2 r=>
   cases r;obtain⟨b,ys,rfl,o,hb,q⟩:=wU h2;rw[yp h1] at hS;exact⟨a,b,ys,rfl,hS,o,hb,q⟩
theorem zdm(c:List vd)(i:Nat)(it:vd)(h:c[i]?=some it):yu (c.take (i+1))=yu (c.take i)++itT it:=by
 unfold yu;rw[take_add_one,h,aE,flatten_append];simp
theorem zdn(c:List vd)(i:Nat)(it:vd)(h:c[i]?=some it):xj (c.take (i+1))=xj (c.take i)++itP it:=by
 unfold xj;rw[take_add_one,h,aE,flatten_append];simp
theorem zb7(c:List vd)(i:Nat):(yu (c.take i)).length<=(yu c).length:=by
 unfold yu
 conv=>rhs;rw[<- take_append_drop i c]
 rw[aE,flatten_append,aG];omega
theorem zb8(c:List vd)(i:Nat):(xj (c.take i)).length<=(xj c).length:=by
 unfold xj
 conv=>rhs;rw[<- take_append_drop i c]
 rw[aE,flatten_append,aG];omega
theorem ne1:¬(V.str "row"=V.str "one"):=by decide +kernel
theorem ne2:¬(V.str "named"=V.str "one"):=by decide +kernel
theorem ne3:¬(V.str "book"=V.str "one"):=by decide +kernel
theorem ne4:¬(V.str "named"=V.str "row"):=by decide +kernel
theorem ne5:¬(V.str "book"=V.str "row"):=by decide +kernel
theorem ne6:¬(V.str "book"=V.str "named"):=by decide +kernel
theorem qd:zp ["call","things","pairs","item","word"] ["call"] (zi zgf):=fsc
theorem yw(s:zq H H2)(h:H l=none)(o:HO):zq H (upd H2 l o):=fun b u q=>by rw[zf (ze q h)];exact s b u q
theorem ziP{P:Program}{w:World}{K:Frag}{base:Heap}{f:Addr}{fd:FuncData}(F:Fun K "laid" "laid" zgf f fd):↥1 f fd ["call"] (zcB K):=by
 specialize qd;obtain⟨a,c,xs,rfl,hS,hc,hT,hP,q⟩:=h;refine⟨_,zk (zB (i:=1) qd.nd rfl (Or.inl rfl) (zZ zb)) (zk (zB (i:=2) qd.nd rfl (Or.inl rfl) (zZ zb))
  (zk (yr PassesOwn.never rfl (yb (pv 0)) (zl (i:=3) qd.nd rfl (Or.inl rfl))
   (zk (zB (i:=4) qd.nd rfl (Or.inl rfl) (zu zL (pv 3) zh (fun _ _=>rfl)))
   (zd (zJ (zn ye (pv 4) zw (zv _)) (zd (zG (yt PySem.F.plainAttrs_list PySem.F.slot_list_append PySem.F.type_list_append zK (pv 1) (ac (zu zL (pv 3) zh (fun _ _=>rfl)) zb))))
    (zd (zJ (zn ye (pv 4) zw (zv _)) (zd (zG (yt PySem.F.plainAttrs_list PySem.F.slot_list_extend PySem.F.type_list_extend zau (pv 1) (ac (zu zL (pv 3) zh (fun _ _=>rfl)) zb))))
     (zd (zJ (zn ye (pv 4) zw (zv _)) (zd (zG (yt PySem.F.plainAttrs_list PySem.F.slot_list_append PySem.F.type_list_append zK (pv 2) (ac (zQ (ac (zu zL (pv 3) zh (fun _ _=>rfl)) (ac (zu zL (pv 3) zh (fun _ _=>rfl)) zb))) zb))))
      (zd (zG (yt PySem.F.plainAttrs_list PySem.F.slot_list_extend PySem.F.type_list_extend zau (pv 2) (ac (zu zL (pv 3) zh (fun _ _=>rfl)) zb))))))))))))
  (zd (zt (zQ (ac (pv 1) (ac (pv 2) zb))))))),?_⟩
 exists x8,fun l1 h1=>?_;exists x8,fun l2 h2=>?_;have n12:l1≠l2:=ze za h2;have f2:H l2=none:=(zg h1 _).free h2;have s0:zq H (upd (upd H l1 (.lst [])) l2 (.lst [])):=(zg h1 _).trans (zg h2 _);refine⟨_,rfl,a,rfl,⟨_,s0.seq hS⟩,yY (K:=K) (a:=a) (xs:=xs) (fun i σ H2=>∃v3 v4 ys,σ=[~~~a,~~~l1,~~~l2,v3,v4]/\zq H H2/\H2 l1=some (.lst ((yu (c.take i)).map V.int))/\H2 l2=some (.lst ys)/\Paired (zI K T' H2 1) ys ((xj (c.take i)).map yP))
  ⟨_,_,[],rfl,s0,by rw[zf n12,za];rfl,za,.nil⟩ (fun i σ H2 _ ⟨_,_,_,_,s2,_⟩=>s2.seq hS) ?_ ?_⟩
 ·rintro i y σ H2 hi ⟨v3,v4,ys,rfl,s2,g1,g2,gp⟩
  obtain⟨d,hd,hy⟩:=Paired.get hc hi;obtain⟨it,hit,rfl⟩:∃it,c[i]?=some it/\jz it=d:=by
   rw[getElem?_map] at hd;cases e:c[i]? with
   | none=>rw[e] at hd;cases hd
   | some it=>rw[e] at hd;exact⟨it,rfl,Option.some.inj hd⟩
  have hy2:=hy.same s2;have eT:=zdm c i it hit;have eP:=zdn c i it hit;have lT:=zb7 c i;have lP:=zb8 c i;have lT1:=zb7 c (i+1);have lP1:=zb8 c (i+1);have lys:ys.length=(xj (c.take i)).length:=by rw[gp.length,aA]
  have sT:∀{H3:Hp}{o:HO}{l:Addr},H3 l=none\/(∃zs,H3 l=some (.lst zs))->∀{b zs},SqT K H3 b zs->SqT K (upd H3 l o) b zs:=fun {H3 o l} hl {b zs} hz=>by
   rcases hz with (z|⟨u,z⟩)|z
   ·refine .inl (.inl ?_)
    have:b≠l:=fun e=>by
     subst e;rcases hl with e|⟨_,e⟩
     ·rw[e] at z;cases z
     ·rw[e] at z;cases z
    rw[zf this];exact z
   ·refine .inl (.inr ⟨u,?_⟩)
    have:b≠l:=fun e=>by
     subst e;rcases hl with e|⟨_,e⟩
     ·rw[e] at z;cases z
     ·rw[e] at z;cases z
    rw[zf this];exact z
   ·exact .inr z
  have keepP:∀{H3:Hp}{o:HO}{l:Addr}{zs:List V}{ps:List (Str×Int)},H3 l=none\/(∃zs,H3 l=some (.lst zs))->Paired (zI K T' H3 1) zs (ps.map yP)->Paired (zI K T' (upd H3 l o) 1) zs (ps.map yP):=by
   intro H3 o l zs ps hl r;induction ps generalizing zs with
   | nil=>cases r;exact .nil
   | cons p ps ih=>
    cases r with
    | cons h r=>
     refine .cons ?_ (ih r);obtain⟨b,ws,rfl,hS',r'⟩:=xA h;exact .tup (sT hl hS') (zm (fun _ _ z=>z) r')
  cases it with
  | one t=>
   obtain⟨b,rfl,hb⟩:=zhp hy2;exists _,rfl,b,_,_,.str "one",rfl,rfl,hb,rfl,?_;exists _,rfl,rfl,_,rfl,?_;refine dT rfl ?_;exists _,rfl,.inl ⟨rfl,_,zc g1⟩,_,rfl,b,_,_,.int t,rfl,rfl,hb,rfl,l1,_,_,rfl,rfl,g1,?_,?_
   ·rw[aA];exact zE ∅
   ·exists _,_,ys,rfl,yw s2 h1 _,?_,?_,?_
    ·rw[za,eT,aE];rfl
    ·rw[zf n12.symm];exact g2
    ·rw[eP];show Paired _ _ ((xj (c.take i)++[]).map yP);rw[append_nil];exact keepP (.inr ⟨_,g1⟩) gp
  | row ts=>
   obtain⟨b,bl,rfl,hb,_,hbl⟩:=zho hy2;exists _,rfl,b,_,_,.str "row",rfl,rfl,hb,rfl,?_;exists _,rfl,rfl,_,rfl,?_;refine dF ne1 ?_;exists _,rfl,rfl,_,rfl,?_;refine dT rfl ?_;exists _,rfl,.inl ⟨rfl,_,zc g1⟩,_,rfl,b,_,_,.ref bl,rfl,rfl,hb,rfl,l1,bl,_,_,rfl,rfl,g1,hbl,?_,?_
   ·have e1:(yu (c.take (i+1))).length=(yu (c.take i)).length+ts.length:=by rw[eT,aG];rfl
    rw[aA,aA];exact xo ∅
   ·exists _,_,ys,rfl,yw s2 h1 _,?_,?_,?_
    ·rw[za,eT,aE];rfl
    ·rw[zf n12.symm];exact g2
    ·rw[eP];show Paired _ _ ((xj (c.take i)++[]).map yP);rw[append_nil];exact keepP (.inr ⟨_,g1⟩) gp
  | named z t=>
   obtain⟨b,rfl,hb⟩:=zdq hy2;exists _,rfl,b,_,_,.str "named",rfl,rfl,hb,rfl,?_;exists _,rfl,rfl,_,rfl,?_;refine dF ne2 ?_;exists _,rfl,rfl,_,rfl,?_;refine dF ne4 ?_;exists _,rfl,rfl,_,rfl,?_;refine dT rfl ?_;exists _,rfl,.inl ⟨rfl,_,zc g2⟩,_,rfl,b,_,_,.str z,rfl,rfl,hb,rfl,_,rfl,b,_,_,.int t,rfl,rfl,hb,rfl,yL,fun p hp=>?_;have np2:l2≠p:=ze g2 hp;have np1:l1≠p:=ze g1 hp;have fp:H p=none:=s2.free hp;exists l2,_,_,rfl,rfl,(by rw[zf np2];exact g2),?_,?_
   ·rw[lys];exact zE ∅
   ·exists _,_,ys++[.ref p],rfl,yw (yw s2 fp _) f2 _,?_,za,?_
    ·rw[zf n12,zf np1,g1,eT];show _=some (HO.lst ((yu (c.take i)++[]).map V.int));rw[append_nil]
    ·rw[eP,aE]
     refine yJ (keepP (.inr ⟨_,by rw[zf np2];exact g2⟩) (keepP (.inl hp) gp)) (.cons (.tup (xs:=[.str z,.int t]) (zz ?_) (.cons .str (.cons .int .nil))) .nil)
     rw[zf np2.symm,za]
  | book ps=>
   obtain⟨b,bl,zs,rfl,hb,_,hbl,hz⟩:=zfe hy2;exists _,rfl,b,_,_,.str "book",rfl,rfl,hb,rfl,?_;exists _,rfl,rfl,_,rfl,?_;refine dF ne3 ?_;exists _,rfl,rfl,_,rfl,?_;refine dF ne5 ?_;exists _,rfl,rfl,_,rfl,?_;refine dF ne6 ?_;have lz:zs.length=ps.length:=by rw[hz.length,aA]
   exists _,rfl,.inl ⟨rfl,_,zc g2⟩,_,rfl,b,_,_,.ref bl,rfl,rfl,hb,rfl,l2,bl,_,_,rfl,rfl,g2,hbl,?_,?_
   ·have e1:(xj (c.take (i+1))).length=(xj (c.take i)).length+ps.length:=by rw[eP,aG];rfl
    rw[lys,lz];exact xo ∅
   ·exists _,_,ys++zs,rfl,yw s2 f2 _,?_,za,?_
    ·rw[zf n12,g1,eT];show _=some (HO.lst ((yu (c.take i)++[]).map V.int));rw[append_nil]
    ·rw[eP,aE]
     exact yJ (keepP (.inr ⟨_,g2⟩) gp) (keepP (.inr ⟨_,g2⟩) hz)
 ·rintro σ H2 ⟨v3,v4,ys,rfl,s2,g1,g2,gp⟩
  exists _,rfl,_,rfl,yL,fun p hp=>?_;have hl:xs.length=c.length:=by rw[hc.length,aA]
  rw[hl,take_length] at g1 gp;refine q p _ (s2.trans (zg hp _)) ⟨l1,l2,ys,h1,f2,n12,s2.free hp,za,?_,?_,zm (fun _ _ z=>z.same (zg hp _)) gp⟩
  ·rw[zf (ze g1 hp)];exact g1
  ·rw[zf (ze g2 hp)];exact g2
theorem uH{ps:List (Str×Int)}{i:Nat}{d:Dt}(h:(ps.map yP)[i]?=some d):∃p,ps[i]?=some p/\yP p=d:=by
 rw[getElem?_map] at h;cases e:ps[i]? with
 | none=>rw[e] at h;cases h
 | some it=>rw[e] at h;exact⟨it,rfl,Option.some.inj h⟩
theorem vY{K:Frag}{ok:Addr->Prop}{H:Hp}{n:Nat}{x:V}{p:Str×Int}(h:zI K ok H (n+1) x (yP p)):∃b,x=.ref b/\SqT K H b [.str p.1,.int p.2]:=by
 obtain⟨a,xs,rfl,hS,r⟩:=xA h;cases r with
 | cons h1 r=>cases r with
  | cons h2 r=>cases r;rw[yp h1,xJ h2] at hS;exact⟨a,rfl,hS⟩
theorem y7{K:Frag}{ok ok':Addr->Prop}{H:Hp}(hk:∀b,ok b->H b≠none->ok' b){n:Nat}{x:V}{d:Dt}(h:zI K ok H n x d):zI K ok' H n x d:=
 h.frame (fun a xs z=>z) fun a xs oa z=>⟨hk a oa (by rw[z];intro q;cases q),z⟩
theorem xE{A B:Prop}(h:b=true)(a:A):if b=true then A else B:=by rw[h];exact xu a
theorem yR{A B:Prop}(h:b=false)(a:B):if b=true then A else B:=by rw[h];exact yB a
end
section
variable {mg:Str->Option Value}
section
end
end
def zS(c:List vd):List Str:=(xj c).map (·.1)
inductive zdW(K:Frag)(vs:List V)(H:Hp)(Q:VK)(E:XK):Prop|mk(a:Addr)(c:List vd)(xs:List V):vs=[.ref a]->SqL K H a xs->Paired (zI K T' H 3) xs (c.map jz)->(yu c).length<=900->(xj c).length<=900->(∀(p l:Addr) (H':Hp),zq H H'->H l=none->H' p=some (.tup [.int ((yu c).length:Nat),.ref l])->H' l=some (.lst ((zS c).map V.str))->Q (.ref p) H')->zdW K vs H Q E
def uh:Nat->List (Key×V)->List Str->List (Key×V)
 | _,acc,[]=>acc
 | i,acc,z::zs=>uh (i+1) (if (zO acc (.inr z)).isSome=true then acc else yK acc (.inr z) (.int i)) zs
theorem zaB{z:Str}:∀(zs:List Str) (j i:Nat) (acc:List (Key×V)),zs[i]?=some z->uh j acc (zs.take (i+1))=(if (zO (uh j acc (zs.take i)) (.inr z)).isSome=true then uh j acc (zs.take i) else yK (uh j acc (zs.take i)) (.inr z) (.int (j+i:Nat)))
 | [],_,_,_,h=>by simp at h
 | y::ys,j,0,acc,h=>by
  have e:y=z:=by simpa using h
  subst e;rfl
 | y::ys,j,i+1,acc,h=>by
  have:=zaB ys (j+1) i (if (zO acc (.inr y)).isSome=true then acc else yK acc (.inr y) (.int j)) (by simpa using h)
  show uh (j+1) _ (ys.take (i+1))=_;rw[this,show j+1+i=j+(i+1) by omega]
  rfl
theorem zcd:∀(zs:List Str) (i:Nat) (acc:List (Key×V)),(uh i acc zs).length<=acc.length+zs.length
 | [],_,_=>aF _
 | z::zs,i,acc=>by
  have h:=zcd zs (i+1) (if (zO acc (.inr z)).isSome=true then acc else yK acc (.inr z) (.int i))
  have h2:(if (zO acc (.inr z)).isSome=true then acc else yK acc (.inr z) (.int i)).length<=acc.length+1:=by
   split
   ·omega
   ·exact xG acc _ _
  show(uh (i+1) _ zs).length<=acc.length+(zs.length+1);omega
inductive j7(vs:List V)(H:Hp)(Q:VK)(E:XK):Prop|mk(a:Addr)(zs:List Str):vs=[.ref a]->H a=some (.lst (zs.map V.str))->zs.length<=900->(∀(l:Addr) (o:Obj) (H':Hp),zq H H'->H l=none->H' l=some (.frz o (.dK (uh 0 [] zs)))->Q (.ref l) H')->j7 vs H Q E
section
variable {mg:Str->Option Value}{f CF:Addr}{c:C5}
theorem zmb:([Str.ofString "name",Str.ofString "thing"]:List Str).Nodup:=by decide +kernel
theorem za4:zp ["call","things","pairs"] ["call"] (zi zcQ):=fsc
theorem zgS{P:Program}{w:World}{K:Frag}{base:Heap}{fd:FuncData}{g:Addr}{gd:FuncData}(F:Fun K "shape" "shape" zcQ f fd)(hlen:mg "len"=none)(cL:⇑1 "laid" g gd ["call"] (zcB K)):↥2 f fd ["call"] (zdW K):=by
 specialize za4;obtain⟨a,c,xs,rfl,hS,hc,lT,lP,q⟩:=h;refine⟨_,zk (y8 (cF cL hr (ac (pv 0) zb)) (yi rfl (zo (zl (i:=1) za4.nd rfl (Or.inl rfl)) (zo (zl (i:=2) za4.nd rfl (Or.inl rfl)) zT))))
  (zd (zt (zQ (ac (cB zF hlen PySem.boot_len (ac (pv 1) zb)) (ac (xF [] ["name","thing"] [none,none] rfl ⟨rfl,rfl,rfl,rfl⟩ (yb (pv 2)) (wn (K:=K) (n:=2) 0 1) rfl rfl rfl
   (fun pins fp s H C=>⟨yi rfl (zo (zl (i:=0) zmb rfl (Or.inl rfl) (.inr rfl)) (zo (zl (i:=1) zmb rfl (Or.inl rfl) (.inr rfl)) zT)),yS,pv 0⟩)) zb))))),?_⟩
 exists _,rfl,a,c,xs,rfl,hS,hc,lT,lP,fun p H1 s1 two=>?_;obtain⟨l1,l2,ys,n1,n2,n12,np,ep,e1,e2,gp⟩:=two;exists p,_,rfl,zz ep,rfl,_,_,rfl,_,_,rfl,rfl,?_;exists _,rfl,l1,_,rfl,.inl (zc e1),_,rfl,l2,rfl,⟨_,zc e2⟩,fun D hD=>?_;have lys:ys.length=(xj c).length:=by rw[gp.length,aA]
 refine wF (K:=K) (xs:=ys) (fun i zs H'=>zq H1 H'/\H' D=some (.lst zs)/\zs=((zS c).take i).map V.str) ⟨zg hD _,za,rfl⟩ (fun i zs H' h=>zc (h.1 _ _ e2)) ?_ ?_
 ·rintro i x zs H' hlt hx ⟨sH,hDy,ez⟩
  obtain⟨d,hd,hy⟩:=Paired.get gp hx;obtain⟨pr',hpr,rfl⟩:=uH hd;obtain⟨b,rfl,hb⟩:=vY (hy.same sH);exists b,_,rfl,hb,rfl,_,_,rfl,_,_,rfl,rfl,fun _=>⟨_,rfl,?_⟩,fun e=>Bool.noConfusion e;have hi:i<(zS c).length:=by unfold zS;rw[aA];omega
  have en:(zS c)[i]=pr'.1:=by
   have:(zS c)[i]?=some pr'.1:=by unfold zS;rw[getElem?_map,hpr];rfl
   rw[aB hi] at this;exact Option.some.inj this
  refine lcN.mk hlt (xo ∅) hDy (by rw[ez,aA,length_take];omega) ⟨fun b' u e=>?_,za,?_⟩
  ·rw[zf (ze e hD)]
   exact sH b' u e
  ·rw[ez,take_succ_eq_append_getElem hi,en,aE]
   rfl
 rintro zs H2 ⟨s2,hDy,ez⟩;have hz:zs=(zS c).map V.str:=by
  rw[ez,take_of_length_le (by unfold zS;rw[aA];omega)]
 subst hz;exists yL,fun t ht=>?_;have s3:=zg ht (.tup [.int ((yu c).map V.int).length,.ref D]);refine q t D _ (s1.trans (s2.trans s3)) (s1.free hD) (by rw[za,aA]) (s3 _ _ hDy)
theorem uE:zp ["names","firsts","number","name"] ["names"] (zi zbi):=fsc
theorem ze6{P:Program}{w:World}{K:Frag}{base:Heap}{fd:FuncData}(F:Fun K "first_numbers" "first_numbers" zbi f fd)(hen:mg "enumerate"=none):↥1 f fd ["names"] j7:=by
 specialize uE;obtain⟨a,zs,rfl,ha,lz,q⟩:=h;have hu1:=vA hr;refine⟨_,zk (zB (i:=1) uE.nd rfl (Or.inl rfl) vJ)
  (zk (yr PassesOwn.never rfl (wC rfl hen (ac (pv 0) zb)) (yi rfl (zo (zl (i:=2) uE.nd rfl (Or.inl rfl)) (zo (zl (i:=3) uE.nd rfl (Or.inl rfl)) zT)))
   (zd (zJ (xL (zan hu1 (pv 3) (pv 1))) (zd (vV hu1 (pv 1) (pv 3) (pv 2) rfl)) zx)))
  (zd (zt (zkC (pv 1))))),?_⟩
 intro sd hsd;have s1:=zg hsd (.dK []);have e1:upd H sd (.dK []) sd=some (.dK []):=za;show uW _ _ _ _ (upd H sd (.dK []));generalize upd H sd (.dK [])=H1 at s1 e1 |-;refine⟨_,rfl,a,rfl,⟨_,zc (s1 _ _ ha)⟩,vL (K:=K) (a:=a) (xs:=zs.map V.str) (fun i σ H'=>∃(v2 v3:Option V),σ=[~~~a,~~~sd,v2,v3]/\zq H H'/\H' sd=some (.dK (uh 0 [] (zs.take i))))
  ⟨_,_,rfl,s1,e1⟩ (fun i σ H' _ ⟨_,_,_,sH,_⟩=>zc (sH _ _ ha)) ?_ ?_⟩
 ·rintro i x p σ H' hx ⟨v2,v3,rfl,sH,hd⟩ hpn
  obtain⟨z,hz,rfl⟩:=strs_at hx;have sp:=zg hpn (.tup [.int (i:Nat),.str z]);have hd2:=sp _ _ hd;have tk:=zaB zs 0 i [] hz;rw[Nat.zero_add] at tk;have hi:i<zs.length:=(List.getElem?_eq_some_iff.mp hz).1;exists p,_,rfl,zz za,rfl,_,_,rfl,_,_,rfl,rfl,?_;exists _,rfl,_,rfl,sd,_,rfl,.inl ⟨_,.inr z,.inl hd2,rfl,rfl⟩,_,rfl,?_;refine vE (fun ne=>?_) (fun ne=>?_)
  ·have ns:¬(zO (uh 0 [] (zs.take i)) (.inr z)).isSome=true:=by
    intro e;rw[e] at ne;cases ne
   rw[aJ ns] at tk;have ln:=zcd (zs.take i) 0 [];exists _,rfl,_,rfl,_,rfl,sd,_,rfl,.inl ⟨_,.inr z,hd2,rfl,zE (by rw[length_take] at ln;simp at ln;omega),rfl⟩,?_
   refine⟨_,_,rfl,fun b' u e=>?_,by rw[za,tk]⟩
   rw[zf (ze e hsd)];exact sp _ _ (sH _ _ e)
  ·have ns:(zO (uh 0 [] (zs.take i)) (.inr z)).isSome=true:=by
    cases e:(zO (uh 0 [] (zs.take i)) (.inr z)).isSome with
    | true=>rfl
    | false=>exact absurd (by rw[e];rfl) ne
   rw[aK ns] at tk;exact⟨_,_,rfl,sH.trans sp,by rw[tk];exact hd2⟩
 ·rintro σ H' ⟨v2,v3,rfl,sH,hd⟩
  rw[aA,take_length] at hd;exists _,rfl,sd,_,rfl,hd,fun o=>?_;refine q sd o _ (fun b' u e=>?_) hsd za;rw[zf (ze e hsd)];exact sH _ _ e
def MA1(H:Hp)(u:Addr)(m:Str×Nat):Prop:=H u=some (.tup [.str m.1,.int (m.2:Nat)])
def vc(H:Hp)(us:List Addr)(ms:List (Str×Nat)):Prop:=Paired (MA1 H) us ms
theorem vc.same(h:vc H us ms)(s:zq H H'):vc H' us ms:=zm (fun _ _ z=>s _ _ z) h
theorem vc.upd(h:vc H us ms)(hD:H D=some (.lst ys)):vc (upd H D o) us ms:=zm (fun u m z=>by
 show L2.upd H D o u=_;rw[zf (fun e=>by rw[e] at z;rw[MA1,hD] at z;cases z)]
 exact z) h
theorem vc.snoc(h:vc H us ms)(hu:MA1 H u m):vc H (us++[u]) (ms++[m]):=Paired.snoc h hu
def zeJ(H H':Hp)(l:Addr)(ms:List (Str×Nat)):Prop:=∃us:List Addr,H l=none/\H' l=some (.lst (us.map V.ref))/\vc H' us ms
def um(rows:List Rw)(many:Nat):List (Str×Nat):=if (zH 2 0 rows).isSome=true then [] else (List.range (many - plN rows)).map fun i=>((("over" : Str),plN rows+i):Str×Nat)
inductive zdX(c:C5)(CF:Addr)(vs:List V)(H:Hp)(Q:VK)(E:XK):Prop|mk(f:Addr)(many:Nat)(rows:List Rw)(bars:List Str):vs=[.ref f,.int (many:Nat)]->many<=900->rows.length<=500->yN c CF H f rows bars->(∀(l:Addr) (H':Hp),zq H H'->zeJ H H' l (um rows many)->Q (.ref l) H')->zdX c CF vs H Q E
def uf(r:Rw)(i many:Nat)(fk:List (Key×V)):List V:=
 if xi r.k=true/\i<many then [.str "place",.int (i:Nat)] else if yI r.k=true/\(zO fk (.inr r.z)).isSome=true then [.str "name",(zO fk (.inr r.z)).getD .non] else [.str "free"]
def zdI(fk:List (Key×V)):Prop:=∀k v,zO fk k=some v->yZ v=true
inductive zcz(c:C5)(vs:List V)(H:Hp)(Q:VK)(E:XK):Prop|mk(p d:Addr)(i many:Nat)(r:Rw)(fk:List (Key×V)):vs=[.ref p,.int (i:Nat),.int (many:Nat),.ref d]->PAt c H p r->r.ok->Rd H d (.dK fk)->(∀(u:Addr) (H':Hp),zq H H'->H' u=some (.tup (uf r i many fk))->Q (.ref u) H')->zcz c vs H Q E
def xp(r:Rw)(i many:Nat)(fk:List (Key×V)):Bool:=!fr r.k r.b&&L2.eqT (uf r i many fk) [.str "free"]
def wz(many:Nat)(fk:List (Key×V)):Nat->List Rw->List (Str×Nat)
 | _,[]=>[]
 | i,r::rs=>(if xp r i many fk=true then [(("lacking" : Str),i)] else [])++wz many fk (i+1) rs
theorem qG{many:Nat}{fk:List (Key×V)}{r:Rw}:∀(rows:List Rw) (j i:Nat),rows[i]?=some r->wz many fk j (rows.take (i+1))=wz many fk j (rows.take i)++(if xp r (j+i) many fk=true then [(("lacking" : Str),j+i)] else [])
 | [],_,_,h=>by simp at h
 | y::ys,j,0,h=>by
  have e:y=r:=by simpa using h
  subst e;show(_++[])=[]++_;rw[append_nil,nil_append];rfl
 | y::ys,j,i+1,h=>by
  have:=qG (many:=many) (fk:=fk) ys (j+1) i (by simpa using h)
  show _++wz many fk (j+1) (ys.take (i+1))=_;rw[this,show j+1+i=j+(i+1) by omega,<- append_assoc]
  rfl
theorem ji(many:Nat)(fk:List (Key×V)):∀(rows:List Rw) (i:Nat),(wz many fk i rows).length<=rows.length
 | [],_=>aF _
 | r::rs,i=>by
  have:=ji many fk rs (i+1)
  show(_++wz many fk (i+1) rs).length<=rs.length+1;rw[aG];split
  ·rw[length_singleton];omega
  ·rw[length_nil];omega
theorem ze1{i many:Nat}(h:zdI fk):(uf r i many fk).all yZ=true:=by
 unfold uf;split
 ·rfl
 ·split
  next h2=>
   obtain⟨v,hv⟩:=Option.isSome_iff_exists.mp h2.2;rw[hv];show(true&&(yZ v&&true))=true;rw[h _ _ hv];rfl
  ·rfl
inductive zdZ(c:C5)(CF:Addr)(vs:List V)(H:Hp)(Q:VK)(E:XK):Prop|mk(f d:Addr)(many:Nat)(rows:List Rw)(bars:List Str)(fk:List (Key×V)):vs=[.ref f,.int (many:Nat),.ref d]->rows.length<=500->(∀r∈rows,r.ok)->yN c CF H f rows bars->Rd H d (.dK fk)->zdI fk->(∀(l:Addr) (H':Hp),zq H H'->zeJ H H' l (wz many fk 0 rows)->Q (.ref l) H')->zdZ c CF vs H Q E
theorem zq.rd(s:zq H H')(h:Rd H a u):Rd H' a u:=h.elim (fun e=>.inl (s _ _ e)) fun⟨o,e⟩=>.inr ⟨o,s _ _ e⟩
theorem zma:([Str.ofString "number"]:List Str).Nodup:=by decide +kernel
theorem zh8:zp ["form","many"] ["form","many"] (zi zcV):=fsc
theorem zgW{P:Program}{w:World}{K:Frag}{base:Heap}{fd:FuncData}{gT gP:Addr}{eT eP:FuncData}(F:Fun K "overs" "overs" zcV f fd)(hran:mg "range"=none)(FK:FC K CF)(mT:y6 K CF "tail" gT)(GT:↥1 gT eT ["self"] (vg c CF 2))(bT:zM K eT ["self"] [])(mP:y6 K CF "places" gP)(GP:↥1 gP eP ["self"] (vG c CF))(bP:zM K eP ["self"] []):
  ↥2 f fd ["form","many"] (zdX c CF):=by
 specialize zh8;obtain⟨f,many,rows,bars,rfl,lm,l5,hF,q⟩:=h;refine⟨_,zk (zJ (xL (zeh (yk (pv 0) FK.cl mT GT hr bT .nil zY))) (zd (zt (zZ zb))) zx)
  (zd (zt (xF [] ["number"] [none] rfl ⟨rfl,rfl,rfl,rfl⟩ (zeX rfl hran (ac (yk (pv 0) FK.cl mP GP hr bP .nil zY) (ac (pv 1) zb))) (yc 0) rfl rfl rfl
   (fun pins fp s H C=>⟨zl (i:=0) zma rfl (Or.inl rfl) (.inr rfl),yS,zQ (ac zw (ac (pv 0) zb))⟩)))),?_⟩
 obtain⟨dx,fs,lr,lb,ld,ps,h1,h2,h3,h4,h5,h6⟩:=id hF;have nmT:fs.lookup ("tail" : Str)=none:=h2.no _ (by decide +kernel)
 have nmP:fs.lookup ("places" : Str)=none:=h2.no _ (by decide +kernel)
 exists _,rfl,f,dx,fs,rfl,h1,nmT,f,rows,bars,rfl,hF,?_;exists _,rfl,?_;cases e:zH 2 0 rows with
 | some i=>
  have ef:um rows many=[]:=by unfold um;rw[e];rfl
  have ne:(!decide (wy (some i)=V.non))=true:=rfl;rw[aK ne];exists x8,fun l hl=>?_;exact q l _ (zg hl _) ⟨[],hl,za,by rw[ef];exact .nil⟩
 | none=>
  have ef:um rows many=(List.range (many - plN rows)).map fun i=>((("over" : Str),plN rows+i):Str×Nat):=by unfold um;rw[e];rfl
  refine yB ?_;have lp:plN rows<=500:=le_trans (length_filter_le _ _) l5;exists _,rfl,f,dx,fs,rfl,h1,nmP,f,rows,bars,rfl,hF,_,rfl,(plN rows:Nat),(many:Nat),rfl,⟨∅,∅,∅,∅⟩,fun D hD=>?_
  have en:((many:Int) - (plN rows:Int)).toNat=many - plN rows:=by omega
  refine uK (n:=((many:Int) - (plN rows:Int)).toNat) (fun i ys H'=>∃us,ys=us.map V.ref/\zq H H'/\H' D=some (.lst ys)/\vc H' us ((List.range i).map fun i=>((("over" : Str),plN rows+i):Str×Nat))) ⟨[],rfl,zg hD _,za,.nil⟩ ?_ ?_
  ·rintro i ys H' hi ⟨us,rfl,sH,hDy,hm⟩
   have lu:us.length=i:=by rw[hm.length,aA,length_range]
   exists fun _=>?_,fun e=>Bool.noConfusion e;exists _,rfl,yL,fun t ht=>?_;have s2:=zg ht (.tup [.str "over",.int ((plN rows:Int)+(i:Int))]);have hDy2:=s2 _ _ hDy;refine lcN.mk hi (xo ∅) hDy2 (by rw[aA,lu];exact aF _) ⟨us++[t],by rw[aE];rfl,fun b' u' e'=>?_,za,?_⟩
   ·rw[zf (ze e' hD)]
    exact s2 _ _ (sH _ _ e')
   ·rw[range_succ,aE]
    have hu:MA1 (upd H' t (.tup [.str "over",.int ((plN rows:Int)+(i:Int))])) t ("over",plN rows+i):=by
     show upd H' t _ t=_;rw[za];rfl
    exact((hm.same s2).snoc hu).upd hDy2
  ·rintro ys H' ⟨us,rfl,sH,hDy,hm⟩
   rw[en,<- ef] at hm;exact q D H' sH ⟨us,hD,hDy,hm⟩
theorem zkd:zp ["parameter","number","many","firsts"] ["parameter","number","many","firsts"] (zi zgc):=fsc
theorem ziI{P:Program}{w:World}{K:Frag}{base:Heap}{fd:FuncData}{m:MA}{gp gb:FuncData}(F:Fun K "one_entry" "one_entry" zgc f fd)(PP:Pcs K m c)(GP:↥1 m.fP gp ["self"] (jE K m bpL))(bP:zM K gp ["self"] [])(GB:↥1 m.fB gb ["self"] (jE K m bnL))(bB:zM K gb ["self"] []):
  ↥2 f fd ["parameter","number","many","firsts"] (zcz c):=by
 specialize zkd;obtain⟨p,d,i,many,r,fk,rfl,⟨dx,hp⟩,rok,hd,q⟩:=h;have hu1:=vA hr;have C:=PP r.k rok.1;refine⟨_,zk (zJ (yy (yz (yA (yk (pv 0) C.cl C.mP GP hr bP .nil zY)) (yq (zn wD (pv 1) (pv 2) (zv _))))) (zd (zt (zQ (ac zw (ac (pv 1) zb))))) zx)
  (zk (zJ (yy (yz (yA (yk (pv 0) C.cl C.mB GB hr bB .nil zY)) (yq (xL (qr hu1 (yo (pv 0) rfl) (pv 3)))))) (zd (zt (zQ (ac zw (ac (yT hu1 (pv 3) (yo (pv 0) rfl) (fun _ _=>rfl)) zb))))) zx)
  (zd (zt (zQ (ac zw zb))))),?_⟩
 have nP:(pr r).lookup ("by_place" : Str)=none:=jt (by decide +kernel) (by decide +kernel) (by decide +kernel)
 have nB:(pr r).lookup ("by_name" : Str)=none:=jt (by decide +kernel) (by decide +kernel) (by decide +kernel)
 try dsimp only
 refine xC (fun σ' H'=>σ'=[~~~p,some (.int (i:Nat)),some (.int (many:Nat)),~~~d]/\H'=H/\¬(xi r.k=true/\i<many)) ?_ (fun key=>?_);rotate_left
 ·exists _,rfl,p,dx,_,rfl,hp,nP,p,dx,_,_,_,_,rfl,C,hp,_,rfl,?_
  rw[zjJ r.k rok.1];cases eb:xi r.k with
  | false=>
   refine yB ?_;refine yB ?_;exact key _ _ ⟨rfl,rfl,by rw[eb];exact fun z=>Bool.noConfusion z.1⟩
  | true=>
   refine xu ?_;exists _,rfl,_,rfl,_,_,rfl,rfl,_,rfl,?_;refine vE (fun c1=>?_) (fun c1=>?_)
   ·have hlt:i<many:=by
     have:=of_decide_eq_true c1
     omega
    exists _,rfl,yL,fun t ht=>?_;exact q t _ (zg ht _) (by rw[za];unfold uf;rw[aK ⟨eb,hlt⟩])
   ·have hlt:¬i<many:=fun h=>c1 (aC (by show(i:Int)<(many:Int);omega))
    exact key _ _ ⟨rfl,rfl,fun z=>hlt z.2⟩
 rintro σ1 H1 ⟨rfl,rfl,nn⟩;have e1:uf r i many fk=(if yI r.k=true/\(zO fk (.inr r.z)).isSome=true then [.str "name",(zO fk (.inr r.z)).getD .non] else [.str "free"]):=by unfold uf;rw[aJ nn]
 try dsimp only
 refine xC (fun σ' H'=>σ'=[~~~p,some (.int (i:Nat)),some (.int (many:Nat)),~~~d]/\H'=H1/\¬(yI r.k=true/\(zO fk (.inr r.z)).isSome=true)) ?_ (fun key=>?_);rotate_left
 ·exists _,rfl,p,dx,_,rfl,hp,nB,p,dx,_,_,_,_,rfl,C,hp,_,rfl,?_
  rw[zet r.k rok.1];cases eb:yI r.k with
  | false=>
   refine yB ?_;refine yB ?_;exact key _ _ ⟨rfl,rfl,by rw[eb];exact fun z=>Bool.noConfusion z.1⟩
  | true=>
   refine xu ?_;exists _,rfl,p,_,dx,_,_,rfl,hp,C.cl,C.nN,jO,_,rfl,d,_,rfl,.inl ⟨fk,.inr r.z,hd,rfl,rfl⟩,_,rfl,?_;refine vE (fun c1=>?_) (fun c1=>?_)
   ·obtain⟨v,hv⟩:=Option.isSome_iff_exists.mp c1
    exists _,rfl,_,rfl,p,_,dx,_,_,rfl,hp,C.cl,C.nN,jO,d,v,rfl,.inl ⟨fk,.inr r.z,hd,rfl,hv.symm⟩,yL,fun t ht=>?_;exact q t _ (zg ht _) (by rw[za,e1,aK ⟨eb,c1⟩,hv];rfl)
   ·exact key _ _ ⟨rfl,rfl,fun z=>c1 z.2⟩
 rintro σ2 H2 ⟨rfl,rfl,nn2⟩;exists za1,fun t ht=>?_;exact q t _ (zg ht _) (by rw[za,e1,aJ nn2])
theorem jM:zp ["form","many","firsts","found","number","parameter"] ["form","many","firsts"] (zi zgg):=fsc
theorem zg2{P:Program}{w:World}{K:Frag}{base:Heap}{fd:FuncData}{m:MA}{g gP:Addr}{gd gf eP:FuncData}(F:Fun K "lackings" "lackings" zgg f fd)(hen:mg "enumerate"=none)(PP:Pcs K m c)(FK:FC K CF)(mP:y6 K CF "parameters" gP)(GP:↥1 gP eP ["self"] (uY c CF))(bP:zM K eP ["self"] [])
  (GF:↥1 m.fF gf ["self"] (zaY K m)) (bF:zM K gf ["self"] []) (cE1:⇑2 "one_entry" g gd ["parameter","number","many","firsts"] (zcz c)):↥3 f fd ["form","many","firsts"] (zdZ c CF):=by
 specialize jM;obtain⟨f,d,many,rows,bars,fk,rfl,l5,hok,hF,hd,hfl,q⟩:=h;have hr1:yg 1 _:=hr.mono ⋯
 have hU:=hr.units;have hO:∀C,Cs5 c C->Cls K C/\y6 K C "free" m.fF:=fun C ⟨k,hk,e⟩=>by rw[e];exact⟨(PP k hk).cl,(PP k hk).mF⟩
 refine⟨_,zk (zB (i:=3) jM.nd rfl (Or.inl rfl) (zZ zb))
  (zk (yr PassesOwn.never rfl (wC rfl hen (ac (yk (pv 0) FK.cl mP GP hr1 bP .nil zY) zb)) (yi rfl (zo (zl (i:=4) jM.nd rfl (Or.inl rfl)) (zo (zl (i:=5) jM.nd rfl (Or.inl rfl)) zT)))
   (zd (zJ (yy (yz (wL (yA (wY (pv 5) hO GF hr1 bF zY))) (yq (zn (zgG hU) (cF cE1 hr (ac (pv 5) (ac (pv 4) (ac (pv 1) (ac (pv 2) zb))))) (zQ (ac zw zb)) (zv _)))))
    (zd (zG (yt PySem.F.plainAttrs_list PySem.F.slot_list_append PySem.F.type_list_append zK (pv 3) (ac (zQ (ac zw (ac (pv 4) zb))) zb)))) zx)))
  (zd (zt (pv 3)))),?_⟩
 exists x8,fun l hl=>?_;have s1:=zg hl (.lst []);have e1:upd H l (.lst []) l=some (.lst []):=za;show uW _ _ _ _ (upd H l (.lst []));generalize upd H l (.lst [])=H1 at s1 e1 |-;obtain⟨dx,fs,lr,lb,ld,ps0,h1,h2,h3,h4,h5,h6⟩:=id hF;have nmP:fs.lookup ("parameters" : Str)=none:=h2.no _ (by decide +kernel)
 exists _,rfl,f,dx,fs,rfl,s1 _ _ h1,nmP,f,rows,bars,rfl,hF.same s1,fun lp ps H2 s2 np ep hps=>?_;have e2:=s2 _ _ e1;have nlp:lp≠l:=Ne.symm (ze e1 np);have nd:∀{b:Addr}{u:HO},H b=some u->b≠l:=fun e=>ze e hl;have s12:=s1.trans s2;have sHl:∀{H':Hp},(∀b u,H2 b=some u->b≠l->H' b=some u)->zq H H':=fun k b u e=>k b u (s12 _ _ e) (nd e);refine⟨lp,rfl,⟨_,zc ep⟩,vL (K:=K) (a:=lp) (xs:=ps.map V.ref) (fun i σ H'=>∃(us:List Addr) (v4 v5:Option V),σ=[~~~f,some (.int (many:Nat)),~~~d,~~~l,v4,v5]/\(∀b u,H2 b=some u->b≠l->H' b=some u)/\H' l=some (.lst (us.map V.ref))/\vc H' us (wz many fk 0 (rows.take i)))
  ⟨[],_,_,rfl,fun _ _ e _=>e,e2,.nil⟩ (fun i σ H' _ ⟨_,_,_,_,sH,_⟩=>zc (sH _ _ ep nlp)) ?_ ?_⟩
 ·rintro i x p σ H' hx ⟨us,v4,v5,rfl,sH,hl',hm⟩ hpn
  obtain⟨pa,hpa,rfl⟩:=xK hx;obtain⟨r,hr',dx',hdx⟩:=zU hps hpa;have rok:=hok r (aH hr');have C:=PP r.k rok.1;have hi:i<rows.length:=(List.getElem?_eq_some_iff.mp hr').1;have npa:pa≠l:=zV hdx e2 (by intro z;cases z)
  have tk:=qG (many:=many) (fk:=fk) rows 0 i hr';rw[Nat.zero_add] at tk;have sp:=zg hpn (.tup [.int (i:Nat),.ref pa]);have lu:us.length<=i:=by
   rw[hm.length];refine le_trans (ji _ _ _ _) ?_;rw[length_take];omega
  have sH1:∀b u,H2 b=some u->b≠l->upd H' p (.tup [.int (i:Nat),.ref pa]) b=some u:=fun b u e n=>sp _ _ (sH b u e n);have hl1:=sp _ _ hl';have hm1:=hm.same sp;exists p,_,rfl,zz za,rfl,_,_,rfl,_,_,rfl,rfl,?_;generalize upd H' p (.tup [.int (i:Nat),.ref pa])=H3 at sH1 hl1 hm1 |-;have hd3:=sH1 _ _ hdx npa;exists _,rfl,pa,_,dx',_,rfl,⟨r.k,rok.1,rfl⟩,hd3,jt (by decide +kernel) (by decide +kernel) (by decide +kernel),pa,dx',_,_,_,_,rfl,C,hd3,_,rfl,?_
  cases ef:fr r.k r.b with
  | true=>
   have il:xp r i many fk=false:=by unfold xp;rw[ef];rfl
   rw[il,aJ zft,append_nil] at tk;refine yB ?_;refine yB ?_;exact⟨us,_,_,rfl,sH1,hl1,by rw[tk];exact hm1⟩
  | false=>
   refine xu ?_;exists _,rfl,_,rfl,_,rfl,_,rfl,pa,d,i,many,r,fk,rfl,⟨dx',hd3⟩,rok,zq.rd (sHl sH1) hd,fun u H4 s4 e4=>?_;exists za1,fun t ht=>?_;have s5:=zg ht (.tup [.str "free"]);exists u,t,_,_,rfl,rfl,zz (s5 _ _ e4),zz za,ze1 hfl,rfl,_,rfl,?_;have s45:=s4.trans s5;have il:xp r i many fk=L2.eqT (uf r i many fk) [.str "free"]:=by unfold xp;rw[ef];rfl
   rw[<- il];generalize upd H4 t (.tup [.str "free"])=H5 at s5 s45 |-;have hl5:=s45 _ _ hl1;have sH5:∀b u,H2 b=some u->b≠l->H5 b=some u:=fun b u e n=>s45 _ _ (sH1 b u e n);refine vE (fun c1=>?_) (fun c1=>?_)
   ·rw[c1,aK rfl] at tk
    exists _,rfl,.inl ⟨rfl,_,zc hl5⟩,_,rfl,yL,fun t2 ht2=>?_;have s6:=zg ht2 (.tup [.str "lacking",.int (i:Nat)]);have hl6:=s6 _ _ hl5;have hu2:MA1 (upd H5 t2 (.tup [.str "lacking",.int (i:Nat)])) t2 ("lacking",i):=by
     show upd H5 t2 _ t2=_;rw[za]
    exists l,_,.ref t2,rfl,rfl,hl6,zE (by rw[aA];omega),?_
    exists us++[t2],_,_,rfl,fun b u e n=>?_,by rw[za,aE];rfl,?_
    ·rw[zf n]
     exact s6 _ _ (sH5 b u e n)
    ·rw[tk]
     exact(((hm1.same s45).same s6).snoc hu2).upd hl6
   ·have c2:xp r i many fk=false:=by
     cases e:xp r i many fk with
     | false=>rfl
     | true=>exact absurd e c1
    rw[c2,aJ zft,append_nil] at tk;exact⟨us,_,_,rfl,sH5,hl5,by rw[tk];exact hm1.same s45⟩
 ·rintro σ H' ⟨us,v4,v5,rfl,sH,hl',hm⟩
  rw[aA,hps.length,take_length] at hm;exact⟨_,rfl,q l H' (sHl sH) ⟨us,hl,hl',hm⟩⟩
def fpF:Nat->List (Str×Nat)->List Str->List (Str×Nat)
 | _,acc,[]=>acc
 | i,acc,z::zs=>fpF (i+1) (if (acc.any fun p=>decide (p.1=z))=true then acc else acc++[(z,i)]) zs
def kvP(fp:List (Str×Nat)):List (Key×V):=fp.map fun p=>(.inr p.1,.int (p.2:Nat))
theorem wG(fp:List (Str×Nat))(z:Str):(zO (kvP fp) (.inr z)).isSome=fp.any fun p=>decide (p.1=z):=by
 rw[<- wo];unfold kvP;rw[List.any_map]
 congr 1
 funext p
 show decide ((Sum.inr p.1:Key)=Sum.inr z)=decide (p.1=z);exact zhn _ _
theorem zdu:∀(zs:List Str) (i:Nat) (acc:List (Str×Nat)),uh i (kvP acc) zs=kvP (fpF i acc zs)
 | [],_,_=>rfl
 | z::zs,i,acc=>by
  show uh (i+1) (if (zO (kvP acc) (.inr z)).isSome=true then kvP acc else yK (kvP acc) (.inr z) (.int i)) zs=kvP (fpF (i+1) (if (acc.any fun p=>decide (p.1=z))=true then acc else acc++[(z,i)]) zs)
  rw[wG];cases e:acc.any fun p=>decide (p.1=z) with
  | true=>exact zdu zs (i+1) acc
  | false=>
   have e2:yK (kvP acc) (.inr z) (.int (i:Nat))=kvP (acc++[(z,i)]):=by
    unfold yK;rw[wo,wG,e,aJ zft];unfold kvP;rw[aE];rfl
   rw[aJ zft,aJ zft,e2];exact zdu zs (i+1) _
theorem jS(h:zO (kvP fp) k=some v):∃(z:Str) (j:Nat),k=.inr z/\v=.int (j:Nat)/\(z,j)∈fp:=by
 unfold zO at h;cases e:(kvP fp).find? fun kv=>decide (kv.1=k) with
 | none=>rw[e] at h;cases h
 | some kv=>
  rw[e] at h;have hm:=List.mem_of_find?_eq_some e;have hk:=List.find?_some e;unfold kvP at hm;obtain⟨p,hp,rfl⟩:=List.mem_map.mp hm;exact⟨p.1,p.2,(of_decide_eq_true hk).symm,(Option.some.inj h).symm,hp⟩
theorem zjc(fp:List (Str×Nat)):zdI (kvP fp):=fun k v h=>by
 obtain⟨z,j,_,rfl,_⟩:=jS h;rfl
theorem zev{z:Str}:∀(zs:List Str) (i:Nat) (acc:List (Str×Nat)),(acc.any fun p=>decide (p.1=z))=true->((fpF i acc zs).any fun p=>decide (p.1=z))=true
 | [],_,_,h=>h
 | y::ys,i,acc,h=>by
  show((fpF (i+1) _ ys).any _)=true;refine zev ys (i+1) _ ?_;split
  ·exact h
  ·rw[any_append,h];rfl
theorem zdv{z:Str}:∀(zs:List Str) (i:Nat) (acc:List (Str×Nat)),z∈zs->((fpF i acc zs).any fun p=>decide (p.1=z))=true
 | [],_,_,h=>by cases h
 | y::ys,i,acc,h=>by
  show((fpF (i+1) _ ys).any _)=true;rcases List.mem_cons.mp h with rfl|h
  ·refine zev ys (i+1) _ ?_
   split
   next e=>exact e
   ·rw[any_append]
    simp
  ·exact zdv ys (i+1) _ h
def fpZ(zs:List Str):List (Str×Nat):=fpF 0 [] zs
theorem zjL(zs:List Str):uh 0 [] zs=kvP (fpZ zs):=zdu zs 0 []
def jH(fk:List (Key×V)):Nat->List Str->List (Str×Nat)
 | _,[]=>[]
 | i,z::zs=>(if zO fk (.inr z)=some (.int (i:Nat)) then [] else [(("doubled" : Str),i)])++jH fk (i+1) zs
theorem zaG{fk:List (Key×V)}{z:Str}:∀(zs:List Str) (j i:Nat),zs[i]?=some z->jH fk j (zs.take (i+1))=jH fk j (zs.take i)++(if zO fk (.inr z)=some (.int (j+i:Nat)) then [] else [(("doubled" : Str),j+i)])
 | [],_,_,h=>by simp at h
 | y::ys,j,0,h=>by
  have e:y=z:=by simpa using h
  subst e;show(_++[])=[]++_;rw[append_nil,nil_append];rfl
 | y::ys,j,i+1,h=>by
  have:=zaG (fk:=fk) ys (j+1) i (by simpa using h)
  show _++jH fk (j+1) (ys.take (i+1))=_;rw[this,show j+1+i=j+(i+1) by omega,<- append_assoc]
  rfl
theorem qS(fk:List (Key×V)):∀(zs:List Str) (i:Nat),(jH fk i zs).length<=zs.length
 | [],_=>aF _
 | r::rs,i=>by
  have:=qS fk rs (i+1)
  show(_++jH fk (i+1) rs).length<=rs.length+1;rw[aG];split
  ·rw[length_nil];omega
  ·rw[length_singleton];omega
def xy(rows:List Rw)(bars:List Str)(many:Nat)(z:Str):Option Str:=
 if z∈bars then some "barred" else match lastD' z rows with
  | none=>if (zH 4 0 rows).isSome=true then none else some "strange"
  | some l=>if l<plN rows/\l<many then some "again" else none
where lastD' (z:Str) (rows:List Rw):Option Nat:=match zO (yx 0 [] rows) (.inr z) with
 | some (.int i)=>some i.toNat
 | _=>none
def jY(rows:List Rw)(bars:List Str)(many:Nat)(fp:List (Str×Nat)):List (Str×Nat):=fp.filterMap fun p=>(xy rows bars many p.1).map fun wd=>(wd,p.2)
def xR(rows:List Rw)(bars:List Str)(many:Nat)(zs:List Str):List (Str×Nat):=jH (kvP (fpZ zs)) 0 zs++um rows many++jY rows bars many (fpZ zs)++wz many (kvP (fpZ zs)) 0 rows
inductive zjx(c:C5)(CF:Addr)(vs:List V)(H:Hp)(Q:VK)(E:XK):Prop|mk(f d:Addr)(o:Obj)(many:Nat)(rows:List Rw)(bars:List Str)(fp:List (Str×Nat)):vs=[.ref f,.int (many:Nat),.ref d]->rows.length<=500->bars.length<=500->fp.length<=900->yN c CF H f rows bars->H d=some (.frz o (.dK (kvP fp)))->(∀(l:Addr) (H':Hp),zq H H'->zeJ H H' l (jY rows bars many fp)->Q (.ref l) H')->zjx c CF vs H Q E
inductive zjC(c:C5)(CF:Addr)(vs:List V)(H:Hp)(Q:VK)(E:XK):Prop|mk(f a:Addr)(many:Nat)(rows:List Rw)(bars zs:List Str):vs=[.ref f,.int (many:Nat),.ref a]->rows.length<=500->bars.length<=500->many<=900->zs.length<=900->(∀r∈rows,r.ok)->yN c CF H f rows bars->H a=some (.lst (zs.map V.str))->(∀(l:Addr) (H':Hp),zq H H'->zeJ H H' l (xR rows bars many zs)->Q (.ref l) H')->zjC c CF vs H Q E
theorem jV:∀(zs:List Str) (i:Nat) (acc:List (Str×Nat)),(fpF i acc zs).length<=acc.length+zs.length
 | [],_,_=>aF _
 | z::zs,i,acc=>by
  have h:=jV zs (i+1) (if (acc.any fun p=>decide (p.1=z))=true then acc else acc++[(z,i)])
  have h2:(if (acc.any fun p=>decide (p.1=z))=true then acc else acc++[(z,i)]).length<=acc.length+1:=by
   split
   ·omega
   ·rw[aG];exact aF _
  show(fpF (i+1) _ zs).length<=acc.length+(zs.length+1);omega
theorem vc.app(h:vc H us ms)(h':vc H vs ns):vc H (us++vs) (ms++ns):=yJ h h'
theorem zmf:([Str.ofString "number",Str.ofString "name",Str.ofString "firsts"]:List Str).Nodup:=by decide +kernel
theorem zf2:zp ["form","many","names","firsts","doubled"] ["form","many","names"] (zi zkr):=fsc
theorem zkM{P:Program}{w:World}{K:Frag}{base:Heap}{fd:FuncData}{g1 g2 g3 g4:Addr}{d1 d2 d3 d4:FuncData}(F:Fun K "misfits_of" "misfits_of" zkr f fd)(hen:mg "enumerate"=none)(c1:⇑1 "first_numbers" g1 d1 ["names"] j7)(c2:⇑2 "overs" g2 d2 ["form","many"] (zdX c CF))(c3:⇑2 "unwelcomes" g3 d3 ["form","many","firsts"] (zjx c CF))(c4:⇑3 "lackings" g4 d4 ["form","many","firsts"] (zdZ c CF)):
  ↥4 f fd ["form","many","names"] (zjC c CF):=by
 specialize zf2;obtain⟨f,a,many,rows,bars,zs,rfl,l5,lb5,lm,lz,hok,hF,ha,q⟩:=h;have hr1:yg 1 _:=hr.mono ⋯
 have hr2:yg 2 _:=hr.mono ⋯
 have hu1:=vA hr;refine⟨_,zk (zB (i:=3) zf2.nd rfl (Or.inr rfl) (cF c1 hr1 (ac (pv 2) zb)))
  (zk (zal (i:=4) ["firsts"] ["number","name","firsts"] [none,none,some 3] zf2.nd rfl (Or.inl rfl) rfl ⟨rfl,rfl,rfl,rfl⟩ (wC rfl hen (ac (pv 2) zb)) (wn (K:=K) (n:=2) 0 1) rfl rfl rfl
   (fun pins fp s H C=>⟨yi rfl (zo (zl (i:=0) zmf rfl (Or.inl rfl) (.inr rfl)) (zo (zl (i:=1) zmf rfl (Or.inl rfl) (.inr rfl)) zT)),xM (zn qx (yT hu1 (pv 2) (pv 1) (fun _ _=>rfl)) (pv 0) (zv _)),zQ (ac zw (ac (pv 0) zb))⟩))
  (zd (zt (zN vm (zN vm (zN vm (pv 4) (cF c2 hr2 (ac (pv 0) (ac (pv 1) zb)))) (cF c3 hr2 (ac (pv 0) (ac (pv 1) (ac (pv 3) zb))))) (cF c4 hr (ac (pv 0) (ac (pv 1) (ac (pv 3) zb)))))))),?_⟩
 exists _,rfl,a,zs,rfl,ha,lz,fun d o H1 s1 hd0 hd1=>?_;rw[zjL] at hd1;have lfp:(fpZ zs).length<=900:=by
  have:=jV zs 0 []
  show(fpF 0 [] zs).length<=900;simp at this;omega
 generalize hfp:fpZ zs=fp at hd1 lfp;exists _,rfl,a,rfl,⟨_,zc (s1 _ _ ha)⟩,fun D hD=>?_;refine zer (K:=K) (xs:=zs.map V.str) (fun i ys H'=>∃us,ys=us.map V.ref/\zq H1 H'/\H' D=some (.lst ys)/\vc H' us (jH (kvP fp) 0 (zs.take i))) ⟨[],rfl,zg hD _,za,.nil⟩ (fun i ys H' ⟨_,_,h,_⟩=>zc (h _ _ (s1 _ _ ha))) ?_ ?_
 ·rintro i x p ys H' hlt hx ⟨us,rfl,sH,hDy,hm⟩ hpn
  obtain⟨z,hz,rfl⟩:=strs_at hx;have hi:i<zs.length:=(List.getElem?_eq_some_iff.mp hz).1;have tk:=zaG (fk:=kvP fp) zs 0 i hz;rw[Nat.zero_add] at tk;have sp:=zg hpn (.tup [.int (i:Nat),.str z]);have lu:us.length<=i:=by
   rw[hm.length];refine le_trans (qS _ _ _) ?_;rw[length_take];omega
  have hsome:(zO (kvP fp) (.inr z)).isSome=true:=by
   rw[wG,<- hfp];exact zdv zs 0 [] (aH hz)
  obtain⟨v,hv⟩:=Option.isSome_iff_exists.mp hsome;obtain⟨_,j,_,rfl,_⟩:=jS hv;have hd2:=sp _ _ (sH _ _ hd1);have hDy2:=sp _ _ hDy;have hm2:=hm.same sp;exists p,_,rfl,zz za,rfl,_,_,rfl,_,_,rfl,rfl,?_;have sA:=sH.trans sp;generalize upd H' p (.tup [.int (i:Nat),.str z])=H3 at sp hd2 hDy2 hm2 sA |-;exists _,rfl,_,rfl,d,_,rfl,.inl ⟨_,.inr z,.inr ⟨o,hd2⟩,rfl,hv.symm⟩,_,rfl,rfl,_,rfl,?_;by_cases ej:j=i
  ·subst ej
   rw[aK hv,append_nil] at tk;have ed:(!decide (V.int (j:Nat)=V.int (j:Nat)))=false:=by rw[aC rfl];rfl
   rw[ed];exact⟨fun e=>Bool.noConfusion e,fun _=>lcS.mk hlt ⟨us,rfl,sA,hDy2,by rw[tk];exact hm2⟩⟩
  ·have nv:¬zO (kvP fp) (.inr z)=some (.int (i:Nat)):=fun e=>by
    rw[hv] at e
    have:=V.int.inj (Option.some.inj e)
    omega
   rw[aJ nv] at tk;have ed:(!decide (V.int (j:Nat)=V.int (i:Nat)))=true:=by
    rw[aD (fun e=>by have:=V.int.inj e;omega)]
    rfl
   rw[ed];exists fun _=>?_,fun e=>Bool.noConfusion e;exists _,rfl,yL,fun t ht=>?_;have s4:=zg ht (.tup [.str "doubled",.int (i:Nat)]);have hDy4:=s4 _ _ hDy2;have hu:MA1 (upd H3 t (.tup [.str "doubled",.int (i:Nat)])) t ("doubled",i):=by
    show upd H3 t _ t=_;rw[za]
   refine lcN.mk hlt (xo (by rw[aA];omega)) hDy4 (by rw[aA];exact lu) ⟨us++[t],by rw[aE];rfl,fun b' u' e'=>?_,za,?_⟩
   ·rw[zf (ze e' hD)]
    exact s4 _ _ (sA _ _ e')
   ·rw[tk]
    exact((hm2.same s4).snoc hu).upd hDy4
 rintro ys H2 ⟨us,rfl,s2,hDy,hm⟩;rw[aA,take_length] at hm;have s12:=s1.trans s2;have lov:(um rows many).length<=900:=by
  unfold um;split
  ·exact zero_le _
  ·rw[aA,length_range];omega
 have lun:(jY rows bars many fp).length<=900:=by
  unfold jY;exact le_trans (List.length_filterMap_le _ _) lfp
 have lla:=ji many (kvP fp) rows 0;have ldb:=qS (kvP fp) zs 0;have big : 4000<=sizeLine:=by decide
 exists _,rfl,_,rfl,_,rfl,f,many,rows,bars,rfl,lm,l5,hF.same s12,fun l3 H3 s3 ⟨us3,n3,e3,m3⟩=>?_;have lu0:=hm.length;have lu3:=m3.length;exists D,l3,_,_,rfl,rfl,s3 _ _ hDy,e3,(by simp only[aA];omega),fun p4 hp4=>?_
 rw[<- aE];have u4:=zg hp4 (.lst ((us++us3).map V.ref));have e4:upd H3 p4 (.lst ((us++us3).map V.ref)) p4=some (.lst ((us++us3).map V.ref)):=za;have m4:vc (upd H3 p4 (.lst ((us++us3).map V.ref))) (us++us3) _:=((hm.same s3).app m3).same u4;generalize upd H3 p4 (.lst ((us++us3).map V.ref))=H4 at u4 e4 m4 |-;have s24:=s2.trans (s3.trans u4);have s14:=s1.trans s24;exists _,rfl,_,rfl,_,rfl,f,d,o,many,rows,bars,fp,rfl,l5,lb5,lfp,hF.same s14,s24 _ _ hd1,fun l5' H5 s5 ⟨us5,n5,e5,m5⟩=>?_;have lu5:=m5.length;exists p4,l5',_,_,rfl,rfl,s5 _ _ e4,e5,(by simp only[aA,aG];omega),fun p6 hp6=>?_
 rw[<- aE];have u6:=zg hp6 (.lst ((us++us3++us5).map V.ref));have e6:upd H5 p6 (.lst ((us++us3++us5).map V.ref)) p6=some (.lst ((us++us3++us5).map V.ref)):=za;have m6:vc (upd H5 p6 (.lst ((us++us3++us5).map V.ref))) (us++us3++us5) _:=((m4.same s5).app m5).same u6;generalize upd H5 p6 (.lst ((us++us3++us5).map V.ref))=H6 at u6 e6 m6 |-;have s26:=s24.trans (s5.trans u6);have s16:=s1.trans s26;exists _,rfl,_,rfl,_,rfl,f,d,many,rows,bars,kvP fp,rfl,l5,hok,hF.same s16,.inr ⟨o,s26 _ _ hd1⟩,zjc fp,fun l7 H7 s7 ⟨us7,n7,e7,m7⟩=>?_;have lu7:=m7.length;exists p6,l7,_,_,rfl,rfl,s7 _ _ e6,e7,(by simp only[aA,aG];omega),fun p8 hp8=>?_
 rw[<- aE];have u8:=zg hp8 (.lst ((us++us3++us5++us7).map V.ref));refine q p8 _ (s16.trans (s7.trans u8)) ⟨us++us3++us5++us7,(s16.trans s7).free hp8,za,?_⟩;unfold xR;rw[hfp];exact((m6.same s7).app m7).same u8
end
end K44
namespace L2
open PySem PySem.Spec PyProof.Rows
def seen(val:Nat->Str)(T:Str->Bool):Nat->Nat->Str->Bool
 | _,0,z=>T z
 | i,k+1,z=>seen val (fun y=>T y||decide (y=val i)) (i+1) k z
section
variable {R:Result->Shared->Prop}{G:Array GenState->Array GenState->Prop}{n:Nat}{Pr:Nat->Value->Prop}{Sg:Nat->Shared->Prop}
theorem jZ{P:Program}{w:World}{A:Around}{I:Addr}{fp wr:List Addr}(W:WalksS P w A.in1 I fp wr G n Pr Sg)(a:Addr)(ha:a∉fp)(val:Nat->Str)(hv:∀i v,Pr i v->∃t,v=.str (val i) t)(hb:n+1<scanBound):
  ∀(k i:Nat) (s:Shared) (T:Str->Bool) (c:Nat),n - i=k->i<=n->Sg i s->c<=i->s.heap.SetOf (strKind P w) a T c->
   (∀s' c',Moved (a::wr) G s s'->c'<=n->s'.heap.SetOf (strKind P w) a (seen val T i k) c'->R (.ok (.ret .none)) s')->
   codeAny (model P w) A (.builtin "set.update.loop" ⟨[.ref a,.ref I],[]⟩) R s
 | 0,i,s,T,c,hk,hi,hg,hc,hT,hR=>by
  have hw:a∉wr:=fun z=>ha (W.sub _ z);have ei:i=n:=by omega
  subst ei;refine codeAny_builtin PyProof.Rows.F.entry_set_update_loop ?_;rw[Around.under_plainId PyProof.Rows.F.plain_set_update_loop _];show wpAny _ A.in1 (pyNext (.ref I) >>= _) _ _ _;refine zwb (W.done s _ _ hg fun s' hm=>?_);show wpAny _ A.in1 (ret Value.none) _ _ _;refine zwp (hR s' c (hm.mono fun b z=>mem_cons_of_mem _ z) hc ?_);obtain⟨ob,es,ep,t,h1,h2⟩:=hT;exact⟨ob,es,ep,t,hm.heap a _ hw h1,h2⟩
 | k+1,i,s,T,c,hk,hi,hg,hc,hT,hR=>by
  have hw:a∉wr:=fun z=>ha (W.sub _ z);have hlt:i<n:=by omega
  refine codeAny_builtin PyProof.Rows.F.entry_set_update_loop ?_;rw[Around.under_plainId PyProof.Rows.F.plain_set_update_loop _];show wpAny _ A.in1 (pyNext (.ref I) >>= _) _ _ _;refine zwb (W.item i s _ _ hlt hg fun v s' hP hg' hm=>?_);obtain⟨t,rfl⟩:=hv i v hP;have hT':s'.heap.SetOf (strKind P w) a T c:=by
   obtain⟨ob,es,ep,tb,h1,h2⟩:=hT;exact⟨ob,es,ep,tb,hm.heap a _ hw h1,h2⟩
  show wpAny _ A.in1 (holding [Value.str (val i) t] (setAdd a (.str (val i) t)) >>= _) _ _ s';refine zwb (wpAny_holding ?_);unfold setAdd;refine wpAny_holding ?_;refine zwb ((strKind P w).pyHash (k:=val i) (strKind_is _ _ _ _) ?_);refine wpAny_setAddHashed_of (knd:=strKind P w) (s:={ s' with toks:=s'.toks+1 }) (strKind_is _ _ _ _) rfl hT' ∅ fun h' hsb h3=>?_
  refine zwp ⟨plainId_quiet PyProof.Rows.F.plain_set_update_loop _,jZ W a ha val hv hb k (i+1) _ _ _ ∅ hlt (W.frame _ s' _ _ hg' (le_succ _) fun b hb' o e=>?_) (by split <;> omega) h3 fun s2 c2 hm2 hc2 h4=>?_⟩
  ·have:b≠a:=fun z=>ha (z ▸ hb')
   rw[hsb.2 b this];exact e
  ·refine hR s2 c2 (Moved.trans W.gtrans ((hm.mono fun b z=>mem_cons_of_mem _ z).then_heap (le_succ _) fun b o hb' e=>?_) hm2) hc2 h4
   have:b≠a:=fun z=>hb' (z ▸ mem_cons_self)
   rw[hsb.2 b this];exact e
abbrev wt(led:Bool):Obj:={ cls:=.type "set",dict:=none,data:=.set #[] 0 (.fresh 0 0 led) }
end
set_option maxHeartbeats 8000000 in
theorem zdE{P:Program}{w:World}{A:Around}{E:VSP}{s:Shared}{l:Addr}{items:Array Value}{zs:List Str}{Q:VSP}
  (hh:A.handled=none) (hl:s.heap.IsList l items) (hv:∀(i:Nat) (v:Value),items[i]?=some v->∃t,v=.str (zs.getD i "") t) (hb:items.size+1<scanBound)
  (h:∀(h':Heap) (tk c:Nat),h'.SetOf (strKind P w) s.heap.objs.size (seen (fun i=>zs.getD i "") (fun _=>false) 0 items.size) c->(∀b o,b<s.heap.objs.size->s.heap.get? b=some o->h'.get? b=some o)->Q (.ref s.heap.objs.size) { s with heap:=h',toks:=tk }) :
  wpAny (model P w) A (call (.type "set") [.ref l]) Q E s:=by
 obtain⟨mc,mt,mro⟩:=PySem.F.called_set.mro;have q1:=PySem.F.called_set.made;have q2:=PySem.F.called_set.sub;have q3:=PySem.F.called_set.notType;have q4:=PySem.F.called_set.canCreate;have q5:=PySem.F.typeCall_set_1 (.ref l);refine wpAny_call (codeAny_of_tree ?_);show wpAny _ _ (callAny (.type "set") _) _ _ _;refine zwp ⟨Code.quiet_builtin _ (by decide +kernel),codeAny_builtin PySem.F.entry_type_call ?_⟩;rw[Around.under_plain (weight_type_call_type "set" [.ref l] []) rfl]
 repeat (any_goals first|assumption|wp_step)
 refine codeAny_mono (code_set_new_1 (.ref l) (E:=E) (Q₁:=fun obj s₁=>∃led:Bool,obj=.ref s.heap.objs.size/\s₁={ s with heap:=s.heap.push (wt led) }) fun led=>⟨led,rfl,rfl⟩) fun r s₁ hr=>?_
 rcases r with e|(_|_|_|obj)
 ·exact hr
 ·exact hr.elim
 ·exact hr.elim
 ·exact hr.elim
 ·obtain⟨led,rfl,rfl⟩:=hr
  have hS:(s.heap.push (wt led)).get? s.heap.objs.size=some (wt led):=zgs _ rfl;have hT:Shared.TypeIs { s with heap:=s.heap.push (wt led) } (.ref s.heap.objs.size) "set":=⟨_,hS,rfl⟩
  have q6:=PySem.F.called_set.init.lookup;have q7:=PySem.F.called_set.init.bind (.ref s.heap.objs.size)
  repeat (any_goals first|assumption|wp_step)
  refine codeAny_mono (codeAny_call_builtin (R:=wants (fun r s₂=>r=.none/\∃h' tk c,s₂={ s with heap:=h',toks:=tk }/\h'.SetOf (strKind P w) s.heap.objs.size (seen (fun i=>zs.getD i "") (fun _=>false) 0 items.size) c/\∀b o,b<s.heap.objs.size->s.heap.get? b=some o->h'.get? b=some o) E) PySem.F.called_set.init.plain PySem.F.entry_set_init (check_set_init_1 hT ?_)) fun r₂ s₂ hr₂=>?_
  ·obtain⟨ol,hol,hcl,nl,hdl⟩:=id hl
   obtain⟨ocls,odict,odata,oslots⟩:=ol;simp only at hcl hdl;subst hcl hdl;have hol':(s.heap.push (wt led)).get? l=_:=zgp (wt led) hol;have t1:=PySem.F.sub_list_set;have t2:=PySem.F.sub_list_frozenset;have t3:(Value.type "list"==Value.type "dict")=false:=by decide
   have hl1:(s.heap.push (wt led)).IsList l items:=⟨_,hol',rfl,nl,rfl⟩;have hlS:l<s.heap.objs.size:=aI hol;unfold Builtin.«set.__init__» noKeywords Builtin.Frozenset.updateFrom;generalize hq:pyIter=pit
   wp_walk
   subst hq;refine wpAny_pyIter_list hl1 (zwb (wpAny_runValue ?_));have hz:(s.heap.push (wt led)).objs.size=s.heap.objs.size+1:=Heap.size_push ..;have n1:l≠(s.heap.push (wt led)).objs.size:=by rw[hz];exact ne_of_lt (lt_succ_of_lt hlS)
   have n2:∀b:Addr,b<s.heap.objs.size->b∉[s.heap.objs.size,(s.heap.push (wt led)).objs.size]:=fun b hb' z=>by
    rw[hz] at z;rcases List.mem_cons.mp z with e|e
    ·exact ne_of_lt hb' e
    ·exact ne_of_lt (lt_succ_of_lt hb') (List.mem_singleton.mp e)
   have n3:s.heap.objs.size∉[(s.heap.push (wt led)).objs.size,l]:=fun z=>by
    rw[hz] at z;rcases List.mem_cons.mp z with e|e
    ·exact ne_of_lt (lt_succ_self _) e
    ·exact ne_of_gt hlS (List.mem_singleton.mp e)
   refine jZ ((Walks.list (by simp [hh]) _ l n1 items).toS) s.heap.objs.size n3 (fun i=>zs.getD i "") hv hb items.size 0 _ (fun _=>false) 0 ∅ (zero_le _) ⟨⟨_,zgs _ rfl,rfl,rfl⟩,hl1.push _⟩ (aF _) ?_ ?_
   ·exact(PyProof.Rows.setObjOf_fresh (knd:=strKind P w) led).setOf (zgp _ hS) (by unfold scanBound;omega)
   ·rintro⟨h',g',d',tk',os'⟩ c' hm hc' hS'
    have e1:g'=s.gens:=hm.gens;have e2:d'=s.drawn:=hm.drawn;have e3:os'=s.os:=hm.os;subst e1 e2 e3;show wpAny _ _ _ _ _ _;refine zwp ?_;show wpAny _ _ (ret Value.none) _ _ _;refine zwp ⟨rfl,h',tk',c',rfl,hS',fun b o hb' e=>hm.heap b o (n2 b hb') (zgp _ (zgp _ e))⟩
  ·rcases r₂ with e|(_|_|_|ob2)
   ·exact hr₂
   ·exact hr₂.elim
   ·exact hr₂.elim
   ·exact hr₂.elim
   ·obtain⟨rfl,h',tk,c',rfl,hS',hk'⟩:=hr₂
    repeat (any_goals first|assumption|wp_step)
    exact h _ _ _ hS' hk'
theorem zbP(val:Nat->Str)(z:Str):∀(k i:Nat) (T:Str->Bool),seen val T i k z=true ↔ (T z=true\/∃j,j<k/\z=val (i+j))
 | 0,i,T=>⟨fun h=>.inl h,fun h=>h.elim id fun⟨j,hj,_⟩=>absurd hj (not_lt_zero _)⟩
 | k+1,i,T=>by
  show seen val (fun y=>T y||decide (y=val i)) (i+1) k z=true ↔ _
  rw[zbP val z k (i+1)];simp only[Bool.or_eq_true,decide_eq_true_eq];constructor
  ·rintro ((h|h)|⟨j,hj,e⟩)
   ·exact .inl h
   ·exact .inr ⟨0,∅,h⟩
   ·exact .inr ⟨j+1,∅,by rw[show i+(j+1)=i+1+j by omega];exact e⟩
  ·rintro (h|⟨j,hj,e⟩)
   ·exact .inl (.inl h)
   ·cases j with
    | zero=>exact .inl (.inr e)
    | succ j=>exact .inr ⟨j,∅,by rw[show i+1+j=i+(j+1) by omega];exact e⟩
theorem zbO(zs:List Str)(z:Str):seen (fun i=>zs.getD i "") (fun _=>false) 0 zs.length z=decide (z∈zs):=by
 rw[Bool.eq_iff_iff,zbP,decide_eq_true_eq];constructor
 ·rintro (h|⟨j,hj,e⟩)
  ·cases h
  ·rw[e,Nat.zero_add]
   show zs.getD j ""∈zs;rw[getD_eq_getElem?_getD,aB hj];exact getElem_mem hj
 ·intro h
  obtain⟨j,hj,e⟩:=List.mem_iff_getElem.mp h;refine .inr ⟨j,hj,?_⟩;rw[Nat.zero_add];show z=zs.getD j "";rw[getD_eq_getElem?_getD,aB hj];exact e.symm
theorem zX.strs_at:∀{zs:List Str}{us:List Value},zX (zs.map V.str) us->∀(i:Nat) (v:Value),us[i]?=some v->∃t,v=.str (zs.getD i "") t
 | [],_,.nil,i,v,h=>by simp at h
 | z::zs,_,.cons r t,0,v,h=>by
  obtain⟨tk,e⟩:=r
  have:v=.str z tk:=by rw[<- e];simpa using h.symm
  exact⟨tk,this⟩
 | z::zs,_,.cons r t,i+1,v,h=>zX.strs_at t i v (by simpa using h)
theorem zfu{X:Cx}(hc:X.calm=true):xQ X (.type "set") (fun xs H Q=>∃(p:Addr) (zs:List Str),xs=[.ref p]/\SqL X.K H p (zs.map V.str)/\zs.length<=900/\∀(l:Addr) (n:Nat),H l=none->Q (.ref l) (upd H l (vC X.prog X.w l (fun z=>decide (z∈zs)) n))):=by
 intro pins s σ H xs us Q I r h;obtain⟨p,zs,rfl,hS,lz,q⟩:=h;obtain⟨u,rfl,ru⟩:=wQ r;cases ru;obtain⟨its,rv,hp,hz⟩:=I.list hS;have hl:its.length=zs.length:=by rw[<- rv.length,aA]
 have hb:its.toArray.size+1<scanBound:=by
  rw[size_toArray,hl];have : 1000<scanBound:=by unfold scanBound;decide
  omega
 refine zdE (I.ok.hd hc) hp.isList (fun i v e=>rv.strs_at i v (by simpa using e)) hb fun h' tk c hS' hk=>?_
 have hsz:its.toArray.size=zs.length:=by rw[size_toArray,hl]
 rw[hsz] at hS';have eS:seen (fun i=>zs.getD i "") (fun _=>false) 0 zs.length=fun z=>decide (z∈zs):=funext (zbO zs);rw[eS] at hS';exists .ref s.heap.objs.size,_,I.laid (t':=tk) (fun b ob e=>hk b ob (aI e) e) (aF _) (za2 hS'),rfl,q _ c (I.hok.fresh (aF _))
end L2
namespace K44
open PySem L2 PyProof.Rows
theorem zdA:∀(rows:List Rw) (i:Nat) (acc:List (Key×V)) (k:Key) (v:V),(∀k v,zO acc k=some v->∃j:Nat,v=.int (j:Nat))->zO (yx i acc rows) k=some v->∃j:Nat,v=.int (j:Nat)
 | [],_,acc,k,v,h,e=>h k v e
 | r::rs,i,acc,k,v,h,e=>by
  refine zdA rs (i+1) _ k v (fun k v e=>?_) e;split at e
  ·rw[zbG] at e
   split at e
   ·exact⟨i,(Option.some.inj e).symm⟩
   ·exact h k v e
  ·exact h k v e
theorem zeK{rows:List Rw}{bars:List Str}{many:Nat}{fp:List (Str×Nat)}{i:Nat}{p:Str×Nat}(h:fp[i]?=some p):jY rows bars many (fp.take (i+1))=jY rows bars many (fp.take i)++(match xy rows bars many p.1 with|some wd=>[(wd,p.2)]|none=>[]):=by
 unfold jY;rw[take_add_one,h,List.filterMap_append]
 congr 1
 show List.filterMap _ [p]=_;rw[filterMap_cons,List.filterMap_nil];cases xy rows bars many p.1 <;> rfl
theorem zfB(rows:List Rw)(bars:List Str)(many:Nat)(fp:List (Str×Nat)):(jY rows bars many fp).length<=fp.length:=List.length_filterMap_le _ _
section
variable {K:Frag}{mg:Str->Option Value}{f CF:Addr}{c:C5}
theorem zak:zp ["form","many","firsts","barred","found","name","number","leads_to"] ["form","many","firsts"] (zi zkm):=fsc
theorem zkF(F:Fun K "unwelcomes" "unwelcomes" zkm f fd)(hset:mg "set"=none)(FK:FC K CF)(mB:y6 K CF "bars" gB)(GB:↥1 gB eB ["self"] (zcE c CF))(bB:zM K eB ["self"] [])(mN:y6 K CF "number_of" gN)(GN:↥1 gN eN ["self","name"] (zdY c CF))(bN:zM K eN ["self","name"] [])
  (mG:y6 K CF "bag" gG) (GG:↥1 gG eG ["self"] (vg c CF 4)) (bG:zM K eG ["self"] []) (mP:y6 K CF "places" gP) (GP:↥1 gP eP ["self"] (vG c CF)) (bP:zM K eP ["self"] []) :
  ↥2 f fd ["form","many","firsts"] (zjx c CF):=by
 specialize zak;obtain⟨f,d,o,many,rows,bars,fp,rfl,l5,lb5,lfp,hF,hd,q⟩:=h;refine⟨_,zk (zB (i:=3) zak.nd rfl (Or.inl rfl) (cTy (zfu rfl) hset PyProof.Rows.boot_set (ac (yk (pv 0) FK.cl mB GB hr bB .nil zY) zb)))
  (zk (zB (i:=4) zak.nd rfl (Or.inl rfl) (zZ zb))
  (zk (yr PassesOwn.never rfl (zbV (pv 2)) (yi rfl (zo (zl (i:=5) zak.nd rfl (Or.inl rfl)) (zo (zl (i:=6) zak.nd rfl (Or.inl rfl)) zT)))
   (zk (zB (i:=7) zak.nd rfl (Or.inl rfl) (jP (pv 0) FK.cl mN GN hr bN .nil zY (ac (pv 5) zb)))
   (zd (zJ (zn qy (pv 5) (pv 3) (by with_unfolding_all rfl)) (zd (zG (yt PySem.F.plainAttrs_list PySem.F.slot_list_append PySem.F.type_list_append zK (pv 4) (ac (zQ (ac zw (ac (pv 6) zb))) zb))))
    (zd (zJ (xL (qp (pv 7))) (zd (zJ (xL (qp (yk (pv 0) FK.cl mG GG hr bG .nil zY))) (zd (zG (yt PySem.F.plainAttrs_list PySem.F.slot_list_append PySem.F.type_list_append zK (pv 4) (ac (zQ (ac zw (ac (pv 6) zb))) zb)))) zx))
     (zd (zJ (yy (yz (zn wD (pv 7) (yk (pv 0) FK.cl mP GP hr bP .nil zY) (zv _)) (yq (zn wD (pv 7) (pv 1) (zv _))))) (zd (zG (yt PySem.F.plainAttrs_list PySem.F.slot_list_append PySem.F.type_list_append zK (pv 4) (ac (zQ (ac zw (ac (pv 6) zb))) zb)))) zx))))))))
  (zd (zt (pv 4))))),?_⟩
 obtain⟨dx,fs,lr,lb,ld,ps0,h1,h2,h3,h4,h5,h6⟩:=id hF;have nmB:fs.lookup ("bars" : Str)=none:=h2.no _ (by decide +kernel)
 have nmN:fs.lookup ("number_of" : Str)=none:=h2.no _ (by decide +kernel)
 have nmG:fs.lookup ("bag" : Str)=none:=h2.no _ (by decide +kernel)
 have nmP:fs.lookup ("places" : Str)=none:=h2.no _ (by decide +kernel)
 exists _,rfl,f,dx,fs,rfl,h1,nmB,f,rows,bars,rfl,hF,fun lb1 H1 s1 nb eb=>?_;exists lb1,bars,rfl,zc eb,∅,fun sS nS hS=>?_
 have u2:=zg hS (vC P w sS (fun z=>decide (z∈bars)) nS);have e2:upd H1 sS (vC P w sS (fun z=>decide (z∈bars)) nS) sS=some (vC P w sS (fun z=>decide (z∈bars)) nS):=za;show uW _ _ _ _ (upd H1 sS (vC P w sS (fun z=>decide (z∈bars)) nS));generalize upd H1 sS (vC P w sS (fun z=>decide (z∈bars)) nS)=H2 at u2 e2 |-;exists x8,fun l hl=>?_;have u3:=zg hl (.lst []);have e3:upd H2 l (.lst []) l=some (.lst []):=za;show uW _ _ _ _ (upd H2 l (.lst []));generalize upd H2 l (.lst [])=H3 at u3 e3 |-;have s2:=s1.trans u2;have s3:=s2.trans u3;have hlH:H l=none:=s2.free hl;have nl:∀{b:Addr}{u:HO},H2 b=some u->b≠l:=fun e=>ze e hl;have sHl:∀{H':Hp},(∀b u,H2 b=some u->H' b=some u)->zq H H':=fun k b u e=>k b u (s2 _ _ e);refine⟨_,rfl,d,o,kvP fp,rfl,s3 _ _ hd,zfk (d:=d) (o:=o) (kvs:=kvP fp) (fun i σ H'=>∃us v5 v6 v7,σ=[~~~f,some (.int (many:Nat)),~~~d,~~~sS,~~~l,v5,v6,v7]/\(∀b u,H2 b=some u->H' b=some u)/\H' l=some (.lst (us.map V.ref))/\vc H' us (jY rows bars many (fp.take i)))
  ⟨[],_,_,_,rfl,fun _ _ e=>u3 _ _ e,e3,.nil⟩ (fun i σ H' _ ⟨_,_,_,_,_,sH,_⟩=>sH _ _ (s2 _ _ hd)) ?_ ?_⟩
 ·rintro i k v p σ H' hk ⟨us,v5,v6,v7,rfl,sH,hl',hm⟩ hpn
  obtain⟨z,n,hz,rfl,rfl⟩:∃(z:Str) (n:Nat),fp[i]?=some (z,n)/\k=.inr z/\v=.int (n:Nat):=by
   unfold kvP at hk;rw[getElem?_map] at hk;cases e:fp[i]? with
   | none=>rw[e] at hk;cases hk
   | some q=>rw[e] at hk;cases hk;exact⟨q.1,q.2,rfl,rfl,rfl⟩
  have tk:=zeK (rows:=rows) (bars:=bars) (many:=many) hz;dsimp only at tk;have sp:=zg hpn (.tup [kV (.inr z),.int (n:Nat)]);have lu:us.length<=i:=by
   rw[hm.length];refine le_trans (zfB _ _ _ _) ?_;rw[length_take];omega
  have hi:i<fp.length:=(List.getElem?_eq_some_iff.mp hz).1;have sH1:∀b u,H2 b=some u->upd H' p (.tup [kV (.inr z),.int (n:Nat)]) b=some u:=fun b u e=>sp _ _ (sH b u e);have hl1:=sp _ _ hl';have hm1:=hm.same sp;exists p,_,rfl,zz za,rfl,_,_,rfl,_,_,rfl,rfl,?_;generalize upd H' p (.tup [kV (.inr z),.int (n:Nat)])=H4 at sH1 hl1 hm1 |-;have s4:=sHl sH1;exists _,rfl,f,dx,fs,rfl,s4 _ _ h1,nmN,_,rfl,f,z,rows,bars,rfl,hF.same s4,?_;exists _,rfl,_,rfl,sS,_,_,z,rfl,rfl,sH1 _ _ e2,_,rfl,?_;by_cases hz1:z∈bars
  ·refine dT hz1 ?_
   rw[show xy rows bars many z=some "barred" from aK hz1] at tk;exists _,rfl,.inl ⟨rfl,_,zc hl1⟩,_,rfl,yL,fun t ht=>?_;have s6:=zg ht (.tup [.str "barred",.int (n:Nat)]);have hl6:=s6 _ _ hl1;have hu2:MA1 (upd H4 t (.tup [.str "barred",.int (n:Nat)])) t ("barred",n):=by
    show upd H4 t _ t=_;rw[za]
   exists l,_,.ref t,rfl,rfl,hl6,zE (by rw[aA];omega),?_
   exists us++[t],_,_,_,rfl,fun b u e=>?_,by rw[za,aE];rfl,?_
   ·rw[zf (nl e)]
    exact s6 _ _ (sH1 b u e)
   ·rw[tk]
    exact((hm1.same s6).snoc hu2).upd hl6
  ·refine dF hz1 ?_
   have e0:xy rows bars many z=(match xy.lastD' z rows with|none=>if (zH 4 0 rows).isSome=true then none else some "strange"|some l=>if l<plN rows/\l<many then some "again" else none):=aJ hz1
   cases ev:zO (yx 0 [] rows) (.inr z) with
   | none=>
    have e1:xy.lastD' z rows=none:=by unfold xy.lastD';rw[ev]
    rw[e1] at e0;exists _,rfl,_,rfl,?_;refine dT rfl ?_;exists _,rfl,f,dx,fs,rfl,s4 _ _ h1,nmG,f,rows,bars,rfl,hF.same s4,_,rfl,?_;cases eg:zH 4 0 rows with
    | none=>
     have e2':xy rows bars many z=some "strange":=by rw[e0,eg];rfl
     refine dT rfl ?_;rw[show xy rows bars many z=some "strange" from e2'] at tk;exists _,rfl,.inl ⟨rfl,_,zc hl1⟩,_,rfl,yL,fun t ht=>?_;have s6:=zg ht (.tup [.str "strange",.int (n:Nat)]);have hl6:=s6 _ _ hl1;have hu2:MA1 (upd H4 t (.tup [.str "strange",.int (n:Nat)])) t ("strange",n):=by
      show upd H4 t _ t=_;rw[za]
     exists l,_,.ref t,rfl,rfl,hl6,zE (by rw[aA];omega),?_
     exists us++[t],_,_,_,rfl,fun b u e=>?_,by rw[za,aE];rfl,?_
     ·rw[zf (nl e)]
      exact s6 _ _ (sH1 b u e)
     ·rw[tk]
      exact((hm1.same s6).snoc hu2).upd hl6
    | some j=>
     have e2':xy rows bars many z=none:=by rw[e0,eg];rfl
     refine dF (by intro z;cases z) ?_
     rw[show xy rows bars many z=none from e2',append_nil] at tk;exact⟨us,_,_,_,rfl,sH1,hl1,by rw[tk];exact hm1⟩
   | some v=>
    obtain⟨j,rfl⟩:=zdA rows 0 [] (.inr z) v (fun k v e=>by cases e) ev
    have e1:xy.lastD' z rows=some j:=by unfold xy.lastD';rw[ev];rfl
    rw[e1] at e0;exists _,rfl,_,rfl,?_;refine dF (by intro z;cases z) ?_
    exists _,rfl,_,rfl,f,dx,fs,rfl,s4 _ _ h1,nmP,f,rows,bars,rfl,hF.same s4,_,_,rfl,rfl,_,rfl,?_;by_cases hj1:j<plN rows
    ·refine xE (aC (by show(j:Int)<(plN rows:Int);omega)) ?_
     exists _,rfl,_,rfl,_,_,rfl,rfl,_,rfl,?_;by_cases hj2:j<many
     ·have e2':xy rows bars many z=some "again":=by rw[e0];exact aK ⟨hj1,hj2⟩
      refine xE (aC (by show(j:Int)<(many:Int);omega)) ?_
      rw[show xy rows bars many z=some "again" from e2'] at tk;exists _,rfl,.inl ⟨rfl,_,zc hl1⟩,_,rfl,yL,fun t ht=>?_;have s6:=zg ht (.tup [.str "again",.int (n:Nat)]);have hl6:=s6 _ _ hl1;have hu2:MA1 (upd H4 t (.tup [.str "again",.int (n:Nat)])) t ("again",n):=by
       show upd H4 t _ t=_;rw[za]
      exists l,_,.ref t,rfl,rfl,hl6,zE (by rw[aA];omega),?_
      exists us++[t],_,_,_,rfl,fun b u e=>?_,by rw[za,aE];rfl,?_
      ·rw[zf (nl e)]
       exact s6 _ _ (sH1 b u e)
      ·rw[tk]
       exact((hm1.same s6).snoc hu2).upd hl6
     ·have e2':xy rows bars many z=none:=by rw[e0];exact aJ fun h=>hj2 h.2
      refine yR (aD (by show ¬(j:Int)<(many:Int);omega)) ?_
      rw[show xy rows bars many z=none from e2',append_nil] at tk;exact⟨us,_,_,_,rfl,sH1,hl1,by rw[tk];exact hm1⟩
    ·have e2':xy rows bars many z=none:=by rw[e0];exact aJ fun h=>hj1 h.1
     refine yR (aD (by show ¬(j:Int)<(plN rows:Int);omega)) ?_
     refine yB ?_;rw[show xy rows bars many z=none from e2',append_nil] at tk;exact⟨us,_,_,_,rfl,sH1,hl1,by rw[tk];exact hm1⟩
 ·rintro σ H' ⟨us,v5,v6,v7,rfl,sH,hl',hm⟩
  have lk:(kvP fp).length=fp.length:=by unfold kvP;rw[aA]
  rw[lk,take_length] at hm;exact⟨_,rfl,q l H' (sHl sH) ⟨us,hlH,hl',hm⟩⟩
def uJ(rows:List Rw)(bars:List Str)(c:List vd):List (Str×Nat):=xR rows bars (yu c).length (zS c)
structure zbC(K:Frag)(H:Hp)(a:Addr)(ct:List vd):Prop where
 at_:∃xs,SqL K H a xs/\Paired (zI K T' H 3) xs (ct.map jz)
 lt:(yu ct).length<=900
 lp:(xj ct).length<=900
structure wO(c:C5)(CF:Addr)(H:Hp)(f:Addr)(rows:List Rw)(bars:List Str):Prop where
 at_:yN c CF H f rows bars
 lr:rows.length<=500
 lb:bars.length<=500
 ok:∀r∈rows,r.ok
theorem wO.same(h:wO c CF H f rows bars)(s:zq H H'):wO c CF H' f rows bars:=⟨h.at_.same s,h.lr,h.lb,h.ok⟩
end
end K44
namespace L2
open PySem PySem.Spec PyProof.Rows
section
theorem zX.of_at{ts:List Int}:∀{us:List Value},us.length=ts.length->(∀(i:Nat) (v:Value),us[i]?=some v->∃t,v=Value.int (ts.getD i 0) t)->zX (ts.map V.int) us:=by
 induction ts with
 | nil=>
  intro us hl _
  have:us=[]:=List.length_eq_zero_iff.mp hl
  subst this;exact .nil
 | cons t ts ih=>
  intro us hl h;cases us with
  | nil=>cases hl
  | cons u us=>
   obtain⟨k,e⟩:=h 0 u rfl;exact .cons ⟨k,e⟩ (ih (by simpa using hl) fun i v e=>h (i+1) v e)
end
end L2
namespace L2
open PySem PySem.W PySem.Builtin PySem.Builtin.ObjectAttr PySem.Spec PyProof.Rows
def zhN(K:Frag)(C:Addr):Bool:=
 match K.lookup C with
 | some ⟨.type "type",_,.cls cd,sl⟩=>
  match cd.mro,sl.toList with
  | .ref C'::bm,[_,_,_,_,some (.builtin n),_]=>C'==C&&n=="ValueError.__new__"&&!cd.hasDel&&cd.hasDict&&bm.contains (.type "ValueError")&&bm.contains (.type "BaseException")&&!bm.contains (.type "AttributeError")&&!bm.contains (.type "NameError")
  | _,_=>false
 | _=>false
structure zmv(h:Heap)(C:Addr):Prop where
 ob:∃nm q N bs bm sn sub ab col dd k0 k1 k2 k3 k5,h.get? C=some (excClassObj nm q C N bs bm true sn sub ab col dd k0 k1 k2 k3 k5 "ValueError.__new__")/\bm.contains (.type "ValueError")=true/\bm.contains (.type "BaseException")=true/\bm.contains (.type "AttributeError")=false/\bm.contains (.type "NameError")=false
theorem zdL{K:Frag}{h:Heap}{C:Addr}(X:K.In h)(q:zhN K C=true):zmv h C:=by
 simp only[zhN] at q;split at q
 case h_2=>cases q
 rename_i dd cd sl ho;obtain⟨nm,bs,mro,ns,qn,hd,sn,sub,ab,col,del⟩:=cd;obtain⟨l⟩:=sl;dsimp only at q;split at q
 case h_2=>cases q
 rename_i C' m k0 k1 k2 k3 n k5;simp only[Bool.and_eq_true,beq_iff_eq,Bool.not_eq_true'] at q;obtain⟨⟨⟨⟨⟨⟨⟨rfl,rfl⟩,rfl⟩,rfl⟩,h1⟩,h2⟩,h3⟩,h4⟩:=q;exact⟨_,_,_,_,_,_,_,_,_,_,_,_,_,_,_,X _ _ ho,h1,h2,h3,h4⟩
abbrev wN(C t:Addr):Obj:={ cls:=.ref C,data:=.fields #[.ref t,.none,.none,.none,.bool false,.none] }
abbrev wb(us:List Value):Obj:={ cls:=.type "tuple",data:=.seq us.toArray }
section
variable {E:VSP}{K:Frag}{C f:Addr}
theorem zje{R:Result->Shared->Prop}(m:zmv s.heap C)(hl:us.length<=sizeLine)
  (h:R (.ok (.ret (.ref (s.heap.objs.size+1)))) { s with heap:=(s.heap.push (wb us)).push (wN C s.heap.objs.size) }) :
  codeAny (model prog w) A (.call (.builtin "ValueError.__new__") ⟨.ref C::us,[]⟩) R s:=by
 obtain⟨hh,g,d,t,os⟩:=s;obtain⟨nm,q,N,bs,bm,sn,sub,ab,col,dd,k0,k1,k2,k3,k5,hC,b1,b2,b3,b4⟩:=m.ob;have F:=PySem.F.excBase_ValueError;refine codeAny_call_builtin_code (Code.quiet_builtin _ F.toExcCallFacts.quiet) ?_;have k1':=F.newKind;have k2':=F.newSplit;have k3':=F.newRow;simp only[checkBuiltinCall,k1',k2',k3'];rw[aK (by decide +kernel)]
 refine zwb (ks_wpAny_isType_cls hC rfl ?_);rw[aJ ⋯]
 refine zwb (wpAny_isSubtype_exc hC ?_);rw[show(Value.ref C::bm).contains (.type "ValueError")=true by rw[contains_cons,b1,Bool.or_true],aJ ⋯]
 refine zwb (wpAny_staticBase_exc hC (zwb (wpAny_madeBy_exc hC ?_)));dsimp only;rw[aJ (by decide +kernel)]
 rw[show Bind.checkArgs "ValueError.__new__" { machinery:=Manifest.Machinery.any,full:="ValueError",short:="ValueError",receiver:=Manifest.Receiver.cls,params:=[{ name:="args",kind:=Manifest.ParamKind.varPos,required:=false },{ name:="kwargs",kind:=Manifest.ParamKind.varKw,required:=false }] } { pos:=Value.ref C::us }=pure () from rfl];refine zwp (PyProof.Rows.codeAny_builtin_at F.toExcCallFacts.toExcNewFacts.entry ?_);unfold Builtin.«BaseException.__new__»;refine PyProof.Rows.wpAt_bind (PyProof.Rows.wpAt_owner rfl F.toExcCallFacts.toExcNewFacts.ends (PyProof.Rows.wpAt_of_any ?_));rw[F.toExcCallFacts.toExcNewFacts.owner];dsimp only;refine zwb (ks_wpAny_isType_cls hC rfl ?_);rw[aJ ⋯]
 refine zwb (wpAny_isSubtype_exc hC ?_);rw[show(Value.ref C::bm).contains (.type "ValueError")=true by rw[contains_cons,b1,Bool.or_true],aJ ⋯]
 refine zwb (wpAny_madeHere_exc F.canon hC ?_);have c3:(Value.ref C::bm).contains (.type "AttributeError")=false:=by rw[contains_cons,b3];rfl
 have c4:(Value.ref C::bm).contains (.type "NameError")=false:=by rw[contains_cons,b4];rfl
 refine zwb (?_:wpAny _ _ (do
   let x <- isSubtype (.ref C) (.type "AttributeError")
   if x=true then pure 2
   else do
    let y <- isSubtype (.ref C) (.type "NameError")
    if y=true then pure 1 else pure 0:Sem Nat) _ _ _)
 refine zwb (wpAny_isSubtype_exc hC ?_);rw[c3,aJ zft];refine zwb (wpAny_isSubtype_exc hC ?_);rw[c4,aJ zft];refine zwp (zwb (wpAny_newTuple ?_ hl));have hC2:=zgp (wb us) hC;unfold newObj;dsimp only;rw[aJ (by show ¬6>sizeLine+2;decide)]
 unfold newObjAsIs;refine zwb (zwb (wpAny_alloc ?_));dsimp only;refine zwb ?_;unfold classHasDel;refine zwb (wpAny_load (zgp _ hC2) ?_);dsimp only;refine zwp ?_;rw[aJ zft];refine zwp (zwp ?_);have e1:(hh.push (wb us)).objs.size=hh.objs.size+1:=Heap.size_push _ _;show R (.ok (.ret (.ref (hh.push (wb us)).objs.size))) _;rw[e1];exact h
structure zeH(K:Frag)(C f:Addr):Prop where
 ob:zhN K C=true
 init:findIn K (.ref C) "__init__"=some (~~~f)
 fn:isFn K (.ref f)=true
 call:specialIn K (.ref C) "__call__"=some (some (.builtin "type.__call__"))
 typ:instIn K (.ref C) (.type "type")=some true
 kp:keepIn K (.ref C)=true
theorem zhC{R:Result->Shared->Prop}(X:K.In s.heap)(m:zeH K C f)(hl:us.length<=sizeLine)
  (h:codeAny (model prog w) (A.under (.builtin "type.__call__" ⟨.ref C::us,[]⟩)) (.call (.ref f) ⟨.ref (s.heap.objs.size+1)::us,[]⟩) (InitBack (s.heap.objs.size+1) R)
   { s with heap:=(s.heap.push (wb us)).push (wN C s.heap.objs.size) }):codeAny (model prog w) A (.call (.ref C) ⟨us,[]⟩) R s:=by
 have mo:=zdL X m.ob;have LC:=looks_specialIn (M:=model prog w) X m.call;have LT:=looks_instIn (M:=model prog w) X m.typ;obtain⟨hh,g,d,t,os⟩:=s;obtain⟨nm,q,N,bs,bm,sn,sub,ab,col,dd,k0,k1,k2,k3,k5,hC,b1,b2,b3,b4⟩:=mo.ob;refine codeAny_of_own ?_;show wpOwn _ _ _ (callAny (.ref C) ⟨us,[]⟩) _ _ _;unfold callAny;refine wpOwn_of_wpAny ?_;dsimp only;refine zwb (wpAny_load hC ?_);dsimp only;unfold callAny.viaDunder;refine zwb (LC.at ?_);dsimp only;rw[show bindSpecial (.builtin "type.__call__") (.ref C)=pure (.builtin "type.__call__",[.ref C]) from by with_unfolding_all rfl]
 refine zwb (zwp ?_);dsimp only;rw[show callAny.plainCallee (.builtin "type.__call__")=pure true from by with_unfolding_all rfl]
 refine zwb (zwp ?_);rw[aK rfl];refine zwp ⟨rfl,?_⟩;refine codeAny_call_builtin_code (Code.quiet_builtin _ (by decide +kernel)) ?_
 have k1':builtinKind "type.__call__"=some .slot:=by decide +kernel
 have k2':splitId "type.__call__"=some ("type","__call__"):=by decide +kernel
 simp only[checkBuiltinCall,k1',k2',List.cons_append,nil_append];refine zwb (LT.at ?_);rw[aJ ⋯]
 have k3':Manifest.signature? "type.__call__"=some { machinery:=.hand,full:="wrapper __call__",short:="",receiver:=.self,params:=[] }:=by with_unfolding_all rfl
 rw[k3'];dsimp only;rw[show Bind.checkArgs "type.__call__" { machinery:=.hand,full:="wrapper __call__",short:="",receiver:=.self,params:=[] } { pos:=Value.ref C::us }=pure () from rfl];refine zwp (codeAny_builtin (b:=Builtin.«type.__call__») rfl ?_);unfold Builtin.«type.__call__»;dsimp only;rw[aJ (show ¬(Value.ref C==Value.type "type")=true from fun z=>by cases z)]
 refine zwb (wpAny_mroOf_exc hC ?_);rw[aJ (show ¬(Value.ref C::bm).isEmpty=true from zft)];refine zwb (wpAny_madeBy_exc hC ?_);dsimp only;refine zwb (zwp (zwb (wpAny_holding (wpAny_call (zje mo hl ?_)))));dsimp only at h |-;have kp:∀b o,hh.get? b=some o->((hh.push (wb us)).push (wN C hh.objs.size)).get? b=some o:=fun b o e=>zgp _ (zgp _ e);have X2:K.In ((hh.push (wb us)).push (wN C hh.objs.size)):=X.keeps kp;have eo:((hh.push (wb us)).push (wN C hh.objs.size)).get? (hh.objs.size+1)=some (wN C hh.objs.size):=by
  have:=zgs (hh.push (wb us)) (o:=wN C hh.objs.size) rfl
  rwa [Heap.size_push] at this
 have LI:=looks_findIn (M:=model prog w) X2 m.init;have LB:=bind_fn (M:=model prog w) X2 (.ref (hh.objs.size+1)) (beq_iff_eq.mp m.fn);generalize (hh.push (wb us)).push (wN C hh.objs.size)=h2 at h kp X2 eo LI LB |-;unfold isInstance;have LTy:Looks (model prog w) h2 (typeOf (.ref (hh.objs.size+1))) (.ref C):=(Looks.ld eo).andThen .now;refine zwb (zwb (LTy.at (wpAny_isSubtype_exc (kp _ _ hC) ?_)));rw[show(Value.ref C::bm).contains (.ref C)=true by rw[contains_cons,beq_self_eq_true,Bool.true_or],aJ ⋯]
 refine zwb (wpAny_holding ?_);unfold callSpecial? specialOf;refine zwb (zwb (LTy.at (LI.at ?_)));dsimp only;refine wpAny_holding (zwb (LB.at ?_));dsimp only;refine zwb (wpAny_call (codeAny_mono h fun r s' hq=>?_));cases r with
 | error e=>exact hq
 | ok fl=>
  cases fl with
  | ret u=>
   obtain⟨rfl,hq⟩:=hq;refine zwp ?_;dsimp only;rw[aJ ⋯]
   exact zwp hq
  | next=>exact False.elim hq
  | brk=>exact False.elim hq
  | cont=>exact False.elim hq
def zbF:List Value:=[.type "ValueError",.type "Exception",.type "BaseException",.type "object"]
def wW:List Value->Bool
 | .ref _::l=>wW l
 | l=>l==zbF
def zln(K:Frag)(C:Addr):Bool:=(clsIn K C).any fun cd=>cd.hasDict&&wW cd.mro
theorem zeZ{Q:Option Unit×Unit->Shared->Prop}:∀l,wW l=true->(Q (some (),()) s)->
  wpAny M A (forIn l ((none,()):Option Unit×Unit) fun c __s=>
    match c with
    | Value.type n=>
     if (n=="_thread._local")=true then do
      rule "setattr.thread-local-passed-by"
      pure (ForInStep.yield (none,()))
     else
      if (n=="_pickle.Pickler"||n=="_pickle.Unpickler")=true then do
       rule "setattr.pickle-types-passed-by"
       pure (ForInStep.yield (none,()))
      else do
       let own <- classOwn c (Str.ofString "__setattr__")
       if own.isSome=true then
         have __do_jp:=fun (__r:Unit)=>pure (ForInStep.done (some (),()));
         if (!isObjects n (Str.ofString "__setattr__").toString)=true then do
          rule "setattr.built-in-override"
          let tn <- PySem.typeNameOf self
          let __r <-
           raiseErrorMade "TypeError"
             (toString "can't apply this "++toString (Str.ofString "__setattr__").toString++toString " to " ++
               toString tn ++
              toString " object")
          __do_jp __r
         else __do_jp ()
        else pure (ForInStep.yield (none,()))
    | x=>pure (ForInStep.yield (none,()))) Q E s:=by
 intro l;have o1:classOwn (.type "ValueError") (Str.ofString "__setattr__")=pure none:=by with_unfolding_all rfl
 have o2:classOwn (.type "Exception") (Str.ofString "__setattr__")=pure none:=by with_unfolding_all rfl
 have o3:classOwn (.type "BaseException") (Str.ofString "__setattr__")=pure none:=by with_unfolding_all rfl
 have o4:=F.own_object_setattr;induction l with
 | nil=>intro h;exact absurd h ⋯
 | cons c l ih=>
  intro h q;rw[List.forIn_cons];cases c with
  | ref a=>exact zwb (zwp (ih h q))
  | type n=>
   have e:Value.type n::l=zbF:=by
    have:(Value.type n::l==zbF)=true:=h
    exact eq_of_beq this
   unfold zbF at e;injection e with e1 e2
   injection e1 with e1
   subst e1 e2;have n1:∀n:String,n∈["ValueError","Exception","BaseException","object"]->(n=="_thread._local")=false/\(n=="_pickle.Pickler"||n=="_pickle.Unpickler")=false:=by decide +kernel
   simp only[List.forIn_cons,n1 "ValueError" ⋯,n1 "Exception" ⋯,n1 "BaseException" ⋯,n1 "object" ⋯,o1,o2,o3,o4,Bool.false_eq_true,if_false]
   refine zwb (zwb (zwp ?_));refine zwp ?_;refine zwb (zwb (zwp ?_));refine zwp ?_;refine zwb (zwb (zwp ?_));refine zwp ?_;refine zwb (zwb (zwp ?_));rw[aK (show(some (Value.builtin "object.__setattr__")).isSome=true from rfl),aJ (show ¬(!isObjects "object" (Str.ofString "__setattr__").toString)=true by unfold isObjects;simp)]
   exact zwp (zwp q)
  | _=>exact absurd h (by simp [wW,zbF])
theorem zlo{α : Type}{t t':Sem α}{Q : α->Shared->Prop}{E:VSP}(e:t=t')(h:wpAny M A t' Q E s):wpAny M A t Q E s:=e ▸ h
structure zdG(K:Frag)(C:Addr):Prop where
 t:zln K C=true
 sa:findIn K (.ref C) "__setattr__"=some (some (.builtin "object.__setattr__"))
 ob:mroIn K C (.type "object")=some true
theorem zdG.cd(m:zdG K C):∃cd,clsIn K C=some cd/\cd.hasDict=true/\wW cd.mro=true:=by
 have:=m.t
 unfold zln at this;cases e:clsIn K C with
 | none=>rw[e] at this;cases this
 | some cd=>
  rw[e] at this;have h2:(cd.hasDict&&wW cd.mro)=true:=this;exact⟨cd,rfl,(Bool.and_eq_true _ _ ▸ h2).1,(Bool.and_eq_true _ _ ▸ h2).2⟩
theorem zh0{Q:Unit->Shared->Prop}(X:K.In s.heap)(m:zdG K C)(ha:findIn K (.ref C) name=some none)(he:s.heap.get? x=some oe)(hc:oe.cls=.ref C)(hd:oe.data=.fields vs)(hn:oe.dict=none)
  (h:∀h':Heap,(∀b o,b≠x->s.heap.get? b=some o->h'.get? b=some o)->h'.get? x=some { oe with dict:=some s.heap.objs.size }->h'.Ns1 s.heap.objs.size (fun y=>if y=name then some v else none)->Q () { s with heap:=h',toks:=s.toks+2 }) :
  wpAny (model prog w) A (setAttr (.ref x) name v) Q E s:=by
 obtain⟨cd,hcd,hdict,hmro⟩:=m.cd;have IA:InstAt s.heap x oe C none:=⟨he,hc,by unfold notCls;rw[hd],by rw[hn];trivial⟩
 refine set_plain X IA m.sa ?_;have LO:=looks_mroIn (M:=model prog w) X m.ob;have LF:=looks_findIn (M:=model prog w) X ha;have LCd:=looks_clsIn (M:=model prog w) X hcd;have LTy:Looks (model prog w) s.heap (typeOf (.ref x)) (.ref C):=hc ▸ (Looks.ld he).andThen .now;obtain⟨hh,g,d,t,os⟩:=s;dsimp only at *;refine codeAny_call_builtin F.slot_object_setattr.plain F.entry_object_setattr ?_;have k1:=F.bk_object_setattr;have k2:=F.sp_object_setattr;simp only[checkBuiltinCall,k1,k2];refine zwb ?_;unfold isInstance;refine zwb (LTy.at ?_);refine LO.at ?_;rw[aJ ⋯]
 have k3:=F.args_object_setattr_3 (.ref x) (.str name t) v;refine zlo k3 (zwp ?_);unfold Builtin.«object.__setattr__»;rw[aJ (show ¬(!(⟨[Value.ref x,Value.str name t,v],[]⟩:Args).kw.isEmpty)=true from zft)];dsimp only;unfold refuseIfOverridden;refine zwb (zwb (LTy.at (zwb ?_)));unfold mroOf;refine zwb (LCd.at (zwp (zwb (zeZ _ hmro ?_))));dsimp only;refine zwp (zwb ?_);unfold attrName;refine zwp (zwb (LTy.at (zwb (LF.at (zwb ?_)))));unfold storeTaker?;refine zwp ?_;dsimp only;unfold storeInOwnDict ownStreamTells;refine zwb (zwp ?_);rw[aJ (show ¬(Value.ref C==Value.type "module")=true from fun z=>by cases z)]
 unfold ownDictForStores instanceDict;refine zwb (zwb (wpAny_loadPart he ?_));rw[hc];dsimp only;refine zwb (LCd.at ?_);rw[hdict,hn,hd];dsimp only;rw[aJ ⋯,aJ (show ¬(!true||!typeHasDict (Value.ref C))=true from zft)]
 refine zwb (wpAny_alloc (zwb (wpAny_update (zgp _ he) ?_)));unfold dictMade;refine zwp ?_;dsimp only;unfold storeInDict newKeyGuard;refine zwb (zwp (zwb ?_));have xlt:x≠hh.objs.size:=ne_of_lt (aI he);have u1:((hh.push { cls:=.type "dict",data:=.dict #[] }).update x fun o=>{ cls:=o.cls,dict:=some hh.objs.size,data:=o.data,slots:=o.slots }).get? hh.objs.size=some { cls:=.type "dict",data:=.dict #[] }:=by
  rw[Heap.get?_update_ne _ _ _ _ (Ne.symm xlt)];exact zgs hh rfl
 have n1:((hh.push { cls:=.type "dict",data:=.dict #[] }).update x fun o=>{ cls:=o.cls,dict:=some hh.objs.size,data:=o.data,slots:=o.slots }).Ns1 hh.objs.size (fun _=>none):=Heap.Ns1.of_empty ⟨_,#[],_,u1,rfl,(fun e he=>absurd he (by simp)),fun _=>rfl⟩
 refine wpAny_nsSet1 n1 fun h' hn2 hs2=>?_;have wi:PySem.Within (fun y=>if y=name then some v else none) [name]:=fun y hy=>by
  by_cases e:y=name
  ·rw[e];exact List.mem_singleton.mpr rfl
  ·exact absurd (aJ e) hy
 obtain⟨oD,esD,epD,hoD,hdD,hcD⟩:=hn2.count wi;refine zwb (wpAny_lookBehind hoD (by rw[hdD];exact pastItsLine_dict (le_trans hcD (by show 1<=sizeLine+1;decide))) ?_)
 refine zwp ?_;have ux:((hh.push { cls:=.type "dict",data:=.dict #[] }).update x fun o=>{ cls:=o.cls,dict:=some hh.objs.size,data:=o.data,slots:=o.slots }).get? x=some { oe with dict:=some hh.objs.size }:=
  Heap.get?_update_self _ (zgp _ he) (by unfold Obj.isFreed;rw[hd])
 refine h h' (fun b o hb e=>?_) ?_ hn2
 ·have hb2:b≠hh.objs.size:=ne_of_lt (aI e)
  rw[hs2.2 b hb2,Heap.get?_update_ne _ _ _ _ hb];exact zgp _ e
 ·rw[hs2.2 x xlt]
  exact ux
end
end L2
namespace L2
open PySem PySem.W PySem.Builtin PySem.Builtin.ObjectAttr PySem.Builtin.Getset_descriptor PySem.Spec PyProof.Rows
section
variable {E:VSP}
end
end L2
namespace L2
open PySem PySem.Spec PyProof.Rows
abbrev uy(ea C:Addr)(od:Option Addr)(t:Addr):HO:=.ext fun h=>h.get? ea=some { cls:=.ref C,dict:=od,data:=.fields #[.ref t,.none,.none,.none,.bool false,.none] }
theorem zez(e:h.get? ea=some { cls:=.ref C,dict:=od,data:=.fields #[.ref t,.none,.none,.none,.bool false,.none] }):yD P w H h ea (uy ea C od t):=
 ⟨e,⟨_,e⟩,fun g1 g2 q k=>k _ q⟩
section
variable {σ:St}{x C t:Addr}{f:Str}{y:V}{E:VSP}
theorem zbx(I:Inv X pins σ H s)(e:H x=some (uy x C od t)):s.heap.get? x=some { cls:=.ref C,dict:=od,data:=.fields #[.ref t,.none,.none,.none,.bool false,.none] }:=(I.hok x _ e).1
theorem zh1{Q:Unit->Shared->Prop}(I:Inv X pins σ H s)(e:H x=some (uy x C none t))(m:zdG X.K C)(n:yl X.K C f)(ry:z3 y u)
  (h:∀dx s',H dx=none->Inv X pins σ (upd (upd H x (uy x C (some dx) t)) dx (.xd [(f,y)])) s'->Q () s'):wpAny (model X.prog X.w) A (setAttr (.ref x) f u) Q E s:=by
 have hx:=zbx I e;have hsz:H s.heap.objs.size=none:=I.hok.fresh (aF _);refine zh0 I.kIn m n hx rfl rfl rfl fun h' k e1 ns=>h s.heap.objs.size _ hsz ?_;have I1:Inv X pins σ (upd H x (uy x C (some s.heap.objs.size) t)) { s with heap:=h',toks:=s.toks+2 }:=
  I.write (by rw[e];exact True.intro) (.inl rfl) k ⟨_,e1⟩ (zez e1)
 have nx:s.heap.objs.size≠x:=Ne.symm (ne_of_lt (aI hx));refine I1.track (by rw[zf nx];exact hsz) ⟨_,ns,fun g=>?_⟩ (fun v e2 _ _=>?_) (fun z=>?_) (fun z c e2 z2=>?_) fun p hp z=>?_
 ·show uA (List.lookup g [(f,y)]) (if g=f then some u else none)
  by_cases q:g=f
  ·subst q;rw[lookup_cons_self,aK rfl];exact ry
  ·rw[lookup_cons,beq_eq_false_iff_ne.mpr q,aJ q];trivial
 ·exact absurd (aI e2) (Nat.not_lt.mpr I.sz)
 ·have:=I.lt
  rw[z] at this;exact absurd this (lt_irrefl _)
 ·obtain⟨v,oc,hoc,_⟩:=I.cell z c e2
  rw[z2] at hoc;exact absurd (aI hoc) (lt_irrefl _)
 ·have:=(I.pin p hp).1
  rw[z] at this;exact absurd (aI this) (lt_irrefl _)
inductive zlSJ(K:Frag)(f:Str)(D:L2.ve)(σ:St)(y:V)(x:V)(H2:Hp):Prop|mk(a C t:Addr):x=.ref a->H2 a=some (uy a C none t)->zdG K C->yl K C f->(∀dx,H2 dx=none->D.nx σ (upd (upd H2 a (uy a C (some dx) t)) dx (.xd [(f,y)])))->zlSJ K f D σ y x H2
def zlS(K:Frag)(ta tv:TE)(f:Str):TS:=fun D σ H=>tv σ H fun y H1=>ta σ H1 fun x H2=>zlSJ K f D σ y x H2
variable {ta tv:TE}
theorem zil(ha:PE X o ta)(hv:PE X value tv)(hs:swapsWith value (some (.Attribute o f pos')) pos.line X.env=pure false):PS X (.Assign [.Attribute o f pos'] value pos) (zlS X.K ta tv f):=by
 exists ?_;intro pins s σ H D I h;refine plainObj_wpAny_Assign_Attribute (thn (hv pins s σ H _ I h) fun u s1 ⟨y,H1,I1,ry,q⟩=>thn (ha pins s1 σ H1 _ I1 q) fun ov s2 ⟨x,H2,I2,rx,a,C,t,ex,ea,c,n,q2⟩=>?_) hs;subst ex;obtain rfl:ov=Value.ref a:=rx;exact zh1 I2 ea c n ry fun dx s3 hdx I3=>⟨σ,_,I3,q2 dx hdx⟩
def zfI(C:Addr)(sp:Sp)(E:XK)(t:TA):TE:=fun σ H Q=>t σ H fun vs H1=>vs.length<=sizeLine/\∀x tu,H1 x=none->H1 tu=none->tu≠x->sp (.ref x::vs) (upd H1 x (uy x C none tu)) (fun v H2=>v=.non/\Q (.ref x) H2) E
end
section
variable {CX:CXT}{k:Nat}{sp:Sp}{t:TA}
theorem Inv.madeX(I:Inv X pins σ H s):Inv X pins σ (upd H (s.heap.objs.size+1) (uy (s.heap.objs.size+1) C none s.heap.objs.size)) { s with heap:=(s.heap.push (wb us)).push (wN C s.heap.objs.size) }:=by
 refine I.laid (fun b u e=>zgp _ (zgp _ e)) (le_succ _) (zez ?_)
 have:=zgs (s.heap.push (wb us)) (o:=wN C s.heap.objs.size) rfl
 rwa [Heap.size_push] at this
theorem zeT{Q:VK}(M:zeH X.K C f)(F:zA X.prog X.w X.K X.mg X.base CX k f fd ps sp)(hr:yg (k+1) X.A)(hb:zM X.K fd ps [])
  (hx:xO CX X E) (I:Inv X pins σ H s) (r:zX vs us) (hl:vs.length<=sizeLine)
  (h:∀x tu,H x=none->H tu=none->tu≠x->sp (.ref x::vs) (upd H x (uy x C none tu)) (fun v H2=>v=.non/\Q (.ref x) H2) E) :
  ↑X (call (.ref C) us) (EP X pins σ Q) X.xe s:=by
 have hq:=h (s.heap.objs.size+1) s.heap.objs.size (I.hok.fresh (le_succ _)) (I.hok.fresh (aF _)) (ne_of_lt (lt_succ_self _));have I2:=Inv.madeX (C:=C) (us:=us) I;have r2:zX (V.ref (s.heap.objs.size+1)::vs) (Value.ref (s.heap.objs.size+1)::us):=.cons rfl r;have hl2:(Value.ref (s.heap.objs.size+1)::us++[]).length=ps.length:=by
  have e:=r2.length;rw[F.len _ _ _ _ hq] at e;rw[append_nil];exact e.symm
 have hb2:=hb _ (Value.ref (s.heap.objs.size+1)::us) I2.kIn hl2;rw[append_nil] at hb2;refine wpAny_call (zhC I.kIn M (by rw[<- r.length];exact hl) (codeAny_mono (F.run _ X.stack _ _ ⟨Value.ref (s.heap.objs.size+1)::us,[]⟩ (Value.ref (s.heap.objs.size+1)::us) _ _ E (hr.make C us [])
  (I2.env0.make C us []) hb2 r2 hq) fun r s' hq'=>?_))
 cases r with
 | error e=>exact hx pins σ _ _ e s' I2 hq'
 | ok fl=>
  cases fl with
  | ret u=>
   obtain⟨v,H',I3,rv,ev,q3⟩:=I2.after hq';subst ev;exact⟨rv,⟨V.ref (s.heap.objs.size+1),H',I3,rfl,q3⟩⟩
  | next=>exact False.elim hq'
  | brk=>exact False.elim hq'
  | cont=>exact False.elim hq'
theorem wZ(M:zeH X.K C f)(F:zA X.prog X.w X.K X.mg X.base CX k f fd ps sp)(hr:yg (k+1) X.A)(hg:Gl X x)(hm:X.mg x= ~~~C)(hb:zM X.K fd ps [])(hx:xO CX X E)
  (ha:PA X (e::es) t) (hdb:(x==("__debug__" : Str))=false:=by decide) (he:starEach (e::es) X.env=(false,eval e X.env)::starEach es X.env:=by rfl) (hpl:(backTo pos (starEach es X.env)).any (·.1)=false:=by rfl) :
  PE X (.Call (.Name x p) (e::es) [] pos) (zfI C sp E t):=by
 and_intros;refine wpAny_Call_Name_kw (wE I hg hm ?_ hdb);refine callWith_K (h₀:=X.base) I.ok.mod.kin M.kp (thn (ha pos pins s σ H _ I h) fun us s1 ⟨vs,H1,I1,r,hl,q⟩=>⟨I1.kIn,?_⟩) he hpl;exact zeT M F hr hb hx I1 r hl q
def drop(H:Hp)(a:Addr):Hp:=fun b=>if b=a then none else H b
theorem zfm:drop H a a=none:=by unfold drop;rw[aK rfl]
theorem wH(h:b≠a):drop H a b=H b:=by unfold drop;rw[aJ h]
theorem ud(h:drop H a b=some u):b≠a/\H b=some u:=by
 unfold drop at h;split at h
 ·cases h
 ·exact⟨‹_›,h⟩
theorem HOk.drop{φ : Heap->Prop}(x:HOk P w H h)(ha:H a=some (.ext φ)):HOk P w (drop H a) h:=fun b u e=>by
 obtain⟨hb,e⟩:=ud e;exact(x b u e).stay (fun _ _ _ q=>q) (fun c q=>by rw[wH (fun z=>by rw[z,ha] at q;cases q)];exact q) fun c xs q=>by rw[wH (fun z=>by rw[z,ha] at q;cases q)];exact q
end
section
variable {E:VSP}
end
section
variable {te:TE}
variable {mg:Str->Option Value}
variable {t:TA}
end
section
variable {E:VSP}{i:Nat}
variable {tb:XK->TS}{ts:TS}{ok:Value->Prop}
end
section
variable {t:TA}{k:Nat}{sp:Sp}
abbrev zdx(C:Addr)(od:Option Addr)(t:Addr)(tb:Value):Obj:={ cls:=.ref C,dict:=od,data:=.fields #[.ref t,tb,.none,.none,.bool false,.none] }
def TrS(h base:Heap)(e C:Addr)(od:Option Addr)(t:Addr):Prop:=∃(tb:Addr) (oT:Obj) (ts:Array Value),h.get? e=some (zdx C od t (.ref tb))/\base.get? tb=none/\tb≠e/\h.get? tb=some oT/\oT.data=.fields ts/\ts[3]?=some .none
end
section
variable {E:VSP}{s:Shared}{outer:List Env}{L e C t:Addr}{od:Option Addr}{Q:Unit->Shared->Prop}
theorem zhD(fr:A.frames=some (env::outer))(fl:s.heap.FunFrames base (env::outer))(hfl:env.frame=some L)(he:s.heap.get? e=some (zdx C od t tb0))(hst:base.StaysIn s.heap)(hb:base.get? e=none)
  (q:∀h':Heap,base.StaysIn h'->h'.FunFrames base (env::outer)->TrS h' base e C od t->s.heap.UpToSlots h'->Q () { s with heap:=h' }) :
  wpAny M A (do
   let a <- frameOf env
   let pl <- entryPlaceOf L hn
   let b <- EntryCells.newEntry head a Value.none (rawInt L) Value.none pl
   setField (Value.ref e) 1 b) (fun _ s'=>wpAny M A (setFlight (Value.ref e) none) Q E s') E s:=by
 refine zwb (wpAny_frameOf_fun fr fl hfl fun h1 so=>?_);obtain⟨sz,oth,sl⟩:=so;refine zwb (wpAny_entryPlaceOf fun pl hpl=>?_);unfold EntryCells.newEntry newFields;have eS:e∉List.filterMap (fun x:Env=>x.frame) (env::outer):=fun z=>by
  obtain⟨_,o,ho,hd⟩:=fl.mem z;rw[he] at ho;cases ho;exact hd _ rfl
 have e1:h1.get? e=some (zdx C od t tb0):=(oth e eS).trans he;have lp:(if pl.isEmpty=true then List.replicate 6 Value.none else pl).length=6:=by
  rcases hpl with rfl|⟨a,b,c,d,c9,b10,_,rfl⟩ <;> rfl
 have sz11:([head,Value.ref L,Value.none,rawInt L,Value.none]++if pl.isEmpty=true then List.replicate 6 Value.none else pl).length=11:=by
  rw[aG,lp];rfl
 have hL:A.frames=some (env::outer):=fr;generalize hcells:([head,Value.ref L,Value.none,rawInt L,Value.none]++if pl.isEmpty=true then List.replicate 6 Value.none else pl)=cells at sz11 |-
 have c3:cells[3]?=some (rawInt L):=by rw[<- hcells];rfl
 refine zwb (wpAny_newObj_type ?_ (by show sizeOk (Data.fields cells.toArray);unfold sizeOk;simp only[size_toArray,sz11];decide))
 dsimp only;have hlt:e<h1.objs.size:=aI e1;have ne:h1.objs.size≠e:=ne_of_gt hlt;refine wpAny_setField (zgp _ e1) rfl (by show 1<6;decide) ?_
 have x2:((h1.push { cls:=.type "traceback",data:=.fields cells.toArray }).update e (Obj.mapFields fun x=>x.setIfInBounds 1 (.ref h1.objs.size))).get? e=some (zdx C od t (.ref h1.objs.size)):=
  Heap.get?_update_self _ (zgp _ e1) rfl
 have x3:((h1.push { cls:=.type "traceback",data:=.fields cells.toArray }).update e (Obj.mapFields fun x=>x.setIfInBounds 1 (.ref h1.objs.size))).get? h1.objs.size=some { cls:=.type "traceback",data:=.fields cells.toArray }:=by
  rw[Heap.get?_update_ne _ _ _ _ ne];exact zgs h1 rfl
 have x4:∀b o,b≠e->h1.get? b=some o->((h1.push { cls:=.type "traceback",data:=.fields cells.toArray }).update e (Obj.mapFields fun x=>x.setIfInBounds 1 (.ref h1.objs.size))).get? b=some o:=fun b o hbe hbo=>by
  rw[Heap.get?_update_ne _ _ _ _ hbe];exact zgp _ hbo
 generalize (h1.push { cls:=.type "traceback",data:=.fields cells.toArray }).update e (Obj.mapFields fun x=>x.setIfInBounds 1 (.ref h1.objs.size))=h2 at x2 x3 x4 |-;unfold setFlight;refine zwb (wpAny_field (x:=.ref h1.objs.size) x2 rfl rfl ?_);rw[aK (show(Value.ref h1.objs.size != Value.none)=true from rfl)];refine wpAny_setField x3 rfl (by rw[size_toArray,sz11];decide) ?_
 show Q () { s with heap:=h2.update h1.objs.size (Obj.mapFields fun x=>x.setIfInBounds 3 Value.none) }
 have y1:∀b,b≠h1.objs.size->(h2.update h1.objs.size (Obj.mapFields fun x=>x.setIfInBounds 3 Value.none)).get? b=h2.get? b:=fun b hb'=>Heap.get?_update_ne _ _ _ _ hb';have y2:(h2.update h1.objs.size (Obj.mapFields fun x=>x.setIfInBounds 3 Value.none)).get? h1.objs.size=some { cls:=.type "traceback",data:=.fields (cells.toArray.setIfInBounds 3 .none) }:=Heap.get?_update_self _ x3 rfl;have kp:∀b o,s.heap.get? b=some o->(∀vs,o.data≠.fields vs)->∃sl,(h2.update h1.objs.size (Obj.mapFields fun x=>x.setIfInBounds 3 Value.none)).get? b=some { o with slots:=sl }:=fun b o hbo hd=>by
  obtain⟨sl',hs'⟩:=sl b o hbo;have n1:b≠h1.objs.size:=ne_of_lt (aI hs');have n2:b≠e:=fun z=>by rw[z,he] at hbo;cases hbo;exact hd _ rfl
  exact⟨sl',by rw[y1 b n1];exact x4 b _ n2 hs'⟩
 refine q _ (fun b o hbo=>?_) (fl.of_keeps fun b o hbo hd=>?_) ?_ kp
 ·have n0:b∉List.filterMap (fun x:Env=>x.frame) (env::outer):=fun z=>by
   rw[(fl.mem z).1] at hbo;cases hbo
  have hs':=(oth b n0).trans (hst b o hbo);have n1:b≠h1.objs.size:=ne_of_lt (aI hs');have n2:b≠e:=fun z=>by rw[z,hb] at hbo;cases hbo
  rw[y1 b n1];exact x4 b o n2 hs'
 ·obtain⟨sl',hs'⟩:=kp b o hbo hd
  exact⟨_,hs',rfl⟩
 ·exists h1.objs.size,_,_,(by rw[y1 e (Ne.symm ne)];exact x2),?_,ne,y2,rfl,?_
  ·cases z:base.get? h1.objs.size with
   | none=>rfl
   | some o=>
    have:=aI (hst _ o z)
    rw[<- sz] at this;exact absurd this (lt_irrefl _)
  ·rw[Array.getElem?_setIfInBounds_self_of_lt (by rw[size_toArray,sz11];decide)]
theorem zhb(fr:A.frames=some (env::outer))(fl:s.heap.FunFrames base (env::outer))(hfl:env.frame=some L)(hst:base.StaysIn s.heap)(hb:base.get? e=none)
  (he:s.heap.get? e=some (zdx C od t .none)\/TrS s.heap base e C od t)
  (q:∀h':Heap,base.StaysIn h'->h'.FunFrames base (env::outer)->TrS h' base e C od t->s.heap.UpToSlots h'->Q () { s with heap:=h' }) :
  wpAny M A (noteFrame (.ref e) env) (fun _ s'=>wpAny M A (setFlight (.ref e) none) Q E s') E s:=by
 unfold noteFrame;rw[hfl];dsimp only;rcases he with he|⟨tb,oT,ts,h1,h2,h3,h4,h5,h6⟩
 ·refine zwb (wpAny_field (x:=Value.none) he rfl rfl ?_)
  rw[aJ (show ¬(Value.none != Value.none)=true by decide)]
  exact zhD fr fl hfl he hst hb q
 ·refine zwb (wpAny_field (x:=.ref tb) h1 rfl rfl ?_)
  rw[aK (show(Value.ref tb != Value.none)=true from rfl)];refine zwb (wpAny_field (x:=Value.none) h4 h5 h6 ?_);rw[aJ (show ¬(Value.none==rawInt (L:Nat))=true from fun z=>by cases z)]
  have l3 : 3<ts.size:=by
   have:=(Array.getElem?_eq_some_iff.mp h6).1
   exact this
  refine zwb (wpAny_setField h4 h5 l3 ?_);have z1:∀b,b≠tb->(s.heap.update tb (Obj.mapFields fun x=>x.setIfInBounds 3 Value.none)).get? b=s.heap.get? b:=fun b hb'=>Heap.get?_update_ne _ _ _ _ hb';have up:s.heap.UpToSlots (s.heap.update tb (Obj.mapFields fun x=>x.setIfInBounds 3 Value.none)):=fun b o hbo hd=>by
   have n:b≠tb:=fun z=>by rw[z,h4] at hbo;cases hbo;exact hd _ h5
   exact⟨o.slots,by rw[z1 b n];exact hbo⟩
  refine zhD (s:={ s with heap:=s.heap.update tb (Obj.mapFields fun x=>x.setIfInBounds 3 Value.none) }) fr (fl.of_keeps fun b o hbo hd=>?_) hfl (tb0:=.ref tb) (by rw[z1 e (Ne.symm h3)];exact h1) (fun b o hbo=>?_) hb fun h' a1 a2 a3 a4=>q h' a1 a2 a3 (up.trans a4)
  ·obtain⟨sl,hs⟩:=up b o hbo hd
   exact⟨_,hs,rfl⟩
  ·have n:b≠tb:=fun z=>by rw[z,h2] at hbo;cases hbo
   show(s.heap.update tb (Obj.mapFields fun x=>x.setIfInBounds 3 Value.none)).get? b=some o;rw[z1 b n];exact hst b o hbo
def FlS(B:Heap)(l:List Env)(e C:Addr)(od:Option Addr)(t:Addr)(h:Heap):Prop:=B.StaysIn h/\B.get? e=none/\h.FunFrames B l/\TrS h B e C od t
structure qX(P:Program)(w:World)(outer:List Env)(H:Hp)(s:Shared)(C:Addr)(od:Option Addr)(t:Addr)(H':Hp)(ea:Addr)(s':Shared):Prop where
 os:s'.os=s.os
 bare:AllBare s'.gens
 un:Un (frs outer) [] H H' s.heap s'.heap
 hok:HOk P w H' s'.heap
 nt:H' ea=none
 fly:∃B,FlS B outer ea C od t s'.heap/\(∀b u,H' b=some u->∃o,B.get? b=some o)/\(∀b o,s.heap.get? b=some o->H b=none->b∉frs outer->B.get? b=some o)/\
  ∀b o,s.heap.get? b=some o->b∉frs outer->∃o',B.get? b=some o'
abbrev CXs(P:Program)(w:World):CXT:=fun outer H s E e s'=>∃ea C od t H',e=.ref ea/\qX P w outer H s C od t H' ea s'/\E (.ref C) od H'
variable {ea:Addr}
theorem zfl(I:Inv X pins σ H s)(hstk:X.stack=X.env::X.outer)(hfl:X.env.frame=some X.env.locals)(hex:X.ex=[])(hx:H ea=some (uy ea C od t))(hnew:X.H₀ ea=none):
  wpAny M X.A (leaving X.env (.ref ea)) (fun _ s''=>qX X.prog X.w X.outer X.H₀ X.s₀ C od t (drop H ea) ea s'') E s:=by
 have fr:=zaC hstk hfl;have he:=zbx I hx;have fl:s.heap.FunFrames (hideAll s.heap (ea::frs X.stack)) (X.env::X.outer):=by
  have:=I.stack
  rw[hstk] at this;refine PySem.W.funFrames_hide this fun env he b hb=>?_;rw[hstk];exact mem_cons_of_mem _ (List.mem_filterMap.mpr ⟨env,he,hb⟩)
 have fr0:=I.ok.frames;rw[hstk] at fr0;have neL:∀b o,X.s₀.heap.get? b=some o->b≠X.env.locals:=fun b o e=>ne_of_lt (lt_of_lt_of_le (aI e) I.ok.above);have noEx:∀b:Addr,b∉X.ex:=fun b=>by rw[hex];simp
 have inB:∀b o,s.heap.get? b=some o->b≠ea->b∉frs X.stack->(hideAll s.heap (ea::frs X.stack)).get? b=some o:=fun b o e n1 n=>PySem.W.hideAll_get _ e (fun z=>(List.mem_cons.mp z).elim n1 n);have trB:∀b u,H b=some u->b∉frs X.stack:=fun b u e n=>by rw[I.stkFree b n] at e;cases e
 have eaS:∀u,X.s₀.heap.get? ea=some u->False:=fun u e=>by
  have:=I.base.free ea u e hnew (noEx ea)
  rw[hx] at this;cases this
 unfold leaving;refine zwb (zhb fr0 fl hfl (fun b o q=>PySem.W.of_hideAll _ q) (hideAll_none _ mem_cons_self) (.inl he) fun h2 x1 x2 x3 x4=>?_);have stay:∀b o,s.heap.get? b=some o->b≠ea->b∉frs X.stack->h2.get? b=some o:=fun b o e n1 n=>x1 b o (inB b o e n1 n);have x2':h2.FunFrames (hideAll s.heap (ea::frs X.stack)) X.outer:=by
  unfold Heap.FunFrames at x2;exact x2.2.2
 have nEa:∀b o,X.s₀.heap.get? b=some o->b≠ea:=fun b o e z=>by subst z;exact eaS o e
 exists I.os,I.bare,⟨fun b o e n hb _=>?_,fun b o e n hb _=>?_,fun b o e n _=>?_,fun b o e _=>?_,fun b xs e=>?_,fun b u v e=>?_,fun b ps e=>?_⟩,?_,zfm,?_
 ·refine stay b o (I.base.keep b o e n hb (noEx b)) (nEa b o e) ?_
  rw[fr];exact fun z=>(List.mem_cons.mp z).elim (neL b o e) hb
 ·obtain⟨sl,e1⟩:=I.base.slot b o e n hb (noEx b)
  obtain⟨_,o',ho',hd⟩:=I.funs.mem hb;rw[e1] at ho';cases ho';obtain⟨sl2,e2⟩:=x4 b _ e1 hd;exact⟨sl2,e2⟩
 ·rw[wH (nEa b o e)]
  exact I.base.free b o e n (noEx b)
 ·obtain⟨o1,e1⟩:=I.base.there b o e (noEx b)
  by_cases hb:b∈frs X.stack
  ·obtain⟨_,o',ho',hd⟩:=I.stack.mem hb
   obtain⟨sl2,e2⟩:=x4 b o' ho' hd;exact⟨_,e2⟩
  ·exact⟨o1,stay b o1 e1 (nEa b o e) hb⟩
 ·have e1:=I.base.tups b xs e
  rw[wH (fun z=>by rw[z,hx] at e1;cases e1)];exact e1
 ·have e1:=I.base.frzs b u v e
  rw[wH (fun z=>by rw[z,hx] at e1;cases e1)];exact e1
 ·obtain⟨more,e1⟩:=I.base.tbls b ps e
  exact⟨more,by rw[wH (fun z=>by rw[z,hx] at e1;cases e1)];exact e1⟩
 ·exact(I.hok.drop hx).sameAt fun b u o e q=>stay b o q (ud e).1 (trB b u (ud e).2)
 ·exists _,⟨x1,hideAll_none _ mem_cons_self,x2',x3⟩,fun b u e=>?_,fun b o e n hb=>?_,fun b o e hb=>?_
  ·obtain⟨n1,e⟩:=ud e
   obtain⟨o,q⟩:=I.hok.rec e;exact⟨o,inB b o q n1 (trB b u e)⟩
  ·refine inB b o (I.base.keep b o e n hb (noEx b)) (nEa b o e) ?_
   rw[fr];exact fun z=>(List.mem_cons.mp z).elim (neL b o e) hb
  ·obtain⟨o1,e1⟩:=I.base.there b o e (noEx b)
   exists o1,inB b o1 e1 (nEa b o e) ?_;rw[fr];exact fun z=>(List.mem_cons.mp z).elim (neL b o e) hb
theorem zjd(I:Inv X pins σ H s)(hstk:X.stack=X.env::X.outer)(hfl:X.env.frame=some X.env.locals)(hex:X.ex=[])(F:qX X.prog X.w X.stack H s C od t H' ea s'):
  wpAny M X.A (leaving X.env (.ref ea)) (fun _ s''=>qX X.prog X.w X.outer X.H₀ X.s₀ C od t H' ea s'') E s':=by
 have fr:=zaC hstk hfl;have fr0:=I.ok.frames;rw[hstk] at fr0;obtain⟨B,fl,tr,old,olds⟩:=F.fly;have neL:∀b o,X.s₀.heap.get? b=some o->b≠X.env.locals:=fun b o e=>ne_of_lt (lt_of_lt_of_le (aI e) I.ok.above);have noEx:∀b:Addr,b∉X.ex:=fun b=>by rw[hex];simp
 have nst:∀b o,X.s₀.heap.get? b=some o->b∉frs X.outer->b∉frs X.stack:=fun b o e hb=>by
  rw[fr];exact fun z=>(List.mem_cons.mp z).elim (neL b o e) hb
 have fl':=fl;rw[hstk] at fl';unfold leaving;refine zwb (zhb fr0 fl'.2.2.1 hfl fl'.1 fl'.2.1 (.inr fl'.2.2.2) fun h2 y1 y2 y3 x2=>?_);have x1:FlS B X.outer ea C od t h2:=⟨y1,fl'.2.1,(by unfold Heap.FunFrames at y2;exact y2.2.2),y3⟩
 have oldB:∀b o,X.s₀.heap.get? b=some o->X.H₀ b=none->b∉frs X.outer->B.get? b=some o:=fun b o e n hb=>
  old b o (I.base.keep b o e n hb (noEx b)) (I.base.free b o e n (noEx b)) (nst b o e hb)
 exists F.os.trans I.os,F.bare,⟨fun b o e n hb _=>x1.1 b o (oldB b o e n hb),fun b o e n hb _=>?_,fun b o e n _=>?_,fun b o e _=>?_,fun b xs e=>F.un.tups b xs (I.base.tups b xs e),fun b o u e=>F.un.frzs b o u (I.base.frzs b o u e),fun b ps e=>?_⟩,F.hok.sameAt fun b u o e q=>?_,F.nt,⟨B,x1,tr,oldB,fun b o e hb=>?_⟩
 ·obtain⟨sl,e1⟩:=I.base.slot b o e n hb (noEx b)
  obtain⟨sl1,e2⟩:=F.un.any e1 (I.base.free b o e n (noEx b)) (by simp)
  have hd:∀vs,o.data≠.fields vs:=by
   obtain⟨_,o',ho',hd⟩:=I.funs.mem hb;rw[e1] at ho';cases ho';exact hd
  obtain⟨sl2,e3⟩:=x2 b _ e2 hd;exact⟨sl2,e3⟩
 ·obtain⟨o',e1⟩:=I.base.there b o e (noEx b)
  exact F.un.free b o' e1 (I.base.free b o e n (noEx b)) (by simp)
 ·obtain⟨o1,e1⟩:=I.base.there b o e (noEx b)
  obtain⟨o2,e2⟩:=F.un.there b o1 e1 (by simp)
  by_cases hb:b∈frs X.stack
  ·obtain⟨_,o',ho',hd⟩:=fl.2.2.1.mem hb
   obtain⟨sl2,e3⟩:=x2 b o' ho' hd;exact⟨_,e3⟩
  ·obtain⟨o3,e3⟩:=olds b o1 e1 hb
   exact⟨o3,x1.1 b o3 e3⟩
 ·obtain⟨m1,e1⟩:=I.base.tbls b ps e
  obtain⟨m2,e2⟩:=F.un.tbls b _ e1;exact⟨m1++m2,by rw[e2,Array.append_assoc]⟩
 ·obtain⟨o3,e3⟩:=tr b u e
  have e4:=fl.1 b o3 e3;rw[q] at e4;cases e4;exact x1.1 b o e3
 ·obtain⟨o1,e1⟩:=I.base.there b o e (noEx b)
  exact olds b o1 e1 (nst b o e hb)
abbrev zjg(ea C:Addr)(od:Option Addr)(t:Addr):HO:=.ext fun h=>∃tb,h.get? ea=some (zdx C od t tb)
theorem zjf(e:h.get? ea=some (zdx C od t tb)):yD P w H h ea (zjg ea C od t):=
 ⟨⟨tb,e⟩,⟨_,e⟩,fun g1 g2 ⟨tb',q⟩ k=>⟨tb',k _ q⟩⟩
theorem qX.move(F:qX P w l H s C od t H' ea s')(fl:FlS B l ea C od t s'.heap)(tr:∀b u,H' b=some u->∃o,B.get? b=some o)
  (old:∀b o,s.heap.get? b=some o->H b=none->b∉frs l->B.get? b=some o) (olds:∀b o,s.heap.get? b=some o->b∉frs l->∃o',B.get? b=some o')
  (fl5:FlS B l ea C od t h5) (up:s'.heap.UpToSlots h5):qX P w l H s C od t H' ea { s' with heap:=h5 }:=by
 exists F.os,F.bare,⟨fun b o e n hb _=>fl5.1 b o (old b o e n hb),fun b o e n hb _=>?_,F.un.free,fun b o e _=>?_,F.un.tups,F.un.frzs,F.un.tbls⟩,F.hok.sameAt fun b u o e q=>?_,F.nt,⟨B,fl5,tr,old,olds⟩
 ·obtain⟨sl,e1⟩:=F.un.slot b o e n hb (by simp)
  obtain⟨_,o',ho',hd⟩:=fl.2.2.1.mem hb;rw[e1] at ho';cases ho';obtain⟨sl2,e2⟩:=up b _ e1 hd;exact⟨sl2,e2⟩
 ·by_cases hb:b∈frs l
  ·obtain⟨_,o',ho',hd⟩:=fl5.2.2.1.mem hb
   exact⟨o',ho'⟩
  ·obtain⟨o3,e3⟩:=olds b o e hb
   exact⟨o3,fl5.1 b o3 e3⟩
 ·obtain⟨o3,e3⟩:=tr b u e
  have e4:=fl.1 b o3 e3;rw[q] at e4;cases e4;exact fl5.1 b o e3
theorem zmi{Q:Unit->Shared->Prop}(fl:FlS B l ea C od t s.heap)(q:∀h':Heap,FlS B l ea C od t h'->s.heap.UpToSlots h'->Q () { s with heap:=h' }):wpAny M A (setFlight (.ref ea) none) Q E s:=by
 obtain⟨f1,f2,f3,tb,oT,ts,h1,h2,h3,h4,h5,h6⟩:=fl;unfold setFlight;refine zwb (wpAny_field (x:=.ref tb) h1 rfl rfl ?_);rw[aK (show(Value.ref tb != Value.none)=true from rfl)];have l3 : 3<ts.size:=(Array.getElem?_eq_some_iff.mp h6).1;refine wpAny_setField h4 h5 l3 ?_;show Q () { s with heap:=s.heap.update tb (Obj.mapFields fun x=>x.setIfInBounds 3 Value.none) }
 have z1:∀b,b≠tb->(s.heap.update tb (Obj.mapFields fun x=>x.setIfInBounds 3 Value.none)).get? b=s.heap.get? b:=fun b hb'=>Heap.get?_update_ne _ _ _ _ hb';have up:s.heap.UpToSlots (s.heap.update tb (Obj.mapFields fun x=>x.setIfInBounds 3 Value.none)):=fun b o hbo hd=>by
  have n:b≠tb:=fun z=>by rw[z,h4] at hbo;cases hbo;exact hd _ h5
  exact⟨o.slots,by rw[z1 b n];exact hbo⟩
 obtain⟨oc,odd,da,osl⟩:=oT;have h5':da=.fields ts:=h5;subst h5';have z2:(s.heap.update tb (Obj.mapFields fun x=>x.setIfInBounds 3 Value.none)).get? tb=some ⟨oc,odd,.fields (ts.setIfInBounds 3 .none),osl⟩:=Heap.get?_update_self _ h4 rfl;refine q _ ⟨fun b o hbo=>?_,f2,f3.of_keeps fun b o hbo hd=>?_,tb,_,_,(by rw[z1 ea (Ne.symm h3)];exact h1),h2,h3,z2,rfl,?_⟩ up
 ·have n:b≠tb:=fun z=>by rw[z,h2] at hbo;cases hbo
  rw[z1 b n];exact f1 b o hbo
 ·obtain⟨sl,hs⟩:=up b o hbo hd
  exact⟨_,hs,rfl⟩
 ·rw[Array.getElem?_setIfInBounds_self_of_lt l3]
theorem qX.track(I:Inv X pins σ H s)(F:qX X.prog X.w X.stack H s C od t H' ea s')(fl:FlS B X.stack ea C od t s'.heap)(old:∀b o,s.heap.get? b=some o->H b=none->b∉frs X.stack->B.get? b=some o):
  Inv X pins σ (upd H' ea (zjg ea C od t)) s':=by
 have I1:Inv X pins σ H' s':=I.call' F.os F.un F.hok F.bare fun b z=>nomatch z;obtain⟨tb,oT,ts,he,_⟩:=fl.2.2.2;have nfr:ea∉frs X.stack:=fun z=>by
  obtain⟨_,o',ho',hd'⟩:=fl.2.2.1.mem z;rw[he] at ho';cases ho';exact hd' _ rfl
 have nold:∀b o,s.heap.get? b=some o->H b=none->b≠ea:=fun b o e n z=>by
  subst z
  have:=old b o e n nfr
  rw[fl.2.1] at this;cases this
 refine I1.track F.nt (zjf he) (fun u e n hx=>?_) (fun z=>?_) (fun x c e z=>?_) fun p hp=>?_
 ·by_cases hb:ea∈X.fs
  ·obtain⟨_,o',ho',hd'⟩:=I1.funs.mem hb
   rw[he] at ho';cases ho';exact hd' _ rfl
  ·exact nold ea u (I.base.keep ea u e n hb hx) (I.base.free ea u e n hx) rfl
 ·obtain⟨m,⟨oL,es,ep,hoL,hdL,_⟩,_⟩:=I1.loc
  rw[z,he] at hoL;cases hoL;cases hdL
 ·obtain⟨v,oc,hoc,hdc⟩:=I1.cell x c e
  rw[z,he] at hoc;cases hoc;cases hdc
 ·obtain⟨q1,q2,_⟩:=I.pin p hp
  exact nold p.1 p.2 q1 q2
def zeI(X:Cx)(E:XK):Prop:=∀(pins:PnL) (σ:St) H s ea C od t,Inv X pins σ H s->H ea=some (uy ea C od t)->X.H₀ ea=none->E (.ref C) od (drop H ea)->X.xe (.ref ea) s
inductive zdPJ(K:Frag)(H0:Hp)(E:XK)(x:V)(H1:Hp):Prop|mk(ea C:Addr)(od:Option Addr)(t:Addr):x=.ref ea->H1 ea=some (uy ea C od t)->vR K C->zhN K C=true->H0 ea=none->(E (.ref C) od (drop H1 ea))->zdPJ K H0 E x H1
def zdP(K:Frag)(H0:Hp)(E:XK)(te:TE):TS:=fun _ σ H=>te σ H fun x H1=>zdPJ K H0 E x H1
end
section
variable {X:Cx}{te:TE}
theorem wm(hX:zeI X E)(hc:X.calm=true)(he:PE X e te):PS X (.Raise (some e) none pos) (zdP X.K X.H₀ E te):=by
 exists ?_;intro pins s σ H D I h;rw[arm_exec_Raise];refine zwb (wpAny_standAt ?_);unfold raiseStmt;show wpAny _ _ (do
  let xv <- (do
   let v <- eval e X.env
   standAt pos
   pure v)
  _) _ _ _
 refine zwb (zwb (thn (he pins s σ H _ I h) fun u s1 ⟨x,H1,I1,rx,ea,C,od,t,ex,hx,c,m,hn,q⟩=>?_));subst ex;obtain rfl:u=Value.ref ea:=rx;refine zwb (wpAny_standAt (zwp ?_));have ho:=zbx I1 hx;have XO:=zdL I1.kIn m;obtain⟨nm,q',N,bs,bm,sn,sub,ab,col,dd,k0,k1,k2,k3,k5,hC,b1,b2,b3,b4⟩:=XO.ob;have hq:X.xe (.ref ea) s1:=hX pins σ H1 s1 ea C od t I1 hx hn q;have LT:Looks (model X.prog X.w) s1.heap (typeOf (.ref ea)) (.ref C):=(PySem.W.Looks.ld ho).andThen .now;have LTC:Looks (model X.prog X.w) s1.heap (typeOf (.ref C)) (.type "type"):=(PySem.W.Looks.ld hC).andThen .now;have LB:=PySem.W.looks_mroIn (M:=model X.prog X.w) I1.kIn c.be;have LIs:Looks (model X.prog X.w) s1.heap (isType (.ref ea)) false:=(PySem.W.Looks.ld ho).andThen .now;have hcalm:=I1.ok.hd hc;obtain⟨hh,g,d,tk,os⟩:=s1;dsimp only;refine zwb (zwp (zwb (wpAny_holding ?_)));unfold excFromValue isExcClass;refine zwb (zwb (LIs.at ?_));rw[aJ zft];refine zwp ?_;rw[aJ zft];unfold isInstance;refine zwb (zwb (LT.at (LB.at ?_)));rw[aK rfl];refine zwp ?_;dsimp only;refine zwb (LIs.at ?_);rw[aJ zft];unfold raisedInstance;refine zwb (zwb (LT.at (zwb (LTC.at ?_))));rw[aK ⋯]
 refine zwp (zwb ?_);unfold setFlight;refine zwb (wpAny_field (x:=Value.none) ho rfl rfl ?_);rw[aJ (show ¬(Value.none != Value.none)=true by decide)]
 refine zwp ?_;unfold raiseNew;refine zwb (wpAny_handled_none hcalm ?_);exact wpAny_throw hq
variable {P:Program}{w:World}{K:Frag}{mg:Str->Option Value}{base:Heap}{f:Addr}{A:Around}
theorem xT:zeI (zaa (CXs P w) P w K mg base N qual scope f cd A outer s H E) E:=fun pins σ H1 s1 ea C od t I hx hn q=>by
 refine wpAny_mono (zfl I rfl rfl rfl hx hn) (fun _ s2 F=>?_) fun _ _ z=>z;exact⟨ea,_,_,_,_,rfl,F,q⟩
theorem zjI(hE:∀c d H,E' c d H->E c d H):xO (CXs P w) (zaa (CXs P w) P w K mg base N qual scope f cd A outer s H E) E':=fun pins σ H1 s1 e s' I q=>by
 obtain⟨ea,C,od,t,H',rfl,F,q⟩:=q;refine wpAny_mono (zjd I rfl rfl rfl F) (fun _ s2 F2=>?_) fun _ _ z=>z;exact⟨ea,C,od,t,H',rfl,F2,hE _ _ _ q⟩
theorem Fun.okS{N:List Str}{qual:Str}{x:Str}{st:Stmt}{fd:FuncData}{ps:List Str}{k:Nat}{sp:Sp}(F:Fun K x qual st f fd)(S:zp N ps (zi st))(len:∀vs H Q E,sp vs H Q E->vs.length=ps.length)
  (hbody:∀(cdv:Value) (A:Around) (outer:List Env) (s:Shared) (H:Hp) (vs:List V) (Q:VK) (E:XK),yg k (A.deeper (envOfC qual (zi st) s.heap.objs.size f cdv))->sp vs H Q E->
   ∃t,PSs (zaa (CXs P w) P w K mg base N qual (zi st) f cdv A outer s H E) (z9 st) t/\t { nx:=fun _ H'=>Q .non H',rt:=Q } (ul N vs) H):zA P w K mg base (CXs P w) (k+1) f fd ps sp:=by
 obtain⟨oc,od,kV,doc,pm,an,cdv,ct,osl,rfl,lk,hcd⟩:=F.ex;exact zhB lk hcd S len fun A outer s H vs Q E hr hsp=>hbody cdv A outer s H vs Q E hr hsp
structure uT(P:Program)(w:World)(K:Frag)(mg:Str->Option Value)(base:Heap)(k:Nat)(x:Str)(f:Addr)(fd:FuncData)(ps:List Str)(sp:Sp):Prop where
 ok:zA P w K mg base (CXs P w) k f fd ps sp
 mg:mg x=some (.ref f)
 kp:keepIn K (.ref f)=true
 bd:zM K fd ps []
variable {k:Nat}{sp:Sp}{t:TA}
theorem cS(c:uT X.prog X.w X.K X.mg X.base k x f fd ps sp)(hp:xO (CXs X.prog X.w) X E)(hr:yg k X.A)(ha:PA X (e::es) t)(hg:Gl X x:=by rfl)(hdb:(x==("__debug__" : Str))=false:=by decide)
  (h1:vF e=false:=by rfl) (h2:es.any vF=false:=by rfl):PE X (.Call (.Name x p) (e::es) [] pos) (zdQ sp [] E t):=
 zeg c.ok hr hg c.mg c.kp c.bd .nil hp ha hdb (yV h1) (wq h2)
abbrev HK:=Addr->Option Addr->Addr->Addr->ve->St->Hp->Prop
structure PH(X:Cx)(hs:List ExceptHandler)(th:HK):Prop where
 run:∀(pins:PnL) (σ : St) (H1:Hp) (s1:Shared) (H':Hp) (ea C:Addr) (od:Option Addr) (t:Addr) (s5:Shared) (D:ve),Inv X pins σ H1 s1->qX X.prog X.w X.stack H1 s1 C od t H' ea s5->th C od t ea D σ H'->↑X (handleBy (.ref ea) X.env hs) (SP X pins D) X.xe s5
def hNo(K:Frag)(C':Addr)(ts:TS)(ya:HK):HK:=fun C od t ea D σ H'=>
 (exmOne K (.ref C) (.ref C')=some true/\ts D σ (upd H' ea (zjg ea C od t)))\/(exmOne K (.ref C) (.ref C')=some false/\ya C od t ea D σ H')
variable {i:Nat}{ts:TS}
theorem zkA:PH X [] (fun _ _ _ _ _ _ _=>False):=⟨fun _ _ _ _ _ _ _ _ _ _ _ _ _ h=>h.elim⟩
theorem zlX(hg:Gl X c)(hm:X.mg c= ~~~C')(hs':∀ea,PSs (X.suite ea) (b₀::suite) ts)(hr:PH X hs th)
  (hd:(c==("__debug__" : Str))=false:=by decide):PH X (.ExceptHandler (some (.Name c np)) none (b₀::suite) hpos::hs) (hNo X.K C' ts th):=by
 exists fun pins σ H1 s1 H' ea C od t s5 D I1 F5 h=>?_;obtain⟨B,fl,tr,old,olds⟩:=F5.fly;have I5:Inv X pins σ H' s5:=I1.call' F5.os F5.un F5.hok F5.bare fun b z=>nomatch z;have LT:Looks (model X.prog X.w) s5.heap (typeOf (.ref ea)) (.ref C):=by
  obtain⟨tb,oT,ts',he,_⟩:=fl.2.2.2;exact(PySem.W.Looks.ld he).andThen .now
 refine wpAny_handleBy_cons (codeAny_handlers_test (wE (I5.suite ea) hg hm ?_ hd)) (by intro z;cases z)
 rcases h with ⟨hx,h⟩|⟨hx,h⟩
 ·refine(PySem.W.exm_one (M:=model X.prog X.w) (h:=s5.heap) I5.kIn LT hx) _ _ _ _ (fun _ _ z=>z) ?_
  refine codeAny_handlers_suite (zmi fl fun h6 fl6 up6=>?_);have F6:=F5.move fl tr old olds fl6 up6;have I6:=F6.track I1 fl6 old;refine wpAny_mono ((hs' ea) pins _ _ _ D (I6.suite ea) h) (fun f s8 h8=>?_) fun _ _ z=>z.elim;show SP X pins D f s8;cases f with
  | next=>
   obtain⟨σ',H2,I8,q8⟩:=h8;exact⟨_,H2,wK I1.ok I8,q8⟩
  | brk=>
   obtain⟨σ',H2,I8,q8⟩:=h8;exact⟨_,H2,wK I1.ok I8,q8⟩
  | cont=>
   obtain⟨σ',H2,I8,q8⟩:=h8;exact⟨_,H2,wK I1.ok I8,q8⟩
  | ret u=>
   obtain⟨v,σ',H2,I8,rv,q8⟩:=h8;exact⟨v,_,H2,wK I1.ok I8,rv,q8⟩
 ·refine(PySem.W.exm_one (M:=model X.prog X.w) (h:=s5.heap) I5.kIn LT hx) _ _ _ _ (fun _ _ z=>z) ?_
  exact hr.run pins σ H1 s1 H' ea C od t s5 D I1 F5 h
def zbB(X:Cx)(pins:PnL)(σ : St)(E:XK):Prop:=∀H s e s',Inv X pins σ H s->CXs X.prog X.w X.stack H s E e s'->X.xe e s'
def zls(tb:XK->TS)(th:HK):TS:=fun D σ H=>tb (fun cls od H'=>∃C,cls=.ref C/\∀t ea,H' ea=none->th C od t ea D σ H') D σ H
variable {tb:XK->TS}
theorem zik{pos:Pos}{hs:List ExceptHandler}{th:HK}{st:Stmt}{h₀:ExceptHandler}(hstk:X.stack=X.env::X.outer)(hfl:X.env.frame=some X.env.locals)(hh:PH X (h₀::hs) th)
  (hb:∀(pins:PnL) (σ : St) (xe:VSP) (E:XK),zbB (X.wish xe) pins σ E->PS1 (X.wish xe) pins σ st (tb E)):PS X (.Try [st] (h₀::hs) [] [] pos) (zls tb th):=by
 exists ?_;intro pins s σ H D I h;have fr0:=I.ok.frames;rw[hstk] at fr0;refine wpAny_Try_except ?_;have key:zbB (X.wish (zlr X pins D (h₀::hs))) pins σ (fun cls od H'=>∃C,cls=.ref C/\∀t ea,H' ea=none->th C od t ea D σ H'):=by
  intro H1 s1 e s2 I1 q;obtain⟨ea,C,od,t,H',rfl,F,C0,e0,q⟩:=q;cases e0;have I1:=I1.unwish;have F:qX X.prog X.w X.stack H1 s1 C od t H' ea s2:=F;obtain⟨B,fl,tr,old,olds⟩:=F.fly;have fl':=fl;rw[hstk] at fl';refine zhb fr0 fl'.2.2.1 hfl fl'.1 fl'.2.1 (.inr fl'.2.2.2) fun h5 y1 y2 y3 y4=>?_;have fl5:FlS B X.stack ea C od t h5:=by rw[hstk];exact⟨y1,fl'.2.1,y2,y3⟩
  have F5:=F.move fl tr old olds fl5 y4;exact hh.run pins σ H1 s1 H' ea C od t _ D I1 F5 (q t ea F.nt)
 have run:=(hb pins σ _ _ key).run s H D (I.wish _) h;refine wpAny_execs_cons (thn run fun f s1 q=>?_)
 ·cases f with
  | next=>exact wpAny_execs_nil (wpAny_execs_nil (SP.unwish (f:=.next) q))
  | ret v=>exact SP.unwish (f:=.ret v) q
  | brk=>exact SP.unwish (f:=.brk) q
  | cont=>exact SP.unwish (f:=.cont) q
end
section
variable {E:VSP}
variable {ta:TE}
end
end L2
namespace L2
open PySem PySem.Spec PyProof.Rows PySem.Builtin
section
variable {E:VSP}{x left step:Int}{Q:Option Value->Shared->Prop}
end
end L2
namespace L2
open PySem PySem.Spec PyProof.Rows
structure zmy(ea:Addr)(P:Program)(w:World)(K:Frag)(tg:Expr)(J:It)(fp:List Addr)(it:Addr)(tn:Nat->Heap->Prop):Prop where
 mem:it∈fp
 obj:∀i h,tn i h->∀b∈fp,∃o,h.get? b=some o/\∀v,o.data≠.cell v
 keep:∀i h h',tn i h->(∀b∈fp,∀o,h.get? b=some o->h'.get? b=some o)->tn i h'
 item:∀(X:Cx),X.prog=P->X.w=w->X.K=K->X.A.handled=some (.ref ea)->∀(i:Nat) (pins:PnL) (s:Shared) (σ : St) (H:Hp) (E:VSP),Inv X pins σ H s->(∀b∈fp,vw X pins H b)->tn i s.heap->J.go i H->
  wpAny (model P w) X.A (pyNext (.ref it)) (fun r s1=>∃u,r=some u/\
   wpAny (model P w) X.A (letOwnedTupleGo tg (.ref it) u) (fun _ s2=>∃x H',Inv X pins σ H' s2/\z3 x u/\J.yld i H x H'/\tn (i+1) s2.heap/\∀b∈fp,H' b=none) E s1) E s
 done:∀(X:Cx),X.prog=P->X.w=w->X.K=K->X.A.handled=some (.ref ea)->∀(i:Nat) (pins:PnL) (s:Shared) (σ : St) (H:Hp) (E:VSP),Inv X pins σ H s->(∀b∈fp,vw X pins H b)->tn i s.heap->J.stop i H->
  wpAny (model P w) X.A (pyNext (.ref it)) (fun r s1=>r=none/\Inv X pins σ H s1) E s
 self:∀(A:Around) (i:Nat) (s:Shared) (Q:VSP) (E:VSP),tn i s.heap->Q (.ref it) s->wpAny (model P w) A (pyIter (.ref it)) Q E s
def znK(X:Cx)(ea:Addr)(pins:PnL)(σ : St)(tg:Expr)(R:It->Hp->Prop)(itv:Value)(s2:Shared):Prop:=
 ∃(it:Addr) (fp:List Addr) (tn:Nat->Heap->Prop) (J:It) (H':Hp),itv=.ref it/\Inv X pins σ H' s2/\zmy ea X.prog X.w X.K tg J fp it tn/\tn 0 s2.heap/\(∀b∈fp,vw X pins H' b)/\R J H'
section
variable {g:TG}{tt:TT}{te:TE}{E:VSP}
variable {i:Nat}{ts:TS}
end
end L2
namespace L2
open PySem PySem.Spec PyProof.Rows PySem.Builtin
section
variable {E:VSP}{i:Nat}{Q:Option Value->Shared->Prop}
variable {g:TG}{tt:TT}{te:TE}
theorem zhi{g:TG}{tt:TT}{te:TE}{Q:VK}(Pv:Nat->List V->Hp->Prop)(h0:Pv 0 [] (upd H1 D (.lst [])))
  (hl:∀i ys H,Pv i ys H->H d=some (.frz o (.dK kvs)))
  (hs:∀i k v p ys H,i<kvs.length->kvs[i]?=some (k,v)->Pv i ys H->H p=none->g (.ref p) (xh caps σ) (upd H p (.tup [kV k,v])) fun σ2 H2=>tt σ2 H2 fun ok H3=>(ok=true->te σ2 H3 (lcN kvs.length i D Pv ys))/\(ok=false->lcS kvs.length i Pv ys H3))
  (hd:∀ys H,Pv kvs.length ys H->Q (.ref D) H):LCr (Itd d o kvs) caps g tt te σ H1 Q D:=by
 exists fun i m ys H=>m=kvs.length - i/\i<=kvs.length/\Pv i ys H,⟨kvs.length,by simp,zero_le _,h0⟩,?_
 rintro i m ys H ⟨rfl,hi,p⟩;have q:=hl i ys H p;by_cases hlt:i<kvs.length
 ·refine .inr ⟨⟨q,hlt⟩,fun x H' y=>?_⟩
  obtain⟨pp,k,v,rfl,hp,y2,rfl⟩:=y;exact hs i k v pp ys H hlt y2 p hp
 ·have e:i=kvs.length:=by omega
  subst e;exact .inl ⟨⟨q,aF _⟩,hd ys H p⟩
def xf(a n:Nat):List Int:=(List.range n).map fun (i:Nat)=>((a+i:Nat):Int)
theorem zfw:xQ X (.type "range") (fun xs H Q=>∃a b:Nat,xs=[.int (a:Nat),.int (b:Nat)]/\∀p,H p=none->Q (.ref p) (upd H p (.rng (a:Nat) (b:Nat)))):=by
 intro pins s σ H xs us Q I r h;obtain⟨a,b,rfl,q⟩:=h;obtain⟨u,v,rfl,ru,rv⟩:=zdN r;obtain⟨t,rfl⟩:=ru;obtain⟨t',rfl⟩:=rv;refine call_range_2 ?_;exists .ref s.heap.objs.size,_,I.laid (o:=.rng (a:Nat) (b:Nat)) (fun b u e=>zgp _ e) (aF _) ?_,rfl,q _ (I.hok.fresh (aF _));exact⟨_,_,_,zgs _ rfl⟩
theorem zcp(hc:X.calm=true):xQ X (.type "list") (fun xs H Q=>∃(p:Addr) (a b:Nat),xs=[.ref p]/\H p=some (.rng (a:Nat) (b:Nat))/\a<=900/\b<=900/\∀l,H l=none->Q (.ref l) (upd H l (.lst ((xf a (b - a)).map V.int)))):=by
 intro pins s σ H xs us Q I r h;obtain⟨p,a,b,rfl,hp,ha,hb,q⟩:=h;obtain⟨u,rfl,ru⟩:=wQ r;cases ru;obtain⟨t,u',v',e⟩:=I.hok p _ hp;refine call_list_range (n:=b - a) (I.ok.hd hc) e ?_ ?_ ∅ fun h' tk acc c' hk he hacc=>?_
 ·exact small_one ∅ ∅ ∅ ∅
 ·rw[rangeSize_one]
  split <;> omega
 ·have hl:acc.toList.length=(xf a (b - a)).length:=by
   unfold xf;rw[aA,length_range];simpa using hacc.1
  have hv:zX ((xf a (b - a)).map V.int) acc.toList:=zX.of_at hl fun i v e=>by
   obtain⟨t,rfl⟩:=hacc.2 i v (by simpa using e)
   exists t,?_;have hi:i<b - a:=by
    have:=(List.getElem?_eq_some_iff.mp e).1
    rw[hl] at this;unfold xf at this;simpa using this
   have eg:(xf a (b - a)).getD i 0=((a+i:Nat):Int):=by
    unfold xf;rw[getD_eq_getElem?_getD,getElem?_map,List.getElem?_range hi];rfl
   rw[eg]
   congr 1
   omega
  exists .ref s.heap.objs.size,_,I.laid (t':=tk) (o:=.lst ((xf a (b - a)).map V.int)) hk (aF _) ⟨?_,acc.toList,c',hv,by simpa using he⟩,rfl,q _ (I.hok.fresh (aF _))
  unfold xf;rw[aA,aA,length_range];have : 1000<=sizeLine:=by decide
  omega
end
end L2
namespace L2
open PySem PySem.Spec PyProof.Rows
section
variable {i:Nat}{ts:TS}
variable {mg:Str->Option Value}
variable {k:Nat}{sp:Addr->Sp}{t:TA}
theorem zeP{K:Frag}{H3:Hp}{o:HO}{l b:Addr}{zs:List V}(hl:∃zs,H3 l=some (.lst zs))(hz:SqT K H3 b zs):SqT K (upd H3 l o) b zs:=by
 obtain⟨ws,hl⟩:=hl;rcases hz with (z|⟨u,z⟩)|z
 ·refine .inl (.inl ?_)
  rw[zf (fun e=>by subst e;rw[hl] at z;cases z)]
  exact z
 ·refine .inl (.inr ⟨u,?_⟩)
  rw[zf (fun e=>by subst e;rw[hl] at z;cases z)]
  exact z
 ·exact .inr z
theorem yW{K:Frag}{ok ok':Addr->Prop}{H:Hp}{o:HO}{l:Addr}{zs:List V}(hl:H l=some (.lst zs))(hk:∀b,ok b->ok' b/\b≠l){n:Nat}{x:V}{d:Dt}(h:zI K ok H n x d):zI K ok' (upd H l o) n x d:=
 h.frame (fun a xs z=>zeP ⟨_,hl⟩ z) fun a xs oa z=>⟨(hk a oa).1,by rw[zf (hk a oa).2];exact z⟩
theorem zhh{K:Frag}{lo:Int}{n m:Nat}{caps:List (Option Nat)}{g:TG}{tt:TT}{te:TE}{σ : St}{H1:Hp}{Q:VK}{D:Addr}(dt:Nat->Dt)(hD:H1 D=none)(hn:n<=1000)
  (hs:∀(i:Nat) (H:Hp) (Qf:VK) (Qs:Hp->Prop),i<n->zq H1 H->(∀v H',zq H H'->zI K (fun a=>H a=none) H' m v (dt i)->Qf v H')->
   g (.int (lo+i)) (xh caps σ) H fun σ2 H2=>tt σ2 H2 fun ok H3=>(ok=true->te σ2 H3 Qf)/\(ok=false->Qs H3))
  (hd:∀vs H,zq H1 H->H D=some (.lst vs)->Paired (zI K (fun a=>a≠D/\H1 a=none) H m) vs ((List.range n).map dt)->Q (.ref D) H):LCr (Itr lo n) caps g tt te σ H1 Q D:=by
 have sz : 1000<=sizeLine:=by decide
 refine uK (fun i ys H'=>zq H1 H'/\H' D=some (.lst ys)/\Paired (zI K (fun a=>a≠D/\H1 a=none) H' m) ys ((List.range i).map dt)) ⟨fun b u e=>by rw[zf (ze e hD)];exact e,za,.nil⟩ ?_ ?_
 ·rintro i ys H hi ⟨sH,hDy,hp⟩
  refine hs i H _ _ hi sH fun v H' s' hv=>?_;have ly:ys.length=i:=by rw[hp.length,aA,length_range]
  refine lcN.mk hi ∅ (s' _ _ hDy) ∅ ⟨fun b u e=>?_,za,?_⟩
  ·rw[zf (ze e hD)]
   exact s' _ _ (sH _ _ e)
  ·rw[range_succ,aE]
   refine Paired.snoc (zm (fun _ _ z=>yW (s' _ _ hDy) (fun b o=>⟨o,o.1⟩) (z.same s')) hp) (yW (s' _ _ hDy) (fun b o=>?_) hv);have nb:b≠D:=fun e=>by subst e;rw[o] at hDy;cases hDy
   exact⟨⟨nb,sH.free o⟩,nb⟩
 ·rintro ys H ⟨sH,hDy,hp⟩
  exact hd ys H sH hDy hp
theorem qF{K:Frag}{a:Addr}{xs:List V}{m:Nat}{caps:List (Option Nat)}{g:TG}{tt:TT}{te:TE}{σ : St}{H1:Hp}{Q:VK}{D:Addr}(dt:Nat->Dt)(hD:H1 D=none)(ha:SqL K H1 a xs)(hn:xs.length<=1000)
  (hs:∀(i:Nat) (x:V) (H:Hp) (Qf:VK) (Qs:Hp->Prop),xs[i]?=some x->zq H1 H->(∀v H',zq H H'->zI K (fun a=>H a=none) H' m v (dt i)->Qf v H')->
   g x (xh caps σ) H fun σ2 H2=>tt σ2 H2 fun ok H3=>(ok=true->te σ2 H3 Qf)/\(ok=false->Qs H3))
  (hd:∀vs H,zq H1 H->H D=some (.lst vs)->Paired (zI K (fun a=>a≠D/\H1 a=none) H m) vs ((List.range xs.length).map dt)->Q (.ref D) H):LCr (Itl K a) caps g tt te σ H1 Q D:=by
 have sz : 1000<=sizeLine:=by decide
 refine wF (K:=K) (xs:=xs) (fun i ys H'=>zq H1 H'/\H' D=some (.lst ys)/\Paired (zI K (fun a=>a≠D/\H1 a=none) H' m) ys ((List.range i).map dt)) ⟨fun b u e=>by rw[zf (ze e hD)];exact e,za,.nil⟩ (fun i ys H h=>h.1.seq ha) ?_ ?_
 ·rintro i x ys H hi hx ⟨sH,hDy,hp⟩
  refine hs i x H _ _ hx sH fun v H' s' hv=>?_;have ly:ys.length=i:=by rw[hp.length,aA,length_range]
  refine lcN.mk hi ∅ (s' _ _ hDy) ∅ ⟨fun b u e=>?_,za,?_⟩
  ·rw[zf (ze e hD)]
   exact s' _ _ (sH _ _ e)
  ·rw[range_succ,aE]
   refine Paired.snoc (zm (fun _ _ z=>yW (s' _ _ hDy) (fun b o=>⟨o,o.1⟩) (z.same s')) hp) (yW (s' _ _ hDy) (fun b o=>?_) hv);have nb:b≠D:=fun e=>by subst e;rw[o] at hDy;cases hDy
   exact⟨⟨nb,sH.free o⟩,nb⟩
 ·rintro ys H ⟨sH,hDy,hp⟩
  exact hd ys H sH hDy hp
end
end L2
namespace K44
open PySem L2 PyProof.Rows
inductive zj4(K:Frag)(nm:Str)(vs:List V)(H:Hp)(Q:VK)(E:XK):Prop|mk(x C t:Addr)(v:V):vs=[.ref x,v]->H x=some (uy x C none t)->zdG K C->yl K C nm->(∀dx,H dx=none->Q .non (upd (upd H x (uy x C (some dx) t)) dx (.xd [(nm,v)])))->zj4 K nm vs H Q E
section
variable {P:Program}{w:World}{K:Frag}{mg:Str->Option Value}{base:Heap}{f:Addr}
theorem zka:zp ["self","number"] ["self","number"] (zi zf6):=fsc
theorem vZ(F:Fun K "__init__" "Misfit.__init__" zf6 f fd):↥1 f fd ["self","number"] (zj4 K "number"):=by
 specialize zka;obtain⟨x,C,t,v,rfl,hx,m,n,q⟩:=h;exists _,zd (zil (pv 0) (pv 1) rfl),?_;exact⟨_,rfl,_,rfl,x,C,t,rfl,hx,m,n,q⟩
theorem zcI(s:zq H H2)(hx:H2 x=none)(hd:upd H2 x o d=none):zq H (drop (upd (upd (upd H2 x o) x o') d o'') x):=fun b u e=>by
 have nx:b≠x:=ze (s _ _ e) hx;have e2:upd H2 x o b=some u:=by rw[zf nx];exact s _ _ e
 rw[wH nx,zf (ze e2 hd),zf nx];exact e2
theorem zhE(hd:upd H2 x o d=none):drop (upd (upd (upd H2 x o) x o') d o'') x d=some o'':=by
 have:d≠x:=fun z=>by rw[z,za] at hd;cases hd
 rw[wH this,za]
structure jp(P:Program)(w:World)(K:Frag)(mg:Str->Option Value)(base:Heap)(x:Str)(C g:Addr)(gd:FuncData)(a nm:Str):Prop where
 call:zeH K C g
 set:zdG K C
 no:yl K C nm
 ex:vR K C
 gl:mg x=some (.ref C)
 ok:↥1 g gd ["self",a] (zj4 K nm)
 bd:zM K gd ["self",a] []
structure X6(P:Program)(w:World)(K:Frag)(mg:Str->Option Value)(base:Heap)(cl:Nat->Addr)(g:Addr)(gd:FuncData):Prop where
 x0:jp P w K mg base "Doubled" (cl 0) g gd "number" "number"
 x1:jp P w K mg base "Over" (cl 1) g gd "number" "number"
 x2:jp P w K mg base "Barred" (cl 2) g gd "number" "number"
 x3:jp P w K mg base "Again" (cl 3) g gd "number" "number"
 x4:jp P w K mg base "Strange" (cl 4) g gd "number" "number"
 x5:jp P w K mg base "Lacking" (cl 5) g gd "number" "number"
def uw(z:Str):Nat:=if z="doubled" then 0 else if z="over" then 1 else if z="barred" then 2 else if z="again" then 3 else if z="strange" then 4 else 5
theorem zi1(z:Str):uw z<6:=by
 unfold uw
 repeat' split
 all_goals decide
inductive j6(cl:Nat->Addr)(vs:List V)(H:Hp)(Q:VK)(E:XK):Prop|mk(z:Str)(n:Nat):vs=[.str z,.int (n:Nat)]->(∀(d:Addr) (H':Hp),zq H H'->H' d=some (.xd [("number",.int (n:Nat))])->E (.ref (cl (uw z))) (some d) H')->j6 cl vs H Q E
theorem zf1:zp ["word","number"] ["word","number"] (zi zbd):=fsc
theorem ze3{cl:Nat->Addr}(F:Fun K "refuse" "refuse" zbd f fd)(X':X6 P w K mg base cl g gd):zA P w K mg base (CXs P w) 3 f fd ["word","number"] (j6 cl):=by
 refine F.okS zf1 (fun vs H Q E h=>?_) (fun cdv A outer s H vs Q E hr h=>?_)
 ·obtain⟨z,n,rfl,_⟩:=h
  rfl
 obtain⟨z,n,rfl,q⟩:=h;refine⟨_,zk (zJ (zn ye (pv 0) zw (zv _)) (zd (wm xT rfl (wZ X'.x0.call X'.x0.ok hr rfl X'.x0.gl X'.x0.bd zY (ac (pv 1) zb)))) zx)
  (zk (zJ (zn ye (pv 0) zw (zv _)) (zd (wm xT rfl (wZ X'.x1.call X'.x1.ok hr rfl X'.x1.gl X'.x1.bd zY (ac (pv 1) zb)))) zx)
  (zk (zJ (zn ye (pv 0) zw (zv _)) (zd (wm xT rfl (wZ X'.x2.call X'.x2.ok hr rfl X'.x2.gl X'.x2.bd zY (ac (pv 1) zb)))) zx)
  (zk (zJ (zn ye (pv 0) zw (zv _)) (zd (wm xT rfl (wZ X'.x3.call X'.x3.ok hr rfl X'.x3.gl X'.x3.bd zY (ac (pv 1) zb)))) zx)
  (zk (zJ (zn ye (pv 0) zw (zv _)) (zd (wm xT rfl (wZ X'.x4.call X'.x4.ok hr rfl X'.x4.gl X'.x4.bd zY (ac (pv 1) zb)))) zx)
  (zd (wm xT rfl (wZ X'.x5.call X'.x5.ok hr rfl X'.x5.gl X'.x5.bd zY (ac (pv 1) zb)))))))),?_⟩
 have go:∀{x:Str}{C:Addr}(X':jp P w K mg base x C g gd "number" "number") (Dn:ve),(C=cl (uw z))->zdP K H E (zfI C (zj4 K "number") E0 (zfK (zcx 1) zhT)) Dn [some (.str z),some (.int (n:Nat))] H:=fun {x C} X' Dn hC=>by
  subst hC;exists _,rfl,by show 1<=sizeLine;decide,fun x tu hxn htn hne=>?_
  exists x,_,tu,_,rfl,za,X'.set,X'.no,fun d hd=>⟨rfl,x,_,some d,tu,rfl,?_,X'.ex,X'.call.ob,hxn,?_⟩
  ·have:x≠d:=fun z=>by rw[<- z,za] at hd;cases hd
   rw[zf this,za]
  ·exact q d _ (zcI (zq.refl _) hxn hd) (zhE hd)
 exists _,rfl,rfl,_,rfl,?_;by_cases h0:z="doubled"
 ·refine dT (congrArg V.str h0) ?_
  refine go X'.x0 _ (congrArg cl (Eq.symm ?_));unfold uw;exact aK h0
 refine dF (fun e=>h0 (V.str.inj e)) ?_;exists _,rfl,rfl,_,rfl,?_;by_cases h1:z="over"
 ·refine dT (congrArg V.str h1) ?_
  refine go X'.x1 _ (congrArg cl (Eq.symm ?_));unfold uw;rw[aJ h0];exact aK h1
 refine dF (fun e=>h1 (V.str.inj e)) ?_;exists _,rfl,rfl,_,rfl,?_;by_cases h2:z="barred"
 ·refine dT (congrArg V.str h2) ?_
  refine go X'.x2 _ (congrArg cl (Eq.symm ?_));unfold uw;rw[aJ h0];rw[aJ h1];exact aK h2
 refine dF (fun e=>h2 (V.str.inj e)) ?_;exists _,rfl,rfl,_,rfl,?_;by_cases h3:z="again"
 ·refine dT (congrArg V.str h3) ?_
  refine go X'.x3 _ (congrArg cl (Eq.symm ?_));unfold uw;rw[aJ h0];rw[aJ h1];rw[aJ h2];exact aK h3
 refine dF (fun e=>h3 (V.str.inj e)) ?_;exists _,rfl,rfl,_,rfl,?_;by_cases h4:z="strange"
 ·refine dT (congrArg V.str h4) ?_
  refine go X'.x4 _ (congrArg cl (Eq.symm ?_));unfold uw;rw[aJ h0];rw[aJ h1];rw[aJ h2];rw[aJ h3];exact aK h4
 refine dF (fun e=>h4 (V.str.inj e)) ?_;have h5:cl 5=cl (uw z):=congrArg cl (by unfold uw;rw[aJ h0,aJ h1,aJ h2,aJ h3,aJ h4])
 exact go X'.x5 { nx:=fun _ H'=>Q .non H',rt:=Q } h5
def vo(rows:List Rw)(p:Str×Nat):Bool:=(zO (yx 0 [] rows) (.inr p.1)).isNone
def uo(rows:List Rw)(fp:List (Str×Nat)):List Nat:=(fp.filter (vo rows)).map (·.2)
theorem zdf{rows:List Rw}{fp:List (Str×Nat)}{i:Nat}{p:Str×Nat}(h:fp[i]?=some p):uo rows (fp.take (i+1))=uo rows (fp.take i)++(if vo rows p=true then [p.2] else []):=by
 unfold uo;rw[take_add_one,h,filter_append,aE]
 congr 1
 show List.map _ (List.filter _ [p])=_;rw[filter_cons,List.filter_nil];split <;> rfl
theorem zat(rows:List Rw)(fp:List (Str×Nat)):(uo rows fp).length<=fp.length:=by
 unfold uo;rw[aA];exact length_filter_le _ _
def vD:V->Dt
 | .int n=>.int n
 | .str z=>.str z
 | .bl b=>.bl b
 | _=>.non
def zce(rows:List Rw)(many:Nat)(fp:List (Str×Nat))(i:Nat):Dt:=
 if zH 2 0 rows=some i then .tup [.str "places",.lst ((xf (plN rows) (many - plN rows)).map Dt.int)]
 else if zH 4 0 rows=some i then .tup [.str "names",.lst (((uo rows fp).map fun (j:Nat)=>(j:Int)).map Dt.int)]
 else match rows[i]? with
  | some r=>.tup ((uf r i many (kvP fp)).map vD)
  | none=>.non
theorem zgJ{ok:Addr->Prop}{i many:Nat}{n:Nat}:Paired (zI K ok H n) (uf r i many (kvP fp)) ((uf r i many (kvP fp)).map vD):=by
 unfold uf;split
 ·exact .cons .str (.cons .int .nil)
 ·split
  next h=>
   obtain⟨v,hv⟩:=Option.isSome_iff_exists.mp h.2;obtain⟨_,j,_,rfl,_⟩:=jS hv;rw[hv];exact .cons .str (.cons .int .nil)
  ·exact .cons .str .nil
inductive zd3(K:Frag)(c:C5)(CF:Addr)(vs:List V)(H:Hp)(Q:VK)(E:XK):Prop|mk(f d:Addr)(o:Obj)(i many:Nat)(rows:List Rw)(bars:List Str)(fp:List (Str×Nat))(r:Rw):vs=[.ref f,.int (i:Nat),.int (many:Nat),.ref d]->many<=900->fp.length<=900->rows.length<=500->rows[i]?=some r->r.ok->yN c CF H f rows bars->H d=some (.frz o (.dK (kvP fp)))->(∀(u:Addr) (H':Hp),zq H H'->zI K (fun a=>H a=none) H' 2 (.ref u) (zce rows many fp i)->Q (.ref u) H')->zd3 K c CF vs H Q E
variable {CF:Addr}{c:C5}{m:MA}
theorem zme:([Str.ofString "name",Str.ofString "at",Str.ofString "form"]:List Str).Nodup:=by decide +kernel
theorem zid:zp ["form","number","many","firsts"] ["form","number","many","firsts"] (zi zc5):=fsc
theorem zg7(F:Fun K "entry" "entry" zc5 f fd)(hran:mg "range"=none)(hlst:mg "list"=none)(FK:FC K CF)(mT:y6 K CF "tail" gT)(GT:↥1 gT eT ["self"] (vg c CF 2))(bT:zM K eT ["self"] [])(mP:y6 K CF "places" gP)(GP:↥1 gP eP ["self"] (vG c CF))(bP:zM K eP ["self"] [])
  (mB:y6 K CF "bag" gB) (GB:↥1 gB eB ["self"] (vg c CF 4)) (bB:zM K eB ["self"] []) (mN:y6 K CF "number_of" gN) (GN:↥1 gN eN ["self","name"] (zdY c CF)) (bN:zM K eN ["self","name"] []) (mS:y6 K CF "parameters" gS) (GS:↥1 gS eS ["self"] (uY c CF)) (bS:zM K eS ["self"] [])
  (cE1:⇑2 "one_entry" g1 e1 ["parameter","number","many","firsts"] (zcz c)):↥3 f fd ["form","number","many","firsts"] (zd3 K c CF):=by
 specialize zid;obtain⟨f,d,o,i,many,rows,bars,fp,r,rfl,lm,lf,l5,hri,rok,hF,hd,q⟩:=h;have hr1:yg 1 _:=hr.mono ⋯
 refine⟨_,zk (zJ (zn ye (pv 1) (yk (pv 0) FK.cl mT GT hr1 bT .nil zY) (zv _)) (zd (zt (zQ (ac zw (ac (cTy (zcp rfl) hlst PyProof.Rows.boot_list (ac (cTy zfw hran boot_range (ac (yk (pv 0) FK.cl mP GP hr1 bP .nil zY) (ac (pv 2) zb))) zb)) zb))))) zx)
  (zk (zJ (zn ye (pv 1) (yk (pv 0) FK.cl mB GB hr1 bB .nil zY) (zv _)) (zd (zt (zQ (ac zw (ac (xF ["form"] ["name","at","form"] [none,none,some 0] rfl ⟨rfl,rfl,rfl,rfl⟩ (zbV (pv 3)) (wn (K:=K) (n:=2) 0 1) rfl rfl rfl
    (fun pins fp s H C=>⟨yi rfl (zo (zl (i:=0) zme rfl (Or.inl rfl) (.inr rfl)) (zo (zl (i:=1) zme rfl (Or.inl rfl) (.inr rfl)) zT)),xM (xL (qp (jP (pv 2) FK.cl mN GN hr1 bN .nil zY (ac (pv 0) zb)))),pv 1⟩)) zb))))) zx)
  (zd (zt (cF cE1 hr (ac (zu zy (yk (pv 0) FK.cl mS GS hr1 bS .nil zY) (pv 1) (fun _ _=>rfl)) (ac (pv 1) (ac (pv 2) (ac (pv 3) zb)))))))),?_⟩
 obtain⟨dx,fs,lr,lb,ld,ps0,h1,h2,h3,h4,h5,h6⟩:=id hF;have nmT:fs.lookup ("tail" : Str)=none:=h2.no _ (by decide +kernel)
 have nmP:fs.lookup ("places" : Str)=none:=h2.no _ (by decide +kernel)
 have nmB:fs.lookup ("bag" : Str)=none:=h2.no _ (by decide +kernel)
 have nmN:fs.lookup ("number_of" : Str)=none:=h2.no _ (by decide +kernel)
 have nmS:fs.lookup ("parameters" : Str)=none:=h2.no _ (by decide +kernel)
 have lp:plN rows<=500:=le_trans (length_filter_le _ _) l5
 try dsimp only
 refine xC (fun σ' H'=>σ'=[~~~f,some (.int (i:Nat)),some (.int (many:Nat)),~~~d]/\H'=H/\zH 2 0 rows≠some i) ?_ (fun key=>?_);rotate_left
 ·exists _,rfl,_,rfl,f,dx,fs,rfl,h1,nmT,f,rows,bars,rfl,hF,?_
  cases hT:zH 2 0 rows with
  | none=>
   exists rfl,_,rfl,?_;refine dF (by intro z;cases z) ?_
   exact key _ _ ⟨rfl,rfl,by rw[hT];intro z;cases z⟩
  | some j=>
   exists rfl,_,rfl,?_;by_cases hij:i=j
   ·subst hij
    refine dT rfl ?_;exists _,rfl,f,dx,fs,rfl,h1,nmP,f,rows,bars,rfl,hF,_,rfl,plN rows,many,rfl,fun p hp=>?_;have s1:=zg hp (.rng (plN rows:Nat) (many:Nat));exists p,plN rows,many,rfl,za,∅,lm,fun l hl=>?_
    have s2:=zg hl (.lst ((xf (plN rows) (many - plN rows)).map V.int));exists by show 2<=sizeLine;decide,fun u hu=>?_
    have s3:=zg hu (.tup [.str "places",.ref l]);refine q u _ (s1.trans (s2.trans s3)) ?_;unfold zce;rw[aK hT];exact .tup (zz za) (.cons .str (.cons (.lst (s1.free hl) (s3 _ _ za) (xX _)) .nil))
   ·refine dF (fun z=>hij (by have:=V.int.inj z;omega)) ?_
    exact key _ _ ⟨rfl,rfl,by rw[hT];intro z;exact hij (Option.some.inj z).symm⟩
 rintro σ1 H1 ⟨rfl,rfl,nT⟩
 try dsimp only
 refine xC (fun σ' H'=>σ'=[~~~f,some (.int (i:Nat)),some (.int (many:Nat)),~~~d]/\H'=H1/\zH 4 0 rows≠some i) ?_ (fun key=>?_);rotate_left
 ·exists _,rfl,_,rfl,f,dx,fs,rfl,h1,nmB,f,rows,bars,rfl,hF,?_
  cases hB:zH 4 0 rows with
  | none=>
   exists rfl,_,rfl,?_;refine dF (by intro z;cases z) ?_
   exact key _ _ ⟨rfl,rfl,by rw[hB];intro z;cases z⟩
  | some j=>
   exists rfl,_,rfl,?_;by_cases hij:i=j
   ·subst hij
    refine dT rfl ?_;exists _,rfl,d,o,kvP fp,rfl,hd,fun D hD=>?_;have lk:(kvP fp).length=fp.length:=by unfold kvP;rw[aA]
    refine zhi (fun i ys H'=>zq H1 H'/\H' D=some (.lst ys)/\ys=((uo rows (fp.take i)).map fun (j:Nat)=>(j:Int)).map V.int) ⟨zg hD _,za,rfl⟩ (fun i ys H' h=>h.1 _ _ hd) ?_ ?_
    ·rintro k kk v p ys H' hlt hk ⟨sH,hDy,ey⟩ hpn
     obtain⟨z,n,hz,rfl,rfl⟩:∃(z:Str) (n:Nat),fp[k]?=some (z,n)/\kk=.inr z/\v=.int (n:Nat):=by
      unfold kvP at hk;rw[getElem?_map] at hk;cases e:fp[k]? with
      | none=>rw[e] at hk;cases hk
      | some q=>rw[e] at hk;cases hk;exact⟨q.1,q.2,rfl,rfl,rfl⟩
     have tk:=zdf (rows:=rows) hz;have sp:=zg hpn (.tup [kV (.inr z),.int (n:Nat)]);have sA:=sH.trans sp;have hDy2:=sp _ _ hDy;exists p,_,rfl,zz za,rfl,_,_,rfl,_,_,rfl,rfl,?_;generalize upd H' p (.tup [kV (.inr z),.int (n:Nat)])=H2 at sp sA hDy2 |-;exists _,rfl,f,dx,fs,rfl,sA _ _ h1,nmN,_,rfl,f,z,rows,bars,rfl,hF.same sA,_,rfl,?_;have ly:ys.length<=k:=by
      rw[ey,aA,aA];refine le_trans (zat _ _) ?_;rw[length_take];omega
     cases ev:zO (yx 0 [] rows) (.inr z) with
     | none=>
      rw[show vo rows (z,n)=true from by unfold vo;rw[ev];rfl,aK rfl] at tk
      exists fun _=>?_,fun e=>?_
      ·exists _,rfl,lcN.mk hlt (xo ∅) hDy2 ly ⟨fun b' u' e'=>?_,za,?_⟩
       ·rw[zf (ze e' hD)]
        exact sA _ _ e'
       ·rw[ey,tk,aE,aE]
        rfl
      ·exact Bool.noConfusion e
     | some v'=>
      obtain⟨j,rfl⟩:=zdA rows 0 [] (.inr z) v' (fun k v e=>by cases e) ev
      rw[show vo rows (z,n)=false from by unfold vo;rw[ev];rfl,aJ zft,append_nil] at tk
      exists fun e=>?_,fun _=>?_
      ·exact absurd (of_decide_eq_true e) (by intro z;cases z)
      ·exact lcS.mk hlt ⟨sA,hDy2,by rw[ey,tk]⟩
    ·rintro ys H' ⟨sH,hDy,ey⟩
     rw[lk,take_length] at ey;subst ey;exists by show 2<=sizeLine;decide,fun u hu=>?_
     have s3:=zg hu (.tup [.str "names",.ref D]);refine q u _ (sH.trans s3) ?_;unfold zce;rw[aJ nT,aK hB];exact .tup (zz za) (.cons .str (.cons (.lst hD (s3 _ _ hDy) (xX _)) .nil))
   ·refine dF (fun z=>hij (by have:=V.int.inj z;omega)) ?_
    exact key _ _ ⟨rfl,rfl,by rw[hB];intro z;exact hij (Option.some.inj z).symm⟩
 rintro σ2 H2 ⟨rfl,rfl,nB⟩;exists _,rfl,f,dx,fs,rfl,h1,nmS,f,rows,bars,rfl,hF,fun lS ps H3 s3 nS eS hps=>?_;have hi:i<rows.length:=(List.getElem?_eq_some_iff.mp hri).1;obtain⟨pa,hpa⟩:∃pa,ps[i]?=some pa:=⟨_,aB (by rw[hps.length];exact hi)⟩
 obtain⟨r',hr',hdx⟩:=zU hps hpa;rw[hri] at hr';cases hr';exists _,rfl,lS,_,_,.ref pa,rfl,rfl,zc eS,yF (by rw[getElem?_map,hpa];rfl),_,rfl,_,rfl,_,rfl,pa,d,i,many,r,kvP fp,rfl,hdx,rok,.inr ⟨o,s3 _ _ hd⟩,fun u H4 s4 hu=>?_
 refine q u H4 (s3.trans s4) ?_;unfold zce;rw[aJ nT,aJ nB,hri];exact .tup (zz hu) zgJ
def ziu(rows:List Rw)(many:Nat)(zs:List Str):List Dt:=(List.range rows.length).map (zce rows many (fpZ zs))
inductive zaT(K:Frag)(c:C5)(CF:Addr)(cl:Nat->Addr)(vs:List V)(H:Hp)(Q:VK)(E:XK):Prop|mk(f a:Addr)(rows:List Rw)(bars:List Str)(ct:List vd):vs=[.ref f,.ref a]->wO c CF H f rows bars->zbC K H a ct->(uJ rows bars ct=[]->∀(l:Addr) (xs:List V) (H':Hp),zq H H'->H l=none->H' l=some (.lst xs)->Paired (zI K (fun a=>a≠l/\H a=none) H' 2) xs (ziu rows (yu ct).length (zS ct))->Q (.ref l) H')->((∀m ms,uJ rows bars ct=m::ms->∀(d:Addr) (H':Hp),zq H H'->H' d=some (.xd [("number",.int (m.2:Nat))])->E (.ref (cl (uw m.1))) (some d) H'))->zaT K c CF cl vs H Q E
theorem znd:([Str.ofString "at",Str.ofString "firsts",Str.ofString "form",Str.ofString "many"]:List Str).Nodup:=by decide +kernel
theorem vh:zp ["form","call","many","names","found","word","number","firsts"] ["form","call"] (zi zcT):=fsc
theorem zgV{cl:Nat->Addr}(F:Fun K "paper" "paper" zcT f fd)(hran:mg "range"=none)(hlen:mg "len"=none)(FK:FC K CF)(c1:⇑2 "shape" g1 d1 ["call"] (zdW K))(c2:⇑4 "misfits_of" g2 d2 ["form","many","names"] (zjC c CF))(c3:uT P w K mg base 3 "refuse" g3 d3 ["word","number"] (j6 cl))
  (c4:⇑1 "first_numbers" g4 d4 ["names"] j7) (c5:⇑3 "entry" g5 d5 ["form","number","many","firsts"] (zd3 K c CF)) (mS:y6 K CF "parameters" gS) (GS:↥1 gS eS ["self"] (uY c CF)) (bS:zM K eS ["self"] []):zA P w K mg base (CXs P w) 5 f fd ["form","call"] (zaT K c CF cl):=by
 refine F.okS vh (fun vs H Q E h=>?_) (fun cdv A outer s H vs Q E hr h=>?_)
 ·obtain⟨f,a,rows,bars,ct,rfl,_⟩:=h
  rfl
 obtain⟨f,a,rows,bars,ct,rfl,hF,⟨⟨xs,hx,hc⟩,lt,lp⟩,q1,q2⟩:=h;have hr1:yg 1 _:=hr.mono ⋯
 have hr2:yg 2 _:=hr.mono ⋯
 have hr3:yg 3 _:=hr.mono ⋯
 refine⟨_,zk (y8 (cF c1 hr2 (ac (pv 1) zb)) (yi rfl (zo (zl (i:=2) vh.nd rfl (Or.inr rfl)) (zo (zl (i:=3) vh.nd rfl (Or.inl rfl)) zT))))
  (zk (zB (i:=4) vh.nd rfl (Or.inl rfl) (cF c2 hr (ac (pv 0) (ac (pv 2) (ac (pv 3) zb)))))
  (zk (zJ (zgv (pv 4) (fun _=>rfl)) (zk (y8 (zu zy (pv 4) zh (fun _ _=>rfl)) (yi rfl (zo (zl (i:=5) vh.nd rfl (Or.inl rfl)) (zo (zl (i:=6) vh.nd rfl (Or.inl rfl)) zT))))
   (zd (zG (cS c3 (zjI fun _ _ _ z=>z) hr3 (ac (pv 5) (ac (pv 6) zb)))))) zx)
  (zk (zB (i:=7) vh.nd rfl (Or.inr rfl) (cF c4 hr1 (ac (pv 3) zb)))
  (zd (zt (xF ["many","form","firsts"] ["at","firsts","form","many"] [none,some 7,some 0,some 2] rfl ⟨rfl,rfl,rfl,rfl⟩ (yO rfl hran (ac (cB zF hlen PySem.boot_len (ac (yk (pv 0) FK.cl mS GS hr1 bS .nil zY) zb)) zb)) (yc 0) rfl rfl rfl
   (fun pins fp s H C=>⟨zl (i:=0) znd rfl (Or.inl rfl) (.inr rfl),yS,cF c5 hr3 (ac (pv 2) (ac (pv 0) (ac (pv 3) (ac (pv 1) zb))))⟩))))))),?_⟩
 exists _,rfl,a,ct,xs,rfl,hx,hc,lt,lp,fun p l H1 s1 nl ep el=>?_;exists p,_,rfl,zz ep,rfl,_,_,rfl,_,_,rfl,rfl,?_;have hF1:=hF.same s1;have ln:(zS ct).length<=900:=by unfold zS;rw[aA];exact lp
 exists _,rfl,_,rfl,_,rfl,f,l,(yu ct).length,rows,bars,zS ct,rfl,hF.lr,hF.lb,lt,ln,hF.ok,hF1.at_,el,fun l2 H2 s2 ⟨us,n2,e2,m2⟩=>?_;have s12:=s1.trans s2;have hF2:=hF.same s12;exists _,rfl,_,.inl ⟨_,zc e2,rfl⟩,?_;cases em:uJ rows bars ct with
 | cons mm ms=>
  have em':xR rows bars (yu ct).length (zS ct)=mm::ms:=em;rw[em'] at m2;cases m2 with
  | cons hm hms=>
   refine xu ?_;rename_i u us';exists _,rfl,l2,_,0,.ref u,rfl,rfl,zc e2,yF (j:=0) rfl,?_;exists u,_,rfl,zz hm,rfl,_,_,rfl,_,_,rfl,rfl,?_;exact⟨_,rfl,_,rfl,mm.1,mm.2,rfl,fun d H3 s3 hd=>q2 mm ms em d H3 (s12.trans s3) hd⟩
 | nil=>
  have em':xR rows bars (yu ct).length (zS ct)=[]:=em;rw[em'] at m2;cases m2;refine yB ?_;exists _,rfl,l,zS ct,rfl,s2 _ _ el,ln,fun d o H3 s3 nd hd=>?_;rw[zjL] at hd;have s13:=s12.trans s3;have hF3:=hF.same s13;obtain⟨dx,fs,lr,lb,ld,ps0,h1,h2,h3,h4,h5,h6⟩:=id hF3.at_;have nmS:fs.lookup ("parameters" : Str)=none:=h2.no _ (by decide +kernel)
  exists _,rfl,f,dx,fs,rfl,h1,nmS,f,rows,bars,rfl,hF3.at_,fun lS ps H4 s4 nS eS hps=>?_;have lps:(ps.map V.ref).length=rows.length:=by rw[aA];exact hps.length
  have s14:=s13.trans s4;have hF4:=hF.same s14;have hlr:=hF.lr;exists lS,_,rfl,.inl (zc eS),((ps.map V.ref).length:Nat),rfl,∅,∅,fun D hD=>?_
  have lfp:(fpZ (zS ct)).length<=900:=by
   have:=jV (zS ct) 0 []
   show(fpF 0 [] (zS ct)).length<=900;simp at this;omega
  refine zhh (K:=K) (m:=2) (zce rows (yu ct).length (fpZ (zS ct))) hD ∅ (fun i H5 Qf Qs hi s5 qf=>?_) (fun vs H5 s5 hDv hp=>?_)
  ·have hi':i<rows.length:=by omega
   have hri:rows[i]?=some rows[i]:=aB hi';exists fun _=>?_,fun e=>Bool.noConfusion e;exists _,rfl,_,rfl,_,rfl,_,rfl,f,d,o,i,(yu ct).length,rows,bars,fpZ (zS ct),rows[i],(by rw[Int.zero_add];rfl),lt,lfp,hF.lr,hri,hF.ok _ (getElem_mem hi'),(hF4.same s5).at_,s5 _ _ (s4 _ _ hd),fun u H6 s6 hs6=>qf _ _ s6 hs6
  ·refine q1 em D vs H5 (s14.trans s5) (s14.free hD) hDv ?_
   unfold ziu
   have:(((ps.map V.ref).length:Nat):Int).toNat=rows.length:=by omega
   rw[this] at hp;exact zm (fun _ _ z=>y7 (fun b o _=>⟨o.1,s14.free o.2⟩) z) hp
end
end K44
namespace L2
open PySem PyProof.Rows
def zjV(X:Cx)(ss:List Stmt):TS:=fun D σ H=>∃t,PSs X ss t/\t D σ H
theorem zW:PSs X ss (zjV X ss):=⟨fun pins s σ H D I ⟨_,p,h⟩=>p pins s σ H D I h⟩
theorem zr{X:Cx}{st:Stmt}{ya:List Stmt}{t:TS}{D:L2.ve}{σ : L2.St}{H:Hp}(p:PS X st t)(h:uW t (zjV X ya) D σ H):zjV X (st::ya) D σ H:=⟨_,zk p zW,h⟩
end L2
namespace L2
open PySem PySem.Spec PyProof.Rows
theorem zgF:OpR X (binaryOp .FloorDiv) (rI (fun _ j=>0<j/\j<=2 * 10 ^ 60) fun i j=>.int (i / j)):=opI fun i j _ _ _ _ _ hc q=>by
 have h1:(0:Int)<j:=hc.1;have h2:j<=2 * 10 ^ 60:=hc.2;refine floordiv_int ∅ (by rw[Int.fdiv_eq_ediv_of_nonneg i ∅];exact q) (.inl (PyProof.noPylong_of_log2 ?_))
 rw[Nat.log2_lt ∅]
 have e:j.natAbs<=2 * 10 ^ 60:=by omega
 have:(2 * 10 ^ 60:Nat)<2 ^ 9000:=by decide +kernel
 omega
end L2
namespace K44
open PySem L2 PyProof.Rows
structure uz(mg:Str->Option Value):Prop where
 isi:mg "isinstance"=none
 int:mg "int"=none
 len:mg "len"=none
 range:mg "range"=none
 list:mg "list"=none
 zip:mg "zip"=none
 max:mg "max"=none
inductive zaU(K:Frag)(vs:List V)(H:Hp)(Q:VK)(E:XK):Prop|mk(a:Addr)(ns:List Int)(k:Nat):vs=[.ref a,.int k]->SqL K H a (ns.map V.int)->(∀n:Int,Q (.int n) H)->zaU K vs H Q E
inductive zjB(vs:List V)(H:Hp)(Q:VK)(E:XK):Prop|mk(c:Int)(k:Nat):vs=[.int c,.int k]->k<=1000->(∀m:Int,0<=m->m<2147483587->Q (.int m) H)->zjB vs H Q E
section
variable {mg:Str->Option Value}
theorem zlM:zp ["_law_script","_law_k"] ["_law_script","_law_k"] (zi zkp):=fsc
theorem zkL{P:Program}{w:World}{K:Frag}{base:Heap}{f:Addr}{fd:FuncData}(F:Fun K "_law_nth" "_law_nth" zkp f fd)(T:uz mg):↥1 f fd ["_law_script","_law_k"] (zaU K):=by
 specialize zlM;obtain⟨a,ns,k,rfl,hS,q⟩:=h;exists _,zd (zt (uG (zn wD (pv 1) (cB zF T.len PySem.boot_len (ac (pv 0) zb)) (zv _)) (zu zy (pv 0) (pv 1) (fun _ _=>rfl)) zh)),?_;exists _,rfl,_,rfl,a,_,rfl,.inl hS,_,_,rfl,rfl,_,rfl,?_;refine vE (fun c=>?_) (fun c=>q 0);have c':(k:Int)<((ns.map V.int).length:Int):=of_decide_eq_true c;rw[aA] at c';have hk:k<ns.length:=by omega
 exists _,rfl,_,rfl,a,_,(k:Int),.int ns[k],rfl,rfl,hS,yF (by rw[getElem?_map,aB hk];rfl),q _
theorem zjG:zp ["_law_cell","_law_k","_law_number"] ["_law_cell","_law_k"] (zi zkq):=fsc
theorem zkN{P:Program}{w:World}{K:Frag}{base:Heap}{f:Addr}{fd:FuncData}(F:Fun K "_law_mix" "_law_mix" zkq f fd):↥1 f fd ["_law_cell","_law_k"] zjB:=by
 specialize zjG;obtain⟨c,k,rfl,hk,q⟩:=h;refine⟨_,zk (zB (i:=2) zjG.nd rfl (Or.inl rfl) (zN wM (zN xt (zN xt (zN xV (zN wM (pv 0) zh) zh) (zN xV (zN xV (pv 1) (pv 1)) zh)) (zN xV zh (pv 1))) zh))
  (zd (zt (zN wM (zN xt (zN xt (zN xV (pv 2) (pv 2)) (zN xV zh (pv 2))) (pv 1)) zh))),?_⟩
 have k0:(0:Int)<=(k:Int):=by omega
 have k1:(k:Int)<=1000:=by omega
 exists _,rfl,_,_,rfl,rfl,(by show(0:Int)<2147483629;decide),_,_,rfl,rfl,.inr ⟨⋯,⋯⟩,_,rfl,_,rfl,_,_,rfl,rfl,.inl ⟨∅,∅⟩,_,_,rfl,rfl,.inr ⟨⋯,⋯⟩,_,_,rfl,rfl,_,rfl,_,_,rfl,rfl,.inl ⟨⋯,⋯⟩,_,_,rfl,rfl,_,_,rfl,rfl,(by show(0:Int)<2147483647;decide),?_
 have h1 : 0<=(c % 2147483629 * 48271+(k:Int) * (k:Int) * 7919+31 * (k:Int)) % 2147483647:=emod_nonneg _ ⋯
 have h2:(c % 2147483629 * 48271+(k:Int) * (k:Int) * 7919+31 * (k:Int)) % 2147483647<2147483647:=emod_lt_of_pos _ ⋯
 exists _,rfl,_,rfl,_,_,rfl,rfl,.inl ⟨∅,∅⟩,_,rfl,_,_,rfl,rfl,.inl ⟨⋯,⋯⟩,_,_,rfl,rfl,_,rfl,_,_,rfl,rfl,_,_,rfl,rfl,(by show(0:Int)<2147483587;decide),q _ (emod_nonneg _ ⋯) (emod_lt_of_pos _ ⋯)
end
end K44
namespace L2
open PySem PySem.Spec PyProof.Rows
theorem zbs{n:Nat}(h:n<=1000):n<=sizeLine:=le_of_lt (zE h)
theorem ub{α : Type}{ys:List α}{i:Nat}{y : α}(keep : α->Bool)(hy:ys[i]?=some y):(ys.take (i+1)).filter keep=(ys.take i).filter keep++(if keep y=true then [y] else []):=by
 have hi:i<ys.length:=(List.getElem?_eq_some_iff.mp hy).1;have e:ys[i]=y:=(List.getElem?_eq_some_iff.mp hy).2;rw[take_succ_eq_append_getElem hi,filter_append,e,filter_cons];rfl
theorem zey{α : Type}{ys:List α}{i:Nat}(keep : α->Bool):((ys.take i).filter keep).length<=i:=by
 have:=length_filter_le keep (ys.take i)
 rw[length_take] at this;omega
theorem zdk{α : Type}{K:Frag}{a:Addr}{xs:List V}{caps:List (Option Nat)}{g:TG}{tt:TT}{te:TE}{σ : L2.St}{H1:Hp}{Q:VK}{D:Addr}(ys:List α)(keep : α->Bool)(out : α->V)(hD:H1 D=none)(ha:SqL K H1 a xs)(hl:xs.length=ys.length)(hn:xs.length<=1000)
  (hs:∀(i:Nat) (x:V) (y : α) (H:Hp) (N:VK) (S:Hp->Prop),xs[i]?=some x->ys[i]?=some y->zq H1 H->(∀H',zq H H'->keep y=true->N (out y) H')->(∀H',zq H H'->keep y=false->S H')->g x (xh caps σ) H fun σ2 H2=>tt σ2 H2 fun ok H3=>(ok=true->te σ2 H3 N)/\(ok=false->S H3))
  (hd:∀H,zq H1 H->H D=some (.lst ((ys.filter keep).map out))->Q (.ref D) H):LCr (Itl K a) caps g tt te σ H1 Q D:=by
 refine wF (K:=K) (xs:=xs) (fun i zs H'=>zq H1 H'/\H' D=some (.lst zs)/\zs=((ys.take i).filter keep).map out) ⟨zg hD _,za,rfl⟩ (fun i zs H' h=>h.1.seq ha) ?_ ?_
 ·rintro i x zs H' hlt hx ⟨sH,hDy,ez⟩
  obtain⟨y,hy⟩:∃y,ys[i]?=some y:=⟨_,aB ∅⟩
  refine hs i x y H' _ _ hx hy sH (fun H2 s2 hk=>?_) (fun H2 s2 hk=>?_)
  ·refine lcN.mk hlt (zbs hn) (s2 _ _ hDy) (by rw[ez,aA];exact zey _) ⟨fun b' u e=>?_,za,?_⟩
   ·rw[zf (ze e hD)]
    exact s2 _ _ (sH b' u e)
   ·rw[ez,ub keep hy,aK hk,aE]
    rfl
  ·refine lcS.mk hlt ⟨sH.trans s2,s2 _ _ hDy,?_⟩
   rw[ez,ub keep hy,aJ (by rw[hk];exact zft),append_nil]
 ·rintro zs H2 ⟨s2,hDy,ez⟩
  rw[take_of_length_le ∅] at ez
  rw[ez] at hDy;exact hd H2 s2 hDy
theorem zi3{α : Type}{K:Frag}{a:Addr}{xs:List V}{caps:List (Option Nat)}{g:TG}{tt:TT}{te:TE}{σ : L2.St}{H1:Hp}{Q:VK}{D:Addr}(ys:List α)(keep : α->Bool)(out : α->V)(hD:H1 D=none)(ha:SqL K H1 a xs)(hl:xs.length=ys.length)(hn:xs.length<=1000)
  (hs:∀(i:Nat) (x:V) (y : α) (p:Addr) (H:Hp) (N:VK) (S:Hp->Prop),xs[i]?=some x->ys[i]?=some y->H p=none->zq H1 H->(∀H',zq H H'->keep y=true->N (out y) H')->(∀H',zq H H'->keep y=false->S H')->g (.ref p) (xh caps σ) (upd H p (.tup [.int i,x])) fun σ2 H2=>tt σ2 H2 fun ok H3=>(ok=true->te σ2 H3 N)/\(ok=false->S H3))
  (hd:∀H,zq H1 H->H D=some (.lst ((ys.filter keep).map out))->Q (.ref D) H):LCr (Ite K a) caps g tt te σ H1 Q D:=by
 refine zer (K:=K) (xs:=xs) (fun i zs H'=>zq H1 H'/\H' D=some (.lst zs)/\zs=((ys.take i).filter keep).map out) ⟨zg hD _,za,rfl⟩ (fun i zs H' h=>h.1.seq ha) ?_ ?_
 ·rintro i x p zs H' hlt hx ⟨sH,hDy,ez⟩ hp
  obtain⟨y,hy⟩:∃y,ys[i]?=some y:=⟨_,aB ∅⟩
  refine hs i x y p H' _ _ hx hy hp sH (fun H2 s2 hk=>?_) (fun H2 s2 hk=>?_)
  ·refine lcN.mk hlt (zbs hn) (s2 _ _ hDy) (by rw[ez,aA];exact zey _) ⟨fun b' u e=>?_,za,?_⟩
   ·rw[zf (ze e hD)]
    exact s2 _ _ (sH b' u e)
   ·rw[ez,ub keep hy,aK hk,aE]
    rfl
  ·refine lcS.mk hlt ⟨sH.trans s2,s2 _ _ hDy,?_⟩
   rw[ez,ub keep hy,aJ (by rw[hk];exact zft),append_nil]
 ·rintro zs H2 ⟨s2,hDy,ez⟩
  rw[take_of_length_le ∅] at ez
  rw[ez] at hDy;exact hd H2 s2 hDy
theorem zep{n:Nat}{g:TG}{tt:TT}{te:TE}{Q:VK}(keep:Nat->Bool)(out:Nat->V)(hD:H1 D=none)(hn:n<=1000)
  (hs:∀(i:Nat) H (N:VK) (S:Hp->Prop),i<n->zq H1 H->(∀H',zq H H'->keep i=true->N (out i) H')->(∀H',zq H H'->keep i=false->S H')->g (.int ((0:Int)+(i:Int))) (xh caps σ) H fun σ2 H2=>tt σ2 H2 fun ok H3=>(ok=true->te σ2 H3 N)/\(ok=false->S H3))
  (hd:∀H,zq H1 H->H D=some (.lst (((List.range n).filter keep).map out))->Q (.ref D) H):LCr (Itr 0 n) caps g tt te σ H1 Q D:=by
 refine uK (n:=n) (fun i zs H'=>zq H1 H'/\H' D=some (.lst zs)/\zs=((List.range i).filter keep).map out) ⟨zg hD _,za,rfl⟩ ?_ ?_
 ·rintro i zs H' hlt ⟨sH,hDy,ez⟩
  refine hs i H' _ _ hlt sH (fun H2 s2 hk=>?_) (fun H2 s2 hk=>?_)
  ·refine lcN.mk hlt (zbs hn) (s2 _ _ hDy) (by rw[ez,aA];have:=length_filter_le keep (List.range i);rw[length_range] at this;exact this) ⟨fun b' u e=>?_,za,?_⟩
   ·rw[zf (ze e hD)]
    exact s2 _ _ (sH b' u e)
   ·rw[ez,range_succ,filter_append,aE,filter_cons,aK hk]
    rfl
  ·refine lcS.mk hlt ⟨sH.trans s2,s2 _ _ hDy,?_⟩
   rw[ez,range_succ,filter_append,aE,filter_cons,aJ (by rw[hk];exact zft)]
   simp
 ·rintro zs H2 ⟨s2,hDy,ez⟩
  rw[ez] at hDy;exact hd H2 s2 hDy
end L2
namespace L2
open PySem PySem.Spec PyProof.Rows PySem.Builtin
section
variable {E:VSP}{i:Nat}{Q:Option Value->Shared->Prop}
end
end L2
namespace L2
open PySem PySem.Spec PyProof.Rows
section
theorem zaP{α : Type}{R:Addr->α->Prop}{rows:List α}(h:Paired R us rows)(keep : α->Bool)(out : α->V):((us.zip rows).filter fun p=>keep p.2).map (fun p=>out p.2)=(rows.filter keep).map out:=by
 induction h with
 | nil=>rfl
 | cons r t ih=>
  rename_i u y us ys;rw[List.zip_cons_cons,filter_cons,filter_cons];cases hk:keep y with
  | true=>rw[aK rfl,aK rfl,map_cons,map_cons,ih]
  | false=>rw[aJ zft,aJ zft,ih]
theorem qE{α : Type}{K:Frag}{a:Addr}{us:List Addr}{rows:List α}{caps:List (Option Nat)}{g:TG}{tt:TT}{te:TE}{σ : L2.St}{H1:Hp}{Q:VK}{D:Addr}(R:Hp->Addr->α->Prop)(keep : α->Bool)(out:Addr->α->V)(hD:H1 D=none)(ha:H1 a=some (.lst (us.map V.ref)))(hu:Paired (R H1) us rows)(hn:rows.length<=1000)
  (hs:∀(i:Nat) (u:Addr) (y : α) (H:Hp) (N:VK) (S:Hp->Prop),us[i]?=some u->rows[i]?=some y->R H1 u y->zq H1 H->(∀H',zq H H'->keep y=true->N (out u y) H')->(∀H',zq H H'->keep y=false->S H')->g (.ref u) (xh caps σ) H fun σ2 H2=>tt σ2 H2 fun ok H3=>(ok=true->te σ2 H3 N)/\(ok=false->S H3))
  (hd:∀H,zq H1 H->H D=some (.lst (((us.zip rows).filter fun p=>keep p.2).map fun p=>out p.1 p.2))->Q (.ref D) H):LCr (Itl K a) caps g tt te σ H1 Q D:=by
 have hl:us.length=rows.length:=hu.length;have lz:(us.zip rows).length=rows.length:=by rw[length_zip,hl,Nat.min_self]
 refine zdk (K:=K) (xs:=us.map V.ref) (us.zip rows) (fun p=>keep p.2) (fun p=>out p.1 p.2) hD (zc ha) (by rw[aA,lz,hl]) (by rw[aA,hl];exact hn) (fun i x y H N S hx hy sH n1 s1=>?_) hd
 have hi:i<rows.length:=by rw[<- lz];exact(List.getElem?_eq_some_iff.mp hy).1
 have e1:(us.zip rows)[i]?=some (us[i],rows[i]):=by
  rw[aB ∅,List.getElem_zip]
 rw[e1] at hy;cases hy;have hu1:us[i]?=some us[i]:=aB ∅
 rw[getElem?_map,hu1] at hx;cases hx;obtain⟨d,hd',hr⟩:=Paired.get hu hu1;have e2:rows[i]?=some rows[i]:=aB hi;rw[e2] at hd';cases hd';exact hs i us[i] rows[i] H N S hu1 e2 hr sH n1 s1
variable {ta:TE}{t:TA}{k:Nat}{sp:Sp}
theorem ziw(he:PE X o ta)(c:Cls X.K C)(hm:y6 X.K C m f)(F:zA X.prog X.w X.K X.mg X.base (CXs X.prog X.w) k f fd ps sp)(hr:yg k X.A)(hb:zM X.K fd ps [])(hp:zbB X pins σ E)(ha:PA X (e::es) t)
  (hst:starEach (e::es) X.env=(false,eval e X.env)::starEach es X.env:=by rfl) (hpl:(backTo pos (starEach es X.env)).any (·.1)=false:=by rfl)
  (ht:eval (.Call (.Attribute o m apos) (e::es) [] pos) X.env=(do
   let ov <- eval o X.env
   standAt apos.atName
   let (f,first) <- holding [ov] (getMethod ov m pl)
   callWith pos f first (backTo pos (starEach (e::es) X.env)) (backToKw pos (keywordEach [] X.env))):=by rfl) :
  PE1 X pins σ (.Call (.Attribute o m apos) (e::es) [] pos) (zfH C m sp [] E ta t):=by
 exists fun s H Q I h=>?_;refine methodCall_KW (pl:=pl) (thn (he pins s σ H _ I h) fun u s1 ⟨x,H1,I1,rx,a,dx,fs,ex,ea,l,q⟩=>?_) ht;subst ex;obtain rfl:u=Value.ref a:=rx;refine vq I1 ea c hm l ?_;refine callWith_K (first:=[.ref a]) (h₀:=X.base) I.ok.mod.kin hm.kp (thn (ha pos pins s1 σ H1 _ I1 q) fun us s2 ⟨vs,H2,I2,r,q2⟩=>⟨I2.kIn,?_⟩) hst hpl
 have r2:zX ((.ref a::vs)++[]) ((.ref a::us)++[]):=zX.append (.cons rfl r) .nil;have hl:((.ref a::us)++[]:List Value).length=ps.length:=by rw[<- r2.length];exact F.len _ _ _ _ q2
 refine wpAny_call (codeAny_mono (F.run X.A X.stack s2 H2 ⟨.ref a::us,[]⟩ ((.ref a::us)++[]) ((.ref a::vs)++[]) Q E hr I2.env0 (hb s2 (.ref a::us) I2.kIn hl) r2 q2) fun r s' hq=>?_);cases r with
 | error e=>exact hp H2 s2 e s' I2 hq
 | ok fl=>
  cases fl with
  | ret u=>exact I2.after hq
  | next=>exact False.elim hq
  | brk=>exact False.elim hq
  | cont=>exact False.elim hq
theorem zaH{x:V}:∀{xs:List V}{us:List Value},zX xs us->xs.all yZ=true->us.countP (eqU x)=xs.countP fun y=>eqV y x
 | _,_,.nil,_=>rfl
 | y::xs,u::us,.cons r t,f=>by
  rw[all_cons,Bool.and_eq_true] at f;rw[countP_cons,countP_cons,zdy r f.1,zaH t f.2]
inductive ziiJ(x:V)(vs:List V)(H:Hp)(Q:VK):Prop|mk(l:Addr)(xs:List V)(y:V):x=.ref l->vs=[y]->H l=some (.lst xs)->yZ y=true->xs.all yZ=true->(Q (.int (xs.countP fun z=>eqV z y:Nat)) H)->ziiJ x vs H Q
def zii:V->List V->Hp->VK->Prop:=fun x vs H Q=>ziiJ x vs H Q
theorem zav:MtM X "list.count" zii:=by
 intro pins s σ H x vs v us' Q I rx rv h;obtain⟨l,xs,y,rfl,rfl,hH,fy,fs,q⟩:=h;cases rx;obtain⟨u,rfl,ru⟩:=rv.one;obtain⟨z,its,n,r,hl,e⟩:=I.lstM hH;refine call_meets F.slot_list_count ⟨_,e,rfl⟩ F.entry_list_count (F.args_list_count_2 _ _) (SeqAt.list_countAt l its.toArray n none #[] u (eqU y)) ⟨e,fun w hw=>w9 ru fy r fs w (by simpa using hw),?_⟩
 exists .int _,H,I.kept (t':=s.toks+1) fun b ob q=>q,⟨_,rfl⟩,?_;rw[show its.toArray.toList.countP (eqU y)=its.countP (eqU y) by simp,zaH r fs]
 exact q
theorem Inv.turnedL{X:Cx}{pins:PnL}{σ : St}{H:Hp}{s:Shared}{h':Heap}{t':Nat}{ch:List Addr}(I:Inv X pins σ H s)(hf:∀b∈ch,vw X pins H b)(k:∀b o,b∉ch->s.heap.get? b=some o->h'.get? b=some o):Inv X pins σ H { s with heap:=h',toks:=t' }:=by
 have nit:∀b u,H b=some u->b∉ch:=fun b u e z=>by rw[(hf b z).1] at e;cases e
 refine I.step (g':=s.gens) (d':=s.drawn) (ch:=ch) (fun b hb=>?_) (fun b o _ _ hc e _=>k b o hc e) (fun b o _ _ hc e _=>⟨o.slots,k b o hc e⟩) (fun _ _ _ _ n=>n)
  (fun b o hc e=>⟨o,k b o hc e⟩) (fun _ _ e=>e) (fun _ _ _ e=>e) (fun b ps e=>⟨#[],by rw[e];simp⟩) (fun m hm=>?_) (fun b u e=>?_) I.bare
 ·obtain⟨f0,f1,f2,f3,f4,f5⟩:=hf b hb
  exact⟨f3,f1,f4,f5⟩
 ·obtain⟨o,es,ep,ho,r⟩:=hm
  exact⟨o,es,ep,k _ o (fun z=>(hf _ z).2.1 rfl) ho,r⟩
 ·refine(I.hok b u e).stay (fun c v hc q=>k c v ?_ q) (fun _ q=>q) fun _ _ q=>q
  rcases hc with z|z
  ·rw[z];exact nit b u e
  ·exact nit c _ z
def Itz(K:Frag)(a b:Addr):It:=
 ⟨fun i H=>∃xs ys x y,SqL K H a xs/\SqL K H b ys/\xs[i]?=some x/\ys[i]?=some y,
  fun i H v H'=>∃p x y,v=.ref p/\H p=none/\(∀xs,SqL K H a xs->xs[i]?=some x)/\(∀ys,SqL K H b ys->ys[i]?=some y)/\H'=upd H p (.tup [x,y]),
  fun i H=>∃xs ys,SqL K H a xs/\SqL K H b ys/\(xs.length<=i\/ys.length<=i)⟩
theorem zfE{P:Program}{w:World}{K:Frag}{elts:List Expr}{x1:Nat}{tpos:Pos}(a b z TI TO i1 i2:Addr)(D:ZipApart z TI TO i1 i2 a b):
  zae P w K (.Tuple elts x1 tpos) (Itz K a b) [z,TI,TO,i1,i2] z (fun i h=>IsZip h z TI TO .none/\IsPair h TI (.ref i1) (.ref i2)/\(∃u v,IsPair h TO u v)/\h.IsListIter i1 a i/\h.IsListIter i2 b i) where
 mem:=by simp
 obj:=fun i h st c hc=>by
  obtain⟨hz,hTI,⟨u,v,hTO⟩,⟨o1,ho1,_,d1⟩,⟨o2,ho2,_,d2⟩⟩:=st;have hc':c=z\/c=TI\/c=TO\/c=i1\/c=i2:=by simpa using hc
  rcases hc' with rfl|rfl|rfl|rfl|rfl
  ·exact⟨_,hz,fun v q=>by cases q⟩
  ·exact⟨_,hTI,fun v q=>by cases q⟩
  ·exact⟨_,hTO,fun v q=>by cases q⟩
  ·exact⟨o1,ho1,fun v q=>by rw[d1] at q;cases q⟩
  ·exact⟨o2,ho2,fun v q=>by rw[d2] at q;cases q⟩
 keep:=fun i h h' st k=>by
  obtain⟨hz,hTI,⟨u,v,hTO⟩,⟨o1,ho1,d1⟩,⟨o2,ho2,d2⟩⟩:=st;exact⟨k z (by simp) _ hz,k TI (by simp) _ hTI,⟨u,v,k TO (by simp) _ hTO⟩,⟨o1,k i1 (by simp) _ ho1,d1⟩,⟨o2,k i2 (by simp) _ ho2,d2⟩⟩
 item:=by
  intro X hP hw hK hc i pins s σ H E I hf st hg;subst hP hw hK;obtain⟨hz,hTI,⟨u0,v0,hTO⟩,h1,h2⟩:=st;obtain⟨xs,ys,x,y,hS,hS',hx,hy⟩:=hg;obtain⟨its,rv,hp,hz1⟩:=I.list hS;obtain⟨its',rv',hp',hz2⟩:=I.list hS';obtain⟨u,hu,ru⟩:=rv.get hx;obtain⟨u',hu',ru'⟩:=rv'.get hy;refine wpAny_pyNext_zip_item D hz hTI hTO h1 h2 hp.isList hp'.isList (x:=u) (y:=u') (by simpa using hu) (by simpa using hu') fun h' hz' hTO' h1' h2' htup hsz hk=>?_
  have I0:Inv X pins σ H { s with heap:=h',toks:=s.toks }:=I.turnedL (ch:=[z,TO,i1,i2]) (fun c hc'=>hf c (by
    have hc':c=z\/c=TO\/c=i1\/c=i2:=by simpa using hc'
    rcases hc' with rfl|rfl|rfl|rfl <;> simp)) (fun c o hc' e=>hk c o (fun q=>hc' (by simp [q])) (fun q=>hc' (by simp [q])) (fun q=>hc' (by simp [q])) (fun q=>hc' (by simp [q])) e)
  have hfr:H s.heap.objs.size=none:=I.hok.fresh (aF _);have I1:Inv X pins σ (upd H s.heap.objs.size (.tup [x,y])) { s with heap:=h',toks:=s.toks }:=by
   have hok:HOk X.prog X.w (upd H s.heap.objs.size (.tup [x,y])) h':=fun b o q=>by
    by_cases hb:b=s.heap.objs.size
    ·subst hb
     rw[za] at q;cases q;exact⟨by show 2<=sizeLine;decide,[u,u'],.cons ru (.cons ru' .nil),⟨_,htup,rfl,_,rfl⟩⟩
    ·rw[zf hb] at q
     exact(I0.hok b o q).stay (fun _ _ _ z=>z) (fun c z=>by rw[zf (ze z hfr)];exact z) fun c xs' z=>by rw[zf (ze z hfr)];exact z
   refine I0.step (s:={ s with heap:=h',toks:=s.toks }) (g':=s.gens) (d':=s.drawn) (h':=h') (t':=s.toks) (ch:=[s.heap.objs.size]) (fun b hb=>?_) (fun b o _ _ _ e1 _=>e1) (fun b o _ _ _ e1 _=>⟨o.slots,e1⟩) (fun b o hb e1 n=>by rw[zf (fun z=>hb (by simp [z]))];exact n)
    (fun b o _ e1=>⟨o,e1⟩) (fun b xs' e1=>by rw[zf (ze e1 hfr)];exact e1) (fun b o' u' e1=>by rw[zf (ze e1 hfr)];exact e1) (fun b ps e1=>⟨#[],by rw[zf (ze e1 hfr),e1];simp⟩) (fun m hm=>hm) hok I0.bare
   have e':b=s.heap.objs.size:=by simpa using hb
   subst e';exists .inr I.sz,fun z=>?_,fun y c h z=>?_,fun p hp' z=>?_
   ·have:=I.lt;rw[<- z] at this;exact absurd this (lt_irrefl _)
   ·obtain⟨v',hv⟩:=I.cell y c h
    have:=hv.lt;rw[z] at this;exact absurd this (lt_irrefl _)
   ·have:=I.pin_lt hp';rw[z] at this;exact absurd this (lt_irrefl _)
  exists _,rfl,wpAny_letOwnedTupleGo_zip hz' fun h3 hz3 hs3=>?_;have lt:∀c∈[z,TI,TO,i1,i2],s.heap.objs.size≠c:=fun c hc' e=>by
   have hc':c=z\/c=TI\/c=TO\/c=i1\/c=i2:=by simpa using hc'
   have:∃o,s.heap.get? c=some o:=by
    obtain⟨o1,ho1,_⟩:=h1;obtain⟨o2,ho2,_⟩:=h2;rcases hc' with rfl|rfl|rfl|rfl|rfl
    ·exact⟨_,hz⟩
    ·exact⟨_,hTI⟩
    ·exact⟨_,hTO⟩
    ·exact⟨_,ho1⟩
    ·exact⟨_,ho2⟩
   obtain⟨o,ho⟩:=this
   have:=aI ho
   rw[<- e] at this;exact absurd this (lt_irrefl _)
  obtain⟨f0,f1,f2,f3,f4,f5⟩:=hf z (by simp)
  have I2:Inv X pins σ (upd H s.heap.objs.size (.tup [x,y])) { s with heap:=h3,toks:=s.toks }:=
   I1.turned (s:={ s with heap:=h',toks:=s.toks }) (t':=s.toks) (it:=z) (fun b o hb q=>(hs3.2 b hb).trans q) (by rw[zf (lt z (by simp)).symm];exact f0) f1 f3 f4 f5
  exists .ref s.heap.objs.size,_,I2,rfl,⟨_,x,y,rfl,hfr,fun xs' h'=>?_,fun ys' h'=>?_,rfl⟩,⟨hz3,(hs3.2 TI D.TIz).trans (hk TI _ D.TIz D.TITO D.TIi1 D.TIi2 hTI),⟨_,_,(hs3.2 TO D.TOz).trans hTO'⟩,?_,?_⟩,fun b hb=>?_
  ·rw[I.list_inj h' hS];exact hx
  ·rw[I.list_inj h' hS'];exact hy
  ·obtain⟨o,ho,r⟩:=h1'
   exact⟨o,(hs3.2 i1 D.i1z).trans ho,r⟩
  ·obtain⟨o,ho,r⟩:=h2'
   exact⟨o,(hs3.2 i2 D.i2z).trans ho,r⟩
  ·rw[zf (lt b hb).symm];exact(hf b hb).1
 done:=by
  intro X hP hw hK hc i pins s σ H E I hf st hg;subst hP hw hK;obtain⟨hz,hTI,⟨u0,v0,hTO⟩,h1,h2⟩:=st;obtain⟨xs,ys,hS,hS',hle⟩:=hg;obtain⟨its,rv,hp,hz1⟩:=I.list hS;obtain⟨its',rv',hp',hz2⟩:=I.list hS';refine wpAny_pyNext_zip_end (I.ok.hd hc) D hz hTI hTO h1 h2 hp.isList hp'.isList ?_ fun h' hk=>⟨rfl,?_⟩
  ·rcases hle with h|h
   ·exact .inl (by simp [<- rv.length,h])
   ·exact .inr (by simp [<- rv'.length,h])
  ·exact I.turnedL (t':=s.toks) (ch:=[z,TO,i1,i2]) (fun c hc'=>hf c (by
    have hc':c=z\/c=TO\/c=i1\/c=i2:=by simpa using hc'
    rcases hc' with rfl|rfl|rfl|rfl <;> simp)) (fun c o hc' e=>hk c o (fun q=>hc' (by simp [q])) (fun q=>hc' (by simp [q])) (fun q=>hc' (by simp [q])) (fun q=>hc' (by simp [q])) e)
 self:=fun A i s Q E st h=>wpAny_pyIter_zip st.1 h
variable {x1:Nat}
inductive znrJ(K:Frag)(R:It->Hp->Prop)(vs:List V)(H1:Hp):Prop|mk(a b:_):vs=[.ref a,.ref b]->(∃xs,SqL K H1 a xs)->(∃ys,SqL K H1 b ys)->(R (Itz K a b) H1)->znrJ K R vs H1
def znr(K:Frag)(ta:TA):TI:=fun σ H R=>ta σ H fun vs H1=>znrJ K R vs H1
theorem zgx{ta:TA}(hg:Gl X "zip")(hm:X.mg "zip"=none)(ha:PA X [l,l'] ta)(hl:vF l=false:=by rfl)(hl':vF l'=false:=by rfl):PI X (.Tuple elts x1 tpos) (.Call (.Name "zip" p) [l,l'] [] pos) (znr X.K ta):=by
 exists ?_;intro pins s σ H R I h;have e2:starEach [l'] X.env=[(false,eval l' X.env)]:=yV hl';refine Call_ (vK I hg hm PyProof.Rows.boot_zip (PyProof.Rows.callWith_type1 (thn (ha pos pins s σ H _ I h) fun us s1 ⟨vs,H1,I1,r1,q1⟩=>?_) (yV hl) (by rw[e2];rfl)))
 obtain⟨a,b,e,⟨xs,hS⟩,⟨ys,hS'⟩,q⟩:=q1;subst e;obtain⟨u,u',rfl,ru,ru'⟩:=zdN r1;cases ru;cases ru';obtain⟨its,rv,hp,hz⟩:=I1.list hS;obtain⟨its',rv',hp',hz'⟩:=I1.list hS';have la:a<s1.heap.objs.size:=by
  obtain⟨o,ho,_⟩:=hp.isList;exact aI ho
 have lb:b<s1.heap.objs.size:=by
  obtain⟨o,ho,_⟩:=hp'.isList;exact aI ho
 refine call_zip_2 hp.isList hp'.isList fun h' hzz hTI hTO h1 h2 hsz hk=>?_;refine wpAny_pyIter_zip hzz ?_;have hfr:∀b,s1.heap.objs.size<=b->H1 b=none:=fun b hb=>I1.hok.fresh hb;have I2:Inv X pins σ H1 { s1 with heap:=h' }:=I1.kept (t':=s1.toks) hk
 exists s1.heap.objs.size+4,[s1.heap.objs.size+4,s1.heap.objs.size+2,s1.heap.objs.size+3,s1.heap.objs.size,s1.heap.objs.size+1],_,_,H1,rfl,I2,zfE a b _ _ _ _ _ (zipApart_new la lb),⟨hzz,hTI,⟨_,_,hTO⟩,h1,h2⟩,fun c hc=>?_,q;have hc':s1.heap.objs.size<=c:=by
  have hc':c=s1.heap.objs.size+4\/c=s1.heap.objs.size+2\/c=s1.heap.objs.size+3\/c=s1.heap.objs.size\/c=s1.heap.objs.size+1:=by simpa using hc
  rcases hc' with rfl|rfl|rfl|rfl|rfl
  ·exact le_add_right _ _
  ·exact le_add_right _ _
  ·exact le_add_right _ _
  ·exact aF _
  ·exact le_add_right _ _
 exact I1.fpOk hc' (hfr _ hc')
theorem zex{K:Frag}{a b:Addr}{xs ys:List V}{g:TG}{tb:TS}{D:ve}{σ : St}{H:Hp}(Pv:Nat->St->Hp->Prop)(el:ys.length=xs.length)(h0:Pv 0 σ H)(hl:∀i σ H,i<=xs.length->Pv i σ H->SqL K H a xs/\SqL K H b ys)
  (hs:∀i x y p σ H,xs[i]?=some x->ys[i]?=some y->Pv i σ H->H p=none->g (.ref p) σ (upd H p (.tup [x,y])) fun σ2 H2=>tb { D with nx:=Pv (i+1),ct:=Pv (i+1),bk:=D.nx } σ2 H2) (hd:∀σ H,Pv xs.length σ H->D.nx σ H) :
  ∃W:Nat->Nat->St->Hp->Prop,(∃m,W 0 m σ H)/\∀i m σ H,W i m σ H->
   ((Itz K a b).stop i H/\D.nx σ H)\/((Itz K a b).go i H/\∃N:St->Hp->Prop,(∀σ' H',N σ' H'->∃m',m'<m/\W (i+1) m' σ' H')/\∀x H',(Itz K a b).yld i H x H'->g x σ H' fun σ2 H2=>tb { D with nx:=N,ct:=N,bk:=D.nx } σ2 H2):=by
 exists fun i m σ H=>m=xs.length - i/\i<=xs.length/\Pv i σ H,⟨xs.length,by simp,zero_le _,h0⟩,?_
 rintro i m σ H ⟨rfl,hi,p⟩;obtain⟨q,q'⟩:=hl i σ H hi p;by_cases hlt:i<xs.length
 ·have hlt':i<ys.length:=by omega
  refine .inr ⟨⟨xs,ys,xs[i],ys[i],q,q',by simp [hlt],by simp [hlt']⟩,Pv (i+1),fun σ' H' p'=>⟨xs.length - (i+1),∅,rfl,hlt,p'⟩,fun x H' y=>?_⟩
  obtain⟨pp,x,y,rfl,hp,y1,y2,rfl⟩:=y;exact hs i x y pp σ H (y1 xs q) (y2 ys q') p hp
 ·have e:i=xs.length:=by omega
  subst e;exact .inl ⟨⟨xs,ys,q,q',.inl (aF _)⟩,hd σ H p⟩
variable {R:Result->Shared->Prop}{G:Array GenState->Array GenState->Prop}{n:Nat}{Pr:Nat->Value->Prop}{Sg:Nat->Shared->Prop}
end
section
variable {κ : Type}{E:VSP}[DecidableEq κ]
end
section
variable {td:TE}{ta:TA}
def zay:Value->Str
 | .str z _=>z
 | _=>""
theorem je{α : Type}[DecidableEq α]:∀(zs ys:List α),zs.Nodup->(∀z∈zs,z∈ys)->zs.length<=ys.length
 | [],_,_,_=>zero_le _
 | z::zs,ys,h,hs=>by
  have hz:z∈ys:=hs z mem_cons_self;have e:(ys.erase z).length=ys.length - 1:=List.length_erase_of_mem hz;have l0 : 0<ys.length:=List.length_pos_of_mem hz;rw[nodup_cons] at h;have ih:=je zs (ys.erase z) h.2 fun y hy=>(List.mem_erase_of_ne (fun e:y=z=>h.1 (by rw[<- e];exact hy))).mpr (hs y (mem_cons_of_mem _ hy))
  rw[length_cons];omega
theorem zfZ{P:Program}{w:World}{h:Heap}{a:Addr}{zs:List Str}{n:Nat}(hS:h.SetOf (strKind P w) a (fun z=>decide (z∈zs)) n)(nd:zs.Nodup):zs.length<=n:=by
 obtain⟨o,es,ep,t,ho,hx,hd,he,hb,hf,hfi,hn⟩:=hS
 have:=je zs (es.toList.map fun e=>zay e.2) nd fun z hz=>by
  obtain⟨e,hm,hk⟩:=(hb z).mp (aC hz);refine List.mem_map.mpr ⟨e,hm,?_⟩;obtain⟨tk,e2⟩:=Value.isStrOf_shape hk;rw[e2];rfl
 rw[aA] at this;have e3:es.toList.length=es.size:=rfl;omega
theorem zeq{β : Type}{K:Frag}{a:Addr}{xs:List V}{bs:List β}{caps:List (Option Nat)}{g:TG}{tt:TT}{te:TE}{σ : L2.St}{H1:Hp}{Q:VK}{D:Addr}(R':Hp->Addr->β->Prop)
  (sR':∀{H H' v r},R' H v r->zq H H'->R' H' v r) (uR':∀{H v r D ys o},R' H v r->H D=some (.lst ys)->R' (upd H D o) v r)
  (ha:SqL K H1 a xs) (hl:xs.length=bs.length) (hn:bs.length<=500) (hD:H1 D=none)
  (hs:∀(i:Nat) x b H (Qf:VK) (Qs:Hp->Prop),xs[i]?=some x->bs[i]?=some b->zq H1 H->(∀v H',zq H H'->R' H' v b->Qf (.ref v) H')->
   g x (xh caps σ) H fun σ2 H2=>tt σ2 H2 fun ok H3=>(ok=true->te σ2 H3 Qf)/\(ok=false->Qs H3))
  (hd:∀vs H,zq H1 H->H D=some (.lst (vs.map V.ref))->Paired (R' H) vs bs->Q (.ref D) H):LCr (Itl K a) caps g tt te σ H1 Q D:=by
 refine wF (K:=K) (xs:=xs) (fun i ys H'=>∃vs,ys=vs.map V.ref/\zq H1 H'/\H' D=some (.lst ys)/\Paired (R' H') vs (bs.take i)) ⟨[],rfl,zg hD _,za,.nil⟩ (fun i ys H' ⟨_,_,h,_⟩=>h.seq ha) ?_ ?_
 ·rintro i x ys H' hlt hx ⟨vs,rfl,sH,hDy,fv⟩
  have hi:i<bs.length:=by omega
  have hb:bs[i]?=some bs[i]:=aB hi;have nl:(vs.map V.ref).length<=i:=by
   rw[aA,fv.length,length_take];omega
  refine hs i x _ H' _ _ hx hb sH (fun v H2 s2 r2=>?_);have s3:zq H1 (upd H2 D (.lst (vs.map V.ref++[.ref v]))):=fun b o z=>by
   rw[zf (ze z hD)];exact s2 _ _ (sH b o z)
  refine lcN.mk hlt (le_of_lt (zE ∅)) (s2 _ _ hDy) nl ⟨vs++[v],by rw[aE];rfl,s3,za,?_⟩
  rw[take_succ_eq_append_getElem hi];exact Paired.snoc (zm (fun w r' z=>uR' (sR' z s2) (s2 _ _ hDy)) fv) (uR' r2 (s2 _ _ hDy))
 ·rintro ys H ⟨vs,rfl,sH,hDy,fv⟩
  rw[hl,take_length] at fv;exact hd vs H sH hDy fv
variable {ok:Addr->Prop}
def zdF(w:World):Bool:=w.params.followText "set-order"
def Gd(w:World)(es:Array (Int×Value))(t:SetTable):Prop:=(es.toList.map fun e=>zay e.2).Nodup/\(zdF w=true\/t.led=true)/\(t.plain=true->es.size=0)
def uj(P:Program)(w:World)(h:Heap)(a:Addr)(S:Str->Bool)(n:Nat):Prop:=
 ∃o es ep t,h.get? a=some o/\o.ExactSet/\o.data=.set es ep t/\ElemsOf (PySem.strKind P w) es.toList/\(∀k,S k=true ↔ ∃e∈es.toList,(PySem.strKind P w).is k e.2=true)
 /\es.size<scanBound/\t.fits es.size=true/\es.size=n/\Gd w es t
theorem zdl(t:SetTable)(es:Array (Int×Value))(h:Int)(x:Value):(layNew t es h x).2.1.led=t.led:=by
 unfold layNew;split
 ·rename_i slot wd _
  show((t.put slot).1.orStandIn _).led=t.led;unfold SetTable.orStandIn;split <;> rfl
 ·rfl
theorem zbn(t:SetTable)(es:Array (Int×Value))(k:Nat):(relayAll t es k).2.1.led=t.led:=by
 unfold relayAll;split
 ·rename_i t' order hr
  dsimp only;split
  ·unfold SetTable.relaid SetTable.laid at hr
   cases hq:SetTable.layClean (SetTable.sizeAbove k - 1) (es.map (·.1)) with
   | none=>rw[hq] at hr;cases hr
   | some ow=>rw[hq] at hr;injection hr with hr;injection hr with h1 h2;rw[<- h1]
  ·rfl
 ·rfl
theorem qo(t:SetTable)(es:Array (Int×Value))(k:Nat)(h:t.plain=false):(relayAll t es k).2.1.plain=false:=by
 unfold relayAll;split
 ·rename_i t' order hr
  dsimp only;split
  ·unfold SetTable.relaid SetTable.laid at hr
   cases hq:SetTable.layClean (SetTable.sizeAbove k - 1) (es.map (·.1)) with
   | none=>rw[hq] at hr;cases hr
   | some ow=>rw[hq] at hr;injection hr with hr;injection hr with h1 h2;rw[<- h1];exact h
  ·rfl
 ·rfl
variable {E:VSP}
theorem zcq{g:Bool->Sem Unit}(hg:∀(b:Bool) s₁ (Q':Unit->Shared->Prop),Q' () s₁->wpAny (model P w) A (g b) Q' E s₁)
  {ep:Nat}(ho:s.heap.get? a=some o) (hex:o.ExactSet) (hd:o.data=.set es ep t)
  {S':Str->Bool}(hel1:ElemsOf (PySem.strKind P w) es1.toList) (hmem1:∀k',S' k'=true ↔ ∃e∈es1.toList,(PySem.strKind P w).is k' e.2=true)
  (hb1:es1.size<scanBound) (hf2:t2.fits es1.size=true) (hnd:(es1.toList.map fun e=>zay e.2).Nodup) (hld:zdF w=true\/t2.led=true) (hpl:t2.plain=false) {R:Option Bool->Shared->Prop}
  (h:∀h',Heap.SameBut a s.heap h'->uj P w h' a S' es1.size->R (some true) { s with heap:=h' }) :
  wpAny (model P w) A (do
    storeSet a es1 t2
    if (!wasDummy&&t2.tooFull)=true then do
      g (relayAll t2 es1 (SetTable.grown es1.size)).2.2
      storeSet a (relayAll t2 es1 (SetTable.grown es1.size)).1 (relayAll t2 es1 (SetTable.grown es1.size)).2.1
      pure (some true)
     else pure (some true)) R E s:=by
 refine zwb (wpAny_storeSet_of ho hd ?_ (fits_of_scanBound hb1));obtain⟨ho1,hS1⟩:=SetOf_store (knd:=PySem.strKind P w) ho hex hd hel1 hmem1 hb1 hf2;have hsb1:=Heap.SameBut.update s.heap a (Obj.putSet es1 t2);split
 ·have hp:=relayAll_perm t2 es1 (SetTable.grown es1.size)
  have hfr:=relayAll_fits t2 es1 (SetTable.grown es1.size);have hl:=zbn t2 es1 (SetTable.grown es1.size);have hpp:=qo t2 es1 (SetTable.grown es1.size) hpl;generalize hRl:relayAll t2 es1 (SetTable.grown es1.size)=Rl at hp hfr hl hpp |-;obtain⟨es2,t3,gave2⟩:=Rl;dsimp only at hp hfr hl hpp |-;have hel2:ElemsOf (PySem.strKind P w) es2.toList:=hel1.perm hp;have hmem2:∀k',S' k'=true ↔ ∃e∈es2.toList,(PySem.strKind P w).is k' e.2=true:=fun k'=>(hmem1 k').trans ⟨fun⟨e,he,q⟩=>⟨e,hp.mem_iff.mpr he,q⟩,fun⟨e,he,q⟩=>⟨e,hp.mem_iff.mp he,q⟩⟩;have hsz:es2.size=es1.size:=by rw[<- Array.length_toList,hp.length_eq,Array.length_toList]
  have hb2:es2.size<scanBound:=by rw[hsz];exact hb1
  refine zwb (hg _ _ _ ?_);refine zwb (wpAny_storeSet_of ho1 rfl ?_ (fits_of_scanBound hb2));obtain⟨hg2,_⟩:=SetOf_store (knd:=PySem.strKind P w) ho1 hex rfl hel2 hmem2 hb2 hfr;exact zwp (h _ (hsb1.trans (Heap.SameBut.update _ a _)) ⟨_,es2,_,t3,hg2,hex,rfl,hel2,hmem2,hb2,hfr,hsz,(hp.map _).nodup_iff.mpr hnd,by rw[hl];exact hld,fun e=>by rw[hpp] at e;cases e⟩)
 ·exact zwp (h _ hsb1 ⟨_,es1,_,t2,ho1,hex,rfl,hel1,hmem1,hb1,hf2,rfl,hnd,hld,fun e=>by rw[hpl] at e;cases e⟩)
theorem zh2{S:Str->Bool}{n:Nat}{Q:Bool->Shared->Prop}(hS:uj P w s.heap a S n)
  (hroom:n+1<scanBound)
  (h:∀h',Heap.SameBut a s.heap h'->uj P w h' a (fun k'=>S k'||decide (k'=z)) (if S z then n else n+1)->Q (!S z) { s with heap:=h' }) :
  wpAny (model P w) A (setAddHashed a (.str z tk) ((PySem.strKind P w).hash z)) Q E s:=by
 have hkey:(PySem.strKind P w).is z (.str z tk)=true:=strKind_is _ _ _ _;have hsc:(Value.str z tk).scannable=true:=rfl;obtain⟨o,es,ep,t,ho,hex,hd,hel,hmem,hb,hf,hn,hnd,hld,hpl⟩:=hS;have hb1:es.size+1<scanBound:=by rw[hn];exact hroom
 unfold setAddHashed setAddHashedIn;refine wpAny_holding (zwb (wpAny_setState_of ho hd hf ?_));dsimp only;rw[byScan_of hsc hb hel];simp only[↓reduceIte];unfold setAddByScan;refine zwb ?_;refine zwb (wpAny_rule ?_);refine zwb (wpAny_setScan_of hkey ho hd hf hel ?_);cases hr:List.findIdx? (fun e=>(PySem.strKind P w).is z e.2) es.toList with
 | some j=>
  dsimp only;obtain⟨hj,hpj,_⟩:=List.findIdx?_eq_some_iff_getElem.mp hr;have hSk:S z=true:=(hmem z).mpr ⟨es.toList[j],getElem_mem hj,hpj⟩;refine zwp (zwp ?_);have e:s={ s with heap:=s.heap }:=by cases s;rfl
  have:=h s.heap (Heap.SameBut.refl a s.heap) ⟨o,es,ep,t,ho,hex,hd,hel,fun k'=>by
   rw[Bool.or_eq_true,decide_eq_true_eq,<- hmem k'];exact⟨fun hk=>hk.elim id (fun e=>e ▸ hSk),.inl⟩,hb,hf,by rw[hSk];exact hn,hnd,hld,hpl⟩
  rw[hSk] at this;rw[e];exact this
 | none=>
  dsimp only;have hSk:S z=false:=by
   cases hk:S z with
   | false=>rfl
   | true=>obtain⟨e,he,hp⟩:=(hmem z).mp hk;have:=List.findIdx?_eq_none_iff.mp hr e he;rw[hp] at this;exact Bool.noConfusion this
  have hgw:∀(b:Bool) {s₁:Shared}{Q':Unit->Shared->Prop},Q' () s₁->wpAny (model P w) A (match b with|true=>rule "set.scan.the-table-gave-way"|false=>pure ()) Q' E s₁:=
   fun b s₁ Q' hq=>by cases b <;> first|exact zwp hq|exact wpAny_rule hq
  have hperm:=layNew_perm t es ((PySem.strKind P w).hash z) (.str z tk);have hfits:=layNew_fits t es ((PySem.strKind P w).hash z) (.str z tk);have hled:=zdl t es ((PySem.strKind P w).hash z) (.str z tk);generalize hL:layNew t es ((PySem.strKind P w).hash z) (.str z tk)=L at hperm hfits hled |-;obtain⟨es1,t1,wasDummy,gave⟩:=L;dsimp only at hperm hfits hled |-;rw[Array.toList_push] at hperm;have hel1:ElemsOf (PySem.strKind P w) es1.toList:=(hel.push hkey hsc).perm hperm;have hmem1:∀k',(S k'||decide (k'=z))=true ↔ ∃e∈es1.toList,(PySem.strKind P w).is k' e.2=true:=mem_push_iff hkey hmem hperm
  have hb1':es1.size<scanBound:=by rw[<- Array.length_toList,hperm.length_eq,aG,Array.length_toList];simpa using hb1
  have hnd1:(es1.toList.map fun e=>zay e.2).Nodup:=by
   refine(hperm.map _).nodup_iff.mpr ?_;rw[aE,List.nodup_append];exists hnd,List.nodup_cons.mpr ⟨not_mem_nil,nodup_nil⟩,fun x hx y hy e=>?_;obtain⟨e1,he1,rfl⟩:=List.mem_map.mp hx;have hy:y=z:=by simpa [zay] using hy
   obtain⟨⟨k1,hk1,_⟩,_⟩:=hel e1 he1;obtain⟨tk1,e3⟩:=Value.isStrOf_shape hk1;have h2:(PySem.strKind P w).is z e1.2=true:=by
    rw[e3] at e |-
    have:k1=z:=e.trans hy
    rw[this];exact strKind_is _ _ _ _
   have h3:=List.findIdx?_eq_none_iff.mp hr e1 he1;rw[h2] at h3;cases h3
  refine zwb (hgw _ ?_);have hsz1:es1.size=n+1:=by rw[<- Array.length_toList,hperm.length_eq,aG,Array.length_toList,hn];rfl
  have hend:∀h',Heap.SameBut a s.heap h'->uj P w h' a (fun k'=>S k'||decide (k'=z)) es1.size->Q true { s with heap:=h' }:=by
   intro h' hsb hS';have:=h h' hsb;rw[hSk] at this;rw[hsz1] at hS';exact this hS'
  split
  ·refine zwb ?_
   rw[hashByValue_scannable 8 hsc];refine zwp ?_;refine zcq ?_ ho hex hd hel1 hmem1 hb1' ?_ hnd1 ?_ ?_ ?_
   ·intro b s₁ Q' hq;cases b <;> first|exact zwp hq|exact wpAny_rule hq
   ·split
    ·exact hfits
    ·exact SetTable.fits_plain_off hfits
   ·split <;> (rw[show(zdF w=true\/_)=_ from rfl];exact hld.imp id fun e=>by simpa [hled] using e)
   ·rw[aJ (show ¬(plainKind (Value.str z tk)=true) from zft)]
   ·intro h' hsb hS';dsimp only;exact zwp (hend h' hsb hS')
  ·rename_i hpf
   refine zwb (zwp ?_);simp only[↓reduceIte];refine zcq ?_ ho hex hd hel1 hmem1 hb1' hfits hnd1 ?_ ?_ ?_
   ·intro b s₁ Q' hq;cases b <;> first|exact zwp hq|exact wpAny_rule hq
   ·rw[hled];exact hld
   ·simpa using hpf
   ·intro h' hsb hS';dsimp only;exact zwp (hend h' hsb hS')
variable {R:Result->Shared->Prop}{G:Array GenState->Array GenState->Prop}{n:Nat}{Pr:Nat->Value->Prop}{Sg:Nat->Shared->Prop}
theorem js{P:Program}{w:World}{A:Around}{I:Addr}{fp wr:List Addr}(W:WalksS P w A.in1 I fp wr G n Pr Sg)(a:Addr)(ha:a∉fp)(val:Nat->Str)(hv:∀i v,Pr i v->∃t,v=.str (val i) t)(hb:n+1<scanBound):
  ∀(k i:Nat) (s:Shared) (T:Str->Bool) (c:Nat),n - i=k->i<=n->Sg i s->c<=i->uj P w s.heap a T c->
   (∀s' c',Moved (a::wr) G s s'->c'<=n->uj P w s'.heap a (seen val T i k) c'->R (.ok (.ret .none)) s')->
   codeAny (model P w) A (.builtin "set.update.loop" ⟨[.ref a,.ref I],[]⟩) R s
 | 0,i,s,T,c,hk,hi,hg,hc,hT,hR=>by
  have hw:a∉wr:=fun z=>ha (W.sub _ z);have ei:i=n:=by omega
  subst ei;refine codeAny_builtin PyProof.Rows.F.entry_set_update_loop ?_;rw[Around.under_plainId PyProof.Rows.F.plain_set_update_loop _];show wpAny _ A.in1 (pyNext (.ref I) >>= _) _ _ _;refine zwb (W.done s _ _ hg fun s' hm=>?_);show wpAny _ A.in1 (ret Value.none) _ _ _;refine zwp (hR s' c (hm.mono fun b z=>mem_cons_of_mem _ z) hc ?_);obtain⟨ob,es,ep,t,h1,h2⟩:=hT;exact⟨ob,es,ep,t,hm.heap a _ hw h1,h2⟩
 | k+1,i,s,T,c,hk,hi,hg,hc,hT,hR=>by
  have hw:a∉wr:=fun z=>ha (W.sub _ z);have hlt:i<n:=by omega
  refine codeAny_builtin PyProof.Rows.F.entry_set_update_loop ?_;rw[Around.under_plainId PyProof.Rows.F.plain_set_update_loop _];show wpAny _ A.in1 (pyNext (.ref I) >>= _) _ _ _;refine zwb (W.item i s _ _ hlt hg fun v s' hP hg' hm=>?_);obtain⟨t,rfl⟩:=hv i v hP;have hT':uj P w s'.heap a T c:=by
   obtain⟨ob,es,ep,tb,h1,h2⟩:=hT;exact⟨ob,es,ep,tb,hm.heap a _ hw h1,h2⟩
  show wpAny _ A.in1 (holding [Value.str (val i) t] (setAdd a (.str (val i) t)) >>= _) _ _ s';refine zwb (wpAny_holding ?_);unfold setAdd;refine wpAny_holding ?_;refine zwb ((PySem.strKind P w).pyHash (k:=val i) (strKind_is _ _ _ _) ?_);refine zh2 (s:={ s' with toks:=s'.toks+1 }) hT' ∅ fun h' hsb h3=>?_
  refine zwp ⟨plainId_quiet PyProof.Rows.F.plain_set_update_loop _,js W a ha val hv hb k (i+1) _ _ _ ∅ hlt (W.frame _ s' _ _ hg' (le_succ _) fun b hb' o e=>?_) (by split <;> omega) h3 fun s2 c2 hm2 hc2 h4=>?_⟩
  ·have:b≠a:=fun z=>ha (z ▸ hb')
   rw[hsb.2 b this];exact e
  ·refine hR s2 c2 (Moved.trans W.gtrans ((hm.mono fun b z=>mem_cons_of_mem _ z).then_heap (le_succ _) fun b o hb' e=>?_) hm2) hc2 h4
   have:b≠a:=fun z=>hb' (z ▸ mem_cons_self)
   rw[hsb.2 b this];exact e
theorem zad{E:VSP}(a:Value){Q₁:VSP}
  (h:Q₁ (.ref s.heap.objs.size) { s with heap:=s.heap.push (wt (!zdF w)) }) :
  codeAny (model P w) A (.call (.builtin "set.__new__") ⟨[.type "set",a],[]⟩) (wants Q₁ E) s:=by
 refine codeAny_of_tree ?_;show wpAny _ A.in1 (do checkBuiltinCall "set.__new__" ⟨[.type "set",a],[]⟩;again (.builtin "set.__new__" ⟨[.type "set",a],[]⟩)) _ _ s
 refine zwb (wpAny_of_eq (PySem.F.newCall_set_1 a) (zwp ⟨plainId_quiet PySem.F.plain_set_new _,codeAny_builtin PySem.F.entry_set_new ?_⟩));rw[Around.under_plainId PySem.F.plain_set_new _];unfold Builtin.«set.__new__» Builtin.Frozenset.newClass;have hsub:=PySem.sub_set_self;obtain⟨hp,g,d,tk,os⟩:=s;dsimp only
 wp_walk
 refine wpAny_askSetting (zwp ?_);dsimp only;simp only[newObj];refine zwb (wpAny_alloc (zwp ?_));exact zwp h
end
set_option maxHeartbeats 8000000 in
theorem zco{P:Program}{w:World}{A:Around}{E:VSP}{s:Shared}{l:Addr}{items:Array Value}{zs:List Str}{Q:VSP}
  (hh:A.handled=none) (hl:s.heap.IsList l items) (hv:∀(i:Nat) (v:Value),items[i]?=some v->∃t,v=.str (zs.getD i "") t) (hb:items.size+1<scanBound)
  (h:∀(h':Heap) (tk c:Nat),uj P w h' s.heap.objs.size (seen (fun i=>zs.getD i "") (fun _=>false) 0 items.size) c->(∀b o,b<s.heap.objs.size->s.heap.get? b=some o->h'.get? b=some o)->Q (.ref s.heap.objs.size) { s with heap:=h',toks:=tk }) :
  wpAny (model P w) A (call (.type "set") [.ref l]) Q E s:=by
 obtain⟨mc,mt,mro⟩:=PySem.F.called_set.mro;have q1:=PySem.F.called_set.made;have q2:=PySem.F.called_set.sub;have q3:=PySem.F.called_set.notType;have q4:=PySem.F.called_set.canCreate;have q5:=PySem.F.typeCall_set_1 (.ref l);refine wpAny_call (codeAny_of_tree ?_);show wpAny _ _ (callAny (.type "set") _) _ _ _;refine zwp ⟨Code.quiet_builtin _ (by decide +kernel),codeAny_builtin PySem.F.entry_type_call ?_⟩;rw[Around.under_plain (weight_type_call_type "set" [.ref l] []) rfl]
 repeat (any_goals first|assumption|wp_step)
 refine codeAny_mono (zad (.ref l) (E:=E) (Q₁:=fun obj s₁=>∃led:Bool,(zdF w=true\/led=true)/\obj=.ref s.heap.objs.size/\s₁={ s with heap:=s.heap.push (wt led) }) ⟨!zdF w,by cases zdF w <;> simp,rfl,rfl⟩) fun r s₁ hr=>?_
 rcases r with e|(_|_|_|obj)
 ·exact hr
 ·exact hr.elim
 ·exact hr.elim
 ·exact hr.elim
 ·obtain⟨led,hled,rfl,rfl⟩:=hr
  have hS:(s.heap.push (wt led)).get? s.heap.objs.size=some (wt led):=zgs _ rfl;have hT:Shared.TypeIs { s with heap:=s.heap.push (wt led) } (.ref s.heap.objs.size) "set":=⟨_,hS,rfl⟩
  have q6:=PySem.F.called_set.init.lookup;have q7:=PySem.F.called_set.init.bind (.ref s.heap.objs.size)
  repeat (any_goals first|assumption|wp_step)
  refine codeAny_mono (codeAny_call_builtin (R:=wants (fun r s₂=>r=.none/\∃h' tk c,s₂={ s with heap:=h',toks:=tk }/\uj P w h' s.heap.objs.size (seen (fun i=>zs.getD i "") (fun _=>false) 0 items.size) c/\∀b o,b<s.heap.objs.size->s.heap.get? b=some o->h'.get? b=some o) E) PySem.F.called_set.init.plain PySem.F.entry_set_init (check_set_init_1 hT ?_)) fun r₂ s₂ hr₂=>?_
  ·obtain⟨ol,hol,hcl,nl,hdl⟩:=id hl
   obtain⟨ocls,odict,odata,oslots⟩:=ol;simp only at hcl hdl;subst hcl hdl;have hol':(s.heap.push (wt led)).get? l=_:=zgp (wt led) hol;have t1:=PySem.F.sub_list_set;have t2:=PySem.F.sub_list_frozenset;have t3:(Value.type "list"==Value.type "dict")=false:=by decide
   have hl1:(s.heap.push (wt led)).IsList l items:=⟨_,hol',rfl,nl,rfl⟩;have hlS:l<s.heap.objs.size:=aI hol;unfold Builtin.«set.__init__» noKeywords Builtin.Frozenset.updateFrom;generalize hq:pyIter=pit
   wp_walk
   subst hq;refine wpAny_pyIter_list hl1 (zwb (wpAny_runValue ?_));have hz:(s.heap.push (wt led)).objs.size=s.heap.objs.size+1:=Heap.size_push ..;have n1:l≠(s.heap.push (wt led)).objs.size:=by rw[hz];exact ne_of_lt (lt_succ_of_lt hlS)
   have n2:∀b:Addr,b<s.heap.objs.size->b∉[s.heap.objs.size,(s.heap.push (wt led)).objs.size]:=fun b hb' z=>by
    rw[hz] at z;rcases List.mem_cons.mp z with e|e
    ·exact ne_of_lt hb' e
    ·exact ne_of_lt (lt_succ_of_lt hb') (List.mem_singleton.mp e)
   have n3:s.heap.objs.size∉[(s.heap.push (wt led)).objs.size,l]:=fun z=>by
    rw[hz] at z;rcases List.mem_cons.mp z with e|e
    ·exact ne_of_lt (lt_succ_self _) e
    ·exact ne_of_gt hlS (List.mem_singleton.mp e)
   refine js ((Walks.list (by simp [hh]) _ l n1 items).toS) s.heap.objs.size n3 (fun i=>zs.getD i "") hv hb items.size 0 _ (fun _=>false) 0 ∅ (zero_le _) ⟨⟨_,zgs _ rfl,rfl,rfl⟩,hl1.push _⟩ (aF _) ?_ ?_
   ·exact⟨_,#[],0,_,zgp _ hS,⟨rfl,rfl,rfl⟩,rfl,fun e he=>by simp at he,fun k=>by simp,by unfold scanBound;decide,by rfl,rfl,by simp,hled,fun _=>rfl⟩
   ·rintro⟨h',g',d',tk',os'⟩ c' hm hc' hS'
    have e1:g'=s.gens:=hm.gens;have e2:d'=s.drawn:=hm.drawn;have e3:os'=s.os:=hm.os;subst e1 e2 e3;show wpAny _ _ _ _ _ _;refine zwp ?_;show wpAny _ _ (ret Value.none) _ _ _;refine zwp ⟨rfl,h',tk',c',rfl,hS',fun b o hb' e=>hm.heap b o (n2 b hb') (zgp _ (zgp _ e))⟩
  ·rcases r₂ with e|(_|_|_|ob2)
   ·exact hr₂
   ·exact hr₂.elim
   ·exact hr₂.elim
   ·exact hr₂.elim
   ·obtain⟨rfl,h',tk,c',rfl,hS',hk'⟩:=hr₂
    repeat (any_goals first|assumption|wp_step)
    exact h _ _ _ hS' hk'
namespace FS
end FS
section
variable {E:VSP}
end
end L2
namespace L2
open PySem PySem.Spec PyProof.Rows
section
variable {E:VSP}
def zmA(P:Program)(w:World)(a:Addr)(S:Str->Bool)(n:Nat)(h:Heap):Prop:=uj P w h a S n
abbrev zd6(P:Program)(w:World)(a:Addr)(S:Str->Bool)(n:Nat):HO:=.ext (zmA P w a S n)
theorem zfY{S:Str->Bool}{n:Nat}(e:uj P w h a S n):yD P w H h a (zd6 P w a S n):=
 ⟨e,let ⟨o,_,_,_,h1,_⟩:=e;⟨o,h1⟩,fun g1 g2 q k=>let ⟨o,es,ep,t,h1,c⟩:=q;⟨o,es,ep,t,k o h1,c⟩⟩
theorem zfW{P:Program}{w:World}{h:Heap}{a:Addr}{zs:List Str}{n:Nat}(hS:uj P w h a (fun z=>decide (z∈zs)) n):n<=zs.length:=by
 obtain⟨o,es,ep,t,ho,hex,hd,hel,hmem,hb,hf,hn,hnd,_⟩:=hS
 have:=je (es.toList.map fun e=>zay e.2) zs hnd fun z hz=>by
  obtain⟨e,he,e1⟩:=List.mem_map.mp hz;obtain⟨⟨k,hk,_⟩,_⟩:=hel e he
  have:=(hmem k).mpr ⟨e,he,hk⟩
  obtain⟨tk,e2⟩:=Value.isStrOf_shape hk;rw[e2] at e1;have e1:k=z:=e1;rw[<- e1];exact of_decide_eq_true this
 rw[aA,Array.length_toList] at this;omega
theorem zfs{X:Cx}(hc:X.calm=true):xQ X (.type "set") (fun xs H Q=>∃(p:Addr) (zs:List Str),xs=[.ref p]/\SqL X.K H p (zs.map V.str)/\zs.length<=900/\∀(l:Addr) (n:Nat),H l=none->Q (.ref l) (upd H l (zd6 X.prog X.w l (fun z=>decide (z∈zs)) n))):=by
 intro pins s σ H xs us Q I r h;obtain⟨p,zs,rfl,hS,lz,q⟩:=h;obtain⟨u,rfl,ru⟩:=wQ r;cases ru;obtain⟨its,rv,hp,hz⟩:=I.list hS;have hl:its.length=zs.length:=by rw[<- rv.length,aA]
 have hb:its.toArray.size+1<scanBound:=by
  rw[size_toArray,hl];have : 1000<scanBound:=by unfold scanBound;decide
  omega
 refine zco (I.ok.hd hc) hp.isList (fun i v e=>rv.strs_at i v (by simpa using e)) hb fun h' tk c hS' hk=>?_
 have hsz:its.toArray.size=zs.length:=by rw[size_toArray,hl]
 rw[hsz] at hS';have eS:seen (fun i=>zs.getD i "") (fun _=>false) 0 zs.length=fun z=>decide (z∈zs):=funext (zbO zs);rw[eS] at hS';exists .ref s.heap.objs.size,_,I.laid (t':=tk) (fun b ob e=>hk b ob (aI e) e) (aF _) (zfY hS'),rfl,q _ c (I.hok.fresh (aF _))
theorem uj.setOf{S:Str->Bool}{n:Nat}(hS:uj P w h a S n):h.SetOf (PySem.strKind P w) a S n:=by
 obtain⟨o,es,ep,t,h1,h2,h3,h4,h5,h6,h7,h8,_⟩:=hS;exact⟨o,es,ep,t,h1,h2,h3,h4,h5,h6,h7,h8⟩
theorem zle{zs:List Str}(h:¬zs.Nodup):∃z∈zs,z∈zs.erase z:=by
 induction zs with
 | nil=>exact absurd nodup_nil h
 | cons x xs ih=>
  by_cases hx:x∈xs
  ·exact⟨x,mem_cons_self,by rw[List.erase_cons_head];exact hx⟩
  ·obtain⟨z,h1,h2⟩:=ih fun c=>h (List.nodup_cons.mpr ⟨hx,c⟩)
   exists z,mem_cons_of_mem _ h1,?_
   have:x≠z:=fun e=>hx (by rw[e];exact h1)
   rw[List.erase_cons_tail (by simpa using this)]
   exact mem_cons_of_mem _ h2
theorem zfX{P:Program}{w:World}{h:Heap}{a:Addr}{zs:List Str}{n:Nat}(hS:uj P w h a (fun z=>decide (z∈zs)) n)(hd:¬zs.Nodup):n<zs.length:=by
 obtain⟨z,h1,h2⟩:=zle hd;have e:(fun y=>decide (y∈zs))=fun y=>decide (y∈zs.erase z):=funext fun y=>by
  refine decide_eq_decide.mpr ⟨fun hy=>?_,fun hy=>List.mem_of_mem_erase hy⟩;by_cases c:y=z
  ·rw[c];exact h2
  ·exact(List.mem_erase_of_ne c).mpr hy
 rw[e] at hS
 have:=zfW hS
 rw[List.length_erase_of_mem h1] at this
 have:=List.length_pos_of_mem h1
 omega
theorem zfx:xQ X (.builtin "len") (fun xs H Q=>∃(a:Addr) (zs:List Str) (n:Nat),xs=[.ref a]/\H a=some (zd6 X.prog X.w a (fun z=>decide (z∈zs)) n)/\((decide (n<zs.length)=!decide zs.Nodup)->Q (.int n) H)):=by
 intro pins s σ H xs us Q I r h;obtain⟨a,zs,n,rfl,e,q⟩:=h;obtain⟨u,rfl,ru⟩:=wQ r;cases ru;have hS:uj X.prog X.w s.heap a (fun z=>decide (z∈zs)) n:=(I.hok a _ e).1;have hq:decide (n<zs.length)=!decide zs.Nodup:=by
  by_cases c:zs.Nodup
  ·rw[aC c,aD]
   ·rfl
   ·have:=zfZ hS.setOf c
    omega
  ·rw[aD c,aC (zfX hS c)]
   rfl
 obtain⟨o,es,ep,t,ho,hx,hd,_,_,hb,hf,hn⟩:=hS.setOf;have h63:(es.size:Int)<2 ^ 63:=by
  have:scanBound<2 ^ 63:=by unfold scanBound;decide
  omega
 refine call_len_set ho hx hd hf h63 ?_;exact⟨.int es.size,H,I.tok _,⟨_,rfl⟩,by rw[hn];exact q hq⟩
theorem zam{val:Nat->Int}{n:Nat}(h:∀i,i<n->0<=val i/\val i<=1000):∀j,j<=n->0<=preSum val j/\preSum val j<=1000 * j
 | 0,_=>⟨Int.le_refl _,Int.le_refl _⟩
 | j+1,hj=>by
  have ih:=zam h j ∅
  have:=h j ∅
  show 0<=preSum val j+val j/\preSum val j+val j<=_;omega
theorem zfr(hc:X.calm=true):xQ X (.builtin "sum") (fun xs H Q=>∃(p:Addr) (ns:List Int),xs=[.ref p]/\SqL X.K H p (ns.map V.int)/\ns.length<=100/\(∀n∈ns,0<=n/\n<=1000)/\∀m:Int,0<=m->m<=100000->Q (.int m) H):=by
 intro pins s σ H xs us Q I r h;obtain⟨p,ns,rfl,hS,l1,hb,q⟩:=h;obtain⟨u,rfl,ru⟩:=wQ r;cases ru;obtain⟨its,rv,hp,hz⟩:=I.list hS;have hlen:its.length=ns.length:=by rw[<- rv.length,aA]
 have hlt:p<s.heap.objs.size:=by obtain⟨_,e,_⟩:=hp.isList;exact aI e
 have hpne:p≠s.heap.objs.size:=ne_of_lt hlt;have hval:∀(i:Nat) v,its.toArray[i]?=some v->∃t,v=.int (ns.getD i 0) t:=fun i v hP=>by
  have hv:its[i]?=some v:=by simpa using hP
  have hi:i<ns.length:=by rw[<- hlen];exact(List.getElem?_eq_some_iff.mp hv).1
  obtain⟨u',e1,t,e2⟩:=rv.get (i:=i) (x:=V.int ns[i]) (by rw[getElem?_map,aB hi];rfl)
  rw[hv] at e1;cases e1;exists t,?_;rw[e2,getD_eq_getElem?_getD,aB hi];rfl
 have hn:its.toArray.size=ns.length:=by rw[size_toArray,hlen]
 have hv2:∀i,i<ns.length->0<=ns.getD i 0/\ns.getD i 0<=1000:=fun i hi=>by
  rw[getD_eq_getElem?_getD,aB hi];exact hb _ (getElem_mem hi)
 have ps:=zam (val:=fun i=>ns.getD i 0) hv2;refine call_sum_walkS (wpAny_pyIter_list hp.isList ?_);exists s.heap.objs.size,_,_,_,_,_,_,fun i=>ns.getD i 0,rfl,(Walks.list (A:=X.A.in1) (I.ok.hd hc) s.heap.objs.size p hpne its.toArray).toS,⟨⟨_,zgs _ rfl,rfl,rfl⟩,hp.isList.push _⟩,fun b hb=>?_,hval,fun j hj=>?_,fun s' t' hm=>?_
 ·show b<(s.heap.push _).objs.size
  rw[Heap.size_push];rcases List.mem_cons.mp hb with e|hb
  ·rw[e];exact lt_succ_self _
  ·rw[List.mem_singleton.mp hb];exact lt_succ_of_lt hlt
 ·rw[hn] at hj
  have h1:=hv2 j hj;have h2:=ps (j+1) ∅
  have e:(2:Int) ^ 63=9223372036854775808:=by decide
  refine⟨⟨?_,?_⟩,⟨?_,?_⟩⟩ <;> rw[e] <;> (try dsimp only) <;> omega
 ·have hq:=ps ns.length (aF _)
  rw[hn];have em:=Moved.eq_with hm;rw[em];exists .int _,H,I.kept (t':=s'.toks) (fun b o e=>hm.heap b o (fun hmem=>?_) (zgp _ e)),⟨t',rfl⟩,q _ hq.1 ∅
  have:=List.mem_singleton.mp hmem
  rw[this] at e;exact absurd (aI e) (lt_irrefl _)
theorem zfj:∀zs,(PySem.Builtin.Str.glued "" zs).cps.toList=(zs.map fun z=>z.cps.toList).flatten:=by
 intro zs;have h:∀(ya:List Str) (acc:Array Nat),(ya.foldl (fun acc p=>acc++("" : Str).cps++p.cps) acc).toList=acc.toList++(ya.map fun z=>z.cps.toList).flatten:=fun ya=>by
  induction ya with
  | nil=>intro acc;simp
  | cons z ya ih=>
   intro acc;rw[List.foldl_cons,ih];have e:("" : Str).cps=#[]:=by decide +kernel
   rw[e];simp
 cases zs with
 | nil=>decide +kernel
 | cons z ya=>
  show(ya.foldl (fun acc p=>acc++("" : Str).cps++p.cps) z.cps).toList=_;rw[h];rfl
theorem zdS:∀{zs:List Str}{us:List Value},zX (zs.map V.str) us->∃l:List (Str×Tok),us=strValues l/\l.map (·.1)=zs
 | [],_,.nil=>⟨[],rfl,rfl⟩
 | z::zs,_,.cons r t=>by
  obtain⟨tk,rfl⟩:=r;obtain⟨l,e1,e2⟩:=zdS t;exact⟨(z,tk)::l,by rw[e1];rfl,by rw[map_cons,e2]⟩
inductive zkxJ(x:V)(vs:List V)(H:Hp)(Q:VK):Prop|mk(p:Addr)(zs:List Str):x=.str ""->vs=[.ref p]->H p=some (.lst (zs.map V.str))->zs.length<=1000->(∀z∈zs,z.length<=100)->(∀y:Str,y.cps.toList=(zs.map fun z=>z.cps.toList).flatten->Q (.str y) H)->zkxJ x vs H Q
def zkx:V->List V->Hp->VK->Prop:=fun x vs H Q=>zkxJ x vs H Q
theorem zhf:MtR X "str.join" zkx:=by
 intro pins s σ H x vs v us Q I rx rv h;obtain⟨p,zs,rfl,rfl,hH,l1,hb,q⟩:=h;obtain⟨t,rfl⟩:=rx;obtain⟨u,rfl,ru⟩:=wQ rv;cases ru;obtain⟨its,rv,hp,hz⟩:=I.list (zc hH);obtain⟨l,e1,e2⟩:=zdS rv;subst e1;refine SC.join (x:="") hp.isList e2 ?_ fun t' k=>?_
 ·unfold JoinOk
  rw[PySem.StrLaws.joinFits (B:=100) hb (by
   have e:("" : Str).length=0:=by decide +kernel
   rw[e]
   omega)]
  rfl
 ·exact⟨.str _,H,I.tok _,⟨t',rfl⟩,q _ (zfj zs)⟩
end
end L2
namespace K44
open PySem L2 PyProof.Rows
inductive zcy(vs:List V)(H:Hp)(Q:VK)(E:XK):Prop|mk(c:Int):vs=[.int c]->(∀n:Int,Q (.int n) H)->zcy vs H Q E
inductive uX(K:Frag)(vs:List V)(H:Hp)(Q:VK)(E:XK):Prop|mk(c:Int)(a:Addr)(ds:List Nat):vs=[.int c,.ref a]->SqL K H a (ds.map fun d=>V.int (d:Nat))->(∀d∈ds,0<d/\d<=2 * 10 ^ 60)->((∀d∈ds,d<=64)\/ds.length<=1)->ds.length<=30->(∀(t l:Addr) (fs:List Nat) (ya:Int) (H':Hp),zq H H'->H l=none->H' t=some (.tup [.ref l,.int ya])->H' l=some (.lst (fs.map fun x=>V.int (x:Nat)))->fs.length=ds.length->(∀i,i<ds.length->fs.getD i 0<ds.getD i 0)->Q (.ref t) H')->uX K vs H Q E
section
variable {mg:Str->Option Value}
theorem za5:zp ["_law_cell","_law_number","_law_k"] ["_law_cell"] (zi zga):=fsc
theorem ziG{P:Program}{w:World}{K:Frag}{base:Heap}{f:Addr}{fd:FuncData}{g1:Addr}{e1:FuncData}(F:Fun K "_law_rich" "_law_rich" zga f fd)(hrg:mg "range"=none)(cM:⇑1 "_law_mix" g1 e1 ["_law_cell","_law_k"] zjB):↥2 f fd ["_law_cell"] zcy:=by
 specialize za5;obtain⟨c,rfl,q⟩:=h;refine za5[1]'zh;refine zr (yr PassesOwn.never rfl (yO rfl hrg (ac zh zb)) (zl (i:=2) za5.nd rfl (Or.inl rfl)) zW) ?_;exists 12,rfl,⋯,⋯,?_
 refine xH (n:=12) (fun i σ H'=>∃(n:Int) (v2:Option V),σ=[some (.int c),some (.int n),v2]/\H=H') ⟨0,_,rfl,rfl⟩ ?_ ?_
 ·rintro i σ H' hi ⟨n,v2,rfl,rfl⟩
  rw[Int.zero_add];exfalso;exists _,zd (zB (i:=1) za5.nd rfl (Or.inl rfl) (zN xt (zN ziy (pv 1) zh) (cF cM hr (ac (pv 0) (ac (pv 2) zb))))),?_;exists _,rfl,_,_,rfl,rfl,IntMulOk.of_right (intBits_le_64 ⋯ ⋯),_,rfl,_,rfl,c,i,rfl,∅,fun m m0 m1=>?_
  exact⟨_,_,rfl,rfl,_,_,rfl,rfl⟩
 ·rintro σ H' ⟨n,v2,rfl,rfl⟩
  exact⟨_,zd (zt (pv 1)),_,rfl,q n⟩
theorem qa:zp ["_law_cell","_law_sizes","_law_found","_law_size"] ["_law_cell","_law_sizes"] (zi zf7):=fsc
theorem ziC{P:Program}{w:World}{K:Frag}{base:Heap}{f:Addr}{fd:FuncData}{g1:Addr}{e1:FuncData}(F:Fun K "_law_take" "_law_take" zf7 f fd)(hsm:mg "sum"=none)(hln:mg "len"=none)(cR:⇑2 "_law_rich" g1 e1 ["_law_cell"] zcy):↥3 f fd ["_law_cell","_law_sizes"] (uX K):=by
 specialize qa;obtain⟨c,a,ds,rfl,ha,hd,sm,l30,q⟩:=h;refine qa[2]'(zZ zb);exists x8,fun lf hlf=>?_;exfalso
 injections lf hlf H1 s1 g1
 refine zr (yr PassesOwn.never rfl (yb (pv 1)) (zl (i:=3) qa.nd rfl (Or.inl rfl)) zW) ?_;exists _,rfl,a,rfl,⟨_,s1.seq ha⟩,yY (K:=K) (a:=a) (xs:=ds.map fun d=>V.int (d:Nat)) (fun i σ H'=>∃(c:Int) (v3:Option V) (fs:List Nat),σ=[some (.int c),~~~a,~~~lf,v3]/\zq H H'/\H' lf=some (.lst (fs.map fun x=>V.int (x:Nat)))/\fs.length=i/\∀j,j<i->fs.getD j 0<ds.getD j 0) ⟨c,_,[],rfl,s1,g1,rfl,fun j hj=>absurd hj (not_lt_zero _)⟩ (fun i σ H' _ ⟨_,_,_,_,sH,_⟩=>sH.seq ha) ?_ ?_
 ·rintro i x σ H2 hx ⟨c,v3,fs,rfl,s2,hf2,lf2,lt2⟩
  rw[getElem?_map] at hx;obtain⟨d,hd',rfl⟩:=Option.map_eq_some_iff.mp hx;have hi:i<ds.length:=(List.getElem?_eq_some_iff.mp hd').1;obtain⟨d0,d64⟩:=hd d (aH hd');exfalso;refine zr (zJ (yy (vy (zn ye (pv 0) zh (zv _)) (wx (zn ye (pv 0) (zlY zjS zh) (zv _))))) (zd (zB (i:=0) qa.nd rfl (Or.inl rfl) (cF cR hr (ac (zN xt (cB (zfr rfl) hsm boot_sum (ac (pv 2) zb)) (zN xV zh (cB zF hln PySem.boot_len (ac (pv 2) zb)))) zb)))) zx) ?_;refine xC (fun σ' H'=>∃c':Int,σ'=[some (.int c'),~~~a,~~~lf,some (.int (d:Nat))]/\H2=H') ?_ (fun key=>?_);rotate_left
  ·exists _,rfl,rfl,_,rfl,?_
   have e1:H2 lf=some (.lst ((fs.map fun (x:Nat)=>(x:Int)).map V.int)):=by rw[hf2,map_map];rfl
   have hs:∀n∈fs.map (fun (x:Nat)=>(x:Int)),0<=n/\n<=1000:=fun n hn=>by
    obtain⟨y,hy,rfl⟩:=List.mem_map.mp hn;obtain⟨j,hj,ej⟩:=List.mem_iff_getElem.mp hy;rcases sm with sm|sm
    ·have h1:=lt2 j ∅
     have h2:ds.getD j 0<=64:=by
      rw[getD_eq_getElem?_getD,aB ∅]
      exact sm _ (getElem_mem ∅)
     rw[getD_eq_getElem?_getD,aB hj] at h1;have h1:fs[j]<ds.getD j 0:=h1;rw[ej] at h1;omega
    ·omega
   by_cases h0:V.int c=V.int 0
   ·refine dT h0 ?_
    refine xu ?_;exists _,rfl,lf,_,rfl,zc e1,by rw[aA];omega,hs,fun m m0 m1=>?_
    exists _,rfl,lf,_,rfl,.inl (zc hf2),_,_,rfl,rfl,.inl ⟨∅,∅⟩,_,_,rfl,rfl,_,rfl,fun n=>?_
    exact key _ _ ⟨n,rfl,rfl⟩
   refine dF h0 ?_;exists _,rfl,_,rfl,rfl,_,rfl,?_;by_cases h1:V.int c=V.int (-1)
   ·refine dT h1 ?_
    exists _,rfl,lf,_,rfl,zc e1,by rw[aA];omega,hs,fun m m0 m1=>?_
    exists _,rfl,lf,_,rfl,.inl (zc hf2),_,_,rfl,rfl,.inl ⟨∅,∅⟩,_,_,rfl,rfl,_,rfl,fun n=>?_
    exact key _ _ ⟨n,rfl,rfl⟩
   refine dF h1 ?_;exact key _ _ ⟨c,rfl,rfl⟩
  rintro σ _ ⟨c',rfl,rfl⟩;have e0:=emod_nonneg c' (show((d:Nat):Int)≠0 by omega)
  have e1:=emod_lt_of_pos c' (show(0:Int)<((d:Nat):Int) by omega)
  obtain⟨x,hx'⟩:=eq_ofNat_of_zero_le e0;refine zr (zG (yt PySem.F.plainAttrs_list PySem.F.slot_list_append PySem.F.type_list_append zK (pv 2) (ac (zN wM (pv 0) (pv 3)) zb))) ?_;exists _,rfl,.inl ⟨rfl,_,zc hf2⟩,_,rfl,_,rfl,_,_,rfl,rfl,(by show(0:Int)<((d:Nat):Int);omega),lf,_,_,rfl,rfl,hf2,zE (by rw[aA];omega),?_
  exists _,zd (zB (i:=0) qa.nd rfl (Or.inl rfl) (zN zgF (pv 0) (pv 3))),?_;exists _,rfl,_,rfl,_,_,rfl,rfl,⟨∅,∅⟩,?_
  exists _,_,fs++[x],rfl,yw s2 hlf _,by rw[za,hx',aE];rfl,by rw[aG,lf2];rfl,fun j hj=>?_
  rcases lt_or_ge j i with c1|c1
  ·rw[getD_eq_getElem?_getD,getElem?_append_left ∅,<- getD_eq_getElem?_getD]
   exact lt2 j c1
  ·have:j=i:=by omega
   subst this;have e2:(fs++[x]).getD j 0=x:=by
    rw[getD_eq_getElem?_getD,getElem?_append_right ∅,lf2,sub_self]
    rfl
   have e3:ds.getD j 0=d:=by rw[getD_eq_getElem?_getD,hd'];rfl
   rw[e2,e3];omega
 ·rintro σ H2 ⟨c,v3,fs,rfl,s2,hf2,lf2,lt2⟩
  rw[aA] at lf2 lt2;exists _,zd (zt (zQ (ac (pv 2) (ac (pv 0) zb)))),?_;exists _,rfl,_,rfl,yL,fun t ht=>?_;have s3:=zg ht (.tup [.ref lf,.int c]);exact q t lf fs c _ (s2.trans s3) hlf za (s3 _ _ hf2) lf2 lt2
end
end K44
namespace L2
open PySem PySem.Spec PyProof.Rows
inductive zmVJ(x:V)(y:V)(H:Hp)(Q:VK):Prop|mk(a b:Addr)(xs:List V):x=.ref a->y=.ref b->H a=some (.lst xs)->H b=some (.lst [])->(Q (.bl (!decide (xs=[]))) H)->zmVJ x y H Q
def zmV:R2:=fun x y H Q=>zmVJ x y H Q
theorem zgE(hu:X.A.units<cLine):OpR X (compareOp .NotEq) zmV:=by
 intro pins s σ H x y v u Q I rx ry h;obtain⟨a,b,xs,rfl,rfl,ha,hb,q⟩:=h;cases rx;cases ry;obtain⟨ia,va,pa,_⟩:=I.list (zc ha);obtain⟨ib,vb,pb,_⟩:=I.list (zc hb);cases vb;by_cases e:xs=[]
 ·subst e
  cases va;rw[aC rfl] at q;have t2:=SeqAt.RcNeAt.lists (A:=X.A) (s:=s) (e:=fun _=>true) pa.isList pb.isList rfl hu (fun j h1 h2=>absurd h1 (by simp))
  rw[vP] at t2;exact t2 X.prog X.w X.xe _ ⟨.bl false,H,I,rfl,q⟩
 ·rw[aD e] at q
  have l1:=va.length
  have:ia.length≠0:=fun z=>e (List.eq_nil_of_length_eq_zero ∅)
  exact SeqAt.RcNeAt.lists_lengths pa.isList pb.isList (by simp;exact fun z=>this (by rw[z];rfl)) hu X.prog X.w X.xe _ ⟨.bl true,H,I,rfl,q⟩
end L2
namespace K44
open PySem L2 PyProof.Rows
theorem jT{ts:List Int}{i:Nat}{x:V}(h:(ts.map V.int)[i]?=some x):∃t,ts[i]?=some t/\x=.int t:=by
 rw[getElem?_map] at h;cases e:ts[i]? with
 | none=>rw[e] at h;cases h
 | some it=>rw[e] at h;exact⟨it,rfl,(Option.some.inj h).symm⟩
theorem zli:∀m,m<26->(Str.ofString "abcdefghijklmnopqrstuvwxyz").cps.toList[m]?=some (97+m):=by decide +kernel
structure Abc(z:Str)(n:Nat):Prop where
 len:z.length=n
 pos : 0<n
 le:n<=26
 at_:∀m,m<n->z.cps.toList[m]?=some (97+m)
theorem zjP:Abc "abcdefghijklmnopqrstuvwxyz" 26:=⟨by decide +kernel,⋯,⋯,zli⟩
inductive zfT(K:Frag)(vs:List V)(H:Hp)(Q:VK)(E:XK):Prop|mk(a:Addr)(ns:List Int):vs=[.ref a]->SqL K H a (ns.map V.int)->ns.length<=63->(∀(l:Addr) (cs:List Int) (H':Hp),zq H H'->H l=none->H' l=some (.lst (cs.map V.int))->cs.length=ns.length->Q (.ref l) H')->zfT K vs H Q E
inductive zaW(K:Frag)(vs:List V)(H:Hp)(Q:VK)(E:XK):Prop|mk(c:Int)(a:Addr)(zs:List Str):vs=[.int c,.ref a]->H a=some (.lst (zs.map V.str))->(∀z∈zs,xn z=true)->zs.length<=500->(∀(t:Addr) (z:Str) (ya:Int) (H':Hp),zq H H'->H' t=some (.tup [.str z,.int ya])->xn z=true->Q (.ref t) H')->zaW K vs H Q E
section
variable {P:Program}{mg:Str->Option Value}
theorem znj:([Str.ofString "_law_cell"]:List Str).Nodup:=by decide +kernel
theorem zne:([Str.ofString "_law_letter"]:List Str).Nodup:=by decide +kernel
theorem zkg:zp ["_law_script"] ["_law_script"] (zi zgi):=fsc
theorem ziR{w:World}{K:Frag}{base:Heap}{f:Addr}{fd:FuncData}{g1 g2:Addr}{e1 e2:FuncData}(F:Fun K "_law_half" "_law_half" zgi f fd)(hls:mg "list"=none)(cN:⇑1 "_law_nth" g1 e1 ["_law_script","_law_k"] (zaU K))(cR:⇑2 "_law_rich" g2 e2 ["_law_cell"] zcy):↥3 f fd ["_law_script"] (zfT K):=by
 specialize zkg;obtain⟨a,ns,rfl,ha,l63,q⟩:=h;have hr1:yg 1 _:=hr.mono ⋯
 refine zr (zJ (zn zap (cF cN hr1 (ac (pv 0) (ac zh zb))) (zN zda zh zh) (zv _)) (zd (zt (cTy xa hls PyProof.Rows.boot_list (ac (pv 0) zb)))) zx) ?_;exists _,rfl,a,ns,0,rfl,ha,fun n0=>⟨_,_,rfl,rfl,⟨⋯,⋯,⋯⟩,_,_,rfl,rfl,_,rfl,?_⟩
 refine vE (fun _=>?_) (fun _=>?_)
 ·exists _,rfl,a,_,rfl,.inl ha,fun l hl=>?_
  exact q l ns _ (zg hl _) hl za rfl
 refine⟨_,zd (zt (xF [] ["_law_cell"] [none] rfl ⟨rfl,rfl,rfl,rfl⟩ (yb (pv 0)) (yc 0) rfl rfl rfl
  (fun pins fp s H C=>⟨zl (i:=0) znj rfl (Or.inl rfl) (.inr rfl),yS,cF cR hr (ac (pv 0) zb)⟩))),?_⟩
 exists _,rfl,a,rfl,⟨_,ha⟩,fun D hD=>?_;refine wF (K:=K) (xs:=ns.map V.int) (fun i ys H'=>zq H H'/\H' D=some (.lst ys)/\∃cs:List Int,ys=cs.map V.int/\cs.length=i) ⟨zg hD _,za,[],rfl,rfl⟩ (fun i ys H' h=>h.1.seq ha) ?_ ?_
 ·rintro i x ys H' hi hx ⟨sH,hDy,cs,ey,el⟩
  obtain⟨k,hk,rfl⟩:=jT hx;rw[aA] at hi;exists fun _=>⟨_,rfl,k,rfl,fun n=>?_⟩,fun z=>absurd z ⋯
  exact lcN.mk (by rw[aA];exact hi) (by rw[aA];exact xo ∅) hDy (by rw[ey,aA];omega) ⟨yw sH hD _,za,cs++[n],by rw[ey,aE];rfl,by rw[aG,el];rfl⟩
 ·rintro ys H' ⟨sH,hDy,cs,ey,el⟩
  rw[aA] at el;exact q D cs H' sH hD (by rw[hDy,ey]) el
theorem zcH:zp ["_law_cell","_law_known","_law_told","_law_rest"] ["_law_cell","_law_known"] (zi zcY):=fsc
theorem ziL{w:World}{K:Frag}{base:Heap}{f:Addr}{fd:FuncData}{g1:Addr}{e1:FuncData}(F:Fun K "_law_name" "_law_name" zcY f fd)(hln:mg "len"=none)(cT:⇑3 "_law_take" g1 e1 ["_law_cell","_law_sizes"] (uX K)):↥4 f fd ["_law_cell","_law_known"] (zaW K):=by
 specialize zcH;obtain⟨c,a,zs,rfl,ha,hz,l5,q⟩:=h;have hU:=hr.units;have hU0:_<cLine:=Nat.lt_of_le_of_lt (le_add_right _ 64) hU;refine zr (y8 (cF cT hr (ac (pv 0) (ac (zN vm (zZ (ac zh (ac zh (ac zh zb)))) (zN zkE (zZ (ac zh zb)) zh)) zb))) (yi rfl (zo (zl (i:=2) zcH.nd rfl (Or.inl rfl)) (zo (zl (i:=3) zcH.nd rfl (Or.inl rfl)) zT)))) ?_;exists _,rfl,za0,fun l1 hl1=>⟨za1,fun l2 hl2=>?_⟩;have s1:=zg hl1 (.lst [.int 2,.int 64,.int 8]);have s2:=zg hl2 (.lst [.int 26]);exists l2,_,_,rfl,rfl,za,⋯,⋯,(by show 1 * 8<=sizeLine;decide),fun l3 hl3=>?_
 have s3:=zg hl3 (.lst (List.replicate (8:Int).toNat [V.int 26]).flatten);exists l1,l3,_,_,rfl,rfl,(s2.trans s3) _ _ za,za,(by show 3+8<=sizeLine;decide),fun l4 hl4=>?_
 have s4:=zg hl4 (.lst ([V.int 2,.int 64,.int 8]++(List.replicate (8:Int).toNat [V.int 26]).flatten));have s04:=s1.trans (s2.trans (s3.trans s4));exists c,l4,[2,64,8,26,26,26,26,26,26,26,26],rfl,zc za,⋯,.inl ⋯,⋯,fun t lf fs ya H5 s5 nlf ht hlf lfs hfs=>?_
 exists t,_,rfl,zz ht,rfl,_,_,rfl,_,_,rfl,rfl,?_;have s05:=s04.trans s5;clear s04 s5 nlf ht;have lfs:fs.length=11:=lfs;have f0:=hfs 0 ⋯
 have f1:=hfs 1 ⋯
 have f2:fs.getD 2 0<8:=hfs 2 ⋯
 have fL:∀j,3<=j->j<11->fs.getD j 0<26:=fun j h1 h2=>by
  have:=hfs j (by show j<11;exact h2)
  have e:([2,64,8,26,26,26,26,26,26,26,26]:List Nat).getD j 0=26:=by
   have:∀j:Nat,j<11->3<=j->([2,64,8,26,26,26,26,26,26,26,26]:List Nat).getD j 0=26:=by decide
   exact this j h2 h1
  rw[e] at this;exact this
 have fAt:∀j:Nat,j<11->atI (fs.map fun x=>V.int (x:Nat)) (j:Int)=some (.int (fs.getD j 0:Nat)):=fun j hj=>yF (by rw[getElem?_map,aB ∅,getD_eq_getElem?_getD,aB ∅];rfl)
 exfalso;refine zr (zJ (yy (yz (zn ye (zu zy (pv 2) zh (fun _ _=>rfl)) zh (zv _)) (yq (zn (zgE hU0) (pv 1) (zZ zb) (zv _))))) (zd (zt (zQ (ac (zu zy (pv 1) (zN wM (zu zy (pv 2) zh (fun _ _=>rfl)) (cB zF hln PySem.boot_len (ac (pv 1) zb))) (fun _ _=>rfl)) (ac (pv 3) zb))))) zx) ?_;refine xC (fun σ' H'=>σ'=[some (.int c),~~~a,~~~lf,some (.int ya)]/\zq H H'/\H' lf=some (.lst (fs.map fun x=>V.int (x:Nat)))) ?_ (fun key=>?_);rotate_left
 ·exists _,rfl,lf,_,0,_,rfl,rfl,zc hlf,fAt 0 ⋯,rfl,_,rfl,?_
  refine vE (fun _=>?_) (fun _=>?_);rotate_left
  ·exact key _ _ ⟨rfl,s05,hlf⟩
  exists _,rfl,x8,fun le hle=>?_;have s6:=zg hle (.lst []);have s06:=s05.trans s6;exists a,le,_,rfl,rfl,s06 _ _ ha,za,_,rfl,?_;by_cases hn:zs.map V.str=[]
  ·refine yR (by rw[aC hn];rfl) ?_
   exact key _ _ ⟨rfl,s06,s6 _ _ hlf⟩
  refine xE (by rw[aD hn];rfl) ?_
  have z0 : 0<zs.length:=by
   rcases Nat.eq_zero_or_pos zs.length with h|h
   ·exact absurd (by rw[List.eq_nil_of_length_eq_zero h];rfl) hn
   ·exact h
  have m0:=emod_nonneg ((fs.getD 1 0:Nat):Int) (show((zs.length:Nat):Int)≠0 by omega)
  have m1:=emod_lt_of_pos ((fs.getD 1 0:Nat):Int) (show(0:Int)<((zs.length:Nat):Int) by omega)
  obtain⟨j,hj⟩:=eq_ofNat_of_zero_le m0;have hjz:j<zs.length:=by omega
  exists _,rfl,_,rfl,lf,_,1,_,rfl,rfl,zc (s6 _ _ hlf),fAt 1 ⋯,_,rfl,a,_,rfl,.inl (zc (s06 _ _ ha)),_,_,rfl,rfl,(by rw[aA];show(0:Int)<_;omega),a,_,_,.str zs[j],rfl,rfl,zc (s06 _ _ ha),(by rw[aA,hj];exact yF (by rw[getElem?_map,aB hjz];rfl)),_,rfl,yL,fun u hu=>?_
  have s7:=zg hu (.tup [.str zs[j],.int ya]);exact q u _ ya _ (s06.trans s7) za (hz _ (getElem_mem hjz))
 rintro σ H6 ⟨rfl,s06,hlf6⟩;refine⟨_,zd (zt (zQ (ac (yt PySem.F.plainAttrs_str PySem.F.slot_str_join PySem.F.type_str_join zhf zw (ac (xF [] ["_law_letter"] [none] rfl ⟨rfl,rfl,rfl,rfl⟩ (yb (wX vS (pv 2) (xZ zh) (xZ (zN xt zh (zu zy (pv 2) zh (fun _ _=>rfl)))))) (yc 0) rfl rfl rfl
  (fun pins fp s H C=>⟨zl (i:=0) zne rfl (Or.inl rfl) (.inr rfl),yS,zu zk2 zw (pv 0) (fun _ _=>rfl)⟩)) zb)) (ac (pv 3) zb)))),?_⟩
 exists rfl,_,rfl,_,rfl,_,rfl,lf,_,2,_,rfl,rfl,zc hlf6,fAt 2 ⋯,_,_,rfl,rfl,_,rfl,lf,_,rfl,zc hlf6,fun l7 hl7=>?_
 have ecut:jI (fs.map fun x=>V.int (x:Nat)) (some 3) (some ((4:Int)+((fs.getD 2 0:Nat):Int)))=((fs.drop 3).take (1+fs.getD 2 0)).map fun x=>V.int (x:Nat):=by
  have h3:(some (3:Int))=some ((3:Nat):Int):=rfl;have h4:(some ((4:Int)+((fs.getD 2 0:Nat):Int)))=some ((4+fs.getD 2 0:Nat):Int):=rfl;rw[h3,h4];unfold jI;rw[HT.zmD,HT.zmD,aA,lfs,map_take,map_drop]
  congr 1
  omega
 rw[ecut];clear ecut;have s7:=zg hl7 (.lst (((fs.drop 3).take (1+fs.getD 2 0)).map fun x=>V.int (x:Nat)));have g7:upd H6 l7 (.lst (((fs.drop 3).take (1+fs.getD 2 0)).map fun x=>V.int (x:Nat))) l7=some (.lst (((fs.drop 3).take (1+fs.getD 2 0)).map fun x=>V.int (x:Nat))):=za;have s07:=s06.trans s7;generalize upd H6 l7 (.lst (((fs.drop 3).take (1+fs.getD 2 0)).map fun x=>V.int (x:Nat)))=H7 at s7 g7 s07 |-;have hds:∀x∈(fs.drop 3).take (1+fs.getD 2 0),x<26:=fun x hx=>by
  have hx:=List.mem_of_mem_take hx;obtain⟨j,hj,ej⟩:=List.mem_iff_getElem.mp hx;rw[length_drop,lfs] at hj;have h1:=fL (3+j) ∅ ∅
  rw[getD_eq_getElem?_getD,aB ∅] at h1
  rw[List.getElem_drop] at ej;rw[<- ej];exact h1
 have hdl:((fs.drop 3).take (1+fs.getD 2 0)).length=1+fs.getD 2 0:=by rw[length_take,length_drop,lfs];omega
 generalize (fs.drop 3).take (1+fs.getD 2 0)=gs at g7 hds hdl;exists l7,rfl,⟨_,zc g7⟩,fun D hD=>?_;have sz26:("abcdefghijklmnopqrstuvwxyz" : Str).length<=sizeLine:=by rw[zjP.len];decide
 refine zdk (K:=K) (xs:=gs.map fun x=>V.int (x:Nat)) gs (fun _=>true) (fun x=>.str ⟨#[97+x]⟩) hD (zc g7) (by rw[aA]) (by rw[aA];omega) (fun i x y H' N S hx hy sH n1 s1=>?_) (fun H8 s8 e8=>?_)
 ·rw[getElem?_map,hy] at hx
  have hx:V.int (y:Nat)=x:=Option.some.inj hx;subst hx;refine⟨fun _=>?_,fun e=>by cases e⟩
  exact⟨_,rfl,_,_,97+y,rfl,rfl,sz26,yF (zjP.at_ y (hds y (aH hy))),n1 _ (zq.refl _) rfl⟩
 have e8:H8 D=some (.lst ((gs.map fun x=>(⟨#[97+x]⟩:Str)).map V.str)):=by rw[e8,List.filter_eq_self.mpr (fun _ _=>rfl),map_map];rfl
 exists D,_,rfl,rfl,e8,by rw[aA];omega,fun z hz=>?_,fun y hy=>?_
 ·obtain⟨x,_,rfl⟩:=List.mem_map.mp hz
  show 1<=100;decide
 exists _,rfl,yL,fun u hu=>?_;have s9:=zg hu (.tup [.str y,.int ya]);refine q u y ya _ (s07.trans (s8.trans s9)) za ?_;have ey:y.cps.toList=gs.map fun x=>97+x:=by
  rw[hy,map_map]
  have:∀(l:List Nat),(l.map ((fun z:Str=>z.cps.toList) ∘ fun x=>(⟨#[97+x]⟩:Str))).flatten=l.map fun x=>97+x:=fun l=>by
   induction l with
   | nil=>rfl
   | cons x l ih=>
    rw[map_cons,flatten_cons,ih];rfl
  exact this gs
 have el:y.length=gs.length:=by
  show y.cps.size=_;rw[<- Array.length_toList,ey,aA]
 refine jf.mpr ⟨∅,∅,fun ch hc=>?_⟩
 rw[ey] at hc;obtain⟨x,hx,rfl⟩:=List.mem_map.mp hc
 have:=hds x hx
 omega
theorem vn(a b:List Rw):nms (a++b)=nms a++nms b:=by unfold nms;rw[filter_append,aE]
theorem jR(r:Rw):nms [r]=if yI r.k=true then [r.z] else []:=by
 unfold nms;cases h:yI r.k <;> simp [h]
theorem zbY{l g:Nat}(hg:grp r.k=g)(hb:xI l g=false)(h:yG g rs=true):yG l (r::rs)=true:=by
 show(!xI l (grp r.k)&&yG (grp r.k) rs)=true;rw[hg,hb,h];rfl
theorem qv{g:Nat}(he:xI g g=false):∀(xs ys:List Rw) (l:Nat),xI l g=false->(∀r∈xs,grp r.k=g)->yG l ys=true->yG g ys=true->yG l (xs++ys)=true
 | [],_,_,_,_,h1,_=>h1
 | r::rs,ys,l,hb,hg,_,h2=>zbY (hg r mem_cons_self) hb (qv he rs ys g he (fun x hx=>hg x (mem_cons_of_mem _ hx)) h2 h2)
theorem zej{g l:Nat}(hl:xs.length<=1)(hb:xI l g=false)(hg:∀r∈xs,grp r.k=g)(h1:yG l ys=true)(h2:yG g ys=true):yG l (xs++ys)=true:=by
 match xs,hl with
 | [],_=>exact h1
 | [r],_=>exact zbY (hg r mem_cons_self) hb h2
theorem zix(g0:∀r∈xs0,grp r.k=0)(g1:∀r∈xs1,grp r.k=1)(l1:xs1.length<=1)(g2:∀r∈xs2,grp r.k=2)(g3:∀r∈xs3,grp r.k=3)(l3:xs3.length<=1):yG 0 (xs0++(xs1++(xs2++xs3)))=true:=by
 have h3:∀l,l<=2->yG l xs3=true:=fun l hl=>by
  have:=zej (g:=3) (l:=l) (ys:=[]) l3 (by match l,hl with|0,_=>rfl|1,_=>rfl|2,_=>rfl) g3 rfl rfl
  rwa [append_nil] at this
 have h2:∀l,l<=1->yG l (xs2++xs3)=true:=fun l hl=>qv (g:=2) rfl xs2 xs3 l (by match l,hl with|0,_=>rfl|1,_=>rfl) g2 (h3 l ∅) (h3 2 ∅)
 have h1:yG 0 (xs1++(xs2++xs3))=true:=zej (g:=1) l1 rfl g1 (h2 0 ∅) (h2 1 ∅)
 exact qv (g:=0) rfl xs0 _ 0 rfl g0 h1 h1
theorem zk7{k:Nat}(hk:k<5)(h:yI k=true):grp k=0\/grp k=2:=by
 rcases lt5 hk with rfl|rfl|rfl|rfl|rfl <;> first|(exact .inl rfl)|(exact .inr rfl)|(cases h)
theorem zem{g:Nat}(hg:∀r∈xs,r.ok/\grp r.k=g)(h:g % 2=1):nms xs=[]:=by
 unfold nms;rw[List.filter_eq_nil_iff.mpr (fun r hr e=>?_)]
 ·rfl
 ·obtain⟨ho,q⟩:=hg r hr
  rcases zk7 ho.1 e with z|z <;> rw[z] at q <;> rw[<- q] at h <;> cases h
structure FS where
 (P T G B:List Rw) (L:List Str)
structure FM(i:Nat)(S:FS):Prop where
 okP:∀r∈S.P,r.ok/\grp r.k=0
 okT:∀r∈S.T,r.ok/\grp r.k=1
 okG:∀r∈S.G,r.ok/\grp r.k=2
 okB:∀r∈S.B,r.ok/\grp r.k=3
 lT:S.T.length<=1
 lB:S.B.length<=1
 nd:(nms S.P++nms S.G).Nodup
 sn:∀z∈nms S.P++nms S.G,z∈S.L
 ln:S.P.length+S.T.length+S.G.length+S.B.length<=i
 lL:S.L.length<=i
def FS.rows(S:FS):List Rw:=S.P++S.T++S.G++S.B
theorem FM.valid{i:Nat}(h:FM i S)(hi:i<=24)(lb:bars.length<=60)(bn:∀z∈bars,xn z=true)(bd:bars.Nodup)(bl:∀z∈bars,z∉S.L):zcr S.rows bars:=by
 have en:nms S.rows=nms S.P++nms S.G:=by
  unfold FS.rows;rw[vn,vn,vn,zem h.okT rfl,zem h.okB rfl,append_nil,append_nil]
 exists fun r hr=>?_,?_,lb,?_,bn,?_
 ·unfold FS.rows at hr
  rw[mem_append,mem_append,mem_append] at hr;rcases hr with ((hr|hr)|hr)|hr
  ·exact(h.okP r hr).1
  ·exact(h.okT r hr).1
  ·exact(h.okG r hr).1
  ·exact(h.okB r hr).1
 ·unfold FS.rows
  have:=h.ln
  simp only[aG];omega
 ·unfold FS.rows
  rw[append_assoc,append_assoc];exact zix (fun r hr=>(h.okP r hr).2) (fun r hr=>(h.okT r hr).2) h.lT (fun r hr=>(h.okG r hr).2) (fun r hr=>(h.okB r hr).2) h.lB
 ·rw[en]
  exact List.nodup_append.mpr ⟨h.nd,bd,fun x hx y hy e=>bl y hy (e ▸ h.sn x hx)⟩
variable {r:Rw}
structure VR(rows:List Rw):Prop where
 ok:∀r∈rows,r.ok
 l24:rows.length<=24
 ord:yG 0 rows=true
 nd:(nms rows).Nodup
theorem FM.vr{i:Nat}(h:FM i S)(hi:i<=24):VR S.rows:=by
 have v:=h.valid (bars:=[]) hi (zero_le _) (fun _ h=>nomatch h) nodup_nil (fun _ h=>nomatch h);exact⟨v.ok,v.l24,v.ord,by have:=v.nd;rwa [append_nil] at this⟩
end
variable {H H' H'':Hp}{lg g0 g1 g2 g3 ll u:Addr}{S:FS}{z:Str}{b:Bool}{us:List Addr}
theorem qD{α : Type}{xs:List α}{y : α}{p : α->Prop}(h:∀x∈xs,p x)(hy:p y):∀x∈xs++[y],p x:=fun x hx=>by
 rcases List.mem_append.mp hx with hx|hx
 ·exact h x hx
 ·rw[List.mem_singleton.mp hx];exact hy
theorem zhe{a b:List Str}{z:Str}(h:(a++b).Nodup)(hz:z∉a++b):(a++[z]++b).Nodup:=by
 have p:(a++[z]++b).Perm (z::(a++b)):=by
  rw[append_assoc];exact List.perm_middle
 exact p.nodup_iff.mpr (List.nodup_cons.mpr ⟨hz,h⟩)
def FS.add(S:FS)(k:Nat)(z:Str)(b:Bool):FS:=match k with
 | 0=>{ S with P:=S.P++[⟨0,z,b⟩] }
 | 1=>{ S with P:=S.P++[⟨1,z,b⟩],L:=S.L++[z] }
 | 2=>{ S with T:=[⟨2,z,b⟩] }
 | 3=>{ S with G:=S.G++[⟨3,z,b⟩],L:=S.L++[z] }
 | _=>{ S with B:=[⟨4,z,b⟩] }
theorem FM.zero:FM 0 ⟨[],[],[],[],[]⟩:=by
 refine⟨?_,?_,?_,?_,?_,?_,?_,?_,?_,?_⟩ <;> first|exact(fun _ h=>nomatch h)|exact zero_le _|exact nodup_nil|exact aF _
theorem FM.add{i:Nat}{k:Nat}(h:FM i S)(hk:k<5)(hz:xn z=true)(hn:yI k=true->z∉S.L):FM (i+1) (S.add k z b):=by
 have ln:=h.ln;have lL:=h.lL;have lT:=h.lT;have lB:=h.lB
 match k,hk with
 | 0,_=>
  have e:nms (S.P++[⟨0,z,b⟩])=nms S.P:=by rw[vn,jR];simp [yI]
  exact⟨qD h.okP ⟨⟨lt_of_sub_eq_succ rfl,hz⟩,rfl⟩,h.okT,h.okG,h.okB,h.lT,h.lB,by show(nms (S.P++_)++nms S.G).Nodup;rw[e];exact h.nd,by show ∀y∈nms (S.P++_)++nms S.G,y∈S.L;rw[e];exact h.sn,
   by show(S.P++[_]).length+S.T.length+S.G.length+S.B.length<=i+1;rw[aG,length_singleton];omega,le_succ_of_le h.lL⟩
 | 1,_=>
  have e:nms (S.P++[⟨1,z,b⟩])=nms S.P++[z]:=by rw[vn,jR];simp [yI]
  have nz:z∉nms S.P++nms S.G:=fun m=>hn rfl (h.sn z m);refine⟨qD h.okP ⟨⟨lt_of_sub_eq_succ rfl,hz⟩,rfl⟩,h.okT,h.okG,h.okB,h.lT,h.lB,by show(nms (S.P++_)++nms S.G).Nodup;rw[e];exact zhe h.nd nz,?_,
   by show(S.P++[_]).length+S.T.length+S.G.length+S.B.length<=i+1;rw[aG,length_singleton];omega,by show(S.L++[_]).length<=i+1;rw[aG,length_singleton];omega⟩
  show ∀y∈nms (S.P++_)++nms S.G,y∈S.L++[z];rw[e];intro y hy;rw[mem_append,mem_append] at hy;rcases hy with (hy|hy)|hy
  ·exact mem_append_left _ (h.sn y (mem_append_left _ hy))
  ·exact mem_append_right _ hy
  ·exact mem_append_left _ (h.sn y (mem_append_right _ hy))
 | 2,_=>
  exists h.okP,fun r hr=>?_,h.okG,h.okB,aF _,h.lB,h.nd,h.sn,?_,le_succ_of_le h.lL
  ·rw[List.mem_singleton.mp hr];exact⟨⟨lt_of_sub_eq_succ rfl,hz⟩,rfl⟩
  ·show S.P.length+1+S.G.length+S.B.length<=i+1
   omega
 | 3,_=>
  have e:nms (S.G++[⟨3,z,b⟩])=nms S.G++[z]:=by rw[vn,jR];simp [yI]
  have nz:z∉nms S.P++nms S.G:=fun m=>hn rfl (h.sn z m);refine⟨h.okP,h.okT,qD h.okG ⟨⟨lt_of_sub_eq_succ rfl,hz⟩,rfl⟩,h.okB,h.lT,h.lB,?_,?_,
   by show S.P.length+S.T.length+(S.G++[_]).length+S.B.length<=i+1;rw[aG,length_singleton];omega,by show(S.L++[_]).length<=i+1;rw[aG,length_singleton];omega⟩
  ·show(nms S.P++nms (S.G++_)).Nodup
   rw[e,<- append_assoc]
   have:=zhe (a:=nms S.P++nms S.G) (b:=[]) (z:=z) (by rw[append_nil];exact h.nd) (by rw[append_nil];exact nz)
   rwa [append_nil] at this
  ·show ∀y∈nms S.P++nms (S.G++_),y∈S.L++[z]
   rw[e];intro y hy;rw[mem_append,mem_append] at hy;rcases hy with hy|hy|hy
   ·exact mem_append_left _ (h.sn y (mem_append_left _ hy))
   ·exact mem_append_left _ (h.sn y (mem_append_right _ hy))
   ·exact mem_append_right _ hy
 | 4,_=>
  exists h.okP,h.okT,h.okG,fun r hr=>?_,h.lT,aF _,h.nd,h.sn,?_,le_succ_of_le h.lL
  ·rw[List.mem_singleton.mp hr];exact⟨⟨lt_of_sub_eq_succ rfl,hz⟩,rfl⟩
  ·show S.P.length+S.T.length+S.G.length+1<=i+1
   omega
theorem TAt.keep(h:TAt H v r)(hD:∀vs,H D≠some (.tup vs)):TAt (upd H D o) v r:=by
 show upd H D o v=_;rw[zf (fun e=>by subst e;exact hD _ h)]
 exact h
def uS(H:Hp)(l:Addr)(rows:List Rw):Prop:=∃us:List Addr,H l=some (.lst (us.map V.ref))/\Paired (TAt H) us rows
theorem uS.same(h:uS H l rows)(s:zq H H'):uS H' l rows:=let ⟨us,h1,h2⟩:=h;⟨us,s _ _ h1,z8 s h2⟩
theorem uS.keep(h:uS H l rows)(ne:l≠D)(hD:∀vs,H D≠some (.tup vs)):uS (upd H D o) l rows:=
 let ⟨us,h1,h2⟩:=h
 ⟨us,by rw[zf ne];exact h1,zm (fun _ _ z=>z.keep hD) h2⟩
theorem uS.snoc(h1:H l=some (.lst (us.map V.ref)))(h2:Paired (TAt H) us rows)(hu:TAt H u r):uS (upd H l (.lst (us.map V.ref++[.ref u]))) l (rows++[r]):=by
 have hD:∀vs,H l≠some (.tup vs):=fun vs e=>by rw[h1] at e;cases e
 exists us++[u],by rw[za,aE];rfl,Paired.snoc (zm (fun _ _ z=>z.keep hD) h2) (hu.keep hD)
structure FI(H H':Hp)(lg g0 g1 g2 g3 ll:Addr)(S:FS):Prop where
 sm:zq H H'
 gg:H' lg=some (.lst [.ref g0,.ref g1,.ref g2,.ref g3])
 h0:uS H' g0 S.P
 h1:uS H' g1 S.T
 h2:uS H' g2 S.G
 h3:uS H' g3 S.B
 hl:H' ll=some (.lst (S.L.map V.str))
 nd:[lg,g0,g1,g2,g3,ll].Nodup
 fr:∀x∈[lg,g0,g1,g2,g3,ll],H x=none
theorem FI.same(h:FI H H' lg g0 g1 g2 g3 ll S)(s:zq H' H''):FI H H'' lg g0 g1 g2 g3 ll S:=⟨h.sm.trans s,s _ _ h.gg,h.h0.same s,h.h1.same s,h.h2.same s,h.h3.same s,s _ _ h.hl,h.nd,h.fr⟩
theorem FI.smU(h:FI H H' lg g0 g1 g2 g3 ll S)(hl:H l=none):zq H (upd H' l o):=fun b u e=>by rw[zf (ze e hl)];exact h.sm _ _ e
theorem FI.ne(h:FI H H' lg g0 g1 g2 g3 ll S):lg≠g0/\lg≠g1/\lg≠g2/\lg≠g3/\lg≠ll/\g0≠g1/\g0≠g2/\g0≠g3/\g0≠ll/\g1≠g2/\g1≠g3/\g1≠ll/\g2≠g3/\g2≠ll/\g3≠ll:=by
 have:=h.nd
 simp only[nodup_cons,mem_cons,not_mem_nil,or_false,not_or] at this;obtain⟨⟨a1,a2,a3,a4,a5⟩,⟨b1,b2,b3,b4⟩,⟨c1,c2,c3⟩,⟨d1,d2⟩,e1,_⟩:=this;exact⟨a1,a2,a3,a4,a5,b1,b2,b3,b4,c1,c2,c3,d1,d2,e1⟩
theorem FI.addL(h:FI H H' lg g0 g1 g2 g3 ll S):FI H (upd H' ll (.lst (S.L.map V.str++[.str z]))) lg g0 g1 g2 g3 ll { S with L:=S.L++[z] }:=by
 have hD:∀vs,H' ll≠some (.tup vs):=fun vs e=>by rw[h.hl] at e;cases e
 obtain⟨a1,a2,a3,a4,a5,b1,b2,b3,b4,c1,c2,c3,d1,d2,e1⟩:=h.ne;exact⟨h.smU (h.fr ll (by simp)),by rw[zf a5];exact h.gg,h.h0.keep b4 hD,h.h1.keep c3 hD,h.h2.keep d2 hD,h.h3.keep e1 hD,by rw[za,aE];rfl,h.nd,h.fr⟩
theorem FI.add0(h:FI H H' lg g0 g1 g2 g3 ll S)(hh:H' g0=some (.lst (us.map V.ref)))(h2:Paired (TAt H') us S.P)(hu:TAt H' u r):FI H (upd H' g0 (.lst (us.map V.ref++[.ref u]))) lg g0 g1 g2 g3 ll { S with P:=S.P++[r] }:=by
 have hD:∀vs,H' g0≠some (.tup vs):=fun vs e=>by rw[hh] at e;cases e
 obtain⟨a1,a2,a3,a4,a5,b1,b2,b3,b4,c1,c2,c3,d1,d2,e1⟩:=h.ne;exact⟨h.smU (h.fr g0 (by simp)),by rw[zf a1];exact h.gg,.snoc hh h2 hu,h.h1.keep b1.symm hD,h.h2.keep b2.symm hD,h.h3.keep b3.symm hD,by rw[zf b4.symm];exact h.hl,h.nd,h.fr⟩
theorem FI.add2(h:FI H H' lg g0 g1 g2 g3 ll S)(hh:H' g2=some (.lst (us.map V.ref)))(h2:Paired (TAt H') us S.G)(hu:TAt H' u r):FI H (upd H' g2 (.lst (us.map V.ref++[.ref u]))) lg g0 g1 g2 g3 ll { S with G:=S.G++[r] }:=by
 have hD:∀vs,H' g2≠some (.tup vs):=fun vs e=>by rw[hh] at e;cases e
 obtain⟨a1,a2,a3,a4,a5,b1,b2,b3,b4,c1,c2,c3,d1,d2,e1⟩:=h.ne;exact⟨h.smU (h.fr g2 (by simp)),by rw[zf a3];exact h.gg,h.h0.keep b2 hD,h.h1.keep c1 hD,.snoc hh h2 hu,h.h3.keep d1.symm hD,by rw[zf d2.symm];exact h.hl,h.nd,h.fr⟩
theorem FI.add1(h:FI H H' lg g0 g1 g2 g3 ll S)(hT:S.T=[])(hu:TAt H' u r):FI H (upd H' g1 (.lst [.ref u])) lg g0 g1 g2 g3 ll { S with T:=[r] }:=by
 obtain⟨us,hh,h2⟩:=h.h1;rw[hT] at h2;cases h2;have hD:∀vs,H' g1≠some (.tup vs):=fun vs e=>by rw[hh] at e;cases e
 obtain⟨a1,a2,a3,a4,a5,b1,b2,b3,b4,c1,c2,c3,d1,d2,e1⟩:=h.ne;have sn:=uS.snoc hh .nil hu;exact⟨h.smU (h.fr g1 (by simp)),by rw[zf a2];exact h.gg,h.h0.keep b1 hD,sn,h.h2.keep c1.symm hD,h.h3.keep c2.symm hD,by rw[zf c3.symm];exact h.hl,h.nd,h.fr⟩
theorem FI.add3(h:FI H H' lg g0 g1 g2 g3 ll S)(hT:S.B=[])(hu:TAt H' u r):FI H (upd H' g3 (.lst [.ref u])) lg g0 g1 g2 g3 ll { S with B:=[r] }:=by
 obtain⟨us,hh,h2⟩:=h.h3;rw[hT] at h2;cases h2;have hD:∀vs,H' g3≠some (.tup vs):=fun vs e=>by rw[hh] at e;cases e
 obtain⟨a1,a2,a3,a4,a5,b1,b2,b3,b4,c1,c2,c3,d1,d2,e1⟩:=h.ne;have sn:=uS.snoc hh .nil hu;exact⟨h.smU (h.fr g3 (by simp)),by rw[zf a4];exact h.gg,h.h0.keep b3 hD,h.h1.keep c2 hD,h.h2.keep d1 hD,sn,by rw[zf e1.symm];exact h.hl,h.nd,h.fr⟩
theorem xw{z:Str}:∀{zs:List Str},inV (.str z) (zs.map V.str)=decide (z∈zs)
 | []=>by simp [inV]
 | y::ys=>by
  have ih:=xw (z:=z) (zs:=ys);show(eqV (.str y) (.str z)||inV (.str z) (ys.map V.str))=_
  rw[ih]
  have:eqV (.str y) (.str z)=decide (z=y):=by
   show(y==z)=_;rw[Bool.eq_iff_iff,beq_iff_eq,decide_eq_true_eq];exact⟨Eq.symm,Eq.symm⟩
  rw[this];simp
theorem xN:∀{zs:List Str},(zs.map V.str).all yZ=true
 | []=>rfl
 | _::ys=>by
  show(true&&(ys.map V.str).all yZ)=true;rw[xN];rfl
inductive zmUJ(n:Bool)(x:V)(y:V)(H:Hp)(Q:VK):Prop|mk(a c:Addr)(xs:List V):x=.ref a->y=.ref c->H a=some (.lst xs)->H c=some (.lst [])->(Q (.bl (n != xs.isEmpty)) H)->zmUJ n x y H Q
def zmU(n:Bool):R2:=fun x y H Q=>zmUJ n x y H Q
theorem zbZ(hu:X.A.units+64<cLine):OpR X (compareOp .Eq) (zmU false):=by
 intro pins s σ H x y v u Q I rx ry h;obtain⟨a,c,xs,rfl,rfl,ha,hc,q⟩:=h;cases xs with
 | nil=>exact zgH hu pins s σ H _ _ v u Q I rx ry ⟨a,c,0,.lst [],fun _=>True,fun _=>True,rfl,rfl,⋯,zI.lst True.intro ha .nil,zI.lst True.intro hc .nil,q⟩
 | cons z zs=>exact zgI ∅ pins s σ H _ _ v u Q I rx ry ⟨a,c,_,_,rfl,rfl,ha,hc,by simp,q⟩
structure FKn(H H':Hp)(lg g0 g1 g2 g3 ll lk:Addr)(S:FS)(ks:List Str):Prop where
 fi:FI H H' lg g0 g1 g2 g3 ll S
 hk:H' lk=some (.lst (ks.map V.str))
 hn:lk∉[lg,g0,g1,g2,g3,ll]
 hf:H lk=none
section
variable {H H' H'':Hp}{z:Str}
theorem FKn.same(h:FKn H H' lg g0 g1 g2 g3 ll lk S ks)(s:zq H' H''):FKn H H'' lg g0 g1 g2 g3 ll lk S ks:=⟨h.fi.same s,s _ _ h.hk,h.hn,h.hf⟩
theorem FKn.put(h:FKn H H' lg g0 g1 g2 g3 ll lk S ks)(J:FI H (upd H' g o) lg g0 g1 g2 g3 ll S')(hg:g∈[lg,g0,g1,g2,g3,ll]):FKn H (upd H' g o) lg g0 g1 g2 g3 ll lk S' ks:=
 ⟨J,by
  have n:lk≠g:=fun e=>h.hn (by rw[e];exact hg)
  rw[zf n];exact h.hk,h.hn,h.hf⟩
theorem FKn.know(h:FKn H H' lg g0 g1 g2 g3 ll lk S ks):FKn H (upd H' lk (.lst (ks.map V.str++[.str z]))) lg g0 g1 g2 g3 ll lk S (ks++[z]):=by
 have hD:∀vs,H' lk≠some (.tup vs):=fun vs e=>by rw[h.hk] at e;cases e
 have hn:=h.hn;simp only[mem_cons,not_mem_nil,or_false,not_or] at hn;obtain⟨n1,n2,n3,n4,n5,n6⟩:=hn;have k:=h.fi;exact⟨⟨k.smU h.hf,by rw[zf (Ne.symm n1)];exact k.gg,k.h0.keep (Ne.symm n2) hD,k.h1.keep (Ne.symm n3) hD,k.h2.keep (Ne.symm n4) hD,k.h3.keep (Ne.symm n5) hD,by rw[zf (Ne.symm n6)];exact k.hl,k.nd,k.fr⟩,by rw[za,aE];rfl,h.hn,h.hf⟩
inductive zdV(K:Frag)(vs:List V)(H:Hp)(Q:VK)(E:XK):Prop|mk(a:Addr)(cs:List Int):vs=[.ref a]->SqL K H a (cs.map V.int)->cs.length<=24->(∀(la:Addr) (us:List Addr) (rows:List Rw) (H':Hp),zq H H'->H la=none->H' la=some (.lst (us.map V.ref))->Paired (TAt H') us rows->VR rows->Q (.ref la) H')->zdV K vs H Q E
variable {P:Program}{w:World}{K:Frag}{mg:Str->Option Value}{base:Heap}{c:C5}
theorem wf:zp ["_law_cells","_law_groups","_law_known","_law_seen","_law_cell","_law_told","_law_rest","_law_name_here","_law_word"] ["_law_cells"] (zi zcP):=fsc
theorem zgR(F:Fun K "_law_specs" "_law_specs" zcP f fd)(hint:mg "int"=none)(cT:⇑3 "_law_take" t1 e1 ["_law_cell","_law_sizes"] (uX K))(cN:⇑4 "_law_name" t2 e2 ["_law_cell","_law_known"] (zaW K)):↥5 f fd ["_law_cells"] (zdV K):=by
 specialize wf;obtain⟨a,cs,rfl,hS,l24,q⟩:=h;have hr3:yg 3 _:=hr.mono ⋯
 have hU:=hr.units;refine⟨_,zk (zB (i:=1) wf.nd rfl (Or.inl rfl) (zZ (ac (zZ zb) (ac (zZ zb) (ac (zZ zb) (ac (zZ zb) zb))))))
  (zk (zB (i:=2) wf.nd rfl (Or.inl rfl) (zZ zb))
  (zk (zB (i:=3) wf.nd rfl (Or.inl rfl) (zZ zb))
  (zk (yr PassesOwn.never rfl (yb (pv 0)) (zl (i:=4) wf.nd rfl (Or.inl rfl))
   (zk (y8 (cF cT hr3 (ac (pv 4) (ac (zZ (ac zh (ac zh zb))) zb))) (yi rfl (zo (zl (i:=5) wf.nd rfl (Or.inl rfl)) (zo (zl (i:=6) wf.nd rfl (Or.inl rfl)) zT))))
   (zk (zB (i:=7) wf.nd rfl (Or.inl rfl) (zu zL (cF cN hr (ac (pv 6) (ac (pv 2) zb))) zh (fun _ _=>rfl)))
   (zk (zG (yt PySem.F.plainAttrs_list PySem.F.slot_list_append PySem.F.type_list_append zK (pv 2) (ac (pv 7) zb)))
   (zd (zJ (zn wD (zu zy (pv 5) zh (fun _ _=>rfl)) zh (zv _)) (zd (zG (yt PySem.F.plainAttrs_list PySem.F.slot_list_append PySem.F.type_list_append zK (zu zy (pv 1) zh (fun _ _=>rfl)) (ac (zQ (ac zw (ac (pv 7) (ac (y9 ye (zu zy (pv 5) zh (fun _ _=>rfl)) zh (zv _)) zb)))) zb))))
    (zd (zJ (yy (yz (zn ye (zu zy (pv 5) zh (fun _ _=>rfl)) zh (zv _)) (yq (zn (zbZ hU) (zu zy (pv 1) zh (fun _ _=>rfl)) (zZ zb) (zv _))))) (zd (zG (yt PySem.F.plainAttrs_list PySem.F.slot_list_append PySem.F.type_list_append zK (zu zy (pv 1) zh (fun _ _=>rfl)) (ac (zQ (ac zw (ac (pv 7) zb))) zb))))
     (zd (zJ (yy (yz (zn ye (zu zy (pv 5) zh (fun _ _=>rfl)) zh (zv _)) (yq (zn (zbZ hU) (zu zy (pv 1) zh (fun _ _=>rfl)) (zZ zb) (zv _))))) (zd (zG (yt PySem.F.plainAttrs_list PySem.F.slot_list_append PySem.F.type_list_append zK (zu zy (pv 1) zh (fun _ _=>rfl)) (ac (zQ (ac zw (ac (pv 7) zb))) zb))))
      (zd (zJ (yy (yz (zn yE (zu zy (pv 5) zh (fun _ _=>rfl)) (zQ (ac zh (ac zh zb))) (by with_unfolding_all rfl)) (yq (zn yE (pv 7) (pv 3) (by with_unfolding_all rfl)))))
       (zk (zG (yt PySem.F.plainAttrs_list PySem.F.slot_list_append PySem.F.type_list_append zK (pv 3) (ac (pv 7) zb)))
       (zk (zB (i:=8) wf.nd rfl (Or.inl rfl) (zu zy (zZ (ac zw (ac zw zb))) (cTy zaJ hint PyProof.Rows.boot_int (ac (y9 zap (zu zy (pv 5) zh (fun _ _=>rfl)) zh (zv _)) zb)) (fun _ _=>rfl)))
       (zd (zG (yt PySem.F.plainAttrs_list PySem.F.slot_list_append PySem.F.type_list_append zK (zu zy (pv 1) (zN xV (cTy zaJ hint PyProof.Rows.boot_int (ac (y9 ye (pv 8) zw (zv _)) zb)) zh) (fun _ _=>rfl)) (ac (zQ (ac (pv 8) (ac (pv 7) (ac (y9 ye (zu zy (pv 5) zh (fun _ _=>rfl)) zh (zv _)) zb)))) zb)))))) zx))))))))))))
  (zd (zt (zN vm (zN vm (zN vm (zu zy (pv 1) zh (fun _ _=>rfl)) (zu zy (pv 1) zh (fun _ _=>rfl))) (zu zy (pv 1) zh (fun _ _=>rfl))) (zu zy (pv 1) zh (fun _ _=>rfl)))))))),?_⟩
 exists x8,fun g0 h0=>?_
 injections g0 h0 H0 s0 e0
 exists x8,fun g1 h1=>?_
 injections g1 h1 H1 s1 e1
 exists x8,fun g2 h2=>?_
 injections g2 h2 H2 s2 e2
 exists x8,fun g3 h3=>?_
 injections g3 h3 H3 s3 e3
 exists zlH,fun lg h4=>?_;exfalso
 injections lg h4 H4 s4 e4
 exists x8,fun lk hk=>?_;exfalso
 injections lk hk Hk sk ek
 exists x8,fun ll h5=>?_;exfalso
 injections ll h5 H5 s5 e5
 have s01:=s0.trans s1;have s02:=s01.trans s2;have s03:=s02.trans s3;have s04:=s03.trans s4;have s0k:=s04.trans sk;have k0:=s4 _ _ (s3 _ _ (s2 _ _ (s1 _ _ e0)));have k1:=s4 _ _ (s3 _ _ (s2 _ _ e1));have k2:=s4 _ _ (s3 _ _ e2);have k3:=s4 _ _ e3;have I0:FKn H H5 lg g0 g1 g2 g3 ll lk ⟨[],[],[],[],[]⟩ []:=by
  have sk5:=sk.trans s5;exists ⟨s0k.trans s5,sk5 _ _ e4,⟨[],sk5 _ _ k0,.nil⟩,⟨[],sk5 _ _ k1,.nil⟩,⟨[],sk5 _ _ k2,.nil⟩,⟨[],sk5 _ _ k3,.nil⟩,e5,?_,?_⟩,s5 _ _ ek,?_,s04.free hk
  ·simp only[nodup_cons,mem_cons,not_mem_nil,or_false,not_or,nodup_nil,not_false_iff,and_true]
   exact⟨⟨(ze (s3 _ _ (s2 _ _ (s1 _ _ e0))) h4).symm,(ze (s3 _ _ (s2 _ _ e1)) h4).symm,(ze (s3 _ _ e2) h4).symm,(ze e3 h4).symm,ze (sk _ _ e4) h5⟩,⟨ze e0 h1,ze (s1 _ _ e0) h2,ze (s2 _ _ (s1 _ _ e0)) h3,ze (sk _ _ k0) h5⟩,⟨ze e1 h2,ze (s2 _ _ e1) h3,ze (sk _ _ k1) h5⟩,⟨ze e2 h3,ze (sk _ _ k2) h5⟩,ze (sk _ _ k3) h5⟩
  ·intro x hx
   simp only[mem_cons,not_mem_nil,or_false] at hx;rcases hx with rfl|rfl|rfl|rfl|rfl|rfl
   ·exact s03.free h4
   ·exact h0
   ·exact s0.free h1
   ·exact s01.free h2
   ·exact s02.free h3
   ·exact s0k.free h5
  ·simp only[mem_cons,not_mem_nil,or_false,not_or]
   exact⟨(ze e4 hk).symm,(ze k0 hk).symm,(ze k1 hk).symm,(ze k2 hk).symm,(ze k3 hk).symm,ze ek h5⟩
 refine⟨_,rfl,a,rfl,⟨_,I0.fi.sm.seq hS⟩,yY (K:=K) (a:=a) (xs:=cs.map V.int) (fun i σ H'=>∃(S:FS) (ks:List Str) (v4 v5 v6 v7 v8:Option V),σ=[~~~a,~~~lg,~~~lk,~~~ll,v4,v5,v6,v7,v8]/\FKn H H' lg g0 g1 g2 g3 ll lk S ks/\FM i S/\ks.length=i/\∀z∈ks,xn z=true)
  ⟨_,[],_,_,_,_,_,rfl,I0,FM.zero,rfl,fun _ h=>nomatch h⟩ (fun i σ H' _ ⟨_,_,_,_,_,_,_,_,h,_⟩=>h.fi.sm.seq hS) ?_ ?_⟩
 ·rintro i x σ H6 hx ⟨S,ks,v4,v5,v6,v7,v8,rfl,I6,M6,lks,nks⟩
  obtain⟨n,hn,rfl⟩:=jT hx;have hi:i<cs.length:=(List.getElem?_eq_some_iff.mp hn).1;exfalso;exists _,rfl,yL,fun l1 hl1=>?_;have s7:=zg hl1 (.lst [.int 9,.int 2]);exists n,l1,[9,2],rfl,zc za,⋯,.inl ⋯,⋯,fun t lf fs ya H8 s8 nlf ht hlf lfs hfs=>?_
  obtain⟨f0,f1,rfl⟩:∃f0 f1,fs=[f0,f1]:=by
   match fs,lfs with
   | [x,y],_=>exact⟨x,y,rfl⟩
  have b0:f0<9:=hfs 0 ⋯
  have hlf:H8 lf=some (.lst [.int (f0:Nat),.int (f1:Nat)]):=hlf;exists t,_,rfl,zz ht,rfl,_,_,rfl,_,_,rfl,rfl,?_;have nlk:lf≠lk:=(ze (s7 _ _ I6.hk) nlf).symm;have nll:lf≠ll:=(ze (s7 _ _ I6.fi.hl) nlf).symm;have I8:=I6.same (s7.trans s8);clear I6 s7 s8 nlf ht;exfalso;exists _,rfl,_,rfl,ya,lk,ks,rfl,I8.hk,nks,∅,fun tn z rest' H9 s9 htn hz=>?_
  exists tn,_,0,.str z,rfl,rfl,zz htn,rfl,?_;have I9:=I8.same s9;have hlf:=s9 _ _ hlf;clear I8 s9 htn;exfalso;exists _,rfl,.inl ⟨rfl,_,zc I9.hk⟩,_,rfl,lk,_,_,rfl,rfl,I9.hk,zE (by rw[aA];omega),?_
  have Ia:=I9.know (z:=z);have hlf:upd H9 lk (.lst (ks.map V.str++[.str z])) lf=some (.lst [.int (f0:Nat),.int (f1:Nat)]):=by rw[zf nlk];exact hlf
  clear I9;generalize upd H9 lk (.lst (ks.map V.str++[.str z]))=Ha at Ia hlf |-;have lks':(ks++[z]).length=i+1:=by rw[aG,lks];rfl
  have nks':∀y∈ks++[z],xn y=true:=fun y hy=>by
   rcases List.mem_append.mp hy with h|h
   ·exact nks y h
   ·rw[List.mem_singleton.mp h];exact hz
  have lnS:=M6.ln;have lL:=M6.lL;have skip:∀{H':Hp}{v8:Option V},FKn H H' lg g0 g1 g2 g3 ll lk S (ks++[z])->∃(S:FS) (ks:List Str) (v4 v5 v6 v7 v8':Option V),([~~~a,~~~lg,~~~lk,~~~ll,some (.int n),~~~lf,some (.int ya),some (.str z),v8]:L2.St)=[~~~a,~~~lg,~~~lk,~~~ll,v4,v5,v6,v7,v8']/\FKn H H' lg g0 g1 g2 g3 ll lk S ks/\FM (i+1) S/\ks.length=i+1/\∀z∈ks,xn z=true:=fun I=>⟨S,_,_,_,_,_,_,rfl,I,⟨M6.okP,M6.okT,M6.okG,M6.okB,M6.lT,M6.lB,M6.nd,M6.sn,le_succ_of_le M6.ln,le_succ_of_le M6.lL⟩,lks',nks'⟩;have fin:∀{k:Nat}{H':Hp}{b:Bool}{v8:Option V},FKn H H' lg g0 g1 g2 g3 ll lk (S.add k z b) (ks++[z])->k<5->(yI k=true->z∉S.L)->∃(S:FS) (ks:List Str) (v4 v5 v6 v7 v8':Option V),([~~~a,~~~lg,~~~lk,~~~ll,some (.int n),~~~lf,some (.int ya),some (.str z),v8]:L2.St)=[~~~a,~~~lg,~~~lk,~~~ll,v4,v5,v6,v7,v8']/\FKn H H' lg g0 g1 g2 g3 ll lk S ks/\FM (i+1) S/\ks.length=i+1/\∀z∈ks,xn z=true:=fun {k H' b v8} I hk hn'=>⟨S.add k z b,_,_,_,_,_,_,rfl,I,M6.add hk hz hn',lks',nks'⟩;have w0:=Ia.fi.h0;exists _,rfl,lf,_,0,.int (f0:Nat),rfl,rfl,zc hlf,rfl,_,_,rfl,rfl,_,rfl,?_;refine vE (fun _=>?_) (fun hge=>?_)
  ·obtain⟨us,w1,w2⟩:=Ia.fi.h0
   have hlu:us.length<=24:=by rw[w2.length];omega
   exists _,rfl,lg,_,0,.ref g0,rfl,rfl,zc Ia.fi.gg,rfl,.inl ⟨rfl,_,zc w1⟩,_,rfl,_,rfl,lf,_,1,.int (f1:Nat),rfl,rfl,zc hlf,rfl,rfl,za0,fun u hu=>?_;generalize decide (V.int ((f1:Nat):Int)=V.int 1)=fb;have s7:=zg hu (.tup [.str "seat",.str z,.bl fb]);have tu:TAt (upd Ha u (.tup [.str "seat",.str z,.bl fb])) u ⟨0,z,fb⟩:=za;exists g0,_,_,rfl,rfl,s7 _ _ w1,zE (by rw[aA];omega),?_
   exact fin (k:=0) ((Ia.same s7).put ((Ia.fi.same s7).add0 (s7 _ _ w1) (z8 s7 w2) tu) (by simp)) ⋯ (fun e=>by cases e)
  have hge:¬((f0:Nat):Int)<2:=fun e=>hge (aC e);exists _,rfl,lf,_,0,.int (f0:Nat),rfl,rfl,zc hlf,rfl,rfl,_,rfl,?_;by_cases hv:f0=5
  ·refine dT (by rw[hv];rfl) ?_
   obtain⟨us,w1,w2⟩:=Ia.fi.h1;exists _,rfl,lg,_,1,.ref g1,rfl,rfl,zc Ia.fi.gg,rfl,x8,fun l0 hl0=>?_;have s7:=zg hl0 (.lst []);have e7:upd Ha l0 (.lst []) l0=some (.lst []):=za;have I7:=Ia.same s7;have hlf7:=s7 _ _ hlf;have w1:=s7 _ _ w1;have w2:=z8 s7 w2;generalize upd Ha l0 (.lst [])=H7 at s7 e7 I7 w1 w2 hlf7 |-;exists g1,l0,_,rfl,rfl,w1,e7,_,rfl,?_;by_cases hT:S.T=[]
   ·rw[hT] at w2
    cases w2;refine xu ?_;exists _,rfl,lg,_,1,.ref g1,rfl,rfl,zc I7.fi.gg,rfl,.inl ⟨rfl,_,zc w1⟩,_,rfl,yL,fun u hu=>?_;have s9:=zg hu (.tup [.str "tail",.str z]);have tu:TAt (upd H7 u (.tup [.str "tail",.str z])) u ⟨2,z,true⟩:=za;exists g1,_,_,rfl,rfl,s9 _ _ w1,zE (by show 0<=1000;decide),?_
    exact fin (k:=2) ((I7.same s9).put ((I7.fi.same s9).add1 hT tu) (by simp)) ⋯ (fun e=>by cases e)
   have ne:(false != (us.map V.ref).isEmpty)=false:=by
    cases us with
    | nil=>exact absurd (List.eq_nil_of_length_eq_zero w2.length.symm) hT
    | cons _ _=>rfl
   refine yR ne ?_;exists _,rfl,lf,_,0,.int (f0:Nat),rfl,rfl,zc hlf7,rfl,rfl,_,rfl,?_;refine dF (fun e'=>by have:=V.int.inj e';omega) ?_
   refine yB ?_;exists _,rfl,lf,_,0,.int (f0:Nat),rfl,rfl,zc hlf7,rfl,yL,fun tt htt=>?_;have st:=zg htt (.tup [.int 5,.int 8]);have It:=I7.same st;exists tt,_,rfl,.inr (zz za),rfl,rfl,_,rfl,?_;refine yR (by rw[hv];decide +kernel) ?_
   refine yB ?_;exact skip It
  refine dF (fun e'=>by have:=V.int.inj e';omega) ?_
  refine yB ?_;exists _,rfl,lf,_,0,.int (f0:Nat),rfl,rfl,zc hlf,rfl,rfl,_,rfl,?_;by_cases hv8:f0=8
  ·refine dT (by rw[hv8];rfl) ?_
   obtain⟨us,w1,w2⟩:=Ia.fi.h3;exists _,rfl,lg,_,3,.ref g3,rfl,rfl,zc Ia.fi.gg,rfl,x8,fun l0 hl0=>?_;have s7:=zg hl0 (.lst []);have e7:upd Ha l0 (.lst []) l0=some (.lst []):=za;have I7:=Ia.same s7;have hlf7:=s7 _ _ hlf;have w1:=s7 _ _ w1;have w2:=z8 s7 w2;generalize upd Ha l0 (.lst [])=H7 at s7 e7 I7 w1 w2 hlf7 |-;exists g3,l0,_,rfl,rfl,w1,e7,_,rfl,?_;by_cases hT:S.B=[]
   ·rw[hT] at w2
    cases w2;refine xu ?_;exists _,rfl,lg,_,3,.ref g3,rfl,rfl,zc I7.fi.gg,rfl,.inl ⟨rfl,_,zc w1⟩,_,rfl,yL,fun u hu=>?_;have s9:=zg hu (.tup [.str "bag",.str z]);have tu:TAt (upd H7 u (.tup [.str "bag",.str z])) u ⟨4,z,true⟩:=za;exists g3,_,_,rfl,rfl,s9 _ _ w1,zE (by show 0<=1000;decide),?_
    exact fin (k:=4) ((I7.same s9).put ((I7.fi.same s9).add3 hT tu) (by simp)) ⋯ (fun e=>by cases e)
   have ne:(false != (us.map V.ref).isEmpty)=false:=by
    cases us with
    | nil=>exact absurd (List.eq_nil_of_length_eq_zero w2.length.symm) hT
    | cons _ _=>rfl
   refine yR ne ?_;exists _,rfl,lf,_,0,.int (f0:Nat),rfl,rfl,zc hlf7,rfl,yL,fun tt htt=>?_;have st:=zg htt (.tup [.int 5,.int 8]);have It:=I7.same st;exists tt,_,rfl,.inr (zz za),rfl,rfl,_,rfl,?_;refine yR (by rw[hv8];decide +kernel) ?_
   refine yB ?_;exact skip It
  refine dF (fun e'=>by have:=V.int.inj e';omega) ?_
  refine yB ?_;exists _,rfl,lf,_,0,.int (f0:Nat),rfl,rfl,zc hlf,rfl,yL,fun tt htt=>?_;have st:=zg htt (.tup [.int 5,.int 8]);have It:=Ia.same st;exists tt,_,rfl,.inr (zz za),rfl,rfl,_,rfl,?_;have hlft:=st _ _ hlf;generalize upd Ha tt (.tup [.int 5,.int 8])=Ht at It hlft |-;have nin:∀y:Nat,y<9->y≠5->y≠8->inV (.int ((y:Nat):Int)) [.int 5,.int 8]=false:=by decide +kernel
  refine xE (by rw[nin f0 b0 hv hv8];rfl) ?_
  exists _,rfl,_,rfl,ll,_,rfl,.inl (zc It.fi.hl),rfl,xN,_,rfl,?_;by_cases hm:z∈S.L
  ·refine yR (by rw[aK rfl,xw,aC hm];rfl) ?_
   exact skip It
  refine xE (by rw[aK rfl,xw,aD hm];rfl) ?_
  exists _,rfl,.inl ⟨rfl,_,zc It.fi.hl⟩,_,rfl,ll,_,_,rfl,rfl,It.fi.hl,zE (by rw[aA];omega),?_
  have J:=It.put (It.fi.addL (z:=z)) (by simp)
  have hlfj:upd Ht ll (.lst (S.L.map V.str++[.str z])) lf=some (.lst [.int (f0:Nat),.int (f1:Nat)]):=by rw[zf nll];exact hlft
  dsimp only[zjv];generalize upd Ht ll (.lst (S.L.map V.str++[.str z]))=Hj at J hlfj |-;exists yL,fun lw hlw=>?_;have sw:=zg hlw (.lst [.str "both",.str "tag"]);have hlfw:=sw _ _ hlfj;have Jw:=J.same sw;by_cases h5:((f0:Nat):Int)>5
  ·exists _,rfl,lf,_,0,.int (f0:Nat),rfl,rfl,zc hlfw,rfl,_,_,rfl,rfl,.inr ⟨_,rfl,lw,_,_,.str "tag",rfl,rfl,zc za,(by rw[aC h5];rfl),?_⟩
   exfalso;generalize upd Hj lw (.lst [.str "both",.str "tag"])=Hw at sw hlfw Jw |-;obtain⟨us,w1,w2⟩:=Jw.fi.h2;have w2:Paired (TAt Hw) us S.G:=w2;have hlu:us.length<=24:=by rw[w2.length];omega
   exists _,rfl,_,rfl,rfl,.inr ⟨_,rfl,_,_,rfl,rfl,.inl ⟨⋯,⋯⟩,lg,_,_,.ref g2,rfl,rfl,zc Jw.fi.gg,rfl,.inl ⟨rfl,_,zc w1⟩,_,rfl,_,rfl,_,rfl,lf,_,1,.int (f1:Nat),rfl,rfl,zc hlfw,rfl,rfl,za0,fun u hu=>?_⟩
   generalize decide (V.int ((f1:Nat):Int)=V.int 1)=fb;have s9:=zg hu (.tup [.str "tag",.str z,.bl fb]);have tu:TAt (upd Hw u (.tup [.str "tag",.str z,.bl fb])) u ⟨3,z,fb⟩:=za;exists g2,_,_,rfl,rfl,s9 _ _ w1,zE (by rw[aA];omega),?_
   exact fin (k:=3) ((Jw.same s9).put ((Jw.fi.same s9).add2 (s9 _ _ w1) (z8 s9 w2) tu) (by simp)) ⋯ (fun _=>hm)
  ·exists _,rfl,lf,_,0,.int (f0:Nat),rfl,rfl,zc hlfw,rfl,_,_,rfl,rfl,.inr ⟨_,rfl,lw,_,_,.str "both",rfl,rfl,zc za,(by rw[aD h5];rfl),?_⟩
   exfalso;generalize upd Hj lw (.lst [.str "both",.str "tag"])=Hw at sw hlfw Jw |-;obtain⟨us,w1,w2⟩:=Jw.fi.h0;have w2:Paired (TAt Hw) us S.P:=w2;have hlu:us.length<=24:=by rw[w2.length];omega
   exists _,rfl,_,rfl,rfl,.inr ⟨_,rfl,_,_,rfl,rfl,.inl ⟨⋯,⋯⟩,lg,_,_,.ref g0,rfl,rfl,zc Jw.fi.gg,rfl,.inl ⟨rfl,_,zc w1⟩,_,rfl,_,rfl,_,rfl,lf,_,1,.int (f1:Nat),rfl,rfl,zc hlfw,rfl,rfl,za0,fun u hu=>?_⟩
   generalize decide (V.int ((f1:Nat):Int)=V.int 1)=fb;have s9:=zg hu (.tup [.str "both",.str z,.bl fb]);have tu:TAt (upd Hw u (.tup [.str "both",.str z,.bl fb])) u ⟨1,z,fb⟩:=za;exists g0,_,_,rfl,rfl,s9 _ _ w1,zE (by rw[aA];omega),?_
   exact fin (k:=1) ((Jw.same s9).put ((Jw.fi.same s9).add0 (s9 _ _ w1) (z8 s9 w2) tu) (by simp)) ⋯ (fun _=>hm)
 ·rintro σ H6 ⟨S,ks,v4,v5,v6,v7,v8,rfl,I6,M6,_⟩
  rw[aA] at M6;have lnS:=M6.ln;obtain⟨u0,a0,b0⟩:=I6.fi.h0;obtain⟨u1,a1,b1⟩:=I6.fi.h1;obtain⟨u2,a2,b2⟩:=I6.fi.h2;obtain⟨u3,a3,b3⟩:=I6.fi.h3;have c0:=b0.length;have c1:=b1.length;have c2:=b2.length;have c3:=b3.length;exists _,rfl,lg,_,0,.ref g0,rfl,rfl,zc I6.fi.gg,rfl,_,rfl,lg,_,1,.ref g1,rfl,rfl,zc I6.fi.gg,rfl,g0,g1,_,_,rfl,rfl,a0,a1,xo (by rw[aA,aA];omega),fun p1 hp1=>?_
  injections p1 hp1 H7 t1 f1
  exists _,rfl,lg,_,2,.ref g2,rfl,rfl,zc (t1 _ _ I6.fi.gg),rfl,p1,g2,_,_,rfl,rfl,f1,t1 _ _ a2,xo (by rw[aG,aA,aA,aA];omega),fun p2 hp2=>?_
  injections p2 hp2 H8 t2 f2
  have t12:=t1.trans t2;exists _,rfl,lg,_,3,.ref g3,rfl,rfl,zc (t12 _ _ I6.fi.gg),rfl,p2,g3,_,_,rfl,rfl,f2,t12 _ _ a3,xo (by simp only[aG,aA];omega),fun p3 hp3=>?_
  have t3:=zg hp3 (.lst (u0.map V.ref++u1.map V.ref++u2.map V.ref++u3.map V.ref));have t13:=t12.trans t3;refine q p3 (u0++u1++u2++u3) S.rows _ (I6.fi.sm.trans t13) (I6.fi.sm.free (t12.free hp3)) ?_ ?_ (M6.vr ∅)
  ·rw[za]
   simp only[aE]
  ·have paired_app':∀{α β : Type}{R : α->β->Prop}{a c:List α}{b d:List β},Paired R a b->Paired R c d->Paired R (a++c) (b++d):=by
    intro α β R a c b d h1 h2;induction h1 with
    | nil=>exact h2
    | cons r t ih=>exact .cons r ih
   unfold FS.rows;exact paired_app' (paired_app' (paired_app' (z8 t13 b0) (z8 t13 b1)) (z8 t13 b2)) (z8 t13 b3)
theorem wg(h:r.ok):atI (rv r) 0=some (.str (kw r.k)):=by
 obtain⟨k,z,b⟩:=r;rcases lt5 h.1 with e|e|e|e|e <;> (cases e;rfl)
theorem xY(h:r.ok):atI (rv r) 1=some (.str r.z):=by
 obtain⟨k,z,b⟩:=r;rcases lt5 h.1 with e|e|e|e|e <;> (cases e;rfl)
theorem zdt{k:Nat}(h:k<5):inV (.str (kw k)) [.str "both",.str "tag"]=yI k:=zet k h
theorem zel{R:Addr->Rw->Prop}(h:Paired R us rows):((us.zip rows).filter fun p=>yI p.2.k).map (fun p=>V.str p.2.z)=(nms rows).map V.str:=by
 have:=zaP h (fun r=>yI r.k) (fun r=>V.str r.z)
 rw[this];unfold nms;rw[map_map];rfl
theorem zeG{R:Addr->Rw->Prop}(h:Paired R us rows):((us.zip rows).filter fun _=>true).map (fun p=>V.str p.2.z)=(rows.map Rw.z).map V.str:=by
 have:=zaP h (fun _=>true) (fun r=>V.str r.z)
 rw[this,List.filter_eq_self.mpr (fun _ _=>rfl),map_map];rfl
theorem zbD(V1:VR rows):∀z∈rows.map Rw.z,xn z=true:=fun z hz=>by
 obtain⟨r,hr,rfl⟩:=List.mem_map.mp hz;exact(V1.ok r hr).2
inductive zd2(K:Frag)(vs:List V)(H:Hp)(Q:VK)(E:XK):Prop|mk(a la:Addr)(cs:List Int)(us:List Addr)(rows:List Rw):vs=[.ref a,.ref la]->SqL K H a (cs.map V.int)->cs.length<=60->H la=some (.lst (us.map V.ref))->Paired (TAt H) us rows->VR rows->(∀(l:Addr) (bars:List Str) (H':Hp),zq H H'->H l=none->H' l=some (.lst (bars.map V.str))->zcr rows bars->Q (.ref l) H')->zd2 K vs H Q E
theorem zen:([Str.ofString "_law_one"]:List Str).Nodup:=by decide +kernel
theorem vT:zp ["_law_cells","_law_specs_here","_law_known","_law_seen","_law_shut","_law_cell","_law_name_here"] ["_law_cells","_law_specs_here"] (zi zgo):=fsc
theorem zg1(F:Fun K "_law_bars" "_law_bars" zgo f fd)(cN:⇑4 "_law_name" t1 e1 ["_law_cell","_law_known"] (zaW K)):↥5 f fd ["_law_cells","_law_specs_here"] (zd2 K):=by
 specialize vT;obtain⟨a,la,cs,us,rows,rfl,hS,l60,hla,hu,V1,q⟩:=h;have l24:=V1.l24;refine zr (zal (i:=2) [] ["_law_one"] [none] vT.nd rfl (Or.inl rfl) rfl ⟨rfl,rfl,rfl,rfl⟩ (yb (pv 1)) (yc 0) rfl rfl rfl
   (fun pins fp s H C=>⟨zl (i:=0) zen rfl (Or.inl rfl) (.inr rfl),yS,zu (r:=q0 K) zL (pv 0) zh (fun _ _=>rfl)⟩)) ?_
 exists _,rfl,la,rfl,⟨_,zc hla⟩,fun Dk hDk=>?_;refine qE (K:=K) TAt (fun _=>true) (fun _ r=>.str r.z) hDk hla hu ∅ (fun i u r H' N S hu' hr' tr sH n1 s1=>?_) (fun Hk sk hk=>?_)
 ·have rk:=V1.ok r (aH hr')
  have tu:=sH _ _ tr;exact⟨fun e=>⟨_,rfl,u,_,1,_,rfl,rfl,zz tu,xY rk,n1 _ (zq.refl _) rfl⟩,fun e=>by cases e⟩
 rw[zeG hu] at hk;have hlak:=sk _ _ hla;have huk:=z8 sk hu;exfalso;refine⟨_,zk (zal (i:=3) [] ["_law_one"] [none] vT.nd rfl (Or.inl rfl) rfl ⟨rfl,rfl,rfl,rfl⟩ (yb (pv 1)) (yc 0) rfl rfl rfl
   (fun pins fp s H C=>⟨zl (i:=0) zen rfl (Or.inl rfl) (.inr rfl),xM (zn (r:=rIn K false) xq (zu (r:=q0 K) zL (pv 0) zh (fun _ _=>rfl)) (zQ (ac zw (ac zw zb))) (by with_unfolding_all rfl)),zu (r:=q0 K) zL (pv 0) zh (fun _ _=>rfl)⟩))
  (zk (zB (i:=4) vT.nd rfl (Or.inl rfl) (zZ zb))
  (zk (yr PassesOwn.never rfl (yb (pv 0)) (zl (i:=5) vT.nd rfl (Or.inl rfl))
   (zk (zB (i:=6) vT.nd rfl (Or.inl rfl) (zu zL (cF cN hr (ac (pv 5) (ac (pv 2) zb))) zh (fun _ _=>rfl)))
   (zd (zJ (yy (yz (zn yE (pv 6) (pv 3) (by with_unfolding_all rfl)) (yq (zn yE (pv 6) (pv 4) (by with_unfolding_all rfl))))) (zd (zG (yt PySem.F.plainAttrs_list PySem.F.slot_list_append PySem.F.type_list_append zK (pv 4) (ac (pv 6) zb)))) zx))))
  (zd (zt (pv 4))))),?_⟩
 exists _,rfl,la,rfl,⟨_,zc hlak⟩,fun D hD=>?_;refine qE (K:=K) TAt (fun r=>yI r.k) (fun _ r=>.str r.z) hD hlak huk ∅ (fun i u r H' N S hu' hr' tr sH n1 s1=>?_) (fun H1 s1 hD1=>?_)
 ·have rk:=V1.ok r (aH hr')
  have tu:=sH _ _ tr;exists _,rfl,u,_,0,_,rfl,rfl,zz tu,wg rk,yL,fun l hl=>?_;have s2:=zg hl (.tup [.str "both",.str "tag"]);exists l,_,rfl,.inr (zz za),rfl,rfl,_,rfl,?_;rw[aJ zft,zdt rk.1];exact⟨fun e=>⟨_,rfl,u,_,1,_,rfl,rfl,zz (s2 _ _ tu),xY rk,n1 _ s2 e⟩,fun e=>s1 _ s2 e⟩
 rw[zel huk] at hD1;exists x8,fun fo hfo=>?_;exfalso
 injections fo hfo H2 s2 g2
 have s12:=sk.trans (s1.trans s2);have nD:=s2 _ _ hD1;have nfo:H fo=none:=(sk.trans s1).free hfo;have neD:D≠fo:=ze hD1 hfo;refine⟨_,rfl,a,rfl,⟨_,s12.seq hS⟩,yY (K:=K) (a:=a) (xs:=cs.map V.int) (fun i σ H'=>∃bars v5 v6,σ=[~~~a,~~~la,~~~Dk,~~~D,~~~fo,v5,v6]/\zq H H'/\H' Dk=some (.lst ((rows.map Rw.z).map V.str))/\H' D=some (.lst ((nms rows).map V.str))/\H' fo=some (.lst (bars.map V.str))/\bars.Nodup/\(∀z∈bars,xn z=true)/\(∀z∈bars,z∉nms rows)/\bars.length<=i)
  ⟨[],_,_,rfl,s12,(s1.trans s2) _ _ hk,nD,g2,nodup_nil,(fun _ h=>nomatch h),(fun _ h=>nomatch h),aF _⟩ (fun i σ H' _ ⟨_,_,_,_,sH,_⟩=>sH.seq hS) ?_ ?_⟩
 ·rintro i x σ H3 hx ⟨bars,v5,v6,rfl,s3,eK,eD,eF,nd,nm,nk,ln⟩
  obtain⟨n,hn,rfl⟩:∃n,cs[i]?=some n/\x=.int n:=by
   rw[getElem?_map] at hx;cases e:cs[i]? with
   | none=>rw[e] at hx;cases hx
   | some n=>rw[e] at hx;cases hx;exact⟨n,rfl,rfl⟩
  have hi:i<cs.length:=(List.getElem?_eq_some_iff.mp hn).1;exfalso;exists _,rfl,_,rfl,n,Dk,rows.map Rw.z,rfl,eK,zbD V1,by rw[aA];omega,fun tn z rest' H4 s4 htn hz=>?_
  exists tn,_,0,.str z,rfl,rfl,zz htn,rfl,?_;have s3:=s3.trans s4;have eK:=s4 _ _ eK;have eD:=s4 _ _ eD;have eF:=s4 _ _ eF;have neK:Dk≠fo:=ze (s1 _ _ hk) hfo;exists _,rfl,_,rfl,D,_,rfl,.inl (zc eD),rfl,xN,_,rfl,?_;by_cases hk:z∈nms rows
  ·refine yR (by rw[aK rfl,xw,aC hk];rfl) ?_
   refine yB ?_;exact⟨bars,_,_,rfl,s3,eK,eD,eF,nd,nm,nk,le_succ_of_le ln⟩
  refine xE (by rw[aK rfl,xw,aD hk];rfl) ?_
  exists _,rfl,_,rfl,fo,_,rfl,.inl (zc eF),rfl,xN,_,rfl,?_;by_cases hb:z∈bars
  ·refine yR (by rw[aK rfl,xw,aC hb];rfl) ?_
   exact⟨bars,_,_,rfl,s3,eK,eD,eF,nd,nm,nk,le_succ_of_le ln⟩
  refine xE (by rw[aK rfl,xw,aD hb];rfl) ?_
  exists _,rfl,.inl ⟨rfl,_,zc eF⟩,_,rfl,fo,_,_,rfl,rfl,eF,zE (by rw[aA];omega),?_
  refine⟨bars++[z],_,_,rfl,fun b u e=>by rw[zf (ze e nfo)];exact s3 _ _ e,by rw[zf neK];exact eK,by rw[zf neD];exact eD,by rw[za,aE];rfl,List.nodup_append.mpr ⟨nd,by simp,fun x hx y hy e=>hb (by rw[<- List.mem_singleton.mp hy,<- e];exact hx)⟩,fun y hy=>?_,fun y hy=>?_,by rw[aG];exact Nat.succ_le_succ ln⟩
  ·rcases List.mem_append.mp hy with hy|hy
   ·exact nm y hy
   ·rw[List.mem_singleton.mp hy];exact hz
  ·rcases List.mem_append.mp hy with hy|hy
   ·exact nk y hy
   ·rw[List.mem_singleton.mp hy];exact hk
 ·rintro σ H3 ⟨bars,v5,v6,rfl,s3,eK,eD,eF,nd,nm,nk,ln⟩
  rw[aA] at ln;exact⟨_,rfl,q fo bars H3 s3 nfo eF ⟨V1.ok,V1.l24,∅,V1.ord,nm,List.nodup_append.mpr ⟨V1.nd,nd,fun x hx y hy e=>nk y hy (e ▸ hx)⟩⟩⟩
def xm(k:Nat):Bool:=k==0||k==1||k==3
theorem zjK:∀k,k<5->inV (.str (kw k)) [.str "seat",.str "both",.str "tag"]=xm k:=by decide +kernel
def uZ(rows:List Rw)(p:Int):Bool:=if 0<=p then match rows[p.toNat]? with|some r=>xm r.k|none=>false else false
inductive zfO(vs:List V)(H:Hp)(Q:VK)(E:XK):Prop|mk(la:Addr)(p:Int)(us:List Addr)(rows:List Rw):vs=[.ref la,.int p]->H la=some (.lst (us.map V.ref))->Paired (TAt H) us rows->VR rows->(∀H',zq H H'->Q (.bl (uZ rows p)) H')->zfO vs H Q E
theorem zlL:zp ["_law_specs_here","_law_p"] ["_law_specs_here","_law_p"] (zi zbb):=fsc
theorem zkI(F:Fun K "_law_single" "_law_single" zbb f fd)(T:uz mg):↥1 f fd ["_law_specs_here","_law_p"] zfO:=by
 specialize zlL;obtain⟨la,p,us,rows,rfl,hla,hu,V1,q⟩:=h;exists _,zd (zt (zbp (y9 zek zh (pv 1) (zv _)) (zbp (y9 wD (pv 1) (cB zF T.len PySem.boot_len (ac (pv 0) zb)) (zv _)) (zc8 (y9 xq (zu zL (zu zy (pv 0) (pv 1) (fun _ _=>rfl)) zh (fun _ _=>rfl)) (zQ (ac zw (ac zw (ac zw zb)))) (by with_unfolding_all rfl)))))),?_
 have lu:us.length=rows.length:=hu.length;exists _,rfl,_,_,rfl,rfl,_,rfl,?_;unfold uZ at q;by_cases h0 : 0<=p
 rotate_left
 ·refine dF h0 ?_
  have:=q H (zq.refl _)
  rw[aJ h0] at this;exact this
 refine dT h0 ?_;rw[aK h0] at q;obtain⟨n,rfl⟩:=eq_ofNat_of_zero_le h0;rw[toNat_natCast] at q;exists _,rfl,_,rfl,la,_,rfl,.inl (zc hla),_,_,rfl,rfl,_,rfl,?_;by_cases h1:n<rows.length
 rotate_left
 ·have h1':¬((n:Nat):Int)<((us.map V.ref).length:Int):=by rw[aA];omega
  refine dF h1' ?_
  have:=q H (zq.refl _)
  rw[List.getElem?_eq_none ∅] at this
  exact this
 have h1':((n:Nat):Int)<((us.map V.ref).length:Int):=by rw[aA];omega
 refine dT h1' ?_;have e2:rows[n]?=some rows[n]:=aB h1;have eu:us[n]?=some us[n]:=aB ∅
 obtain⟨r,hr',tr⟩:=zU hu eu;rw[hr'] at q;have rk:=V1.ok r (aH hr');exists _,rfl,_,rfl,la,_,_,.ref us[n],rfl,rfl,zc hla,yF (by rw[getElem?_map,eu];rfl),us[n],_,0,_,rfl,rfl,zz tr,wg rk,za0,fun t ht=>?_
 have s1:=zg ht (.tup [.str "seat",.str "both",.str "tag"]);exists t,_,rfl,.inr (zz za),rfl,rfl,?_;rw[aJ zft,zjK _ rk.1];exact q _ s1
theorem zec(h:xm r.k=true):atI (rv r) 2=some (.bl r.b):=by
 obtain⟨k,z,b⟩:=r;unfold xm at h;simp only[Bool.or_eq_true,beq_iff_eq] at h;rcases h with (h|h)|h <;> (cases h;rfl)
def jx(rows:List Rw)(i:Nat):Bool:=match rows[i]? with|some r=>xm r.k&&r.b|none=>false
def zR(rows:List Rw):List Nat:=(List.range rows.length).filter (jx rows)
inductive jJ(vs:List V)(H:Hp)(Q:VK)(E:XK):Prop|mk(la:Addr)(us:List Addr)(rows:List Rw):vs=[.ref la]->H la=some (.lst (us.map V.ref))->Paired (TAt H) us rows->VR rows->(∀(l:Addr) (H':Hp),zq H H'->H l=none->H' l=some (.lst ((zR rows).map fun n=>V.int (n:Nat)))->Q (.ref l) H')->jJ vs H Q E
theorem znc:([Str.ofString "_law_p",Str.ofString "_law_specs_here"]:List Str).Nodup:=by decide +kernel
theorem zh9:zp ["_law_specs_here"] ["_law_specs_here"] (zi zcX):=fsc
theorem zgY(F:Fun K "_law_loose" "_law_loose" zcX f fd)(T:uz mg)(cS:⇑1 "_law_single" g gd ["_law_specs_here","_law_p"] zfO):↥2 f fd ["_law_specs_here"] jJ:=by
 specialize zh9;obtain⟨la,us,rows,rfl,hla,hu,V1,q⟩:=h;refine⟨_,zd (zt (xF ["_law_specs_here"] ["_law_p","_law_specs_here"] [none,some 0] rfl ⟨rfl,rfl,rfl,rfl⟩ (yO rfl T.range (ac (cB zF T.len PySem.boot_len (ac (pv 0) zb)) zb)) (yc 0) rfl rfl rfl
   (fun pins fp s H C=>⟨zl (i:=0) znc rfl (Or.inl rfl) (.inr rfl),xM (yy (yz (yA (cF cS hr (ac (pv 1) (ac (pv 0) zb)))) (yq (yA (zu (r:=q0 K) zL (zu (r:=zeU K) zy (pv 1) (pv 0) (fun _ _=>rfl)) zh (fun _ _=>rfl)))))),pv 0⟩))),?_⟩
 have lu:us.length=rows.length:=hu.length;have l24:=V1.l24;exists _,rfl,la,_,rfl,.inl (zc hla),(((us.map V.ref).length:Nat):Int),rfl,∅,(by rw[aA];omega),fun D hD=>?_
 rw[show(((us.map V.ref).length:Nat):Int).toNat=rows.length by rw[aA];omega]
 refine zep (n:=rows.length) (jx rows) (fun n=>.int (n:Nat)) hD ∅ (fun i H' N S hi sH n1 s1=>?_) (fun H1 s1 h1=>q D H1 s1 hD h1)
 rw[Int.zero_add];have e2:rows[i]?=some rows[i]:=aB hi;have eu:us[i]?=some us[i]:=aB ∅
 have tr:TAt H us[i] rows[i]:=by
  obtain⟨r,hr',tr⟩:=zU hu eu;rw[e2] at hr';cases hr';exact tr
 exists _,rfl,_,rfl,la,(i:Int),us,rows,rfl,sH _ _ hla,z8 sH hu,V1,fun H2 s2=>?_;have es:uZ rows (i:Int)=xm rows[i].k:=by
  unfold uZ;rw[aK ∅,toNat_natCast,e2]
 have ek:jx rows i=(xm rows[i].k&&rows[i].b):=by
  unfold jx;rw[e2]
 exists _,rfl,?_;rw[es];cases ho:xm rows[i].k with
 | false=>
  refine yB ?_;exact⟨fun e=>Bool.noConfusion e,fun _=>s1 _ s2 (by rw[ek,ho];rfl)⟩
 | true=>
  refine xu ?_;have sH2:=sH.trans s2;exists _,rfl,_,rfl,la,_,_,.ref us[i],rfl,rfl,zc (sH2 _ _ hla),yF (by rw[getElem?_map,eu];rfl),us[i],_,2,_,rfl,rfl,zz (sH2 _ _ tr),zec ho,_,rfl,?_
  exact⟨fun e=>⟨_,rfl,n1 _ s2 (by rw[ek,ho,e];rfl)⟩,fun e=>s1 _ s2 (by rw[ek,ho,e];rfl)⟩
inductive Df where
 | told (n:Int)|once|anew|sum (at_ times plus:Int)
def Df.row:Df->List V
 | .told n=>[.str "told",.int n]|.once=>[.str "once"]|.anew=>[.str "anew"]|.sum a t p=>[.str "sum",.int a,.int t,.int p]
def fTo(v:V):List (Str×V):=zP "number" v []
def fSu(a t p:V):List (Str×V):=zP "plus" p (zP "times" t (zP "at" a []))
def Df.fs:Df->List (Str×V)
 | .told n=>fTo (.int n)|.sum a t p=>fSu (.int a) (.int t) (.int p)|_=>[]
def Df.k:Df->Nat
 | .told _=>0|.once=>1|.anew=>2|.sum _ _ _=>3
structure C4 where
 (c0 c1 c2 c3:Addr)
def C4.at(c:C4):Nat->Addr
 | 0=>c.c0|1=>c.c1|2=>c.c2|_=>c.c3
inductive zhX(C:Addr)(vs:List V)(H:Hp)(Q:VK)(E:XK):Prop|mk(p dx:Addr)(v:V):vs=[.ref p,v]->H p=some (.ins C dx [])->(Q .non (upd H p (.ins C dx (fTo v))))->zhX C vs H Q E
inductive zj8(C:Addr)(vs:List V)(H:Hp)(Q:VK)(E:XK):Prop|mk(p dx:Addr)(x y z:V):vs=[.ref p,x,y,z]->H p=some (.ins C dx [])->(Q .non (upd H p (.ins C dx (fSu x y z))))->zj8 C vs H Q E
inductive zjD(K:Frag)(c:C4)(vs:List V)(H:Hp)(Q:VK)(E:XK):Prop|mk(p:Addr)(d:Df):vs=[.ref p]->H p=some (.tup d.row)->(d.k=0\/d.k=3)->(∀(x dx:Addr) (H':Hp),zq H H'->H x=none->H' x=some (.ins (c.at d.k) dx d.fs)->Q (.ref x) H')->zjD K c vs H Q E
structure zhM(P:Program)(w:World)(K:Frag)(mg:Str->Option Value)(base:Heap)(c:C4)(i0 i3:Addr)(d0 d3:FuncData):Prop where
 k0:jr P w K mg base CX0 1 "Told" c.c0 i0 d0 ["self","number"] [] (zhX c.c0)
 k3:jr P w K mg base CX0 1 "Sum" c.c3 i3 d3 ["self","at","times","plus"] [] (zj8 c.c3)
 k1:Mk0 K c.c1
 k2:Mk0 K c.c2
 m1:mg "Once"=some (.ref c.c1)
 m2:mg "Anew"=some (.ref c.c2)
theorem znn:¬(V.str "anew"=V.str "told"):=by decide +kernel
theorem znm:¬(V.str "anew"=V.str "once"):=by decide +kernel
theorem zmh:¬(V.str "sum"=V.str "told"):=by decide +kernel
theorem znl:¬(V.str "sum"=V.str "once"):=by decide +kernel
theorem znk:¬(V.str "sum"=V.str "anew"):=by decide +kernel
end
section
variable {K:Frag}{mg:Str->Option Value}{f C i0 i3:Addr}{c:C4}
theorem zie:zp ["self","number"] ["self","number"] (zi zc7):=fsc
theorem zg9(F:Fun K "__init__" "Told.__init__" zc7 f fd)(cc:Cls K C)(n:yl K C "number"):↥1 f fd ["self","number"] (zhX C):=by
 specialize zie;obtain⟨p,dx,v,rfl,hp,q⟩:=h;exists _,zd (xl (pv 0) (pv 1) rfl),?_;exact⟨_,rfl,_,rfl,p,C,dx,[],rfl,hp,cc,n,(by show 0<1000;decide),q⟩
theorem zkk:zp ["self","at","times","plus"] ["self","at","times","plus"] (zi zgm):=fsc
theorem ziV(F:Fun K "__init__" "Sum.__init__" zgm f fd)(cc:Cls K C)(n1:yl K C "at")(n2:yl K C "times")(n3:yl K C "plus"):↥1 f fd ["self","at","times","plus"] (zj8 C):=by
 specialize zkk;obtain⟨p,dx,x,y,z,rfl,hp,q⟩:=h;exists _,zk (xl (pv 0) (pv 1) rfl) (zk (xl (pv 0) (pv 2) rfl) (zd (xl (pv 0) (pv 3) rfl))),?_;exists _,rfl,_,rfl,p,C,dx,[],rfl,hp,cc,n1,(by show 0<1000;decide),?_
 exists _,rfl,_,rfl,p,C,dx,_,rfl,za,cc,n2,(by show 1<1000;decide),?_
 rw[vf];exists _,rfl,_,rfl,p,C,dx,_,rfl,za,cc,n3,(by show 2<1000;decide),?_
 rw[vf];exact q
theorem zlO:zp ["_law_told"] ["_law_told"] (zi qk):=fsc
theorem zkP(F:Fun K "_law_default" "_law_default" qk f fd)(U:zhM P w K mg base c i0 i3 d0 d3):↥3 f fd ["_law_told"] (zjD K c):=by
 specialize zlO;obtain⟨p,d,rfl,hp,hk,q⟩:=h;have hS:SqT K H p d.row:=zz hp;refine⟨_,zk (zJ (zn ye (zu zL (pv 0) zh (fun _ _=>rfl)) zw (zv _)) (zd (zt (cMk U.k0 .nil zY hr (ac (zu zL (pv 0) zh (fun _ _=>rfl)) zb)))) zx)
  (zd (zt (cMk U.k3 .nil zY hr (ac (zu zL (pv 0) zh (fun _ _=>rfl)) (ac (zu zL (pv 0) zh (fun _ _=>rfl)) (ac (zu zL (pv 0) zh (fun _ _=>rfl)) zb)))))),?_⟩
 cases d with
 | told n=>
  exists _,rfl,p,_,_,.str "told",rfl,rfl,hS,rfl,rfl,_,rfl,?_;refine dT rfl ?_;exact⟨_,rfl,p,_,_,.int n,rfl,rfl,hS,rfl,fun x dx hx hdx ne=>⟨x,dx,.int n,rfl,za,⟨rfl,q x dx _ (vU hx hdx) hx za⟩⟩⟩
 | once=>exact hk.elim (fun e=>by cases e) (fun e=>by cases e)
 | anew=>exact hk.elim (fun e=>by cases e) (fun e=>by cases e)
 | sum a' t' p'=>
  exists _,rfl,p,_,_,.str "sum",rfl,rfl,hS,rfl,rfl,_,rfl,?_;refine dF zmh ?_;exact⟨_,rfl,p,_,_,.int a',rfl,rfl,hS,rfl,_,rfl,p,_,_,.int t',rfl,rfl,hS,rfl,_,rfl,p,_,_,.int p',rfl,rfl,hS,rfl,fun x dx hx hdx ne=>⟨x,dx,.int a',.int t',.int p',rfl,za,⟨rfl,q x dx _ (vU hx hdx) hx za⟩⟩⟩
def wl(n:Int):List (Str×V):=[(Str.ofString "coming",V.int n)]
theorem zfy(n:Int):zP "coming" (.int n) []=wl n:=rfl
theorem zjR(n m:Int):zP "coming" (.int m) (wl n)=wl m:=by
 show(if (Str.ofString "coming")="coming" then _ else _)=_
 rw[aK rfl];rfl
theorem zaQ(n:Int):(wl n).lookup ("coming" : Str)=some (.int n):=by
 rw[<- zfy,zj,aK rfl]
theorem wP(n:Int){m:Str}(h:¬m="coming"):(wl n).lookup m=none:=by
 rw[<- zfy,zj,aJ h];rfl
theorem nm1:¬(("draw" : Str)="coming"):=by decide +kernel
theorem nm2:¬(("ahead" : Str)="coming"):=by decide +kernel
inductive zcD(C:Addr)(vs:List V)(H:Hp)(Q:VK)(E:XK):Prop|mk(p dx:Addr)(n:Int):vs=[.ref p,.int n]->H p=some (.ins C dx [])->(Q .non (upd H p (.ins C dx (wl n))))->zcD C vs H Q E
inductive j8(C:Addr)(vs:List V)(H:Hp)(Q:VK)(E:XK):Prop|mk(p dx:Addr)(n:Int):vs=[.ref p]->H p=some (.ins C dx (wl n))->(Q (.int n) (upd H p (.ins C dx (wl (n+1)))))->j8 C vs H Q E
inductive jK(C:Addr)(vs:List V)(H:Hp)(Q:VK)(E:XK):Prop|mk(p dx:Addr)(n:Int):vs=[.ref p]->H p=some (.ins C dx (wl n))->(Q (.int n) H)->jK C vs H Q E
structure jB(K:Frag)(mg:Str->Option Value)(C:Addr):Prop where
 cl:Cls K C
 nC:yl K C "coming"
 mgW:mg "Well"=some (.ref C)
theorem zh3:zp ["self","first"] ["self","first"] (zi zcJ):=fsc
theorem zgL(F:qV K "__init__" "Well.__init__" zcJ f fd ds)(T:jB K mg C):↥1 f fd ["self","first"] (zcD C):=by
 refine F.ok zh3 (fun vs H Q E h=>?_) (fun cdv A outer s H vs Q E hr h=>?_)
 ·obtain⟨p,dx,n,rfl,_⟩:=h
  rfl
 obtain⟨p,dx,n,rfl,hp,q⟩:=h;exists _,zd (xl (pv 0) (pv 1) rfl),?_;exact⟨_,rfl,_,rfl,p,C,dx,[],rfl,hp,T.cl,T.nC,(by show 0<1000;decide),q⟩
theorem zd7:zp ["self","given"] ["self"] (zi zcK):=fsc
theorem zgM(F:Fun K "draw" "Well.draw" zcK f fd)(T:jB K mg C):↥1 f fd ["self"] (j8 C):=by
 specialize zd7;obtain⟨p,dx,n,rfl,hp,q⟩:=h;exists _,zk (zB (i:=1) zd7.nd rfl (Or.inl rfl) (yo (pv 0) rfl)) (zk (zeV (pv 0) zh zk5) (zd (zt (pv 1)))),?_;exists _,rfl,p,C,dx,_,_,rfl,hp,T.cl,T.nC,zaQ n,?_;exists _,rfl,p,C,dx,_,_,rfl,hp,T.cl,T.nC,zaQ n,_,_,rfl,rfl,dx,_,hp,(by show 1<1000;decide),?_
 exists _,rfl,?_;rw[zjR];exact q
theorem zf0:zp ["self"] ["self"] (zi za9):=fsc
theorem ze2(F:Fun K "ahead" "Well.ahead" za9 f fd)(T:jB K mg C):↥1 f fd ["self"] (jK C):=by
 specialize zf0;obtain⟨p,dx,n,rfl,hp,q⟩:=h;exists _,zd (zt (yo (pv 0) rfl)),?_;exact⟨_,rfl,p,C,dx,_,_,rfl,hp,T.cl,T.nC,zaQ n,q⟩
inductive zj7(c:C5)(CF:Addr)(vs:List V)(H:Hp)(Q:VK)(E:XK):Prop|mk(f:Addr)(rows:List Rw)(bars:List Str):vs=[.ref f]->yN c CF H f rows bars->VR rows->(∀(l:Addr) (H':Hp),zq H H'->H l=none->H' l=some (.lst ((zR rows).map fun n=>V.int (n:Nat)))->Q (.ref l) H')->zj7 c CF vs H Q E
end
section
variable {K:Frag}{mg:Str->Option Value}{f CF:Addr}{c:C5}
theorem zmc:([Str.ofString "number",Str.ofString "one"]:List Str).Nodup:=by decide +kernel
theorem zlN:zp ["form","parameters"] ["form"] (zi zc0):=fsc
theorem zl4(F:Fun K "free_numbers" "free_numbers" zc0 f fd)(hen:mg "enumerate"=none)(PP:Pcs K m c)(FK:FC K CF)(mP:y6 K CF "parameters" gP)(GP:↥1 gP eP ["self"] (uY c CF))(bP:zM K eP ["self"] [])
  (GT:↥1 m.fT gt ["self"] (jE K m otL)) (bT:zM K gt ["self"] []) (GF:↥1 m.fF gf ["self"] (zaY K m)) (bF:zM K gf ["self"] []):↥2 f fd ["form"] (zj7 c CF):=by
 specialize zlN;obtain⟨f,rows,bars,rfl,hF,V1,q⟩:=h;have hT:∀C,Cs5 c C->Cls K C/\y6 K C "takes_one" m.fT:=fun C ⟨k,hk,e⟩=>by rw[e];exact⟨(PP k hk).cl,(PP k hk).mT⟩
 have hO:∀C,Cs5 c C->Cls K C/\y6 K C "free" m.fF:=fun C ⟨k,hk,e⟩=>by rw[e];exact⟨(PP k hk).cl,(PP k hk).mF⟩
 refine⟨_,zk (zB (i:=1) zlN.nd rfl (Or.inl rfl) (yk (pv 0) FK.cl mP GP hr bP .nil zY))
  (zd (zt (xF [] ["number","one"] [none,none] rfl ⟨rfl,rfl,rfl,rfl⟩ (wC rfl hen (ac (pv 1) zb)) (wn (K:=K) (n:=2) 0 1) rfl rfl rfl
   (fun pins fp s H C=>⟨yi rfl (zo (zl (i:=0) zmc rfl (Or.inl rfl) (.inr rfl)) (zo (zl (i:=1) zmc rfl (Or.inl rfl) (.inr rfl)) zT)),xM (yy (yz (yA (wY (pv 1) hT GT hr bT zY)) (yq (yA (wY (pv 1) hO GF hr bF zY))))),pv 0⟩)))),?_⟩
 have l24:=V1.l24;obtain⟨dx,fs,lr,lb,ld,ps0,h1,h2,h3,h4,h5,h6⟩:=id hF;exists _,rfl,f,dx,fs,rfl,h1,h2.no _ (by decide +kernel),f,rows,bars,rfl,hF,fun lp ps H2 s2 np ep hps=>?_
 have lps:ps.length=rows.length:=hps.length;exists _,rfl,lp,rfl,⟨_,zc ep⟩,fun D hD=>?_;refine zi3 (K:=K) (xs:=ps.map V.ref) (List.range rows.length) (jx rows) (fun n=>.int (n:Nat)) hD (zc ep) (by rw[aA,length_range,lps]) (by rw[aA];omega) (fun i x y p H' N S hx hy hp sH n1 s1=>?_) (fun H3 s3 h3'=>q D H3 (s2.trans s3) (s2.free hD) h3')
 obtain⟨pa,hpa,rfl⟩:=xK hx;obtain⟨r,hr',dx',hdx⟩:=zU hps hpa;have hi:i<rows.length:=(List.getElem?_eq_some_iff.mp hr').1;rw[List.getElem?_range hi] at hy;cases hy;have rok:=V1.ok r (aH hr');have C:=PP r.k rok.1;have ek:jx rows i=(xm r.k&&r.b):=by unfold jx;rw[hr']
 have sp:=zg hp (.tup [.int (i:Nat),.ref pa]);have hdx3:=sp _ _ (sH _ _ hdx);exists p,_,rfl,zz za,rfl,_,_,rfl,_,_,rfl,rfl,?_;generalize upd H' p (.tup [.int (i:Nat),.ref pa])=H4 at sp hdx3 |-;exists _,rfl,pa,_,dx',_,rfl,⟨r.k,rok.1,rfl⟩,hdx3,jt (by decide +kernel) (by decide +kernel) (by decide +kernel),pa,dx',_,_,_,_,rfl,C,hdx3,_,rfl,?_
 rw[show inV (.str (kw r.k)) otL=xm r.k from zjK r.k rok.1];cases ho:xm r.k with
 | false=>
  refine yB ?_;exact⟨fun e=>Bool.noConfusion e,fun _=>s1 _ sp (by rw[ek,ho];rfl)⟩
 | true=>
  refine xu ?_;exists _,rfl,pa,_,dx',_,rfl,⟨r.k,rok.1,rfl⟩,hdx3,jt (by decide +kernel) (by decide +kernel) (by decide +kernel),pa,dx',_,_,_,_,rfl,C,hdx3,_,rfl,?_
  have ef:fr r.k r.b=r.b:=by
   have h:=ho;unfold xm at h;simp only[Bool.or_eq_true,beq_iff_eq] at h;rcases h with (h|h)|h <;> rw[h] <;> rfl
  rw[ef];exact⟨fun e=>⟨_,rfl,n1 _ sp (by rw[ek,ho,e];rfl)⟩,fun e=>s1 _ sp (by rw[ek,ho,e];rfl)⟩
theorem zlh{l g0 g:Nat}(h1:xI l g0=false)(h2:xI g0 g=false):xI l g=false:=by
 unfold xI at *;simp only[Bool.or_eq_false_iff,decide_eq_false_iff_not,Bool.and_eq_false_iff,beq_eq_false_iff_ne] at *;omega
theorem zgC:∀(rows:List Rw) (l n:Nat) (r:Rw),yG l rows=true->rows[n]?=some r->xI l (grp r.k)=false
 | [],_,_,_,_,h=>by simp at h
 | x::xs,l,0,r,h,e=>by
  cases e;have h':(!xI l (grp x.k)&&yG (grp x.k) xs)=true:=h;rw[Bool.and_eq_true,Bool.not_eq_true'] at h';exact h'.1
 | x::xs,l,n+1,r,h,e=>by
  have h':(!xI l (grp x.k)&&yG (grp x.k) xs)=true:=h;rw[Bool.and_eq_true,Bool.not_eq_true'] at h';exact zlh h'.1 (zgC xs _ n r h'.2 (by simpa using e))
theorem qu:∀(rows:List Rw) (l m n:Nat) (r r':Rw),yG l rows=true->m<n->rows[m]?=some r->rows[n]?=some r'->xI (grp r.k) (grp r'.k)=false
 | [],_,_,_,_,_,_,_,h,_=>by simp at h
 | x::xs,l,m,0,r,r',h,hm,_,_=>by omega
 | x::xs,l,0,n+1,r,r',h,_,e,e'=>by
  cases e;have h':(!xI l (grp x.k)&&yG (grp x.k) xs)=true:=h;rw[Bool.and_eq_true,Bool.not_eq_true'] at h';exact zgC xs _ n r' h'.2 (by simpa using e')
 | x::xs,l,m+1,n+1,r,r',h,hm,e,e'=>by
  have h':(!xI l (grp x.k)&&yG (grp x.k) xs)=true:=h;rw[Bool.and_eq_true,Bool.not_eq_true'] at h';exact qu xs _ m n r r' h'.2 ∅ (by simpa using e) (by simpa using e')
theorem jl{kk:Nat}:∀(rows:List Rw) (i m:Nat) (r:Rw),rows[m]?=some r->r.k=kk->(∀j r',j<m->rows[j]?=some r'->¬r'.k=kk)->zH kk i rows=some (i+m)
 | [],_,_,_,h,_,_=>by simp at h
 | x::xs,i,0,r,h,hk,_=>by
  cases h;show(if x.k=kk then some i else _)=_
  rw[aK hk];rfl
 | x::xs,i,m+1,r,h,hk,hn=>by
  show(if x.k=kk then some i else zH kk (i+1) xs)=_
  rw[aJ (hn 0 x ∅ rfl),jl xs (i+1) m r (by simpa using h) hk (fun j r' hj e=>hn (j+1) r' ∅ (by simpa using e))]
  congr 1
  omega
theorem ua{kk:Nat}:∀(rows:List Rw) (i j:Nat),zH kk i rows=some j->∃r,i<=j/\rows[j - i]?=some r/\r.k=kk
 | [],_,_,h=>by cases h
 | x::xs,i,j,h=>by
  have h':(if x.k=kk then some i else zH kk (i+1) xs)=some j:=h
  by_cases e:x.k=kk
  ·rw[aK e] at h'
   cases h';exact⟨x,aF _,by simp,e⟩
  ·rw[aJ e] at h'
   obtain⟨r,hl,hr,hk⟩:=ua xs (i+1) j h';exists r,∅,?_,hk
   rw[show j - i=(j - (i+1))+1 by omega]
   simpa using hr
def vQ(rows:List Rw)(n:Nat):Df->Prop
 | .sum a t _=>0<=a/\a<(n:Int)/\uZ rows a=true/\-9<=t/\t<=9
 | _=>True
theorem zfi{a:Int}(h0 : 0<=a)(h:uZ rows a=true):V.int a≠wy (zH 2 0 rows):=fun e=>by
 cases ef:zH 2 0 rows with
 | none=>rw[ef] at e;cases e
 | some j=>
  rw[ef] at e;have ej:a=(j:Int):=V.int.inj e;obtain⟨r3,_,hr3,hk3⟩:=ua rows 0 j ef;unfold uZ at h;rw[aK h0,ej,toNat_natCast] at h;rw[sub_zero] at hr3;rw[hr3] at h;have h:xm r3.k=true:=h;rw[hk3] at h;cases h
def DAt(c:C4)(H:Hp)(p:Addr)(d:Df):Prop:=∃dx,H p=some (.ins (c.at d.k) dx d.fs)
theorem ue{c:C4}{H H':Hp}{ps:List Addr}{ds:List Df}(s:zq H H')(h:Paired (DAt c H) ps ds):Paired (DAt c H') ps ds:=zm (fun _ _ ⟨dx,z⟩=>⟨dx,s _ _ z⟩) h
theorem Df.k4(d:Df):d.k<4:=by cases d <;> simp [Df.k]
structure D4(K:Frag)(mg:Str->Option Value)(c:C4)(DF:Addr):Prop where
 ty:∀k,k<4->∀(H:Hp) (p dx:Addr) (fs:List (Str×V)),H p=some (.ins (c.at k) dx fs)->wA K H (.ref p) (.ref (c.at k))
 kt:∀k,k<4->∀j,j<4->kitOne K (.ref (c.at k)) (.ref (c.at j))=some (decide (j=k))
 kd:∀k,k<4->kitOne K (.ref (c.at k)) (.ref DF)=some true
 cl0:Cls K c.c0
 cl3:Cls K c.c3
 nn:yl K c.c0 "number"
 na:yl K c.c3 "at"
 nt:yl K c.c3 "times"
 np:yl K c.c3 "plus"
 m0:mg "Told"=some (.ref c.c0)
 m1:mg "Once"=some (.ref c.c1)
 m2:mg "Anew"=some (.ref c.c2)
 m3:mg "Sum"=some (.ref c.c3)
 mD:mg "Default"=some (.ref DF)
theorem zfM:(fSu a t p).lookup ("at" : Str)=some a:=by
 unfold fSu;rw[zj,aJ (by decide +kernel),zj,aJ (by decide +kernel),zj,aK rfl]
theorem zfL:(fSu a t p).lookup ("times" : Str)=some t:=by
 unfold fSu;rw[zj,aJ (by decide +kernel),zj,aK rfl]
theorem zhW:(fSu a t p).lookup ("plus" : Str)=some p:=by
 unfold fSu;rw[zj,aK rfl]
theorem zjY:(fTo v).lookup ("number" : Str)=some v:=by
 unfold fTo;rw[zj,aK rfl]
theorem uN{ns:List Nat}{i:Nat}{x:V}(h:(ns.map fun n=>V.int (n:Nat))[i]?=some x):∃n,ns[i]?=some n/\x=.int (n:Nat):=by
 rw[getElem?_map] at h;cases e:ns[i]? with
 | none=>rw[e] at h;cases h
 | some z=>rw[e] at h;exact⟨z,rfl,(Option.some.inj h).symm⟩
def spRDef (c:C5) (c4:C4) (CF:Addr):Sp:=fun vs H Q _=>∃(f ld:Addr) (rows:List Rw) (bars:List Str) (ps:List Addr) (ds:List Df),vs=[.ref f,.ref ld]/\yN c CF H f rows bars/\VR rows/\H ld=some (.lst (ps.map V.ref))/\Paired (DAt c4 H) ps ds/\Paired (vQ rows) (zR rows) ds/\∀H',zq H H'->Q .non H'
variable {c4:C4}
theorem za6:zp ["form","defaults","numbers","number","default"] ["form","defaults"] (zi zgb):=fsc
theorem ziH(F:Fun K "refuse_defaults" "refuse_defaults" zgb f fd)(T:uz mg)(FK:FC K CF)(DK:D4 K mg c4 DF)(cN:⇑2 "free_numbers" g1 d1 ["form"] (zj7 c CF))
  (mT:y6 K CF "tail" gT) (GT:↥1 gT eT ["self"] (vg c CF 2)) (bT:zM K eT ["self"] []):↥3 f fd ["form","defaults"] (spRDef c c4 CF):=by
 specialize za6;obtain⟨f,ld,rows,bars,ps,ds,rfl,hF,V1,hld,hp,hg,q⟩:=h;have hr1:yg 1 _:=hr.mono ⋯
 refine⟨_,zk (zB (i:=2) za6.nd rfl (Or.inl rfl) (cF cN hr (ac (pv 0) zb)))
  (zk (zJ (zn wD (cB zF T.len PySem.boot_len (ac (pv 1) zb)) (cB zF T.len PySem.boot_len (ac (pv 2) zb)) (zv _)) (zd wj) zx)
  (zk (zJ (zn zap (cB zF T.len PySem.boot_len (ac (pv 1) zb)) (cB zF T.len PySem.boot_len (ac (pv 2) zb)) (zv _)) (zd wj) zx)
  (zd (yr PassesOwn.never rfl (zgx rfl T.zip (ac (pv 2) (ac (pv 1) zb))) (yi rfl (zo (zl (i:=3) za6.nd rfl (Or.inl rfl)) (zo (zl (i:=4) za6.nd rfl (Or.inl rfl)) zT)))
   (zd (zJ (yy (yz (yA (cB wk T.isi boot_isinstance (ac (pv 4) (ac (xD (v:=.ref c4.c3) rfl DK.m3 rfl) zb)))) (yq (yy (vy (wL (zbT zek wD zh (yo (pv 4) rfl) (pv 3))) (wx (zn ye (yo (pv 4) rfl) (yk (pv 0) FK.cl mT GT hr1 bT .nil zY) (zv _))))))))
    (zd wj) zx)))))),?_⟩
 exists _,rfl,f,rows,bars,rfl,hF,V1,fun l H1 s1 nl el=>?_;have lp:ps.length=ds.length:=hp.length;have lg:(zR rows).length=ds.length:=hg.length;have lf:(zR rows).length<=24:=le_trans (length_filter_le _ _) (by rw[length_range];exact V1.l24)
 have hld1:=s1 _ _ hld;exists _,rfl,ld,_,rfl,.inl (zc hld1),_,rfl,l,_,rfl,.inl (zc el),_,_,rfl,rfl,_,rfl,?_;refine dF (by rw[aA,aA];omega) ?_
 exists _,rfl,ld,_,rfl,.inl (zc hld1),_,rfl,l,_,rfl,.inl (zc el),_,_,rfl,rfl,_,rfl,?_;refine dF (by rw[aA,aA];omega) ?_
 refine⟨_,rfl,_,rfl,l,ld,rfl,⟨_,zc el⟩,⟨_,zc hld1⟩,zex (K:=K) (a:=l) (b:=ld) (xs:=(zR rows).map fun n=>V.int (n:Nat)) (ys:=ps.map V.ref) (fun i σ H'=>∃v3 v4,σ=[~~~f,~~~ld,~~~l,v3,v4]/\zq H1 H')
  (by rw[aA,aA];omega) ⟨_,_,rfl,zq.refl _⟩ (fun i σ H' _ ⟨_,_,_,sH⟩=>⟨zc (sH _ _ el),zc (sH _ _ hld1)⟩) ?_ ?_⟩
 ·rintro i x y p σ H2 hx hy ⟨v3,v4,rfl,s2⟩ hpn
  obtain⟨n,hn',rfl⟩:=uN hx;obtain⟨pa,hpa,rfl⟩:=xK hy;obtain⟨d,hd,dx,hdx⟩:=zU hp hpa;obtain⟨d',hd',gd⟩:=zU hg hn';rw[hd] at hd';cases hd';have sp:=zg hpn (.tup [.int (n:Nat),.ref pa]);exists p,_,rfl,zz za,rfl,_,_,rfl,_,_,rfl,rfl,?_;generalize upd H2 p (.tup [.int (n:Nat),.ref pa])=H3 at sp |-;have s3:=s2.trans sp;have s13:=s1.trans s3;have hd3:=s13 _ _ hdx;exists _,rfl,_,_,_,_,rfl,DK.ty _ d.k4 _ _ _ _ hd3,DK.kt _ d.k4 3 ⋯,_,rfl,?_
  cases d with
  | told _=>exact yR rfl (yB ⟨_,_,rfl,s3⟩)
  | once=>exact yR rfl (yB ⟨_,_,rfl,s3⟩)
  | anew=>exact yR rfl (yB ⟨_,_,rfl,s3⟩)
  | sum a t pl=>
   obtain⟨h0,h3,hs,_⟩:=gd;refine xE rfl ?_;exists _,rfl,pa,c4.c3,dx,_,_,rfl,hd3,DK.cl3,DK.na,zfM,_,_,rfl,rfl,_,rfl,?_;refine dT h0 ?_;exists _,rfl,_,_,rfl,rfl,_,rfl,?_;rw[aC h3];refine yB ?_;have hF3:=hF.same s13;obtain⟨dxf,fs,lr,lb,ldo,ps0,g1,g2,g3,g4,g5,g6⟩:=id hF3;exists _,rfl,pa,c4.c3,dx,_,_,rfl,hd3,DK.cl3,DK.na,zfM,_,rfl,f,dxf,fs,rfl,g1,g2.no _ (by decide +kernel),f,rows,bars,rfl,hF3,?_,_,rfl,?_
   ·cases zH 2 0 rows <;> rfl
   refine yR (aD (zfi h0 hs)) ?_;exact⟨_,_,rfl,s3⟩
 ·rintro σ H2 ⟨v3,v4,rfl,s2⟩
  exact q H2 (s1.trans s2)
def Df.isOnce(d:Df):Bool:=d.k==1
def yj(ds:List Df):Nat:=(ds.filter Df.isOnce).length
theorem zar{ds:List Df}{i:Nat}{d:Df}(h:ds[i]?=some d):yj (ds.take (i+1))=yj (ds.take i)+(if d.isOnce=true then 1 else 0):=by
 have hi:i<ds.length:=(List.getElem?_eq_some_iff.mp h).1;have e:ds[i]=d:=(List.getElem?_eq_some_iff.mp h).2;unfold yj;rw[take_succ_eq_append_getElem hi,e,filter_append,aG];cases hd:d.isOnce <;> simp [List.filter,hd]
theorem zmt(d:Df)(n:Int):d.fs≠wl n:=fun e=>by
 have h:=zaQ n;rw[<- e] at h;cases d with
 | told m=>
  have h':(fTo (.int m)).lookup ("coming" : Str)=some (.int n):=h;unfold fTo at h';rw[zj,aJ (by decide +kernel)] at h'
  cases h'
 | once=>cases h
 | anew=>cases h
 | sum a t p=>
  have h':(fSu (.int a) (.int t) (.int p)).lookup ("coming" : Str)=some (.int n):=h;unfold fSu at h';rw[zj,aJ (by decide +kernel),zj,aJ (by decide +kernel),zj,aJ (by decide +kernel)] at h'
  cases h'
theorem DAt.now{c:C4}{H:Hp}{p wa CW dw:Addr}{d:Df}{n:Int}(h:DAt c H p d)(hw:H wa=some (.ins CW dw (wl n))):p≠wa:=fun z=>by
 obtain⟨dx,h⟩:=h;rw[z,hw] at h;injection h with h
 injection h with h1 h2 h3
 exact zmt d n h3.symm
theorem yN.sx(h:yN c CF H f rows bars)(e:H p=some (.ins C dx fs))(n1:fs.lookup ("word" : Str)=none)(n2:fs.lookup ("row" : Str)=none)(x:SX p H H'):yN c CF H' f rows bars:=by
 obtain⟨dxf,fsf,lr,lb,ld,ps,h1,h2,h3,h4,h5,h6⟩:=h;have nf:f≠p:=fun z=>by
  rw[z,e] at h1;injection h1 with h1
  injection h1 with a1 a2 a3
  have:=h2.row
  rw[<- a3,n2] at this;cases this
 exact⟨dxf,fsf,lr,lb,ld,ps,x _ _ h1 nf,h2,x _ _ h3 (zV h3 e (by intro z;cases z)),vX e n1 x h4,x _ _ h5 (zV h5 e (by intro z;cases z)),x _ _ h6 (zV h6 e (by intro z;cases z))⟩
theorem zhd:¬(("word" : Str)="coming"):=by decide +kernel
theorem zde:¬(("row" : Str)="coming"):=by decide +kernel
def xr:Int->List Df->List Df
 | _,[]=>[]
 | n,.once::ds=>.told n::xr (n+1) ds
 | n,d::ds=>d::xr n ds
theorem vH:∀(n:Int) (ds:List Df),(xr n ds).length=ds.length
 | _,[]=>rfl
 | n,.once::ds=>by show(xr (n+1) ds).length+1=ds.length+1;rw[vH]
 | n,.told _::ds=>by show(xr n ds).length+1=ds.length+1;rw[vH]
 | n,.anew::ds=>by show(xr n ds).length+1=ds.length+1;rw[vH]
 | n,.sum _ _ _::ds=>by show(xr n ds).length+1=ds.length+1;rw[vH]
theorem wR:∀(n:Int) (ds:List Df) (d:Df),xr n (ds++[d])=xr n ds++xr (n+(yj ds:Nat)) [d]
 | n,[],d=>by rw[show n+((yj []:Nat):Int)=n from Int.add_zero n];rfl
 | n,.once::ds,d=>by
  show Df.told n::xr (n+1) (ds++[d])=Df.told n::(xr (n+1) ds++xr (n+((yj (.once::ds):Nat):Int)) [d]);rw[wR,show n+1+((yj ds:Nat):Int)=n+((yj (Df.once::ds):Nat):Int) from by
   rw[show yj (Df.once::ds)=yj ds+1 from rfl];omega]
 | n,.told x::ds,d=>by show Df.told x::xr n (ds++[d])=_;rw[wR];rfl
 | n,.anew::ds,d=>by show Df.anew::xr n (ds++[d])=_;rw[wR];rfl
 | n,.sum x y z::ds,d=>by show Df.sum x y z::xr n (ds++[d])=_;rw[wR];rfl
theorem zaj{n:Int}{ds:List Df}{i:Nat}{d:Df}(h:ds[i]?=some d):xr n (ds.take (i+1))=xr n (ds.take i)++xr (n+(yj (ds.take i):Nat)) [d]:=by
 rw[take_add_one,h];exact wR _ _ _
def yX(ns:List Nat)(vs:List Addr):List (Key×V):=(ns.zip vs).map fun p=>(Sum.inl (p.1:Int),V.ref p.2)
theorem qA(h:vs.length<=ns.length):(yX ns vs).length=vs.length:=by
 unfold yX;rw[aA,length_zip];omega
theorem zas:∀{ns:List Nat}{us:List Addr}{j:Nat}{x:Addr},ns[us.length]?=some j->yX ns (us++[x])=yX ns us++[(Sum.inl (j:Int),V.ref x)]
 | [],us,_,_,h=>by simp at h
 | n::ns,[],j,x,h=>by
  have:n=j:=by simpa using h
  subst this;cases ns <;> rfl
 | n::ns,u::us,j,x,h=>by
  show(Sum.inl (n:Int),V.ref u)::yX ns (us++[x])=(Sum.inl (n:Int),V.ref u)::(yX ns us++[(Sum.inl (j:Int),V.ref x)]);rw[zas (by simpa using h)]
theorem jd:∀{ns:List Nat}{us:List Addr},∀p∈yX ns us,∃m,m∈ns.take us.length/\p.1=Sum.inl (m:Int)
 | [],us,p,h=>by simp [yX] at h
 | n::ns,[],p,h=>by simp [yX] at h
 | n::ns,u::us,p,h=>by
  have h:p∈(Sum.inl (n:Int),V.ref u)::yX ns us:=h;rcases List.mem_cons.mp h with h|h
  ·exact⟨n,by simp,by rw[h]⟩
  ·obtain⟨m,hm,e⟩:=jd p h
   exact⟨m,by simp [hm],e⟩
theorem qz{j:Nat}(nd:ns.Nodup)(h:ns[us.length]?=some j):yK (yX ns us) (Sum.inl (j:Int)) (V.ref x)=yX ns (us++[x]):=by
 unfold yK;rw[aJ,zas h];intro e;obtain⟨p,hp,he⟩:=List.any_eq_true.mp e;obtain⟨m,hm,e2⟩:=jd p hp;have e3:(m:Int)=(j:Int):=by
  have:=of_decide_eq_true he
  rw[e2] at this;exact Sum.inl.inj this
 have e4:m=j:=by omega
 subst e4;obtain⟨k,hk,ek⟩:=List.mem_take_iff_getElem.mp hm;have h2:=List.getElem?_eq_some_iff.mp h;obtain⟨hl,eh⟩:=h2
 have:=(List.getElem_inj (i:=k) (j:=us.length) (h₀:=by omega) (h₁:=hl) nd).mp (by rw[ek,eh])
 omega
theorem w5:∀{ns:List Nat}{us:List Addr}{i j:Nat}{u:Addr},ns.Nodup->ns[i]?=some j->us[i]?=some u->zO (yX ns us) (Sum.inl (j:Int))=some (V.ref u)
 | [],_,_,_,_,_,h,_=>by simp at h
 | _::_,[],_,_,_,_,_,h=>by simp at h
 | n::ns,v::us,0,j,u,_,h,h'=>by
  cases h;cases h';exact yC (p:=(Sum.inl (n:Int),V.ref v)) (r:=yX ns us) rfl
 | n::ns,v::us,i+1,j,u,nd,h,h'=>by
  obtain⟨n1,n2⟩:=List.nodup_cons.mp nd;have h:ns[i]?=some j:=h;have hj:=aH h;have e:zO (yX (n::ns) (v::us)) (Sum.inl (j:Int))=zO (yX ns us) (Sum.inl (j:Int)):=yv (p:=(Sum.inl (n:Int),V.ref v)) (r:=yX ns us) (fun e=>n1 (by
   have:(n:Int)=(j:Int):=Sum.inl.inj e
   rw[show n=j by omega];exact hj))
  rw[e];exact w5 n2 h h'
theorem xB(rows:List Rw):(zR rows).Nodup:=(List.nodup_range).sublist List.filter_sublist
theorem DAt.upd{c:C4}{H:Hp}{p a:Addr}{o:HO}{d:Df}(h:DAt c H p d)(n:p≠a):DAt c (upd H a o) p d:=let ⟨dx,e⟩:=h;⟨dx,by rw[zf n];exact e⟩
theorem uQ{c:C4}{H:Hp}{a:Addr}{o:HO}{ps:List Addr}{ds:List Df}(h:Paired (DAt c H) ps ds)(n:∀p d,DAt c H p d->p≠a):Paired (DAt c (L2.upd H a o)) ps ds:=zm (fun _ _ z=>z.upd (n _ _ z)) h
theorem DAt.dic{c:C4}{H:Hp}{p D:Addr}{d:Df}{kvs:List (Key×V)}(h:DAt c H p d)(hD:H D=some (.dK kvs)):p≠D:=fun z=>by
 obtain⟨dx,e⟩:=h;rw[z,hD] at e;cases e
theorem zmu(d:Df):d.fs.lookup ("kept_form" : Str)=none:=by
 cases d with
 | told m=>show(fTo (.int m)).lookup ("kept_form" : Str)=none;unfold fTo;rw[zj,aJ (by decide +kernel)];rfl
 | once=>rfl
 | anew=>rfl
 | sum a t p=>show(fSu (.int a) (.int t) (.int p)).lookup ("kept_form" : Str)=none;unfold fSu;rw[zj,aJ (by decide +kernel),zj,aJ (by decide +kernel),zj,aJ (by decide +kernel)];rfl
theorem DAt.fun_{c:C4}{H:Hp}{p q C dx:Addr}{d:Df}{fs:List (Str×V)}{v:V}(h:DAt c H p d)(hq:H q=some (.ins C dx fs))(e:fs.lookup ("kept_form" : Str)=some v):p≠q:=fun z=>by
 obtain⟨dx',h⟩:=h;rw[z,hq] at h;injection h with h
 injection h with h1 h2 h3
 rw[h3,zmu] at e;cases e
inductive zjy(c:C5)(c4:C4)(CF CW:Addr)(vs:List V)(H:Hp)(Q:VK)(E:XK):Prop|mk(f ld wa dw:Addr)(n:Int)(rows:List Rw)(bars:List Str)(ps:List Addr)(ds:List Df):vs=[.ref f,.ref ld,.ref wa]->yN c CF H f rows bars->VR rows->H ld=some (.lst (ps.map V.ref))->Paired (DAt c4 H) ps ds->ds.length=(zR rows).length->H wa=some (.ins CW dw (wl n))->(∀(D:Addr) (us:List Addr) (H':Hp),SX wa H H'->H D=none->H' D=some (.dK (yX (zR rows) us))->Paired (DAt c4 H') us (xr n ds)->H' wa=some (.ins CW dw (wl (n+(yj ds:Nat))))->Q (.ref D) H')->zjy c c4 CF CW vs H Q E
def uF(f wa D:Addr):List (Str×V):=zP "defaults" (.ref D) (zP "well" (.ref wa) (zP "kept_form" (.ref f) []))
theorem zfC:(uF f wa D).lookup ("kept_form" : Str)=some (.ref f):=by
 unfold uF;rw[zj,aJ (by decide +kernel),zj,aJ (by decide +kernel),zj,aK rfl]
theorem zlq{f wa D:Addr}{m:Str}(h1:¬m="kept_form")(h2:¬m="well")(h3:¬m="defaults"):(uF f wa D).lookup m=none:=by
 unfold uF;rw[zj,aJ h3,zj,aJ h2,zj,aJ h1];rfl
inductive zj5(c:C5)(c4:C4)(CF CW CU:Addr)(vs:List V)(H:Hp)(Q:VK)(E:XK):Prop|mk(p dx f ld wa dw:Addr)(n:Int)(rows:List Rw)(bars:List Str)(ps:List Addr)(ds:List Df):vs=[.ref p,.ref f,.ref ld,.ref wa]->H p=some (.ins CU dx [])->yN c CF H f rows bars->VR rows->H ld=some (.lst (ps.map V.ref))->Paired (DAt c4 H) ps ds->(∀a∈ps,a≠p)->Paired (vQ rows) (zR rows) ds->H wa=some (.ins CW dw (wl n))->(∀(D:Addr) (us:List Addr) (H':Hp),H D=none->(∀b u,H b=some u->b≠p->b≠wa->H' b=some u)->H' wa=some (.ins CW dw (wl (n+(yj ds:Nat))))->H' p=some (.ins CU dx (uF f wa D))->H' D=some (.dK (yX (zR rows) us))->Paired (DAt c4 H') us (xr n ds)->Q .non H')->zj5 c c4 CF CW CU vs H Q E
structure UC(K:Frag)(CU:Addr):Prop where
 cl:Cls K CU
 n1:yl K CU "kept_form"
 n2:yl K CU "well"
 n3:yl K CU "defaults"
theorem zd9:zp ["form","defaults","well","found","number","default"] ["form","defaults","well"] (zi qi):=fsc
theorem zkJ(F:Fun K "settled" "settled" qi f fd)(T:uz mg)(DK:D4 K mg c4 DF)(WC:jB K mg CW)(cN:⇑2 "free_numbers" g1 d1 ["form"] (zj7 c CF))
  (mD:y6 K CW "draw" gD) (GD:↥1 gD eD ["self"] (j8 CW)) (bD:zM K eD ["self"] []) (U:jr P w K mg base CX0 1 "Told" c4.c0 i0 d0 ["self","number"] [] (zhX c4.c0)):↥3 f fd ["form","defaults","well"] (zjy c c4 CF CW):=by
 specialize zd9;obtain⟨f,ld,wa,dw,n,rows,bars,ps,ds,rfl,hF,V1,hld,hp,el2,hwa,q⟩:=h;have hr1:yg 1 _:=hr.mono ⋯
 have hu:=vA hr;refine⟨_,zk (zB (i:=3) zd9.nd rfl (Or.inl rfl) vJ)
  (zk (yr PassesOwn.never rfl (zgx rfl T.zip (ac (cF cN hr (ac (pv 0) zb)) (ac (pv 1) zb))) (yi rfl (zo (zl (i:=4) zd9.nd rfl (Or.inl rfl)) (zo (zl (i:=5) zd9.nd rfl (Or.inl rfl)) zT)))
   (zd (vV hu (pv 3) (pv 4) (uG (yA (cB wk T.isi boot_isinstance (ac (pv 5) (ac (xD (v:=.ref c4.c1) rfl DK.m1 rfl) zb)))) (cMk U .nil zY hr (ac (yk (pv 2) WC.cl mD GD hr1 bD .nil zY) zb)) (pv 5)) rfl)))
  (zd (zt (pv 3)))),?_⟩
 intro D hD;exfalso
 injections D hD H1 s1 g1
 exists _,rfl,f,rows,bars,rfl,hF.same s1,V1,fun l H2 s2 nl el=>?_;have s12:=s1.trans s2;have lp:ps.length=ds.length:=hp.length;have lf:(zR rows).length<=24:=le_trans (length_filter_le _ _) (by rw[length_range];exact V1.l24)
 have hwa2:=s12 _ _ hwa;have g2:=s2 _ _ g1;have nDw:D≠wa:=fun z=>by rw[z,hwa] at hD;cases hD
 have nlw:l≠wa:=zV el hwa2 (by intro z;cases z)
 have nlD:l≠D:=zV el g2 (by intro z;cases z)
 have nldw:ld≠wa:=zV hld hwa (by intro z;cases z)
 refine⟨_,rfl,l,ld,rfl,⟨_,zc el⟩,⟨_,zc (s12 _ _ hld)⟩,zex (K:=K) (a:=l) (b:=ld) (xs:=(zR rows).map fun n=>V.int (n:Nat)) (ys:=ps.map V.ref) (fun i σ H'=>∃v4 v5 us,σ=[~~~f,~~~ld,~~~wa,~~~D,v4,v5]/\SX wa H H'/\H' l=some (.lst ((zR rows).map fun n=>V.int (n:Nat)))/\H' D=some (.dK (yX (zR rows) us))/\us.length=i/\Paired (DAt c4 H') us (xr n (ds.take i))/\H' wa=some (.ins CW dw (wl (n+(yj (ds.take i):Nat)))))
  (by rw[aA,aA];omega) ⟨_,_,[],rfl,fun b u e _=>s12 _ _ e,el,(by cases h:zR rows <;> exact g2),rfl,(by rw[take_zero];exact .nil),by rw[take_zero,show n+((yj []:Nat):Int)=n from Int.add_zero n];exact hwa2⟩ (fun i σ H' _ ⟨_,_,_,_,sH,e,_⟩=>⟨zc e,zc (sH _ _ hld nldw)⟩) ?_ ?_⟩
 ·rintro i x y p σ H3 hx hy ⟨v4,v5,us,rfl,s3,el3,gD3,lk,pu3,hw3⟩ hpn
  obtain⟨j,hj,rfl⟩:=uN hx;obtain⟨pa,hpa,rfl⟩:=xK hy;obtain⟨d,hd,hda⟩:=zU hp hpa;have npw:=hda.now hwa;obtain⟨dx,hdx⟩:=hda;have hi:i<ds.length:=(List.getElem?_eq_some_iff.mp hd).1;have lkD:(yX (zR rows) us).length<=24:=by rw[qA ∅];omega
  have sp:=zg hpn (.tup [.int (j:Nat),.ref pa]);exists p,_,rfl,zz za,rfl,_,_,rfl,_,_,rfl,rfl,?_;have s4:SX wa H _:=s3.same sp;have hd4:=s4 _ _ hdx npw;have hw4:=sp _ _ hw3;have el4:=sp _ _ el3;have gD4:=sp _ _ gD3;have pu4:=ue sp pu3;generalize upd H3 p (.tup [.int (j:Nat),.ref pa])=H4 at sp s4 hd4 hw4 el4 gD4 pu4 |-;exists _,rfl,_,_,_,_,rfl,DK.ty _ d.k4 _ _ _ _ hd4,DK.kt _ d.k4 1 ⋯,_,rfl,?_
  have et:=zar hd;have es:=zaj (n:=n) hd;have hjk:(zR rows)[us.length]?=some j:=by rw[lk];exact hj
  cases ho:d.isOnce with
  | true=>
   rw[ho,aK rfl] at et;have hk:d.k=1:=by unfold Df.isOnce at ho;exact beq_iff_eq.mp ho
   have hdo:d=.once:=by cases d <;> first|rfl|cases hk
   subst hdo;refine xE rfl ?_;exists _,rfl,wa,dw,_,rfl,hw4,wP _ nm1,wa,dw,_,rfl,hw4,fun x dx' hx hdx' ne=>⟨x,dx',_,rfl,za,⟨rfl,?_⟩⟩;have sM:=vU (o1:=.ins c4.c0 dx' []) (o2:=.ins c4.c0 dx' (fTo (.int (n+(yj (ds.take i):Nat))))) hx hdx';have hw5:=sM _ _ (za (H:=H4) (a:=wa) (o:=.ins CW dw (wl (n+(yj (ds.take i):Nat)+1))));have gD5:=sM _ _ (show upd H4 wa (.ins CW dw (wl (n+(yj (ds.take i):Nat)+1))) D=_ by rw[zf nDw];exact gD4)
   have el5:=sM _ _ (show upd H4 wa (.ins CW dw (wl (n+(yj (ds.take i):Nat)+1))) l=_ by rw[zf nlw];exact el4)
   have pu5:=ue sM (uQ (o:=.ins CW dw (wl (n+(yj (ds.take i):Nat)+1))) pu4 fun _ _ z=>z.now hw4);have s5:SX wa H _:=(s4.upd (o:=.ins CW dw (wl (n+(yj (ds.take i):Nat)+1)))).same sM;have gx5:upd (upd (upd (upd H4 wa (.ins CW dw (wl (n+(yj (ds.take i):Nat)+1)))) dx' (.own x)) x (.ins c4.c0 dx' [])) x (.ins c4.c0 dx' (fTo (.int (n+(yj (ds.take i):Nat))))) x=some (.ins c4.c0 dx' (fTo (.int (n+(yj (ds.take i):Nat))))):=za;generalize upd (upd (upd (upd H4 wa (.ins CW dw (wl (n+(yj (ds.take i):Nat)+1)))) dx' (.own x)) x (.ins c4.c0 dx' [])) x (.ins c4.c0 dx' (fTo (.int (n+(yj (ds.take i):Nat)))))=H5 at hw5 gD5 el5 s5 pu5 gx5 |-;exists _,rfl,_,rfl,D,_,rfl,zaf.k (k:=Sum.inl (j:Int)) gD5 (zE ∅),?_
   rw[qz (xB rows) hjk];exists _,_,us++[x],rfl,fun b u e nb=>?_,?_,za,?_,?_,?_
   ·rw[zf (ze e hD)]
    exact s5 _ _ e nb
   ·rw[zf nlD]
    exact el5
   ·rw[aG,lk];rfl
   ·rw[es]
    exact uQ (yJ pu5 (.cons (show DAt c4 H5 x (.told _) from ⟨dx',gx5⟩) .nil)) fun _ _ z=>z.dic gD5
   ·rw[zf nDw.symm,et,hw5]
    congr 3
    omega
  | false=>
   rw[ho,aJ ⋯,Nat.add_zero] at et
   have hk:¬d.k=1:=fun z=>by unfold Df.isOnce at ho;rw[z] at ho;cases ho
   refine yR (aD fun z=>hk z.symm) ?_;exists _,rfl,_,rfl,_,rfl,D,_,rfl,zaf.k (k:=Sum.inl (j:Int)) gD4 (zE ∅),?_
   rw[qz (xB rows) hjk];have e1:xr (n+(yj (ds.take i):Nat)) [d]=[d]:=by cases d <;> first|rfl|exact absurd rfl hk
   exists _,_,us++[pa],rfl,fun b u e nb=>?_,?_,za,?_,?_,?_
   ·rw[zf (ze e hD)]
    exact s4 _ _ e nb
   ·rw[zf nlD]
    exact el4
   ·rw[aG,lk];rfl
   ·rw[es,e1]
    exact uQ (yJ pu4 (.cons ⟨dx,hd4⟩ .nil)) fun _ _ z=>z.dic gD4
   ·rw[zf nDw.symm,et]
    exact hw4
 ·rintro σ H3 ⟨v4,v5,us,rfl,s3,el3,gD3,lk,pu3,hw3⟩
  rw[aA,<- el2,take_length] at hw3 pu3;exact⟨_,rfl,q D us H3 s3 hD gD3 pu3 hw3⟩
theorem zh4:zp ["self","form","defaults","well"] ["self","form","defaults","well"] (zi zcM):=fsc
theorem zgN(F:Fun K "__init__" "Function.__init__" zcM f fd)(UK:UC K CU)(cR:⇑3 "refuse_defaults" g1 d1 ["form","defaults"] (spRDef c c4 CF))(cS':⇑3 "settled" g2 d2 ["form","defaults","well"] (zjy c c4 CF CW)):↥4 f fd ["self","form","defaults","well"] (zj5 c c4 CF CW CU):=by
 specialize zh4;obtain⟨p,dx,f,ld,wa,dw,n,rows,bars,ps,ds,rfl,hp,hF,V1,hld,hps,hne,hg,hwa,q⟩:=h;refine⟨_,zk (zG (cF cR hr (ac (pv 1) (ac (pv 2) zb))))
  (zk (xl (pv 0) (pv 1) rfl)
  (zk (xl (pv 0) (pv 3) rfl)
  (zd (xl (pv 0) (cF cS' hr (ac (pv 1) (ac (pv 2) (ac (pv 3) zb)))) rfl)))),?_⟩
 exists _,rfl,_,rfl,f,ld,rows,bars,ps,ds,rfl,hF,V1,hld,hps,hg,fun H1 s1=>?_;have hp1:=s1 _ _ hp;exists _,rfl,_,rfl,p,CU,dx,_,rfl,hp1,UK.cl,UK.n1,(by show 0+1<=1000;decide),?_
 exists _,rfl,_,rfl,p,CU,dx,_,rfl,za,UK.cl,UK.n2,(by show 1+1<=1000;decide),?_
 rw[vf];have npw:wa≠p:=fun z=>by
  rw[z,hp] at hwa;injection hwa with hwa
  injection hwa with a1 a2 a3
  cases a3
 have x1:SX p H1 (upd H1 p (.ins CU dx (zP "well" (.ref wa) (zP "kept_form" (.ref f) [])))):=SX.refl.upd;have hF2:=(hF.same s1).sx hp1 rfl rfl x1;have hld2:=x1 _ _ (s1 _ _ hld) (zV (s1 _ _ hld) hp1 (by intro z;cases z))
 have hwa2:=x1 _ _ (s1 _ _ hwa) npw;have hps2:Paired (DAt c4 (upd H1 p (.ins CU dx (zP "well" (.ref wa) (zP "kept_form" (.ref f) []))))) ps ds:=by
  have:=ue s1 hps
  clear hps hld hld2 q hg;induction this with
  | nil=>exact .nil
  | cons h t ih=>
   refine .cons ?_ (ih (fun a ha=>hne a (mem_cons_of_mem _ ha)));obtain⟨dx',z⟩:=h;exact⟨dx',x1 _ _ z (hne _ mem_cons_self)⟩
 have p2:upd H1 p (.ins CU dx (zP "well" (.ref wa) (zP "kept_form" (.ref f) []))) p=some (.ins CU dx (zP "well" (.ref wa) (zP "kept_form" (.ref f) []))):=za;generalize upd H1 p (.ins CU dx (zP "well" (.ref wa) (zP "kept_form" (.ref f) [])))=H2 at x1 hF2 hld2 hwa2 hps2 p2 |-;exists _,rfl,_,rfl,_,rfl,f,_,wa,dw,n,rows,bars,ps,ds,rfl,hF2,V1,hld2,hps2,hg.length.symm,hwa2,fun D us H3 x3 nD hD3 pu3 hw3=>?_;have p3:=x3 _ _ p2 npw.symm;exists _,rfl,p,CU,dx,_,rfl,p3,UK.cl,UK.n3,(by show 2+1<=1000;decide),?_
 have ek:(zP "well" (.ref wa) (zP "kept_form" (.ref f) [])).lookup ("kept_form" : Str)=some (.ref f):=by
  rw[zj,aJ (by decide +kernel),zj,aK rfl]
 have nD0:H D=none:=by
  cases e:H D with
  | none=>rfl
  | some o=>
   by_cases z:D=p
   ·rw[z,p2] at nD;cases nD
   ·rw[x1 _ _ (s1 _ _ e) z] at nD;cases nD
 refine q D us _ nD0 (fun b u e n1 n2=>?_) ?_ za ?_ ?_
 ·rw[zf n1]
  exact x3 _ _ (x1 _ _ (s1 _ _ e) n1) n2
 ·rw[zf npw]
  exact hw3
 ·rw[zf (zV hD3 p3 (by intro z;cases z))]
  exact hD3
 ·exact uQ pu3 fun _ _ z=>z.fun_ p3 ek
end
end K44
namespace L2
open PySem PySem.Spec PyProof.Rows
theorem zlU(I:Inv X pins σ H s)(ha:SqT X.K H a xs)(hb:SqT X.K H b ys)(hz:∀(j:Nat) x y,xs[j]?=some x->ys[j]?=some y->yZ x=true/\yZ y=true)(hu:A.units+8<cLine):
  SeqAt.RcAt A s (.ref a) (.ref b) (eqT xs ys):=by
 obtain⟨ia,va,pa,_⟩:=I.tuple ha;obtain⟨ib,vb,pb,_⟩:=I.tuple hb;have la:ia.toArray.size=xs.length:=by rw[size_toArray];exact va.length.symm
 have lb:ib.toArray.size=ys.length:=by rw[size_toArray];exact vb.length.symm
 have:=SeqAt.RcAt.tuples (A:=A) (s:=s) (e:=fun j=>eqV (xs[j]?.getD .non) (ys[j]?.getD .non)) (show s.heap.IsTuple a ia.toArray from pa) (show s.heap.IsTuple b ib.toArray from pb) ∅ (fun j h1 h2=>by
  have j1:j<ia.length:=by simpa using h1
  have j2:j<ib.length:=by simpa using h2
  have hxl:j<xs.length:=by rw[va.length];exact j1
  have hyl:j<ys.length:=by rw[vb.length];exact j2
  obtain⟨u',e1,e2⟩:=va.get (i:=j) (aB hxl);obtain⟨v',e3,e4⟩:=vb.get (i:=j) (aB hyl);rw[aB j1] at e1;rw[aB j2] at e3;cases e1;cases e3;have z:=hz j _ _ (aB hxl) (aB hyl);have q:=zdz (A:=A.in1) (s:=s) e2 e4 z.1 z.2;simpa [hxl,hyl] using q)
 rw[la,lb] at this;exact this
inductive zlVJ(K:Frag)(x:V)(y:V)(H:Hp)(Q:VK):Prop|mk(a c:Addr)(xs ys:List V):x=.ref a->y=.ref c->SqT K H a xs->SqT K H c ys->(∀(j:Nat) x y,xs[j]?=some x->ys[j]?=some y->yZ x=true/\yZ y=true)->(Q (.bl (eqT xs ys)) H)->zlVJ K x y H Q
def zlV(K:Frag):R2:=fun x y H Q=>zlVJ K x y H Q
theorem ziz(hu:X.A.units+64<cLine):OpR X (compareOp .Eq) (zlV X.K):=by
 intro pins s σ H x y v u Q I rx ry h;obtain⟨a,c,xs,ys,rfl,rfl,ha,hc,hz,q⟩:=h;cases rx;cases ry;exact zlU (A:=X.A) I ha hc hz ∅ X.prog X.w X.xe _ ⟨.bl _,H,I,rfl,q⟩
end L2
namespace K44
open PySem L2 PyProof.Rows
inductive En where
 | place (i:Nat)|name (j:Nat)|free|places (ns:List Int)|names (ns:List Int)
def En.row:En->List Dt
 | .place i=>[.str "place",.int (i:Nat)]|.name j=>[.str "name",.int (j:Nat)]|.free=>[.str "free"]
 | .places ns=>[.str "places",.lst (ns.map Dt.int)]|.names ns=>[.str "names",.lst (ns.map Dt.int)]
def En.ok(nT nP:Nat):En->Prop
 | .place i=>i<nT|.name j=>j<nP|.free=>True
 | .places ns=>ns.length<=900/\∀n∈ns,∃k:Nat,n=(k:Int)/\k<nT
 | .names ns=>ns.length<=900/\∀n∈ns,∃k:Nat,n=(k:Int)/\k<nP
def enE(rows:List Rw)(many:Nat)(fp:List (Str×Nat))(i:Nat):En:=
 if zH 2 0 rows=some i then .places (xf (plN rows) (many - plN rows))
 else if zH 4 0 rows=some i then .names ((uo rows fp).map fun (j:Nat)=>(j:Int))
 else match rows[i]? with
  | some r=>if xi r.k=true/\i<many then .place i else match fp.find? (fun p=>decide (p.1=r.z)) with
   | some p=>if yI r.k=true then .name p.2 else .free
   | none=>.free
  | none=>.free
theorem zb9(fp:List (Str×Nat))(z:Str):zO (kvP fp) (.inr z)=(fp.find? fun p=>decide (p.1=z)).map fun p=>V.int (p.2:Nat):=by
 induction fp with
 | nil=>rfl
 | cons p fp ih=>
  by_cases e:p.1=z
  ·rw[find?_cons,aC e]
   exact yC (p:=((Sum.inr p.1:Key),V.int (p.2:Nat))) (r:=kvP fp) (by rw[e])
  ·rw[find?_cons,aD e]
   have h:zO (kvP (p::fp)) (.inr z)=zO (kvP fp) (.inr z):=yv (p:=((Sum.inr p.1:Key),V.int (p.2:Nat))) (r:=kvP fp) (fun q=>e (Sum.inr.inj q));rw[h,ih]
theorem zmr{many:Nat}{i:Nat}(h:i<rows.length):zce rows many fp i=.tup (enE rows many fp i).row:=by
 unfold zce enE;split
 ·rfl
 ·split
  ·rw[map_map];simp [En.row,map_map]
  ·rw[aB h]
   dsimp only;generalize rows[i]=r;unfold uf;rw[zb9];by_cases c:xi r.k=true/\i<many
   ·rw[aK c,aK c];rfl
   ·rw[aJ c,aJ c]
    cases e:fp.find? fun p=>decide (p.1=r.z) with
    | none=>rw[aJ (by rintro⟨_,h⟩;cases h)];rfl
    | some p=>
     by_cases d:yI r.k=true
     ·rw[aK ⟨d,rfl⟩];dsimp only;rw[aK d];rfl
     ·rw[aJ (fun z=>d z.1)];dsimp only;rw[aJ d];rfl
theorem zhA:∀(zs:List Str) (i:Nat) (acc:List (Str×Nat)),(∀p∈acc,p.2<i)->∀p∈fpF i acc zs,p.2<i+zs.length
 | [],_,_,h,p,hp=>by simpa using h p hp
 | z::zs,i,acc,h,p,hp=>by
  have hp:p∈fpF (i+1) (if (acc.any fun p=>decide (p.1=z))=true then acc else acc++[(z,i)]) zs:=hp
  have:=zhA zs (i+1) _ (fun q hq=>by
   split at hq
   ·exact lt_succ_of_lt (h q hq)
   ·rcases List.mem_append.mp hq with hq|hq
    ·exact lt_succ_of_lt (h q hq)
    ·rw[List.mem_singleton.mp hq];exact lt_succ_self i) p hp
  rw[length_cons];omega
theorem zjN{many i:Nat}(h1:many<=900)(h2:zs.length<=900):(enE rows many (fpZ zs) i).ok many zs.length:=by
 have hlt:∀p∈fpZ zs,p.2<zs.length:=fun p hp=>by
  have:=zhA zs 0 [] (fun _ h=>nomatch h) p hp
  omega
 unfold enE;split
 ·exists by unfold L2.xf;rw[aA,length_range];omega,fun n hn=>?_
  unfold L2.xf at hn;obtain⟨k,hk,rfl⟩:=List.mem_map.mp hn
  have:=List.mem_range.mp hk
  exact⟨plN rows+k,rfl,∅⟩
 ·split
  ·exists ?_,fun n hn=>?_
   ·have a:=zat rows (fpZ zs)
    have b:=jV zs 0 [];have b:(fpZ zs).length<=zs.length:=by show(fpF 0 [] zs).length<=_;simpa using b
    rw[aA];omega
   ·obtain⟨k,hk,rfl⟩:=List.mem_map.mp hn
    unfold uo at hk;obtain⟨p,hp,rfl⟩:=List.mem_map.mp hk;exact⟨p.2,rfl,hlt p (List.mem_filter.mp hp).1⟩
  ·split
   ·split
    next h=>exact h.2
    ·split
     next p e=>
      split
      ·exact hlt p (List.mem_of_find?_eq_some e)
      ·exact True.intro
     ·exact True.intro
   ·exact True.intro
theorem zax{many:Nat}{fk:List (Key×V)}:∀{rows:List Rw}{j:Nat},wz many fk j rows=[]->∀i r,rows[i]?=some r->xp r (j+i) many fk=false
 | [],_,_,i,r,h=>by simp at h
 | r0::rs,j,h,i,r,hr=>by
  have h:(if xp r0 j many fk=true then [(("lacking" : Str),j)] else [])++wz many fk (j+1) rs=[]:=h
  obtain⟨h1,h2⟩:=List.append_eq_nil_iff.mp h;cases i with
  | zero=>
   cases hr;rw[Nat.add_zero];cases e:xp r0 j many fk with
   | false=>rfl
   | true=>rw[e,aK rfl] at h1;cases h1
  | succ i=>
   have:=zax h2 i r (by simpa using hr)
   rw[show j+(i+1)=j+1+i by omega]
   exact this
theorem zeA{many i:Nat}(V1:VR rows)(hl:wz many (kvP fp) 0 rows=[])(h:i<rows.length)(e:enE rows many fp i=.free):i∈zR rows:=by
 have hr:rows[i]?=some rows[i]:=aB h;have lk:=zax hl i _ hr;have rk:=V1.ok _ (getElem_mem h);have one:∀kk,(kk=2\/kk=4)->zH kk 0 rows≠some i->rows[i].k≠kk:=fun kk hk n e=>by
  refine n ?_;rw[jl rows 0 i _ hr e (fun j r2 hj e1 e2=>by
   have:=qu rows 0 j i r2 _ V1.ord hj e1 hr
   rw[e2,e] at this;rcases hk with rfl|rfl <;> exact absurd this ⋯),Nat.zero_add]
 unfold enE at e;split at e
 ·cases e
 next n2=>
  split at e
  ·cases e
  next n4=>
   have k2:=one 2 (.inl rfl) n2;have k4:=one 4 (.inr rfl) n4;rw[hr] at e;dsimp only at e;have hof:xm rows[i].k=true:=by
    unfold xm
    have:=rk.1
    simp only[Bool.or_eq_true,beq_iff_eq];omega
   have hone:uf rows[i] (0+i) many (kvP fp)=[.str "free"]:=by
    rw[Nat.zero_add];unfold uf;rw[zb9];split at e
    ·cases e
    next c=>
     rw[aJ c];split at e
     next p ep=>
      split at e
      ·cases e
      next d=>rw[aJ (fun z=>d z.1)]
     next ep=>rw[ep,aJ (by rintro⟨_,h⟩;cases h)]
   unfold xp at lk;rw[hone] at lk;have hb:rows[i].b=true:=by
    have lk:(!fr rows[i].k rows[i].b&&L2.eqT [V.str "free"] [.str "free"])=false:=lk;rw[show L2.eqT [V.str "free"] [.str "free"]=true by decide +kernel,Bool.and_true,Bool.not_eq_false'] at lk
    have:=rk.1
    have:rows[i].k=0\/rows[i].k=1\/rows[i].k=3:=by omega
    rcases this with z|z|z <;> (rw[z] at lk;exact lk)
   unfold zR;refine List.mem_filter.mpr ⟨List.mem_range.mpr h,?_⟩;unfold jx;rw[hr];show(xm rows[i].k&&rows[i].b)=true;rw[hof,hb];rfl
theorem zaF{many i:Nat}(hr:rows[i]?=some r)(ho:xm r.k=true):(∃j,enE rows many fp i=.place j)\/(∃j,enE rows many fp i=.name j)\/enE rows many fp i=.free:=by
 have no:∀kk,(kk=2\/kk=4)->zH kk 0 rows≠some i:=fun kk hk e=>by
  obtain⟨r',_,h1,h2⟩:=ua rows 0 i e;rw[sub_zero,hr] at h1;cases h1;rw[h2] at ho;rcases hk with rfl|rfl <;> cases ho
 unfold enE;rw[aJ (no 2 (.inl rfl)),aJ (no 4 (.inr rfl)),hr];dsimp only;split
 ·exact .inl ⟨_,rfl⟩
 ·split
  ·split
   ·exact .inr (.inl ⟨_,rfl⟩)
   ·exact .inr (.inr rfl)
  ·exact .inr (.inr rfl)
def dfF:List Nat->List Df->Nat->Df
 | n::ns,d::ds,i=>if n=i then d else dfF ns ds i
 | _,_,_=>.once
theorem zdC:∀{ns:List Nat}{ds:List Df}{k i:Nat}{d:Df},ns.Nodup->ns[k]?=some i->ds[k]?=some d->dfF ns ds i=d
 | [],_,_,_,_,_,h,_=>by simp at h
 | _::_,[],_,_,_,_,_,h=>by simp at h
 | n::ns,d0::ds,0,i,d,_,h,h'=>by cases h;cases h';exact aK rfl
 | n::ns,d0::ds,k+1,i,d,nd,h,h'=>by
  obtain⟨n1,n2⟩:=List.nodup_cons.mp nd;have h:ns[k]?=some i:=h;show(if n=i then d0 else dfF ns ds i)=d
  rw[aJ (fun e=>n1 (by rw[e];exact aH h))]
  exact zdC n2 h h'
def zk4:Option Dt->Int
 | some (.int n)=>n
 | _=>0
def jv(given:List Dt)(n:Int):Df->Int×Int
 | .told m=>(m,n)
 | .sum a t p=>(t * zk4 given[a.toNat]?+p,n)
 | _=>(n,n+1)
def zaq(ts:List Int)(ps:List (Str×Int)):En->Dt
 | .place i=>.int (ts.getD i 0)
 | .name j=>.int (ps.getD j ("",0)).2
 | .places ns=>.lst ((ns.map fun n=>ts.getD n.toNat 0).map Dt.int)
 | .names ns=>.lst ((ns.map fun n=>ps.getD n.toNat ("",0)).map yP)
 | .free=>.non
def uC(ts:List Int)(ps:List (Str×Int))(d:Df)(g:List Dt×Int):En->List Dt×Int
 | .free=>(g.1++[.int (jv g.1 g.2 d).1],(jv g.1 g.2 d).2)
 | e=>(g.1++[zaq ts ps e],g.2)
def uV(ts:List Int)(ps:List (Str×Int))(df:Nat->Df)(es:Nat->En)(n:Int):Nat->List Dt×Int
 | 0=>([],n)
 | k+1=>uC ts ps (df k) (uV ts ps df es n k) (es k)
theorem zeO:∀e,(uC ts ps d g e).1.length=g.1.length+1:=fun e=>by cases e <;> exact aG ..
theorem wp{ts:List Int}{ps:List (Str×Int)}{df:Nat->Df}{es:Nat->En}{n:Int}:∀k,(uV ts ps df es n k).1.length=k
 | 0=>rfl
 | k+1=>by show(uC ..).1.length=_;rw[zeO,wp k]
theorem zfA{df:Nat->Df}{es:Nat->En}{n:Int}{k i:Nat}(h:i<k):(uV ts ps df es n (k+1)).1[i]?=(uV ts ps df es n k).1[i]?:=by
 have e:∃x,(uV ts ps df es n (k+1)).1=(uV ts ps df es n k).1++[x]:=by
  show ∃x,(uC ts ps (df k) (uV ts ps df es n k) (es k)).1=_;cases es k <;> exact⟨_,rfl⟩
 obtain⟨x,e⟩:=e;rw[e,getElem?_append_left (by rw[wp];exact h)]
theorem jX{ts:List Int}{ps:List (Str×Int)}{df:Nat->Df}{es:Nat->En}{n:Int}:∀{k i:Nat},i<k->((∃j,es i=.place j)\/(∃j,es i=.name j)\/es i=.free)->∃x,(uV ts ps df es n k).1[i]?=some (.int x)
 | 0,i,h,_=>absurd h (not_lt_zero _)
 | k+1,i,h,hi=>by
  by_cases c:i<k
  ·rw[zfA c];exact jX c hi
  ·have:i=k:=by omega
   subst this;show ∃x,(uC ts ps (df i) (uV ts ps df es n i) (es i)).1[i]?=some (.int x);have last:∀y:Dt,((uV ts ps df es n i).1++[y])[i]?=some y:=fun y=>by
    rw[getElem?_append_right (by rw[wp];exact aF _),wp,sub_self];rfl
   rcases hi with ⟨j,e⟩|⟨j,e⟩|e <;> rw[e]
   ·exact⟨_,last _⟩
   ·exact⟨_,last _⟩
   ·exact⟨_,last _⟩
def zhL(K:Frag)(H:Hp)(x:V)(e:En):Prop:=zI K T' H 2 x (.tup e.row)
theorem qK{ts:List Int}{k:Nat}(h:k<ts.length):atI (ts.map V.int) (k:Int)=some (.int (ts.getD k 0)):=yF (by rw[getElem?_map,aB h,getD_eq_getElem?_getD,aB h];rfl)
theorem zao{K:Frag}{ok:Addr->Prop}{H:Hp}{xs:List V}{ps:List (Str×Int)}{k:Nat}(hp:Paired (zI K ok H 1) xs (ps.map yP))(h:k<ps.length):∃b,atI xs (k:Int)=some (.ref b)/\SqT K H b [.str (ps.getD k ("",0)).1,.int (ps.getD k ("",0)).2]:=by
 have hl:xs.length=ps.length:=by rw[hp.length,aA]
 have hx:xs[k]?=some xs[k]:=aB ∅
 obtain⟨d,hd,hs⟩:=Paired.get hp hx;obtain⟨p,hpk,rfl⟩:=uH hd;obtain⟨b,eb,hb⟩:=vY hs;rw[eb] at hx;exists b,yF hx,?_;rw[getD_eq_getElem?_getD,hpk];exact hb
theorem zkX{K:Frag}{la lt D:Addr}{k:Nat}{σ : L2.St}{H:Hp}{Q:VK}{ns ts:List Int}(hk:xh [none,some k] σ=[none,~~~lt])(hD:H D=none)(hla:H la=some (.lst (ns.map V.int)))(hlt:H lt=some (.lst (ts.map V.int)))(l9:ns.length<=900)(hn:∀n∈ns,∃k:Nat,n=(k:Int)/\k<ts.length)
  (q:∀H',zq H H'->zI K (fun a=>H a=none) H' 2 (.ref D) (.lst ((ns.map fun n=>ts.getD n.toNat 0).map Dt.int))->Q (.ref D) H'):LCr (Itl K la) [none,some k] (zD 0) zfG (tOp (zeU K) (zcx 1) (zcx 0)) σ H Q D:=by
 refine qF (K:=K) (m:=1) (fun i=>Dt.int (ts.getD (ns.getD i 0).toNat 0)) hD (zc hla) (by rw[aA];omega) (fun i x H' Qf Qs hx sH qf=>?_) (fun ws HF sF' eF pF=>?_)
 ·obtain⟨n,hn',rfl⟩:=jT hx
  obtain⟨k,rfl,hk'⟩:=hn n (aH hn');rw[hk];exists fun _=>?_,fun e=>Bool.noConfusion e;exists _,rfl,_,rfl,lt,_,_,_,rfl,rfl,zc (sH _ _ hlt),qK hk',qf _ _ (zq.refl _) ?_;rw[getD_eq_getElem?_getD (l:=ns),hn'];exact .int
 ·have:(List.range (ns.map V.int).length).map (fun i=>Dt.int (ts.getD (ns.getD i 0).toNat 0))=(ns.map fun n=>ts.getD n.toNat 0).map Dt.int:=by
   rw[aA,map_map];refine ext_getElem (by simp) fun i h1 h2=>?_
   simp at h1 h2;simp [h1]
  rw[this] at pF;exact q _ sF' (zI.lst hD eF (zm (fun _ _ z=>y7 (fun _ h _=>h.2) z) pF))
theorem zkY{K:Frag}{la lp D:Addr}{k:Nat}{σ : L2.St}{H:Hp}{Q:VK}{ns:List Int}{xs:List V}{ps:List (Str×Int)}(hk:xh [none,some k] σ=[none,~~~lp])(hD:H D=none)(hla:H la=some (.lst (ns.map V.int)))(hlp:H lp=some (.lst xs))(hp:Paired (zI K T' H 1) xs (ps.map yP))(l9:ns.length<=900)(hn:∀n∈ns,∃k:Nat,n=(k:Int)/\k<ps.length)
  (q:∀H',zq H H'->zI K (fun a=>H a=none) H' 2 (.ref D) (.lst ((ns.map fun n=>ps.getD n.toNat ("",0)).map yP))->Q (.ref D) H'):LCr (Itl K la) [none,some k] (zD 0) zfG (tOp (zeU K) (zcx 1) (zcx 0)) σ H Q D:=by
 refine qF (K:=K) (m:=1) (fun i=>yP (ps.getD (ns.getD i 0).toNat ("",0))) hD (zc hla) (by rw[aA];omega) (fun i x H' Qf Qs hx sH qf=>?_) (fun ws HF sF' eF pF=>?_)
 ·obtain⟨n,hn',rfl⟩:=jT hx
  obtain⟨k,rfl,hk'⟩:=hn n (aH hn');obtain⟨b,hb,tb⟩:=zao hp hk';rw[hk];exists fun _=>?_,fun e=>Bool.noConfusion e;exists _,rfl,_,rfl,lp,_,_,_,rfl,rfl,zc (sH _ _ hlp),hb,qf _ _ (zq.refl _) ?_;rw[getD_eq_getElem?_getD (l:=ns),hn'];exact zI.tup (sH.sqT tb) (.cons .str (.cons .int .nil))
 ·have:(List.range (ns.map V.int).length).map (fun i=>yP (ps.getD (ns.getD i 0).toNat ("",0)))=(ns.map fun n=>ps.getD n.toNat ("",0)).map yP:=by
   rw[aA,map_map];refine ext_getElem (by simp) fun i h1 h2=>?_
   simp at h1 h2;simp [h1]
  rw[this] at pF;exact q _ sF' (zI.lst hD eF (zm (fun _ _ z=>y7 (fun _ h _=>h.2) z) pF))
inductive zlF(K:Frag)(vs:List V)(H:Hp)(Q:VK)(E:XK):Prop|mk(x:V)(lt lp:Addr)(xs:List V)(ts:List Int)(ps:List (Str×Int))(e:En):vs=[x,.ref lt,.ref lp]->zhL K H x e->e.ok ts.length ps.length->e≠.free->H lt=some (.lst (ts.map V.int))->H lp=some (.lst xs)->Paired (zI K T' H 1) xs (ps.map yP)->(∀(v:V) (H':Hp),zq H H'->zI K (fun a=>H a=none) H' 2 v (zaq ts ps e)->Q v H')->zlF K vs H Q E
theorem zl5:¬(V.str "name"=V.str "place"):=by decide +kernel
theorem zkS:¬(V.str "places"=V.str "place"):=by decide +kernel
theorem zkT:¬(V.str "places"=V.str "name"):=by decide +kernel
theorem zkU:¬(V.str "names"=V.str "place"):=by decide +kernel
theorem zkV:¬(V.str "names"=V.str "name"):=by decide +kernel
theorem zi0:¬(V.str "names"=V.str "places"):=by decide +kernel
section
variable {K:Frag}{mg:Str->Option Value}{f CF CW CU DF:Addr}{c:C5}{m:MA}{c4:C4}
theorem znh:([Str.ofString "number",Str.ofString "things"]:List Str).Nodup:=by decide +kernel
theorem zni:([Str.ofString "number",Str.ofString "pairs"]:List Str).Nodup:=by decide +kernel
theorem zkf:zp ["entry","things","pairs","word","at"] ["entry","things","pairs"] (zi ja):=fsc
theorem zl3(F:Fun K "handed_on" "handed_on" ja f fd):↥1 f fd ["entry","things","pairs"] (zlF K):=by
 specialize zkf;obtain⟨x,lt,lp,xs,ts,ps,e,rfl,hx,hok,nf,hlt,hlp,hp,q⟩:=h;obtain⟨u,vs,rfl,hS,hv⟩:=xA hx;refine zr (y8 (pv 0) (yi rfl (zo (zl (i:=3) zkf.nd rfl (Or.inl rfl)) (zo (zl (i:=4) zkf.nd rfl (Or.inl rfl)) zT)))) ?_;have rd:∃z a,vs=[.str z,a]:=by
  cases e with
  | free=>exact absurd rfl nf
  | place i=>cases hv with|cons h1 t=>cases t with|cons h2 t=>cases t;exact⟨_,_,by rw[yp h1]⟩
  | name i=>cases hv with|cons h1 t=>cases t with|cons h2 t=>cases t;exact⟨_,_,by rw[yp h1]⟩
  | places i=>cases hv with|cons h1 t=>cases t with|cons h2 t=>cases t;exact⟨_,_,by rw[yp h1]⟩
  | names i=>cases hv with|cons h1 t=>cases t with|cons h2 t=>cases t;exact⟨_,_,by rw[yp h1]⟩
 obtain⟨z,a,rfl⟩:=rd;exists _,rfl,u,_,rfl,hS,rfl,_,_,rfl,_,_,rfl,rfl,?_;exfalso;refine⟨_,zk (zJ (zn ye (pv 3) zw (zv _)) (zd (zt (zu zy (pv 1) (pv 4) (fun _ _=>rfl)))) zx)
  (zk (zJ (zn ye (pv 3) zw (zv _)) (zd (zt (zu zL (zu zy (pv 2) (pv 4) (fun _ _=>rfl)) zh (fun _ _=>rfl)))) zx)
  (zk (zJ (zn ye (pv 3) zw (zv _)) (zd (zt (xF ["things"] ["number","things"] [none,some 1] rfl ⟨rfl,rfl,rfl,rfl⟩ (yb (pv 4)) (yc 0) rfl rfl rfl
   (fun pins fp s H C=>⟨zl (i:=0) znh rfl (Or.inl rfl) (.inr rfl),yS,zu (r:=zeU K) zy (pv 1) (pv 0) (fun _ _=>rfl)⟩)))) zx)
  (zd (zt (xF ["pairs"] ["number","pairs"] [none,some 2] rfl ⟨rfl,rfl,rfl,rfl⟩ (yb (pv 4)) (yc 0) rfl rfl rfl
   (fun pins fp s H C=>⟨zl (i:=0) zni rfl (Or.inl rfl) (.inr rfl),yS,zu (r:=zeU K) zy (pv 1) (pv 0) (fun _ _=>rfl)⟩)))))),?_⟩
 cases e with
 | free=>exact absurd rfl nf
 | place i=>
  cases hv with|cons h1 t=>cases t with|cons h2 t=>
  obtain rfl:=xJ h2;cases yp h1;exists _,rfl,rfl,_,rfl,?_;refine dT rfl ?_;exact⟨_,rfl,_,rfl,lt,_,_,_,rfl,rfl,zc hlt,qK hok,q _ _ (zq.refl _) .int⟩
 | name j=>
  cases hv with|cons h1 t=>cases t with|cons h2 t=>
  obtain rfl:=xJ h2;cases yp h1;obtain⟨b,hb,tb⟩:=zao hp hok;exists _,rfl,rfl,_,rfl,?_;refine dF zl5 ?_;exists _,rfl,rfl,_,rfl,?_;refine dT rfl ?_;exact⟨_,rfl,_,rfl,lp,_,_,_,rfl,rfl,zc hlp,hb,b,_,1,_,rfl,rfl,tb,rfl,q _ _ (zq.refl _) .int⟩
 | places ns=>
  cases hv with|cons h1 t=>cases t with|cons h2 t=>
  obtain⟨la,ys,rfl,_,hla,hy⟩:=wU h2;obtain rfl:=wV hy;cases yp h1;obtain⟨l9,hn⟩:=hok;exists _,rfl,rfl,_,rfl,?_;refine dF zkS ?_;exists _,rfl,rfl,_,rfl,?_;refine dF zkT ?_;exists _,rfl,rfl,_,rfl,?_;refine dT rfl ?_;exact⟨_,rfl,la,rfl,⟨_,zc hla⟩,fun D hD=>zkX rfl hD hla hlt l9 hn fun H' s' h=>q _ _ s' h⟩
 | names ns=>
  cases hv with|cons h1 t=>cases t with|cons h2 t=>
  obtain⟨la,ys,rfl,_,hla,hy⟩:=wU h2;obtain rfl:=wV hy;cases yp h1;obtain⟨l9,hn⟩:=hok;exists _,rfl,rfl,_,rfl,?_;refine dF zkU ?_;exists _,rfl,rfl,_,rfl,?_;refine dF zkV ?_;exists _,rfl,rfl,_,rfl,?_;refine dF zi0 ?_;exact⟨_,rfl,la,rfl,⟨_,zc hla⟩,fun D hD=>zkY rfl hD hla hlp hp l9 hn fun H' s' h=>q _ _ s' h⟩
theorem zj3(h:SqT K H u vs)(s:SX p H H')(hp:H p=some (.ins C dx fs)):SqT K H' u vs:=by
 rcases h with (h|⟨o,h⟩)|h
 ·exact .inl (.inl (s _ _ h (fun e=>by rw[e,hp] at h;cases h)))
 ·exact .inl (.inr ⟨o,s _ _ h (fun e=>by rw[e,hp] at h;cases h)⟩)
 ·exact .inr h
theorem vi{ok:Addr->Prop}{n:Nat}(h:zI K ok H n x d)(s:SX p H H')(hp:H p=some (.ins C dx fs)):zI K ok H' n x d:=
 h.frame (fun _ _ z=>zj3 z s hp) fun _ _ o z=>⟨o,s _ _ z (fun e=>by rw[e,hp] at z;cases z)⟩
theorem jL(s:SX p H H')(hp:H' p=some u)(h:H' a=none):H a=none:=by
 cases e:H a with
 | none=>rfl
 | some o=>rw[s a o e (fun z=>by rw[z,hp] at h;cases h)] at h;cases h
theorem zjU:(uF f wa D).lookup ("defaults" : Str)=some (.ref D):=by
 unfold uF;rw[zj,aK rfl]
theorem zjT:(uF f wa D).lookup ("well" : Str)=some (.ref wa):=by
 unfold uF;rw[zj,aJ (by decide +kernel),zj,aK rfl]
structure jq(c:C5)(c4:C4)(CF CW CU:Addr)(H:Hp)(p f wa D dw:Addr)(rows:List Rw)(bars:List Str)(us:List Addr)(ds:List Df)(n:Int):Prop where
 at_:∃dx,H p=some (.ins CU dx (uF f wa D))
 fo:wO c CF H f rows bars
 v:VR rows
 di:H D=some (.dK (yX (zR rows) us))
 pd:Paired (DAt c4 H) us ds
 gd:Paired (vQ rows) (zR rows) ds
 no:∀d∈ds,d.k≠1
 we:H wa=some (.ins CW dw (wl n))
theorem zjm{c:C4}{H H':Hp}{wa CW dw:Addr}{n:Int}{ps:List Addr}{ds:List Df}(h:Paired (DAt c H) ps ds)(s:SX wa H H')(hw:H wa=some (.ins CW dw (wl n))):Paired (DAt c H') ps ds:=
 zm (fun _ _ z=>let n:=z.now hw;let ⟨dx,e⟩:=z;⟨dx,s _ _ e n⟩) h
theorem qN{H:Hp}{p wa CU CW dx dw f D:Addr}{n:Int}(h:H p=some (.ins CU dx (uF f wa D)))(hw:H wa=some (.ins CW dw (wl n))):p≠wa:=fun e=>by
 rw[e,hw] at h;injection h with h
 injection h with h1 h2 h3
 have:=zfC (f:=f) (wa:=wa) (D:=D)
 rw[<- h3,wP n (by decide +kernel)] at this
 cases this
theorem jq.sx{n n':Int}(h:jq c c4 CF CW CU H p f wa D dw rows bars us ds n)(s:SX wa H H')(hw:H' wa=some (.ins CW dw (wl n'))):jq c c4 CF CW CU H' p f wa D dw rows bars us ds n':=by
 obtain⟨⟨dx,h1⟩,h2,h3,h4,h5,h6,h7,h8⟩:=h;exact⟨⟨dx,s _ _ h1 (qN h1 h8)⟩,⟨h2.at_.sx h8 (wP n zhd) (wP n zde) s,h2.lr,h2.lb,h2.ok⟩,h3,s _ _ h4 (zV h4 h8 (by intro z;cases z)),zjm h5 s h8,h6,h7,hw⟩
inductive zcA(K:Frag)(c:C5)(c4:C4)(CF CW CU:Addr)(vs:List V)(H:Hp)(Q:VK)(E:XK):Prop|mk(p f wa D dw g:Addr)(rows:List Rw)(bars:List Str)(us:List Addr)(ds:List Df)(n:Int)(i:Nat)(xs:List V)(given:List Dt)(ok:Addr->Prop):vs=[.ref p,.int (i:Nat),.ref g]->jq c c4 CF CW CU H p f wa D dw rows bars us ds n->i∈zR rows->H g=some (.lst xs)->Paired (zI K ok H 2) xs given->(∀k,k<i->uZ rows (k:Int)=true->∃x,given[k]?=some (.int x))->(∀H',SX wa H H'->H' wa=some (.ins CW dw (wl (jv given n (dfF (zR rows) ds i)).2))->Q (.int (jv given n (dfF (zR rows) ds i)).1) H')->zcA K c c4 CF CW CU vs H Q E
theorem zf3:zp ["self","number","given","default"] ["self","number","given"] (zi zcL):=fsc
theorem ziN(F:Fun K "left_out" "Function.left_out" zcL f fd)(T:uz mg)(DK:D4 K mg c4 DF)(UK:UC K CU)(WC:jB K mg CW)(mD:y6 K CW "draw" gD)(GD:↥1 gD eD ["self"] (j8 CW))(bD:zM K eD ["self"] []):↥2 f fd ["self","number","given"] (zcA K c c4 CF CW CU):=by
 specialize zf3;obtain⟨p,f,wa,D,dw,g,rows,bars,us,ds,n,i,xs,given,ok,rfl,⟨⟨dx,hp⟩,hF,V1,hD,pd,gd,no,hw⟩,hi,hg,hgs,hint,q⟩:=h;have hr1:yg 1 _:=hr.mono ⋯
 have hu:=vA hr;obtain⟨k,hk⟩:=getElem?_of_mem hi;obtain⟨d,hd,gdd⟩:=zU gd hk;obtain⟨u,hu',hud⟩:∃u,us[k]?=some u/\DAt c4 H u d:=by
  have hl:us.length=ds.length:=pd.length;have hkl:k<ds.length:=(List.getElem?_eq_some_iff.mp hd).1;have e:us[k]?=some us[k]:=aB ∅
  obtain⟨d',e1,e2⟩:=zU pd e;rw[hd] at e1;cases e1;exact⟨_,e,e2⟩
 have edf:=zdC (xB rows) hk hd;have nd1:=no d (aH hd);rw[edf] at q;refine zf3[3]'(yT hu (yo (pv 0) rfl) (pv 1) (fun _ _=>rfl));have hget:xP H D (.int (i:Nat)) (~~~u):=by
  have:=xP.k (k:=Sum.inl (i:Int)) hD
  rw[w5 (xB rows) hk hu'] at this;exact this
 exists _,rfl,p,CU,dx,_,_,rfl,hp,UK.cl,UK.n3,zjU,_,rfl,D,_,rfl,hget,?_;exfalso;obtain⟨dx',hd'⟩:=hud;have ty:=DK.ty _ d.k4 _ _ _ _ hd';refine⟨_,zk (zJ (yA (cB wk T.isi boot_isinstance (ac (pv 3) (ac (xD (v:=.ref c4.c0) rfl DK.m0 rfl) zb)))) (zd (zt (yo (pv 3) rfl))) zx)
  (zk (zJ (yA (cB wk T.isi boot_isinstance (ac (pv 3) (ac (xD (v:=.ref c4.c3) rfl DK.m3 rfl) zb)))) (zd (zt (zN xt (zN xV (yo (pv 3) rfl) (zu zy (pv 2) (yo (pv 3) rfl) (fun _ _=>rfl))) (yo (pv 3) rfl)))) zx)
  (zd (zt (yk (yo (pv 0) rfl) WC.cl mD GD hr1 bD .nil zY)))),?_⟩
 exists _,rfl,_,_,_,_,rfl,ty,DK.kt _ d.k4 0 ⋯,_,rfl,?_
 cases d with
 | told m=>
  refine xE rfl ?_;exact⟨_,rfl,u,c4.c0,dx',_,_,rfl,hd',DK.cl0,DK.nn,zjY,q _ SX.refl hw⟩
 | once=>exact absurd rfl nd1
 | anew=>
  refine yR rfl ?_;exists _,rfl,_,_,_,_,rfl,ty,DK.kt _ (Df.k4 .anew) 3 ⋯,_,rfl,?_
  refine yR rfl ?_;exact⟨_,rfl,p,CU,dx,_,_,rfl,hp,UK.cl,UK.n2,zjT,wa,dw,_,rfl,hw,wP _ nm1,wa,dw,_,rfl,hw,q _ SX.refl.upd za⟩
 | sum a t pl=>
  obtain⟨h0,h3,hs,t0,t1⟩:=gdd;refine yR rfl ?_;exists _,rfl,_,_,_,_,rfl,ty,DK.kt _ (Df.k4 (.sum a t pl)) 3 ⋯,_,rfl,?_
  refine xE rfl ?_;obtain⟨b,rfl⟩:=eq_ofNat_of_zero_le h0;obtain⟨x,hx⟩:=hint b ∅ hs
  have hxl:b<given.length:=(List.getElem?_eq_some_iff.mp hx).1;have hgl:=hgs.length;have hbl:b<xs.length:=by omega
  have e:xs[b]?=some xs[b]:=aB hbl;obtain⟨d2,e1,e2⟩:=Paired.get hgs e;rw[hx] at e1;cases e1;have e3:=xJ e2;rw[e3] at e;have el:jv given n (.sum (b:Int) t pl)=(t * x+pl,n):=by
   show(t * zk4 given[(b:Int).toNat]?+pl,n)=_;rw[toNat_natCast,hx];rfl
  rw[el] at q;exact⟨_,rfl,u,c4.c3,dx',_,_,rfl,hd',DK.cl3,DK.nt,zfL,_,rfl,_,rfl,u,c4.c3,dx',_,_,rfl,hd',DK.cl3,DK.na,zfM,g,_,_,_,rfl,rfl,zc hg,yF e,t,x,rfl,rfl,.inl ⟨∅,∅⟩,_,rfl,u,c4.c3,dx',_,_,rfl,hd',DK.cl3,DK.np,zhW,_,_,rfl,rfl,q _ SX.refl hw⟩
theorem j5(h:e≠.free):uC ts ps d g e=(g.1++[zaq ts ps e],g.2):=by cases e <;> first|rfl|exact absurd rfl h
theorem zk9(h:zhL K H x e)(n:e≠.free):∃u z a,x=.ref u/\SqT K H u [.str z,a]:=by
 obtain⟨u,vs,rfl,hS,hv⟩:=xA h;cases e with
 | free=>exact absurd rfl n
 | place i=>cases hv with|cons h1 t=>cases t with|cons h2 t=>cases t;exact⟨u,_,_,rfl,by rw[<- yp h1];exact hS⟩
 | name i=>cases hv with|cons h1 t=>cases t with|cons h2 t=>cases t;exact⟨u,_,_,rfl,by rw[<- yp h1];exact hS⟩
 | places i=>cases hv with|cons h1 t=>cases t with|cons h2 t=>cases t;exact⟨u,_,_,rfl,by rw[<- yp h1];exact hS⟩
 | names i=>cases hv with|cons h1 t=>cases t with|cons h2 t=>cases t;exact⟨u,_,_,rfl,by rw[<- yp h1];exact hS⟩
theorem zla(h:zhL K H x .free):∃u,x=.ref u/\SqT K H u [.str "free"]:=by
 obtain⟨u,vs,rfl,hS,hv⟩:=xA h;cases hv with|cons h1 t=>cases t;exact⟨u,rfl,by rw[<- yp h1];exact hS⟩
theorem qP{z:Str}{r:List V}:∀(j:Nat) x y,(V.str z::r)[j]?=some x->[V.str "free"][j]?=some y->yZ x=true/\yZ y=true
 | 0,x,y,h,h'=>by cases h;cases h';exact⟨rfl,rfl⟩
 | j+1,x,y,h,h'=>by simp at h'
def wc(rows:List Rw)(ds:List Df)(ct:List vd)(n:Int)(k:Nat):List Dt×Int:=uV (yu ct) (xj ct) (dfF (zR rows) ds) (enE rows (yu ct).length (fpZ (zS ct))) n k
inductive zfU(K:Frag)(c:C5)(c4:C4)(CF CW CU:Addr)(cl:Nat->Addr)(vs:List V)(H:Hp)(Q:VK)(E:XK):Prop|mk(p f wa D dw a:Addr)(rows:List Rw)(bars:List Str)(us:List Addr)(ds:List Df)(n:Int)(ct:List vd):vs=[.ref p,.ref a]->jq c c4 CF CW CU H p f wa D dw rows bars us ds n->zbC K H a ct->(uJ rows bars ct=[]->∀(g:Addr) (vs:List V) (H':Hp),SX wa H H'->H g=none->H' g=some (.lst vs)->Paired (zI K (fun b=>b≠g/\H b=none) H' 2) vs (wc rows ds ct n rows.length).1->H' wa=some (.ins CW dw (wl (wc rows ds ct n rows.length).2))->Q (.ref g) H')->((∀m ms,uJ rows bars ct=m::ms->∀(d:Addr) (H':Hp),zq H H'->H' d=some (.xd [("number",.int (m.2:Nat))])->E (.ref (cl (uw m.1))) (some d) H'))->zfU K c c4 CF CW CU cl vs H Q E
theorem qe:zp ["self","call","entries","things","pairs","given","number","entry"] ["self","call"] (zi qg):=fsc
theorem zkR{cl:Nat->Addr}(F:Fun K "answer" "Function.answer" qg f fd)(hen:mg "enumerate"=none)(UK:UC K CU)(cP:uT P w K mg base 5 "paper" g1 d1 ["form","call"] (zaT K c CF cl))(cL:⇑1 "laid" g2 d2 ["call"] (zcB K))(cH:⇑1 "handed_on" g3 d3 ["entry","things","pairs"] (zlF K))
  (mL:y6 K CU "left_out" gL) (GL:↥2 gL eL ["self","number","given"] (zcA K c c4 CF CW CU)) (bL:zM K eL ["self","number","given"] []):zA P w K mg base (CXs P w) 6 f fd ["self","call"] (zfU K c c4 CF CW CU cl):=by
 refine F.okS qe (fun vs H Q E h=>?_) (fun cdv A outer s H vs Q E hr h=>?_)
 ·obtain⟨p,f,wa,D,dw,a,rows,bars,us,ds,n,ct,rfl,_⟩:=h
  rfl
 obtain⟨p,f,wa,D,dw,a,rows,bars,us,ds,n,ct,rfl,hfn,hc,q1,q2⟩:=h;have hr1:yg 1 _:=hr.mono ⋯
 have hr2:yg 2 _:=hr.mono ⋯
 have hr5:yg 5 _:=hr.mono ⋯
 have hU:=hr.units;have V1:=hfn.v;have l24:=V1.l24;obtain⟨dx,hp⟩:=hfn.at_;have npw:=qN hp hfn.we;refine qe[2]'(cS cP (zjI fun _ _ _ z=>z) hr5 (ac (yo (pv 0) rfl) (ac (pv 1) zb)));exists _,rfl,p,CU,dx,_,_,rfl,hp,UK.cl,UK.n1,zfC,_,rfl,f,a,rows,bars,ct,rfl,hfn.fo,hc,fun em l xs H1 s1 nl hl hxs=>?_,q2;have q1:=q1 em;exfalso;obtain⟨⟨cxs,cx1,cx2⟩,ct1,ct2⟩:=hc;refine zr (y8 (cF cL hr1 (ac (pv 1) zb)) (yi rfl (zo (zl (i:=3) qe.nd rfl (Or.inl rfl)) (zo (zl (i:=4) qe.nd rfl (Or.inl rfl)) zT)))) ?_;exists _,rfl,a,ct,cxs,rfl,s1.seq cx1,zm (fun _ _ z=>z.same s1) cx2,ct1,ct2,fun pt H2 s2 ⟨l1,l2,ys,n1,n2,n12,np,hpt,hl1,hl2,hys⟩=>?_;exists pt,_,rfl,zz hpt,rfl,_,_,rfl,_,_,rfl,rfl,?_;exfalso;have s02:=s1.trans s2;have hl:=s2 _ _ hl;have hxs:=zm (fun _ _ z=>z.same s2) hxs;have fn2:jq c c4 CF CW CU H2 p f wa D dw rows bars us ds n:=hfn.sx (fun b u e _=>s02 _ _ e) (s02 _ _ hfn.we);have hxl:xs.length=rows.length:=by rw[hxs.length];unfold ziu;rw[aA,length_range]
 clear s1 s2 hpt cx1 cx2 nl;refine qe[5]'(zZ zb);exists x8,fun g hg=>?_;exfalso
 injections g hg H3 s3 g3
 have ngw:g≠wa:=fun e=>by rw[e,fn2.we] at hg;cases hg
 refine zr (yr PassesOwn.leaving rfl (wC rfl hen (ac (pv 2) zb)) (yi rfl (zo (zl (i:=6) qe.nd rfl (Or.inl rfl)) (zo (zl (i:=7) qe.nd rfl (Or.inl rfl)) zT))) zW) ?_;have nlw:l≠wa:=zV hl fn2.we (by intro z;cases z)
 refine⟨_,rfl,l,rfl,⟨_,zc (s3 _ _ hl)⟩,vL (K:=K) (a:=l) (xs:=xs) (fun i σ H'=>∃v6 v7 vs,σ=[~~~p,~~~a,~~~l,~~~l1,~~~l2,~~~g,v6,v7]/\SX wa H2 H'/\H' g=some (.lst vs)/\Paired (zI K (fun b=>b≠g/\H2 b=none) H' 2) vs (wc rows ds ct n i).1/\H' wa=some (.ins CW dw (wl (wc rows ds ct n i).2)))
  ⟨_,_,[],rfl,fun b u e _=>s3 _ _ e,g3,.nil,s3 _ _ fn2.we⟩ (fun i σ H' _ ⟨_,_,_,_,sH,_⟩=>zc (sH _ _ hl nlw)) ?_ ?_⟩
 ·rintro i x pp σ H4 hx ⟨v6,v7,vs,rfl,s4,hg4,hv4,hw4⟩ hpn
  have hi:i<rows.length:=by rw[<- hxl];exact(List.getElem?_eq_some_iff.mp hx).1
  have lvs:vs.length=i:=by rw[hv4.length];exact wp i
  have sp:=zg hpn (.tup [.int (i:Nat),x]);exists pp,_,rfl,zz za,rfl,_,_,rfl,_,_,rfl,rfl,?_;have s5:SX wa H2 _:=s4.same sp;have hg5:=sp _ _ hg4;have hw5:=sp _ _ hw4;have hv5:=zm (fun _ _ z=>z.same sp) hv4;generalize upd H4 pp (.tup [.int (i:Nat),x])=H5 at sp s5 hg5 hw5 hv5 |-;clear s4 hg4 hv4 hw4 sp;obtain⟨d,hd,hs⟩:=Paired.get hxs hx;have hd':d=.tup (enE rows (yu ct).length (fpZ (zS ct)) i).row:=by
   unfold ziu at hd;rw[getElem?_map,List.getElem?_range hi] at hd;rw[<- zmr hi];exact(Option.some.inj hd).symm
  have eok:=zjN (rows:=rows) (i:=i) ct1 (show(zS ct).length<=900 by unfold zS;rw[aA];exact ct2)
  have lnm:(zS ct).length=(xj ct).length:=by unfold zS;rw[aA]
  rw[lnm] at eok;rw[hd'] at hs;have hstep:wc rows ds ct n (i+1)=uC (yu ct) (xj ct) (dfF (zR rows) ds i) (wc rows ds ct n i) (enE rows (yu ct).length (fpZ (zS ct)) i):=rfl;have hent:zhL K H5 x (enE rows (yu ct).length (fpZ (zS ct)) i):=y7 (fun _ _ _=>trivial) (vi hs s5 fn2.we);have hfree:enE rows (yu ct).length (fpZ (zS ct)) i=.free->i∈zR rows:=fun e=>zeA V1 (List.append_eq_nil_iff.mp (show xR rows bars (yu ct).length (zS ct)=[] from em)).2 hi e;generalize enE rows (yu ct).length (fpZ (zS ct)) i=e at hstep hent eok hfree;have fn5:=fn2.sx s5 hw5;have grow:∀v (dt:Dt) H7,SX wa H2 H7->H7 g=some (.lst vs)->Paired (zI K (fun b=>b≠g/\H2 b=none) H7 2) vs (wc rows ds ct n i).1->zI K (fun b=>b≠g/\H2 b=none) H7 2 v dt->(wc rows ds ct n (i+1)).1=(wc rows ds ct n i).1++[dt]->H7 wa=some (.ins CW dw (wl (wc rows ds ct n (i+1)).2))->
    ∃v6 v7 vs',([~~~p,~~~a,~~~l,~~~l1,~~~l2,~~~g,some (.int (i:Nat)),some x]:L2.St)=[~~~p,~~~a,~~~l,~~~l1,~~~l2,~~~g,v6,v7]/\SX wa H2 (upd H7 g (.lst (vs++[v])))/\upd H7 g (.lst (vs++[v])) g=some (.lst vs')/\Paired (zI K (fun b=>b≠g/\H2 b=none) (upd H7 g (.lst (vs++[v]))) 2) vs' (wc rows ds ct n (i+1)).1/\upd H7 g (.lst (vs++[v])) wa=some (.ins CW dw (wl (wc rows ds ct n (i+1)).2)):=fun v dt H7 s7 h7 p7 hv ev hw=>by
   refine⟨_,_,vs++[v],rfl,fun b u e nb=>by rw[zf (ze e hg)];exact s7 _ _ e nb,za,?_,by rw[zf ngw.symm];exact hw⟩
   rw[ev];exact yJ (zm (fun _ _ z=>yW h7 (fun b o=>⟨o,o.1⟩) z) p7) (.cons (yW h7 (fun b o=>⟨o,o.1⟩) hv) .nil)
  exists _,zd (zJ (zn (ziz hU) (pv 7) (zQ (ac zw zb)) (zv _)) zW zW),?_;exfalso;by_cases he:e=.free
  ·subst he
   obtain⟨u,rfl,hu⟩:=zla hent;exists _,rfl,za1,fun tf htf=>?_;have sT:=zg htf (.tup [.str "free"]);have gT:upd H5 tf (.tup [.str "free"]) tf=some (.tup [.str "free"]):=za;exists u,tf,_,_,rfl,rfl,sT.sqT hu,zz za,qP,_,rfl,?_;refine xE (by decide +kernel) ?_
   have s6:SX wa H2 _:=s5.same sT;have hg6:=sT _ _ hg5;have hw6:=sT _ _ hw5;have hv6:=zm (fun _ _ z=>z.same sT) hv5;have fn6:=fn2.sx s6 hw6;generalize upd H5 tf (.tup [.str "free"])=H6 at s6 hg6 hw6 hv6 fn6 |-;obtain⟨dx6,hp6⟩:=fn6.at_;exists _,zd (zG (yt PySem.F.plainAttrs_list PySem.F.slot_list_append PySem.F.type_list_append zK (pv 5) (ac (jP (pv 0) UK.cl mL GL hr2 bL .nil zY (ac (pv 6) (ac (pv 5) zb))) zb))),?_;exists _,rfl,.inl ⟨rfl,_,zc hg6⟩,_,rfl,p,dx6,_,rfl,hp6,zlq (by decide +kernel) (by decide +kernel) (by decide +kernel),_,rfl,_,rfl,p,f,wa,D,dw,g,rows,bars,us,ds,_,i,vs,_,_,rfl,fn6,hfree rfl,hg6,hv6,fun k hk hs=>?_,fun H7 s7 hw7=>?_
   ·have:∃r,rows[k]?=some r/\xm r.k=true:=by
     unfold uZ at hs;rw[aK (Int.natCast_nonneg k),toNat_natCast] at hs;cases e:rows[k]? with
     | none=>rw[e] at hs;cases hs
     | some r=>rw[e] at hs;exact⟨r,rfl,hs⟩
    obtain⟨r,hr,ho⟩:=this;exact jX hk (zaF hr ho)
   ·have s27:SX wa H2 H7:=fun b u e nb=>s7 _ _ (s6 _ _ e nb) nb
    have hg7:=s7 _ _ hg6 ngw;have hv7:=zm (fun _ _ z=>vi z s7 hw6) hv6;exists g,_,_,rfl,rfl,hg7,zE ∅,grow _ _ H7 s27 hg7 hv7 .int ?_ ?_
    ·rw[hstep];rfl
    ·rw[hstep];exact hw7
  ·obtain⟨u,z,a',rfl,hu⟩:=zk9 hent he
   exists _,rfl,za1,fun tf htf=>?_;have sT:=zg htf (.tup [.str "free"]);exists u,tf,_,_,rfl,rfl,sT.sqT hu,zz za,qP,_,rfl,?_;refine yR (Bool.and_false _) ?_;have s6:SX wa H2 _:=s5.same sT;have hg6:=sT _ _ hg5;have hw6:=sT _ _ hw5;have hv6:=zm (fun _ _ z=>z.same sT) hv5;have hent6:zhL K _ (.ref u) e:=hent.same sT;generalize upd H5 tf (.tup [.str "free"])=H6 at s6 hg6 hw6 hv6 hent6 |-;exists _,zd (zG (yt PySem.F.plainAttrs_list PySem.F.slot_list_append PySem.F.type_list_append zK (pv 5) (ac (cF cH hr1 (ac (pv 7) (ac (pv 3) (ac (pv 4) zb)))) zb))),?_;exists _,rfl,.inl ⟨rfl,_,zc hg6⟩,_,rfl,_,rfl,_,rfl,.ref u,l1,l2,ys,yu ct,xj ct,e,rfl,hent6,eok,he,s6 _ _ hl1 (zV hl1 fn2.we (by intro z;cases z)),s6 _ _ hl2 (zV hl2 fn2.we (by intro z;cases z)),zm (fun _ _ z=>vi z s6 fn2.we) hys,fun v H7 s7 hv=>?_
   have s27:SX wa H2 H7:=s6.same s7;exists g,_,_,rfl,rfl,s7 _ _ hg6,zE ∅,grow v _ H7 s27 (s7 _ _ hg6) (zm (fun _ _ z=>z.same s7) hv6) (y7 (fun b o _=>⟨(fun e=>by rw[e,hg6] at o;cases o),jL s6 hw6 o⟩) hv) ?_ ?_
   ·rw[hstep,j5 he]
   ·rw[hstep,j5 he];exact s7 _ _ hw6
 ·rintro σ H4 ⟨v6,v7,vs,rfl,s4,hg4,hv4,hw4⟩
  rw[hxl] at hv4 hw4;exists _,zd (zt (pv 5)),_,rfl,q1 g vs H4 (fun b u e nb=>s4 _ _ (s02 _ _ e) nb) (s02.free hg) hg4 (zm (fun _ _ z=>y7 (fun b o _=>⟨o.1,s02.free o.2⟩) z) hv4) hw4
theorem zjW(h:fs.length=2):∃a b,fs=[a,b]:=by
 match fs,h with
 | [x,y],_=>exact⟨x,y,rfl⟩
theorem zbI(h:fs.length=3):∃a b c,fs=[a,b,c]:=by
 match fs,h with
 | [x,y,z],_=>exact⟨x,y,z,rfl⟩
theorem zgK(h:fs.length=1):∃a,fs=[a]:=by
 match fs,h with
 | [x],_=>exact⟨x,rfl⟩
inductive zaV(vs:List V)(H:Hp)(Q:VK)(E:XK):Prop|mk(c:Int):vs=[.int c]->(∀(t:Addr) (n ya:Int) (H':Hp),zq H H'->H' t=some (.tup [.int n,.int ya])->Q (.ref t) H')->zaV vs H Q E
inductive zd4(vs:List V)(H:Hp)(Q:VK)(E:XK):Prop|mk(c:Int)(la:Addr)(p:Nat)(us:List Addr)(rows:List Rw):vs=[.int c,.ref la,.int (p:Nat)]->H la=some (.lst (us.map V.ref))->Paired (TAt H) us rows->VR rows->p<=24->(∀(u:Addr) (d:Df) (H':Hp),zq H H'->H u=none->H' u=some (.tup d.row)->vQ rows p d->Q (.ref u) H')->zd4 vs H Q E
theorem qc:zp ["_law_cell","_law_told","_law_rest"] ["_law_cell"] (zi zcW):=fsc
theorem ziK(F:Fun K "_law_next_thing" "_law_next_thing" zcW f fd)(cT:⇑3 "_law_take" g1 e1 ["_law_cell","_law_sizes"] (uX K)):↥4 f fd ["_law_cell"] zaV:=by
 specialize qc;obtain⟨c,rfl,q⟩:=h;refine zr (y8 (cF cT hr (ac (pv 0) (ac (zZ (ac zh (ac zh zb))) zb))) (yi rfl (zo (zl (i:=1) qc.nd rfl (Or.inl rfl)) (zo (zl (i:=2) qc.nd rfl (Or.inl rfl)) zT)))) ?_;exists _,rfl,yL,fun l1 hl1=>?_;have s1:=zg hl1 (.lst [.int 2,.int 41]);exists c,l1,[2,41],rfl,zc za,⋯,.inl ⋯,⋯,fun t lf fs ya H2 s2 nlf ht hlf lfs hfs=>?_
 obtain⟨f0,f1,rfl⟩:=zjW lfs;exists t,_,rfl,zz ht,rfl,_,_,rfl,_,_,rfl,rfl,?_;exfalso;have s02:=s1.trans s2;have hlf:H2 lf=some (.lst [.int (f0:Nat),.int (f1:Nat)]):=hlf;clear s1 s2 ht;refine zr (zJ (zn ye (zu zy (pv 1) zh (fun _ _=>rfl)) zh (zv _)) (zd (zt (zQ (ac (zN qw (zu zy (pv 1) zh (fun _ _=>rfl)) zh) (ac (pv 2) zb))))) zx) ?_;exists _,rfl,lf,_,0,.int (f0:Nat),rfl,rfl,zc hlf,rfl,rfl,_,rfl,?_;refine vE (fun _=>?_) (fun _=>?_)
 ·exists _,rfl,lf,_,1,.int (f1:Nat),rfl,rfl,zc hlf,rfl,_,_,rfl,rfl,_,rfl,yL,fun u hu=>?_
  exact q u _ _ _ (s02.trans (zg hu _)) za
 refine zr (y8 (cF cT hr (ac (pv 2) (ac (zZ (ac (zN qw (zN xV zh (zN zda zh zh)) zh) zb)) zb))) (yi rfl (zo (zl (i:=1) qc.nd rfl (Or.inl rfl)) (zo (zl (i:=2) qc.nd rfl (Or.inl rfl)) zT)))) ?_;exists _,rfl,_,_,rfl,rfl,⟨⋯,⋯,⋯⟩,_,_,rfl,rfl,.inl ⟨⋯,⋯⟩,_,_,rfl,rfl,za1,fun l3 hl3=>?_
 have s3:=zg hl3 (.lst [.int (2 * 10 ^ 60 - 1)]);exists ya,l3,[2 * 10 ^ 60 - 1],rfl,zc za,⋯,.inr ⋯,⋯,fun t lf fs ya H4 s4 nlf ht hlf lfs hfs=>?_
 obtain⟨f0,rfl⟩:=zgK lfs;exists t,_,rfl,zz ht,rfl,_,_,rfl,_,_,rfl,rfl,?_;exfalso;exists _,zd (zt (zQ (ac (zN qw (zu zy (pv 1) zh (fun _ _=>rfl)) (zN qw (zN zda zh zh) zh)) (ac (pv 2) zb)))),?_;exists _,rfl,lf,_,0,.int (f0:Nat),rfl,rfl,zc hlf,rfl,_,_,rfl,rfl,⟨⋯,⋯,⋯⟩,_,_,rfl,rfl,_,_,rfl,rfl,_,rfl,yL,fun u hu=>?_
 exact q u _ _ _ (s02.trans (s3.trans (s4.trans (zg hu _)))) za
theorem znf:([Str.ofString "_law_k",Str.ofString "_law_specs_here"]:List Str).Nodup:=by decide +kernel
theorem jN:zp ["_law_cell","_law_specs_here","_law_p","_law_told","_law_rest","_law_ahead"] ["_law_cell","_law_specs_here","_law_p"] (zi zc6):=fsc
theorem zg8(F:Fun K "_law_drawn" "_law_drawn" zc6 f fd)(T:uz mg)(cS:⇑1 "_law_single" g1 d1 ["_law_specs_here","_law_p"] zfO)(cT:⇑3 "_law_take" g2 d2 ["_law_cell","_law_sizes"] (uX K))(cX:⇑4 "_law_next_thing" g3 d3 ["_law_cell"] zaV):↥5 f fd ["_law_cell","_law_specs_here","_law_p"] zd4:=by
 specialize jN;obtain⟨cc,la,p,us,rows,rfl,hla,hu,V1,lp,q⟩:=h;have hU:=hr.units;have hr1:yg 1 _:=hr.mono ⋯
 have hr3:yg 3 _:=hr.mono ⋯
 have hr4:yg 4 _:=hr.mono ⋯
 refine zr (y8 (cF cT hr3 (ac (pv 0) (ac (zZ (ac zh (ac zh (ac zh zb)))) zb))) (yi rfl (zo (zl (i:=3) jN.nd rfl (Or.inl rfl)) (zo (zl (i:=4) jN.nd rfl (Or.inl rfl)) zT)))) ?_;exists _,rfl,za0,fun l1 hl1=>?_;have s1:=zg hl1 (.lst [.int 4,.int 16,.int 19]);exists cc,l1,[4,16,19],rfl,zc za,⋯,.inl ⋯,⋯,fun t lf fs ya H2 s2 nlf ht hlf lfs hfs=>?_
 obtain⟨f0,f1,f2,rfl⟩:=zbI lfs;have b2:f2<19:=hfs 2 ⋯
 exists t,_,rfl,zz ht,rfl,_,_,rfl,_,_,rfl,rfl,?_;exfalso;have s02:=s1.trans s2;have hlf:H2 lf=some (.lst [.int (f0:Nat),.int (f1:Nat),.int (f2:Nat)]):=hlf;clear s1 s2 ht hfs;refine zr (zal (i:=5) ["_law_specs_here"] ["_law_k","_law_specs_here"] [none,some 1] jN.nd rfl (Or.inl rfl) rfl ⟨rfl,rfl,rfl,rfl⟩ (yO rfl T.range (ac (pv 2) zb)) (yc 0) rfl rfl rfl
   (fun pins fp s H C=>⟨zl (i:=0) znf rfl (Or.inl rfl) (.inr rfl),xM (yA (cF cS hr1 (ac (pv 1) (ac (pv 0) zb)))),pv 0⟩)) ?_
 exists _,rfl,((p:Nat):Int),rfl,∅,∅,fun D hD=>?_
 rw[show((p:Nat):Int).toNat=p by omega]
 refine zep (n:=p) (fun k:Nat=>uZ rows (k:Int)) (fun n=>.int (n:Nat)) hD ∅ (fun i H' N S hi sH n1 s1=>?_) (fun H1 s1 h1=>?_)
 ·rw[Int.zero_add]
  have sH:=s02.trans sH;exists _,rfl,_,rfl,la,(i:Int),us,rows,rfl,sH _ _ hla,z8 sH hu,V1,fun H2 s2=>?_;exact⟨_,rfl,(fun e=>⟨_,rfl,n1 _ s2 e⟩),fun e=>s1 _ s2 e⟩
 obtain⟨ns,en,hm⟩:∃ns:List Nat,ns=(List.range p).filter (fun k:Nat=>uZ rows (k:Int))/\∀n∈ns,n<p/\uZ rows (n:Int)=true:=⟨_,rfl,fun n hn=>by
  obtain⟨a,b⟩:=List.mem_filter.mp hn;exact⟨List.mem_range.mp a,b⟩⟩
 rw[<- en] at h1;clear en;have hlf:=s1 _ _ hlf;have s01:=s02.trans s1;clear s1 s02;exfalso;refine zr (zJ (zn ye (zu zy (pv 3) zh (fun _ _=>rfl)) zh (zv _)) (zd (zt (zQ (ac zw zb)))) zx) ?_;exists _,rfl,lf,_,0,.int (f0:Nat),rfl,rfl,zc hlf,rfl,rfl,_,rfl,?_;refine vE (fun _=>?_) (fun _=>?_)
 ·exists za1,fun u hu'=>?_
  exact q u .once _ (s01.trans (zg hu' _)) (s01.free hu') za trivial
 refine zr (zJ (zn ye (zu zy (pv 3) zh (fun _ _=>rfl)) zh (zv _)) (zd (zt (zQ (ac zw zb)))) zx) ?_;exists _,rfl,lf,_,0,.int (f0:Nat),rfl,rfl,zc hlf,rfl,rfl,_,rfl,?_;refine vE (fun _=>?_) (fun _=>?_)
 ·exists za1,fun u hu'=>?_
  exact q u .anew _ (s01.trans (zg hu' _)) (s01.free hu') za trivial
 refine zr (zJ (yy (yz (zn ye (zu zy (pv 3) zh (fun _ _=>rfl)) zh (zv _)) (yq (zn (zgE hr.units0) (pv 5) (zZ zb) (zv _))))) zW zx) ?_;refine xC (fun σ' H'=>∃v5,σ'=[some (.int cc),~~~la,some (.int (p:Nat)),~~~lf,some (.int ya),v5]/\zq H H') ?_ (fun key=>?_)
 ·rintro σ H2 ⟨v5,rfl,s2⟩
  exists _,zd (zt (zQ (ac zw (ac (zu zL (cF cX hr4 (ac (pv 4) zb)) zh (fun _ _=>rfl)) zb)))),?_;exists _,rfl,ya,rfl,fun t n r H3 s3 ht=>?_;exists t,_,0,.int n,rfl,rfl,zz ht,rfl,yL,fun u hu'=>?_;exact q u (.told n) _ ((s2.trans s3).trans (zg hu' _)) ((s2.trans s3).free hu') za trivial
 exists _,rfl,lf,_,0,.int (f0:Nat),rfl,rfl,zc hlf,rfl,rfl,_,rfl,?_;refine vE (fun _=>?_) (fun _=>?_);rotate_left
 ·exact key _ _ ⟨_,rfl,s01⟩
 exists _,rfl,x8,fun le hle=>?_;have s2:=zg hle (.lst []);have g2:upd H1 le (.lst []) le=some (.lst []):=za;have h2:=s2 _ _ h1;have hlf:=s2 _ _ hlf;have s12:=s01.trans s2;generalize upd H1 le (.lst [])=H2 at s2 g2 h2 s12 hlf |-;exists D,le,_,rfl,rfl,h2,g2,_,rfl,?_;by_cases hne:ns=[]
 ·subst hne
  refine yR rfl ?_;exact key _ _ ⟨_,rfl,s12⟩
 refine xE (by cases ns with|nil=>exact absurd rfl hne|cons _ _=>rfl) ?_
 have ln : 0<ns.length:=List.length_pos_iff.mpr hne;have lz:(((ns.map fun n=>V.int (n:Nat)).length:Nat):Int)=(ns.length:Int):=by rw[aA]
 obtain⟨v,hv,hat,_⟩:=zjq (xs:=ns.map fun n=>V.int (n:Nat)) (i:=(f1:Int) % (((ns.map fun n=>V.int (n:Nat)).length:Nat):Int)) (emod_nonneg _ ∅) (emod_lt_of_pos _ ∅)
 obtain⟨a,ha,rfl⟩:=List.mem_map.mp hv;obtain⟨a1,a2⟩:=hm a ha;exists _,zd (zt (zQ (ac zw (ac (zu zy (pv 5) (zN wM (zu zy (pv 3) zh (fun _ _=>rfl)) (cB zF T.len PySem.boot_len (ac (pv 5) zb))) (fun _ _=>rfl)) (ac (zN qw (zu zy (pv 3) zh (fun _ _=>rfl)) zh) (ac (zu zL (cF cX hr4 (ac (pv 4) zb)) zh (fun _ _=>rfl)) zb)))))),?_;exists _,rfl,_,rfl,lf,_,1,.int (f1:Nat),rfl,rfl,zc hlf,rfl,_,rfl,D,_,rfl,.inl (zc h2),_,_,rfl,rfl,∅,D,_,_,_,rfl,rfl,zc h2,hat,_,rfl,lf,_,2,.int (f2:Nat),rfl,rfl,zc hlf,rfl,_,_,rfl,rfl,_,rfl,ya,rfl,fun t n r H3 s3 ht=>?_
 exists t,_,0,.int n,rfl,rfl,zz ht,rfl,zlH,fun u hu'=>?_;exact q u (.sum (a:Nat) ((f2:Int) - 9) n) _ ((s12.trans s3).trans (zg hu' _)) ((s12.trans s3).free hu') za ⟨∅,∅,a2,∅,∅⟩
def zds(names:List Str)(r:Rw):Bool:=yI r.k&&decide (r.z∈names)
def uI(names:List Str)(r:Rw):Bool:=!fr r.k r.b&&!zds names r
theorem zi4{i many:Nat}:xp r i many fk=(!fr r.k r.b&&!(xi r.k&&decide (i<many))&&!(yI r.k&&(zO fk (.inr r.z)).isSome)):=by
 unfold xp uf;by_cases h1:xi r.k=true/\i<many
 ·rw[aK h1,h1.1,aC h1.2]
  have e:L2.eqT [.str "place",.int (i:Nat)] [.str "free"]=false:=rfl;rw[e];simp
 ·rw[aJ h1]
  have hn:(xi r.k&&decide (i<many))=false:=by
   cases hp:xi r.k with
   | false=>rfl
   | true=>exact aD fun h=>h1 ⟨hp,h⟩
  rw[hn];by_cases h2:yI r.k=true/\(zO fk (.inr r.z)).isSome=true
  ·rw[aK h2,h2.1,h2.2]
   have e:∀v,L2.eqT [.str "name",v] [.str "free"]=false:=fun v=>by unfold L2.eqT;simp
   rw[e];simp
  ·rw[aJ h2]
   have hn2:(yI r.k&&(zO fk (.inr r.z)).isSome)=false:=by
    cases hp:yI r.k with
    | false=>rfl
    | true=>
     cases hq:(zO fk (.inr r.z)).isSome with
     | false=>rfl
     | true=>exact absurd ⟨hp,hq⟩ h2
   rw[hn2];have e:L2.eqT [.str "free"] [.str "free"]=true:=by unfold L2.eqT;simp [range_succ,eqV]
   rw[e];simp
theorem zbw:(zO (kvP (fpZ zs)) (.inr z)).isSome=decide (z∈zs):=by
 rw[wG,Bool.eq_iff_iff,decide_eq_true_eq];constructor
 ·intro h
  have key:∀zs (i:Nat) (acc:List (Str×Nat)),((fpF i acc zs).any fun p=>decide (p.1=z))=true->(acc.any fun p=>decide (p.1=z))=true\/z∈zs:=by
   intro zs;induction zs with
   | nil=>exact fun i acc h=>.inl h
   | cons y ys ih=>
    intro i acc h;rcases ih (i+1) _ h with h|h
    ·split at h
     ·exact .inl h
     ·rw[any_append,Bool.or_eq_true] at h
      rcases h with h|h
      ·exact .inl h
      ·right
       simp at h;rw[h];exact mem_cons_self
    ·exact .inr (mem_cons_of_mem _ h)
  rcases key zs 0 [] h with h|h
  ·simp at h
  ·exact h
 ·exact fun h=>zdv zs 0 [] h
theorem zes{i many:Nat}:xp r i many (kvP (fpZ names))=(uI names r&&!(xi r.k&&decide (i<many))):=by
 rw[zi4,zbw];unfold uI zds;cases fr r.k r.b <;> cases xi r.k <;> cases yI r.k <;> simp [Bool.and_comm]
theorem zjr{acc:List (Str×Nat)}{z:Str}:(acc.any fun p=>decide (p.1=z))=decide (z∈acc.map (·.1)):=by
 rw[Bool.eq_iff_iff,List.any_eq_true,decide_eq_true_eq,List.mem_map];exact⟨fun⟨p,h1,h2⟩=>⟨p,h1,of_decide_eq_true h2⟩,fun⟨p,h1,h2⟩=>⟨p,h1,aC h2⟩⟩
theorem zew:z∈(fpZ zs).map (·.1) ↔ z∈zs:=by
 have h1:((fpZ zs).any fun p=>decide (p.1=z))=decide (z∈zs):=by rw[<- wG,zbw]
 rw[zjr,Bool.eq_iff_iff,decide_eq_true_eq,decide_eq_true_eq] at h1;exact h1
theorem fpT:((fpF 0 [] zs).any fun p=>decide (p.1=z))=decide (z∈zs):=by
 have:=zbw (zs:=zs) (z:=z)
 rw[wG] at this;exact this
theorem zhQ(h:zO (kvP a) (.inr z)=some v):zO (kvP (a++b)) (.inr z)=some v:=by
 unfold zO at h |-;unfold kvP at h |-;rw[aE,List.find?_append];cases e:(a.map fun p=>((Sum.inr p.1:Key),V.int (p.2:Nat))).find? fun kv=>decide (kv.1=.inr z) with
 | none=>rw[e] at h;cases h
 | some kv=>rw[e] at h;exact h
theorem zhP{i:Nat}(h:(a.any fun p=>decide (p.1=z))=false):zO (kvP (a++[(z,i)])) (.inr z)=some (.int (i:Nat)):=by
 have e0:zO (kvP a) (.inr z)=none:=by
  rw[<- wG] at h;exact Option.not_isSome_iff_eq_none.mp (by rw[h];exact zft)
 unfold zO at e0 |-;unfold kvP at e0 |-;rw[aE,List.find?_append];cases e:(a.map fun p=>((Sum.inr p.1:Key),V.int (p.2:Nat))).find? fun kv=>decide (kv.1=.inr z) with
 | none=>
  rw[Option.none_or,map_cons,find?_cons,aC rfl];rfl
 | some kv=>rw[e] at e0;cases e0
theorem zaR{z:Str}{v:V}:∀(zs:List Str) (i:Nat) (acc:List (Str×Nat)),zO (kvP acc) (.inr z)=some v->zO (kvP (fpF i acc zs)) (.inr z)=some v
 | [],_,_,h=>h
 | y::ys,i,acc,h=>by
  show zO (kvP (fpF (i+1) (if (acc.any fun p=>decide (p.1=y))=true then acc else acc++[(y,i)]) ys)) _=_
  split
  ·exact zaR ys (i+1) acc h
  ·exact zaR ys (i+1) _ (zhQ h)
theorem zdw:∀(a b:List Str) (j:Nat) (acc:List (Str×Nat)),fpF j acc (a++b)=fpF (j+a.length) (fpF j acc a) b
 | [],_,_,_=>rfl
 | z::zs,b,j,acc=>by
  show fpF (j+1) _ (zs++b)=fpF (j+(zs.length+1)) (fpF (j+1) _ zs) b;rw[zdw zs b (j+1),show j+1+zs.length=j+(zs.length+1) by omega]
theorem zjM:∀(zs:List Str) (j:Nat) (acc:List (Str×Nat)),(∀p∈acc,p.2<j)->∀p∈fpF j acc zs,p.2<j+zs.length
 | [],_,_,h,p,hp=>h p hp
 | z::zs,j,acc,h,p,hp=>by
  have h2:=zjM zs (j+1) _ (fun q hq=>?_) p hp
  ·rw[length_cons];omega
  ·split at hq
   ·have:=h q hq;omega
   ·rcases List.mem_append.mp hq with hq|hq
    ·have:=h q hq;omega
    ·rw[List.mem_singleton.mp hq];exact lt_succ_self _
theorem zcw{zs:List Str}{i:Nat}{z:Str}(h:zs[i]?=some z):zs.take (i+1)=zs.take i++[z]:=by
 have hi:i<zs.length:=(List.getElem?_eq_some_iff.mp h).1;have e:zs[i]=z:=(List.getElem?_eq_some_iff.mp h).2;rw[take_succ_eq_append_getElem hi,e]
theorem zeu{zs:List Str}{i:Nat}{z:Str}(h:zs[i]?=some z):fpF 0 [] (zs.take (i+1))=if ((fpF 0 [] (zs.take i)).any fun p=>decide (p.1=z))=true then fpF 0 [] (zs.take i) else fpF 0 [] (zs.take i)++[(z,i)]:=by
 have hi:i<zs.length:=(List.getElem?_eq_some_iff.mp h).1;rw[zcw h,zdw];have el : 0+(zs.take i).length=i:=by rw[length_take];omega
 rw[el];rfl
theorem zhH{i:Nat}(h:zs[i]?=some z):decide (zO (kvP (fpZ zs)) (.inr z)=some (.int (i:Nat)))=!((fpF 0 [] (zs.take i)).any fun p=>decide (p.1=z)):=by
 have hi:i<zs.length:=(List.getElem?_eq_some_iff.mp h).1;have e:fpZ zs=fpF (i+1) (fpF 0 [] (zs.take (i+1))) (zs.drop (i+1)):=by
  unfold fpZ
  conv=>lhs;rw[<- take_append_drop (i+1) zs,zdw]
  rw[show 0+(zs.take (i+1)).length=i+1 by rw[length_take];omega]
 cases hb:(fpF 0 [] (zs.take i)).any fun p=>decide (p.1=z) with
 | true=>
  have hs:(zO (kvP (fpF 0 [] (zs.take i))) (.inr z)).isSome=true:=by rw[wG];exact hb
  obtain⟨v,hv⟩:=Option.isSome_iff_exists.mp hs;obtain⟨z',j,ez,ev,hm⟩:=jS hv;have hj:=zjM (zs.take i) 0 [] (fun p hp=>by cases hp) _ hm
  rw[length_take] at hj;have h2:=zeu h;rw[hb,aK rfl] at h2;have h3:=zaR (z:=z) (v:=v) (zs.drop (i+1)) (i+1) (fpF 0 [] (zs.take (i+1))) (by rw[h2];exact hv)
  rw[e,h3,ev];refine aD fun e2=>?_
  have:(j:Int)=(i:Int):=V.int.inj (Option.some.inj e2)
  have hj':j<0+min i zs.length:=hj;omega
 | false=>
  have h2:=zeu h;rw[hb,aJ ⋯] at h2
  have h3:=zaR (z:=z) (v:=.int (i:Nat)) (zs.drop (i+1)) (i+1) (fpF 0 [] (zs.take (i+1))) (by rw[h2];exact zhP hb)
  rw[e,h3];exact aC rfl
theorem zhu{k:Nat}(h:k<5):xi k=decide (grp k=0):=by rcases lt5 h with rfl|rfl|rfl|rfl|rfl <;> rfl
theorem zgw(h:∀r∈rows,xi r.k=false):plN rows=0:=by
 unfold plN;rw[List.length_eq_zero_iff,List.filter_eq_nil_iff];exact fun r hr=>by rw[h r hr];decide
theorem zbX:∀(rows:List Rw) {l:Nat},0<l->(∀r∈rows,r.ok)->yG l rows=true->∀r∈rows,xi r.k=false
 | [],_,_,_,_,r,hr=>by cases hr
 | x::xs,l,hl,hok,h,r,hr=>by
  have h':(!xI l (grp x.k)&&yG (grp x.k) xs)=true:=h;rw[Bool.and_eq_true,Bool.not_eq_true'] at h';have hb:=h'.1;unfold xI at hb;simp only[Bool.or_eq_false_iff,decide_eq_false_iff_not] at hb;have hg : 0<grp x.k:=by omega
  rcases List.mem_cons.mp hr with rfl|hr
  ·rw[zhu (hok _ mem_cons_self).1,aD ∅]
  ·exact zbX xs hg (fun r hr=>hok r (mem_cons_of_mem _ hr)) h'.2 r hr
theorem zbJ:∀rows:List Rw,(∀r∈rows,r.ok)->yG 0 rows=true->∃A B,rows=A++B/\A.length=plN rows/\(∀r∈A,grp r.k=0)/\yG 0 B=true
 | [],_,_=>⟨[],[],rfl,rfl,(fun r hr=>by cases hr),rfl⟩
 | r::rs,hok,h=>by
  have h':(!xI 0 (grp r.k)&&yG (grp r.k) rs)=true:=h;rw[Bool.and_eq_true,Bool.not_eq_true'] at h';by_cases hg:grp r.k=0
  ·have h2:=h'.2
   rw[hg] at h2;obtain⟨A,B,e,hl,hA,hB⟩:=zbJ rs (fun x hx=>hok x (mem_cons_of_mem _ hx)) h2;exists r::A,B,by rw[e];rfl,?_,fun x hx=>?_,hB
   ·have hp:xi r.k=true:=by rw[zhu (hok r mem_cons_self).1,hg];rfl
    unfold plN at hl |-;rw[filter_cons,aK hp,length_cons,length_cons,hl]
   ·rcases List.mem_cons.mp hx with rfl|hx
    ·exact hg
    ·exact hA x hx
  ·exists [],r::rs,rfl,?_,(fun x hx=>by cases hx),h
   rw[zgw]
   ·rfl
   ·intro x hx
    rcases List.mem_cons.mp hx with rfl|hx
    ·rw[zhu (hok _ mem_cons_self).1,aD hg]
    ·exact zbX rs ∅ (fun x hx=>hok x (mem_cons_of_mem _ hx)) h'.2 x hx
theorem zdd(h:z∈nms rows):∃(l:Nat) (r:Rw),rows[l]?=some r/\yI r.k=true/\r.z=z:=by
 unfold nms at h;obtain⟨r,hr,rfl⟩:=List.mem_map.mp h;rw[List.mem_filter] at hr;obtain⟨l,hl⟩:=List.mem_iff_getElem?.mp hr.1;exact⟨l,r,hl,hr.2,rfl⟩
theorem zlW(hok:∀r∈rows,r.ok)(ho:yG 0 rows=true){i:Nat}(h:rows[i]?=some r):xi r.k=decide (i<plN rows):=by
 obtain⟨A,B,e,hl,hA,hB⟩:=zbJ rows hok ho;have hn:plN rows=plN A+plN B:=by
  unfold plN;rw[e,filter_append,aG]
 have hA2:plN A=A.length:=by
  unfold plN;rw[List.filter_eq_self.mpr fun x hx=>?_];rw[zhu (hok x (by rw[e];exact mem_append_left _ hx)).1,hA x hx]
  rfl
 have hB2:plN B=0:=by omega
 have hB3:∀x∈B,xi x.k=false:=fun x hx=>by
  unfold plN at hB2;rw[List.length_eq_zero_iff,List.filter_eq_nil_iff] at hB2
  have:=hB2 x hx
  simpa using this
 by_cases hi:i<plN rows
 ·rw[aC hi]
  rw[e,getElem?_append_left ∅] at h
  have hm:=aH h;rw[zhu (hok r (by rw[e];exact mem_append_left _ hm)).1,hA r hm]
  rfl
 ·rw[aD hi]
  rw[e,getElem?_append_right ∅] at h
  exact hB3 r (aH h)
theorem zhR{many:Nat}:jY rows bars many (fpZ zs)=[] ↔ ∀z∈zs,xy rows bars many z=none:=by
 unfold jY;rw[List.filterMap_eq_nil_iff];constructor
 ·intro h z hz
  obtain⟨p,hp,rfl⟩:=List.mem_map.mp (zew.mpr hz)
  have:=h p hp
  rwa [Option.map_eq_none_iff] at this
 ·intro h p hp
  rw[Option.map_eq_none_iff];exact h _ (zew.mp (List.mem_map.mpr ⟨p,hp,rfl⟩))
theorem zch{fk:List (Key×V)}:∀(zs:List Str) (i:Nat),jH fk i zs=[] ↔ ∀j z,zs[j]?=some z->zO fk (.inr z)=some (.int ((i+j:Nat):Int))
 | [],i=>by simp [jH]
 | y::ys,i=>by
  show(if zO fk (.inr y)=some (.int (i:Nat)) then [] else [(("doubled" : Str),i)])++jH fk (i+1) ys=[] ↔ _
  rw[append_eq_nil_iff,zch ys (i+1)];constructor
  ·rintro⟨h1,h2⟩ j z hj
   cases j with
   | zero=>
    have:y=z:=by simpa using hj
    subst this;split at h1
    next e=>exact e
    ·cases h1
   | succ j=>
    have:=h2 j z (by simpa using hj)
    rw[this]
    congr 3
    omega
  ·intro h
   exists ?_,fun j z hj=>?_
   ·have h0:=h 0 y rfl
    rw[Nat.add_zero] at h0;rw[aK h0]
   ·have:=h (j+1) z (by simpa using hj)
    rw[this]
    congr 3
    omega
theorem zjl:jH (kvP (fpZ zs)) 0 zs=[] ↔ zs.Nodup:=by
 rw[zch,List.nodup_iff_pairwise_ne];constructor
 ·intro h
  rw[List.pairwise_iff_getElem];intro i j hi hj hij e;have h1:=zhH (zs:=zs) (i:=j) (z:=zs[j]) (aB hj);have h2:=h j _ (aB hj);rw[Nat.zero_add] at h2;rw[aC h2,fpT] at h1;have hm:zs[j]∈zs.take j:=by
   rw[<- e];rw[List.mem_iff_getElem];exact⟨i,by rw[length_take];omega,by rw[List.getElem_take]⟩
  rw[aC hm] at h1;cases h1
 ·intro h j z hj
  have h1:=zhH hj;rw[fpT] at h1;have hn:z∉zs.take j:=by
   intro hm;obtain⟨i,hi,e⟩:=List.mem_iff_getElem.mp hm;rw[length_take] at hi;rw[List.getElem_take] at e;have hjl:j<zs.length:=(List.getElem?_eq_some_iff.mp hj).1
   have:=(List.pairwise_iff_getElem.mp h) i j ∅ hjl ∅
   rw[aB hjl] at hj;exact this (e.trans (Option.some.inj hj).symm)
  rw[aD hn] at h1;rw[Nat.zero_add];exact of_decide_eq_true h1
theorem zgB{many:Nat}:um rows many=[] ↔ ((zH 2 0 rows).isSome=true\/many<=plN rows):=by
 unfold um;split
 next h=>simp [h]
 next h=>
  rw[List.map_eq_nil_iff,List.range_eq_nil];constructor
  ·intro e;right;omega
  ·rintro (e|e)
   ·exact absurd e h
   ·omega
theorem zdO{κ : Type}[DecidableEq κ]{kvs:List (κ×V)}{k k' : κ}:zO (yK kvs k v) k'=if k'=k then some v else zO kvs k':=zbG kvs k k' v
theorem qB(r:Rw)(rs:List Rw):nms (r::rs)=(if yI r.k=true then [r.z] else [])++nms rs:=by
 have:=vn [r] rs
 rw[jR] at this;exact this
theorem vM{z:Str}:∀(rows:List Rw) (i:Nat) (acc:List (Key×V)),z∉nms rows->zO (yx i acc rows) (.inr z)=zO acc (.inr z)
 | [],_,_,_=>rfl
 | r::rs,i,acc,h=>by
  rw[qB] at h;have h2:z∉nms rs:=fun e=>h (mem_append_right _ e);show zO (yx (i+1) _ rs) (.inr z)=_;rw[vM rs (i+1) _ h2];split
  next e=>
   rw[zdO,aJ];intro e2;rw[aK e] at h;exact h (by rw[Sum.inr.inj e2];exact mem_append_left _ (List.mem_singleton.mpr rfl))
  ·rfl
theorem uP{r:Rw}(hb:yI r.k=true):∀(rows:List Rw) (i j:Nat) (acc:List (Key×V)),rows[j]?=some r->(nms rows).Nodup->zO (yx i acc rows) (.inr r.z)=some (.int ((i+j:Nat):Int))
 | [],_,_,_,h,_=>by simp at h
 | y::ys,i,0,acc,h,nd=>by
  have e:y=r:=by simpa using h
  subst e;rw[qB,aK hb] at nd;have hz:y.z∉nms ys:=(List.nodup_cons.mp nd).1;show zO (yx (i+1) (if yI y.k=true then yK acc (.inr y.z) (.int i) else acc) ys) (.inr y.z)=_
  rw[vM ys (i+1) _ hz,aK hb,zdO,aK rfl];rfl
 | y::ys,i,j+1,acc,h,nd=>by
  rw[qB] at nd;have nd2:=(List.nodup_append.mp nd).2.1;show zO (yx (i+1) _ ys) (.inr r.z)=_;rw[uP hb ys (i+1) j _ (by simpa using h) nd2,show i+1+j=i+(j+1) by omega]
def zht(rows:List Rw)(k:Nat):Bool:=rows.any fun r=>r.k==k
theorem qL{k:Nat}(hk:k<5):∀{rows:List Rw},(∀r∈rows,r.ok)->decide (kw k∈rows.map fun r=>kw r.k)=zht rows k
 | [],_=>rfl
 | r::rows,h=>by
  have ih:=qL hk (rows:=rows) fun r hr=>h r (mem_cons_of_mem _ hr);have e:=zhl k hk r.k (h r mem_cons_self).1;have e':decide (kw k=kw r.k)=(r.k==k):=by
   rw[<- e];by_cases z:kw k=kw r.k
   ·rw[aC z,z,aC rfl]
   ·rw[aD z,aD (fun c=>z (V.str.inj c).symm)]
  unfold zht at ih |-;rw[any_cons,<- ih,<- e',map_cons];by_cases a:kw k=kw r.k
  ·rw[a,aC mem_cons_self,aC rfl];rfl
  ·by_cases b:kw k∈rows.map fun r=>kw r.k
   ·rw[aC b,aC (mem_cons_of_mem _ b),Bool.or_true]
   ·rw[aD b,aD a,aD (fun c=>(List.mem_cons.mp c).elim a b)];rfl
theorem jA{kk:Nat}:∀(rows:List Rw) (i:Nat),(zH kk i rows).isSome=rows.any fun r=>r.k==kk
 | [],_=>rfl
 | r::rs,i=>by
  unfold zH;rw[any_cons];by_cases e:r.k=kk
  ·rw[aK e,e];simp
  ·rw[aJ e,jA rs (i+1)]
   simp [e]
theorem qH{many:Nat}{fk:List (Key×V)}:∀(rows:List Rw) (i:Nat),wz many fk i rows=[] ↔ ∀j r,rows[j]?=some r->xp r (i+j) many fk=false
 | [],i=>by simp [wz]
 | y::ys,i=>by
  show(if xp y i many fk=true then [(("lacking" : Str),i)] else [])++wz many fk (i+1) ys=[] ↔ _
  rw[append_eq_nil_iff,qH ys (i+1)];constructor
  ·rintro⟨h1,h2⟩ j z hj
   cases j with
   | zero=>
    have:y=z:=by simpa using hj
    subst this;split at h1
    ·cases h1
    next e=>exact Bool.eq_false_iff.mpr e
   | succ j=>
    have:=h2 j z (by simpa using hj)
    rw[show i+(j+1)=i+1+j by omega]
    exact this
  ·intro h
   exists ?_,fun j z hj=>?_
   ·have:=h 0 y rfl
    rw[Nat.add_zero] at this;rw[aJ (by rw[this];decide)]
   ·have:=h (j+1) z (by simpa using hj)
    rw[show i+1+j=i+(j+1) by omega]
    exact this
theorem zaw{many:Nat}:xR rows bars many names=[] ↔ names.Nodup/\((zH 2 0 rows).isSome=true\/many<=plN rows)/\(∀z∈names,xy rows bars many z=none)/\∀i r,rows[i]?=some r->(uI names r&&!(xi r.k&&decide (i<many)))=false:=by
 unfold xR;rw[append_eq_nil_iff,append_eq_nil_iff,append_eq_nil_iff,zjl,zgB,zhR,qH];constructor
 ·rintro⟨⟨⟨h1,h2⟩,h3⟩,h4⟩
  exact⟨h1,h2,h3,fun i r hi=>by have:=h4 i r hi;rw[Nat.zero_add,zes] at this;exact this⟩
 ·rintro⟨h1,h2,h3,h4⟩
  exact⟨⟨⟨h1,h2⟩,h3⟩,fun i r hi=>by rw[Nat.zero_add,zes];exact h4 i r hi⟩
theorem zhI:∀{rows:List Rw},(∀r∈rows,r.ok)->((rows.map fun r=>V.str (kw r.k)).countP fun z=>eqV z (.str "seat"))+((rows.map fun r=>V.str (kw r.k)).countP fun z=>eqV z (.str "both"))=plN rows
 | [],_=>rfl
 | r::rs,h=>by
  have ih:=zhI (rows:=rs) fun x hx=>h x (mem_cons_of_mem _ hx);have hk:=(h r mem_cons_self).1;have e:∀k:Nat,k<5->(if eqV (.str (kw k)) (.str "seat")=true then 1 else 0)+(if eqV (.str (kw k)) (.str "both")=true then 1 else 0)=(if xi k=true then 1 else 0):=by decide +kernel
  have ek:=e r.k hk;have ep:plN (r::rs)=plN rs+(if xi r.k=true then 1 else 0):=by
   unfold plN;rw[filter_cons];split <;> simp
  rw[map_cons,countP_cons,countP_cons,ep];omega
theorem zhJ{k:Nat}:zht rows k=(zH k 0 rows).isSome:=by rw[jA];rfl
theorem uB{many:Nat}(V1:zcr rows bars):(xy rows bars many z=none) ↔ (z∉bars/\((zO (yx 0 [] rows) (.inr z)=none/\(zH 4 0 rows).isSome=true)\/∃l r,zO (yx 0 [] rows) (.inr z)=some (.int (l:Nat))/\rows[l]?=some r/\yI r.k=true/\¬(r.k=1/\l<many))):=by
 have nd:(nms rows).Nodup:=(List.nodup_append.mp V1.nd).1;unfold xy;by_cases hb:z∈bars
 ·rw[aK hb]
  simp [hb]
 rw[aJ hb];by_cases hk:z∈nms rows
 ·obtain⟨l,r,hl,hbn,he⟩:=zdd hk
  have hv:=uP hbn rows 0 l [] hl nd;rw[he,Nat.zero_add] at hv;have hd:xy.lastD' z rows=some l:=by
   unfold xy.lastD';rw[hv];rfl
  rw[hd];have hp:=zlW V1.ok V1.ord hl;have rok:=V1.ok r (aH hl);have hk1:(l<plN rows) ↔ r.k=1:=by
   have e:∀k:Nat,k<5->yI k=true->(xi k=true ↔ k=1):=by decide +kernel
   rw[<- e r.k rok.1 hbn,hp];exact decide_eq_true_iff.symm
  dsimp only;constructor
  ·intro h
   split at h
   ·cases h
   next hn=>exact⟨hb,.inr ⟨l,r,hv,hl,hbn,fun c=>hn ⟨hk1.mpr c.1,c.2⟩⟩⟩
  ·rintro⟨_,⟨h1,_⟩|⟨l',r',h1,h2,_,h3⟩⟩
   ·rw[hv] at h1;cases h1
   ·rw[hv] at h1
    have:l=l':=by have:=V.int.inj (Option.some.inj h1);omega
    subst this;rw[hl] at h2;cases h2;rw[aJ (fun c=>h3 ⟨hk1.mp c.1,c.2⟩)]
 ·have hv:=vM rows 0 [] hk
  have hv0:zO (yx 0 [] rows) (.inr z)=none:=by rw[hv];rfl
  have hd:xy.lastD' z rows=none:=by
   unfold xy.lastD';rw[hv0]
  rw[hd];dsimp only;constructor
  ·intro h
   split at h
   next e=>exact⟨hb,.inl ⟨hv0,e⟩⟩
   ·cases h
  ·rintro⟨_,⟨_,h2⟩|⟨l',r',h1,_⟩⟩
   ·rw[aK h2]
   ·rw[hv0] at h1;cases h1
theorem zhk{i many:Nat}(hk:r.k<5):(uI names r&&!(xi r.k&&decide (i<many)))=((!(decide (r.k=2)||decide (r.k=4))&&!r.b)&&(!(!decide (r.k=3)&&decide (i<many))&&(decide (r.k=0)||!decide (r.z∈names)))):=by
 unfold uI zds fr
 have:r.k=0\/r.k=1\/r.k=2\/r.k=3\/r.k=4:=by omega
 rcases this with e|e|e|e|e <;> rw[e] <;> cases r.b <;> cases decide (i<many) <;> cases decide (r.z∈names) <;> rfl
inductive zd1(vs:List V)(H:Hp)(Q:VK)(E:XK):Prop|mk(la lb ln:Addr)(many:Nat)(us:List Addr)(rows:List Rw)(bars names:List Str):vs=[.ref la,.ref lb,.int (many:Nat),.ref ln]->H la=some (.lst (us.map V.ref))->Paired (TAt H) us rows->zcr rows bars->H lb=some (.lst (bars.map V.str))->H ln=some (.lst (names.map V.str))->names.length<=800->(∀H',zq H H'->Q (.bl (decide (xR rows bars many names=[]))) H')->zd1 vs H Q E
theorem j0{α : Type}{l:List α}{i:Nat}{x : α}(h:l[i]?=some x):l.take (i+1)=l.take i++[x]:=by
 rw[take_add_one,h];rfl
theorem zgr(h:r.k=0\/r.k=1\/r.k=3):atI (rv r) 2=some (.bl r.b):=by
 obtain⟨k,z,b⟩:=r;rcases h with rfl|rfl|rfl <;> rfl
structure zmw(mg:Str->Option Value):Prop where
 len:mg "len"=none
 set:mg "set"=none
 range:mg "range"=none
theorem zkW:([Str.ofString "_law_one"]:List Str).Nodup:=by decide +kernel
theorem wB:zp ["_law_specs_here","_law_shut","_law_many","_law_names","_law_words","_law_places","_law_told","_law_p","_law_name_here","_law_by_place"] ["_law_specs_here","_law_shut","_law_many","_law_names"] (zi zcZ):=fsc
theorem zg0(F:Fun K "_law_fits" "_law_fits" zcZ f fd)(U:zmw mg):↥1 f fd ["_law_specs_here","_law_shut","_law_many","_law_names"] zd1:=by
 specialize wB;obtain⟨la,lb,ln,many,us,rows,bars,names,rfl,hla,hu,V1,hlb,hln,n8,q⟩:=h;have hu1:=vA hr;have l24:=V1.l24;have hok:=V1.ok;have lu:us.length=rows.length:=hu.length;have no:∀H',zq H H'->¬xR rows bars many names=[]->Q (.bl false) H':=fun H' s h=>by
  have:=q H' s
  rw[aD h] at this;exact this
 refine zr (zal (i:=4) [] ["_law_one"] [none] wB.nd rfl (Or.inl rfl) rfl ⟨rfl,rfl,rfl,rfl⟩ (yb (pv 0)) (yc 0) rfl rfl rfl
   (fun pins fp s H C=>⟨zl (i:=0) zkW rfl (Or.inl rfl) (.inr rfl),yS,zu (r:=q0 K) zL (pv 0) zh (fun _ _=>rfl)⟩)) ?_
 exists _,rfl,la,rfl,⟨_,zc hla⟩,fun D hD=>?_;refine qE (K:=K) TAt (fun _=>true) (fun _ r=>.str (kw r.k)) hD hla hu ∅ (fun i u r H' N S hu' hr' tr sH n1 s1=>?_) (fun H1 s1 e1=>?_)
 ·exact⟨fun _=>⟨_,rfl,u,_,0,_,rfl,rfl,zz (sH _ _ tr),wg (hok r (aH hr')),n1 _ (zq.refl _) rfl⟩,fun e=>Bool.noConfusion e⟩
 rw[zaP hu (fun _=>true) (fun r=>V.str (kw r.k)),List.filter_eq_self.mpr (fun _ _=>rfl)] at e1;have eW:rows.map (fun r=>V.str (kw r.k))=(rows.map fun r=>kw r.k).map V.str:=by rw[map_map];rfl
 have flW:(rows.map (fun r=>V.str (kw r.k))).all yZ=true:=by rw[eW];exact xN
 have wAt:∀{p:Nat}{r:Rw},rows[p]?=some r->atI (rows.map (fun r=>V.str (kw r.k))) (p:Int)=some (.str (kw r.k)):=fun {p r} h=>yF (by rw[getElem?_map,h];rfl)
 exfalso;refine wB[5]'(zN xt (yt PySem.F.plainAttrs_list PySem.F.slot_list_count PySem.F.type_list_count zav (pv 4) (ac zw zb)) (yt PySem.F.plainAttrs_list PySem.F.slot_list_count PySem.F.type_list_count zav (pv 4) (ac zw zb)));exists _,rfl,.inl ⟨rfl,_,zc e1⟩,D,_,_,rfl,rfl,e1,rfl,flW,_,rfl,.inl ⟨rfl,_,zc e1⟩,D,_,_,rfl,rfl,e1,rfl,flW,_,_,rfl,rfl,?_;have cp:=zhI hok;have ec:(((rows.map fun r=>V.str (kw r.k)).countP fun z=>eqV z (.str "seat"):Nat):Int)+(((rows.map fun r=>V.str (kw r.k)).countP fun z=>eqV z (.str "both"):Nat):Int)=((plN rows:Nat):Int):=by omega
 rw[ec];clear ec cp;exfalso;refine zr (zJ (yy (vy (zn wD (cB zfx U.len PySem.boot_len (ac (cTy (zfs rfl) U.set PyProof.Rows.boot_set (ac (pv 3) zb)) zb)) (cB zF U.len PySem.boot_len (ac (pv 3) zb)) (zv _))
    (wx (yy (yz (zn zap (pv 2) (pv 5) (zv _)) (yq (zn yE zw (pv 4) (by with_unfolding_all rfl)))))))) (zd (zt vz)) zx) ?_
 refine xC (fun σ' H'=>σ'=[~~~la,~~~lb,some (.int (many:Nat)),~~~ln,~~~D,some (.int (plN rows:Nat)),none,none,none,none]/\zq H1 H'/\names.Nodup/\((zH 2 0 rows).isSome=true\/many<=plN rows)) ?_ (fun key=>?_);rotate_left
 ·exists _,rfl,ln,names,rfl,zc (s1 _ _ hln),∅,fun l4 n4 hl4=>?_
  have s4:=zg hl4 (zd6 P w l4 (fun z=>decide (z∈names)) n4);exists l4,names,n4,rfl,za,fun hn=>?_;exists _,rfl,ln,_,rfl,.inl (zc ((s1.trans s4) _ _ hln)),_,_,rfl,rfl,_,rfl,?_;have hn':decide (((n4:Nat):Int)<((names.map V.str).length:Nat))=!decide names.Nodup:=by
   rw[aA,<- hn];exact decide_eq_decide.mpr ∅
  by_cases nd:names.Nodup
  rotate_left
  ·refine xE (by rw[hn',aD nd];rfl) ?_
   refine xu ?_;exact no _ (s1.trans s4) fun h=>nd (zaw.mp h).1
  refine yR (by rw[hn',aC nd];rfl) ?_
  exists _,rfl,_,rfl,_,_,rfl,rfl,_,rfl,?_;by_cases hm:plN rows<many
  ·refine dT (by show((plN rows:Nat):Int)<(many:Nat);omega) ?_
   exists _,rfl,D,_,rfl,.inl (zc (s4 _ _ e1)),rfl,flW,_,rfl,?_;have e2:(if true=true then !inV (.str "tail") (rows.map fun r=>V.str (kw r.k)) else inV (.str "tail") (rows.map fun r=>V.str (kw r.k)))=!(zH 2 0 rows).isSome:=by
    rw[aK rfl,eW,xw,show decide (Str.ofString "tail"∈rows.map fun r=>kw r.k)=zht rows 2 from qL (k:=2) ⋯ hok,zhJ]
   cases ht:(zH 2 0 rows).isSome with
   | true=>
    refine yR (by rw[e2,ht];rfl) ?_
    exact key _ _ ⟨rfl,s4,nd,.inl ht⟩
   | false=>
    refine xE (by rw[e2,ht];rfl) ?_
    refine no _ (s1.trans s4) fun h=>?_;rcases (zaw.mp h).2.1 with h|h
    ·rw[ht] at h;cases h
    ·omega
  ·refine dF (by show ¬((plN rows:Nat):Int)<(many:Nat);omega) ?_
   refine yB ?_;exact key _ _ ⟨rfl,s4,nd,.inr ∅⟩
 rintro σ H2 ⟨rfl,s2,nd,tl⟩;have s02:=s1.trans s2;refine wB[6]'vJ;intro sd hsd;have s3:=zg hsd (.dK []);have e3:upd H2 sd (.dK []) sd=some (.dK []):=za;have nsd:H sd=none:=s02.free hsd;have s03:=s02.trans s3;have e1:=(s2.trans s3) _ _ e1;exfalso;generalize upd H2 sd (.dK [])=H3 at s3 e3 s03 e1 |-;have hus3:∀{p:Nat}{r:Rw}{H':Hp},rows[p]?=some r->zq H H'->∃u,atI (us.map V.ref) (p:Int)=some (.ref u)/\SqT K H' u (rv r):=fun {p r H'} hp s=>by
  have hpu:p<us.length:=by rw[lu];exact(List.getElem?_eq_some_iff.mp hp).1
  obtain⟨r',hr',tr⟩:=zU hu (aB hpu);rw[hp] at hr';cases hr';exact⟨us[p],yF (by rw[getElem?_map,aB hpu];rfl),zz (s _ _ tr)⟩
 refine zr (yr PassesOwn.never rfl (yO rfl U.range (ac (cB zF U.len PySem.boot_len (ac (pv 0) zb)) zb)) (zl (i:=7) wB.nd rfl (Or.inl rfl)) zW) ?_;exists _,rfl,la,_,rfl,.inl (zc (s03 _ _ hla)),((rows.length:Nat):Int),(by rw[aA,lu]),∅,∅,?_
 rw[show((rows.length:Nat):Int).toNat=rows.length from rfl];refine xH (n:=rows.length) (fun i σ H'=>∃v7,σ=[~~~la,~~~lb,some (.int (many:Nat)),~~~ln,~~~D,some (.int (plN rows:Nat)),~~~sd,v7,none,none]/\zq H H'/\H' D=some (.lst (rows.map fun r=>V.str (kw r.k)))/\H' sd=some (.dK (yx 0 [] (rows.take i)))) ⟨_,rfl,s03,e1,e3⟩ ?_ ?_
 ·rintro i σ H4 hi ⟨v7,rfl,s4,eD,eS⟩
  rw[Int.zero_add];exfalso;obtain⟨r,hr'⟩:∃r,rows[i]?=some r:=⟨_,aB hi⟩;have rok:=hok r (aH hr');obtain⟨u,au,tu⟩:=hus3 hr' s4;have et:=vN rows 0 i [] hr';rw[Nat.zero_add] at et;exists _,zd (zJ (zn xq (zu zy (pv 4) (pv 7) (fun _ _=>rfl)) (zQ (ac zw (ac zw zb))) (by with_unfolding_all rfl)) (zd (vV hu1 (pv 6) (zu zL (zu zy (pv 0) (pv 7) (fun _ _=>rfl)) zh (fun _ _=>rfl)) (pv 7) rfl)) zx),?_
  exists _,rfl,_,rfl,D,_,_,_,rfl,rfl,zc eD,wAt hr',yL,fun tt htt=>?_;have s5:=zg htt (.tup [.str "both",.str "tag"]);have g5:upd H4 tt (.tup [.str "both",.str "tag"]) tt=some (.tup [.str "both",.str "tag"]):=za;have s05:=s4.trans s5;have eD5:=s5 _ _ eD;have eS5:=s5 _ _ eS;have tu5:=s5.sqT tu;generalize upd H4 tt (.tup [.str "both",.str "tag"])=H5 at s5 g5 s05 eD5 eS5 tu5 |-;exists tt,_,rfl,.inr (zz g5),rfl,rfl,_,rfl,?_;rw[aJ zft,zdt rok.1];cases hb:yI r.k with
  | false=>
   refine yB ?_;rw[hb,aJ zft] at et;exact⟨_,rfl,s05,eD5,by rw[et];exact eS5⟩
  | true=>
   refine xu ?_;rw[hb,aK rfl] at et;exists _,rfl,_,rfl,_,rfl,_,rfl,la,_,_,_,rfl,rfl,zc (s05 _ _ hla),au,u,_,1,_,rfl,rfl,tu5,xY rok,sd,_,rfl,zaf.k (k:=.inr r.z) eS5 (zE (by have:=jm (rows.take i) 0 [];rw[length_take] at this;simp at this;omega)),?_
   refine⟨_,rfl,yw s05 nsd _,by rw[zf (fun e=>by rw[e,eS5] at eD5;cases eD5)];exact eD5,by rw[za,et]⟩
 rintro σ H4 ⟨v7,rfl,s4,eD,eS⟩;rw[take_length] at eS;refine zr (yr PassesOwn.never rfl (yb (pv 3)) (zl (i:=8) wB.nd rfl (Or.inl rfl)) zW) ?_;exists _,rfl,ln,rfl,⟨_,zc (s4 _ _ hln)⟩,yY (K:=K) (a:=ln) (xs:=names.map V.str) (fun i σ H'=>∃v8,σ=[~~~la,~~~lb,some (.int (many:Nat)),~~~ln,~~~D,some (.int (plN rows:Nat)),~~~sd,v7,v8,none]/\zq H4 H'/\∀z∈names.take i,xy rows bars many z=none) ⟨_,rfl,zq.refl _,fun z hz=>by rw[take_zero] at hz;cases hz⟩ (fun i σ H' _ ⟨_,_,s,_⟩=>zc ((s4.trans s) _ _ hln)) ?_ ?_
 ·rintro i x σ H5 hx ⟨v8,rfl,s5,hz5⟩
  obtain⟨z,hz,rfl⟩:=strs_at hx;have hzn:=aH hz;have s05:=s4.trans s5;have eD5:=s5 _ _ eD;have eS5:=s5 _ _ eS;have bad:¬xy rows bars many z=none->¬xR rows bars many names=[]:=fun h e=>h ((zaw.mp e).2.2.1 z hzn);exfalso;have eB:(if true=true then !inV (.str "bag") (rows.map fun r=>V.str (kw r.k)) else inV (.str "bag") (rows.map fun r=>V.str (kw r.k)))=!(zH 4 0 rows).isSome:=by
   rw[aK rfl,eW,xw,show decide (Str.ofString "bag"∈rows.map fun r=>kw r.k)=zht rows 4 from qL (k:=4) ⋯ hok,zhJ]
  refine zr (zJ (yy (vy (zn xq (pv 8) (pv 1) (by with_unfolding_all rfl)) (wx (yy (yz (xL (zan hu1 (pv 8) (pv 6))) (yq (zn yE zw (pv 4) (by with_unfolding_all rfl)))))))) (zd (zt vz)) zx) ?_
  exists _,rfl,_,rfl,lb,_,rfl,.inl (zc (s05 _ _ hlb)),rfl,xN,_,rfl,?_;by_cases hb:z∈bars
  ·refine xE (by rw[aJ zft,xw,aC hb]) ?_
   refine xu ?_;exact no _ s05 (bad fun h=>((uB V1).mp h).1 hb)
  refine yR (by rw[aJ zft,xw,aD hb]) ?_
  exists _,rfl,_,rfl,sd,_,rfl,xP.k (k:=.inr z) eS5,_,rfl,?_;cases hv:zO (yx 0 [] rows) (.inr z) with
  | none=>
   refine xu ?_;exists _,rfl,D,_,rfl,.inl (zc eD5),rfl,flW,_,rfl,?_;cases h4:(zH 4 0 rows).isSome with
   | false=>
    refine xE (by rw[eB,h4];rfl) ?_
    refine no _ s05 (bad fun h=>?_);rcases ((uB V1).mp h).2 with ⟨_,h⟩|⟨l,r,h,_⟩
    ·rw[h4] at h;cases h
    ·rw[hv] at h;cases h
   | true=>
    refine yR (by rw[eB,h4];rfl) ?_
    have hgood:xy rows bars many z=none:=(uB V1).mpr ⟨hb,.inl ⟨hv,h4⟩⟩;exists _,zd (zJ (yy (yz (xL (qr hu1 (pv 8) (pv 6))) (yz (zn ye (zu zy (pv 4) (yT hu1 (pv 6) (pv 8) (fun _ _=>rfl)) (fun _ _=>rfl)) zw (zv _)) (yq (zn wD (yT hu1 (pv 6) (pv 8) (fun _ _=>rfl)) (pv 2) (zv _)))))) (zd (zt vz)) zx),?_;exists _,rfl,_,rfl,sd,_,rfl,xP.k (k:=.inr z) eS5,_,rfl,?_;rw[hv];refine yB ?_;refine yB ?_;exact⟨_,rfl,s5,fun y hy=>by
     rw[j0 hz] at hy;rcases List.mem_append.mp hy with hy|hy
     ·exact hz5 y hy
     ·rw[List.mem_singleton.mp hy];exact hgood⟩
  | some v=>
   refine yB ?_;have nd':(nms rows).Nodup:=(List.nodup_append.mp V1.nd).1;have hk:z∈nms rows:=Classical.byContradiction fun c=>by
    rw[vM rows 0 [] c] at hv;cases hv
   obtain⟨l,r,hl,hbn,he⟩:=zdd hk;have hv2:=uP hbn rows 0 l [] hl nd';rw[he,Nat.zero_add,hv] at hv2;have rok:=hok r (aH hl);exists _,zd (zJ (yy (yz (xL (qr hu1 (pv 8) (pv 6))) (yz (zn ye (zu zy (pv 4) (yT hu1 (pv 6) (pv 8) (fun _ _=>rfl)) (fun _ _=>rfl)) zw (zv _)) (yq (zn wD (yT hu1 (pv 6) (pv 8) (fun _ _=>rfl)) (pv 2) (zv _)))))) (zd (zt vz)) zx),?_;have hv3:v=.int ((l:Nat):Int):=Option.some.inj hv2;subst hv3;have dg:xP H5 sd (.str z) (some (.int (l:Nat))):=by
    have:=xP.k (k:=.inr z) eS5
    rw[hv] at this;exact this
   exists _,rfl,_,rfl,sd,_,rfl,dg,_,rfl,?_;refine xu ?_;exists _,rfl,_,rfl,_,rfl,sd,_,rfl,dg,D,_,_,_,rfl,rfl,zc eD5,wAt hl,rfl,_,rfl,?_;have good:(¬(r.k=1/\l<many))->∀y∈names.take (i+1),xy rows bars many y=none:=fun h y hy=>by
    rw[j0 hz] at hy;rcases List.mem_append.mp hy with hy|hy
    ·exact hz5 y hy
    ·rw[List.mem_singleton.mp hy];exact(uB V1).mpr ⟨hb,.inr ⟨l,r,hv,hl,hbn,h⟩⟩
   have ek:decide (V.str (kw r.k)=V.str "both")=decide (r.k=1):=by
    have e:∀k:Nat,k<5->decide (V.str (kw k)=V.str "both")=decide (k=1):=by decide +kernel
    exact e r.k rok.1
   by_cases h1:r.k=1
   rotate_left
   ·refine yR (by rw[ek,aD h1]) ?_
    refine yB ?_;exact⟨_,rfl,s5,good fun c=>h1 c.1⟩
   refine xE (by rw[ek,aC h1]) ?_
   exists _,rfl,_,rfl,sd,_,rfl,dg,_,rfl,_,_,rfl,rfl,_,rfl,?_;by_cases h2:l<many
   ·refine dT (by show((l:Nat):Int)<(many:Nat);omega) ?_
    refine no _ s05 (bad fun h=>?_);rcases ((uB V1).mp h).2 with ⟨h,_⟩|⟨l',r',h,h',_,h''⟩
    ·rw[hv] at h;cases h
    ·rw[hv] at h
     have:l=l':=by have:=V.int.inj (Option.some.inj h);omega
     subst this;rw[hl] at h';cases h';exact h'' ⟨h1,h2⟩
   ·refine dF (by show ¬((l:Nat):Int)<(many:Nat);omega) ?_
    exact⟨_,rfl,s5,good fun c=>h2 c.2⟩
 rintro σ H5 ⟨v8,rfl,s5,hz5⟩;rw[aA,take_length] at hz5;have s05:=s4.trans s5;have eD5:=s5 _ _ eD;refine zr (yr PassesOwn.never rfl (yO rfl U.range (ac (cB zF U.len PySem.boot_len (ac (pv 0) zb)) zb)) (zl (i:=7) wB.nd rfl (Or.inl rfl)) zW) ?_;exists _,rfl,la,_,rfl,.inl (zc (s05 _ _ hla)),((rows.length:Nat):Int),(by rw[aA,lu]),∅,∅,?_
 rw[show((rows.length:Nat):Int).toNat=rows.length from rfl];refine xH (n:=rows.length) (fun i σ H'=>∃v7 v9,σ=[~~~la,~~~lb,some (.int (many:Nat)),~~~ln,~~~D,some (.int (plN rows:Nat)),~~~sd,v7,v8,v9]/\zq H5 H'/\∀j r,j<i->rows[j]?=some r->(uI names r&&!(xi r.k&&decide (j<many)))=false) ⟨_,_,rfl,zq.refl _,fun j r hj=>absurd hj (not_lt_zero _)⟩ ?_ ?_
 ·rintro i σ H6 hi ⟨v7',v9,rfl,s6,hz6⟩
  rw[Int.zero_add];exfalso;obtain⟨r,hr'⟩:∃r,rows[i]?=some r:=⟨_,aB hi⟩;have rok:=hok r (aH hr');have s06:=s05.trans s6;obtain⟨u,au,tu⟩:=hus3 hr' s06;have eD6:=s6 _ _ eD5;have ll:=zhk (names:=names) (i:=i) (many:=many) rok.1;have bad:(uI names r&&!(xi r.k&&decide (i<many)))=true->¬xR rows bars many names=[]:=fun h e=>by
   have:=(zaw.mp e).2.2.2 i r hr'
   rw[h] at this;cases this
  have good:∀H' v9,zq H5 H'->(uI names r&&!(xi r.k&&decide (i<many)))=false->∃v7 v9',([~~~la,~~~lb,some (.int (many:Nat)),~~~ln,~~~D,some (.int (plN rows:Nat)),~~~sd,some (.int (i:Nat)),v8,v9]:List (Option V))=[~~~la,~~~lb,some (.int (many:Nat)),~~~ln,~~~D,some (.int (plN rows:Nat)),~~~sd,v7,v8,v9']/\zq H5 H'/\∀j r,j<i+1->rows[j]?=some r->(uI names r&&!(xi r.k&&decide (j<many)))=false:=fun H' v9 s h=>⟨_,_,rfl,s,fun j r2 hj hr2=>by
   rcases lt_or_ge j i with c|c
   ·exact hz6 j r2 c hr2
   ·have:j=i:=by omega
    subst this;rw[hr'] at hr2;cases hr2;exact h⟩
  exists _,zd (zJ (yy (yz (zn yE (zu zy (pv 4) (pv 7) (fun _ _=>rfl)) (zQ (ac zw (ac zw zb))) (by with_unfolding_all rfl)) (yq (wL (yA (zu zL (zu zy (pv 0) (pv 7) (fun _ _=>rfl)) zh (fun _ _=>rfl))))))) (zk (zB (i:=9) wB.nd rfl (Or.inl rfl) (zbp (y9 qx (zu zy (pv 4) (pv 7) (fun _ _=>rfl)) zw (zv _)) (zc8 (y9 wD (pv 7) (pv 2) (zv _))))) (zd (zJ (yy (yz (wL (yA (pv 9))) (yq (yy (vy (zn ye (zu zy (pv 4) (pv 7) (fun _ _=>rfl)) zw (zv _)) (wx (zn yE (zu zL (zu zy (pv 0) (pv 7) (fun _ _=>rfl)) zh (fun _ _=>rfl)) (pv 3) (by with_unfolding_all rfl)))))))) (zd (zt vz)) zx))) zx),?_
  exists _,rfl,_,rfl,D,_,_,_,rfl,rfl,zc eD6,wAt hr',yL,fun tt htt=>?_;have s7:=zg htt (.tup [.str "tail",.str "bag"]);have g7:upd H6 tt (.tup [.str "tail",.str "bag"]) tt=some (.tup [.str "tail",.str "bag"]):=za;have s07:=s06.trans s7;have s57:=s6.trans s7;have eD7:=s7 _ _ eD6;have tu7:=s7.sqT tu;generalize upd H6 tt (.tup [.str "tail",.str "bag"])=H7 at s7 g7 s07 s57 eD7 tu7 |-;exists tt,_,rfl,.inr (zz g7),rfl,rfl,_,rfl,?_;have e1':(if true=true then !inV (.str (kw r.k)) [.str "tail",.str "bag"] else inV (.str (kw r.k)) [.str "tail",.str "bag"])=!(decide (r.k=2)||decide (r.k=4)):=by
   have e:∀k:Nat,k<5->(!inV (.str (kw k)) [.str "tail",.str "bag"])=!(decide (k=2)||decide (k=4)):=by decide +kernel
   rw[aK rfl];exact e r.k rok.1
  rw[e1'];clear e1';by_cases hk:(decide (r.k=2)||decide (r.k=4))=true
  ·refine yR (by rw[hk];rfl) ?_
   refine yB ?_;exact good _ _ s57 (by rw[ll,hk];rfl)
  have hk':(decide (r.k=2)||decide (r.k=4))=false:=by simpa using hk
  have hk3:r.k=0\/r.k=1\/r.k=3:=by
   have:=rok.1
   simp only[Bool.or_eq_false_iff,decide_eq_false_iff_not] at hk';omega
  rw[hk'] at ll;refine xE (by rw[hk'];rfl) ?_
  exists _,rfl,_,rfl,la,_,_,_,rfl,rfl,zc (s07 _ _ hla),au,u,_,2,_,rfl,rfl,tu7,zgr hk3,_,rfl,?_;cases hb:r.b with
  | true=>
   refine yB ?_;exact good _ _ s57 (by rw[ll,hb];rfl)
  | false=>
   rw[hb] at ll;refine xu ?_;exists _,rfl,_,rfl,D,_,_,_,rfl,rfl,zc eD7,wAt hr',rfl,_,rfl,?_;have ek3:(!decide (V.str (kw r.k)=V.str "tag"))=!decide (r.k=3):=by
    have e:∀k:Nat,k<5->decide (V.str (kw k)=V.str "tag")=decide (k=3):=by decide +kernel
    rw[e r.k rok.1]
   have ek0:decide (V.str (kw r.k)=V.str "seat")=decide (r.k=0):=by
    have e:∀k:Nat,k<5->decide (V.str (kw k)=V.str "seat")=decide (k=0):=by decide +kernel
    exact e r.k rok.1
   by_cases h3:r.k=3
   ·refine yR (by rw[ek3,aC h3];rfl) ?_
    have hbp:(!decide (r.k=3)&&decide (i<many))=false:=by rw[aC h3];rfl
    exfalso;exists _,rfl,_,rfl,?_;refine xu ?_;exists _,rfl,_,rfl,D,_,_,_,rfl,rfl,zc eD7,wAt hr',rfl,_,rfl,?_;by_cases h0:r.k=0
    ·refine xE (by rw[ek0,aC h0]) ?_
     refine xu ?_;exact no _ s07 (bad (by rw[ll,hbp,aC h0];rfl))
    ·refine yR (by rw[ek0,aD h0]) ?_
     exists _,rfl,_,rfl,la,_,_,_,rfl,rfl,zc (s07 _ _ hla),au,u,_,1,_,rfl,rfl,tu7,xY rok,_,rfl,ln,_,rfl,.inl (zc (s07 _ _ hln)),rfl,xN,_,rfl,?_;by_cases hn:r.z∈names
     ·refine yR (by rw[aK rfl,xw,aC hn];rfl) ?_
      exact good _ _ s57 (by rw[ll,hbp,aD h0,aC hn];rfl)
     ·refine xE (by rw[aK rfl,xw,aD hn];rfl) ?_
      exact no _ s07 (bad (by rw[ll,hbp,aD h0,aD hn];rfl))
   refine xE (by rw[ek3,aD h3];rfl) ?_
   exists _,rfl,_,rfl,_,_,rfl,rfl,?_;by_cases hm:i<many
   ·rw[show decide (((i:Nat):Int)<((many:Nat):Int))=true from aC ∅]
    exfalso;exists _,rfl,_,rfl,?_;refine yB ?_;refine yB ?_;exact good _ _ s57 (by rw[ll,aC hm,aD h3];rfl)
   ·rw[show decide (((i:Nat):Int)<((many:Nat):Int))=false from aD ∅]
    have hbp:(!decide (r.k=3)&&decide (i<many))=false:=by rw[aD hm,Bool.and_false]
    exfalso;exists _,rfl,_,rfl,?_;refine xu ?_;exists _,rfl,_,rfl,D,_,_,_,rfl,rfl,zc eD7,wAt hr',rfl,_,rfl,?_;by_cases h0:r.k=0
    ·refine xE (by rw[ek0,aC h0]) ?_
     refine xu ?_;exact no _ s07 (bad (by rw[ll,hbp,aC h0];rfl))
    ·refine yR (by rw[ek0,aD h0]) ?_
     exists _,rfl,_,rfl,la,_,_,_,rfl,rfl,zc (s07 _ _ hla),au,u,_,1,_,rfl,rfl,tu7,xY rok,_,rfl,ln,_,rfl,.inl (zc (s07 _ _ hln)),rfl,xN,_,rfl,?_;by_cases hn:r.z∈names
     ·refine yR (by rw[aK rfl,xw,aC hn];rfl) ?_
      exact good _ _ s57 (by rw[ll,hbp,aD h0,aC hn];rfl)
     ·refine xE (by rw[aK rfl,xw,aD hn];rfl) ?_
      exact no _ s07 (bad (by rw[ll,hbp,aD h0,aD hn];rfl))
 ·rintro σ H6 ⟨v7',v9,rfl,s6,hz6⟩
  exists _,zd (zt vz),?_
  have:=q H6 (s05.trans s6)
  rw[aC (zaw.mpr ⟨nd,tl,hz5,fun i r hr'=>hz6 i r (List.getElem?_eq_some_iff.mp hr').1 hr'⟩)] at this;exact this
def RAt(H:Hp)(u:Addr)(d:Df):Prop:=H u=some (.tup d.row)
theorem jb(s:zq H H')(h:Paired (RAt H) us ds):Paired (RAt H') us ds:=zm (fun _ _ z=>s _ _ z) h
theorem RAt.upd(h:RAt H u d)(n:u≠a):RAt (L2.upd H a o) u d:=by
 show L2.upd H a o u=_;rw[zf n];exact h
theorem zci{α : Type}{g : α->V}{xs:List α}{n:Nat}:jI (xs.map g) (some (n:Int)) none=(xs.drop n).map g:=by
 unfold jI;rw[HT.zmD,HT.zlR,map_drop];have h:((xs.map g).drop (min n (xs.map g).length)).length<=(xs.map g).length - min n (xs.map g).length:=by rw[length_drop];exact aF _
 rw[take_of_length_le h];by_cases c:n<=(xs.map g).length
 ·rw[Nat.min_eq_left c]
 ·rw[Nat.min_eq_right ∅,List.drop_eq_nil_of_le (aF _),List.drop_eq_nil_of_le ∅]
theorem zhq{tc:TT}{t u:TS}(R:Hp->Prop)(h2:∀H,R H->u D σ H)(h1:(∀H,R H->u D σ H)->zfJ tc t u D σ H):zfJ tc t u D σ H:=h1 h2
theorem zhr{tc:TT}{t u:TS}(R:Hp->Prop)(h2:∀H,R H->t D σ H)(h1:(∀H,R H->t D σ H)->zfJ tc t u D σ H):zfJ tc t u D σ H:=h1 h2
inductive zdT(K:Frag)(vs:List V)(H:Hp)(Q:VK)(E:XK):Prop|mk(la ca:Addr)(ns:List Int)(us:List Addr)(rows:List Rw):vs=[.ref la,.ref ca]->SqL K H ca (ns.map V.int)->H la=some (.lst (us.map V.ref))->Paired (TAt H) us rows->VR rows->(∀(D:Addr) (uts:List Addr) (ds:List Df) (H':Hp),zq H H'->H D=none->H' D=some (.dK (yX (zR rows) uts))->Paired (RAt H') uts ds->Paired (vQ rows) (zR rows) ds->Q (.ref D) H')->zdT K vs H Q E
inductive zfR(K:Frag)(vs:List V)(H:Hp)(Q:VK)(E:XK):Prop|mk(la lk:Addr)(c:Int)(us:List Addr)(rows:List Rw)(zs:List Str):vs=[.ref la,.ref lk,.int c]->H la=some (.lst (us.map V.ref))->Paired (TAt H) us rows->VR rows->H lk=some (.lst (zs.map V.str))->(∀z∈zs,xn z=true)->zs.length<=500->(∀(t ln:Addr) (many:Nat) (names:List Str) (ya:Int) (H':Hp),zq H H'->H' t=some (.tup [.int (many:Nat),.ref ln,.int ya])->H' ln=some (.lst (names.map V.str))->many<=25->names.length<=25->Q (.ref t) H')->zfR K vs H Q E
theorem za3:zp ["_law_specs_here","_law_cells","_law_told","_law_p"] ["_law_specs_here","_law_cells"] (zi zcN):=fsc
theorem zgP(F:Fun K "_law_tolds" "_law_tolds" zcN f fd)(cLo:⇑2 "_law_loose" g1 d1 ["_law_specs_here"] jJ)(cDr:⇑5 "_law_drawn" g2 d2 ["_law_cell","_law_specs_here","_law_p"] zd4)(cN:⇑1 "_law_nth" g3 d3 ["_law_script","_law_k"] (zaU K)):↥6 f fd ["_law_specs_here","_law_cells"] (zdT K):=by
 specialize za3;obtain⟨la,ca,ns,us,rows,rfl,hS,hla,hus,V1,q⟩:=h;have hr1:yg 1 _:=hr.mono ⋯
 have hr2:yg 2 _:=hr.mono ⋯
 have hr5:yg 5 _:=hr.mono ⋯
 have hu:=vA hr;have l24:=V1.l24;have lf:(zR rows).length<=24:=le_trans (length_filter_le _ _) (by rw[length_range];exact l24)
 refine za3[2]'vJ;intro Dt hDt;exfalso
 injections Dt hDt H1 s1 g1
 refine zr (yr PassesOwn.never rfl (yb (cF cLo hr2 (ac (pv 0) zb))) (zl (i:=3) za3.nd rfl (Or.inl rfl)) zW) ?_;exists _,rfl,la,us,rows,rfl,s1 _ _ hla,z8 s1 hus,V1,fun ll H2 s2 nll hll=>?_;have nlD:ll≠Dt:=fun e=>by rw[e,g1] at nll;cases nll
 refine⟨ll,rfl,⟨_,zc hll⟩,yY (K:=K) (a:=ll) (xs:=(zR rows).map fun n=>V.int (n:Nat)) (fun i σ H'=>∃(v3:Option V) (uts:List Addr) (ds:List Df),σ=[~~~la,~~~ca,~~~Dt,v3]/\zq H H'/\H' ll=some (.lst ((zR rows).map fun n=>V.int (n:Nat)))/\H' Dt=some (.dK (yX (zR rows) uts))/\uts.length=i/\Paired (RAt H') uts ds/\Paired (vQ rows) ((zR rows).take i) ds)
  ⟨_,[],[],rfl,s1.trans s2,hll,(by cases h:zR rows <;> exact s2 _ _ g1),rfl,.nil,.nil⟩ (fun i σ H' _ ⟨_,_,_,_,_,e,_⟩=>zc e) ?_ ?_⟩
 ·rintro i y σ H3 hy ⟨v3,uts,ds,rfl,s3,hl3,hD3,lut,pr,pg⟩
  obtain⟨j,hj,rfl⟩:=uN hy;have hjm:=aH hj;have hjl:j<rows.length:=List.mem_range.mp (List.mem_filter.mp hjm).1;have hil:i<(zR rows).length:=(List.getElem?_eq_some_iff.mp hj).1;exfalso;exists _,zd (vV hu (pv 2) (pv 3) (cF cDr hr5 (ac (cF cN hr1 (ac (pv 1) (ac (pv 3) zb))) (ac (pv 0) (ac (pv 3) zb)))) rfl),?_;exists _,rfl,_,rfl,ca,ns,j,rfl,s3.seq hS,fun cn=>?_;exists _,rfl,_,rfl,cn,la,j,us,rows,rfl,s3 _ _ hla,z8 s3 hus,V1,∅,fun u d H4 s4 nu hud gd=>?_
  exists _,rfl,_,rfl,Dt,_,rfl,zaf.k (k:=Sum.inl (j:Int)) (s4 _ _ hD3) (zE (by rw[qA ∅];omega)),?_
  rw[qz (xB rows) (by rw[lut];exact hj)]
  have hD4:=s4 _ _ hD3;have nDt:∀v e,RAt H4 v e->v≠Dt:=fun v e r z=>by rw[z] at r;rw[RAt,hD4] at r;cases r
  exists _,uts++[u],ds++[d],rfl,yw (s3.trans s4) hDt _,by rw[zf nlD];exact s4 _ _ hl3,za,by rw[aG,lut];rfl,?_,?_
  ·exact yJ (zm (fun _ _ z=>RAt.upd (s4 _ _ z) (nDt _ _ (s4 _ _ z))) pr) (.cons (RAt.upd hud (nDt _ _ hud)) .nil)
  ·rw[take_add_one,hj]
   exact yJ pg (.cons gd .nil)
 rintro σ H3 ⟨v3,uts,ds,rfl,s3,_,hD3,lut,pr,pg⟩;rw[aA] at pg;rw[take_length] at pg;exact⟨_,zd (zt (pv 2)),_,rfl,q Dt uts ds H3 s3 hDt hD3 pr pg⟩
theorem wu:zp ["_law_specs_here","_law_known","_law_cell","_law_told","_law_rest","_law_names","_law_p","_law_bit","_law_word","_law_name_here"] ["_law_specs_here","_law_known","_law_cell"] (zi zbg):=fsc
theorem ze4(F:Fun K "_law_shape" "_law_shape" zbg f fd)(T:uz mg)(cT:⇑3 "_law_take" g1 d1 ["_law_cell","_law_sizes"] (uX K))(cN:⇑4 "_law_name" g2 d2 ["_law_cell","_law_known"] (zaW K)):↥5 f fd ["_law_specs_here","_law_known","_law_cell"] (zfR K):=by
 specialize wu;obtain⟨la,lk,cc,us,rows,zs,rfl,hla,hu,V1,hlk,hz,lz,q⟩:=h;have hr3:yg 3 _:=hr.mono ⋯
 have hr4:yg 4 _:=hr.mono ⋯
 have l24:=V1.l24;have lu:us.length=rows.length:=hu.length;have row:∀{i:Nat},i<rows.length->∃u r,us[i]?=some u/\rows[i]?=some r/\TAt H u r/\r.ok:=fun {i} hi=>by
  have e:us[i]?=some us[i]:=aB ∅
  obtain⟨r,hr',tr⟩:=zU hu e;exact⟨_,r,e,hr',tr,V1.ok r (aH hr')⟩
 have uat:∀{i:Nat}{u:Addr},us[i]?=some u->atI (us.map V.ref) (i:Int)=some (.ref u):=fun e=>yF (by rw[getElem?_map,e];rfl)
 refine zr (y8 (cF cT hr3 (ac (pv 2) (ac (zZ (ac (zN xt (cB zF T.len PySem.boot_len (ac (pv 0) zb)) zh) (ac zh (ac zh zb)))) zb))) (yi rfl (zo (zl (i:=3) wu.nd rfl (Or.inl rfl)) (zo (zl (i:=4) wu.nd rfl (Or.inl rfl)) zT)))) ?_;exists _,rfl,_,rfl,la,_,rfl,.inl (zc hla),_,_,rfl,rfl,za0,fun l1 hl1=>?_;rw[show(((us.map V.ref).length:Nat):Int)+2=((rows.length+2:Nat):Int) by rw[aA,lu];rfl]
 have s1:=zg hl1 (.lst [.int ((rows.length+2:Nat):Int),.int 3,.int 6]);exists cc,l1,[rows.length+2,3,6],rfl,zc za,(fun d hd=>by simp at hd;omega),.inl (fun d hd=>by simp at hd;omega),by simp,fun t lf fs ya H2 s2 nlf ht hlf lfs hfs=>?_
 obtain⟨f0,f1,f2,rfl⟩:=zbI lfs;have b0:f0<rows.length+2:=hfs 0 (by simp)
 exists t,_,rfl,zz ht,rfl,_,_,rfl,_,_,rfl,rfl,?_;exfalso;have s02:=s1.trans s2;have hlf:H2 lf=some (.lst [.int (f0:Nat),.int (f1:Nat),.int (f2:Nat)]):=hlf;clear s1 s2 ht hfs;refine wu[5]'(zZ zb);exists x8,fun ln hln=>?_;exfalso
 injections ln hln H3 s3 g3
 refine zr (yr PassesOwn.never rfl (yO rfl T.range (ac (cB zF T.len PySem.boot_len (ac (pv 0) zb)) zb)) (zl (i:=6) wu.nd rfl (Or.inl rfl)) zW) ?_;exists _,rfl,la,_,rfl,.inl (zc (s3 _ _ (s02 _ _ hla))),((rows.length:Nat):Int),(by rw[aA,lu]),∅,∅,?_
 rw[show((rows.length:Nat):Int).toNat=rows.length from rfl];refine xH (n:=rows.length) (fun i σ H'=>∃(v6 v7 v8:Option V) (ya:Int) (ys:List Str),σ=[~~~la,~~~lk,some (.int cc),~~~lf,some (.int ya),~~~ln,v6,v7,v8,none]/\zq H2 H'/\H' ln=some (.lst (ys.map V.str))/\ys.length<=i) ⟨_,_,_,ya,[],rfl,s3,g3,aF _⟩ ?_ ?_
 ·rintro i σ H4 hi ⟨v6,v7,v8,ya,ys,rfl,s4,g4,ly⟩
  rw[Int.zero_add];obtain⟨u,r,eu,er,tr,rk⟩:=row hi;exfalso;refine zr (y8 (cF cT hr3 (ac (pv 4) (ac (zZ (ac zh zb)) zb))) (yi rfl (zo (zl (i:=7) wu.nd rfl (Or.inl rfl)) (zo (zl (i:=4) wu.nd rfl (Or.inl rfl)) zT)))) ?_;exists _,rfl,za1,fun l5 hl5=>?_;have s5:=zg hl5 (.lst [.int 2]);exists ya,l5,[2],rfl,zc za,⋯,.inl ⋯,⋯,fun t lb fs rest' H6 s6 nlb ht hlb lfs hfs=>?_
  obtain⟨b,rfl⟩:=zgK lfs;exists t,_,rfl,zz ht,rfl,_,_,rfl,_,_,rfl,rfl,?_;exfalso;have hlb:H6 lb=some (.lst [.int (b:Nat)]):=hlb;have g6:=(s5.trans s6) _ _ g4;have s26:=s4.trans (s5.trans s6);have s06:=s02.trans s26;clear s5 s6 s4 g4 ht hfs;refine wu[8]'(zu zL (zu zy (pv 0) (pv 6) (fun _ _=>rfl)) zh (fun _ _=>rfl));exists _,rfl,_,rfl,la,_,_,.ref u,rfl,rfl,zc (s06 _ _ hla),uat eu,u,_,0,_,rfl,rfl,zz (s06 _ _ tr),wg rk,?_;exfalso;have stay:∃(v6 v7 v8:Option V) (ya:Int) (ys:List Str),([~~~la,~~~lk,some (.int cc),~~~lf,some (.int rest'),~~~ln,some (.int (i:Nat)),~~~lb,some (.str (kw r.k)),none]:L2.St)=[~~~la,~~~lk,some (.int cc),~~~lf,some (.int ya),~~~ln,v6,v7,v8,none]/\zq H2 H6/\H6 ln=some (.lst (ys.map V.str))/\ys.length<=i+1:=⟨_,_,_,_,ys,rfl,s26,g6,le_succ_of_le ly⟩;exists _,zd (zJ (yy (vy (zn ye (pv 8) zw (zv _)) (wx (yy (yz (zn ye (pv 8) zw (zv _)) (yq (zn zl0 (pv 6) (zu zy (pv 3) zh (fun _ _=>rfl)) (zv _)))))))) zW zx),?_;refine zhr (fun H'=>H6=H'/\yI r.k=true) ?_ (fun key=>?_);rotate_left
  ·have e3:decide (V.str (kw r.k)=V.str "tag")=decide (r.k=3):=by rcases lt5 rk.1 with e|e|e|e|e <;> rw[e] <;> decide +kernel
   have e1:decide (V.str (kw r.k)=V.str "both")=decide (r.k=1):=by rcases lt5 rk.1 with e|e|e|e|e <;> rw[e] <;> decide +kernel
   exists _,rfl,rfl,_,rfl,?_;by_cases h3:r.k=3
   ·refine xE (by rw[e3,aC h3]) ?_
    refine xu ?_;exact key _ ⟨rfl,by rw[h3];rfl⟩
   refine yR (by rw[e3,aD h3]) ?_
   exists _,rfl,rfl,_,rfl,?_;by_cases h1:r.k=1
   rotate_left
   ·refine yR (by rw[e1,aD h1]) ?_
    refine yB ?_;exact stay
   refine xE (by rw[e1,aC h1]) ?_
   exists _,rfl,_,rfl,lf,_,0,.int (f0:Nat),rfl,rfl,zc (s26 _ _ hlf),rfl,_,_,rfl,rfl,_,rfl,?_;refine vE (fun _=>?_) (fun _=>stay);exact key _ ⟨rfl,by rw[h1];rfl⟩
  rintro _ ⟨rfl,hb⟩;have ho:xm r.k=true:=by
   unfold yI at hb;simp only[Bool.or_eq_true,beq_iff_eq] at hb;rcases hb with e|e <;> rw[e] <;> rfl
  exists _,zd (zJ (yy (vy (wL (yA (zu zL (zu zy (pv 0) (pv 6) (fun _ _=>rfl)) zh (fun _ _=>rfl)))) (wx (zn ye (zu zy (pv 7) zh (fun _ _=>rfl)) zh (zv _))))) (zd (zG (yt PySem.F.plainAttrs_list PySem.F.slot_list_append PySem.F.type_list_append zK (pv 5) (ac (zu zL (zu zy (pv 0) (pv 6) (fun _ _=>rfl)) zh (fun _ _=>rfl)) zb)))) zx),?_;refine zhr (fun H'=>H6=H') ?_ (fun key=>?_);rotate_left
  ·exists _,rfl,_,rfl,la,_,_,.ref u,rfl,rfl,zc (s06 _ _ hla),uat eu,u,_,2,_,rfl,rfl,zz (s06 _ _ tr),zec ho,_,rfl,?_
   cases r.b with
   | false=>exact xu (xu (key _ rfl))
   | true=>
    refine yB ?_;exists _,rfl,lb,_,0,.int (b:Nat),rfl,rfl,zc hlb,rfl,rfl,_,rfl,?_;exact vE (fun _=>key _ rfl) (fun _=>stay)
  rintro _ rfl;exists _,rfl,.inl ⟨rfl,_,zc g6⟩,_,rfl,_,rfl,la,_,_,.ref u,rfl,rfl,zc (s06 _ _ hla),uat eu,u,_,1,_,rfl,rfl,zz (s06 _ _ tr),xY rk,ln,_,_,rfl,rfl,g6,zE (by rw[aA];omega),?_
  exact⟨_,_,_,_,ys++[r.z],rfl,yw s26 hln _,by rw[za,aE];rfl,by rw[aG];exact Nat.succ_le_succ ly⟩
 rintro σ H4 ⟨v6,v7,v8,ya,ys,rfl,s4,g4,ly⟩;have hlf4:=s4 _ _ hlf;refine zr (zJ (zn ye (zu zy (pv 3) zh (fun _ _=>rfl)) zh (zv _)) zW zx) ?_;refine xC (fun σ' H'=>∃(v9:Option V) (ya:Int) (ys:List Str),σ'=[~~~la,~~~lk,some (.int cc),~~~lf,some (.int ya),~~~ln,v6,v7,v8,v9]/\zq H2 H'/\H' ln=some (.lst (ys.map V.str))/\ys.length<=25) ?_ (fun key=>?_);rotate_left
 ·exists _,rfl,lf,_,1,.int (f1:Nat),rfl,rfl,zc hlf4,rfl,rfl,_,rfl,?_
  refine vE (fun _=>?_) (fun _=>key _ _ ⟨_,ya,ys,rfl,s4,g4,∅⟩)
  refine zr (y8 (cF cN hr4 (ac (pv 4) (ac (pv 1) zb))) (yi rfl (zo (zl (i:=9) wu.nd rfl (Or.inl rfl)) (zo (zl (i:=4) wu.nd rfl (Or.inl rfl)) zT)))) ?_;exists _,rfl,_,rfl,ya,lk,zs,rfl,s4 _ _ (s02 _ _ hlk),hz,lz,fun t z rest' H5 s5 ht hzz=>?_;exists t,_,rfl,zz ht,rfl,_,_,rfl,_,_,rfl,rfl,?_;exfalso;have g5:=s5 _ _ g4;exists _,zd (zG (yt PySem.F.plainAttrs_list PySem.F.slot_list_append PySem.F.type_list_append zK (pv 5) (ac (pv 9) zb))),?_;exists _,rfl,.inl ⟨rfl,_,zc g5⟩,_,rfl,ln,_,_,rfl,rfl,g5,zE (by rw[aA];omega),?_
  exact key _ _ ⟨_,rest',ys++[z],rfl,yw (s4.trans s5) hln _,by rw[za,aE];rfl,by rw[aG];show ys.length+1<=25;omega⟩
 clear g4 ly s4 hlf4;rintro σ H4 ⟨v9,ya,ys,rfl,s4,g4,ly⟩;have hlf4:=s4 _ _ hlf;refine zr (zJ (zn ye (zu zy (pv 3) zh (fun _ _=>rfl)) zh (zv _)) (zd (zB (i:=5) wu.nd rfl (Or.inl rfl) (wX vS (pv 5) (xZ zh) zee))) zx) ?_;refine xC (fun σ' H'=>∃(ln:Addr) (ys:List Str),σ'=[~~~la,~~~lk,some (.int cc),~~~lf,some (.int ya),~~~ln,v6,v7,v8,v9]/\zq H2 H'/\H' ln=some (.lst (ys.map V.str))/\ys.length<=25) ?_ (fun key=>?_);rotate_left
 ·exists _,rfl,lf,_,2,.int (f2:Nat),rfl,rfl,zc hlf4,rfl,rfl,_,rfl,?_
  refine vE (fun _=>?_) (fun _=>key _ _ ⟨ln,ys,rfl,s4,g4,∅⟩)
  exists _,rfl,_,rfl,ln,_,rfl,zc g4,fun l5 hl5=>?_;refine key _ _ ⟨l5,ys.drop 1,rfl,s4.trans (zg hl5 _),?_,by rw[length_drop];omega⟩
  rw[za,show(1:Int)=((1:Nat):Int) from rfl,zci]
 rintro σ H5 ⟨ln,ys,rfl,s5,g5,ly⟩;exists _,zd (zt (zQ (ac (zu zy (pv 3) zh (fun _ _=>rfl)) (ac (pv 5) (ac (pv 4) zb))))),?_;exists _,rfl,lf,_,0,.int (f0:Nat),rfl,rfl,zc (s5 _ _ hlf),rfl,_,rfl,_,rfl,za0,fun t ht=>?_;have s6:=zg ht (.tup [.int (f0:Nat),.ref ln,.int ya]);exact q t ln f0 ys ya _ (s02.trans (s5.trans s6)) za (s6 _ _ g5) ∅ ly
def jD:Nat->List Str->List (Str×Nat)
 | _,[]=>[]
 | i,z::zs=>(z,i)::jD (i+1) zs
theorem uO:∀(zs:List Str) (i:Nat) (acc:List (Str×Nat)),zs.Nodup->(∀p∈acc,p.1∉zs)->fpF i acc zs=acc++jD i zs
 | [],_,acc,_,_=>(append_nil acc).symm
 | z::zs,i,acc,nd,h=>by
  obtain⟨n1,n2⟩:=List.nodup_cons.mp nd;show fpF (i+1) (if (acc.any fun p=>decide (p.1=z))=true then acc else acc++[(z,i)]) zs=_
  rw[aJ,uO zs (i+1) _ n2,append_assoc]
  ·rfl
  ·intro p hp
   rcases List.mem_append.mp hp with hp|hp
   ·exact fun e=>h p hp (mem_cons_of_mem _ e)
   ·rw[List.mem_singleton.mp hp];exact n1
  ·intro e
   obtain⟨p,hp,he⟩:=List.any_eq_true.mp e;exact h p hp (by rw[of_decide_eq_true he];exact mem_cons_self)
theorem uU{z:Str}:∀{ps:List (Str×Int)}{i:Nat},match ps.find? (fun p=>decide (p.1=z)) with
  | some p=>∃j,(jD i (ps.map (·.1))).find? (fun p=>decide (p.1=z))=some (z,i+j)/\ps[j]?=some p
  | none=>(jD i (ps.map (·.1))).find? (fun p=>decide (p.1=z))=none
 | [],_=>rfl
 | p::ps,i=>by
  rw[map_cons];show match (p::ps).find? _ with|some q=>∃j,((p.1,i)::jD (i+1) (ps.map (·.1))).find? _=_/\_|none=>((p.1,i)::jD (i+1) (ps.map (·.1))).find? _=none
  rw[find?_cons,find?_cons];by_cases e:p.1=z
  ·rw[aC e]
   exact⟨0,by rw[e];rfl,rfl⟩
  ·rw[aD e]
   have ih:=uU (z:=z) (ps:=ps) (i:=i+1);dsimp only;cases h:ps.find? fun p=>decide (p.1=z) with
   | none=>rw[h] at ih;exact ih
   | some q=>
    rw[h] at ih;obtain⟨j,h1,h2⟩:=ih;exact⟨j+1,by rw[h1,Nat.add_right_comm];rfl,h2⟩
theorem zbE(k:Str->Bool)(F:Nat->Str×Int):∀(ps:List (Str×Int)) (i:Nat),(∀j p,ps[j]?=some p->F (i+j)=p)->(((jD i (ps.map (·.1))).filter fun p=>k p.1).map (·.2)).map F=ps.filter fun p=>k p.1
 | [],_,_=>rfl
 | p::ps,i,h=>by
  have ih:=zbE k F ps (i+1) (fun j q hj=>by have:=h (j+1) q (by simpa using hj);rw[<- this];congr 1;omega)
  rw[map_cons];show(((((p.1,i)::jD (i+1) (ps.map (·.1))).filter fun p=>k p.1).map (·.2)).map F)=_;rw[filter_cons,filter_cons];dsimp only;cases k p.1 with
  | false=>exact ih
  | true=>
   show F i::_=p::_;rw[show F i=p from h 0 p rfl]
   congr 1
theorem zei{i kk:Nat}(V1:VR rows)(hr:rows[i]?=some r)(hk:kk=2\/kk=4)(e:r.k=kk):zH kk 0 rows=some i:=by
 rw[jl rows 0 i _ hr e (fun j r2 hj e1 e2=>by
  have:=qu rows 0 j i r2 _ V1.ord hj e1 hr
  rw[e2,e] at this;rcases hk with rfl|rfl <;> exact absurd this ⋯),Nat.zero_add]
theorem uu{i kk:Nat}(hr:rows[i]?=some r)(e:r.k≠kk):zH kk 0 rows≠some i:=fun h=>by
 obtain⟨r',_,h1,h2⟩:=ua rows 0 i h;rw[sub_zero,hr] at h1;cases h1;exact e h2
theorem zio{i:Nat}(V1:VR rows)(hr:rows[i]?=some r)(e:r.k=2):plN rows=i:=by
 have hi:i<rows.length:=(List.getElem?_eq_some_iff.mp hr).1;have k5:∀{j:Nat}{x:Rw},rows[j]?=some x->x.k<5:=fun h=>(V1.ok _ (aH h)).1;have a1:(rows.take i).filter (fun r=>xi r.k)=rows.take i:=List.filter_eq_self.mpr fun x hx=>by
  obtain⟨j,hj,ej⟩:=List.mem_take_iff_getElem.mp hx;have e1:rows[j]?=some x:=by rw[aB ∅,ej]
  have:=qu rows 0 j i x r V1.ord ∅ e1 hr
  rw[e] at this;rcases lt5 (k5 e1) with z|z|z|z|z <;> rw[z] at this |- <;> first|rfl|exact absurd this ⋯
 have a2:(rows.drop i).filter (fun r=>xi r.k)=[]:=List.filter_eq_nil_iff.mpr fun x hx h=>by
  obtain⟨j,hj,ej⟩:=List.mem_drop_iff_getElem.mp hx;have e1:rows[i+j]?=some x:=by rw[aB ∅,ej]
  rcases Nat.eq_zero_or_pos j with z|z
  ·rw[z,Nat.add_zero,hr] at e1
   cases e1;rw[e] at h;cases h
  ·have:=qu rows 0 i (i+j) r x V1.ord ∅ hr e1
   rw[e] at this;rcases lt5 (k5 e1) with z|z|z|z|z <;> rw[z] at this h <;> first|exact absurd this ⋯|cases h
 unfold plN;rw[<- take_append_drop i rows,filter_append,a1,a2,append_nil,length_take];omega
variable {rows:List Rw}{ts:List Int}{ps:List (Str×Int)}{i:Nat}
theorem zjh(V1:VR rows)(hr:rows[i]?=some r)(e:r.k=2):zaq ts ps (enE rows ts.length (fpZ (ps.map (·.1))) i)=.lst ((ts.drop i).map Dt.int)/\enE rows ts.length (fpZ (ps.map (·.1))) i≠.free:=by
 have e1:=zei V1 hr (.inl rfl) e;unfold enE;rw[aK e1,zio V1 hr e];exists ?_,fun h=>nomatch h;show Dt.lst _=_
 congr 2
 unfold L2.xf;rw[map_map];refine ext_getElem (by simp) fun j h1 h2=>?_
 simp at h1 h2;simp;rw[aB ∅]
 rfl
theorem ziZ(V1:VR rows):vo rows p=!decide (p.1∈nms rows):=by
 unfold vo;by_cases h:p.1∈nms rows
 ·rw[aC h]
  obtain⟨l,r,hl,hb,e⟩:=zdd h
  have:=uP hb rows 0 l [] hl V1.nd
  rw[e] at this;rw[this];rfl
 ·rw[aD h,vM rows 0 [] h]
  rfl
theorem zlb(V1:VR rows)(nd:(ps.map (·.1)).Nodup)(hr:rows[i]?=some r)(e:r.k=4):zaq ts ps (enE rows ts.length (fpZ (ps.map (·.1))) i)=.lst ((ps.filter fun p=>!decide (p.1∈nms rows)).map yP)/\enE rows ts.length (fpZ (ps.map (·.1))) i≠.free:=by
 have e1:=zei V1 hr (.inr rfl) e;unfold enE;rw[aJ (uu hr (by rw[e];decide)),aK e1]
 exists ?_,fun h=>nomatch h;show Dt.lst _=_
 congr 2
 rw[show fpZ (ps.map (·.1))=jD 0 (ps.map (·.1)) from uO _ 0 [] nd (fun _ h=>nomatch h)];unfold uo;rw[show vo rows=fun p=>!decide (p.1∈nms rows) from funext fun p=>ziZ V1];rw[<- zbE (fun z=>!decide (z∈nms rows)) (fun n=>ps.getD n ("",0)) ps 0 (fun j p h=>by rw[Nat.zero_add,getD_eq_getElem?_getD,h];rfl),map_map,map_map,map_map]
 rfl
theorem zmp(hr:rows[i]?=some r)(e:xi r.k=true)(hm:i<ts.length):enE rows ts.length (fpZ (ps.map (·.1))) i=.place i:=by
 unfold enE;rw[aJ (uu hr (fun z=>by rw[z] at e;cases e)),aJ (uu hr (fun z=>by rw[z] at e;cases e)),hr]
 exact aK ⟨e,hm⟩
theorem zmq(nd:(ps.map (·.1)).Nodup)(hr:rows[i]?=some r)(e:yI r.k=true)(hm:¬(xi r.k=true/\i<ts.length))(hp:ps.find? (fun p=>decide (p.1=r.z))=some p):∃j,enE rows ts.length (fpZ (ps.map (·.1))) i=.name j/\ps.getD j ("",0)=p:=by
 have h:=uU (z:=r.z) (ps:=ps) (i:=0);rw[hp] at h;obtain⟨j,h1,h2⟩:=h;refine⟨0+j,?_,by rw[Nat.zero_add,getD_eq_getElem?_getD,h2];rfl⟩
 unfold enE;rw[aJ (uu hr (fun z=>by rw[z] at e;cases e)),aJ (uu hr (fun z=>by rw[z] at e;cases e)),hr]
 dsimp only;rw[aJ hm,show fpZ (ps.map (·.1))=jD 0 (ps.map (·.1)) from uO _ 0 [] nd (fun _ h=>nomatch h),h1];exact aK e
theorem zjO(nd:(ps.map (·.1)).Nodup)(hr:rows[i]?=some r)(e:xm r.k=true)(hm:¬(xi r.k=true/\i<ts.length))(hn:yI r.k=true->ps.find? (fun p=>decide (p.1=r.z))=none):enE rows ts.length (fpZ (ps.map (·.1))) i=.free:=by
 unfold enE;rw[aJ (uu hr (fun z=>by rw[z] at e;cases e)),aJ (uu hr (fun z=>by rw[z] at e;cases e)),hr]
 dsimp only;rw[aJ hm,show fpZ (ps.map (·.1))=jD 0 (ps.map (·.1)) from uO _ 0 [] nd (fun _ h=>nomatch h)];have h:=uU (z:=r.z) (ps:=ps) (i:=0);cases hb:yI r.k with
 | false=>
  cases (jD 0 (ps.map (·.1))).find? fun p=>decide (p.1=r.z) with
  | none=>rfl
  | some p=>exact aJ zft
 | true=>
  rw[hn hb] at h;rw[h]
def kvT(ps:List (Str×Int)):List (Key×V):=ps.map fun p=>(.inr p.1,.int p.2)
theorem zhm(ps:List (Str×Int))(z:Str):zO (kvT ps) (.inr z)=(ps.find? fun p=>decide (p.1=z)).map fun p=>V.int p.2:=by
 induction ps with
 | nil=>rfl
 | cons p fp ih=>
  by_cases e:p.1=z
  ·rw[find?_cons,aC e]
   exact yC (p:=((Sum.inr p.1:Key),V.int p.2)) (r:=kvT fp) (by rw[e])
  ·rw[find?_cons,aD e]
   have h:zO (kvT (p::fp)) (.inr z)=zO (kvT fp) (.inr z):=yv (p:=((Sum.inr p.1:Key),V.int p.2)) (r:=kvT fp) (fun q=>e (Sum.inr.inj q));rw[h,ih]
theorem zi5{n:Int}(h:z∉ps.map (·.1)):yK (kvT ps) (.inr z) (.int n)=kvT (ps++[(z,n)]):=by
 unfold yK;rw[aJ]
 ·unfold kvT;rw[aE];rfl
 ·intro e
  obtain⟨p,hp,he⟩:=List.any_eq_true.mp e;obtain⟨q,hq,rfl⟩:=List.mem_map.mp hp;exact h (List.mem_map.mpr ⟨q,hq,Sum.inr.inj (of_decide_eq_true he)⟩)
theorem uD:∀(n:Int) (ds:List Df),∀d∈xr n ds,d.k≠1
 | _,[],d,h=>nomatch h
 | n,.once::ds,d,h=>by
  rcases List.mem_cons.mp h with h|h
  ·rw[h];exact fun e=>nomatch e
  ·exact uD _ ds d h
 | n,.told _::ds,d,h=>by
  rcases List.mem_cons.mp h with h|h
  ·rw[h];exact fun e=>nomatch e
  ·exact uD _ ds d h
 | n,.anew::ds,d,h=>by
  rcases List.mem_cons.mp h with h|h
  ·rw[h];exact fun e=>nomatch e
  ·exact uD _ ds d h
 | n,.sum _ _ _::ds,d,h=>by
  rcases List.mem_cons.mp h with h|h
  ·rw[h];exact fun e=>nomatch e
  ·exact uD _ ds d h
theorem wS{rows:List Rw}:∀{ns:List Nat}{ds:List Df}(n:Int),Paired (vQ rows) ns ds->Paired (vQ rows) ns (xr n ds)
 | _,_,_,.nil=>.nil
 | _,.once::_,n,.cons h t=>.cons trivial (wS _ t)
 | _,.told _::_,n,.cons h t=>.cons h (wS _ t)
 | _,.anew::_,n,.cons h t=>.cons h (wS _ t)
 | _,.sum _ _ _::_,n,.cons h t=>.cons h (wS _ t)
theorem zb1:∀{ns:List Nat}{us:List Addr}{i j:Nat}{x:Addr},ns.Nodup->ns[i]?=some j->i<us.length->(yX ns us).map (fun kv=>if kv.1=(Sum.inl (j:Int):Key) then (kv.1,V.ref x) else kv)=yX ns (us.set i x)
 | [],_,_,_,_,_,h,_=>by simp at h
 | _::_,[],_,_,_,_,_,h=>absurd h (not_lt_zero _)
 | n::ns,u::us,0,j,x,nd,h,_=>by
  cases h;obtain⟨n1,_⟩:=List.nodup_cons.mp nd;show _::(yX ns us).map _=_::yX ns us
  congr 1
  ·exact aK rfl
  ·conv=>rhs;rw[<- List.map_id (yX ns us)]
   refine List.map_congr_left fun p hp=>?_;obtain⟨m,hm,e⟩:=jd p hp;rw[aJ]
   ·rfl
   ·rw[e]
    intro z
    have:(m:Int)=(n:Int):=Sum.inl.inj z
    exact n1 (by rw[<- show m=n by omega];exact List.mem_of_mem_take hm)
 | n::ns,u::us,i+1,j,x,nd,h,hl=>by
  obtain⟨n1,n2⟩:=List.nodup_cons.mp nd;have h:ns[i]?=some j:=h;show _::(yX ns us).map _=_::yX ns (us.set i x);rw[zb1 n2 h (by simpa using hl)]
  congr 1
  refine aJ fun z=>?_
  have:(n:Int)=(j:Int):=Sum.inl.inj z
  exact n1 (by rw[show n=j by omega];exact aH h)
theorem zha{i j:Nat}(nd:ns.Nodup)(h:ns[i]?=some j)(hl:i<us.length):yK (yX ns us) (Sum.inl (j:Int)) (V.ref x)=yX ns (us.set i x):=by
 unfold yK;rw[aK,zb1 nd h hl];have e:=w5 nd h (aB hl);rw[wo,e];rfl
theorem zbR{H:Hp}{x:Addr}{d:Df}:∀{us:List Addr}{ds:List Df}{i:Nat},Paired (RAt H) us ds->RAt H x d->Paired (RAt H) (us.set i x) (ds.set i d)
 | _,_,_,.nil,_=>.nil
 | _,_,0,.cons _ t,r=>.cons r t
 | _,_,i+1,.cons h t,r=>.cons h (zbR t r)
theorem zj9(h:SqL K H u vs)(s:SX p H H')(hp:H p=some (.ins C dx fs)):SqL K H' u vs:=by
 rcases h with (h|⟨o,h⟩)|h
 ·exact .inl (.inl (s _ _ h (fun e=>by rw[e,hp] at h;cases h)))
 ·exact .inl (.inr ⟨o,s _ _ h (fun e=>by rw[e,hp] at h;cases h)⟩)
 ·exact .inr h
theorem qT(ns:List Int)(a b:Nat):∃ms:List Int,jI (ns.map V.int) (some (a:Int)) (some (b:Int))=ms.map V.int/\ms.length<=b - a:=by
 exists (ns.drop (min a ns.length)).take (min b ns.length - min a ns.length),?_,?_
 ·unfold jI
  rw[HT.zmD,HT.zmD,aA,map_take,map_drop]
 ·rw[length_take,length_drop]
  omega
def yU(rows:List Rw)(ds:List Df)(ts:List Int)(ps:List (Str×Int))(n:Int)(k:Nat):List Dt×Int:=uV ts ps (dfF (zR rows) ds) (enE rows ts.length (fpZ (ps.map (·.1)))) n k
inductive zfN(K:Frag)(vs:List V)(H:Hp)(Q:VK)(E:XK):Prop|mk(la lt lp D:Addr)(n:Int)(us:List Addr)(rows:List Rw)(bars:List Str)(uts:List Addr)(ds:List Df)(ts:List Int)(ps:List (Str×Int))(ys:List V):vs=[.ref la,.ref lt,.ref lp,.ref D,.int n]->H la=some (.lst (us.map V.ref))->Paired (TAt H) us rows->VR rows->xR rows bars ts.length (ps.map (·.1))=[]->ts.length<=900->ps.length<=900->H lt=some (.lst (ts.map V.int))->H lp=some (.lst ys)->Paired (zI K T' H 1) ys (ps.map yP)->H D=some (.dK (yX (zR rows) uts))->Paired (RAt H) uts ds->Paired (vQ rows) (zR rows) ds->(∀d∈ds,d.k≠1)->(∀(t g:Addr) (H':Hp),zq H H'->H' t=some (.tup [.ref g,.int (yU rows ds ts ps n rows.length).2])->zI K (fun b=>H b=none) H' 3 (.ref g) (.lst (yU rows ds ts ps n rows.length).1)->Q (.ref t) H')->zfN K vs H Q E
theorem qt{K:Frag}{ok ok':Addr->Prop}{H3:Hp}:∀{ps:List (Str×Int)}{zs:List V},Paired (zI K ok H3 1) zs (ps.map yP)->Paired (zI K ok' H3 1) zs (ps.map yP)
 | [],_,r=>by cases r;exact .nil
 | p::ps,_,r=>by
  cases r with
  | cons h r=>
   refine .cons ?_ (qt r);obtain⟨b,ws,rfl,hS',r'⟩:=xA h;exact .tup hS' (zm (fun _ _ z=>z) r')
theorem zdK{K:Frag}{H:Hp}{k:Str×Int->Bool}:∀{ps:List (Str×Int)}{xs:List V},Paired (zI K T' H 1) xs (ps.map yP)->Paired (zI K T' H 1) (((xs.zip ps).filter fun p=>k p.2).map (·.1)) ((ps.filter k).map yP)
 | [],_,r=>by cases r;exact .nil
 | p::ps,_,r=>by
  cases r with
  | cons h r=>
   rename_i x xs;have ih:=zdK (k:=k) r;rw[List.zip_cons_cons,filter_cons,filter_cons];dsimp only;cases k p with
   | false=>exact ih
   | true=>exact .cons h ih
theorem zji:∀k,k<5->decide (V.str (kw k)=V.str "tail")=decide (k=2):=by decide +kernel
theorem zld:∀k,k<5->decide (V.str (kw k)=V.str "bag")=decide (k=4):=by decide +kernel
theorem zlc:∀k,k<5->decide (V.str (kw k)=V.str "tag")=decide (k=3):=by decide +kernel
theorem zjj:∀k,k<5->decide (V.str (kw k)=V.str "seat")=decide (k=0):=by decide +kernel
theorem znb:([Str.ofString "_law_other"]:List Str).Nodup:=by decide +kernel
theorem zna:([Str.ofString "_law_pair",Str.ofString "_law_own"]:List Str).Nodup:=by decide +kernel
theorem xS:zp ["_law_specs_here","_law_things","_law_pairs","_law_told","_law_coming","_law_values_here","_law_named","_law_name_here","_law_thing","_law_p","_law_one","_law_own","_law_word","_law_at","_law_times","_law_plus"] ["_law_specs_here","_law_things","_law_pairs","_law_told","_law_coming"] (zi zba):=fsc
theorem ziB(F:Fun K "_law_values" "_law_values" zba f fd)(T:uz mg):↥1 f fd ["_law_specs_here","_law_things","_law_pairs","_law_told","_law_coming"] (zfN K):=by
 specialize xS;obtain⟨la,lt,lp,D,n,us,rows,bars,uts,ds,ts,ps,ys,rfl,hla,hus,V1,em,ct1,ct2,hlt,hlp,hys,hD,pd,gd,no,q⟩:=h;have hu:=vA hr;have l24:=V1.l24;have lu:us.length=rows.length:=hus.length;have nd:(ps.map (·.1)).Nodup:=(zaw.mp em).1;have row:∀{i:Nat},i<rows.length->∃u r,us[i]?=some u/\rows[i]?=some r/\TAt H u r/\r.ok:=fun {i} hi=>by
  have e:us[i]?=some us[i]:=aB ∅
  obtain⟨r,hr',tr⟩:=zU hus e;exact⟨_,r,e,hr',tr,V1.ok r (aH hr')⟩
 have uat:∀{i:Nat}{u:Addr},us[i]?=some u->atI (us.map V.ref) (i:Int)=some (.ref u):=fun e=>yF (by rw[getElem?_map,e];rfl)
 refine xS[5]'(zZ zb);exists x8,fun g hg=>?_;exfalso
 injections g hg H1 s1 g1
 refine xS[6]'vJ;intro Dn hDn;have s2:=zg hDn (.dK []);have d2:upd H1 Dn (.dK []) Dn=some (.dK []):=za;have nDn:H Dn=none:=s1.free hDn;have ngD:g≠Dn:=ze g1 hDn;have g2:=s2 _ _ g1;have s2:=s1.trans s2;exfalso;generalize upd H1 Dn (.dK [])=H2 at s2 d2 g2 |-;clear s1 g1;refine zr (yr PassesOwn.never rfl (yb (pv 2)) (yi rfl (zo (zl (i:=7) xS.nd rfl (Or.inl rfl)) (zo (zl (i:=8) xS.nd rfl (Or.inl rfl)) zT))) zW) ?_;have lys:ys.length=ps.length:=by rw[hys.length,aA]
 exists _,rfl,lp,rfl,⟨_,zc (s2 _ _ hlp)⟩,yY (K:=K) (a:=lp) (xs:=ys) (fun i σ H'=>∃(v7 v8:Option V),σ=[~~~la,~~~lt,~~~lp,~~~D,some (.int n),~~~g,~~~Dn,v7,v8,none,none,none,none,none,none,none]/\zq H H'/\H' g=some (.lst [])/\H' Dn=some (.dK (kvT (ps.take i)))) ⟨_,_,rfl,s2,g2,d2⟩ (fun i σ H' _ ⟨_,_,_,sH,_⟩=>zc (sH _ _ hlp)) ?_ ?_
 ·rintro i x σ H3 hx ⟨v7,v8,rfl,s3,g3,d3⟩
  obtain⟨d,hd,hs⟩:=Paired.get hys hx;obtain⟨p,hpk,rfl⟩:=uH hd;obtain⟨b,rfl,hb⟩:=vY hs;have hi:i<ps.length:=(List.getElem?_eq_some_iff.mp hpk).1;exists b,_,rfl,s3.sqT hb,rfl,_,_,rfl,_,_,rfl,rfl,?_;exfalso;have np:p.1∉(ps.take i).map (·.1):=fun h=>by
   have e:ps.take (i+1)=ps.take i++[p]:=by rw[take_add_one,hpk];rfl
   have n2:((ps.take (i+1)).map (·.1)).Nodup:=nd.sublist ((List.take_sublist _ _).map _);rw[e,aE] at n2;exact(List.nodup_append.mp n2).2.2 _ h _ mem_cons_self rfl
  exists _,zd (vV hu (pv 6) (pv 7) (pv 8) rfl),?_;exists _,rfl,_,rfl,_,rfl,Dn,_,rfl,zaf.k (k:=Sum.inr p.1) d3 (zE (by unfold kvT;rw[aA,length_take];omega)),?_
  rw[zi5 np];exact⟨_,_,rfl,yw s3 nDn _,by rw[zf ngD];exact g3,by rw[za,take_add_one,hpk];rfl⟩
 clear s2 g2 d2;rintro σ H2 ⟨v7,v8,rfl,s2,g2,d2⟩;rw[lys,take_length] at d2;refine zr (yr PassesOwn.never rfl (yO rfl T.range (ac (cB zF T.len PySem.boot_len (ac (pv 0) zb)) zb)) (zl (i:=9) xS.nd rfl (Or.inl rfl)) zW) ?_;exists _,rfl,la,_,rfl,.inl (zc (s2 _ _ hla)),((rows.length:Nat):Int),(by rw[aA,lu]),∅,∅,?_
 rw[show((rows.length:Nat):Int).toNat=rows.length from rfl];refine xH (n:=rows.length) (fun i σ H'=>∃(v9 v10 v11 v12 v13 v14 v15:Option V) (vs:List V),σ=[~~~la,~~~lt,~~~lp,~~~D,some (.int (yU rows ds ts ps n i).2),~~~g,~~~Dn,v7,v8,v9,v10,v11,v12,v13,v14,v15]/\zq H H'/\H' Dn=some (.dK (kvT ps))/\H' g=some (.lst vs)/\Paired (zI K (fun b=>b≠g/\H b=none) H' 2) vs (yU rows ds ts ps n i).1) ⟨_,_,_,_,_,_,_,[],rfl,s2,d2,g2,.nil⟩ ?_ ?_
 ·rintro i σ H3 hi ⟨v9,v10,v11,v12,v13,v14,v15,vs,rfl,s3,d3,g3,p3⟩
  rw[Int.zero_add];obtain⟨u,r,eu,er,tr,rk⟩:=row hi;have lvs:vs.length=i:=by rw[p3.length];exact wp i
  have lv:vs.length<sizeLine:=zE ∅
  have hstep:yU rows ds ts ps n (i+1)=uC ts ps (dfF (zR rows) ds i) (yU rows ds ts ps n i) (enE rows ts.length (fpZ (ps.map (·.1))) i):=rfl;have hlt3:=s3 _ _ hlt;have hlp3:=s3 _ _ hlp;exfalso;refine xS[10]'(zu zy (pv 0) (pv 9) (fun _ _=>rfl));exists _,rfl,_,rfl,la,_,_,.ref u,rfl,rfl,zc (s3 _ _ hla),uat eu,?_;have hT:SqT K H3 u (rv r):=zz (s3 _ _ tr);exfalso;have put:∀(v:V) (dt:Dt) (H7:Hp) (m:Int) (w11 w12 w13 w14 w15:Option V),zq H3 H7->zI K (fun b=>H3 b=none) H7 2 v dt->(yU rows ds ts ps n (i+1)).1=(yU rows ds ts ps n i).1++[dt]->(yU rows ds ts ps n (i+1)).2=m->
    ∃(v9 v10 v11 v12 v13 v14 v15:Option V) (vs':List V),([~~~la,~~~lt,~~~lp,~~~D,some (.int m),~~~g,~~~Dn,v7,v8,some (.int (i:Int)),~~~u,w11,w12,w13,w14,w15]:L2.St)=[~~~la,~~~lt,~~~lp,~~~D,some (.int (yU rows ds ts ps n (i+1)).2),~~~g,~~~Dn,v7,v8,v9,v10,v11,v12,v13,v14,v15]/\zq H (upd H7 g (.lst (vs++[v])))/\upd H7 g (.lst (vs++[v])) Dn=some (.dK (kvT ps))/\upd H7 g (.lst (vs++[v])) g=some (.lst vs')/\Paired (zI K (fun b=>b≠g/\H b=none) (upd H7 g (.lst (vs++[v]))) 2) vs' (yU rows ds ts ps n (i+1)).1:=fun v dt H7 m w11 w12 w13 w14 w15 s7 hv e1 e2=>by
   exists _,_,_,_,_,_,_,vs++[v],by rw[e2],yw (s3.trans s7) hg _,by rw[zf (Ne.symm ngD)];exact s7 _ _ d3,za,?_
   rw[e1];have hv:zI K (fun b=>b≠g/\H b=none) H7 2 v dt:=y7 (fun b o _=>⟨(fun e=>by rw[e,g3] at o;cases o),s3.free o⟩) hv
   exact yJ (zm (fun _ _ z=>yW (s7 _ _ g3) (fun b o=>⟨o,o.1⟩) (z.same s7)) p3) (.cons (yW (s7 _ _ g3) (fun b o=>⟨o,o.1⟩) hv) .nil)
  have e2:=zji r.k rk.1;have e4:=zld r.k rk.1;have e3:=zlc r.k rk.1;have e0:=zjj r.k rk.1;have hel:∀{dt},zaq ts ps (enE rows ts.length (fpZ (ps.map (·.1))) i)=dt->enE rows ts.length (fpZ (ps.map (·.1))) i≠.free->(yU rows ds ts ps n (i+1)).1=(yU rows ds ts ps n i).1++[dt]/\(yU rows ds ts ps n (i+1)).2=(yU rows ds ts ps n i).2:=fun {dt} e1 e2=>by
   rw[hstep,j5 e2,e1];exact⟨rfl,rfl⟩
  exists _,zd (zJ (zn ye (zu zL (pv 10) zh (fun _ _=>rfl)) zw (zv _)) (zd (zG (yt PySem.F.plainAttrs_list PySem.F.slot_list_append PySem.F.type_list_append zK (pv 5) (ac (wX vS (pv 1) (xZ (pv 9)) zee) zb)))) zW),?_;exists _,rfl,u,_,0,_,rfl,rfl,hT,wg rk,rfl,_,rfl,?_;by_cases h2:r.k=2
  ·refine xE (by rw[e2,aC h2]) ?_
   obtain⟨a1,a2⟩:=zjh (ts:=ts) (ps:=ps) V1 er h2;obtain⟨b1,b2⟩:=hel a1 a2;exists _,rfl,.inl ⟨rfl,_,zc g3⟩,_,rfl,_,rfl,_,rfl,lt,_,rfl,zc hlt3,fun l hl=>?_;rw[zci];have s4:=zg hl (.lst ((ts.drop i).map V.int));exact⟨g,_,_,rfl,rfl,s4 _ _ g3,lv,put _ _ _ _ _ _ _ _ _ s4 (zI.lst hl za (xX _)) b1 b2⟩
  refine yR (by rw[e2,aD h2]) ?_
  exists _,zd (zJ (zn ye (zu zL (pv 10) zh (fun _ _=>rfl)) zw (zv _)) zW zW),?_;exists _,rfl,u,_,0,_,rfl,rfl,hT,wg rk,rfl,_,rfl,?_;by_cases h4:r.k=4
  ·refine xE (by rw[e4,aC h4]) ?_
   obtain⟨a1,a2⟩:=zlb (ts:=ts) (ps:=ps) V1 nd er h4;obtain⟨b1,b2⟩:=hel a1 a2;refine zr (zB (i:=11) xS.nd rfl (Or.inr rfl) (xF [] ["_law_other"] [none] rfl ⟨rfl,rfl,rfl,rfl⟩ (yb (pv 0)) (yc 0) rfl rfl rfl
    (fun pins fp s H C=>⟨zl (i:=0) znb rfl (Or.inl rfl) (.inr rfl),xM (zn (r:=rIn K false) xq (zu (r:=q0 K) zL (pv 0) zh (fun _ _=>rfl)) (zQ (ac zw (ac zw zb))) (by with_unfolding_all rfl)),zu (r:=q0 K) zL (pv 0) zh (fun _ _=>rfl)⟩))) ?_
   have hus3:=z8 s3 hus;exists _,rfl,la,rfl,⟨_,zc (s3 _ _ hla)⟩,fun Do hDo=>?_;refine qE (K:=K) TAt (fun r=>yI r.k) (fun _ r=>.str r.z) hDo (s3 _ _ hla) hus3 ∅ (fun j u r H' N S hu' hr' tr sH n1 s1=>?_) (fun H4 s4 hD4=>?_)
   ·have rk:=V1.ok r (aH hr')
    have tu:=sH _ _ tr;exists _,rfl,u,_,0,_,rfl,rfl,zz tu,wg rk,yL,fun l hl=>?_;have s2:=zg hl (.tup [.str "both",.str "tag"]);exists l,_,rfl,.inr (zz za),rfl,rfl,_,rfl,?_;rw[aJ zft,zdt rk.1];exact⟨fun e=>⟨_,rfl,u,_,1,_,rfl,rfl,zz (s2 _ _ tu),xY rk,n1 _ s2 e⟩,fun e=>s1 _ s2 e⟩
   rw[zel hus3] at hD4;exfalso;refine⟨_,zd (zG (yt PySem.F.plainAttrs_list PySem.F.slot_list_append PySem.F.type_list_append zK (pv 5) (ac (xF ["_law_own"] ["_law_pair","_law_own"] [none,some 11] rfl ⟨rfl,rfl,rfl,rfl⟩ (yb (pv 2)) (yc 0) rfl rfl rfl
    (fun pins fp s H C=>⟨zl (i:=0) zna rfl (Or.inl rfl) (.inr rfl),xM (zn (r:=rIn K true) yE (zu (r:=q0 K) zL (pv 0) zh (fun _ _=>rfl)) (pv 1) (by with_unfolding_all rfl)),pv 0⟩)) zb))),?_⟩
   have hlp4:=s4 _ _ hlp3;have hys4:=zm (fun _ _ z=>z.same (s3.trans s4)) hys;exists _,rfl,.inl ⟨rfl,_,zc (s4 _ _ g3)⟩,_,rfl,lp,rfl,⟨_,zc hlp4⟩,fun D2 hD2=>?_;refine zdk (K:=K) (xs:=ys) (ys.zip ps) (fun p=>!decide (p.2.1∈nms rows)) (fun p=>p.1) hD2 (zc hlp4) (by rw[length_zip,lys,Nat.min_self]) ∅ (fun j x y H' N S hx hy sH n1 k1=>?_) (fun H5 s5 hD5=>?_)
   ·obtain⟨d,hd,hs⟩:=Paired.get hys4 hx
    obtain⟨p,hpk,rfl⟩:=uH hd;obtain⟨b,rfl,hb⟩:=vY hs;have ey:y=(.ref b,p):=by
     rw[List.getElem?_zip_eq_some] at hy;obtain⟨y1,y2⟩:=hy;rw[hx] at y1;rw[hpk] at y2;exact Prod.ext (Option.some.inj y1).symm (Option.some.inj y2).symm
    subst ey;exists _,rfl,b,_,0,_,rfl,rfl,sH.sqT hb,rfl,_,rfl,Do,_,rfl,.inl (zc (sH _ _ hD4)),rfl,xN,_,rfl,?_;rw[aK rfl,xw];exact⟨fun e=>⟨_,rfl,n1 _ (zq.refl _) e⟩,fun e=>k1 _ (zq.refl _) e⟩
   ·have s45:=s4.trans s5
    have hz:=zdK (k:=fun p=>!decide (p.1∈nms rows)) (zm (fun _ _ z=>z.same (s3.trans s45)) hys);exact⟨g,_,_,rfl,rfl,s45 _ _ g3,lv,put _ _ _ _ _ _ _ _ _ s45 (zI.lst (s4.free hD2) hD5 (qt hz)) b1 b2⟩
  refine yR (by rw[e4,aD h4]) ?_
  have ho:xm r.k=true:=by
   unfold xm
   have:=rk.1
   simp only[Bool.or_eq_true,beq_iff_eq];omega
  exists _,zd (zJ (yy (yz (zn qx (zu zL (pv 10) zh (fun _ _=>rfl)) zw (zv _)) (yq (zn wD (pv 9) (cB zF T.len PySem.boot_len (ac (pv 1) zb)) (zv _))))) (zd (zG (yt PySem.F.plainAttrs_list PySem.F.slot_list_append PySem.F.type_list_append zK (pv 5) (ac (zu zy (pv 1) (pv 9) (fun _ _=>rfl)) zb)))) zW),?_;refine zhq (fun H'=>H3=H'/\¬(xi r.k=true/\i<ts.length)) ?_ (fun key=>?_);rotate_left
  ·exists _,rfl,u,_,0,_,rfl,rfl,hT,wg rk,rfl,_,rfl,?_
   by_cases h3:r.k=3
   ·refine yR (by rw[e3,aC h3];rfl) ?_
    refine yB ?_;exact key _ ⟨rfl,fun z=>by rw[h3] at z;cases z.1⟩
   refine xE (by rw[e3,aD h3];rfl) ?_
   exists _,rfl,_,rfl,lt,_,rfl,.inl (zc hlt3),_,_,rfl,rfl,_,rfl,?_;by_cases hm:i<ts.length
   ·refine dT (by rw[aA];omega) ?_
    have hp:xi r.k=true:=by
     have:=rk.1
     have:r.k=0\/r.k=1:=by omega
     rcases this with z|z <;> rw[z] <;> rfl
    have a1:=zmp (ps:=ps) er hp hm;obtain⟨b1,b2⟩:=hel (dt:=.int (ts.getD i 0)) (by rw[a1];rfl) (by rw[a1];intro z;cases z)
    exact⟨_,rfl,.inl ⟨rfl,_,zc g3⟩,_,rfl,_,rfl,lt,_,_,_,rfl,rfl,zc hlt3,qK hm,g,_,_,rfl,rfl,g3,lv,put _ _ _ _ _ _ _ _ _ (zq.refl _) .int b1 b2⟩
   ·refine dF (by rw[aA];omega) ?_
    exact key _ ⟨rfl,fun z=>hm z.2⟩
  rintro _ ⟨rfl,hnp⟩;exists _,zd (zJ (yy (yz (zn qx (zu zL (pv 10) zh (fun _ _=>rfl)) zw (zv _)) (yq (xL (qr hu (zu zL (pv 10) zh (fun _ _=>rfl)) (pv 6)))))) (zd (zG (yt PySem.F.plainAttrs_list PySem.F.slot_list_append PySem.F.type_list_append zK (pv 5) (ac (yT hu (pv 6) (zu zL (pv 10) zh (fun _ _=>rfl)) (fun _ _=>rfl)) zb)))) zW),?_;have eD:xP H3 Dn (.str r.z) ((ps.find? fun p=>decide (p.1=r.z)).map fun p=>V.int p.2):=by
   have:=xP.k (k:=Sum.inr r.z) d3
   rw[zhm] at this;exact this
  refine zhq (fun H'=>H3=H'/\enE rows ts.length (fpZ (ps.map (·.1))) i=.free) ?_ (fun key=>?_);rotate_left
  ·exists _,rfl,u,_,0,_,rfl,rfl,hT,wg rk,rfl,_,rfl,?_
   by_cases h0:r.k=0
   ·refine yR (by rw[e0,aC h0];rfl) ?_
    refine yB ?_;exact key _ ⟨rfl,zjO nd er ho hnp fun z=>by rw[h0] at z;cases z⟩
   refine xE (by rw[e0,aD h0];rfl) ?_
   have hb:yI r.k=true:=by
    have:=rk.1
    have:r.k=1\/r.k=3:=by omega
    rcases this with z|z <;> rw[z] <;> rfl
   exists _,rfl,u,_,1,_,rfl,rfl,hT,xY rk,_,rfl,Dn,_,rfl,eD,_,rfl,?_;cases hf:ps.find? fun p=>decide (p.1=r.z) with
   | none=>
    refine yB ?_;exact key _ ⟨rfl,zjO nd er ho hnp fun _=>hf⟩
   | some p=>
    refine xu ?_;rw[hf] at eD;obtain⟨j,a1,a3⟩:=zmq nd er hb hnp hf;obtain⟨b1,b2⟩:=hel (dt:=.int p.2) (by rw[a1,<- a3];rfl) (by rw[a1];intro z;cases z)
    exact⟨_,rfl,.inl ⟨rfl,_,zc g3⟩,_,rfl,_,rfl,u,_,1,_,rfl,rfl,hT,xY rk,Dn,_,rfl,eD,g,_,_,rfl,rfl,g3,lv,put _ _ _ _ _ _ _ _ _ (zq.refl _) .int b1 b2⟩
  rintro _ ⟨rfl,hfree⟩;rw[hfree] at hstep;obtain⟨k,hk⟩:=getElem?_of_mem (zeA V1 (List.append_eq_nil_iff.mp em).2 hi hfree);obtain⟨d,hd,gdd⟩:=zU gd hk;have edf:=zdC (xB rows) hk hd;have nd1:=no d (aH hd);rw[edf] at hstep;obtain⟨ut,hut,rt⟩:∃ut,uts[k]?=some ut/\RAt H ut d:=by
   have hl:uts.length=ds.length:=pd.length;have hkl:k<ds.length:=(List.getElem?_eq_some_iff.mp hd).1;have e:uts[k]?=some uts[k]:=aB ∅
   obtain⟨d',e1,e2⟩:=zU pd e;rw[hd] at e1;cases e1;exact⟨_,e,e2⟩
  have hget:xP H3 D (.int (i:Int)) (~~~ut):=by
   have:=xP.k (k:=Sum.inl (i:Int)) (s3 _ _ hD)
   rw[w5 (xB rows) hk hut] at this;exact this
  have hSt:SqT K H3 ut d.row:=zz (s3 _ _ rt);refine⟨_,zd (zJ (zn ye (zu zL (yT hu (pv 3) (pv 9) (fun _ _=>rfl)) zh (fun _ _=>rfl)) zw (zv _)) (zd (zG (yt PySem.F.plainAttrs_list PySem.F.slot_list_append PySem.F.type_list_append zK (pv 5) (ac (zu zL (yT hu (pv 3) (pv 9) (fun _ _=>rfl)) zh (fun _ _=>rfl)) zb))))
   (zd (zJ (zn ye (zu zL (yT hu (pv 3) (pv 9) (fun _ _=>rfl)) zh (fun _ _=>rfl)) zw (zv _)) (zk (zG (yt PySem.F.plainAttrs_list PySem.F.slot_list_append PySem.F.type_list_append zK (pv 5) (ac (pv 4) zb))) (zd (zB (i:=4) xS.nd rfl (Or.inl rfl) (zN xt (pv 4) zh)))) zW))),?_⟩
  cases d with
  | told m=>
   exists _,rfl,_,rfl,D,_,rfl,hget,ut,_,0,_,rfl,rfl,hSt,rfl,rfl,_,rfl,?_;refine dT rfl ?_;exact⟨_,rfl,.inl ⟨rfl,_,zc g3⟩,_,rfl,_,rfl,D,_,rfl,hget,ut,_,1,_,rfl,rfl,hSt,rfl,g,_,_,rfl,rfl,g3,lv,put _ _ H3 _ _ _ _ _ _ (zq.refl _) .int (by rw[hstep];rfl) (by rw[hstep];rfl)⟩
  | once=>exact absurd rfl nd1
  | anew=>
   exists _,rfl,_,rfl,D,_,rfl,hget,ut,_,0,_,rfl,rfl,hSt,rfl,rfl,_,rfl,?_;refine dF znn ?_;exists _,rfl,_,rfl,D,_,rfl,hget,ut,_,0,_,rfl,rfl,hSt,rfl,rfl,_,rfl,?_;refine dT rfl ?_;exact⟨_,rfl,.inl ⟨rfl,_,zc g3⟩,_,rfl,g,_,_,rfl,rfl,g3,lv,_,rfl,_,_,rfl,rfl,put _ _ H3 _ _ _ _ _ _ (zq.refl _) .int (by rw[hstep];rfl) (by rw[hstep];rfl)⟩
  | sum a t pl=>
   obtain⟨h0,h3,hs,t0,t1⟩:=gdd;obtain⟨b,rfl⟩:=eq_ofNat_of_zero_le h0
   have:∃r,rows[b]?=some r/\xm r.k=true:=by
    unfold uZ at hs;rw[aK (Int.natCast_nonneg b),toNat_natCast] at hs;cases e:rows[b]? with
    | none=>rw[e] at hs;cases hs
    | some r=>rw[e] at hs;exact⟨r,rfl,hs⟩
   obtain⟨r,hr',ho⟩:=this;obtain⟨x,hx0⟩:=jX (ts:=ts) (ps:=ps) (df:=dfF (zR rows) ds) (n:=n) (show b<i by omega) (zaF (many:=ts.length) (fp:=fpZ (ps.map (·.1))) hr' ho)
   have hx:(yU rows ds ts ps n i).1[b]?=some (.int x):=hx0;have hbl:b<vs.length:=by rw[lvs];omega
   have e0:vs[b]?=some vs[b]:=aB hbl;obtain⟨d2,e1,e2⟩:=Paired.get p3 e0;rw[hx] at e1;cases e1;have e3:=xJ e2;rw[e3] at e0;have el:jv (yU rows ds ts ps n i).1 (yU rows ds ts ps n i).2 (.sum (b:Int) t pl)=(t * x+pl,(yU rows ds ts ps n i).2):=by
    show(t * zk4 (yU rows ds ts ps n i).1[(b:Int).toNat]?+pl,_)=_;rw[toNat_natCast,hx];rfl
   exists _,rfl,_,rfl,D,_,rfl,hget,ut,_,0,_,rfl,rfl,hSt,rfl,rfl,_,rfl,?_;refine dF zmh ?_;exists _,rfl,_,rfl,D,_,rfl,hget,ut,_,0,_,rfl,rfl,hSt,rfl,rfl,_,rfl,?_;refine dF znk ?_;refine zr (y8 (yT hu (pv 3) (pv 9) (fun _ _=>rfl)) (yi rfl (zo (zl (i:=12) xS.nd rfl (Or.inl rfl)) (zo (zl (i:=13) xS.nd rfl (Or.inl rfl)) (zo (zl (i:=14) xS.nd rfl (Or.inl rfl)) (zo (zl (i:=15) xS.nd rfl (Or.inl rfl)) zT)))))) ?_;exists _,rfl,_,rfl,D,_,rfl,hget,ut,_,rfl,hSt,rfl,_,_,rfl,_,_,rfl,_,_,rfl,_,_,rfl,rfl,?_;exfalso;exists _,zd (zG (yt PySem.F.plainAttrs_list PySem.F.slot_list_append PySem.F.type_list_append zK (pv 5) (ac (zN xt (zN xV (pv 14) (zu zy (pv 5) (pv 13) (fun _ _=>rfl))) (pv 15)) zb))),?_;exact⟨_,rfl,.inl ⟨rfl,_,zc g3⟩,_,rfl,_,rfl,_,rfl,g,_,_,_,rfl,rfl,zc g3,yF e0,t,x,rfl,rfl,.inl ⟨∅,∅⟩,_,rfl,_,_,rfl,rfl,g,_,_,rfl,rfl,g3,lv,put _ _ H3 _ _ _ _ _ _ (zq.refl _) .int (by rw[hstep];show(_++[Dt.int (jv _ _ _).1])=_;rw[el]) (by rw[hstep];show(jv _ _ _).2=_;rw[el])⟩
 ·rintro σ H3 ⟨v9,v10,v11,v12,v13,v14,v15,vs,rfl,s3,d3,g3,p3⟩
  exists _,zd (zt (zQ (ac (pv 5) (ac (pv 4) zb)))),_,rfl,_,rfl,yL,fun t ht=>?_;have s4:=zg ht (.tup [.ref g,.int (yU rows ds ts ps n rows.length).2]);exact q t g _ (s3.trans s4) za (zI.lst hg (s4 _ _ g3) (zm (fun _ _ z=>(y7 (fun b o _=>o.2) z).same s4) p3))
inductive zcC(K:Frag)(c:C5)(c4:C4)(CF CW CU:Addr)(vs:List V)(H:Hp)(Q:VK)(E:XK):Prop|mk(p f wa D dw a:Addr)(rows:List Rw)(bars:List Str)(us:List Addr)(ds:List Df)(n:Int)(ct:List vd):vs=[.ref p,.ref a]->jq c c4 CF CW CU H p f wa D dw rows bars us ds n->zbC K H a ct->(uJ rows bars ct=[]->∀(g:Addr) (vs:List V) (H':Hp),SX wa H H'->H g=none->H' g=some (.lst vs)->Paired (zI K (fun b=>b≠g/\H b=none) H' 2) vs (wc rows ds ct n rows.length).1->H' wa=some (.ins CW dw (wl (wc rows ds ct n rows.length).2))->Q (.ref g) H')->((¬uJ rows bars ct=[]->∀H',zq H H'->Q .non H'))->zcC K c c4 CF CW CU vs H Q E
def ug(oc an:Addr):List (Key×V):=[(.inr "once",.ref oc),(.inr "anew",.ref an)]
def dSh(oc an:Addr):HO:=.dK (ug oc an)
theorem zhY:zO (ug oc an) (.inr "once")=some (.ref oc):=yC rfl
theorem zd5:zO (ug oc an) (.inr "anew")=some (.ref an):=by
 unfold ug;rw[yv (by intro z;exact absurd (Sum.inr.inj z) (by decide +kernel))]
 exact yC rfl
theorem zjE{z:Str}(h1:z≠"once")(h2:z≠"anew"):zO (ug oc an) (.inr z)=none:=by
 unfold ug;rw[yv (by intro y;exact h1 (Sum.inr.inj y).symm),yv (by intro y;exact h2 (Sum.inr.inj y).symm)]
 rfl
inductive zbK(c4:C4)(vs:List V)(H:Hp)(Q:VK)(E:XK):Prop|mk(u Ds oc an:Addr)(d:Df):vs=[.ref u,.ref Ds]->RAt H u d->H Ds=some (dSh oc an)->DAt c4 H oc .once->DAt c4 H an .anew->(∀(x:Addr) (H':Hp),zq H H'->DAt c4 H' x d->Q (.ref x) H')->zbK c4 vs H Q E
inductive zd0(c:C5)(c4:C4)(CF CW CU:Addr)(vs:List V)(H:Hp)(Q:VK)(E:XK):Prop|mk(f la Dt Ds wa dw oc an:Addr)(us:List Addr)(rows:List Rw)(bars:List Str)(uts:List Addr)(ds:List Df)(n:Int):vs=[.ref f,.ref la,.ref Dt,.ref Ds,.ref wa]->wO c CF H f rows bars->H la=some (.lst (us.map V.ref))->Paired (TAt H) us rows->VR rows->H Dt=some (.dK (yX (zR rows) uts))->Paired (RAt H) uts ds->Paired (vQ rows) (zR rows) ds->H Ds=some (dSh oc an)->DAt c4 H oc .once->DAt c4 H an .anew->H wa=some (.ins CW dw (wl n))->(∀(p D:Addr) (us2:List Addr) (H':Hp),SX wa H H'->H D=none->jq c c4 CF CW CU H' p f wa D dw rows bars us2 (xr n ds) (n+(yj ds:Nat))->Q (.ref p) H')->zd0 c c4 CF CW CU vs H Q E
variable {cl:Nat->Addr}
theorem za8:zp ["_law_function","_law_handed_here","_law_found"] ["_law_function","_law_handed_here"] (zi zbm):=fsc
theorem ziO(F:Fun K "_law_answer" "_law_answer" zbm f fd)(UK:UC K CU)(hmi:mg "Misfit"= ~~~MI)(so:∀i,i<6->exmOne K (.ref (cl i)) (.ref MI)=some true)(mA:y6 K CU "answer" gA)(GA:zA P w K mg base (CXs P w) 6 gA eA ["self","call"] (zfU K c c4 CF CW CU cl))(bA:zM K eA ["self","call"] []):↥7 f fd ["_law_function","_law_handed_here"] (zcC K c c4 CF CW CU):=by
 specialize za8;obtain⟨p,f,wa,D,dw,a,rows,bars,us,ds,n,ct,rfl,hfn,hc,q1,q2⟩:=h;obtain⟨dx,hp⟩:=hfn.at_;refine⟨_,zk (zB (i:=2) za8.nd rfl (Or.inl rfl) ur)
  (zk (zik rfl rfl (zlX rfl hmi (fun ea=>zd (zB (i:=2) za8.nd rfl (Or.inl rfl) ur)) zkA)
   (fun pins σ xe E hp=>zkv (i:=2) za8.nd rfl (Or.inl rfl) (ziw (pv 0) UK.cl mA GA hr bA hp (ac (pv 1) zb))))
  (zd (zt (pv 2)))),?_⟩
 exists _,rfl,p,dx,_,rfl,hp,zlq (by decide +kernel) (by decide +kernel) (by decide +kernel),_,rfl,p,f,wa,D,dw,a,rows,bars,us,ds,n,ct,rfl,hfn,hc,fun em g vs H1 s1 ng hg hv hw=>?_,fun m ms em d H1 s1 hd=>?_
 ·exact⟨_,rfl,q1 em g vs _ s1 ng hg hv hw⟩
 ·have hi:=zi1 m.1
  exists cl (uw m.1),rfl,fun tt ea hea=>.inl ⟨so _ hi,?_⟩;have s2:=zg hea (zjg ea (cl (uw m.1)) (some d) tt);exact⟨_,rfl,q2 (by rw[em];intro z;cases z) _ (s1.trans s2)⟩
theorem zlK:zp ["_law_told","_law_shared_here"] ["_law_told","_law_shared_here"] (zi zbc):=fsc
theorem zkH(F:Fun K "_law_shared" "_law_shared" zbc f fd)(cD:⇑3 "_law_default" g1 d1 ["_law_told"] (zjD K c4)):↥4 f fd ["_law_told","_law_shared_here"] (zbK c4):=by
 specialize zlK;obtain⟨u,Ds,oc,an,d,rfl,hud,hDs,hoc,han,q⟩:=h;have hu:=vA hr;have hS:SqT K H u d.row:=zz hud;have hget:∀z:Str,xP H Ds (.str z) (zO (ug oc an) (.inr z)):=fun z=>xP.k (k:=Sum.inr z) hDs;refine⟨_,zk (zJ (xL (qr hu (zu zL (pv 0) zh (fun _ _=>rfl)) (pv 1))) (zd (zt (yT hu (pv 1) (zu zL (pv 0) zh (fun _ _=>rfl)) (fun _ _=>rfl)))) zx)
  (zd (zt (cF cD hr (ac (pv 0) zb)))),?_⟩
 cases d with
 | told m=>
  have g:=hget "told";rw[zjE (by decide +kernel) (by decide +kernel)] at g
  exists _,rfl,u,_,0,_,rfl,rfl,hS,rfl,_,rfl,Ds,_,rfl,g,_,rfl,?_;refine yB ?_;exact⟨_,rfl,u,.told m,rfl,hud,.inl rfl,fun x dx H' s' _ ho=>q x H' s' ⟨dx,ho⟩⟩
 | once=>
  have g:=hget "once";rw[zhY] at g;exists _,rfl,u,_,0,_,rfl,rfl,hS,rfl,_,rfl,Ds,_,rfl,g,_,rfl,?_;refine xu ?_;exact⟨_,rfl,_,rfl,u,_,0,_,rfl,rfl,hS,rfl,Ds,_,rfl,g,q oc _ (zq.refl _) hoc⟩
 | anew=>
  have g:=hget "anew";rw[zd5] at g;exists _,rfl,u,_,0,_,rfl,rfl,hS,rfl,_,rfl,Ds,_,rfl,g,_,rfl,?_;refine xu ?_;exact⟨_,rfl,_,rfl,u,_,0,_,rfl,rfl,hS,rfl,Ds,_,rfl,g,q an _ (zq.refl _) han⟩
 | sum a' t' p'=>
  have g:=hget "sum";rw[zjE (by decide +kernel) (by decide +kernel)] at g
  exists _,rfl,u,_,0,_,rfl,rfl,hS,rfl,_,rfl,Ds,_,rfl,g,_,rfl,?_;refine yB ?_;exact⟨_,rfl,u,.sum a' t' p',rfl,hud,.inr rfl,fun x dx H' s' _ ho=>q x H' s' ⟨dx,ho⟩⟩
theorem zl9:([Str.ofString "_law_p",Str.ofString "_law_shared_here",Str.ofString "_law_told"]:List Str).Nodup:=by decide +kernel
theorem za7:zp ["_law_shape_here","_law_specs_here","_law_told","_law_shared_here","_law_well","_law_defaults","_law_function"] ["_law_shape_here","_law_specs_here","_law_told","_law_shared_here","_law_well"] (zi zge):=fsc
theorem zgZ(F:Fun K "_law_made" "_law_made" zge f fd)(cLo:⇑2 "_law_loose" g1 d1 ["_law_specs_here"] jJ)(cSd:⇑4 "_law_shared" g2 d2 ["_law_told","_law_shared_here"] (zbK c4))(mCU:mg "Function"= ~~~CU)(MU:Mk K CU gU)(GU:↥4 gU eU ["self","form","defaults","well"] (zj5 c c4 CF CW CU))(bU:zM K eU ["self","form","defaults","well"] []):↥6 f fd ["_law_shape_here","_law_specs_here","_law_told","_law_shared_here","_law_well"] (zd0 c c4 CF CW CU):=by
 specialize za7;obtain⟨x,la,Dt,Ds,wa,dw,oc,an,us,rows,bars,uts,ds,n,rfl,hF,hla,hus,V1,hDt,pr,pg,hDs,hoc,han,hwa,q⟩:=h;have hr2:yg 2 _:=hr.mono ⋯
 have hr4:yg 4 _:=hr.mono ⋯
 have hr5:yg 5 _:=hr.mono ⋯
 have hu:=vA hr;have lf:(zR rows).length<=24:=le_trans (length_filter_le _ _) (by rw[length_range];exact V1.l24)
 have lds:ds.length=(zR rows).length:=pg.length.symm;refine zr (zal (i:=5) ["_law_told","_law_shared_here"] ["_law_p","_law_shared_here","_law_told"] [none,some 3,some 2] za7.nd rfl (Or.inl rfl) rfl ⟨rfl,rfl,rfl,rfl⟩ (yb (cF cLo hr2 (ac (pv 1) zb))) (yc 0) rfl rfl rfl
   (fun pins fp s H C=>⟨zl (i:=0) zl9 rfl (Or.inl rfl) (.inr rfl),yS,cF cSd hr4 (ac (yT hu (pv 2) (pv 0) (fun _ _=>rfl)) (ac (pv 1) zb))⟩)) ?_
 exists _,rfl,la,us,rows,rfl,hla,hus,V1,fun ll H1 s1 nll hll=>?_;exists ll,rfl,⟨_,zc hll⟩,fun ld hld=>?_;refine zeq (K:=K) (bs:=ds) (DAt c4) (fun⟨dx,z⟩ s=>⟨dx,s _ _ z⟩) (fun {H v r D ys o} z h=>DAt.upd z (fun e=>by obtain⟨dx,z⟩:=z;rw[e,h] at z;cases z)) (zc hll) (by rw[aA,lds]) ∅ hld (fun i y d H' Qf Qs hy hd' sH qf=>?_) fun as H2 s2 e2 p2=>?_
 ·obtain⟨j,hj,rfl⟩:=uN hy
  obtain⟨u,hut,rt⟩:∃u,uts[i]?=some u/\RAt H u d:=by
   have hl:=pr.length;have hil:i<ds.length:=(List.getElem?_eq_some_iff.mp hd').1;have e:uts[i]?=some uts[i]:=aB ∅
   obtain⟨d2,e1,e2⟩:=zU pr e;rw[hd'] at e1;cases e1;exact⟨_,e,e2⟩
  have sX:=s1.trans sH;have hget:xP H' Dt (.int (j:Nat)) (~~~u):=by
   have:=xP.k (k:=Sum.inl (j:Int)) (sX _ _ hDt)
   rw[w5 (xB rows) hj hut] at this;exact this
  obtain⟨x1,z1⟩:=hoc;obtain⟨x2,z2⟩:=han;exact⟨fun _=>⟨_,rfl,_,rfl,Dt,_,rfl,hget,_,rfl,u,Ds,oc,an,d,rfl,sX _ _ rt,sX _ _ hDs,⟨x1,sX _ _ z1⟩,⟨x2,sX _ _ z2⟩,fun x H5 s5 ho=>qf x H5 s5 ho⟩,fun e=>Bool.noConfusion e⟩
 have s12:=s1.trans s2;have nld:H ld=none:=s1.free hld;clear s1 s2 hll nll hld;exfalso;refine za7[6]'(zbo MU GU hr5 rfl mCU bU .nil zY (ac (pv 0) (ac (pv 5) (ac (pv 4) zb))));exists _,rfl,_,rfl,_,rfl,?_;intro p dp hp0 hdp hnp;have smk:zq H2 (upd (upd H2 dp (.own p)) p (.ins CU dp [])):=yQ hp0 hdp;have hp1:upd (upd H2 dp (.own p)) p (.ins CU dp []) p=some (.ins CU dp []):=za;have np2:∀b u,H2 b=some u->b≠p:=fun b u e=>ze e hp0;generalize upd (upd H2 dp (.own p)) p (.ins CU dp [])=H3 at smk hp1 |-;have s03:=s12.trans smk;exists p,dp,x,ld,wa,dw,n,rows,bars,as,ds,rfl,hp1,(hF.same s03).at_,V1,smk _ _ e2,ue smk p2,fun a ha e=>?_,pg,s03 _ _ hwa,fun D us2 H4 nD3 k4 hw4 hp4 hD4 pd4=>⟨rfl,?_⟩
 ·subst e
  obtain⟨i,hi⟩:=getElem?_of_mem ha;obtain⟨d,_,dx,e⟩:=zU p2 hi;exact np2 _ _ e rfl
 exfalso;have k24:∀b u,H2 b=some u->b≠wa->H4 b=some u:=fun b u e n=>k4 _ _ (smk _ _ e) (np2 _ _ e) n;have hwa2:=s12 _ _ hwa;have hld4:=k24 _ _ e2 (fun e=>by rw[e,hwa2] at e2;cases e2)
 refine zr (zG (zkD PySem.F.plainAttrs_list PySem.F.slot_list_reverse PySem.F.type_list_reverse zdg (pv 5))) ?_;exists _,rfl,.inl ⟨rfl,_,zc hld4⟩,ld,_,rfl,rfl,hld4,?_;have g5:upd H4 ld (.lst (as.map V.ref).reverse) ld=some (.lst (as.map V.ref).reverse):=za;have nl:∀{b o},H4 b=some o->(∀ys,o≠.lst ys)->b≠ld:=fun {b o} e n z=>by rw[z,hld4] at e;exact n _ (Option.some.inj e).symm
 exists _,zk (zG (yt PySem.F.plainAttrs_list PySem.F.slot_list_append PySem.F.type_list_append zK (pv 5) (ac (yT hu (pv 3) zw (fun _ _=>rfl)) zb))) (zd (zt (pv 6))),?_;have hDs4:=k24 _ _ (s12 _ _ hDs) (fun e=>by rw[e,hwa] at hDs;cases hDs)
 have hDs5:upd H4 ld (.lst (as.map V.ref).reverse) Ds=some (dSh oc an):=by
  rw[zf (nl hDs4 fun _ z=>nomatch z)];exact hDs4
 have hget:xP (upd H4 ld (.lst (as.map V.ref).reverse)) Ds (.str "anew") (~~~an):=by
  have:=xP.k (k:=Sum.inr "anew") hDs5
  rw[zd5] at this;exact this
 have las:as.length=ds.length:=p2.length;exists _,rfl,.inl ⟨rfl,_,zc g5⟩,_,rfl,Ds,_,rfl,hget,ld,_,_,rfl,rfl,g5,zE (by rw[List.length_reverse,aA];omega),?_
 rw[vf];exists _,rfl,?_;generalize ((as.map V.ref).reverse++[V.ref an])=zs;have k6:SX wa H (upd H4 ld (.lst zs)):=fun b u e n=>by
  rw[zf (ze e nld)];exact k24 _ _ (s12 _ _ e) n
 refine q p D us2 _ k6 (s03.free nD3) ?_;refine⟨⟨dp,by rw[zf (nl hp4 fun _ z=>nomatch z)];exact hp4⟩,?_,V1,by rw[zf (nl hD4 fun _ z=>nomatch z)];exact hD4,?_,wS _ pg,uD _ _,by rw[zf (nl hw4 fun _ z=>nomatch z)];exact hw4⟩
 ·exact⟨hF.at_.sx hwa (wP n zhd) (wP n zde) k6,hF.lr,hF.lb,hF.ok⟩
 ·exact zm (fun v e z=>z.upd (by obtain⟨dx,z⟩:=z;exact nl z fun _ y=>nomatch y)) pd4
inductive zfP(vs:List V)(H:Hp)(Q:VK)(E:XK):Prop|mk(la Dt:Addr)(n:Int)(us:List Addr)(rows:List Rw)(uts:List Addr)(ds:List Df):vs=[.ref la,.ref Dt,.int n]->H la=some (.lst (us.map V.ref))->Paired (TAt H) us rows->VR rows->H Dt=some (.dK (yX (zR rows) uts))->Paired (RAt H) uts ds->Paired (vQ rows) (zR rows) ds->(∀(uts':List Addr) (H':Hp),SX Dt H H'->H' Dt=some (.dK (yX (zR rows) uts'))->Paired (RAt H') uts' (xr n ds)->Q (.int (n+(yj ds:Nat))) H')->zfP vs H Q E
inductive zbL(K:Frag)(vs:List V)(H:Hp)(Q:VK)(E:XK):Prop|mk(many:Nat)(ln:Addr)(c:Int)(names:List Str):vs=[.int (many:Nat),.ref ln,.int c]->H ln=some (.lst (names.map V.str))->many<=500->names.length<=500->(∀(t lt lp:Addr) (ts:List Int) (ps:List (Str×Int)) (ys:List V) (H':Hp),zq H H'->H' t=some (.tup [.ref lt,.ref lp])->H' lt=some (.lst (ts.map V.int))->H' lp=some (.lst ys)->Paired (zI K T' H' 1) ys (ps.map yP)->ts.length=many->ps.map (·.1)=names->Q (.ref t) H')->zbL K vs H Q E
theorem zl6:¬(V.str "told"=V.str "once"):=by decide +kernel
theorem zcF:zp ["_law_specs_here","_law_told","_law_coming","_law_p"] ["_law_specs_here","_law_told","_law_coming"] (zi u9):=fsc
theorem ziE(F:Fun K "_law_settled" "_law_settled" u9 f fd)(cLo:⇑2 "_law_loose" g1 d1 ["_law_specs_here"] jJ):↥3 f fd ["_law_specs_here","_law_told","_law_coming"] zfP:=by
 specialize zcF;obtain⟨la,Dt,first,us,rows,uts,ds,rfl,hla,hus,V1,hDt,pr,pg,q⟩:=h
 have hu:=vA hr;have lf:(zR rows).length<=24:=le_trans (length_filter_le _ _) (by rw[length_range];exact V1.l24)
 have lds:ds.length=(zR rows).length:=pg.length.symm;refine zr (yr PassesOwn.never rfl (yb (cF cLo hr (ac (pv 0) zb))) (zl (i:=3) zcF.nd rfl (Or.inl rfl)) zW) ?_;exists _,rfl,la,us,rows,rfl,hla,hus,V1,fun ll H1 s1 nll hll=>?_;have nlD:ll≠Dt:=fun e=>by rw[e,hDt] at nll;cases nll
 refine⟨ll,rfl,⟨_,zc hll⟩,yY (K:=K) (a:=ll) (xs:=(zR rows).map fun n=>V.int (n:Nat)) (fun i σ H'=>∃(v3:Option V) (uts:List Addr),σ=[~~~la,~~~Dt,some (.int (first+(yj (ds.take i):Nat))),v3]/\SX Dt H H'/\H' ll=some (.lst ((zR rows).map fun n=>V.int (n:Nat)))/\H' Dt=some (.dK (yX (zR rows) uts))/\uts.length=ds.length/\Paired (RAt H') uts (xr first (ds.take i)++ds.drop i))
  ⟨_,uts,by rw[take_zero,show first+((yj []:Nat):Int)=first from Int.add_zero first];rfl,fun b u e _=>s1 _ _ e,hll,s1 _ _ hDt,pr.length,by rw[take_zero,List.drop_zero];exact jb s1 pr⟩ (fun i σ H' _ ⟨_,_,_,_,e,_⟩=>zc e) ?_ ?_⟩
 ·rintro i y σ H2 hy ⟨v3,uts,rfl,s2,hl2,hD2,lut,pr⟩
  obtain⟨j,hj,rfl⟩:=uN hy;have hil:i<ds.length:=by rw[lds];exact(List.getElem?_eq_some_iff.mp hj).1
  have hdi:ds[i]?=some ds[i]:=aB hil;generalize ds[i]=d at hdi;have es:=zaj (n:=first) hdi
  have et:=zar hdi;have lsd:(xr first (ds.take i)).length=i:=by rw[vH,length_take];omega
  have hut:uts[i]?=some uts[i]:=aB ∅
  have hdr:(xr first (ds.take i)++ds.drop i)[i]?=some d:=by
   rw[getElem?_append_right ∅,lsd,sub_self,List.getElem?_drop,Nat.add_zero]
   exact hdi
  obtain⟨d2,e1,rt⟩:=zU pr hut;rw[hdr] at e1;cases e1;generalize uts[i]=u at hut rt;have hdd:ds.drop i=d::ds.drop (i+1):=by
   rw[List.drop_eq_getElem_cons hil]
   congr 1
   exact(List.getElem?_eq_some_iff.mp hdi).2
  have hget:xP H2 Dt (.int (j:Nat)) (~~~u):=by
   have:=xP.k (k:=Sum.inl (j:Int)) hD2
   rw[w5 (xB rows) hj hut] at this;exact this
  have hSt:SqT K H2 u d.row:=zz rt;exfalso;exists _,zd (zJ (zn ye (zu zL (yT hu (pv 1) (pv 3) (fun _ _=>rfl)) zh (fun _ _=>rfl)) zw (zv _)) (zk (vV hu (pv 1) (pv 3) (zQ (ac zw (ac (pv 2) zb))) rfl) (zd (zB (i:=2) zcF.nd rfl (Or.inl rfl) (zN xt (pv 2) zh)))) zx),?_;have stay:∀(h:d.k≠1),∃(v3:Option V) (uts:List Addr),([~~~la,~~~Dt,some (.int (first+(yj (ds.take i):Nat))),some (.int (j:Nat))]:L2.St)=[~~~la,~~~Dt,some (.int (first+(yj (ds.take (i+1)):Nat))),v3]/\SX Dt H H2/\H2 ll=some (.lst ((zR rows).map fun n=>V.int (n:Nat)))/\H2 Dt=some (.dK (yX (zR rows) uts))/\uts.length=ds.length/\Paired (RAt H2) uts (xr first (ds.take (i+1))++ds.drop (i+1)):=fun h=>by
   have ho:d.isOnce=false:=by unfold Df.isOnce;exact beq_false_of_ne h
   have et2:yj (ds.take (i+1))=yj (ds.take i):=by rw[et,ho];rfl
   exists _,uts,by rw[et2],s2,hl2,hD2,lut,?_
   have e1:xr (first+(yj (ds.take i):Nat)) [d]=[d]:=by cases d <;> first|rfl|exact absurd rfl h
   rw[es,e1,append_assoc];rw[hdd] at pr;exact pr
  cases d with
  | told m=>
   exists _,rfl,_,rfl,Dt,_,rfl,hget,u,_,0,_,rfl,rfl,hSt,rfl,rfl,_,rfl,?_;refine dF zl6 ?_;exact stay (fun e=>nomatch e)
  | anew=>
   exists _,rfl,_,rfl,Dt,_,rfl,hget,u,_,0,_,rfl,rfl,hSt,rfl,rfl,_,rfl,?_;refine dF znm ?_;exact stay (fun e=>nomatch e)
  | sum a' t' p'=>
   exists _,rfl,_,rfl,Dt,_,rfl,hget,u,_,0,_,rfl,rfl,hSt,rfl,rfl,_,rfl,?_;refine dF znl ?_;exact stay (fun e=>nomatch e)
  | once=>
   exists _,rfl,_,rfl,Dt,_,rfl,hget,u,_,0,_,rfl,rfl,hSt,rfl,rfl,_,rfl,?_;refine dT rfl ?_;exists _,rfl,yL,fun u2 hu2=>?_;have s21:=zg hu2 (.tup [.str "told",.int (first+(yj (ds.take i):Nat))])
   have g21:upd H2 u2 (.tup [.str "told",.int (first+(yj (ds.take i):Nat))]) u2=some (.tup [.str "told",.int (first+(yj (ds.take i):Nat))]):=za
   have pr21:=jb s21 pr;have hD21:=s21 _ _ hD2;have s1821:SX Dt H _:=s2.same s21;have hl21:=s21 _ _ hl2;generalize upd H2 u2 (.tup [.str "told",.int (first+(yj (ds.take i):Nat))])=H3 at s21 g21 pr21 hD21 s1821 hl21 |-
   exists _,rfl,_,rfl,Dt,_,rfl,zaf.k (k:=Sum.inl (j:Int)) hD21 (zE (by rw[qA ∅];omega)),?_
   rw[zha (xB rows) hj ∅]
   have nDt:∀v e,RAt H3 v e->v≠Dt:=fun v e r z=>by rw[z] at r;rw[RAt,hD21] at r;cases r
   have ho:Df.isOnce .once=true:=rfl;rw[ho,aK rfl] at et;have e8:V.int (first+(yj (ds.take i):Nat)+1)=V.int (first+(yj (ds.take (i+1)):Nat)):=by rw[et];congr 1;omega
   exists _,rfl,_,_,rfl,rfl,some (.int (j:Nat)),uts.set i u2,by rw[<- e8];rfl,s1821.upd,by rw[zf nlD];exact hl21,za,by rw[length_set];exact lut,?_
   have gx:RAt H3 u2 (.told (first+(yj (ds.take i):Nat))):=g21
   have:=zbR (i:=i) pr21 gx
   rw[List.set_append_right _ _ ∅,lsd,sub_self,hdd] at this
   rw[es,append_assoc];exact zm (fun _ _ z=>RAt.upd z (nDt _ _ z)) this
 ·rintro σ H2 ⟨v3,uts,rfl,s2,hl2,hD2,lut,pr⟩
  rw[aA,<- lds,take_length,List.drop_length,append_nil] at pr;rw[aA,<- lds,take_length];exact⟨_,zd (zt (pv 2)),_,rfl,q uts H2 s2 hD2 pr⟩
theorem xz:zp ["_law_many","_law_names","_law_cell","_law_things","_law_pairs","_law_rest","_law_k","_law_thing","_law_name_here"] ["_law_many","_law_names","_law_cell"] (zi zbh):=fsc
theorem ze5(F:Fun K "_law_handed" "_law_handed" zbh f fd)(T:uz mg)(cX:⇑4 "_law_next_thing" g1 d1 ["_law_cell"] zaV):↥5 f fd ["_law_many","_law_names","_law_cell"] (zbL K):=by
 specialize xz;obtain⟨many,ln,cc,names,rfl,hln,lm,l5,q⟩:=h;refine xz[3]'(zZ zb);exists x8,fun lt hlt=>?_;exfalso
 injections lt hlt H1 s1 g1
 refine xz[4]'(zZ zb);exists x8,fun lp hlp=>?_;have s2:=zg hlp (.lst []);have p2:upd H1 lp (.lst []) lp=some (.lst []):=za;have g2:=s2 _ _ g1;have ntp:lt≠lp:=ze g1 hlp;have nlp:H lp=none:=s1.free hlp;have s02:=s1.trans s2;exfalso;generalize upd H1 lp (.lst [])=H2 at s2 p2 g2 s02 |-;clear s1 s2 g1 hlp;refine xz[5]'(pv 2);exists _,rfl,?_;exfalso;refine zr (yr PassesOwn.never rfl (yO rfl T.range (ac (pv 0) zb)) (zl (i:=6) xz.nd rfl (Or.inl rfl)) zW) ?_;exists _,rfl,((many:Nat):Int),rfl,∅,∅,?_
 rw[show((many:Nat):Int).toNat=many from rfl];refine xH (n:=many) (fun i σ H'=>∃(v6 v7:Option V) (ya:Int) (ts:List Int),σ=[some (.int (many:Nat)),~~~ln,some (.int cc),~~~lt,~~~lp,some (.int ya),v6,v7,none]/\zq H H'/\H' lp=some (.lst [])/\H' lt=some (.lst (ts.map V.int))/\ts.length=i) ⟨_,_,cc,[],rfl,s02,p2,g2,rfl⟩ ?_ ?_
 ·rintro i σ H3 hi ⟨v6,v7,ya,ts,rfl,s3,p3,g3,lts⟩
  rw[Int.zero_add];exfalso;refine zr (y8 (cF cX hr (ac (pv 5) zb)) (yi rfl (zo (zl (i:=7) xz.nd rfl (Or.inl rfl)) (zo (zl (i:=5) xz.nd rfl (Or.inl rfl)) zT)))) ?_;exists _,rfl,ya,rfl,fun t n rest' H4 s4 ht=>?_;exists t,_,rfl,zz ht,rfl,_,_,rfl,_,_,rfl,rfl,?_;exfalso;have g4:=s4 _ _ g3;exists _,zd (zG (yt PySem.F.plainAttrs_list PySem.F.slot_list_append PySem.F.type_list_append zK (pv 3) (ac (pv 7) zb))),?_;exists _,rfl,.inl ⟨rfl,_,zc g4⟩,_,rfl,lt,_,_,rfl,rfl,g4,zE (by rw[aA];omega),?_
  exact⟨_,_,rest',ts++[n],rfl,yw (s3.trans s4) hlt _,by rw[zf ntp.symm];exact s4 _ _ p3,by rw[za,aE];rfl,by rw[aG,lts];rfl⟩
 clear s02 p2 g2;rintro σ H2 ⟨v6,v7,ya,ts,rfl,s2,p2,g2,lts⟩;refine zr (yr PassesOwn.never rfl (yb (pv 1)) (zl (i:=8) xz.nd rfl (Or.inl rfl)) zW) ?_;exists _,rfl,ln,rfl,⟨_,zc (s2 _ _ hln)⟩,yY (K:=K) (a:=ln) (xs:=names.map V.str) (fun i σ H'=>∃(v7 v8:Option V) (ya:Int) (ps:List (Str×Int)) (ys:List V),σ=[some (.int (many:Nat)),~~~ln,some (.int cc),~~~lt,~~~lp,some (.int ya),v6,v7,v8]/\zq H H'/\H' lt=some (.lst (ts.map V.int))/\H' lp=some (.lst ys)/\Paired (zI K (fun a=>a≠lp) H' 1) ys (ps.map yP)/\ps.map (·.1)=names.take i) ⟨_,_,ya,[],[],rfl,s2,g2,p2,.nil,rfl⟩ (fun i σ H' _ ⟨_,_,_,_,_,_,sH,_⟩=>zc (sH _ _ hln)) ?_ ?_
 ·rintro i x σ H3 hx ⟨v7,v8,ya,ps,ys,rfl,s3,g3,p3,h3,e3⟩
  obtain⟨z,hz,rfl⟩:=strs_at hx;have hi:i<names.length:=(List.getElem?_eq_some_iff.mp hz).1;have lps:ps.length=i:=by
   have:=congrArg List.length e3
   rw[aA,length_take] at this;omega
  have lys:ys.length=i:=by rw[h3.length,aA,lps]
  exfalso;refine zr (y8 (cF cX hr (ac (pv 5) zb)) (yi rfl (zo (zl (i:=7) xz.nd rfl (Or.inl rfl)) (zo (zl (i:=5) xz.nd rfl (Or.inl rfl)) zT)))) ?_;exists _,rfl,ya,rfl,fun t n rest' H4 s4 ht=>?_;exists t,_,rfl,zz ht,rfl,_,_,rfl,_,_,rfl,rfl,?_;exfalso;have p4:=s4 _ _ p3;exists _,zd (zG (yt PySem.F.plainAttrs_list PySem.F.slot_list_append PySem.F.type_list_append zK (pv 4) (ac (zQ (ac (pv 8) (ac (pv 7) zb))) zb))),?_;exists _,rfl,.inl ⟨rfl,_,zc p4⟩,_,rfl,_,rfl,yL,fun u hu'=>?_;have s5:=zg hu' (.tup [.str z,.int n]);exists lp,_,_,rfl,rfl,s5 _ _ p4,zE ∅,?_
  refine⟨_,_,rest',ps++[(z,n)],ys++[.ref u],rfl,yw (s3.trans (s4.trans s5)) nlp _,by rw[zf ntp];exact(s4.trans s5) _ _ g3,za,?_,by rw[aE,e3,take_add_one,hz];rfl⟩
  rw[aE];exact yJ (zm (fun _ _ y=>yW (s5 _ _ p4) (fun b o=>⟨o,o⟩) (y.same (s4.trans s5))) h3) (.cons (yW (s5 _ _ p4) (fun b o=>⟨o,o⟩) (zI.tup (zz za) (.cons .str (.cons .int .nil)))) .nil)
 rintro σ H3 ⟨v7,v8,ya,ps,ys,rfl,s3,g3,p3,h3,e3⟩;rw[aA,take_length] at e3;exists _,zd (zt (zQ (ac (pv 3) (ac (pv 4) zb)))),_,rfl,_,rfl,yL,fun t ht=>?_;have s4:=zg ht (.tup [.ref lt,.ref lp]);exact q t lt lp ts ps ys _ (s3.trans s4) za (s4 _ _ g3) (s4 _ _ p3) (zm (fun _ _ z=>(y7 (fun _ _ _=>trivial) z).same s4) h3) lts e3
def VD(d:Dt):Prop:=(∃n,d=.int n)\/(∃ts:List Int,d=.lst (ts.map Dt.int)/\ts.length<=900)\/∃ps:List (Str×Int),d=.lst (ps.map yP)/\ps.length<=900
theorem zdM{rows:List Rw}{ds:List Df}{ts:List Int}{ps:List (Str×Int)}{n:Int}(h1:ts.length<=900)(h2:ps.length<=900):∀k,∀d∈(yU rows ds ts ps n k).1,VD d
 | 0,d,h=>nomatch h
 | k+1,d,h=>by
  have ih:=zdM (rows:=rows) (ds:=ds) (n:=n) h1 h2 k;have eok:=zjN (rows:=rows) (zs:=ps.map (·.1)) (i:=k) h1 (by rw[aA];exact h2)
  have h:d∈(uC ts ps (dfF (zR rows) ds k) (yU rows ds ts ps n k) (enE rows ts.length (fpZ (ps.map (·.1))) k)).1:=h;cases e:enE rows ts.length (fpZ (ps.map (·.1))) k with
  | free=>
   rw[e] at h;rcases List.mem_append.mp h with h|h
   ·exact ih d h
   ·rw[List.mem_singleton.mp h];exact .inl ⟨_,rfl⟩
  | place i=>
   rw[e] at h;rcases List.mem_append.mp h with h|h
   ·exact ih d h
   ·rw[List.mem_singleton.mp h];exact .inl ⟨_,rfl⟩
  | name i=>
   rw[e] at h;rcases List.mem_append.mp h with h|h
   ·exact ih d h
   ·rw[List.mem_singleton.mp h];exact .inl ⟨_,rfl⟩
  | places ns=>
   rw[e] at h eok;rcases List.mem_append.mp h with h|h
   ·exact ih d h
   ·rw[List.mem_singleton.mp h];exact .inr (.inl ⟨_,rfl,by rw[aA];exact eok.1⟩)
  | names ns=>
   rw[e] at h eok;rcases List.mem_append.mp h with h|h
   ·exact ih d h
   ·rw[List.mem_singleton.mp h];exact .inr (.inr ⟨_,rfl,by rw[aA];exact eok.1⟩)
theorem zfz{ok:Addr->Prop}(hd:VD d)(h:zI K ok H 2 x d):(∃n,x=.int n/\d=.int n)\/∃l ws es,x=.ref l/\d=.lst es/\ok l/\H l=some (.lst ws)/\ws.length<=900/\∀ok',Paired (zI K ok' H 1) ws es:=by
 rcases hd with ⟨n,rfl⟩|⟨ts,rfl,l9⟩|⟨ps,rfl,l9⟩
 ·exact .inl ⟨n,xJ h,rfl⟩
 ·obtain⟨l,ws,rfl,o,hl,r⟩:=wU h
  obtain rfl:=wV r;exact .inr ⟨l,_,_,rfl,rfl,o,hl,by rw[aA];exact l9,fun _=>xX _⟩
 ·obtain⟨l,ws,rfl,o,hl,r⟩:=wU h
  exact .inr ⟨l,_,_,rfl,rfl,o,hl,by rw[r.length,aA];exact l9,fun _=>qt r⟩
inductive zdU(K:Frag)(vs:List V)(H:Hp)(Q:VK)(E:XK):Prop|mk(g:Addr)(xs:List V)(ds:List Dt)(ok:Addr->Prop):vs=[.ref g]->H g=some (.lst xs)->Paired (zI K (fun b=>b≠g/\ok b) H 2) xs ds->(∀d∈ds,VD d)->xs.length<=30->(∀H',(∀b u,H b=some u->b≠g->¬ok b->H' b=some u)->Q .non H')->zdU K vs H Q E
inductive zbM(K:Frag)(vs:List V)(H:Hp)(Q:VK)(E:XK):Prop|mk(g:Addr)(xs:List V)(ds:List Dt)(ok:Addr->Prop):vs=[.ref g]->H g=some (.lst xs)->Paired (zI K ok H 2) xs ds->(∀d∈ds,VD d)->xs.length<=30->(∀(k:Addr) (H':Hp),zq H H'->zI K (fun b=>H b=none) H' 3 (.ref k) (.lst ds)->Q (.ref k) H')->zbM K vs H Q E
theorem zd8:zp ["_law_found","_law_value"] ["_law_found"] (zi qh):=fsc
theorem zgQ(F:Fun K "_law_spoiled" "_law_spoiled" qh f fd)(T:uz mg):↥1 f fd ["_law_found"] (zdU K):=by
 specialize zd8;obtain⟨g,xs,ds,ok,rfl,hg,hx,hd,l30,q⟩:=h;refine zr (yr PassesOwn.never rfl (yb (pv 0)) (zl (i:=1) zd8.nd rfl (Or.inl rfl)) zW) ?_;refine⟨_,rfl,g,rfl,⟨_,zc hg⟩,yY (K:=K) (a:=g) (xs:=xs) (fun i σ H'=>∃(v1:Option V),σ=[~~~g,v1]/\(∀b u,H b=some u->b≠g->¬ok b->H' b=some u)/\H' g=some (.lst xs)/\∀l,V.ref l∈xs->∃ws,H' l=some (.lst ws)/\ws.length<=900+i)
  ⟨_,rfl,fun _ _ e _ _=>e,hg,fun l hl=>?_⟩ (fun i σ H' _ ⟨_,_,_,e,_⟩=>zc e) ?_ ?_⟩
 ·obtain⟨j,hj⟩:=getElem?_of_mem hl
  obtain⟨d,hd',hs⟩:=Paired.get hx hj;rcases zfz (hd d (aH hd')) hs with ⟨n,e,_⟩|⟨l',ws,es,e,_,_,h1,h2,_⟩
  ·cases e
  ·cases e;exact⟨ws,h1,∅⟩
 ·rintro i x σ H1 hxi ⟨v1,rfl,s1,g1,h1⟩
  obtain⟨d,hd',hs⟩:=Paired.get hx hxi;exfalso;exists _,zd (zJ (yA (cB wI T.isi boot_isinstance (ac (pv 1) (ac (jQ (v:=.ty "list") rfl T.list PyProof.Rows.boot_list rfl) zb)))) (zd (zG (yt PySem.F.plainAttrs_list PySem.F.slot_list_append PySem.F.type_list_append zK (pv 1) (ac ur zb)))) zx),?_;have hi:i<xs.length:=(List.getElem?_eq_some_iff.mp hxi).1;have h1':∀l,V.ref l∈xs->∃ws,H1 l=some (.lst ws)/\ws.length<=900+(i+1):=fun l hl=>let ⟨ws,a,b⟩:=h1 l hl;⟨ws,a,∅⟩
  rcases zfz (hd d (aH hd')) hs with ⟨n,rfl,_⟩|⟨l,_,es,rfl,_,o,_⟩
  ·exists _,rfl,_,_,_,_,rfl,.int _,jw K,_,rfl,?_
   refine yB ?_;exact⟨_,rfl,s1,g1,h1'⟩
  ·obtain⟨ws,hl,lw⟩:=h1 l (aH hxi)
   exists _,rfl,_,_,_,_,rfl,.lst hl,vp K,_,rfl,?_;refine xu ?_;exists _,rfl,.inl ⟨rfl,_,zc hl⟩,l,_,_,rfl,rfl,hl,zE ∅,?_
   exists _,rfl,fun b u e n1 n2=>by rw[zf (fun z=>n2 (by rw[z];exact o.2))];exact s1 b u e n1 n2,by rw[zf (Ne.symm o.1)];exact g1,fun l2 hl2=>?_
   by_cases z:l2=l
   ·exact⟨ws++[.non],by rw[z,za],by rw[aG];show ws.length+1<=_;omega⟩
   ·rw[zf z]
    exact h1' l2 hl2
 ·rintro σ H1 ⟨v1,rfl,s1,g1,h1⟩
  exists _,zd (zG (yt PySem.F.plainAttrs_list PySem.F.slot_list_append PySem.F.type_list_append zK (pv 0) (ac ur zb))),?_;exists _,rfl,.inl ⟨rfl,_,zc g1⟩,g,_,_,rfl,rfl,g1,zE ∅,?_
  exact q _ fun b u e n1 n2=>by rw[zf n1];exact s1 b u e n1 n2
abbrev rIs(K:Frag):List V->Hp->VK->Prop:=fun xs H Q=>∃x T t b,xs=[x,.ty T]/\wA K H x t/\kitOne K t (.type T)=some b/\Q (.bl b) H
abbrev rLo(K:Frag):List V->Hp->VK->Prop:=fun xs H Q=>∃p ys,xs=[.ref p]/\(SqL K H p ys\/SqT K H p ys)/\∀l,H l=none->Q (.ref l) (upd H l (.lst ys))
theorem zl7:([Str.ofString "_law_value"]:List Str).Nodup:=by decide +kernel
theorem zf4:zp ["_law_found"] ["_law_found"] (zi zbj):=fsc
theorem ze7(F:Fun K "_law_copied" "_law_copied" zbj f fd)(T:uz mg):↥1 f fd ["_law_found"] (zbM K):=by
 specialize zf4;obtain⟨g,xs,ds,ok,rfl,hg,hx,hd,l30,q⟩:=h;refine⟨_,zd (zt (xF [] ["_law_value"] [none] rfl ⟨rfl,rfl,rfl,rfl⟩ (yb (pv 0)) (yc 0) rfl rfl rfl
  (fun pins fp s H C=>⟨zl (i:=0) zl7 rfl (Or.inl rfl) (.inr rfl),yS,uG (yA (cB (r:=rIs K) wI T.isi boot_isinstance (ac (pv 0) (ac (jQ (v:=.ty "list") rfl T.list PyProof.Rows.boot_list rfl) zb)))) (cTy (r:=rLo K) xa T.list PyProof.Rows.boot_list (ac (pv 0) zb)) (pv 0)⟩))),?_⟩
 exists _,rfl,g,rfl,⟨_,zc hg⟩,fun D hD=>?_;refine qF (K:=K) (m:=2) (fun i=>ds.getD i .non) hD (zc hg) ∅ (fun i x H' Qf Qs hxi sH qf=>?_) (fun ws HF sF eF pF=>?_)
 ·obtain⟨d,hd',hs⟩:=Paired.get hx hxi
  have ed:ds.getD i .non=d:=by rw[getD_eq_getElem?_getD,hd'];rfl
  rw[ed] at qf;exists fun _=>?_,fun e=>Bool.noConfusion e;rcases zfz (hd d (aH hd')) (hs.same sH) with ⟨n,rfl,rfl⟩|⟨l,ys,es,rfl,rfl,o,hl,_,hp⟩
  ·exists _,rfl,_,_,_,_,rfl,.int _,jw K,_,rfl,?_
   refine yB ?_;exact⟨_,rfl,qf _ _ (zq.refl _) .int⟩
  ·exists _,rfl,_,_,_,_,rfl,.lst hl,vp K,_,rfl,?_
   refine xu ?_;exists _,rfl,l,_,rfl,.inl (zc hl),fun l2 hl2=>?_;have s2:=zg hl2 (.lst ys);exact qf _ _ s2 (zI.lst hl2 za (zm (fun _ _ z=>z.same s2) (hp _)))
 ·have lds:ds.length=xs.length:=hx.length.symm
  have:(List.range xs.length).map (fun i=>ds.getD i .non)=ds:=by
   refine ext_getElem (by simp [lds]) fun i h1 h2=>?_
   simp at h1 h2;simp [h2]
  rw[this] at pF;exact q D HF sF (zI.lst hD eF (zm (fun _ _ z=>y7 (fun _ h _=>h.2) z) pF))
theorem uL:yu [.row ts,.book ps]=ts:=by simp [yu,itT]
theorem uM:xj [.row ts,.book ps]=ps:=by simp [xj,itP]
theorem zhO{n:Int}{k:Nat}:wc rows ds [.row ts,.book ps] n k=yU rows ds ts ps n k:=by
 unfold wc yU zS;rw[uL,uM]
theorem zeo:uJ rows bars [.row ts,.book ps]=xR rows bars ts.length (ps.map (·.1)):=by
 unfold uJ zS;rw[uL,uM]
def HAt(K:Frag)(ok:Addr->Prop)(H:Hp)(t:Addr):Prop:=∃g k D,H t=some (.tup [.ref g,.ref k])/\zI K ok H 3 (.ref g) (.lst D)/\zI K ok H 3 (.ref k) (.lst D)
inductive zbN(K:Frag)(c:C5)(c4:C4)(CF CW CU:Addr)(vs:List V)(H:Hp)(Q:VK)(E:XK):Prop|mk(p f wa D dw la Dt lt lp lh:Addr)(n:Int)(us:List Addr)(rows:List Rw)(bars:List Str)(us2 uts:List Addr)(ds:List Df)(ts:List Int)(ps:List (Str×Int))(ys hs:List V):vs=[.ref p,.ref la,.ref Dt,.ref lt,.ref lp,.int n,.ref wa,.ref lh]->jq c c4 CF CW CU H p f wa D dw rows bars us2 ds n->H la=some (.lst (us.map V.ref))->Paired (TAt H) us rows->xR rows bars ts.length (ps.map (·.1))=[]->ts.length<=900->ps.length<=900->H lt=some (.lst (ts.map V.int))->H lp=some (.lst ys)->Paired (zI K T' H 1) ys (ps.map yP)->H Dt=some (.dK (yX (zR rows) uts))->Paired (RAt H) uts ds->H lh=some (.lst hs)->hs.length<=100->(∀(t:Addr) (n':Int) (H':Hp),(∀b u,H b=some u->b≠wa->b≠lh->H' b=some u)->H' wa=some (.ins CW dw (wl n'))->H' lh=some (.lst (hs++[.ref t]))->HAt K (fun b=>H b=none) H' t->Q (.int n') H')->zbN K c c4 CF CW CU vs H Q E
theorem wv:zp ["_law_function","_law_specs_here","_law_told","_law_things","_law_pairs","_law_coming","_law_well","_law_held","_law_handed_here","_law_sizes","_law_turn","_law_due","_law_found"] ["_law_function","_law_specs_here","_law_told","_law_things","_law_pairs","_law_coming","_law_well","_law_held"] (zi zbk):=fsc
theorem ze8(F:Fun K "_law_called" "_law_called" zbk f fd)(T:uz mg)(WC:jB K mg CW)(mA:y6 K CW "ahead" gA)(GA:↥1 gA eA ["self"] (jK CW))(bA:zM K eA ["self"] [])
  (cVa:⇑1 "_law_values" g1 d1 ["_law_specs_here","_law_things","_law_pairs","_law_told","_law_coming"] (zfN K)) (cAn:⇑7 "_law_answer" g2 d2 ["_law_function","_law_handed_here"] (zcC K c c4 CF CW CU)) (cSp:⇑1 "_law_spoiled" g3 d3 ["_law_found"] (zdU K)) (cCo:⇑1 "_law_copied" g4 d4 ["_law_found"] (zbM K)) :
  ↥8 f fd ["_law_function","_law_specs_here","_law_told","_law_things","_law_pairs","_law_coming","_law_well","_law_held"] (zbN K c c4 CF CW CU):=by
 specialize wv;obtain⟨p,x,wa,D,dw,la,Dt,lt,lp,lh,n,us,rows,bars,us2,uts,ds,ts,ps,ys,hs,rfl,fn,hla,hus,em,l1,l2,hlt,hlp,hys,hDt,pr,hlh,lhs,q⟩:=h;have hr1:yg 1 _:=hr.mono ⋯
 have hU:=hr.units;have V1:=fn.v;have l24:=V1.l24;have lys:ys.length=ps.length:=by rw[hys.length,aA]
 refine wv[8]'(zZ (ac (zQ (ac zw (ac (pv 3) zb))) (ac (zQ (ac zw (ac (pv 4) zb))) zb)));exists _,rfl,yL,fun t1 ht1=>?_;have s1:=zg ht1 (.tup [.str "row",.ref lt]);exists _,rfl,yL,fun t2 ht2=>?_;have s2:=zg ht2 (.tup [.str "book",.ref lp]);exists yL,fun l8 hl8=>?_;have s3:=zg hl8 (.lst [.ref t1,.ref t2]);have e1:=s3 _ _ (s2 _ _ (za (H:=H) (a:=t1) (o:=.tup [.str "row",.ref lt])));have e2:=s3 _ _ (za (H:=upd H t1 (.tup [.str "row",.ref lt])) (a:=t2) (o:=.tup [.str "book",.ref lp]));have e3:upd (upd (upd H t1 (.tup [.str "row",.ref lt])) t2 (.tup [.str "book",.ref lp])) l8 (.lst [.ref t1,.ref t2]) l8=some (.lst [.ref t1,.ref t2]):=za;have s03:=s1.trans (s2.trans s3);exfalso;generalize upd (upd (upd H t1 (.tup [.str "row",.ref lt])) t2 (.tup [.str "book",.ref lp])) l8 (.lst [.ref t1,.ref t2])=H3 at e1 e2 e3 s03 |-;clear s1 s2 s3 ht1 ht2 hl8;refine wv[9]'(zZ (ac (cB zF T.len PySem.boot_len (ac (pv 3) zb)) (ac (cB zF T.len PySem.boot_len (ac (pv 4) zb)) zb)));exists _,rfl,lt,_,rfl,.inl (zc (s03 _ _ hlt)),_,rfl,lp,_,rfl,.inl (zc (s03 _ _ hlp)),yL,fun l9 hl9=>?_;rw[aA,lys];have s4:=zg hl9 (.lst [.int (ts.length:Nat),.int (ps.length:Nat)]);have g9:upd H3 l9 (.lst [.int (ts.length:Nat),.int (ps.length:Nat)]) l9=some (.lst [.int (ts.length:Nat),.int (ps.length:Nat)]):=za;have s04:=s03.trans s4;have e1:=s4 _ _ e1;have e2:=s4 _ _ e2;have e3:=s4 _ _ e3;exfalso;generalize upd H3 l9 (.lst [.int (ts.length:Nat),.int (ps.length:Nat)])=H4 at e1 e2 e3 g9 s4 s04 |-;clear s4 s03 hl9;have fn4:=fn.sx (fun b u e _=>s04 _ _ e) (s04 _ _ fn.we);have w4:=fn4.we;have hla:=s04 _ _ hla;have hus:=z8 s04 hus;have hlt:=s04 _ _ hlt;have hlp:=s04 _ _ hlp;have hys:=zm (fun _ _ z=>z.same s04) hys;have hDt:=s04 _ _ hDt;have pr:=jb s04 pr;have hlh4:=s04 _ _ hlh;have cok:∀{J:Hp},SX wa H4 J->zbC K J l8 [.row ts,.book ps]:=fun s=>by
  refine⟨⟨[.ref t1,.ref t2],zj9 (zc e3) s w4,?_⟩,by rw[uL];exact l1,by rw[uM];exact l2⟩
  refine .cons (vi (zI.tup (zz e1) (.cons .str (.cons (zI.lst trivial hlt (xX _)) .nil))) s w4) (.cons (vi (zI.tup (zz e2) (.cons .str (.cons (zI.lst trivial hlp hys) .nil))) s w4) .nil)
 have keep:∀{J:Hp}{b:Addr}{o:HO},SX wa H4 J->H4 b=some o->(∀C dx fs,o≠.ins C dx fs)->J b=some o:=fun s e n=>s _ _ e (fun z=>by rw[z,w4] at e;exact n _ _ _ (Option.some.inj e).symm)
 refine zr (yr PassesOwn.never rfl (yO rfl T.range (ac zh zb)) (zl (i:=10) wv.nd rfl (Or.inl rfl)) zW) ?_;exists 2,rfl,⋯,⋯,?_
 rw[show(2:Int).toNat=2 from rfl];refine xH (n:=2) (fun i σ H'=>∃(v10 v11 v12:Option V) (n:Int),σ=[~~~p,~~~la,~~~Dt,~~~lt,~~~lp,some (.int n),~~~wa,~~~lh,~~~l8,~~~l9,v10,v11,v12]/\SX wa H4 H'/\H' wa=some (.ins CW dw (wl n))/\(i=2->∃g vs Dd,v12=some (.ref g)/\H' g=some (.lst vs)/\Paired (zI K (fun b=>H4 b=none) H' 2) vs Dd/\(∀d∈Dd,VD d)/\vs.length<=30/\H4 g=none)) ⟨_,_,_,n,rfl,SX.refl,w4,fun h=>absurd h ⋯⟩ ?_ ?_
 ·rintro i σ J0 hi ⟨v10,v11,v12,n,rfl,x0,w0,_⟩
  rw[Int.zero_add];exfalso;refine zr (y8 (cF cVa hr1 (ac (pv 1) (ac (pv 3) (ac (pv 4) (ac (pv 2) (ac (pv 5) zb)))))) (yi rfl (zo (zl (i:=11) wv.nd rfl (Or.inl rfl)) (zo (zl (i:=5) wv.nd rfl (Or.inl rfl)) zT)))) ?_;exists _,rfl,_,rfl,_,rfl,_,rfl,_,rfl,la,lt,lp,Dt,n,us,rows,bars,uts,ds,ts,ps,ys,rfl,keep x0 hla (fun _ _ _ z=>nomatch z),zm (fun _ r z=>keep (o:=.tup (rv r)) x0 z (fun _ _ _ y=>nomatch y)) hus,V1,em,l1,l2,keep x0 hlt (fun _ _ _ z=>nomatch z),keep x0 hlp (fun _ _ _ z=>nomatch z),zm (fun _ _ z=>vi z x0 w4) hys,keep x0 hDt (fun _ _ _ z=>nomatch z),zm (fun _ d z=>keep (o:=.tup d.row) x0 z (fun _ _ _ y=>nomatch y)) pr,fn.gd,fn.no,fun tv gd J1 t1' htv hgd=>?_;exists tv,_,rfl,zz htv,rfl,_,_,rfl,_,_,rfl,rfl,?_;exfalso;have x1:SX wa H4 J1:=x0.same t1';have w1:=t1' _ _ w0;have fn1:=fn4.sx x1 w1;clear htv;refine wv[12]'(cF cAn hr (ac (pv 0) (ac (pv 8) zb)));exists _,rfl,_,rfl,p,x,wa,D,dw,l8,rows,bars,us2,ds,n,[.row ts,.book ps],rfl,fn1,cok x1,fun _ g vs J2 x12 ng hg hv w2=>?_,fun h=>absurd (by rw[zeo];exact em) h
  rw[zhO] at hv w2;exfalso;have x2:SX wa H4 J2:=fun b u e nb=>x12 _ _ (x1 _ _ e nb) nb;have hvd:=zdM (rows:=rows) (ds:=ds) (n:=n) l1 l2 rows.length;have lvs:vs.length<=30:=by rw[hv.length];have:=wp (ts:=ts) (ps:=ps) (df:=dfF (zR rows) ds) (es:=enE rows ts.length (fpZ (ps.map (·.1)))) (n:=n) rows.length;show(uV _ _ _ _ _ _).1.length<=30;omega
  have hgd2:=vi hgd x12 w1;generalize (yU rows ds ts ps n rows.length).1=Dd at hv hvd hgd2;generalize (yU rows ds ts ps n rows.length).2=n2 at w2 |-;have ng4:H4 g=none:=jL x1 w1 ng;refine zr (zJ (yy (vy (wL (yA (cB wI T.isi boot_isinstance (ac (pv 12) (ac (jQ (v:=.ty "list") rfl T.list PyProof.Rows.boot_list rfl) zb))))) (vy (zn (zgD hU) (pv 12) (pv 11) (zv _)) (wx (zn qx (yk (pv 6) WC.cl mA GA hr1 bA .nil zY) (pv 5) (zv _)))))) (zd (zt ur)) zx) ?_;exists _,rfl,_,_,_,_,rfl,.lst hg,vp K,_,rfl,?_;refine yB ?_;exists _,rfl,_,rfl,g,gd,2,.lst Dd,fun b=>J1 b=none,_,rfl,rfl,⋯,zI.lst ng hg (zm (fun _ _ z=>y7 (fun _ o _=>o.2) z) hv),hgd2,_,rfl,?_
  refine yB ?_;exists _,rfl,wa,dw,_,rfl,w2,wP _ nm2,wa,dw,_,rfl,w2,_,rfl,rfl,_,rfl,?_;refine yR (by rw[aC rfl];rfl) ?_
  refine zr (zJ (zn ye (pv 10) zh (zv _)) (zd (zG (cF cSp hr1 (ac (pv 12) zb)))) zx) ?_;refine xC (fun σ' J'=>σ'=[~~~p,~~~la,~~~Dt,~~~lt,~~~lp,some (.int n2),~~~wa,~~~lh,~~~l8,~~~l9,some (.int (i:Nat)),~~~gd,~~~g]/\SX wa H4 J'/\J' wa=some (.ins CW dw (wl n2))/\(i=1->J'=J2)) ?_ (fun key=>?_);rotate_left
  ·exists _,rfl,rfl,_,rfl,?_
   by_cases h0:i=0
   ·subst h0
    refine dT rfl ?_;exists _,rfl,g,vs,Dd,fun b=>J1 b=none,rfl,hg,hv,hvd,lvs,fun J3 k3=>?_;have k13:∀b u,J1 b=some u->b≠wa->J3 b=some u:=fun b u e nb=>k3 _ _ (x12 _ _ e nb) (fun z=>by rw[z,ng] at e;cases e) (fun (z:J1 b=none)=>by rw[e] at z;cases z)
    refine key _ _ ⟨rfl,fun b u e nb=>k13 _ _ (x1 _ _ e nb) nb,k3 _ _ w2 (fun z=>by rw[z] at w1;rw[ng] at w1;cases w1) (fun (z:J1 wa=none)=>by rw[w1] at z;cases z),fun h=>absurd h ⋯⟩
   ·have:i=1:=by omega
    subst this;refine dF ⋯ ?_
    exact key _ _ ⟨rfl,x2,w2,fun _=>rfl⟩
  rintro σ J3 ⟨rfl,x3,w3,j3⟩;exists _,zd (zJ (zn (zgD hU) (zZ (ac (cB zF T.len PySem.boot_len (ac (pv 3) zb)) (ac (cB zF T.len PySem.boot_len (ac (pv 4) zb)) zb))) (pv 9) (zv _)) (zd (zt ur)) zx),?_;exists _,rfl,lt,_,rfl,.inl (zc (keep x3 hlt (fun _ _ _ z=>nomatch z))),_,rfl,lp,_,rfl,.inl (zc (keep x3 hlp (fun _ _ _ z=>nomatch z))),yL,fun ln hln=>?_;rw[aA,lys];have s4:=zg hln (.lst [.int (ts.length:Nat),.int (ps.length:Nat)]);have gn:upd J3 ln (.lst [.int (ts.length:Nat),.int (ps.length:Nat)]) ln=some (.lst [.int (ts.length:Nat),.int (ps.length:Nat)]):=za;exists _,rfl,ln,l9,3,.lst [.int (ts.length:Nat),.int (ps.length:Nat)],T',T',rfl,rfl,⋯,zI.lst trivial gn (.cons .int (.cons .int .nil)),zI.lst trivial (s4 _ _ (keep x3 g9 (fun _ _ _ z=>nomatch z))) (.cons .int (.cons .int .nil)),_,rfl,?_
  refine yB ?_;exists _,_,_,n2,rfl,x3.same s4,s4 _ _ w3,fun h=>?_
  have:=j3 ∅
  subst this;exact⟨g,vs,Dd,rfl,s4 _ _ hg,zm (fun _ _ z=>(y7 (fun b o _=>jL x1 w1 o.2) z).same s4) hv,hvd,lvs,ng4⟩
 rintro σ J0 ⟨v10,v11,v12,n,rfl,x0,w0,h2⟩;obtain⟨g,vs,Dd,rfl,hg,hv,hvd,lvs,ng⟩:=h2 rfl;refine zr (zG (yt PySem.F.plainAttrs_list PySem.F.slot_list_append PySem.F.type_list_append zK (pv 7) (ac (zQ (ac (pv 12) (ac (cF cCo hr1 (ac (pv 12) zb)) zb))) zb))) ?_;have hlh0:=keep x0 hlh4 (fun _ _ _ z=>nomatch z);exists _,rfl,.inl ⟨rfl,_,zc hlh0⟩,_,rfl,_,rfl,g,vs,Dd,_,rfl,hg,hv,hvd,lvs,fun k J1 s1 hk=>?_;exists yL,fun t ht=>?_;have s2:=zg ht (.tup [.ref g,.ref k]);have s12:=s1.trans s2;have gt:upd J1 t (.tup [.ref g,.ref k]) t=some (.tup [.ref g,.ref k]):=za;have hlh2:=s12 _ _ hlh0;have w2:=s12 _ _ w0;have hk:=hk.same s2;have hv2:=zm (fun _ _ z=>z.same s12) hv;have hg2:=s12 _ _ hg;generalize upd J1 t (.tup [.ref g,.ref k])=J2 at s2 s12 gt hlh2 w2 hk hv2 hg2 |-;exists lh,_,_,rfl,rfl,hlh2,zE ∅,?_
 exists _,zd (zt (pv 5)),_,rfl,?_;have nh:lh≠wa:=zV hlh4 w4 (by intro z;cases z)
 have nH:∀b,H4 b=none->H b=none:=fun b=>s04.free;have gr:∀{m:Nat}{x:V}{d:L2.Dt},zI K (fun b=>H4 b=none) J2 m x d->zI K (fun b=>H b=none) (upd J2 lh (.lst (hs++[.ref t]))) m x d:=fun z=>yW hlh2 (fun b o=>⟨nH b o,fun e=>by rw[e,hlh4] at o;cases o⟩) z
 refine q t n _ (fun b u e n1 n2=>by rw[zf n2];exact s12 _ _ (x0 _ _ (s04 _ _ e) n1)) (by rw[zf nh.symm];exact w2) za ⟨g,k,Dd,?_,gr (zI.lst ng hg2 hv2),gr (y7 (fun b o _=>jL x0 w0 o) hk)⟩
 rw[zf (fun z=>by rw[z,hlh2] at gt;cases gt)]
 exact gt
def FT(c:C5)(c4:C4)(CF CW CU:Addr)(H:Hp)(x wa dw:Addr)(rows:List Rw)(bars:List Str)(n:Int)(p Dt:Addr):Prop:=∃(D:Addr) (us2 uts:List Addr) (ds:List Df),jq c c4 CF CW CU H p x wa D dw rows bars us2 ds n/\H Dt=some (.dK (yX (zR rows) uts))/\Paired (RAt H) uts ds
variable {H H':Hp}{p x wa D dw Dt a:Addr}{n n':Int}
theorem jq.far(h:jq c c4 CF CW CU H p x wa D dw rows bars us ds n)(hf:wO c CF H' x rows bars)(k:∀b u,H b=some u->b≠wa->(b=D\/∀kvs,u≠.dK kvs)->(∀ys,u≠.lst ys)->H' b=some u)(hw:H' wa=some (.ins CW dw (wl n'))):jq c c4 CF CW CU H' p x wa D dw rows bars us ds n':=by
 obtain⟨⟨dx,h1⟩,h2,h3,h4,h5,h6,h7,h8⟩:=h;exact⟨⟨dx,k _ _ h1 (qN h1 h8) (.inr fun _ z=>nomatch z) (fun _ z=>nomatch z)⟩,hf,h3,k _ _ h4 (zV h4 h8 (by intro z;cases z)) (.inl rfl) (fun _ z=>nomatch z),zm (fun _ _ z=>let n:=z.now h8;let ⟨dx,e⟩:=z;⟨dx,k _ _ e n (.inr fun _ z=>by cases z) (fun _ z=>by cases z)⟩) h5,h6,h7,hw⟩
theorem FT.far(h:FT c c4 CF CW CU H x wa dw rows bars n p Dt)(hf:wO c CF H' x rows bars)(k:∀b u,H b=some u->b≠wa->(∀ys,u≠.lst ys)->H' b=some u)(hw:H' wa=some (.ins CW dw (wl n'))):FT c c4 CF CW CU H' x wa dw rows bars n' p Dt:=by
 obtain⟨D,us2,uts,ds,h1,h2,h3⟩:=h;exact⟨D,us2,uts,ds,h1.far hf (fun b u e n _ m=>k b u e n m) hw,k _ _ h2 (zV h2 h1.we (by intro z;cases z)) (fun _ z=>nomatch z),zm (fun _ d z=>k _ (.tup d.row) z (zV z h1.we (by intro y;cases y)) (fun _ y=>nomatch y)) h3⟩
theorem HAt.keep(h:HAt K (fun b=>b≠lh) H t)(k:∀b u,H b=some u->b≠wa->b≠lh->H' b=some u)(hw:H wa=some (.ins C dx fs))(hl:H lh=some (.lst ys)):HAt K (fun b=>b≠lh) H' t:=by
 obtain⟨g,k',D,h1,h2,h3⟩:=h;have hT:∀a xs,SqT K H a xs->SqT K H' a xs:=fun a xs z=>by
  rcases z with (z|⟨o,z⟩)|z
  ·exact .inl (.inl (k _ _ z (zV z hw (by intro y;cases y)) (zV z hl (by intro y;cases y))))
  ·exact .inl (.inr ⟨o,k _ _ z (zV z hw (by intro y;cases y)) (zV z hl (by intro y;cases y))⟩)
  ·exact .inr z
 have hL:∀a xs,a≠lh->H a=some (.lst xs)->a≠lh/\H' a=some (.lst xs):=fun a xs o z=>⟨o,k _ _ z (zV z hw (by intro y;cases y)) o⟩
 exact⟨g,k',D,k _ _ h1 (zV h1 hw (by intro y;cases y)) (zV h1 hl (by intro y;cases y)),h2.frame hT hL,h3.frame hT hL⟩
inductive zaX(K:Frag)(vs:List V)(H:Hp)(Q:VK)(E:XK):Prop|mk(a:Addr)(ns:List Int):vs=[.ref a]->SqL K H a (ns.map V.int)->ns.length<=63->(∀H',Q (.bl true) H')->zaX K vs H Q E
theorem zfV:jg [] (ug oc an)=ug oc an:=rfl
theorem zng:([Str.ofString "_law_k",Str.ofString "_law_cells"]:List Str).Nodup:=by decide +kernel
theorem zmd:([Str.ofString "_law_found",Str.ofString "_law_kept"]:List Str).Nodup:=by decide +kernel
theorem xk:zp ["_law_script","_law_cells","_law_specs_here","_law_shut","_law_coming","_law_well","_law_shared_here","_law_shape_here","_law_functions","_law_tolds_here","_law_j","_law_told","_law_held","_law_cell","_law_many","_law_names","_law_rest","_law_things","_law_pairs"] ["_law_script"] (zi zks):=fsc
theorem zkO(F:Fun K "law" "law" zks f fd)(T:uz mg)(hal:mg "all"=none)
  (cN:⇑1 "_law_nth" f1 e1 ["_law_script","_law_k"] (zaU K)) (cHa:⇑3 "_law_half" f2 e2 ["_law_script"] (zfT K)) (cSp:⇑5 "_law_specs" f3 e3 ["_law_cells"] (zdV K)) (cBa:⇑5 "_law_bars" f4 e4 ["_law_cells","_law_specs_here"] (zd2 K)) (cX:⇑4 "_law_next_thing" f5 e5 ["_law_cell"] zaV)
  (WC:jB K mg CW) (UW:jr P w K mg base CX0 1 "Well" CW gW eW ["self","first"] [] (zcD CW)) (mA:y6 K CW "ahead" gA) (GA:↥1 gA eA ["self"] (jK CW)) (bA:zM K eA ["self"] []) (mD:y6 K CW "draw" gD) (GD:↥1 gD eD ["self"] (j8 CW)) (bD:zM K eD ["self"] [])
  (M1:Mk0 K c4.c1) (M2:Mk0 K c4.c2) (m1:mg "Once"=some (.ref c4.c1)) (m2:mg "Anew"=some (.ref c4.c2)) (mCF:mg "Form"= ~~~CF) (MF:Mk K CF gF) (GF:↥3 gF eF ["self","parameters","bars"] (zlG c CF)) (bF:zM K eF ["self","parameters","bars"] []) (cP:⇑5 "parameter_of" f6 e6 ["told"] (zjz K c))
  (cTo:⇑6 "_law_tolds" f7 e7 ["_law_specs_here","_law_cells"] (zdT K)) (cMa:⇑6 "_law_made" f8 e8 ["_law_shape_here","_law_specs_here","_law_told","_law_shared_here","_law_well"] (zd0 c c4 CF CW CU)) (cSe:⇑3 "_law_settled" f9 e9 ["_law_specs_here","_law_told","_law_coming"] zfP)
  (cSh:⇑5 "_law_shape" f10 e10 ["_law_specs_here","_law_known","_law_cell"] (zfR K)) (cHd:⇑5 "_law_handed" f11 e11 ["_law_many","_law_names","_law_cell"] (zbL K)) (cFi:⇑1 "_law_fits" f12 e12 ["_law_specs_here","_law_shut","_law_many","_law_names"] zd1)
  (cCa:⇑8 "_law_called" f13 e13 ["_law_function","_law_specs_here","_law_told","_law_things","_law_pairs","_law_coming","_law_well","_law_held"] (zbN K c c4 CF CW CU)) (cAn:⇑7 "_law_answer" f14 e14 ["_law_function","_law_handed_here"] (zcC K c c4 CF CW CU)) :
  ↥9 f fd ["_law_script"] (zaX K):=by
 specialize xk;obtain⟨sa,ns,rfl,hS,h63,q⟩:=h;have hr1:yg 1 _:=hr.mono ⋯
 have hr2:yg 2 _:=hr.mono ⋯
 have hr3:yg 3 _:=hr.mono ⋯
 have hr4:yg 4 _:=hr.mono ⋯
 have hr5:yg 5 _:=hr.mono ⋯
 have hr6:yg 6 _:=hr.mono ⋯
 have hr7:yg 7 _:=hr.mono ⋯
 have hU:=hr.units;refine zr (zB (i:=1) xk.nd rfl (Or.inr rfl) (cF cHa hr3 (ac (pv 0) zb))) ?_;exists _,rfl,sa,ns,rfl,hS,h63,fun ca cs H1 s1 nca hca lcs=>?_;exfalso;refine xk[2]'(cF cSp hr5 (ac (wX vS (pv 1) (xZ zh) (xZ zh)) zb));exists _,rfl,_,rfl,_,rfl,ca,_,rfl,zc hca,fun p2 hp2=>?_;obtain⟨ms,em,lm⟩:=qT cs 3 14;rw[show jI (cs.map V.int) (some 3) (some 14)=ms.map V.int from em]
 injections p2 hp2 H2 s2 g2
 exists p2,ms,rfl,zc g2,∅,fun la us rows H3 s3 nla hla hus V1=>?_
 have hca:=s3 _ _ (s2 _ _ hca);have lu:us.length=rows.length:=hus.length;have l24:=V1.l24;clear g2 hp2 em lm s1 s2 s3 nla nca hS;exfalso;refine xk[3]'(cF cBa hr5 (ac (xF ["_law_cells"] ["_law_k","_law_cells"] [none,some 1] rfl ⟨rfl,rfl,rfl,rfl⟩ (yO rfl T.range (ac (zN wM (zN zbq (cF cN hr1 (ac (pv 1) (ac zh zb))) zh) zh) zb)) (yc 0) rfl rfl rfl
   (fun pins fp s H C=>⟨zl (i:=0) zng rfl (Or.inl rfl) (.inr rfl),yS,zN zbq (cF cN hr1 (ac (pv 1) (ac (pv 0) zb))) zh⟩)) (ac (pv 2) zb)))
 exists _,rfl,ca,cs,0,rfl,zc hca,fun cb=>?_;have b0 : 0<=cb / 2 % 4:=emod_nonneg _ ⋯
 have b1:cb / 2 % 4<4:=emod_lt_of_pos _ ⋯
 obtain⟨nb,hnb⟩:=eq_ofNat_of_zero_le b0;exists _,_,rfl,rfl,⟨⋯,⋯⟩,_,_,rfl,rfl,(by show(0:Int)<4;decide),(nb:Int),by rw[hnb],∅,∅,fun D7 hD7=>?_
 rw[show(nb:Int).toNat=nb by omega]
 refine uK (n:=nb) (fun i ys H'=>zq H3 H'/\H' D7=some (.lst ys)/\∃ks:List Int,ys=ks.map V.int/\ks.length=i) ⟨zg hD7 _,za,[],rfl,rfl⟩ ?_ ?_
 ·rintro i ys H' hi ⟨sH,hDy,ks,rfl,lk⟩
  rw[Int.zero_add];exists fun _=>?_,fun e=>Bool.noConfusion e;exists _,rfl,_,rfl,ca,cs,i,rfl,zc (sH _ _ hca),fun n=>⟨_,_,rfl,rfl,⟨⋯,⋯⟩,?_⟩
  exact lcN.mk hi (xo ∅) hDy (by rw[aA];omega) ⟨yw sH hD7 _,za,ks++[_],by rw[aE];rfl,by rw[aG,lk];rfl⟩
 rintro ys H7 ⟨s7,hDy,ks,rfl,lk⟩;exists _,rfl,D7,la,ks,us,rows,rfl,zc hDy,∅,s7 _ _ hla,z8 s7 hus,V1,fun lb bars H8 s8 nlb hlb VB=>?_
 have s38:=s7.trans s8;have hca:=s38 _ _ hca;have hla:=s38 _ _ hla;have hus:=z8 s38 hus;clear hDy hD7 hnb b0 b1 s38 s7 s8 lk nlb;exfalso;refine xk[4]'(zu zL (cF cX hr4 (ac (cF cN hr1 (ac (pv 1) (ac zh zb))) zb)) zh (fun _ _=>rfl));exists _,rfl,ca,cs,1,rfl,zc hca,fun c1=>⟨c1,rfl,fun t first r H9 s9 ht=>⟨t,_,0,.int first,rfl,rfl,zz ht,rfl,?_⟩⟩
 have hca:=s9 _ _ hca;have hla:=s9 _ _ hla;have hus:=z8 s9 hus;have hlb:=s9 _ _ hlb;clear ht s9;exfalso;refine xk[5]'(cMk UW .nil zY hr2 (ac (pv 4) zb));exists _,rfl,fun wa dw hwa hdw hnw=>⟨wa,dw,first,rfl,za,⟨rfl,?_⟩⟩
 have sW:=vU (o1:=.ins CW dw []) (o2:=.ins CW dw (wl first)) hwa hdw
 have w1:upd (upd (upd H9 dw (.own wa)) wa (.ins CW dw [])) wa (.ins CW dw (wl first)) wa=some (.ins CW dw (wl first)):=za
 have hca:=sW _ _ hca;have hla:=sW _ _ hla;have hus:=z8 sW hus;have hlb:=sW _ _ hlb;exfalso;generalize upd (upd (upd H9 dw (.own wa)) wa (.ins CW dw [])) wa (.ins CW dw (wl first))=H1 at w1 hca hla hus hlb |-
 clear sW hwa hdw hnw;refine xk[6]'(zit (zbU zw (zgy M1 rfl m1) (zbU zw (zgy M2 rfl m2) zim)) rfl rfl (by simp) ⋯)
 intro sd hsd oc d1 ho1 hd1 hn1 an d2 ho2 hd2 hn2;have t1:=zg hsd (.dK []);have t2:=yQ (o1:=.ins c4.c1 d1 []) ho1 hd1;have t3:=yQ (o1:=.ins c4.c2 d2 []) ho2 hd2;have e1:=t3 _ _ (t2 _ _ (za (H:=H1) (a:=sd) (o:=.dK [])));have e2:=t3 _ _ (za (H:=upd (upd H1 sd (.dK [])) d1 (.own oc)) (a:=oc) (o:=.ins c4.c1 d1 []));have e3:upd (upd (upd (upd (upd H1 sd (.dK [])) d1 (.own oc)) oc (.ins c4.c1 d1 [])) d2 (.own an)) an (.ins c4.c2 d2 []) an=some (.ins c4.c2 d2 []):=za;have t13:=t1.trans (t2.trans t3);generalize upd (upd (upd (upd (upd H1 sd (.dK [])) d1 (.own oc)) oc (.ins c4.c1 d1 [])) d2 (.own an)) an (.ins c4.c2 d2 [])=H2 at t13 e1 e2 e3 |-;exists e1,ug oc an,rfl,(by show 2<=15;decide),?_
 rw[zfV];have k4:∀b u,H2 b=some u->(∀kvs,u≠.dK kvs)->upd H2 sd (.dK (ug oc an)) b=some u:=fun b u e n=>by rw[zf (zV e e1 (fun z=>n _ z))];exact e
 have hsh:upd H2 sd (.dK (ug oc an)) sd=some (dSh oc an):=za;have hoc:DAt c4 (upd H2 sd (.dK (ug oc an))) oc .once:=⟨d1,k4 _ _ e2 (fun _ z=>by cases z)⟩
 have han:DAt c4 (upd H2 sd (.dK (ug oc an))) an .anew:=⟨d2,k4 _ _ e3 (fun _ z=>by cases z)⟩
 have w1:=k4 _ _ (t13 _ _ w1) (fun _ z=>nomatch z);have hca:=k4 _ _ (t13 _ _ hca) (fun _ z=>nomatch z);have hla:=k4 _ _ (t13 _ _ hla) (fun _ z=>nomatch z);have hus:Paired (TAt (upd H2 sd (.dK (ug oc an)))) us rows:=zm (fun _ r z=>k4 _ (.tup (rv r)) (t13 _ _ z) (fun _ y=>nomatch y)) hus;have hlb:=k4 _ _ (t13 _ _ hlb) (fun _ z=>nomatch z);exfalso;generalize upd H2 sd (.dK (ug oc an))=H3 at hsh hoc han w1 hca hla hus hlb |-;clear k4 e1 e2 e3 t13 t1 t2 t3 hsd ho1 hd1 hn1 ho2 hd2 hn2;refine xk[7]'(zbo MF GF hr4 rfl mCF bF .nil zY (ac (xF [] ["_law_one"] [none] rfl ⟨rfl,rfl,rfl,rfl⟩ (yb (pv 2)) (yc 0) rfl rfl rfl
   (fun pins fp s H C=>⟨zl (i:=0) zen rfl (Or.inl rfl) (.inr rfl),yS,cF cP hr5 (ac (pv 0) zb)⟩)) (ac (pv 3) zb)))
 exists _,rfl,la,rfl,⟨_,zc hla⟩,fun D hD=>?_;refine zeq (K:=K) (bs:=rows) (PAt c) (fun z s=>z.same s) (fun {H v r D ys o} z h=>by obtain⟨dx,z⟩:=z;exact⟨dx,by rw[zf (zV z h (by intro y;cases y))];exact z⟩) (zc hla) (by rw[aA,lu]) ∅ hD (fun i y r H' Qf Qs hy hr' sH qf=>?_) fun fs4 H4 s4 e4 p4=>?_
 ·obtain⟨u,hu',rfl⟩:=xK hy
  obtain⟨r',hr2',tr⟩:=zU hus hu';rw[hr'] at hr2';cases hr2';have rk:=V1.ok r (aH hr');exact⟨fun _=>⟨_,rfl,u,r.k,.str r.z,r.b,rfl,rk.1,sH _ _ tr,.inl ⟨r.z,rfl,zb4 rk.2⟩,rk.2,fun pa dx H5 s5 ho=>qf pa H5 s5 ⟨dx,ho⟩⟩,fun e=>Bool.noConfusion e⟩
 exists _,rfl,?_;intro x dx hx hdx hne;have smk:zq H4 (upd (upd H4 dx (.own x)) x (.ins CF dx [])):=yQ hx hdx;have hx1:upd (upd H4 dx (.own x)) x (.ins CF dx []) x=some (.ins CF dx []):=za;generalize upd (upd H4 dx (.own x)) x (.ins CF dx [])=H5 at smk hx1 |-;exists x,D,dx,.ref lb,fs4,rows,bars,rfl,hx1,smk _ _ e4,xU smk p4,.inr ⟨lb,rfl,(s4.trans smk) _ _ hlb⟩,VB,fun H6 sx F6 L6=>⟨rfl,?_⟩;have s36:zq H3 H6:=fun b' u e=>sx b' u (smk _ _ (s4 _ _ e)) (ze (s4 _ _ e) hx);have hF:wO c CF H6 x rows bars:=⟨F6.at,∅,by have:=VB.l60;omega,V1.ok⟩
 have hca:=s36 _ _ hca;have hla:=s36 _ _ hla;have hus:=z8 s36 hus;have hlb:=s36 _ _ hlb;have w6:=s36 _ _ w1;have hsh:=s36 _ _ hsh;have hoc:DAt c4 H6 oc .once:=let ⟨d,z⟩:=hoc;⟨d,s36 _ _ z⟩;have han:DAt c4 H6 an .anew:=let ⟨d,z⟩:=han;⟨d,s36 _ _ z⟩;clear s36 F6 L6 sx smk hx1 s4 e4 p4 hx hdx hne hD w1;exfalso;refine xk[8]'(zZ zb);exists x8,fun lf hlf=>?_;exfalso
 injections lf hlf H7 t1 g1
 refine xk[9]'(zZ zb);exists x8,fun lt hlt=>?_;have t2:=zg hlt (.lst []);have g2:upd H7 lt (.lst []) lt=some (.lst []):=za;have nft:lf≠lt:=ze g1 hlt;have g1:=t2 _ _ g1;have nlt:H6 lt=none:=t1.free hlt;have t12:=t1.trans t2;clear hlt t1;exfalso;generalize upd H7 lt (.lst [])=H8 at t2 g2 g1 t12 |-;clear t2;have fo:∀{J:Hp},SX wa H6 J->wO c CF J x rows bars:=fun s=>⟨hF.at_.sx w6 (wP _ zhd) (wP _ zde) s,hF.lr,hF.lb,hF.ok⟩;have keep:∀{J:Hp}{b:Addr}{o:HO},SX wa H6 J->H6 b=some o->(∀fs,o≠.ins CW dw fs)->J b=some o:=fun s e n=>s _ _ e (fun z=>by rw[z,w6] at e;exact n _ (Option.some.inj e).symm)
 have ktu:∀{J:Hp},SX wa H6 J->Paired (TAt J) us rows:=fun s=>zm (fun _ r z=>keep (o:=.tup (rv r)) s z (fun _ y=>nomatch y)) hus;have kd:∀{J:Hp}{a:Addr}{d:Df},SX wa H6 J->DAt c4 H6 a d->DAt c4 J a d:=fun s h=>let n:=h.now w6;let ⟨d,z⟩:=h;⟨d,s _ _ z n⟩;refine zr (yr PassesOwn.never rfl (yO rfl T.range (ac zh zb)) (zl (i:=10) xk.nd rfl (Or.inl rfl)) zW) ?_;exists 2,rfl,⋯,⋯,?_
 rw[show(2:Int).toNat=2 from rfl];refine xH (n:=2) (fun i σ H'=>∃(v10 v11:Option V) (n:Int) (fs Ds:List Addr),σ=[~~~sa,~~~ca,~~~la,~~~lb,some (.int n),~~~wa,~~~sd,~~~x,~~~lf,~~~lt,v10,v11,none,none,none,none,none,none,none]/\SX wa H6 H'/\H' wa=some (.ins CW dw (wl n))/\H' lf=some (.lst (fs.map V.ref))/\H' lt=some (.lst (Ds.map V.ref))/\fs.length=i/\Ds.length=i/\∀(j:Nat) (p Dt:Addr),fs[j]?=some p->Ds[j]?=some Dt->FT c c4 CF CW CU H' x wa dw rows bars n p Dt)
  ⟨_,_,first,[],[],rfl,fun b u e _=>t12 _ _ e,t12 _ _ w6,g1,g2,rfl,rfl,fun j p Dt h=>by simp at h⟩ ?_ ?_
 ·rintro i σ J0 hi ⟨v10,v11,n,fs,Ds,rfl,x0,w0,f0,d0,lfs,lDs,hft⟩
  rw[Int.zero_add];exfalso;refine xk[11]'(cF cTo hr6 (ac (pv 2) (ac (wX vS (pv 1) (xZ (zN xt zh (zN xV zh (pv 10)))) (xZ (zN xt zh (zN xV zh (pv 10))))) zb)));exists _,rfl,_,rfl,_,rfl,_,_,rfl,rfl,.inl ⟨⋯,⋯⟩,_,_,rfl,rfl,_,rfl,_,rfl,_,_,rfl,rfl,.inl ⟨⋯,⋯⟩,_,_,rfl,rfl,_,rfl,ca,_,rfl,zc (keep x0 hca (fun _ z=>nomatch z)),fun pc hpc=>?_
  obtain⟨ms,ec,lc⟩:=qT cs (14+11 * i) (25+11 * i);rw[show(14:Int)+11 * (i:Int)=((14+11 * i:Nat):Int) by omega,show(25:Int)+11 * (i:Int)=((25+11 * i:Nat):Int) by omega,ec]
  injections pc hpc J1 t1 g1
  have x1:SX wa H6 J1:=x0.same t1;exists la,pc,ms,us,rows,rfl,zc g1,keep x1 hla (fun _ z=>nomatch z),ktu x1,V1,fun Dt uts ds J2 t2 nDt hDt pr pg=>?_;have x2:=x1.same t2;have t12:=t1.trans t2;have w2:=t12 _ _ w0;have nD0:J0 Dt=none:=t1.free nDt;exfalso;refine zr (zG (yt PySem.F.plainAttrs_list PySem.F.slot_list_append PySem.F.type_list_append zK (pv 8) (ac (cF cMa hr6 (ac (pv 7) (ac (pv 2) (ac (pv 11) (ac (pv 6) (ac (pv 5) zb)))))) zb))) ?_;exists _,rfl,.inl ⟨rfl,_,zc (t12 _ _ f0)⟩,_,rfl,_,rfl,_,rfl,_,rfl,_,rfl,x,la,Dt,sd,wa,dw,oc,an,us,rows,bars,uts,ds,n,rfl,fo x2,keep x2 hla (fun _ z=>nomatch z),ktu x2,V1,hDt,pr,pg,keep x2 hsh (fun _ z=>nomatch z),kd x2 hoc,kd x2 han,w2,fun p D us2 J3 x23 nD fn3=>?_;have f3:=x23 _ _ (t12 _ _ f0) (zV (t12 _ _ f0) w2 (by intro z;cases z))
  have d3:=x23 _ _ (t12 _ _ d0) (zV (t12 _ _ d0) w2 (by intro z;cases z))
  have D3:=x23 _ _ hDt (zV hDt w2 (by intro z;cases z))
  have pr3:Paired (RAt J3) uts ds:=zm (fun _ _ z=>x23 _ _ z (zV z w2 (by intro y;cases y))) pr
  have nDD:D≠Dt:=fun e=>by rw[e,hDt] at nD;cases nD
  have x3:SX wa H6 J3:=fun b u e nb=>x23 _ _ (x2 _ _ e nb) nb;exists lf,_,_,rfl,rfl,f3,zE (by rw[aA];omega),?_
  have k4:∀b u,J3 b=some u->b≠lf->upd J3 lf (.lst (fs.map V.ref++[.ref p])) b=some u:=fun b u e n=>by rw[zf n];exact e
  have f4:upd J3 lf (.lst (fs.map V.ref++[.ref p])) lf=some (.lst (fs.map V.ref++[.ref p])):=za;have d4:=k4 _ _ d3 nft.symm;have D4:=k4 _ _ D3 (zV D3 f3 (by intro z;cases z))
  have pr4:Paired (RAt (upd J3 lf (.lst (fs.map V.ref++[.ref p])))) uts ds:=zm (fun _ _ z=>k4 _ _ z (zV z f3 (by intro y;cases y))) pr3
  have x4:SX wa H6 (upd J3 lf (.lst (fs.map V.ref++[.ref p]))):=fun b u e nb=>k4 _ _ (x3 _ _ e nb) (ze e hlf);exfalso;generalize upd J3 lf (.lst (fs.map V.ref++[.ref p]))=J4 at k4 f4 d4 D4 pr4 x4 |-;refine xk[4]'(cF cSe hr3 (ac (pv 2) (ac (pv 11) (ac (pv 4) zb))));exists _,rfl,_,rfl,_,rfl,la,Dt,n,us,rows,uts,ds,rfl,keep x4 hla (fun _ z=>nomatch z),ktu x4,V1,D4,pr4,pg,fun uts' J5 x45 D5 pr5=>?_;exfalso;have f5:=x45 _ _ f4 (zV f4 D4 (by intro z;cases z))
  have d5:=x45 _ _ d4 (zV d4 D4 (by intro z;cases z))
  exists _,zd (zG (yt PySem.F.plainAttrs_list PySem.F.slot_list_append PySem.F.type_list_append zK (pv 9) (ac (pv 11) zb))),?_;exists _,rfl,.inl ⟨rfl,_,zc d5⟩,_,rfl,lt,_,_,rfl,rfl,d5,zE (by rw[aA];omega),?_
  have k36:∀b u,J3 b=some u->b≠wa->(b≠Dt)->b≠lf->b≠lt->upd J5 lt (.lst (Ds.map V.ref++[.ref Dt])) b=some u:=fun b u e _ n1 n2 n3=>by
   rw[zf n3];exact x45 _ _ (k4 _ _ e n2) n1
  have x6:SX wa H6 (upd J5 lt (.lst (Ds.map V.ref++[.ref Dt]))):=fun b u e nb=>by
   have e1:=x1 _ _ e nb;exact k36 _ _ (x3 _ _ e nb) nb (ze e1 nDt) (ze e hlf) (ze e nlt)
  have w3:=fn3.we;have w6':=k36 _ _ w3;have w6'':upd J5 lt (.lst (Ds.map V.ref++[.ref Dt])) wa=some (.ins CW dw (wl (n+(yj ds:Nat)))):=by
   rw[zf (zV w3 d3 (by intro z;cases z))]
   exact x45 _ _ (k4 _ _ w3 (zV w3 f3 (by intro z;cases z))) (zV w3 D3 (by intro z;cases z))
  exists _,_,n+(yj ds:Nat),fs++[p],Ds++[Dt],rfl,x6,w6'',?_,by rw[za,aE];rfl,by rw[aG,lfs];rfl,by rw[aG,lDs];rfl,fun j p' Dt' hp' hD'=>?_
  ·rw[zf nft,aE];exact f5
  ·rcases lt_or_ge j i with c1|c1
   ·rw[getElem?_append_left ∅] at hp' hD'
    refine(hft j p' Dt' hp' hD').far (fo x6) (fun b u e n1 n2=>?_) w6'';have e3:=x23 _ _ (t12 _ _ e) n1;exact k36 _ _ e3 n1 (ze e nD0) (fun z=>by rw[z,f0] at e;exact n2 _ (Option.some.inj e).symm) (fun z=>by rw[z,d0] at e;exact n2 _ (Option.some.inj e).symm)
   ·have hl:=(List.getElem?_eq_some_iff.mp hp').1
    rw[aG] at hl;have ej:j=i:=by have:[p].length=1:=rfl;omega
    subst ej;rw[getElem?_append_right ∅,lfs,sub_self] at hp'
    rw[getElem?_append_right ∅,lDs,sub_self] at hD'
    cases hp';cases hD';exists D,us2,uts',xr n ds,fn3.far (fo x6) (fun b u e n1 n2 n3=>?_) w6'',?_,?_
    ·refine k36 _ _ e n1 (fun z=>?_) (fun z=>by rw[z,f3] at e;exact n3 _ (Option.some.inj e).symm) (fun z=>by rw[z,d3] at e;exact n3 _ (Option.some.inj e).symm)
     rcases n2 with n2|n2
     ·exact nDD (n2.symm.trans z)
     ·rw[z,D3] at e;exact n2 _ (Option.some.inj e).symm
    ·rw[zf (zV D5 d5 (by intro z;cases z))];exact D5
    ·exact zm (fun _ _ z=>RAt.upd z (zV z d5 (by intro y;cases y))) pr5
 rintro σ B0 ⟨v10,v11,n,fs,Ds,rfl,x0,w0,f0,d0,lfs,lDs,hft⟩;clear g1 g2 t12 hsh hoc han kd hlf nlt;refine xk[12]'(zZ zb);exists x8,fun lh hlh=>?_;exfalso
 injections lh hlh B1 t1 g1
 refine zr (yr PassesOwn.never rfl (yb (wX vS (pv 1) (xZ zh) (xZ zh))) (zl (i:=13) xk.nd rfl (Or.inl rfl)) zW) ?_;exists _,rfl,_,rfl,_,rfl,ca,_,rfl,zc (t1 _ _ (keep x0 hca (fun _ z=>nomatch z))),fun pc hpc=>?_;obtain⟨ms,ec,lc⟩:=qT cs 36 56;rw[show jI (cs.map V.int) (some 36) (some 56)=ms.map V.int from ec];have t2:=zg hpc (.lst (ms.map V.int));have g2:upd B1 pc (.lst (ms.map V.int)) pc=some (.lst (ms.map V.int)):=za;have npl:pc≠lh:=(ze g1 hpc).symm;have g1:=t2 _ _ g1;have t12:=t1.trans t2;generalize upd B1 pc (.lst (ms.map V.int))=B2 at t2 g2 g1 t12 |-;refine⟨pc,rfl,⟨_,zc g2⟩,yY (K:=K) (a:=pc) (xs:=ms.map V.int) (fun i σ H'=>∃(v10 v13 v14 v15 v16 v17 v18:Option V) (n:Int) (ts:List Addr),σ=[~~~sa,~~~ca,~~~la,~~~lb,some (.int n),~~~wa,~~~sd,~~~x,~~~lf,~~~lt,v10,v11,~~~lh,v13,v14,v15,v16,v17,v18]/\SX wa B0 H'/\H' wa=some (.ins CW dw (wl n))/\H' pc=some (.lst (ms.map V.int))/\H' lh=some (.lst (ts.map V.ref))/\ts.length<=i/\∀t∈ts,HAt K (fun b=>b≠lh) H' t)
  ⟨_,_,_,_,_,_,_,n,[],rfl,fun b u e _=>t12 _ _ e,t12 _ _ w0,g2,g1,aF _,fun _ h=>nomatch h⟩ (fun i σ H' _ ⟨_,_,_,_,_,_,_,_,_,_,_,_,e,_⟩=>zc e) ?_ ?_⟩
 ·rintro i y σ J0 hy ⟨v10,v13,v14,v15,v16,v17,v18,n,hs,rfl,y0,z0,c0,l0,lts,hat⟩
  obtain⟨cc,hcc,rfl⟩:∃m,ms[i]?=some m/\y=.int m:=by
   rw[getElem?_map] at hy;cases e:ms[i]? with
   | none=>rw[e] at hy;cases hy
   | some m=>rw[e] at hy;exact⟨m,rfl,(Option.some.inj hy).symm⟩
  have him:i<ms.length:=(List.getElem?_eq_some_iff.mp hcc).1;have xx:∀{J:Hp},SX wa B0 J->SX wa H6 J:=fun s b u e nb=>s _ _ (x0 _ _ e nb) nb;have kb:∀{J:Hp}{b:Addr}{o:HO},SX wa B0 J->B0 b=some o->(∀fs,o≠.ins CW dw fs)->J b=some o:=fun s e n=>s _ _ e (fun z=>by rw[z,w0] at e;exact n _ (Option.some.inj e).symm)
  exfalso;refine xk[10]'(zN wM (zN wM (pv 13) zh) zh);exists _,rfl,_,_,rfl,rfl,(by show(0:Int)<5;decide),_,_,rfl,rfl,(by show(0:Int)<2;decide),?_
  obtain⟨jn,hjn⟩:=eq_ofNat_of_zero_le (emod_nonneg (cc % 5) (show(2:Int)≠0 by decide))
  have hj2:jn<2:=by have:=emod_lt_of_pos (cc % 5) (show(0:Int)<2 by decide);omega
  rw[hjn];exfalso;refine zr (y8 (cF cSh hr5 (ac (pv 2) (ac (zN vm (xF [] ["_law_one"] [none] rfl ⟨rfl,rfl,rfl,rfl⟩ (yb (pv 2)) (yc 0) rfl rfl rfl
   (fun pins fp s H C=>⟨zl (i:=0) zen rfl (Or.inl rfl) (.inr rfl),yS,zu (r:=q0 K) zL (pv 0) zh (fun _ _=>rfl)⟩)) (pv 3)) (ac (zN zbq (pv 13) zh) zb)))) (yi rfl (zo (zl (i:=14) xk.nd rfl (Or.inl rfl)) (zo (zl (i:=15) xk.nd rfl (Or.inl rfl)) (zo (zl (i:=16) xk.nd rfl (Or.inl rfl)) zT))))) ?_
  exists _,rfl,_,rfl,la,rfl,⟨_,zc (keep (xx y0) hla (fun _ z=>nomatch z))⟩,fun Dk hDk=>?_;have hus0:=ktu (xx y0);refine qE (K:=K) TAt (fun _=>true) (fun _ r=>.str r.z) hDk (keep (xx y0) hla (fun _ z=>nomatch z)) hus0 ∅ (fun i u r H' N S hu' hr' tr sH n1 s1=>?_) (fun J1 t1 hk=>?_)
  ·have rk:=V1.ok r (aH hr')
   exact⟨fun e=>⟨_,rfl,u,_,1,_,rfl,rfl,zz (sH _ _ tr),xY rk,n1 _ (zq.refl _) rfl⟩,fun e=>by cases e⟩
  rw[zeG hus0] at hk;have y1:SX wa B0 J1:=y0.same t1;have l60:=VB.l60;exists _,rfl,Dk,lb,_,_,rfl,rfl,hk,keep (xx y1) hlb (fun _ z=>nomatch z),xo (by simp only[aA];omega),fun l2 hl2=>?_
  have t2:=zg hl2 (.lst ((rows.map Rw.z).map V.str++bars.map V.str));have gl2:upd J1 l2 (.lst ((rows.map Rw.z).map V.str++bars.map V.str)) l2=some (.lst ((rows.map Rw.z++bars).map V.str)):=by rw[za,aE]
  generalize upd J1 l2 (.lst ((rows.map Rw.z).map V.str++bars.map V.str))=J2 at t2 gl2 |-;have y2:SX wa B0 J2:=y1.same t2;exists _,rfl,_,_,rfl,rfl,⟨⋯,⋯⟩,?_
  exists la,l2,_,us,rows,rows.map Rw.z++bars,rfl,keep (xx y2) hla (fun _ z=>nomatch z),ktu (xx y2),V1,gl2,fun z hz=>?_,by rw[aG,aA];omega,fun t ln many names ya J3 t3 ht hln lm lnm=>?_
  ·rcases List.mem_append.mp hz with hz|hz
   ·exact zbD V1 z hz
   ·exact VB.bn z hz
  exists t,_,rfl,zz ht,rfl,_,_,rfl,_,_,rfl,_,_,rfl,rfl,?_;exfalso;refine zr (y8 (cF cHd hr5 (ac (pv 14) (ac (pv 15) (ac (pv 16) zb)))) (yi rfl (zo (zl (i:=17) xk.nd rfl (Or.inl rfl)) (zo (zl (i:=18) xk.nd rfl (Or.inl rfl)) zT)))) ?_;exists _,rfl,_,rfl,_,rfl,many,ln,ya,names,rfl,hln,∅,∅,fun t' at_ ap ts ps ys J4 t4 ht' hat' hap hys ets eps=>?_
  exists t',_,rfl,zz ht',rfl,_,_,rfl,_,_,rfl,rfl,?_;exfalso;have t14:=t1.trans (t2.trans (t3.trans t4));have hln:=t4 _ _ hln;have y4:SX wa B0 J4:=y0.same t14;have z4:=t14 _ _ z0;have c4':=t14 _ _ c0;have l4:=t14 _ _ l0;have hat4:∀t∈hs,HAt K (fun b=>b≠lh) J4 t:=fun t h=>(hat t h).keep (fun b u e _ _=>t14 _ _ e) z0 l0;clear t1 t2 t3 t4 ht ht' hk gl2 hDk hl2 t14 y1 y2 z0 c0 l0 hat;have nlw:lh≠wa:=zV l4 z4 (by intro z;cases z)
  have npw:pc≠wa:=zV c4' z4 (by intro z;cases z)
  obtain⟨p,hp⟩:∃p,fs[jn]?=some p:=⟨_,aB ∅⟩
  obtain⟨Dt,hDt⟩:∃p,Ds[jn]?=some p:=⟨_,aB ∅⟩
  have fp:atI (fs.map V.ref) (jn:Int)=some (.ref p):=yF (by rw[getElem?_map,hp];rfl)
  have dp:atI (Ds.map V.ref) (jn:Int)=some (.ref Dt):=yF (by rw[getElem?_map,hDt];rfl)
  have ft:=hft jn p Dt hp hDt;have f4:∀{J:Hp},SX wa B0 J->J lf=some (.lst (fs.map V.ref)):=fun s=>kb s f0 (fun _ z=>nomatch z);have d4:∀{J:Hp},SX wa B0 J->J lt=some (.lst (Ds.map V.ref)):=fun s=>kb s d0 (fun _ z=>nomatch z);exists _,zd (zJ (zn ye (zN wM (pv 13) zh) zh (zv _)) zW zW),?_;exists _,rfl,_,_,rfl,rfl,(by show(0:Int)<5;decide),rfl,_,rfl,?_
  refine vE (fun _=>?_) (fun _=>?_)
  ·refine zr (zJ (zn qx (yk (pv 5) WC.cl mD GD hr1 bD .nil zY) (pv 4) (zv _)) (zd (zt vz)) zx) ?_
   exists _,rfl,wa,dw,_,rfl,z4,wP _ nm1,wa,dw,_,rfl,z4,_,rfl,rfl,_,rfl,?_;refine yR (by rw[aC rfl];rfl) ?_
   exists _,zd (zB (i:=4) xk.nd rfl (Or.inl rfl) (zN xt (pv 4) zh)),?_;exists _,rfl,_,_,rfl,rfl,?_;exact⟨_,_,_,_,_,_,_,n+1,hs,rfl,y4.upd,za,by rw[zf npw];exact c4',by rw[zf nlw];exact l4,le_succ_of_le lts,fun t h=>(hat4 t h).keep (fun b u e n1 _=>by rw[zf n1];exact e) z4 l4⟩
  exists _,zd (zJ (yA (cF cFi hr1 (ac (pv 2) (ac (pv 3) (ac (pv 14) (ac (pv 15) zb)))))) zW zW),?_;exists _,rfl,_,rfl,_,rfl,_,rfl,la,lb,ln,many,us,rows,bars,names,rfl,keep (xx y4) hla (fun _ z=>nomatch z),ktu (xx y4),VB,keep (xx y4) hlb (fun _ z=>nomatch z),hln,∅,fun J5 t5=>⟨_,rfl,?_⟩
  have y5:SX wa B0 J5:=y4.same t5;have z5:=t5 _ _ z4;have c5:=t5 _ _ c4';have l5:=t5 _ _ l4;have hat5:∀t∈hs,HAt K (fun b=>b≠lh) J5 t:=fun t h=>(hat4 t h).keep (fun b u e _ _=>t5 _ _ e) z4 l4;have h1:=t5 _ _ hat';have h2:=t5 _ _ hap;have h3:=zm (fun _ _ z=>z.same t5) hys;have ft5:=ft.far (fo (xx y5)) (fun b u e n1 _=>y5 _ _ e n1) z5;have emE:xR rows bars ts.length (ps.map (·.1))=xR rows bars many names:=by rw[ets,eps]
  have lps:ps.length<=25:=by rw[<- eps,aA] at lnm;exact lnm
  clear hat' hap hys hat4 z4 c4' l4 t5;obtain⟨D,us2,uts,ds,fn5,hD5,pr5⟩:=ft5;by_cases em:xR rows bars many names=[]
  ·refine xE (aC em) ?_
   refine xk[4]'(cF cCa hr (ac (zu zy (pv 8) (pv 10) (fun _ _=>rfl)) (ac (pv 2) (ac (zu zy (pv 9) (pv 10) (fun _ _=>rfl)) (ac (pv 17) (ac (pv 18) (ac (pv 4) (ac (pv 5) (ac (pv 12) zb)))))))));exists _,rfl,_,rfl,lf,_,_,_,rfl,rfl,zc (f4 y5),fp,_,rfl,_,rfl,_,rfl,lt,_,_,_,rfl,rfl,zc (d4 y5),dp,_,rfl,_,rfl,_,rfl,_,rfl,_,rfl,?_;exists p,x,wa,D,dw,la,Dt,at_,ap,lh,n,us,rows,bars,us2,uts,ds,ts,ps,ys,hs.map V.ref,rfl,fn5,keep (xx y5) hla (fun _ z=>nomatch z),ktu (xx y5),by rw[emE];exact em,∅,∅,h1,h2,h3,hD5,pr5,l5,by rw[aA];omega,fun t n' J6 k6 z6 l6 ha6=>?_
   exfalso;exists _,zd (zJ (xL (qp (pv 4))) (zd (zt vz)) zx),?_;exists _,rfl,_,rfl,?_;refine yR rfl ?_;exists _,_,_,_,_,_,_,n',hs++[t],rfl,fun b u e nb=>k6 _ _ (y5 _ _ e nb) nb (ze e hlh),z6,k6 _ _ c5 npw npl,by rw[l6,aE];rfl,by rw[aG];exact Nat.succ_le_succ lts,fun t' h=>?_
   rcases List.mem_append.mp h with h|h
   ·exact(hat5 t' h).keep k6 z5 l5
   ·rw[List.mem_singleton.mp h]
    obtain⟨g,k,Dd,a1,a2,a3⟩:=ha6;exact⟨g,k,Dd,a1,y7 (fun b o _ e=>by rw[e,l5] at o;cases o) a2,y7 (fun b o _ e=>by rw[e,l5] at o;cases o) a3⟩
  ·refine yR (aD em) ?_
   exists _,zd (zJ (yy (vy (xL (zeh (cF cAn hr7 (ac (zu zy (pv 8) (pv 10) (fun _ _=>rfl)) (ac (zZ (ac (zQ (ac zw (ac (pv 17) zb))) (ac (zQ (ac zw (ac (pv 18) zb))) zb))) zb))))) (wx (zn qx (yk (pv 5) WC.cl mA GA hr1 bA .nil zY) (pv 4) (zv _))))) (zd (zt vz)) zx),?_;exists _,rfl,_,rfl,lf,_,_,_,rfl,rfl,zc (f4 y5),fp,_,rfl,yL,fun a1 ha1=>?_;have s1:=zg ha1 (.tup [.str "row",.ref at_]);exists _,rfl,yL,fun a2 ha2=>?_;have s2:=zg ha2 (.tup [.str "book",.ref ap]);exists yL,fun a3 ha3=>?_;have s3:=zg ha3 (.lst [.ref a1,.ref a2]);have e1:=s3 _ _ (s2 _ _ (za (H:=J5) (a:=a1) (o:=.tup [.str "row",.ref at_])));have e2:=s3 _ _ (za (H:=upd J5 a1 (.tup [.str "row",.ref at_])) (a:=a2) (o:=.tup [.str "book",.ref ap]));have e3:upd (upd (upd J5 a1 (.tup [.str "row",.ref at_])) a2 (.tup [.str "book",.ref ap])) a3 (.lst [.ref a1,.ref a2]) a3=some (.lst [.ref a1,.ref a2]):=za;have s13:=s1.trans (s2.trans s3);generalize upd (upd (upd J5 a1 (.tup [.str "row",.ref at_])) a2 (.tup [.str "book",.ref ap])) a3 (.lst [.ref a1,.ref a2])=J6 at e1 e2 e3 s13 |-;have z6:=s13 _ _ z5;have h3:=zm (fun _ _ z=>z.same s13) h3;exists p,x,wa,D,dw,a3,rows,bars,us2,ds,n,[.row ts,.book ps],rfl,fn5.sx (fun b u e _=>s13 _ _ e) z6,⟨⟨[.ref a1,.ref a2],zc e3,.cons (zI.tup (zz e1) (.cons .str (.cons (zI.lst trivial (s13 _ _ h1) (xX _)) .nil))) (.cons (zI.tup (zz e2) (.cons .str (.cons (zI.lst trivial (s13 _ _ h2) h3) .nil))) .nil)⟩,by rw[uL];omega,by rw[uM];omega⟩,fun e=>absurd (by rw[zeo,emE] at e;exact e) em,fun _ J7 s7=>?_
   exists _,rfl,?_;refine yR rfl ?_;have s57:=s13.trans s7;have z7:=s57 _ _ z5;exists _,rfl,wa,dw,_,rfl,z7,wP _ nm2,wa,dw,_,rfl,z7,_,rfl,rfl,_,rfl,?_;refine yR (by rw[aC rfl];rfl) ?_
   exact⟨_,_,_,_,_,_,_,n,hs,rfl,y5.same s57,z7,s57 _ _ c5,s57 _ _ l5,le_succ_of_le lts,fun t h=>(hat5 t h).keep (fun b u e _ _=>s57 _ _ e) z5 l5⟩
 ·rintro σ J0 ⟨v10,v13,v14,v15,v16,v17,v18,n,hs,rfl,y0,z0,c0,l0,lts,hat⟩
  rw[aA] at lts;refine⟨_,zd (zt (zbp (y9 ye (yk (pv 5) WC.cl mA GA hr1 bA .nil zY) (pv 4) (zv _)) (zc8 (cB (zaK rfl) hal boot_all (ac (xF [] ["_law_found","_law_kept"] [none,none] rfl ⟨rfl,rfl,rfl,rfl⟩ (yb (pv 12)) (wn (K:=K) (n:=2) 0 1) rfl rfl rfl
   (fun pins fp s H C=>⟨yi rfl (zo (zl (i:=0) zmd rfl (Or.inl rfl) (.inr rfl)) (zo (zl (i:=1) zmd rfl (Or.inl rfl) (.inr rfl)) zT)),yS,y9 (r:=zgt K true) (zgH hU) (pv 0) (pv 1) (zv _)⟩)) zb))))),?_⟩
  exists _,rfl,wa,dw,_,rfl,z0,wP _ nm2,wa,dw,_,rfl,z0,_,rfl,rfl,_,rfl,?_;refine dT rfl ?_;exists _,rfl,lh,rfl,⟨_,zc l0⟩,fun D hD=>?_;refine wF (K:=K) (xs:=hs.map V.ref) (fun i ys H'=>zq J0 H'/\H' D=some (.lst ys)/\ys=(List.replicate i true).map V.bl) ⟨zg hD _,za,rfl⟩ (fun i ys H' h=>zc (h.1 _ _ l0)) ?_ ?_
  ·rintro i x' ys H' hi hx ⟨sH,hDy,ey⟩
   obtain⟨t,ht,rfl⟩:=xK hx;obtain⟨g,k,Dd,a1,a2,a3⟩:=hat t (aH ht);exists t,_,rfl,zz (sH _ _ a1),rfl,_,_,rfl,_,_,rfl,rfl,?_;exists fun _=>?_,fun e=>Bool.noConfusion e;exists _,rfl,_,rfl,g,k,2,.lst Dd,_,_,rfl,rfl,⋯,a2.same sH,a3.same sH,?_
   exact lcN.mk hi (xo (by rw[aA];omega)) hDy (by rw[ey,aA,List.length_replicate];exact aF _) ⟨yw sH hD _,za,by rw[ey,List.replicate_succ',aE];rfl⟩
  ·rintro ys J1 ⟨s1,hDy,ey⟩
   exists D,List.replicate (hs.map V.ref).length true,rfl,zc (by rw[hDy,ey]),?_
   rw[show(List.replicate (hs.map V.ref).length true).all id=true by simp]
   exact q J1
end
end K44
namespace L2
open PySem PySem.Spec PyProof.Rows
section
variable {P:Program}{w:World}{K:Frag}{mg:Str->Option Value}{base h:Heap}{x q p p2 p3 p4 p5:Str}{st:Stmt}{f C T:Addr}{fd:FuncData}{sp:Sp}{k n:Nat}
structure TB(P:Program)(w:World)(K:Frag)(mg:Str->Option Value)(base:Heap):Prop where
 mgo:∀{x:Str}{v:Value},nsIn K mainGlobals x=some (some v)->mg x=some v
structure GD(K:Frag)(x:Str)(st:Stmt)(f:Addr)(fd:FuncData):Prop where
 a:nsIn K mainGlobals x=some (~~~f)
 F:Fun K x x st f fd
structure MD(K:Frag)(C:Addr)(x q:Str)(st:Stmt)(f:Addr)(fd:FuncData):Prop where
 m:y6 K C x f
 F:Fun K x q st f fd
structure DD(K:Frag)(C:Addr)(x q:Str)(st:Stmt)(f:Addr)(fd:FuncData)(ds:List Value):Prop where
 m:y6 K C x f
 F:qV K x q st f fd ds
structure CD(K:Frag)(x:Str)(C:Addr):Prop where
 a:nsIn K mainGlobals x=some (~~~C)
 c:Cls K C
 ms:makesIn K C=true
 kc:keepIn K (.ref C)=true
theorem znG{oc:Value}{od an:Option Addr}{osl:Array (Option Value)}{kV doc pm cdv ct:Value}(a:nsIn K mainGlobals x=some (~~~f))(l:K.lookup f=some ⟨oc,od,.func (fnOf x x (yh st) (z9 st) (zi st) .none kV doc pm an cdv ct),osl⟩)
  (c:codeIn K cdv x=true) (k:keepIn K (.ref f)=true):GD K x st f (fnOf x x (yh st) (z9 st) (zi st) .none kV doc pm an cdv ct):=⟨a,zhy l c k⟩
theorem znF{oc:Value}{od an:Option Addr}{osl:Array (Option Value)}{kV doc pm cdv ct:Value}(a:findIn K (.ref C) x=some (~~~f))(i:isFn K (.ref f)=true)(l:K.lookup f=some ⟨oc,od,.func (fnOf x q (yh st) (z9 st) (zi st) .none kV doc pm an cdv ct),osl⟩)
  (c:codeIn K cdv q=true) (k:keepIn K (.ref f)=true):MD K C x q st f (fnOf x q (yh st) (z9 st) (zi st) .none kV doc pm an cdv ct):=⟨⟨a,i,k⟩,zhy l c k⟩
theorem znH{oc oT:Value}{od an dT:Option Addr}{osl sT:Array (Option Value)}{kV doc pm cdv ct d:Value}(a:findIn K (.ref C) x=some (~~~f))(i:isFn K (.ref f)=true)(l:K.lookup f=some ⟨oc,od,.func (fnOf x q (yh st) (z9 st) (zi st) (.ref T) kV doc pm an cdv ct),osl⟩)
  (c:codeIn K cdv q=true) (k:keepIn K (.ref f)=true) (t:K.lookup T=some ⟨oT,dT,.seq #[d] n,sT⟩):DD K C x q st f (fnOf x q (yh st) (z9 st) (zi st) (.ref T) kV doc pm an cdv ct) [d]:=⟨⟨a,i,k⟩,zjb (items:=[d]) l c k t rfl⟩
theorem znI(a:nsIn K mainGlobals x=some (~~~C))(pg:plainGet K C Str.empty=true)(hd:hasDictIn K C=true)(po:plainOver K C=true)(sa:findIn K (.ref C) "__setattr__"=some (some (.builtin "object.__setattr__")))(mk:makesIn K C=true)(kc:keepIn K (.ref C)=true):CD K x C:=⟨a,⟨pg,hd,po,sa⟩,mk,kc⟩
theorem Fun.b1(F:Fun K x q st f fd)(h:∀kV doc pm an cdv ct u,bindArgs (fnOf x q (yh st) (z9 st) (zi st) .none kV doc pm an cdv ct) ⟨[u],[]⟩=pure [(p,u)]:=by intros;rfl):zM K fd [p] []:=
 F.binds fun _ _ _ _ _ _ us hl=>match us,hl with|[_],_=>h _ _ _ _ _ _ _
theorem Fun.b2(F:Fun K x q st f fd)(h:∀kV doc pm an cdv ct u u2,bindArgs (fnOf x q (yh st) (z9 st) (zi st) .none kV doc pm an cdv ct) ⟨[u,u2],[]⟩=pure [(p,u),(p2,u2)]:=by intros;rfl):zM K fd [p,p2] []:=
 F.binds fun _ _ _ _ _ _ us hl=>match us,hl with|[_,_],_=>h _ _ _ _ _ _ _ _
theorem Fun.b3(F:Fun K x q st f fd)(h:∀kV doc pm an cdv ct u u2 u3,bindArgs (fnOf x q (yh st) (z9 st) (zi st) .none kV doc pm an cdv ct) ⟨[u,u2,u3],[]⟩=pure [(p,u),(p2,u2),(p3,u3)]:=by intros;rfl):zM K fd [p,p2,p3] []:=
 F.binds fun _ _ _ _ _ _ us hl=>match us,hl with|[_,_,_],_=>h _ _ _ _ _ _ _ _ _
theorem Fun.b4(F:Fun K x q st f fd)(h:∀kV doc pm an cdv ct u u2 u3 u4,bindArgs (fnOf x q (yh st) (z9 st) (zi st) .none kV doc pm an cdv ct) ⟨[u,u2,u3,u4],[]⟩=pure [(p,u),(p2,u2),(p3,u3),(p4,u4)]:=by intros;rfl):zM K fd [p,p2,p3,p4] []:=
 F.binds fun _ _ _ _ _ _ us hl=>match us,hl with|[_,_,_,_],_=>h _ _ _ _ _ _ _ _ _ _
theorem Fun.b5(F:Fun K x q st f fd)(h:∀kV doc pm an cdv ct u u2 u3 u4 u5,bindArgs (fnOf x q (yh st) (z9 st) (zi st) .none kV doc pm an cdv ct) ⟨[u,u2,u3,u4,u5],[]⟩=pure [(p,u),(p2,u2),(p3,u3),(p4,u4),(p5,u5)]:=by intros;rfl):zM K fd [p,p2,p3,p4,p5] []:=
 F.binds fun _ _ _ _ _ _ us hl=>match us,hl with|[_,_,_,_,_],_=>h _ _ _ _ _ _ _ _ _ _ _
theorem GD.c1(g:GD K x st f fd)(B:TB P w K mg base)(ok:zA P w K mg base CX0 k f fd [p] sp)(h:∀kV doc pm an cdv ct u,bindArgs (fnOf x x (yh st) (z9 st) (zi st) .none kV doc pm an cdv ct) ⟨[u],[]⟩=pure [(p,u)]:=by intros;rfl):zC P w K mg base k x f fd [p] sp:=⟨ok,B.mgo g.a,g.F.kp,g.F.b1 h⟩
theorem GD.c2(g:GD K x st f fd)(B:TB P w K mg base)(ok:zA P w K mg base CX0 k f fd [p,p2] sp)(h:∀kV doc pm an cdv ct u u2,bindArgs (fnOf x x (yh st) (z9 st) (zi st) .none kV doc pm an cdv ct) ⟨[u,u2],[]⟩=pure [(p,u),(p2,u2)]:=by intros;rfl):zC P w K mg base k x f fd [p,p2] sp:=⟨ok,B.mgo g.a,g.F.kp,g.F.b2 h⟩
theorem GD.c3(g:GD K x st f fd)(B:TB P w K mg base)(ok:zA P w K mg base CX0 k f fd [p,p2,p3] sp)(h:∀kV doc pm an cdv ct u u2 u3,bindArgs (fnOf x x (yh st) (z9 st) (zi st) .none kV doc pm an cdv ct) ⟨[u,u2,u3],[]⟩=pure [(p,u),(p2,u2),(p3,u3)]:=by intros;rfl):zC P w K mg base k x f fd [p,p2,p3] sp:=⟨ok,B.mgo g.a,g.F.kp,g.F.b3 h⟩
theorem GD.c4(g:GD K x st f fd)(B:TB P w K mg base)(ok:zA P w K mg base CX0 k f fd [p,p2,p3,p4] sp)(h:∀kV doc pm an cdv ct u u2 u3 u4,bindArgs (fnOf x x (yh st) (z9 st) (zi st) .none kV doc pm an cdv ct) ⟨[u,u2,u3,u4],[]⟩=pure [(p,u),(p2,u2),(p3,u3),(p4,u4)]:=by intros;rfl):zC P w K mg base k x f fd [p,p2,p3,p4] sp:=⟨ok,B.mgo g.a,g.F.kp,g.F.b4 h⟩
theorem GD.c5(g:GD K x st f fd)(B:TB P w K mg base)(ok:zA P w K mg base CX0 k f fd [p,p2,p3,p4,p5] sp)(h:∀kV doc pm an cdv ct u u2 u3 u4 u5,bindArgs (fnOf x x (yh st) (z9 st) (zi st) .none kV doc pm an cdv ct) ⟨[u,u2,u3,u4,u5],[]⟩=pure [(p,u),(p2,u2),(p3,u3),(p4,u4),(p5,u5)]:=by intros;rfl):zC P w K mg base k x f fd [p,p2,p3,p4,p5] sp:=⟨ok,B.mgo g.a,g.F.kp,g.F.b5 h⟩
theorem GD.law(g:GD K x st f fd)(h:∀kV doc pm an cdv ct u,bindArgs (fnOf x x (yh st) (z9 st) (zi st) .none kV doc pm an cdv ct) ⟨[u],[]⟩=pure [(p,u)]:=by intros;rfl):∀s v,BindsTo s fd ⟨[v],[]⟩ [(p,v)]:=by
 obtain⟨oc,od,kV,doc,pm,an,cdv,ct,osl,rfl,lk,hcd⟩:=g.F.ex;exact fun s v=>.of_eq (h kV doc pm an cdv ct v)
theorem DD.b0(D:DD K C x q st f fd [d])(h:∀T kV doc pm an cdv ct u u2 u3,∃k:Option (Array Value)->Sem (List (Str×Value)),bindArgs (fnOf x q (yh st) (z9 st) (zi st) (.ref T) kV doc pm an cdv ct) ⟨[u,u2,u3],[]⟩=seqItems? (.ref T) >>= k/\k (some [d].toArray)=pure [(p,u),(p2,u2),(p3,u3)]:=by exact fun _ _ _ _ _ _ _ _ _ _=>⟨_,rfl,rfl⟩):zM K fd [p,p2,p3] []:=
 fun _ us KX hl=>match us,hl with|[_,_,_],_=>D.F.bindsTo (fun _ _ _ _ _ _ _=>h _ _ _ _ _ _ _ _ _ _) KX
end
end L2
namespace L2
open PySem PyProof.Rows
section
variable {mg:Str->Option Value}{sp:Sp}{k n:Nat}
theorem Fun.b8{K:Frag}{x q p p2 p3 p4 p5:Str}{st:Stmt}{f:Addr}{fd:FuncData}{p6 p7 p8:Str}(F:Fun K x q st f fd)(h:∀(kV doc pm:Value) (an:Option Addr) (cdv ct u u2 u3 u4 u5 u6 u7 u8:Value),bindArgs (fnOf x q (yh st) (z9 st) (zi st) .none kV doc pm an cdv ct) ⟨[u,u2,u3,u4,u5,u6,u7,u8],[]⟩=pure [(p,u),(p2,u2),(p3,u3),(p4,u4),(p5,u5),(p6,u6),(p7,u7),(p8,u8)]:=by intros;rfl):zM K fd [p,p2,p3,p4,p5,p6,p7,p8] []:=
 F.binds fun _ _ _ _ _ _ us hl=>match us,hl with|[_,_,_,_,_,_,_,_],_=>h _ _ _ _ _ _ _ _ _ _ _ _ _ _
theorem GD.c8{P:Program}{w:World}{K:Frag}{base:Heap}{x p p2 p3 p4 p5:Str}{st:Stmt}{f:Addr}{fd:FuncData}{p6 p7 p8:Str}(g:GD K x st f fd)(B:TB P w K mg base)(ok:zA P w K mg base CX0 k f fd [p,p2,p3,p4,p5,p6,p7,p8] sp)(h:∀(kV doc pm:Value) (an:Option Addr) (cdv ct u u2 u3 u4 u5 u6 u7 u8:Value),bindArgs (fnOf x x (yh st) (z9 st) (zi st) .none kV doc pm an cdv ct) ⟨[u,u2,u3,u4,u5,u6,u7,u8],[]⟩=pure [(p,u),(p2,u2),(p3,u3),(p4,u4),(p5,u5),(p6,u6),(p7,u7),(p8,u8)]:=by intros;rfl):zC P w K mg base k x f fd [p,p2,p3,p4,p5,p6,p7,p8] sp:=⟨ok,B.mgo g.a,g.F.kp,g.F.b8 h⟩
end
end L2
namespace PySem.W.Fast
def tw8411681634024870310:=()
def tw8064776202716852490:=()
def tw14687105422621488956:=()
def tw4594772350693653936:=()
def tw816494206279175198:=()
def tw13518709630911552712:=()
def tw2299116690885750782:=()
def tw16357761222570447861:=()
def tw4447742790791977334:=()
def tw16236594727503920671:=()
def tw3832993137885432917:=()
def tw10098134553618628923:=()
def tw17806753129996812828:=()
def tw10313069320572809268:=()
def tw7454935408016573416:=()
def tw9748570876513096799:=()
def tw17075137521124178150:=()
def tw5962322035877822280:=()
def tw5653327286163155726:=()
def tw15938221913156753121:=()
def tw9088149817643624355:=()
def tw978456937507731569:=()
def tw2157118713978739319:=()
def tw11460073452735761202:=()
def tw12884332730716164453:=()
def tw12948091334313203220:=()
def tw11420793469056532670:=()
def tw7138374556173239209:=()
def tw9214665512166070294:=()
def tw8136454441386952433:=()
def tw5845621696320150000:=()
def tw4496566606795174811:=()
def tw13728860594583291384:=()
def tw10365454339248808407:=()
def tw17676733629530888425:=()
def tw7080147068496110746:=()
def tw15204613991395662747:=()
def tw6612066039643535531:=()
def tw7592848824334840951:=()
def tw7492741244102881772:=()
def tw13731687697569786591:=()
def tw15299954841247325584:=()
def tw17724951372496489535:=()
def tw13109317316032381426:=()
def tw4738541642449922203:=()
def tw17972107485845171291:=()
def tw4379328421377590857:=()
def tw3536250678675458006:=()
def tw1577112238428078067:=()
def tw8625858902807034806:=()
def tw6547579986831816857:=()
def tw4187468978466209576:=()
def tw5556978124735765651:=()
def tw11203986569455218371:=()
def tw8231999201773536733:=()
def tw16201369566042631057:=()
def tw15111449811280466277:=()
def tw17583830346973703227:=()
def tw17886830823519404679:=()
def tw10619532917856562114:=()
def tw12664698526941557775:=()
def tw7647879856411576029:=()
def tw16296059565145792275:=()
def tw15466173729732843757:=()
def tw900149127496048766:=()
def tw18325792726091051388:=()
def tw17551524547688100670:=()
def tw17413481301701701718:=()
def tw5253879055866745553:=()
def tw10946963111228969592:=()
def tw13592890906976229429:=()
def tw9581128646299637587:=()
def tw5574440987668335321:=()
def tw13006723533349240104:=()
def tw10736481972937614259:=()
def tw8274107117747508726:=()
def tw16402318253486785860:=()
def tw12823109865129269399:=()
def tw3286366067669648443:=()
def tw3580014629607518358:=()
def tw17903915451031862942:=()
def tw12219043370966922669:=()
def tw533552169713891657:=()
def tw16053105137878271492:=()
def tw12246587812551178731:=()
def tw12355823802329805844:=()
def tw13399698994991063581:=()
def tw3326040704570756700:=()
def tw9481640430503686139:=()
def tw1747550977996675219:=()
def tw17558494689554006544:=()
def tw6163264720360068335:=()
def tw10946483448295589273:=()
def tw1842176160940185230:=()
def tw5372011034701099858:=()
def tw15049569868923095647:=()
def tw16543322539090749108:=()
def tw10178171976069840640:=()
def tw14769074415073340475:=()
def tw361498429978791172:=()
def tw14997293635769409150:=()
def tw7229269845310993288:=()
def tw11511816734234126313:=()
def tw16207056687398016751:=()
def tw17308696500033627069:=()
def tw4619170016089943350:=()
def tw17297974724280596370:=()
def tw6051026086342718179:=()
def tw8408406544171344916:=()
def tw7417541192882265332:=()
def tw1614404562555329678:=()
def tw16812541414002826474:=()
def tw13127263745237904344:=()
def tw8452370372672450983:=()
def tw12933565315758319404:=()
def tw17720928631531236840:=()
def tw3396159951245156718:=()
def tw12913524631837150980:=()
def tw11191650369040043523:=()
def tw6581625627272023833:=()
def tw12055377392802423785:=()
def tw6696787619993586492:=()
def tw16129676952485013524:=()
def tw3991228824022873952:=()
def tw11204025585196049408:=()
def tw696300223760086312:=()
def tw12148087812745167366:=()
def tw948323345693335813:=()
def tw11056344544740440476:=()
def tw769807747563572557:=()
def tw8568849102464595849:=()
def tw2774030463038921248:=()
def tw9169885102632957437:=()
def tw13145246050736071806:=()
def tw3476227587627679630:=()
def tw18371040266709352488:=()
def tw6624173522261259640:=()
def tw6370837433614895100:=()
def tw17953833955958762929:=()
def tw8075179015027792695:=()
def tw1840321964633181017:=()
def tw1997342446739921307:=()
def tw14825119408569973758:=()
def tw12591352589429552494:=()
def tw80405948574582270:=()
def tw926722623615650665:=()
def tw7224470962218979440:=()
def tw10242572605127282313:=()
def tw10149914667078144699:=()
def tw14835426061070527092:=()
def tw18119173846875306228:=()
def tw209660331070459071:=()
def tw4731086674845885643:=()
def tw11880525816305955212:=()
def tw7481041391180760040:=()
def tw8499833568476288211:=()
def tw11977658456895501947:=()
def tw4521807639391872450:=()
def tw14711085418986956008:=()
def tw2892389986964337055:=()
def tw16377845515247991994:=()
def tw13740689463558411983:=()
def tw17386287178399584998:=()
def tw1210317095337909793:=()
def tw5195075591289343882:=()
def tw8075375847970085569:=()
def tw5218587702952794372:=()
def tw18376004758899473111:=()
def tw11516458018173171192:=()
def tw12334082848873874705:=()
def tw1377055186601309942:=()
def tw16308648338901023352:=()
def tw3661559769000529561:=()
def tw11190372264080679201:=()
def tw10880225622298454385:=()
def tw12249002735987127165:=()
def tw13696311096815686666:=()
def tw9710392638806422062:=()
def tw7796704783331254263:=()
def tw3400571901234368246:=()
def tw4193046458431066456:=()
def tw7539360421578191518:=()
def tw3287446403258995552:=()
def tw8121199958962500773:=()
def tw4722651690596342191:=()
def tw10457974486348301784:=()
def tw8307869460778207196:=()
def tw9285251013106370310:=()
def tw3245659785641549158:=()
def tw12245498803641430010:=()
def tw1863513487923839297:=()
def tw1750504178971579540:=()
def tw3413218125834512396:=()
def tw418167068563335612:=()
def tw13801717070502391672:=()
def tw6529631679098125873:=()
def tw1604813242925259429:=()
def tw12101815655144060786:=()
def tw12193155673111293262:=()
def tw13419097549281199231:=()
def tw7829750845439744489:=()
def tw15175965477978704701:=()
def tw15182989976873819646:=()
def tw5830130516337055756:=()
def tw1880511174521679080:=()
def tw7085641007850868560:=()
def tw6339540951380372990:=()
def tw602363179810887668:=()
def tw17827372398417565279:=()
def tw11995192435060331243:=()
def tw17639203798347807687:=()
def tw6896486221729708782:=()
def tw12670719945690734724:=()
def tw13734010023782594778:=()
def tw14841254505918399743:=()
def tw17221358462972919522:=()
def tw18001755257956417054:=()
def tw5601796332344943376:=()
def tw11655994076913797052:=()
def tw12617180834893924946:=()
def tw11975138444740592826:=()
def tw2457460690112563148:=()
def tw12460277809865010717:=()
def tw12855006618080701853:=()
def tw4303608278693880029:=()
def tw5622811368533018218:=()
def tw16180792287279987231:=()
def tw17343289597797520472:=()
def tw13432965504743300910:=()
def tw11640415885866862519:=()
def tw15238165058794358434:=()
def tw10709129873995661131:=()
def tw12677391697917548512:=()
def tw17584665547265059643:=()
def tw13081409885017239967:=()
def tw590099309323509302:=()
def tw15747966264102358019:=()
def tw9165316082422254534:=()
def tw15508019358297536317:=()
def tw16020994104721567733:=()
def tw105471066387236910:=()
def tw18134042071865258262:=()
def tw11097859711977049004:=()
def tw10264546184367835299:=()
def tw2439052739425657538:=()
def tw14041888221221005186:=()
def tw12451607584221862467:=()
def tw8376294730236367448:=()
def tw944222899300577231:=()
def tw4755991184491450266:=()
def tw18056936224729422696:=()
def tw654278054650444725:=()
def tw11001347797949622599:=()
def tw8444811816053240241:=()
def tw11375035844849254459:=()
def tw2050346541453481760:=()
def tw2974506320965800557:=()
def tw1300943429293998220:=()
def tw1825124531704191040:=()
def tw7727552981972951700:=()
def tw9546594712123150551:=()
def tw10233888889912302195:=()
def tw14951866962537634679:=()
def tw4381265997329209042:=()
def tw2375215201026436641:=()
def tw570934857181372506:=()
def tw17733103912987427884:=()
def tw15672329773085101228:=()
def tw4833743738763868064:=()
def tw9666863831504573448:=()
def tw1868538084935659825:=()
def tw8746223608494192793:=()
def tw9234513110011894862:=()
def tw9556689163799214754:=()
def tw97895761665045922:=()
def tw13344350876271810542:=()
def tw6536036994574769477:=()
def tw17459082089575870311:=()
def tw4053639798701239327:=()
def tw13062267157602605417:=()
def tw17562574952846601879:=()
end PySem.W.Fast
namespace K44
open PySem L2 PyProof.Rows
theorem zi6{w:World}{K:Frag}{Gr:Addr}{es:Array DictEntry}{n:Nat}{t0 t1 t2 t3 t4:Tok}(hl:K.lookup Gr=some ⟨.type "dict",none,.dict es n,#[]⟩)(hk:KeysLit w.params es.toList)(h0:nsIn K Gr "seat"=some (some (.int 0 t0)))(h1:nsIn K Gr "both"=some (some (.int 0 t1)))(h2:nsIn K Gr "tail"=some (some (.int 1 t2)))
  (h3:nsIn K Gr "tag"=some (some (.int 2 t3))) (h4:nsIn K Gr "bag"=some (some (.int 3 t4))):zll w K Gr zi9:=by
 exists ⟨es,n,hl,hk⟩,fun x v h=>?_;unfold zi9 at h;by_cases e0:x="seat"
 ·subst e0;rw[lookup_cons_self] at h;cases h;exact⟨_,h0,_,rfl⟩
 rw[lookup_cons,beq_eq_false_iff_ne.mpr e0] at h;by_cases e1:x="both"
 ·subst e1;rw[lookup_cons_self] at h;cases h;exact⟨_,h1,_,rfl⟩
 rw[lookup_cons,beq_eq_false_iff_ne.mpr e1] at h;by_cases e2:x="tail"
 ·subst e2;rw[lookup_cons_self] at h;cases h;exact⟨_,h2,_,rfl⟩
 rw[lookup_cons,beq_eq_false_iff_ne.mpr e2] at h;by_cases e3:x="tag"
 ·subst e3;rw[lookup_cons_self] at h;cases h;exact⟨_,h3,_,rfl⟩
 rw[lookup_cons,beq_eq_false_iff_ne.mpr e3] at h;by_cases e4:x="bag"
 ·subst e4;rw[lookup_cons_self] at h;cases h;exact⟨_,h4,_,rfl⟩
 rw[lookup_cons,beq_eq_false_iff_ne.mpr e4] at h;cases h
theorem znu{l:PySem.W.OpenLaw}{w:World}{K:Frag}{h:Heap}{mg:Str->Option Value}{fa D C0 C1 C2 C3 C4 FM f1 f2 f3 f4 f5 f6 f7 f8 f9 f10 f11 f12 f13 f14 f15 f16 f17 f18 f19 f20 f21 f22 f23 f24 f25 f26 f27 f28 Q0 Q1 Q2 Q3 FU WE f29 f30 f31 f32 f33 f34 f35 f36 f37 f38 f39 f40 f41 f42 f43 f44 f45 f46 f47 f48 f49 f50 f51 f52 f53 f54 f55 f56 f57 f58 f59 f60 f61 f62 f63 f64 f65 f66 f67 f68 f69 f70 f71 f72 f73 f74 f75 f76 f77 DF E9 E10 E11 E12 E13 E14 E15:Addr}{e1 e2 e3 e4 e5 e6 e7 e8 e9 e10 e11 e12 e13 e14 e15 e16 e17 e18 e19 e20 e21 e22 e23 e24 e25 e26 e27 e28 e29 e30 e31 e32 e33 e34 e35 e36 e37 e38 e39 e40 e41 e42 e43 e44 e45 e46 e47 e48 e49 e50 e51 e52 e53 e54 e55 e56 e57 e58 e59 e60 e61 e62 e63 e64 e65 e66 e67 e68 e69 e70 e71 e72 e73 e74 e75 e76 e77:FuncData}{tP tB tO sg Gr:Addr}{tL tN tMP tMB ktP0 ktP1 ktB0 ktB1 ktO0 ktO1 ktO2 ksg0 ksg1 kG0 kG1 kG2 kG3 kG4 tk1:Tok}{odtP odtB odtO odsg:Option Addr}{ntP ntB ntO nsg nG:Nat}{sltP sltB sltO slsg:Array (Option Value)}{esG:Array DictEntry}(X:K.In h)(G:h.Ns mainGlobals mg)(hfa:mg "law"= ~~~fa)
  (cD:CD K "Parameter" D)
  (cC0:CD K "Seat" C0)
  (nC0:findIn K (.ref C0) "word"=some none/\findIn K (.ref C0) "name"=some none/\findIn K (.ref C0) "may_lack"=some none)
  (cC1:CD K "Both" C1)
  (nC1:findIn K (.ref C1) "word"=some none/\findIn K (.ref C1) "name"=some none/\findIn K (.ref C1) "may_lack"=some none)
  (cC2:CD K "Tail" C2)
  (nC2:findIn K (.ref C2) "word"=some none/\findIn K (.ref C2) "name"=some none/\findIn K (.ref C2) "may_lack"=some none)
  (cC3:CD K "Tag" C3)
  (nC3:findIn K (.ref C3) "word"=some none/\findIn K (.ref C3) "name"=some none/\findIn K (.ref C3) "may_lack"=some none)
  (cC4:CD K "Bag" C4)
  (nC4:findIn K (.ref C4) "word"=some none/\findIn K (.ref C4) "name"=some none/\findIn K (.ref C4) "may_lack"=some none)
  (cFM:CD K "Form" FM)
  (nFM:findIn K (.ref FM) "row"=some none/\findIn K (.ref FM) "bar_names"=some none/\findIn K (.ref FM) "place_count"=some none/\findIn K (.ref FM) "tail_number"=some none/\findIn K (.ref FM) "bag_number"=some none/\findIn K (.ref FM) "doors"=some none)
  (g1:GD K "is_name" sIs f1 e1)
  (g2:MD K D "__init__" "Parameter.__init__" zcU f2 e2)
  (g3:MD K D "free" "Parameter.free" zgj f3 e3)
  (g4:MD K D "by_place" "Parameter.by_place" ql f4 e4)
  (g5:MD K D "by_name" "Parameter.by_name" zbl f5 e5)
  (g6:MD K D "takes_one" "Parameter.takes_one" zcO f6 e6)
  (g7:MD K D "told" "Parameter.told" zlQ f7 e7)
  (g8:DD K C0 "__init__" "Seat.__init__" zf9 f8 e8 [Value.bool false])
  (g9:DD K C1 "__init__" "Both.__init__" zgn f9 e9 [Value.bool false])
  (g10:MD K C2 "__init__" "Tail.__init__" zf8 f10 e10)
  (g11:DD K C3 "__init__" "Tag.__init__" zkn f11 e11 [Value.bool false])
  (g12:MD K C4 "__init__" "Bag.__init__" zku f12 e12)
  (g13:DD K FM "__init__" "Form.__init__" zc3 f13 e13 [Value.none])
  (g14:MD K FM "keep" "Form.keep" zgh f14 e14)
  (g15:MD K FM "parameters" "Form.parameters" zc2 f15 e15)
  (g16:MD K FM "bars" "Form.bars" zc4 f16 e16)
  (g17:MD K FM "places" "Form.places" qj f17 e17)
  (g18:MD K FM "tail" "Form.tail" zc1 f18 e18)
  (g19:MD K FM "bag" "Form.bag" zgl f19 e19)
  (g20:MD K FM "number_of" "Form.number_of" zgk f20 e20)
  (g21:MD K FM "told" "Form.told" zkt f21 e21)
  (g22:GD K "parameter_of" zko f22 e22)
  (g23:GD K "refuse_too_many" zcR f23 e23)
  (g24:GD K "refuse_bad_order" zbf f24 e24)
  (g25:GD K "refuse_bars_without_name" zcS f25 e25)
  (g26:GD K "refuse_twice" zbe f26 e26)
  (g27:GD K "number_of_word" zgd f27 e27)
  (yM:nsIn K mainGlobals "Misfit"=some (~~~E15))
  (g28:MD K E15 "__init__" "Misfit.__init__" zf6 f28 e28)
  (cQ0:CD K "Told" Q0)
  (nQ0:findIn K (.ref Q0) "number"=some none)
  (cQ1:CD K "Once" Q1)
  (cQ2:CD K "Anew" Q2)
  (cQ3:CD K "Sum" Q3)
  (nQ3:findIn K (.ref Q3) "at"=some none/\findIn K (.ref Q3) "times"=some none/\findIn K (.ref Q3) "plus"=some none)
  (cFU:CD K "Function" FU)
  (nFU:findIn K (.ref FU) "kept_form"=some none/\findIn K (.ref FU) "well"=some none/\findIn K (.ref FU) "defaults"=some none)
  (cWE:CD K "Well" WE)
  (nWE:findIn K (.ref WE) "coming"=some none)
  (g29:MD K Q0 "__init__" "Told.__init__" zc7 f29 e29)
  (g30:MD K Q3 "__init__" "Sum.__init__" zgm f30 e30)
  (g31:MD K FU "__init__" "Function.__init__" zcM f31 e31)
  (g32:MD K FU "answer" "Function.answer" qg f32 e32)
  (g33:MD K FU "left_out" "Function.left_out" zcL f33 e33)
  (g34:DD K WE "__init__" "Well.__init__" zcJ f34 e34 [Value.int 1 tk1])
  (g35:MD K WE "draw" "Well.draw" zcK f35 e35)
  (g36:MD K WE "ahead" "Well.ahead" za9 f36 e36)
  (g37:GD K "laid" zgf f37 e37)
  (g38:GD K "shape" zcQ f38 e38)
  (g39:GD K "first_numbers" zbi f39 e39)
  (g40:GD K "misfits_of" zkr f40 e40)
  (g41:GD K "overs" zcV f41 e41)
  (g42:GD K "unwelcomes" zkm f42 e42)
  (g43:GD K "lackings" zgg f43 e43)
  (g44:GD K "one_entry" zgc f44 e44)
  (g45:GD K "refuse" zbd f45 e45)
  (g46:GD K "entry" zc5 f46 e46)
  (g47:GD K "paper" zcT f47 e47)
  (g48:GD K "free_numbers" zc0 f48 e48)
  (g49:GD K "refuse_defaults" zgb f49 e49)
  (g50:GD K "settled" qi f50 e50)
  (g51:GD K "handed_on" ja f51 e51)
  (g52:GD K "_law_nth" zkp f52 e52)
  (g53:GD K "_law_mix" zkq f53 e53)
  (g54:GD K "_law_rich" zga f54 e54)
  (g55:GD K "_law_half" zgi f55 e55)
  (g56:GD K "_law_take" zf7 f56 e56)
  (g57:GD K "_law_name" zcY f57 e57)
  (g58:GD K "_law_specs" zcP f58 e58)
  (g59:GD K "_law_bars" zgo f59 e59)
  (g60:GD K "_law_next_thing" zcW f60 e60)
  (g61:GD K "_law_fits" zcZ f61 e61)
  (g62:GD K "_law_single" zbb f62 e62)
  (g63:GD K "_law_loose" zcX f63 e63)
  (g64:GD K "_law_drawn" zc6 f64 e64)
  (g65:GD K "_law_tolds" zcN f65 e65)
  (g66:GD K "_law_shape" zbg f66 e66)
  (g67:GD K "_law_handed" zbh f67 e67)
  (g68:GD K "_law_default" qk f68 e68)
  (g69:GD K "_law_values" zba f69 e69)
  (g70:GD K "_law_answer" zbm f70 e70)
  (g71:GD K "_law_shared" zbc f71 e71)
  (g72:GD K "_law_settled" u9 f72 e72)
  (g73:GD K "_law_spoiled" qh f73 e73)
  (g74:GD K "_law_copied" zbj f74 e74)
  (g75:GD K "_law_called" zbk f75 e75)
  (g76:GD K "_law_made" zge f76 e76)
  (g77:GD K "law" zks f77 e77)
  (zisinstance:nsIn K mainGlobals "isinstance"=some none)
  (zstr:nsIn K mainGlobals "str"=some none)
  (zbool:nsIn K mainGlobals "bool"=some none)
  (zlen:nsIn K mainGlobals "len"=some none)
  (zall:nsIn K mainGlobals "all"=some none)
  (zrange:nsIn K mainGlobals "range"=some none)
  (zlist:nsIn K mainGlobals "list"=some none)
  (zenumerate:nsIn K mainGlobals "enumerate"=some none)
  (zset:nsIn K mainGlobals "set"=some none)
  (zmax:nsIn K mainGlobals "max"=some none)
  (zint:nsIn K mainGlobals "int"=some none)
  (zzip:nsIn K mainGlobals "zip"=some none)
  (zsum:nsIn K mainGlobals "sum"=some none)
  (gL:nsIn K mainGlobals "LETTERS"=some (some (.str letters tL)))
  (gN:nsIn K mainGlobals "LONGEST"=some (some (.int 8 tN)))
  (gMP:nsIn K mainGlobals "MOST_PARAMETERS"=some (some (.int 24 tMP)))
  (gMB:nsIn K mainGlobals "MOST_BARS"=some (some (.int 60 tMB)))
  (ytP:nsIn K mainGlobals "BY_PLACE"=some (~~~tP))
  (utP:K.lookup tP=some ⟨.type "tuple",odtP,.seq #[.str "seat" ktP0,.str "both" ktP1] ntP,sltP⟩)
  (ytB:nsIn K mainGlobals "BY_NAME"=some (~~~tB))
  (utB:K.lookup tB=some ⟨.type "tuple",odtB,.seq #[.str "both" ktB0,.str "tag" ktB1] ntB,sltB⟩)
  (ytO:nsIn K mainGlobals "OF_ONE_THING"=some (~~~tO))
  (utO:K.lookup tO=some ⟨.type "tuple",odtO,.seq #[.str "seat" ktO0,.str "both" ktO1,.str "tag" ktO2] ntO,sltO⟩)
  (ysg:nsIn K mainGlobals "SINGLE_GROUPS"=some (~~~sg))
  (usg:K.lookup sg=some ⟨.type "tuple",odsg,.seq #[.int 1 ksg0,.int 3 ksg1] nsg,slsg⟩)
  (yGr:nsIn K mainGlobals "GROUPS"=some (~~~Gr))
  (lGr:K.lookup Gr=some ⟨.type "dict",none,.dict esG nG,#[]⟩)
  (kGr:KeysLit w.params esG.toList)
  (eG0:nsIn K Gr "seat"=some (some (.int 0 kG0)))
  (eG1:nsIn K Gr "both"=some (some (.int 0 kG1)))
  (eG2:nsIn K Gr "tail"=some (some (.int 1 kG2)))
  (eG3:nsIn K Gr "tag"=some (some (.int 2 kG3)))
  (eG4:nsIn K Gr "bag"=some (some (.int 3 kG4)))
  (dga:qY K D "__init__" f2)
  (h0:findIn K (.ref C0) "free"=some (~~~f3)/\findIn K (.ref C0) "by_place"=some (~~~f4)/\findIn K (.ref C0) "by_name"=some (~~~f5)/\findIn K (.ref C0) "takes_one"=some (~~~f6)/\findIn K (.ref C0) "told"=some (~~~f7))
  (h1:findIn K (.ref C1) "free"=some (~~~f3)/\findIn K (.ref C1) "by_place"=some (~~~f4)/\findIn K (.ref C1) "by_name"=some (~~~f5)/\findIn K (.ref C1) "takes_one"=some (~~~f6)/\findIn K (.ref C1) "told"=some (~~~f7))
  (h2:findIn K (.ref C2) "free"=some (~~~f3)/\findIn K (.ref C2) "by_place"=some (~~~f4)/\findIn K (.ref C2) "by_name"=some (~~~f5)/\findIn K (.ref C2) "takes_one"=some (~~~f6)/\findIn K (.ref C2) "told"=some (~~~f7))
  (h3:findIn K (.ref C3) "free"=some (~~~f3)/\findIn K (.ref C3) "by_place"=some (~~~f4)/\findIn K (.ref C3) "by_name"=some (~~~f5)/\findIn K (.ref C3) "takes_one"=some (~~~f6)/\findIn K (.ref C3) "told"=some (~~~f7))
  (h4:findIn K (.ref C4) "free"=some (~~~f3)/\findIn K (.ref C4) "by_place"=some (~~~f4)/\findIn K (.ref C4) "by_name"=some (~~~f5)/\findIn K (.ref C4) "takes_one"=some (~~~f6)/\findIn K (.ref C4) "told"=some (~~~f7))
  (yDF:nsIn K mainGlobals "Default"=some (~~~DF))
  (qc0:findIn K (.ref Q0) "__class__"=some (some (.builtin "object.__class__"))/\mroIn K Q0 (.type "object")=some true)
  (qc1:findIn K (.ref Q1) "__class__"=some (some (.builtin "object.__class__"))/\mroIn K Q1 (.type "object")=some true)
  (qc2:findIn K (.ref Q2) "__class__"=some (some (.builtin "object.__class__"))/\mroIn K Q2 (.type "object")=some true)
  (qc3:findIn K (.ref Q3) "__class__"=some (some (.builtin "object.__class__"))/\mroIn K Q3 (.type "object")=some true)
  (qk0:kitOne K (.ref Q0) (.ref Q0)=some true/\kitOne K (.ref Q0) (.ref Q1)=some false/\kitOne K (.ref Q0) (.ref Q2)=some false/\kitOne K (.ref Q0) (.ref Q3)=some false/\kitOne K (.ref Q0) (.ref DF)=some true)
  (qk1:kitOne K (.ref Q1) (.ref Q0)=some false/\kitOne K (.ref Q1) (.ref Q1)=some true/\kitOne K (.ref Q1) (.ref Q2)=some false/\kitOne K (.ref Q1) (.ref Q3)=some false/\kitOne K (.ref Q1) (.ref DF)=some true)
  (qk2:kitOne K (.ref Q2) (.ref Q0)=some false/\kitOne K (.ref Q2) (.ref Q1)=some false/\kitOne K (.ref Q2) (.ref Q2)=some true/\kitOne K (.ref Q2) (.ref Q3)=some false/\kitOne K (.ref Q2) (.ref DF)=some true)
  (qk3:kitOne K (.ref Q3) (.ref Q0)=some false/\kitOne K (.ref Q3) (.ref Q1)=some false/\kitOne K (.ref Q3) (.ref Q2)=some false/\kitOne K (.ref Q3) (.ref Q3)=some true/\kitOne K (.ref Q3) (.ref DF)=some true)
  (qi1:findIn K (.ref Q1) "__init__"=some (some (.builtin "object.__init__")))
  (qi2:findIn K (.ref Q2) "__init__"=some (some (.builtin "object.__init__")))
  (xg:specialIn K (.builtin "object.__class__") "__get__"=some (some (.builtin "getset_descriptor.__get__"))/\PySem.W.takesIn K (.builtin "object.__class__")=some true)
  (yE9:nsIn K mainGlobals "Doubled"=some (~~~E9))
  (yE10:nsIn K mainGlobals "Over"=some (~~~E10))
  (yE11:nsIn K mainGlobals "Barred"=some (~~~E11))
  (yE12:nsIn K mainGlobals "Again"=some (~~~E12))
  (yE13:nsIn K mainGlobals "Strange"=some (~~~E13))
  (yE14:nsIn K mainGlobals "Lacking"=some (~~~E14))
  (ec9:(clsIn K E9).isSome=true/\L2.zhN K E9=true/\L2.zln K E9=true)
  (ec10:(clsIn K E10).isSome=true/\L2.zhN K E10=true/\L2.zln K E10=true)
  (ec11:(clsIn K E11).isSome=true/\L2.zhN K E11=true/\L2.zln K E11=true)
  (ec12:(clsIn K E12).isSome=true/\L2.zhN K E12=true/\L2.zln K E12=true)
  (ec13:(clsIn K E13).isSome=true/\L2.zhN K E13=true/\L2.zln K E13=true)
  (ec14:(clsIn K E14).isSome=true/\L2.zhN K E14=true/\L2.zln K E14=true)
  (ea9:findIn K (.ref E9) "__getattribute__"=some (some (.builtin "BaseException.__getattribute__"))/\findIn K (.ref E9) "__getattr__"=some none/\findIn K (.ref E9) "__class__"=some (some (.builtin "object.__class__"))/\mroIn K E9 (.type "BaseException")=some true/\mroIn K E9 (.type "object")=some true/\keepIn K (.ref E9)=true/\findIn K (.ref E9) "__init__"=some (~~~f28)/\specialIn K (.ref E9) "__call__"=some (some (.builtin "type.__call__"))/\instIn K (.ref E9) (.type "type")=some true/\findIn K (.ref E9) "__setattr__"=some (some (.builtin "object.__setattr__"))/\findIn K (.ref E9) "number"=some none)
  (ea10:findIn K (.ref E10) "__getattribute__"=some (some (.builtin "BaseException.__getattribute__"))/\findIn K (.ref E10) "__getattr__"=some none/\findIn K (.ref E10) "__class__"=some (some (.builtin "object.__class__"))/\mroIn K E10 (.type "BaseException")=some true/\mroIn K E10 (.type "object")=some true/\keepIn K (.ref E10)=true/\findIn K (.ref E10) "__init__"=some (~~~f28)/\specialIn K (.ref E10) "__call__"=some (some (.builtin "type.__call__"))/\instIn K (.ref E10) (.type "type")=some true/\findIn K (.ref E10) "__setattr__"=some (some (.builtin "object.__setattr__"))/\findIn K (.ref E10) "number"=some none)
  (ea11:findIn K (.ref E11) "__getattribute__"=some (some (.builtin "BaseException.__getattribute__"))/\findIn K (.ref E11) "__getattr__"=some none/\findIn K (.ref E11) "__class__"=some (some (.builtin "object.__class__"))/\mroIn K E11 (.type "BaseException")=some true/\mroIn K E11 (.type "object")=some true/\keepIn K (.ref E11)=true/\findIn K (.ref E11) "__init__"=some (~~~f28)/\specialIn K (.ref E11) "__call__"=some (some (.builtin "type.__call__"))/\instIn K (.ref E11) (.type "type")=some true/\findIn K (.ref E11) "__setattr__"=some (some (.builtin "object.__setattr__"))/\findIn K (.ref E11) "number"=some none)
  (ea12:findIn K (.ref E12) "__getattribute__"=some (some (.builtin "BaseException.__getattribute__"))/\findIn K (.ref E12) "__getattr__"=some none/\findIn K (.ref E12) "__class__"=some (some (.builtin "object.__class__"))/\mroIn K E12 (.type "BaseException")=some true/\mroIn K E12 (.type "object")=some true/\keepIn K (.ref E12)=true/\findIn K (.ref E12) "__init__"=some (~~~f28)/\specialIn K (.ref E12) "__call__"=some (some (.builtin "type.__call__"))/\instIn K (.ref E12) (.type "type")=some true/\findIn K (.ref E12) "__setattr__"=some (some (.builtin "object.__setattr__"))/\findIn K (.ref E12) "number"=some none)
  (ea13:findIn K (.ref E13) "__getattribute__"=some (some (.builtin "BaseException.__getattribute__"))/\findIn K (.ref E13) "__getattr__"=some none/\findIn K (.ref E13) "__class__"=some (some (.builtin "object.__class__"))/\mroIn K E13 (.type "BaseException")=some true/\mroIn K E13 (.type "object")=some true/\keepIn K (.ref E13)=true/\findIn K (.ref E13) "__init__"=some (~~~f28)/\specialIn K (.ref E13) "__call__"=some (some (.builtin "type.__call__"))/\instIn K (.ref E13) (.type "type")=some true/\findIn K (.ref E13) "__setattr__"=some (some (.builtin "object.__setattr__"))/\findIn K (.ref E13) "number"=some none)
  (ea14:findIn K (.ref E14) "__getattribute__"=some (some (.builtin "BaseException.__getattribute__"))/\findIn K (.ref E14) "__getattr__"=some none/\findIn K (.ref E14) "__class__"=some (some (.builtin "object.__class__"))/\mroIn K E14 (.type "BaseException")=some true/\mroIn K E14 (.type "object")=some true/\keepIn K (.ref E14)=true/\findIn K (.ref E14) "__init__"=some (~~~f28)/\specialIn K (.ref E14) "__call__"=some (some (.builtin "type.__call__"))/\instIn K (.ref E14) (.type "type")=some true/\findIn K (.ref E14) "__setattr__"=some (some (.builtin "object.__setattr__"))/\findIn K (.ref E14) "number"=some none)
  (em9:exmOne K (.ref E9) (.ref E15)=some true)
  (em10:exmOne K (.ref E10) (.ref E15)=some true)
  (em11:exmOne K (.ref E11) (.ref E15)=some true)
  (em12:exmOne K (.ref E12) (.ref E15)=some true)
  (em13:exmOne K (.ref E13) (.ref E15)=some true)
  (em14:exmOne K (.ref E14) (.ref E15)=some true)
  : ∃fd:FuncData,(∀(s:Shared) (v:Value),BindsTo s fd ⟨[v],[]⟩ [("_law_script",v)])/\∀base:Heap,K.In base->base.Ns mainGlobals mg->zA l.prog w K mg base CX0 9 fa fd ["_law_script"] (zaX K):=by
 have e:=hfa.symm.trans (mg_of X G g77.a);cases e;have no:∀{x:Str},nsIn K mainGlobals x=some none->mg x=none:=fun z=>PySem.W.mg_none_of X G z;have T:zmx K mg:=⟨no zisinstance,no zstr,no zbool,no zlen,no zall,no zrange,⟨tL,mg_of X G gL⟩,⟨tN,mg_of X G gN⟩,jF K,zdp K,zcc K,zca K,zbt K,zcb K,zdo K,zbu K⟩;have Wd:Wds K mg tP tB tO:=⟨mg_of X G ytP,mg_of X G ytB,mg_of X G ytO,fun H=>.inr ⟨_,_,_,utP,rfl,rfl,yL,.cons ⟨_,rfl⟩ (.cons ⟨_,rfl⟩ (.nil))⟩,fun H=>.inr ⟨_,_,_,utB,rfl,rfl,yL,.cons ⟨_,rfl⟩ (.cons ⟨_,rfl⟩ (.nil))⟩,fun H=>.inr ⟨_,_,_,utO,rfl,rfl,za0,.cons ⟨_,rfl⟩ (.cons ⟨_,rfl⟩ (.cons ⟨_,rfl⟩ (.nil)))⟩⟩;have TF:zcs w K mg Gr sg:=⟨no zlen,no zenumerate,no zlist,no zset,⟨tMP,mg_of X G gMP⟩,⟨tMB,mg_of X G gMB⟩,mg_of X G yGr,zi6 lGr kGr eG0 eG1 eG2 eG3 eG4,mg_of X G ysg,fun H=>.inr ⟨_,_,_,usg,rfl,rfl,yL,.cons ⟨_,rfl⟩ (.cons ⟨_,rfl⟩ .nil)⟩⟩;have pc0:PC K ⟨f3,f4,f5,f6,f7⟩ C0:=⟨cC0.c,nC0.1,nC0.2.1,nC0.2.2,⟨h0.1,g3.m.fn,g3.F.kp⟩,⟨h0.2.1,g4.m.fn,g4.F.kp⟩,⟨h0.2.2.1,g5.m.fn,g5.F.kp⟩,⟨h0.2.2.2.1,g6.m.fn,g6.F.kp⟩,⟨h0.2.2.2.2,g7.m.fn,g7.F.kp⟩⟩;have pc1:PC K ⟨f3,f4,f5,f6,f7⟩ C1:=⟨cC1.c,nC1.1,nC1.2.1,nC1.2.2,⟨h1.1,g3.m.fn,g3.F.kp⟩,⟨h1.2.1,g4.m.fn,g4.F.kp⟩,⟨h1.2.2.1,g5.m.fn,g5.F.kp⟩,⟨h1.2.2.2.1,g6.m.fn,g6.F.kp⟩,⟨h1.2.2.2.2,g7.m.fn,g7.F.kp⟩⟩;have pc2:PC K ⟨f3,f4,f5,f6,f7⟩ C2:=⟨cC2.c,nC2.1,nC2.2.1,nC2.2.2,⟨h2.1,g3.m.fn,g3.F.kp⟩,⟨h2.2.1,g4.m.fn,g4.F.kp⟩,⟨h2.2.2.1,g5.m.fn,g5.F.kp⟩,⟨h2.2.2.2.1,g6.m.fn,g6.F.kp⟩,⟨h2.2.2.2.2,g7.m.fn,g7.F.kp⟩⟩;have pc3:PC K ⟨f3,f4,f5,f6,f7⟩ C3:=⟨cC3.c,nC3.1,nC3.2.1,nC3.2.2,⟨h3.1,g3.m.fn,g3.F.kp⟩,⟨h3.2.1,g4.m.fn,g4.F.kp⟩,⟨h3.2.2.1,g5.m.fn,g5.F.kp⟩,⟨h3.2.2.2.1,g6.m.fn,g6.F.kp⟩,⟨h3.2.2.2.2,g7.m.fn,g7.F.kp⟩⟩;have pc4:PC K ⟨f3,f4,f5,f6,f7⟩ C4:=⟨cC4.c,nC4.1,nC4.2.1,nC4.2.2,⟨h4.1,g3.m.fn,g3.F.kp⟩,⟨h4.2.1,g4.m.fn,g4.F.kp⟩,⟨h4.2.2.1,g5.m.fn,g5.F.kp⟩,⟨h4.2.2.2.1,g6.m.fn,g6.F.kp⟩,⟨h4.2.2.2.2,g7.m.fn,g7.F.kp⟩⟩;have PP:Pcs K ⟨f3,f4,f5,f6,f7⟩ ⟨C0,C1,C2,C3,C4⟩:=fun k hk=>by
  rcases lt5 hk with rfl|rfl|rfl|rfl|rfl
  ·exact pc0
  ·exact pc1
  ·exact pc2
  ·exact pc3
  ·exact pc4
 have FK:FC K FM:=⟨cFM.c,nFM.1,nFM.2.1,nFM.2.2.1,nFM.2.2.2.1,nFM.2.2.2.2.1,nFM.2.2.2.2.2⟩
 let cl:Nat->Addr:=fun j=>match j with|0=>E9|1=>E10|2=>E11|3=>E12|4=>E13|_=>E14
 have ex9:vR K E9:=⟨ec9.1,ea9.1,ea9.2.1,ea9.2.2.1,xg.1,xg.2,ea9.2.2.2.1,ea9.2.2.2.2.1⟩;have ex10:vR K E10:=⟨ec10.1,ea10.1,ea10.2.1,ea10.2.2.1,xg.1,xg.2,ea10.2.2.2.1,ea10.2.2.2.2.1⟩;have ex11:vR K E11:=⟨ec11.1,ea11.1,ea11.2.1,ea11.2.2.1,xg.1,xg.2,ea11.2.2.2.1,ea11.2.2.2.2.1⟩;have ex12:vR K E12:=⟨ec12.1,ea12.1,ea12.2.1,ea12.2.2.1,xg.1,xg.2,ea12.2.2.2.1,ea12.2.2.2.2.1⟩;have ex13:vR K E13:=⟨ec13.1,ea13.1,ea13.2.1,ea13.2.2.1,xg.1,xg.2,ea13.2.2.2.1,ea13.2.2.2.2.1⟩;have ex14:vR K E14:=⟨ec14.1,ea14.1,ea14.2.1,ea14.2.2.1,xg.1,xg.2,ea14.2.2.2.1,ea14.2.2.2.2.1⟩;have so:∀i,i<6->exmOne K (.ref (cl i)) (.ref E15)=some true:=fun i hi=>match i,hi with|0,_=>em9|1,_=>em10|2,_=>em11|3,_=>em12|4,_=>em13|5,_=>em14|l+6,h=>absurd h ∅
 have UI:zmw mg:=⟨no zlen,no zset,no zrange⟩;have UL:uz mg:=⟨no zisinstance,no zint,no zlen,no zrange,no zlist,no zzip,no zmax⟩;have DK:D4 K mg ⟨Q0,Q1,Q2,Q3⟩ DF:=⟨fun k hk H p dx fs e=>match k,hk,e with|0,_,e=>wA.ins (C:=Q0) e cQ0.c qc0.1 xg.1 xg.2 qc0.2|1,_,e=>wA.ins (C:=Q1) e cQ1.c qc1.1 xg.1 xg.2 qc1.2|2,_,e=>wA.ins (C:=Q2) e cQ2.c qc2.1 xg.1 xg.2 qc2.2|3,_,e=>wA.ins (C:=Q3) e cQ3.c qc3.1 xg.1 xg.2 qc3.2|k+4,h,_=>absurd h ∅,fun k hk l hl=>match k,hk,l,hl with|0,_,0,_=>qk0.1|0,_,1,_=>qk0.2.1|0,_,2,_=>qk0.2.2.1|0,_,3,_=>qk0.2.2.2.1|1,_,0,_=>qk1.1|1,_,1,_=>qk1.2.1|1,_,2,_=>qk1.2.2.1|1,_,3,_=>qk1.2.2.2.1|2,_,0,_=>qk2.1|2,_,1,_=>qk2.2.1|2,_,2,_=>qk2.2.2.1|2,_,3,_=>qk2.2.2.2.1|3,_,0,_=>qk3.1|3,_,1,_=>qk3.2.1|3,_,2,_=>qk3.2.2.1|3,_,3,_=>qk3.2.2.2.1|k+4,h,_,_=>absurd h ∅|_,_,l+4,h=>absurd h ∅,fun k hk=>match k,hk with|0,_=>qk0.2.2.2.2|1,_=>qk1.2.2.2.2|2,_=>qk2.2.2.2.2|3,_=>qk3.2.2.2.2|k+4,h=>absurd h ∅,cQ0.c,cQ3.c,nQ0,nQ3.1,nQ3.2.1,nQ3.2.2,mg_of X G cQ0.a,mg_of X G cQ1.a,mg_of X G cQ2.a,mg_of X G cQ3.a,mg_of X G yDF⟩
 have WC:jB K mg WE:=⟨cWE.c,nWE,mg_of X G cWE.a⟩;have UK:K44.UC K FU:=⟨cFU.c,nFU.1,nFU.2.1,nFU.2.2⟩;exists _,g77.law,fun base KB GB=>?_;have B:TB l.prog w K mg base:=⟨fun e=>mg_of X G e⟩;have x9:jp l.prog w K mg base "Doubled" (cl 0) f28 _ "number" "number":=⟨⟨ec9.2.1,ea9.2.2.2.2.2.2.1,g28.m.fn,ea9.2.2.2.2.2.2.2.1,ea9.2.2.2.2.2.2.2.2.1,ea9.2.2.2.2.2.1⟩,⟨ec9.2.2,ea9.2.2.2.2.2.2.2.2.2.1,ea9.2.2.2.2.1⟩,ea9.2.2.2.2.2.2.2.2.2.2,ex9,mg_of X G yE9,vZ g28.F,g28.F.b2⟩;have x10:jp l.prog w K mg base "Over" (cl 1) f28 _ "number" "number":=⟨⟨ec10.2.1,ea10.2.2.2.2.2.2.1,g28.m.fn,ea10.2.2.2.2.2.2.2.1,ea10.2.2.2.2.2.2.2.2.1,ea10.2.2.2.2.2.1⟩,⟨ec10.2.2,ea10.2.2.2.2.2.2.2.2.2.1,ea10.2.2.2.2.1⟩,ea10.2.2.2.2.2.2.2.2.2.2,ex10,mg_of X G yE10,vZ g28.F,g28.F.b2⟩;have x11:jp l.prog w K mg base "Barred" (cl 2) f28 _ "number" "number":=⟨⟨ec11.2.1,ea11.2.2.2.2.2.2.1,g28.m.fn,ea11.2.2.2.2.2.2.2.1,ea11.2.2.2.2.2.2.2.2.1,ea11.2.2.2.2.2.1⟩,⟨ec11.2.2,ea11.2.2.2.2.2.2.2.2.2.1,ea11.2.2.2.2.1⟩,ea11.2.2.2.2.2.2.2.2.2.2,ex11,mg_of X G yE11,vZ g28.F,g28.F.b2⟩;have x12:jp l.prog w K mg base "Again" (cl 3) f28 _ "number" "number":=⟨⟨ec12.2.1,ea12.2.2.2.2.2.2.1,g28.m.fn,ea12.2.2.2.2.2.2.2.1,ea12.2.2.2.2.2.2.2.2.1,ea12.2.2.2.2.2.1⟩,⟨ec12.2.2,ea12.2.2.2.2.2.2.2.2.2.1,ea12.2.2.2.2.1⟩,ea12.2.2.2.2.2.2.2.2.2.2,ex12,mg_of X G yE12,vZ g28.F,g28.F.b2⟩;have x13:jp l.prog w K mg base "Strange" (cl 4) f28 _ "number" "number":=⟨⟨ec13.2.1,ea13.2.2.2.2.2.2.1,g28.m.fn,ea13.2.2.2.2.2.2.2.1,ea13.2.2.2.2.2.2.2.2.1,ea13.2.2.2.2.2.1⟩,⟨ec13.2.2,ea13.2.2.2.2.2.2.2.2.2.1,ea13.2.2.2.2.1⟩,ea13.2.2.2.2.2.2.2.2.2.2,ex13,mg_of X G yE13,vZ g28.F,g28.F.b2⟩;have x14:jp l.prog w K mg base "Lacking" (cl 5) f28 _ "number" "number":=⟨⟨ec14.2.1,ea14.2.2.2.2.2.2.1,g28.m.fn,ea14.2.2.2.2.2.2.2.1,ea14.2.2.2.2.2.2.2.2.1,ea14.2.2.2.2.2.1⟩,⟨ec14.2.2,ea14.2.2.2.2.2.2.2.2.2.1,ea14.2.2.2.2.1⟩,ea14.2.2.2.2.2.2.2.2.2.2,ex14,mg_of X G yE14,vZ g28.F,g28.F.b2⟩;have X6:X6 l.prog w K mg base cl f28 _:=⟨x9,x10,x11,x12,x13,x14⟩;have cI:=g1.c1 B (zl2 g1.F T);have GP:zA l.prog w K mg base CX0 2 f2 _ ["self","word","name","may_lack"] (spP K ⟨f3,f4,f5,f6,f7⟩):=zgU g2.F cI;have mD:=mg_of X G cD.a;have UC:zjQ l.prog w K mg base ⟨C0,C1,C2,C3,C4⟩ f8 f9 f10 f11 f12 _ _ _ _ _:=⟨⟨⟨cC0.ms,g8.m.at_,g8.m.fn,cC0.kc⟩,ziF g8.F pc0 dga mD GP g2.F.b4,mg_of X G cC0.a,g8.b0⟩,⟨⟨cC1.ms,g9.m.at_,g9.m.fn,cC1.kc⟩,ziW g9.F pc1 dga mD GP g2.F.b4,mg_of X G cC1.a,g9.b0⟩,⟨⟨cC2.ms,g10.m.at_,g10.m.fn,cC2.kc⟩,ziD g10.F pc2 dga mD GP g2.F.b4,mg_of X G cC2.a,g10.F.b2⟩,⟨⟨cC3.ms,g11.m.at_,g11.m.fn,cC3.kc⟩,zkG g11.F pc3 dga mD GP g2.F.b4,mg_of X G cC3.a,g11.b0⟩,⟨⟨cC4.ms,g12.m.at_,g12.m.fn,cC4.kc⟩,zkQ g12.F pc4 dga mD GP g2.F.b4,mg_of X G cC4.a,g12.F.b2⟩⟩;have GF:zA l.prog w K mg base CX0 1 f3 _ ["self"] (zaY K ⟨f3,f4,f5,f6,f7⟩):=ziS g3.F;have GQ:zA l.prog w K mg base CX0 1 f4 _ ["self"] (jE K ⟨f3,f4,f5,f6,f7⟩ bpL):=zb0 g4.F Wd;have GN:zA l.prog w K mg base CX0 1 f5 _ ["self"] (jE K ⟨f3,f4,f5,f6,f7⟩ bnL):=zdc g5.F Wd;have cM1:=g23.c2 B (ziM g23.F TF);have cM2:=g24.c1 B (zgX g24.F TF PP);have cM3:=g25.c1 B (zgT g25.F cI);have cM4:=g26.c2 B (zgO g26.F TF PP GN g5.F.b1);have cW:=g27.c2 B (ziJ g27.F TF PP);have GK:=ziQ g14.F TF PP FK cW GQ g4.F.b1 GN g5.F.b1;have GI:=zg5 g13.F FK g14.m cM1 cM2 cM3 cM4 GK (g14.F.b3);have Gpa:zA l.prog w K mg base CX0 1 f15 _ ["self"] (uY ⟨C0,C1,C2,C3,C4⟩ FM):=zg4 g15.F TF FK;have Gba:zA l.prog w K mg base CX0 1 f16 _ ["self"] (zcE ⟨C0,C1,C2,C3,C4⟩ FM):=zg6 g16.F TF FK;have Gpl:zA l.prog w K mg base CX0 1 f17 _ ["self"] (vG ⟨C0,C1,C2,C3,C4⟩ FM):=zdb g17.F FK;have Gta:zA l.prog w K mg base CX0 1 f18 _ ["self"] (vg ⟨C0,C1,C2,C3,C4⟩ FM 2):=zg3 g18.F FK;have Gbg:zA l.prog w K mg base CX0 1 f19 _ ["self"] (vg ⟨C0,C1,C2,C3,C4⟩ FM 4):=ziU g19.F FK;have Gnu:zA l.prog w K mg base CX0 1 f20 _ ["self","name"] (zdY ⟨C0,C1,C2,C3,C4⟩ FM):=ziT g20.F FK;have cL:=g37.c1 B (ziP g37.F);have cSh:=g38.c1 B (zgS g38.F (no zlen) cL);have cFn:=g39.c1 B (ze6 g39.F (no zenumerate));have cOv:=g41.c2 B (zgW g41.F (no zrange) FK g18.m Gta (g18.F.b1) g17.m Gpl (g17.F.b1));have cUn:=g42.c3 B (zkF g42.F (no zset) FK g16.m Gba (g16.F.b1) g20.m Gnu (g20.F.b2) g19.m Gbg (g19.F.b1) g17.m Gpl (g17.F.b1));have cEn:=g44.c4 B (ziI g44.F PP GQ g4.F.b1 GN g5.F.b1);have cLa:=g43.c3 B (zg2 g43.F (no zenumerate) PP FK g15.m Gpa (g15.F.b1) GF g3.F.b1 cEn);have cMo:=g40.c3 B (zkM g40.F (no zenumerate) cFn cOv cUn cLa);have GTk:zA l.prog w K mg base CX0 1 f6 _ ["self"] (jE K ⟨f3,f4,f5,f6,f7⟩ otL):=zbr g6.F Wd;have kT:jr l.prog w K mg base CX0 1 "Told" Q0 f29 _ ["self","number"] [] (zhX Q0):=⟨⟨cQ0.ms,g29.m.at_,g29.m.fn,cQ0.kc⟩,zg9 g29.F cQ0.c nQ0,mg_of X G cQ0.a,g29.F.b2⟩;have kS:jr l.prog w K mg base CX0 1 "Sum" Q3 f30 _ ["self","at","times","plus"] [] (zj8 Q3):=⟨⟨cQ3.ms,g30.m.at_,g30.m.fn,cQ3.kc⟩,ziV g30.F cQ3.c nQ3.1 nQ3.2.1 nQ3.2.2,mg_of X G cQ3.a,g30.F.b4⟩;have k4:zhM l.prog w K mg base ⟨Q0,Q1,Q2,Q3⟩ f29 f30 _ _:=⟨kT,kS,⟨cQ1.ms,qi1,cQ1.kc⟩,⟨cQ2.ms,qi2,cQ2.kc⟩,mg_of X G cQ1.a,mg_of X G cQ2.a⟩;have bW:zM K _ ["self","first"] []:=fun s us KX hl=>match us,hl with|[u,v],_=>g34.F.bindsTo (fun _ _ _ _ _ _ _=>⟨_,rfl,rfl⟩) KX
 have kW:jr l.prog w K mg base CX0 1 "Well" WE f34 _ ["self","first"] [] (zcD WE):=⟨⟨cWE.ms,g34.m.at_,g34.m.fn,cWE.kc⟩,zgL g34.F WC,mg_of X G cWE.a,bW⟩;have GD:zA l.prog w K mg base CX0 1 f35 _ ["self"] (j8 WE):=zgM g35.F WC;have GA:zA l.prog w K mg base CX0 1 f36 _ ["self"] (jK WE):=ze2 g36.F WC;have cFr:=g48.c1 B (zl4 g48.F (no zenumerate) PP FK g15.m Gpa (g15.F.b1) GTk g6.F.b1 GF g3.F.b1);have cRd:=g49.c2 B (ziH g49.F UL FK DK cFr g18.m Gta (g18.F.b1));have cSe:=g50.c3 B (zkJ g50.F UL DK WC cFr g35.m GD (g35.F.b1) kT);have GU:zA l.prog w K mg base CX0 4 f31 _ ["self","form","defaults","well"] (zj5 ⟨C0,C1,C2,C3,C4⟩ ⟨Q0,Q1,Q2,Q3⟩ FM WE FU):=zgN g31.F UK cRd cSe;have cHo:=g51.c3 B (zl3 g51.F);have GL:zA l.prog w K mg base CX0 2 f33 _ ["self","number","given"] (zcA K ⟨C0,C1,C2,C3,C4⟩ ⟨Q0,Q1,Q2,Q3⟩ FM WE FU):=ziN g33.F UL DK UK WC g35.m GD (g35.F.b1);have cEy:=g46.c4 B (zg7 g46.F (no zrange) (no zlist) FK g18.m Gta (g18.F.b1) g17.m Gpl (g17.F.b1) g19.m Gbg (g19.F.b1) g20.m Gnu (g20.F.b2) g15.m Gpa (g15.F.b1) cEn);have cRe:uT l.prog w K mg base 3 "refuse" f45 _ ["word","number"] (j6 cl):=⟨ze3 g45.F X6,B.mgo g45.a,g45.F.kp,g45.F.b2⟩;have cPa:uT l.prog w K mg base 5 "paper" f47 _ ["form","call"] (zaT K ⟨C0,C1,C2,C3,C4⟩ FM cl):=⟨zgV g47.F (no zrange) (no zlen) FK cSh cMo cRe cFn cEy g15.m Gpa (g15.F.b1),B.mgo g47.a,g47.F.kp,g47.F.b2⟩;have GAn:zA l.prog w K mg base (CXs l.prog w) 6 f32 _ ["self","call"] (zfU K ⟨C0,C1,C2,C3,C4⟩ ⟨Q0,Q1,Q2,Q3⟩ FM WE FU cl):=zkR g32.F (no zenumerate) UK cPa cL cHo g33.m GL (g33.F.b3);have cPf:=g22.c1 B (zkK g22.F UC);have cN:=g52.c2 B (zkL g52.F UL);have cMx:=g53.c2 B (zkN g53.F);have cRi:=g54.c1 B (ziG g54.F (no zrange) cMx);have cTk:=g56.c2 B (ziC g56.F (no zsum) (no zlen) cRi);have cHa:=g55.c1 B (ziR g55.F (no zlist) cN cRi);have cNm:=g57.c2 B (ziL g57.F (no zlen) cTk);have cSp:=g58.c1 B (zgR g58.F (no zint) cTk cNm);have cBr:=g59.c2 B (zg1 g59.F cNm);have cX:=g60.c1 B (ziK g60.F cTk);have cFi:=g61.c4 B (zg0 g61.F UI);have cSg:=g62.c2 B (zkI g62.F UL);have cLo:=g63.c1 B (zgY g63.F UL cSg);have cDe:=g68.c1 B (zkP g68.F k4);have cDr:=g64.c3 B (zg8 g64.F UL cSg cTk cX);have cTo:=g65.c2 B (zgP g65.F cLo cDr cN);have cLs:=g66.c3 B (ze4 g66.F UL cTk cNm);have cHd:=g67.c3 B (ze5 g67.F UL cX);have cVa:=g69.c5 B (ziB g69.F UL);have cAn:=g70.c2 B (ziO g70.F UK (mg_of X G yM) so g32.m GAn (g32.F.b2));have cSd:=g71.c2 B (zkH g71.F cDe);have cMa:=g76.c5 B (zgZ g76.F cLo cSd (mg_of X G cFU.a) ⟨cFU.ms,g31.m.at_,g31.m.fn,cFU.kc⟩ GU (g31.F.b4));have cSt:=g72.c3 B (ziE g72.F cLo);have cSl:=g73.c1 B (zgQ g73.F UL);have cCo:=g74.c1 B (ze7 g74.F UL);have cCa:=g75.c8 B (ze8 g75.F UL WC g36.m GA (g36.F.b1) cVa cAn cSl cCo);exact zkO g77.F UL (no zall) cN cHa cSp cBr cX WC kW g36.m GA (g36.F.b1) g35.m GD (g35.F.b1) ⟨cQ1.ms,qi1,cQ1.kc⟩ ⟨cQ2.ms,qi2,cQ2.kc⟩ (mg_of X G cQ1.a) (mg_of X G cQ2.a) (mg_of X G cFM.a) ⟨cFM.ms,g13.m.at_,g13.m.fn,cFM.kc⟩ GI g13.b0 cPf cTo cMa cSt cLs cHd cFi cCa cAn
theorem znJ{l:PySem.W.OpenLaw}{q:Program}{loose:List Str}{XP:(Str->Option Value)->Heap->Prop}{YP:World->Heap->Prop}{d:DefRec}{K:Params->Frag}(hn:l.most=some 63)(hdf:d.params.defaults=[])
  (hY:∀(w:World) (h:Heap),YP w h->(K w.params).In h)
  (F:∀(w:World) (mg:Str->Option Value) (fa:Addr) (h:Heap),(K w.params).In h->h.Ns mainGlobals mg->mg d.name=some (.ref fa)->
   ∃fd:FuncData,(∀(s:Shared) (u:Value),BindsTo s fd ⟨[u],[]⟩ [("_law_script",u)])/\∀base:Heap,(K w.params).In base->base.Ns mainGlobals mg->zA l.prog w (K w.params) mg base CX0 9 fa fd ["_law_script"] (zaX (K w.params))) :
  PySem.W.WalkO q loose XP YP l.row.toRowW d [] (fun f vs=>PySem.call f vs):=
 L2.zlp (n:=63) (k:=9) (x:="_law_script") (CX:=fun _=>CX0) (sp:=fun w=>zaX (K w.params)) hn ⋯ hdf ⟨rfl,⋯,⋯,rfl⟩ hY F (fun _ _ a ns hl hb _ hS=>⟨a,ns,rfl,hS,hl,fun _=>rfl⟩) fun _ _ _ _ _ z=>z
end K44
end
open PySem PySem.W PyProof.Rows
set_option maxRecDepth 100000 in
set_option maxHeartbeats 0 in
theorem PySem.Challenge.cw_callbinds_k44_whole_two_functions_one_we_holds : PySem.Challenge.rw_callbinds_k44_whole_two_functions_one_we.Holds := by
 w_on; o_law; k_head; (case hw => w_witness2)
 k_fill
 refine K44.znJ (l := PySem.Challenge.rw_callbinds_k44_whole_two_functions_one_we) rfl rfl (fun w h Y => PySem.W.kIn_of Y) ?F
 case F =>
  intro w mg fa h KX G hmg
  refine' K44.znu KX G hmg ?cD ?cC0 ?nC0 ?cC1 ?nC1 ?cC2 ?nC2 ?cC3 ?nC3 ?cC4 ?nC4 ?cFM ?nFM ?g1 ?g2 ?g3 ?g4 ?g5 ?g6 ?g7 ?g8 ?g9 ?g10 ?g11 ?g12 ?g13 ?g14 ?g15 ?g16 ?g17 ?g18 ?g19 ?g20 ?g21 ?g22 ?g23 ?g24 ?g25 ?g26 ?g27 ?yM ?g28 ?cQ0 ?nQ0 ?cQ1 ?cQ2 ?cQ3 ?nQ3 ?cFU ?nFU ?cWE ?nWE ?g29 ?g30 ?g31 ?g32 ?g33 ?g34 ?g35 ?g36 ?g37 ?g38 ?g39 ?g40 ?g41 ?g42 ?g43 ?g44 ?g45 ?g46 ?g47 ?g48 ?g49 ?g50 ?g51 ?g52 ?g53 ?g54 ?g55 ?g56 ?g57 ?g58 ?g59 ?g60 ?g61 ?g62 ?g63 ?g64 ?g65 ?g66 ?g67 ?g68 ?g69 ?g70 ?g71 ?g72 ?g73 ?g74 ?g75 ?g76 ?g77 ?zisinstance ?zstr ?zbool ?zlen ?zall ?zrange ?zlist ?zenumerate ?zset ?zmax ?zint ?zzip ?zsum ?gL ?gN ?gMP ?gMB ?ytP ?utP ?ytB ?utB ?ytO ?utO ?ysg ?usg ?yGr ?lGr ?kGr ?eG0 ?eG1 ?eG2 ?eG3 ?eG4 ?dga ?h0 ?h1 ?h2 ?h3 ?h4 ?yDF ?qc0 ?qc1 ?qc2 ?qc3 ?qk0 ?qk1 ?qk2 ?qk3 ?qi1 ?qi2 ?xg ?yE9 ?yE10 ?yE11 ?yE12 ?yE13 ?yE14 ?ec9 ?ec10 ?ec11 ?ec12 ?ec13 ?ec14 ?ea9 ?ea10 ?ea11 ?ea12 ?ea13 ?ea14 ?em9 ?em10 ?em11 ?em12 ?em13 ?em14
  (case cD | cC0 => apply L2.znI <;> k_is)
  (case nC0 => exact ⟨by k_is, by k_is, by k_is⟩)
  (case cC1 => apply L2.znI <;> k_is)
  (case nC1 => exact ⟨by k_is, by k_is, by k_is⟩)
  (case cC2 => apply L2.znI <;> k_is)
  (case nC2 => exact ⟨by k_is, by k_is, by k_is⟩)
  (case cC3 => apply L2.znI <;> k_is)
  (case nC3 => exact ⟨by k_is, by k_is, by k_is⟩)
  (case cC4 => apply L2.znI <;> k_is)
  (case nC4 => exact ⟨by k_is, by k_is, by k_is⟩)
  (case cFM => apply L2.znI <;> k_is)
  (case nFM => exact ⟨by k_is, by k_is, by k_is, by k_is, by k_is, by k_is⟩)
  (case g1 => apply L2.znG <;> k_is)
  (case g2 | g3 | g4 | g5 | g6 | g7 => apply L2.znF <;> k_is)
  (case g8 | g9 => apply L2.znH <;> k_is)
  (case g10 => apply L2.znF <;> k_is)
  (case g11 => apply L2.znH <;> k_is)
  (case g12 => apply L2.znF <;> k_is)
  (case g13 => apply L2.znH <;> k_is)
  (case g14 | g15 | g16 | g17 | g18 | g19 | g20 | g21 => apply L2.znF <;> k_is)
  (case g22 | g23 | g24 | g25 | g26 | g27 => apply L2.znG <;> k_is)
  (case yM => k_is)
  (case g28 => apply L2.znF <;> k_is)
  (case cQ0 => apply L2.znI <;> k_is)
  (case nQ0 => k_is)
  (case cQ1 | cQ2 | cQ3 => apply L2.znI <;> k_is)
  (case nQ3 => exact ⟨by k_is, by k_is, by k_is⟩)
  (case cFU => apply L2.znI <;> k_is)
  (case nFU => exact ⟨by k_is, by k_is, by k_is⟩)
  (case cWE => apply L2.znI <;> k_is)
  (case nWE => k_is)
  (case g29 | g30 | g31 | g32 | g33 => apply L2.znF <;> k_is)
  (case g34 => apply L2.znH <;> k_is)
  (case g35 | g36 => apply L2.znF <;> k_is)
  (case g37 | g38 | g39 | g40 | g41 | g42 | g43 | g44 | g45 | g46 | g47 | g48 | g49 | g50 | g51 | g52 | g53 | g54 | g55 | g56 | g57 | g58 | g59 | g60 | g61 | g62 | g63 | g64 | g65 | g66 | g67 | g68 | g69 | g70 | g71 | g72 | g73 | g74 | g75 | g76 | g77 => apply L2.znG <;> k_is)
  (case zisinstance | zstr | zbool | zlen | zall | zrange | zlist | zenumerate | zset | zmax | zint | zzip | zsum | gL | gN | gMP | gMB | ytP | utP | ytB | utB | ytO | utO | ysg | usg | yGr | lGr => k_is)
  (case kGr => k_keys)
  (case eG0 | eG1 | eG2 | eG3 | eG4 => k_is)
  (case dga => exact ⟨by k_is, by k_is, by k_is, by k_is⟩)
  (case h0 | h1 | h2 | h3 | h4 => exact ⟨by k_is, by k_is, by k_is, by k_is, by k_is⟩)
  (case yDF => k_is)
  (case qc0 | qc1 | qc2 | qc3 => exact ⟨by k_is, by k_is⟩)
  (case qk0 | qk1 | qk2 | qk3 => exact ⟨by kit_is, by kit_is, by kit_is, by kit_is, by kit_is⟩)
  (case qi1 | qi2 => k_is)
  (case xg => exact ⟨by k_is, by k_is⟩)
  (case yE9 | yE10 | yE11 | yE12 | yE13 | yE14 => k_is)
  (case ec9 | ec10 | ec11 | ec12 | ec13 | ec14 => exact ⟨by first | kernel_rfl | exact rfl, by first | kernel_rfl | exact rfl, by first | kernel_rfl | exact rfl⟩)
  (case ea9 | ea10 | ea11 | ea12 | ea13 | ea14 => exact ⟨by k_is, by k_is, by k_is, by k_is, by k_is, by k_is, by k_is, by k_is, by k_is, by k_is, by k_is⟩)
  (case em9 | em10 | em11 | em12 | em13 | em14 => kts_exm)
#print axioms PySem.Challenge.cw_callbinds_k44_whole_two_functions_one_we_holds
