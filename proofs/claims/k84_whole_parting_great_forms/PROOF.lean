import PyProof.Rows.All
import Wide.All
import OpenK.AllK
import Wide.FinOn
import Lean
import PyProof.EqAt
import PyProof.EqKinds
import PyProof.TupleCall
import KE.KTryMore
import PyProof.ExcAttrAll.ValueError
import KE.KRevIter
import PyProof.SetNew
import PyProof.SetRoads
import PyProof.Rows.SetObj
import PyProof.DictCompW
import PyProof.DictItems
import PyProof.Rows.SetFrom
import PyProof.ListRange
import PyProof.Rows.Range3
import KE.IntBitsLaws
import PyProof.AttrMissHeap
import PyProof.FactsAll.bool_1
import KE.KDictOf
import PyProof.WalkInts
import PyProof.P3Eq
import PyProof.Rows.SortStr
import PyProof.Rows.SortWalk
import PyProof.DictRoadsH
import PyProof.FactsAll.set
import PyProof.CollectWalk
import PyProof.CollectIter
import PyProof.NeData
import KE.KMinBuiltin
import PyProof.Rows.CallKwBuiltin
import KE.RegKIsAll
import KE.RegKTryMore
import PySem.Challenge.RW_callbinds_k84_whole_parting_great_forms
set_option Elab.async false
set_option linter.all false
set_option maxRecDepth 100000
set_option maxHeartbeats 4000000
open Nat (lt_of_lt_of_le lt_irrefl ne_of_lt le_of_lt ne_of_gt zero_le lt_succ_self le_succ succ_le_succ lt_trans lt_of_le_of_lt lt_succ_of_lt not_lt_zero min_eq_left min_eq_right mod_lt lt_or_ge lt_of_sub_eq_succ le_succ_of_le le_add_right succ_pos)
open List (filterMap_cons mem_cons_self mem_cons_of_mem mem_append_left getElem?_set_ne mem_append_right size_toArray length_cons length_nil map_cons length_map append_nil of_mem_zip length_take getElem?_append_right getElem?_append_left getElem?_map take_sublist mem_of_getElem? length_append length_drop length_set all_cons any_cons replicate_succ flatten_cons append_assoc length_singleton nil_append find?_cons map_nil lookup_cons contains_iff_mem getElem?_eq_getElem getD_eq_getElem?_getD all_eq_true getElem_mem reverse_cons take_of_length_le map_map all_map take_add_one map_append take_succ_eq_append_getElem filter_append length_filter_le take_length mem_append getElem?_eq_none flatten_append take_append_drop length_range range_succ any_map any_append any_eq_true getElem?_range filter_cons zip_cons_cons not_lt drop_of_length_le take_nil drop_nil map_drop mem_of_mem_drop map_take mem_of_mem_take filter_congr append_eq_nil_iff getElem?_drop not_mem_nil nodup_nil eq_nil_of_length_eq_zero ext_getElem? length_reverse mem_cons nodup_range map_reverse reverse_perm map_set getElem?_of_mem reverse_reverse lookup_cons_self)
open Int (toNat_natCast eq_ofNat_of_zero_le emod_nonneg emod_lt_of_pos)
open Option (getD_none map_some isSome_map map_eq_none_iff)
open PySem.W (instObj methodObj lookIn plainGet hasDictIn findIn plainGet_of isFn plainOver takerIn makesIn emptyDict keepIn kitOne kia_one callWith_K methodCall_KW fnOf codeIn KeysLit nsIn mg_of Frag)
local macro_rules|`(tactic|exists $xs,*)=>`(tactic|refine ⟨$xs,*⟩)
section
set_option hygiene false in
local macro_rules|`($s:ident[$i]'$x)=>`(zp (zx (i:=$i) ($s).nd rfl (Or.inl rfl) $x) ?_)
set_option hygiene false in
local macro_rules|`(⋯)=>`(by decide)
set_option hygiene false in
local macro_rules|`(∅)=>`(by omega)
set_option hygiene false in
local macro_rules|`(~~~$x)=>`(some (.ref $x))
set_option hygiene false in
local macro_rules|`(↥$x)=>`(zL P w K mg base CX0 $x)
set_option hygiene false in
local macro_rules|`(⇑$x)=>`(zI P w K mg base $x)
set_option hygiene false in
local macro_rules|`(tactic|specialize $s)=>`(tactic|refine F.ok $s (fun cdv A outer s H vs Q E hr h=>?_))
set_option hygiene false in
local macro_rules|`(tactic|and_intros)=>`(tactic|(refine ⟨?_⟩;intro pins s σ H Q I h))
set_option hygiene false in
local macro_rules|`(↑$x)=>`(PySem.wpAny (PySem.model ($x).prog ($x).w) ($x).A)
namespace L2
open PySem PySem.Spec PyProof.Rows
theorem zp2147483647:(0:Int)<2147483647:=by decide
theorem zp3:(0:Int)<3:=by decide
theorem zp26:(0:Int)<26:=by decide
theorem zp8:(0:Int)<8:=by decide
theorem zp2:(0:Int)<2:=by decide
theorem zp16:(0:Int)<16:=by decide
abbrev aA:=@List.length_map
abbrev aB:=@List.getElem?_eq_getElem
abbrev aC:=@decide_eq_true
abbrev aD:=@decide_eq_false
abbrev aE:=@List.map_append
abbrev aF:=@Nat.le_refl
abbrev aG:=@List.length_append
abbrev aH:=@List.mem_of_getElem?
abbrev aI:=@PySem.Heap.lt_size
abbrev aJ:=@if_neg
abbrev aK:=@if_pos
abbrev PnL:=List (Addr×Obj)
abbrev VSP:=Value->Shared->Prop
theorem wN : 0<=sizeLine:=by decide
theorem ux : 1<=sizeLine:=by decide
theorem yG : 2<=sizeLine:=by decide
theorem uP : 3<=sizeLine:=by decide
theorem zme : 10<=sizeLine:=by decide
abbrev zwb:=@wpAny_bind
abbrev zwp:=@wpAny_pure
abbrev zft:=@Bool.false_ne_true
abbrev zgp:=@Heap.get?_push_of_some
abbrev zgs:=@Heap.get?_push_size
abbrev Key:=Sum Int Str
def qU:Key->Value->Bool
 | .inl k,v=>Value.isInt k v
 | .inr x,v=>Value.isStrOf x v
def znM(w:World):Key->Int
 | .inl k=>hashInt k
 | .inr x=>hashStr w x
theorem yK:∀{k:Key}{v:Value},qU k v=true->(∃i t,k=Sum.inl i/\v=Value.int i t)\/(∃x t,k=Sum.inr x/\v=Value.str x t)
 | .inl i,v,h=>by
  obtain⟨t,e⟩:=Value.isInt_shape (k:=i) (v:=v) h;exact .inl ⟨i,t,rfl,e⟩
 | .inr x,v,h=>by
  obtain⟨t,e⟩:=Value.isStrOf_shape (x:=x) (v:=v) h;exact .inr ⟨x,t,rfl,e⟩
theorem zfV(i:Int)(t:Tok):qU (.inl i) (.int i t)=true:=by simp [qU,Value.isInt]
theorem zfU(x:Str)(t:Tok):qU (.inr x) (.str x t)=true:=by simp [qU,Value.isStrOf]
theorem zlD(a b:Int):decide ((Sum.inl a:Key)=Sum.inl b)=(a==b):=by
 by_cases e:a=b
 ·subst e;simp
 ·have h:¬(Sum.inl a:Key)=Sum.inl b:=fun q=>e (Sum.inl.inj q)
  rw[aD h];exact(beq_eq_false_iff_ne.mpr e).symm
theorem zh3(a b:Str):decide ((Sum.inr a:Key)=Sum.inr b)=decide (a=b):=by
 by_cases e:a=b
 ·subst e;simp
 ·have h:¬(Sum.inr a:Key)=Sum.inr b:=fun q=>e (Sum.inr.inj q)
  rw[aD h,aD e]
theorem zlC(a:Int)(b:Str):decide ((Sum.inl a:Key)=Sum.inr b)=false:=aD (fun q=>nomatch q)
theorem zlB(a:Str)(b:Int):decide ((Sum.inr a:Key)=Sum.inl b)=false:=aD (fun q=>nomatch q)
def yx(prog:Program)(w:World):PySem.KeyKind prog w Key where
 is:=qU
 hash:=znM w
 inj:=fun v a b ha hb=>by
  rcases yK ha with ⟨i,t,rfl,rfl⟩|⟨x,t,rfl,rfl⟩
  ·rcases yK hb with ⟨j,u,rfl,e⟩|⟨y,u,rfl,e⟩
   ·injection e with e1 _;rw[e1]
   ·exact nomatch e
  ·rcases yK hb with ⟨j,u,rfl,e⟩|⟨y,u,rfl,e⟩
   ·exact nomatch e
   ·injection e with e1 _;rw[e1]
 byValue:=fun k v h=>by
  rcases yK h with ⟨i,t,rfl,rfl⟩|⟨x,t,rfl,rfl⟩ <;> rfl
 pyHash:=fun hv h=>by
  rcases yK hv with ⟨i,t,rfl,rfl⟩|⟨x,t,rfl,rfl⟩
  ·exact wpAny_pyHash_int h
  ·exact wpAny_pyHash_str h
 eqBool:=fun hu hv h=>by
  rcases yK hu with ⟨i,t,rfl,rfl⟩|⟨x,t,rfl,rfl⟩
  ·rcases yK hv with ⟨j,u,rfl,rfl⟩|⟨y,u,rfl,rfl⟩
   ·rw[zlD] at h;exact wpAny_eqBool_int h
   ·rw[zlC] at h;exact SeqAt.EqAt.int_str i t y u _ _ _ _ h
  ·rcases yK hv with ⟨j,u,rfl,rfl⟩|⟨y,u,rfl,rfl⟩
   ·rw[zlB] at h;exact SeqAt.EqAt.str_int x t j u _ _ _ _ h
   ·rw[zh3] at h;exact wpAny_eqBool_str h
 «strs»:=fun k x t v h=>by
  rcases yK h with ⟨i,u,rfl,e⟩|⟨y,u,rfl,e⟩
  ·exact nomatch e
  ·injection e with e1 _
   subst e1;cases v <;> rfl
theorem zcH(prog:Program)(w:World)(i:Int)(t:Tok):(yx prog w).is (.inl i) (.int i t)=true:=zfV i t
theorem zcG(prog:Program)(w:World)(x:Str)(t:Tok):(yx prog w).is (.inr x) (.str x t)=true:=zfU x t
inductive V where
 | non|bl (b:Bool)|int (i:Int)|str (x:Str)|byt (b:Array UInt8)|flt (b:UInt64)|ref (a:Addr)|ty (n:String)
 deriving DecidableEq
def z5:V->Value->Prop
 | .non,u=>u=Value.none
 | .bl b,u=>u=Value.bool b
 | .int i,u=>∃t,u=Value.int i t
 | .str x,u=>∃t,u=Value.str x t
 | .byt b,u=>∃t,u=Value.bytes b t
 | .flt b,u=>∃t,u=Value.float b t
 | .ref a,u=>u=Value.ref a
 | .ty n,u=>u=Value.type n
abbrev zV:List V->List Value->Prop:=Paired z5
theorem zV.length(r:zV xs us):xs.length=us.length:=Paired.length r
theorem zV.get:∀{xs:List V}{us:List Value}{i:Nat}{x:V},zV xs us->xs[i]?=some x->∃u,us[i]?=some u/\z5 x u
 | _,_,_,_,.nil,e=>by simp at e
 | _,_,0,_,.cons r _,e=>by simp at e;subst e;exact⟨_,rfl,r⟩
 | _,_,i+1,x,.cons _ t,e=>by
  obtain⟨u,h1,h2⟩:=zV.get (i:=i) (x:=x) t (by simpa using e)
  exact⟨u,by simpa using h1,h2⟩
theorem zV.set{x:V}{u:Value}(r:z5 x u):∀{xs:List V}{us:List Value}(i:Nat),zV xs us->zV (xs.set i x) (us.set i u)
 | _,_,_,.nil=>.nil
 | _,_,0,.cons _ t=>.cons r t
 | _,_,i+1,.cons q t=>.cons q (zV.set r i t)
theorem zV.append:∀{xs ys:List V}{us ws:List Value},zV xs us->zV ys ws->zV (xs++ys) (us++ws)
 | _,_,_,_,.nil,s=>s
 | _,_,_,_,.cons r t,s=>.cons r (zV.append t s)
theorem zV.take:∀{xs:List V}{us:List Value}(n:Nat),zV xs us->zV (xs.take n) (us.take n)
 | _,_,0,_=>.nil
 | _,_,_+1,.nil=>.nil
 | _,_,n+1,.cons r t=>.cons r (zV.take n t)
theorem zV.drop:∀{xs:List V}{us:List Value}(n:Nat),zV xs us->zV (xs.drop n) (us.drop n)
 | _,_,0,r=>r
 | _,_,_+1,.nil=>.nil
 | _,_,n+1,.cons _ t=>zV.drop n t
def jh:Option V->Option Value->Prop
 | some v,some u=>z5 v u
 | none,none=>True
 | _,_=>False
def KV{κ : Type}:List (κ×V)->List (κ×Value)->Prop:=Paired fun (p : κ×V) (q : κ×Value)=>p.1=q.1/\z5 p.2 q.2
def kV:Key->V
 | .inl i=>.int i
 | .inr x=>.str x
inductive HO where
 | lst (xs:List V)
 | tup (xs:List V)
 | dK (kvs:List (Key×V))|dT (kvs:List (List Key×V))
 | set (S:Int->Bool) (n:Nat)
 | ins (C dx:Addr) (fs:List (Str×V))
 | own (x:Addr)
 | xd (fs:List (Str×V))
 | met (f x:Addr)
 | rng (lo hi:Int)
 | frz (o:Obj) (u:HO)
 | tbl (ps:Array Value)
 | ext (φ : Heap->Prop)
abbrev Hp:=Addr->Option HO
def upd(H:Hp)(a:Addr)(o:HO):Hp:=fun b=>if b=a then some o else H b
theorem za:upd H a o a=some o:=by unfold upd;rw[aK rfl]
theorem zi(h:b≠a):upd H a o b=H b:=by unfold upd;rw[aJ h]
theorem jR:upd (upd H a o) a u=upd H a u:=by
 funext b;unfold upd;split <;> rfl
theorem wl{H:Hp}{a b:Addr}{o u:HO}(h:H a=some o)(h':H b=some u)(d:o≠u):a≠b:=by
 intro e;subst e;rw[h] at h';exact d (Option.some.inj h')
theorem zj{H:Hp}{a b:Addr}{o:HO}(h:H a=some o)(h':H b=none):a≠b:=by
 intro e;subst e;rw[h] at h';cases h'
section
variable (P:Program) (w:World)
def yT(H:Hp)(h:Heap)(a:Addr):HO->Prop
 | .lst xs=>xs.length<=sizeLine/\∃(its:List Value) (n:Nat),zV xs its/\h.get? a=some { cls:=.type "list",data:=.seq its.toArray n }
 | .tup xs=>xs.length<=sizeLine/\∃its:List Value,zV xs its/\IsTup h a its.toArray
 | .dK kvs=>kvs.length<=sizeLine/\(a==sysModules)=false/\∃vs,KV kvs vs/\h.DictOf (yx P w) a vs
 | .dT kvs=>kvs.length<=sizeLine/\(a==sysModules)=false/\∃xs:List (List Key×Addr×Value),
   Paired (fun (p:List Key×V) (q:List Key×Addr×Value)=>p.1=q.1/\H q.2.1=some (.tup (p.1.map kV))/\z5 p.2 q.2.2) kvs xs/\
   ∃o es ep,h.get? a=some o/\o.ExactDict/\o.data=.dict es ep/\es.toList=xs.map (entryOfKey (tupleKind (yx P w)))/\(xs.map (·.1)).Nodup
 | .set S n=>h.SetOf (intKind P w) a S n
 | .ins C dx fs=>H dx=some (.own a)/\fs.length<=1000/\dx≠a/\h.get? a=some (instObj C dx)/\
   ∃mA,h.Ns1 dx mA/\(∀f,jh (fs.lookup f) (mA f))/\PySem.Within mA (fs.map (·.1))
 | .own _=>∃o,h.get? a=some o
 | .xd fs=>∃mA,h.Ns1 a mA/\∀f,jh (fs.lookup f) (mA f)
 | .rng lo hi=>∃t u v,h.get? a=some { cls:=.type "range",data:=.fields #[.int lo t,.int hi u,.int 1 v] }
 | .frz o u=>h.get? a=some o/\yT H h a u
 | .tbl ps=>h.get? a=some { cls:=.none,data:=.fields ps }
 | .met f x=>h.get? a=some (methodObj (.ref f) (.ref x))
 | .ext φ=>φ h/\(∃o,h.get? a=some o)/\∀h1 h2:Heap,φ h1->(∀o,h1.get? a=some o->h2.get? a=some o)->φ h2
def HOk(H:Hp)(h:Heap):Prop:=∀a o,H a=some o->yT P w H h a o
end
section
variable {w:World}{H H':Hp}{h h':Heap}{o:HO}
theorem yT.lt(x:yT P w H h a o):a<h.objs.size:=by
 cases o with
 | lst xs=>obtain⟨_,_,_,_,e⟩:=x;exact aI e
 | tup xs=>obtain⟨_,_,_,p⟩:=x;exact p.lt
 | dK kvs=>obtain⟨_,_,_,_,o,_,_,e,_⟩:=x;exact aI e
 | dT kvs=>obtain⟨_,_,_,_,o,_,_,e,_⟩:=x;exact aI e
 | set S n=>obtain⟨o,_,_,_,e,_⟩:=x;exact aI e
 | ins C dx fs=>obtain⟨_,_,_,e,_⟩:=x;exact aI e
 | own y=>obtain⟨_,e⟩:=x;exact aI e
 | xd fs=>obtain⟨_,⟨_,_,_,e,_⟩,_⟩:=x;exact aI e
 | rng lo hi=>obtain⟨_,_,_,e⟩:=x;exact aI e
 | frz ob u=>obtain⟨e,_⟩:=x;exact aI e
 | tbl ps=>exact aI (show h.get? a=some _ from x)
 | met f y=>exact aI (show h.get? a=some _ from x)
 | ext φ=>obtain⟨_,⟨_,e⟩,_⟩:=x;exact aI e
theorem wM{α β : Type}{F G : α->β->Prop}:∀{l₁:List α}{l₂:List β},Paired F l₁ l₂->(∀a b,F a b->G a b)->Paired G l₁ l₂
 | _,_,.nil,_=>.nil
 | _,_,.cons r t,f=>.cons (f _ _ r) (wM t f)
theorem zO{α β : Type}{F G : α->β->Prop}(f:∀a b,F a b->G a b){l₁:List α}{l₂:List β}(r:Paired F l₁ l₂):Paired G l₁ l₂:=wM r f
theorem yT.stay(x:yT P w H h a o)(k:∀b u,(b=a\/H b=some (.own a))->h.get? b=some u->h'.get? b=some u)
  (ho:∀b,H b=some (.own a)->H' b=some (.own a)) (ht:∀b xs,H b=some (.tup xs)->H' b=some (.tup xs)):yT P w H' h' a o:=by
 induction o with
 | lst xs=>obtain⟨z,its,n,r,e⟩:=x;exact⟨z,its,n,r,k _ _ (.inl rfl) e⟩
 | tup xs=>obtain⟨z,its,r,ob,e,c⟩:=x;exact⟨z,its,r,ob,k _ _ (.inl rfl) e,c⟩
 | dK kvs=>obtain⟨z,y,vs,r,ob,es,ep,e,c⟩:=x;exact⟨z,y,vs,r,ob,es,ep,k _ _ (.inl rfl) e,c⟩
 | dT kvs=>
  obtain⟨z,y,xs,r,ob,es,ep,e,c⟩:=x;exact⟨z,y,xs,wM r fun p q z=>⟨z.1,ht _ _ z.2.1,z.2.2⟩,ob,es,ep,k _ _ (.inl rfl) e,c⟩
 | set S n=>obtain⟨ob,es,ep,t,e,c⟩:=x;exact⟨ob,es,ep,t,k _ _ (.inl rfl) e,c⟩
 | ins C dx fs=>
  obtain⟨d,z,ne,e,mA,⟨od,es,ep,e2,c⟩,r⟩:=x;exact⟨ho _ d,z,ne,k _ _ (.inl rfl) e,mA,⟨od,es,ep,k _ _ (.inr d) e2,c⟩,r⟩
 | own y=>obtain⟨ob,e⟩:=x;exact⟨ob,k _ _ (.inl rfl) e⟩
 | xd fs=>obtain⟨mA,⟨od,es,ep,e,c⟩,r⟩:=x;exact⟨mA,⟨od,es,ep,k _ _ (.inl rfl) e,c⟩,r⟩
 | rng lo hi=>obtain⟨t,u,v,e⟩:=x;exact⟨t,u,v,k _ _ (.inl rfl) e⟩
 | frz ob u ih=>obtain⟨e,q⟩:=x;exact⟨k _ _ (.inl rfl) e,ih q⟩
 | tbl ps=>
  have e:h.get? a=some { cls:=.none,data:=.fields ps }:=x;show h'.get? a=some { cls:=.none,data:=.fields ps };exact k a _ (.inl rfl) e
 | met f y=>
  have e:h.get? a=some (methodObj (.ref f) (.ref y)):=x;show h'.get? a=some (methodObj (.ref f) (.ref y));exact k a _ (.inl rfl) e
 | ext φ=>obtain⟨p,⟨o,e⟩,st⟩:=x;exact⟨st _ _ p fun o q=>k _ _ (.inl rfl) q,⟨o,k _ _ (.inl rfl) e⟩,st⟩
theorem HOk.lt(x:HOk P w H h)(e:H a=some o):a<h.objs.size:=(x a o e).lt
theorem HOk.fresh(x:HOk P w H h)(e:h.objs.size<=a):H a=none:=by
 cases q:H a with
 | none=>rfl
 | some u=>exact absurd (lt_of_lt_of_le (x.lt q) e) (lt_irrefl _)
theorem HOk.kept(x:HOk P w H h)(k:∀b u,h.get? b=some u->h'.get? b=some u):HOk P w H h':=fun a o e=>
 (x a o e).stay (fun b u _ q=>k b u q) (fun _ q=>q) fun _ _ q=>q
theorem HOk.laid(x:HOk P w H h)(k:∀b u,h.get? b=some u->h'.get? b=some u)(hp:h.objs.size<=a)(new:yT P w (upd H a o) h' a o):HOk P w (upd H a o) h':=fun b u e=>by
 have hn:=x.fresh hp;by_cases hb:b=a
 ·subst hb;rw[za] at e;cases e;exact new
 ·rw[zi hb] at e
  exact(x b u e).stay (fun c v _ q=>k c v q) (fun c q=>by rw[zi (zj q hn)];exact q) fun c xs q=>by rw[zi (zj q hn)];exact q
def Rd(H:Hp)(a:Addr)(u:HO):Prop:=H a=some u\/∃o,H a=some (.frz o u)
theorem Rd.ok(r:Rd H a u)(x:HOk P w H h):yT P w H h a u:=by
 rcases r with r|⟨o,r⟩
 ·exact x a u r
 ·obtain⟨_,q⟩:=x a _ r
  exact q
def Mut:Option HO->Prop
 | some (.lst _)=>True
 | some (.dK _)=>True
 | some (.dT _)=>True
 | some (.set _ _)=>True
 | some (.ins _ _ _)=>True
 | some (.ext _)=>True
 | _=>False
variable {x e:Addr}{o':HO}
theorem HOk.write(ok:HOk P w H h)(mu:Mut (H x))(he:e=x\/H e=some (.own x))(k:∀b u,b≠e->h.get? b=some u->h'.get? b=some u)(heo:∃u,h'.get? e=some u)
  (new:yT P w (upd H x o') h' x o'):HOk P w (upd H x o') h':=fun b u q=>by
 have nown:∀c y,H c=some (.own y)->c≠x:=fun c y r z=>by subst z;rw[r] at mu;exact mu
 have ntup:∀c xs,H c=some (.tup xs)->c≠x:=fun c xs r z=>by subst z;rw[r] at mu;exact mu
 by_cases hb:b=x
 ·subst hb;rw[za] at q;cases q;exact new
 ·rw[zi hb] at q
  by_cases hbe:b=e
  ·have q':H b=some (.own x):=by
    rcases he with z|z
    ·exact absurd (hbe.trans z) hb
    ·rw[hbe];exact z
   rw[q] at q';cases q';obtain⟨v,hv⟩:=heo;exact⟨v,by rw[hbe];exact hv⟩
  ·refine(ok b u q).stay (fun c v hc r=>k c v ?_ r) (fun c r=>by rw[zi (nown c b r)];exact r) fun c xs r=>by rw[zi (ntup c xs r)];exact r
   rcases hc with rfl|hc
   ·exact hbe
   ·rintro rfl
    rcases he with z|z
    ·exact nown c b hc z
    ·rw[hc] at z;cases z;exact hb rfl
structure Un(fs ex:List Addr)(H H':Hp)(h h':Heap):Prop where
 keep:∀b o,h.get? b=some o->H b=none->b∉fs->b∉ex->h'.get? b=some o
 slot:∀b o,h.get? b=some o->H b=none->b∈fs->b∉ex->∃sl,h'.get? b=some { o with slots:=sl }
 free:∀b o,h.get? b=some o->H b=none->b∉ex->H' b=none
 there:∀b o,h.get? b=some o->b∉ex->∃o',h'.get? b=some o'
 tups:∀b xs,H b=some (.tup xs)->H' b=some (.tup xs)
 frzs:∀b o u,H b=some (.frz o u)->H' b=some (.frz o u)
 tbls:∀b ps,H b=some (.tbl ps)->∃more,H' b=some (.tbl (ps++more))
variable {fs fs' ex ex':List Addr}
theorem Un.any(u:Un fs ex H H1 h h1)(q:h.get? b=some ob)(n:H b=none)(hx:b∉ex):∃sl,h1.get? b=some { ob with slots:=sl }:=by
 by_cases hb:b∈fs
 ·exact u.slot b ob q n hb hx
 ·exact⟨ob.slots,u.keep b ob q n hb hx⟩
theorem Un.kept(k:∀b u,h.get? b=some u->h'.get? b=some u):Un fs ex H H h h':=
 ⟨fun b ob q _ _ _=>k b ob q,fun b ob q _ _ _=>⟨ob.slots,k b ob q⟩,fun _ _ _ n _=>n,fun b ob q _=>⟨ob,k b ob q⟩,fun _ _ q=>q,fun _ _ _ q=>q,fun _ ps q=>⟨#[],by rw[q];simp⟩⟩
theorem Un.refl:Un fs ex H H h h:=Un.kept fun _ _ q=>q
theorem Un.laid(k:∀b u,h.get? b=some u->h'.get? b=some u)(hp:h.objs.size<=a)(hn:H a=none):Un fs ex H (upd H a o) h h' where
 keep:=fun b u q _ _ _=>k b u q
 slot:=fun b u q _ _ _=>⟨u.slots,k b u q⟩
 free:=fun b u q n _=>by rw[zi (ne_of_lt (lt_of_lt_of_le (aI q) hp))];exact n
 there:=fun b u q _=>⟨u,k b u q⟩
 tups:=fun b xs q=>by rw[zi (zj q hn)];exact q
 frzs:=fun b u xs q=>by rw[zi (zj q hn)];exact q
 tbls:=fun b ps q=>⟨#[],by rw[zi (zj q hn),q];simp⟩
theorem Un.write(mu:Mut (H x))(he:e=x\/H e=some (.own x))(k:∀b u,b≠e->h.get? b=some u->h'.get? b=some u)(heo:∃u,h'.get? e=some u):Un fs ex H (upd H x o) h h':=by
 have hx:∀b,H b=none->b≠x:=fun b n z=>by subst z;rw[n] at mu;exact mu
 have hb:∀b,H b=none->b≠e:=fun b n z=>by
  subst z;rcases he with r|r
  ·exact hx b n r
  ·rw[n] at r;cases r
 have hm:∀b u,H b=some u->¬Mut (some u)->b≠x:=fun b u q nm z=>by subst z;rw[q] at mu;exact nm mu
 refine⟨fun b u q n _ _=>k b u (hb b n) q,fun b u q n _ _=>⟨u.slots,k b u (hb b n) q⟩,fun b u q n _=>by rw[zi (hx b n)];exact n,fun b u q _=>?_,
  fun b xs q=>by rw[zi (hm b _ q fun z=>z)];exact q,fun b u xs q=>by rw[zi (hm b _ q fun z=>z)];exact q,fun b ps q=>⟨#[],by rw[zi (hm b _ q fun z=>z),q];simp⟩⟩
 by_cases hbe:b=e
 ·subst hbe;exact heo
 ·exact⟨u,k b u hbe q⟩
def trk(h:Heap)(H:Hp):List Addr:=(List.range h.objs.size).filter fun a=>(H a).isSome
def zbR(h:Heap)(H:Hp):Heap:=PySem.W.hideAll h (trk h H)
theorem zfZ(h:Heap)(H:Hp):(zbR h H).objs.size=h.objs.size:=PySem.W.hideAll_size _ _
theorem zh9{h:Heap}{H:Hp}{b:Addr}{o:Obj}(e:h.get? b=some o)(n:H b=none):(zbR h H).get? b=some o:=
 PySem.W.hideAll_get _ e fun hm=>by
  have q:(H b).isSome=true:=(List.mem_filter.mp hm).2;rw[n] at q;simp at q
theorem zjB{h:Heap}{H:Hp}{b:Addr}{o:Obj}(e:(zbR h H).get? b=some o):h.get? b=some o/\H b=none:=by
 have e':h.get? b=some o:=PySem.W.of_hideAll (trk h H) e;exists e',?_;cases q:H b with
 | none=>rfl
 | some x=>
  have hm:b∈trk h H:=List.mem_filter.mpr ⟨List.mem_range.mpr (aI e'),by simp [q]⟩
  have z:(zbR h H).get? b=none:=PySem.W.hideAll_none (trk h H) hm;rw[z] at e;cases e
def zj1(g h:Heap)(L:Addr):List (Addr×Obj):=(List.range h.objs.size).filterMap fun a=>if a=L\/(g.get? a).isSome=true then none else (h.get? a).map fun o=>(a,o)
def rest(g h:Heap)(L d:Addr):List (Addr×Obj):=(zj1 g h L).filter fun p=>decide (p.1≠d)
structure Mod(K:Frag)(mg:Str->Option Value)(base:Heap):Prop where
 kin:K.In base
 glob:base.Ns mainGlobals mg
 blt:∃mb,base.Ns builtinsNs mb/\∀x:Str,x≠"__name__"->mb x=bootBuiltins x
 nolimit:base.NoLimit
structure Cx where
 prog:Program
 w:World
 K:Frag
 mg:Str->Option Value
 base:Heap
 A:Around
 N:List Str
 s₀:Shared
 H₀:Hp
 env:Env
 outer:List Env
 stack:List Env
 ex:List Addr
 fn:Str->Bool
 calm:Bool
 pn:List (Addr×Obj)
 xe:Value->Shared->Prop
def frs(l:List Env):List Addr:=l.filterMap (·.frame)
end
abbrev Cx.fs(X:Cx):List Addr:=frs X.outer
def Vis(sc:Scope)(x:Str):Prop:=sc.names.lookup x=some .local\/sc.names.lookup x=some .cell\/sc.names.lookup x=some .free
def Loc(sc:Scope)(x:Str):Prop:=sc.names.lookup x=some .local\/sc.names.lookup x=some .cell
def zn1(env:Env)(h:Heap)(m:Str->Option Value)(x:Str)(u:Value):Prop:=
 (env.kindOf x=some .local/\m x=some u)\/((env.kindOf x=some .cell\/env.kindOf x=some .free)/\∃c,env.cells.lookup x=some c/\h.IsCell c (some u))
structure Cx.Ok(X:Cx):Prop where
 mod:Mod X.K X.mg X.base
 kind:X.env.scope.kind=.function
 glob:X.env.globals=mainGlobals
 blt:X.env.builtins=builtinsNs
 above:X.s₀.heap.objs.size<=X.env.locals
 inj:∀x y c,X.env.cells.lookup x=some c->X.env.cells.lookup y=some c->x=y
 has:∀x,(X.env.kindOf x=some .cell\/X.env.kindOf x=some .free)->∃c,X.env.cells.lookup x=some c
 cab:∀x c,X.fn x=true->X.env.cells.lookup x=some c->X.s₀.heap.objs.size<=c
 hd:X.calm=true->X.A.handled=none
 frames:X.A.frames=some X.stack
 stk:X.stack=X.outer\/(X.stack=X.env::X.outer/\X.env.frame=some X.env.locals)
 exf:∀b∈X.ex,b≠X.env.locals/\∀x c,X.env.cells.lookup x=some c->c≠b
 bs:∀b o,X.base.get? b=some o->X.s₀.heap.get? b=some o/\X.H₀ b=none
 bsz:X.base.objs.size<=X.s₀.heap.objs.size
 noex:∀b o,X.base.get? b=some o->b∉X.ex
 exfs:∀b∈X.ex,b∉X.fs
 funs:X.s₀.heap.FunFrames X.base X.outer
 frf:∀b∈X.fs,X.H₀ b=none
structure Inv(X:Cx)(pins:PnL)(σ : List (Option V))(H:Hp)(s:Shared):Prop where
 ok:X.Ok
 os:s.os=X.s₀.os
 bare:AllBare s.gens
 base:Un X.fs X.ex X.H₀ H X.s₀.heap s.heap
 loc:∃m,s.heap.Ns X.env.locals m/\∀(i:Nat) (x:Str) (v:V),X.N[i]?=some x->σ[i]?=some (some v)->Vis X.env.scope x->∃u,z5 v u/\zn1 X.env s.heap m x u
 cell:∀x c,X.env.cells.lookup x=some c->∃v,s.heap.IsCell c v
 free:H X.env.locals=none
 freeC:∀x c,X.env.cells.lookup x=some c->H c=none
 pin:∀p∈X.pn++pins,s.heap.get? p.1=some p.2/\H p.1=none/\p.1≠X.env.locals/\p.1∉X.fs/\∀v,p.2.data≠.cell v
 hok:HOk X.prog X.w H s.heap
 len : σ.length=X.N.length
section
variable {X:Cx}{pins:PnL}{σ:List (Option V)}{H H':Hp}{s:Shared}
theorem Cx.Ok.nofr(ok:X.Ok)(e:X.base.get? b=some o):b∉X.fs:=fun hb=>by
 have:=(ok.funs.mem hb).1
 rw[e] at this;cases this
theorem Inv.bs(I:Inv X pins σ H s):∀b o,X.base.get? b=some o->s.heap.get? b=some o/\H b=none:=fun b o e=>
 ⟨I.base.keep b o (I.ok.bs b o e).1 (I.ok.bs b o e).2 (I.ok.nofr e) (I.ok.noex b o e),I.base.free b o (I.ok.bs b o e).1 (I.ok.bs b o e).2 (I.ok.noex b o e)⟩
theorem Inv.bk(I:Inv X pins σ H s):∀b o,X.base.get? b=some o->s.heap.get? b=some o:=fun b o e=>(I.bs b o e).1
theorem Inv.mod(I:Inv X pins σ H s):Mod X.K X.mg X.base:=I.ok.mod
theorem Inv.kIn(I:Inv X pins σ H s):X.K.In s.heap:=I.ok.mod.kin.keeps I.bk
theorem Inv.lt(I:Inv X pins σ H s):X.env.locals<s.heap.objs.size:=let ⟨_,hn,_⟩:=I.loc;hn.lt
theorem Inv.sz(I:Inv X pins σ H s):X.s₀.heap.objs.size<=s.heap.objs.size:=Nat.le_trans I.ok.above (le_of_lt I.lt)
theorem Inv.nofs(I:Inv X pins σ H s)(h:s.heap.objs.size<=a):a∉X.fs:=fun hb=>by
 obtain⟨_,o,ho,_⟩:=I.ok.funs.mem hb;exact absurd (lt_of_lt_of_le (aI ho) (Nat.le_trans I.sz h)) (lt_irrefl _)
theorem Inv.cne(I:Inv X pins σ H s):∀x c,X.env.cells.lookup x=some c->c≠X.env.locals:=fun x c e z=>by
 obtain⟨v,o,ho,hd⟩:=I.cell x c e;obtain⟨m,⟨o',es,ep,ho',hd',_⟩,_⟩:=I.loc;rw[z,ho'] at ho;cases ho;rw[hd'] at hd;cases hd
theorem Inv.funs(I:Inv X pins σ H s):s.heap.FunFrames X.base X.outer:=by
 have all:∀(l:List Env),(∀b∈frs l,b∈X.fs)->X.s₀.heap.FunFrames X.base l->s.heap.FunFrames X.base l:=by
  intro l;induction l with
  | nil=>intro _ _;trivial
  | cons env r ih=>
   intro hs hl;obtain⟨hk,⟨L,o,hf,hn,ho,hd⟩,hr⟩:=hl;have hL:L∈X.fs:=hs L (by unfold frs;rw[filterMap_cons,hf];exact mem_cons_self)
   obtain⟨sl,e⟩:=I.base.slot L o ho (I.ok.frf L hL) hL fun z=>I.ok.exfs L z hL;exact⟨hk,⟨L,_,hf,hn,e,hd⟩,ih (fun b hb=>hs b (by unfold frs;rw[filterMap_cons,hf];exact mem_cons_of_mem _ hb)) hr⟩
 exact all X.outer (fun _ hb=>hb) I.ok.funs
theorem Inv.stack(I:Inv X pins σ H s):s.heap.FunFrames X.base X.stack:=by
 rcases I.ok.stk with e|⟨e,hf⟩
 ·rw[e];exact I.funs
 ·rw[e]
  obtain⟨m,hn,_⟩:=I.loc;refine .cons (by rw[I.ok.kind];decide) hf hn ?_ I.funs
  exact Heap.get?_none_of_le (Nat.le_trans I.ok.bsz I.ok.above)
theorem Inv.stkSub(I:Inv X pins σ H s):∀b∈frs X.stack,b∈X.env.locals::X.fs:=fun b hb=>by
 rcases I.ok.stk with e|⟨e,hf⟩
 ·rw[e] at hb;exact mem_cons_of_mem _ hb
 ·rw[e] at hb
  unfold frs at hb;rw[filterMap_cons,hf] at hb;exact hb
theorem Inv.stkFree(I:Inv X pins σ H s):∀b∈frs X.stack,H b=none:=fun b hb=>by
 rcases List.mem_cons.mp (I.stkSub b hb) with e|hb
 ·rw[e];exact I.free
 ·obtain⟨_,o,ho,_⟩:=I.ok.funs.mem hb
  exact I.base.free b o ho (I.ok.frf b hb) fun z=>I.ok.exfs b z hb
theorem Inv.step{h':Heap}{g':Array GenState}{t':Nat}{d':Drawn}{ch:List Addr}(I:Inv X pins σ H s)
  (hch:∀b∈ch,(b∈X.ex\/X.s₀.heap.objs.size<=b)/\b≠X.env.locals/\(∀x c,X.env.cells.lookup x=some c->c≠b)/\∀p∈X.pn++pins,p.1≠b)
  (keep:∀b o,b≠X.env.locals->b∉X.fs->b∉ch->s.heap.get? b=some o->H b=none->h'.get? b=some o)
  (slot:∀b o,b≠X.env.locals->b∈X.fs->b∉ch->s.heap.get? b=some o->H b=none->∃sl,h'.get? b=some { o with slots:=sl }) (free:∀b o,b∉ch->s.heap.get? b=some o->H b=none->H' b=none)
  (there:∀b o,b∉ch->s.heap.get? b=some o->∃o',h'.get? b=some o')
  (tups:∀b xs,H b=some (.tup xs)->H' b=some (.tup xs)) (frzs:∀b o u,H b=some (.frz o u)->H' b=some (.frz o u)) (tbls:∀b ps,H b=some (.tbl ps)->∃more,H' b=some (.tbl (ps++more)))
  (ns:∀m,s.heap.Ns X.env.locals m->h'.Ns X.env.locals m) (hok:HOk X.prog X.w H' h') (hg:AllBare g') :
  Inv X pins σ H' { s with heap:=h',gens:=g',drawn:=d',toks:=t' }:=by
 have neL:∀b o,X.s₀.heap.get? b=some o->b≠X.env.locals:=fun b o e=>ne_of_lt (lt_of_lt_of_le (aI e) I.ok.above);have neC:∀b o,X.s₀.heap.get? b=some o->b∉X.ex->b∉ch:=fun b o e hx hb=>by
  rcases (hch b hb).1 with z|z
  ·exact hx z
  ·exact absurd (lt_of_lt_of_le (aI e) z) (lt_irrefl _)
 have cellK:∀x c,X.env.cells.lookup x=some c->∀v,s.heap.IsCell c v->h'.IsCell c v:=fun x c e v ⟨o,ho,hd⟩=>by
  have nch:c∉ch:=fun z=>(hch c z).2.2.1 x c e rfl;by_cases hc:c∈X.fs
  ·obtain⟨sl,q⟩:=slot c o (I.cne x c e) hc nch ho (I.freeC x c e)
   exact⟨_,q,hd⟩
  ·exact⟨o,keep c o (I.cne x c e) hc nch ho (I.freeC x c e),hd⟩
 exists I.ok,I.os,hg,⟨fun b o e n hb hx=>?_,fun b o e n hb hx=>?_,fun b o e n hx=>?_,fun b o e hx=>?_,fun b xs e=>tups b xs (I.base.tups b xs e),fun b o xs e=>frzs b o xs (I.base.frzs b o xs e),fun b ps e=>?_⟩,?_,fun x c e=>?_,?_,fun x c e=>?_,fun p hp=>?_,hok,I.len
 ·exact keep b o (neL b o e) hb (neC b o e hx) (I.base.keep b o e n hb hx) (I.base.free b o e n hx)
 ·obtain⟨sl,e1⟩:=I.base.slot b o e n hb hx
  obtain⟨sl',e2⟩:=slot b _ (neL b o e) hb (neC b o e hx) e1 (I.base.free b o e n hx);exact⟨sl',e2⟩
 ·obtain⟨o',e1⟩:=I.base.there b o e hx
  exact free b o' (neC b o e hx) e1 (I.base.free b o e n hx)
 ·obtain⟨o',e1⟩:=I.base.there b o e hx
  exact there b o' (neC b o e hx) e1
 ·obtain⟨m1,e1⟩:=I.base.tbls b ps e
  obtain⟨m2,e2⟩:=tbls b _ e1;exact⟨m1++m2,by rw[e2,Array.append_assoc]⟩
 ·obtain⟨m,hn,hl⟩:=I.loc
  exists m,ns m hn,fun i x v e1 e2 e3=>?_;obtain⟨u,r,l⟩:=hl i x v e1 e2 e3;exists u,r,?_;rcases l with l|⟨k,c,e,z⟩
  ·exact .inl l
  ·exact .inr ⟨k,c,e,cellK x c e _ z⟩
 ·obtain⟨v,z⟩:=I.cell x c e
  exact⟨v,cellK x c e v z⟩
 ·obtain⟨m,⟨o,_,_,ho,_⟩,_⟩:=I.loc
  exact free _ o (fun z=>(hch _ z).2.1 rfl) ho I.free
 ·obtain⟨v,o,ho,hd⟩:=I.cell x c e
  exact free c o (fun z=>(hch c z).2.2.1 x c e rfl) ho (I.freeC x c e)
 ·obtain⟨e,n,ne,nf,d⟩:=I.pin p hp
  have nch:p.1∉ch:=fun z=>(hch p.1 z).2.2.2 p hp rfl;exact⟨keep p.1 p.2 ne nf nch e n,free p.1 p.2 nch e n,ne,nf,d⟩
theorem Inv.un{t':Nat}(I:Inv X pins σ H s)(u:Un X.fs [] H H' s.heap h')(hok:HOk X.prog X.w H' h'):Inv X pins σ H' { s with heap:=h',toks:=t' }:=by
 obtain⟨m,⟨o,es,ep,ho,r⟩,_⟩:=id I.loc;obtain⟨sl,hL⟩:=u.any ho I.free (by simp)
 exact I.step (g':=s.gens) (d':=s.drawn) (ch:=[]) (fun _ z=>nomatch z) (fun b o _ hb _ e n=>u.keep b o e n hb (by simp)) (fun b o _ hb _ e n=>u.slot b o e n hb (by simp)) (fun b o _ e n=>u.free b o e n (by simp)) (fun b o _ e=>u.there b o e (by simp)) u.tups u.frzs u.tbls (fun m' hm=>by
  obtain⟨o',es',ep',ho',r'⟩:=hm;rw[ho] at ho';cases ho';exact⟨_,es',ep',hL,r'⟩) hok I.bare
theorem Inv.call{t':Nat}(I:Inv X pins σ H s)(u:Un (frs X.stack) ch H H' s.heap h')(hok:HOk X.prog X.w H' h')(hg:AllBare g')
  (hch:∀b∈ch,(b∈X.ex\/X.s₀.heap.objs.size<=b)/\b≠X.env.locals/\(∀x c,X.env.cells.lookup x=some c->c≠b)/\∀p∈X.pn++pins,p.1≠b) :
  Inv X pins σ H' { s with heap:=h',gens:=g',drawn:=d',toks:=t' }:=by
 obtain⟨m,⟨o,es,ep,ho,r⟩,_⟩:=id I.loc;obtain⟨sl,hL⟩:=u.any ho I.free fun z=>(hch _ z).2.1 rfl;exact I.step (ch:=ch) hch (fun b o hL hb hc e n=>u.keep b o e n (fun z=>(List.mem_cons.mp (I.stkSub b z)).elim hL hb) hc) (fun b o _ _ hc e n=>u.any e n hc) (fun b o hc e n=>u.free b o e n hc) (fun b o hc e=>u.there b o e hc) u.tups u.frzs u.tbls (fun m' hm=>by
  obtain⟨o',es',ep',ho',r'⟩:=hm;rw[ho] at ho';cases ho';exact⟨_,es',ep',hL,r'⟩) hok hg
theorem Inv.turned{t':Nat}(I:Inv X pins σ H s)(k:∀b o,b≠it->s.heap.get? b=some o->h'.get? b=some o)(hn:H it=none)(hL:it≠X.env.locals)
  (h1:it∈X.ex\/X.s₀.heap.objs.size<=it) (h2:∀x c,X.env.cells.lookup x=some c->c≠it) (h3:∀p∈X.pn++pins,p.1≠it):Inv X pins σ H { s with heap:=h',toks:=t' }:=by
 have nit:∀b u,H b=some u->b≠it:=fun b u e z=>by rw[z,hn] at e;cases e
 refine I.step (g':=s.gens) (d':=s.drawn) (ch:=[it]) (fun b hb=>?_) (fun b o _ _ hc e _=>k b o (fun z=>hc (by simp [z])) e) (fun b o _ _ hc e _=>⟨o.slots,k b o (fun z=>hc (by simp [z])) e⟩) (fun _ _ _ _ n=>n)
  (fun b o hc e=>⟨o,k b o (fun z=>hc (by simp [z])) e⟩) (fun _ _ e=>e) (fun _ _ _ e=>e) (fun b ps e=>⟨#[],by rw[e];simp⟩) (fun m hm=>?_) (fun b u e=>?_) I.bare
 ·have e:b=it:=by simpa using hb
  subst e;exact⟨h1,hL,h2,h3⟩
 ·obtain⟨o,es,ep,ho,r⟩:=hm
  exact⟨o,es,ep,k _ o (Ne.symm hL) ho,r⟩
 ·refine(I.hok b u e).stay (fun c v hc q=>k c v ?_ q) (fun _ q=>q) fun _ _ q=>q
  rcases hc with z|z
  ·rw[z];exact nit b u e
  ·exact nit c _ z
theorem Inv.tok(I:Inv X pins σ H s)(t:Nat):Inv X pins σ H { s with toks:=t }:=I.un (h':=s.heap) (t':=t) Un.refl I.hok
theorem Inv.kept{t':Nat}(I:Inv X pins σ H s)(k:∀b u,s.heap.get? b=some u->h'.get? b=some u):Inv X pins σ H { s with heap:=h',toks:=t' }:=I.un (Un.kept k) (I.hok.kept k)
theorem Inv.laid{t':Nat}(I:Inv X pins σ H s)(k:∀b u,s.heap.get? b=some u->h'.get? b=some u)(hp:s.heap.objs.size<=a)(new:yT X.prog X.w (upd H a o) h' a o):
  Inv X pins σ (upd H a o) { s with heap:=h',toks:=t' }:=I.un (Un.laid k hp (I.hok.fresh hp)) (I.hok.laid k hp new)
theorem Inv.write{t':Nat}(I:Inv X pins σ H s)(mu:Mut (H x))(he:e=x\/H e=some (.own x))(k:∀b u,b≠e->s.heap.get? b=some u->h'.get? b=some u)(heo:∃u,h'.get? e=some u)
  (new:yT X.prog X.w (upd H x o) h' x o):Inv X pins σ (upd H x o) { s with heap:=h',toks:=t' }:=I.un (Un.write mu he k heo) (I.hok.write mu he k heo new)
theorem Inv.weak(I:Inv X pins σ H s)(hl : σ'.length=σ.length)(w:∀(i:Nat) v,σ'[i]?=some (some v)->σ[i]?=some (some v)):Inv X pins σ' H s:=
 ⟨I.ok,I.os,I.bare,I.base,let ⟨m,hn,hl'⟩:=I.loc;⟨m,hn,fun i x v e1 e2 e3=>hl' i x v e1 (w i v e2) e3⟩,I.cell,I.free,I.freeC,I.pin,I.hok,hl.trans I.len⟩
theorem Inv.pins_of(I:Inv X pins σ H s)(h:∀p∈pins',s.heap.get? p.1=some p.2/\H p.1=none/\p.1≠X.env.locals/\p.1∉X.fs/\∀v,p.2.data≠.cell v):Inv X pins' σ H s:=
 ⟨I.ok,I.os,I.bare,I.base,I.loc,I.cell,I.free,I.freeC,fun p hp=>(List.mem_append.mp hp).elim (fun z=>I.pin p (mem_append_left _ z)) (h p),I.hok,I.len⟩
theorem zcD{N:List Str}(hN:N.Nodup){i j:Nat}{x:Str}(a:N[i]?=some x)(b:N[j]?=some x):i=j:=by
 obtain⟨h1,e1⟩:=List.getElem?_eq_some_iff.mp a;obtain⟨h2,e2⟩:=List.getElem?_eq_some_iff.mp b;exact(List.getElem_inj hN).mp (e1.trans e2.symm)
theorem zaC{E:VSP}{i:Nat}{Q:Unit->Shared->Prop}(I:Inv X pins σ H s)(hN:X.N.Nodup)(hi:X.N[i]?=some x)(hx:Loc X.env.scope x)(r:z5 v u)
  (h:∀s',Inv X pins (σ.set i (some v)) H s'->(∃a,Heap.SameBut a s.heap s'.heap/\(a=X.env.locals\/X.env.cells.lookup x=some a))->Q () s') (hf:X.fn x=true\/X.env.scope.names.lookup x=some .local:=by first|exact .inl rfl|exact .inr rfl|assumption):wpAny M A (storeName X.env x u) Q E s:=by
 obtain⟨m,hn,hl⟩:=id I.loc;have hcls:(X.env.scope.kind==.class||(X.env.scope.kind==.module&&X.env.locals != X.env.globals))=false:=by rw[I.ok.kind];rfl
 have hiσ : i<σ.length:=by rw[I.len];exact(List.getElem?_eq_some_iff.mp hi).1
 have cne:=I.cne;have tracked:∀{a:Addr}{h':Heap},(∃o,s.heap.get? a=some o/\H a=none)->Heap.SameBut a s.heap h'->HOk X.prog X.w H h':=fun {a h'} ha hs b ob e=>by
  obtain⟨_,_,hfree⟩:=ha;refine(I.hok b ob e).stay (fun c w' hc q=>(hs.2 c ?_).trans q) (fun _ q=>q) fun _ _ q=>q;rintro rfl;rcases hc with rfl|hc
  ·rw[hfree] at e;cases e
  ·rw[hfree] at hc;cases hc
 rcases hx with hk|hk
 ·refine wpAny_storeName_local hk hn (fun h' hn' hs=>?_) hcls
  obtain⟨oL,_,_,hoL,_⟩:=id hn;refine h _ ⟨I.ok,I.os,I.bare,⟨fun b o e n hb hx=>?_,fun b o e n hb hx=>?_,I.base.free,fun b o e hx=>?_,I.base.tups,I.base.frzs,I.base.tbls⟩,⟨_,hn',fun j y v' e1 e2 e3=>?_⟩,fun y c e=>?_,I.free,I.freeC,fun p hp=>?_,tracked ⟨oL,hoL,I.free⟩ hs,by simpa using I.len⟩ ⟨_,hs,.inl rfl⟩
  ·exact(hs.2 b (ne_of_lt (lt_of_lt_of_le (aI e) I.ok.above))).trans (I.base.keep b o e n hb hx)
  ·obtain⟨sl,e1⟩:=I.base.slot b o e n hb hx
   exact⟨sl,(hs.2 b (ne_of_lt (lt_of_lt_of_le (aI e) I.ok.above))).trans e1⟩
  ·obtain⟨o',e1⟩:=I.base.there b o e hx
   exact⟨o',(hs.2 b (ne_of_lt (lt_of_lt_of_le (aI e) I.ok.above))).trans e1⟩
  ·by_cases hj:j=i
   ·subst hj
    rw[hi] at e1;cases e1;rw[List.getElem?_set_self hiσ] at e2;cases e2;exact⟨u,r,.inl ⟨hk,by simp⟩⟩
   ·rw[getElem?_set_ne (Ne.symm hj)] at e2
    obtain⟨u',r',q⟩:=hl j y v' e1 e2 e3;exists u',r',?_;rcases q with ⟨k,e⟩|⟨k,c,e,z⟩
    ·refine .inl ⟨k,?_⟩
     have:y≠x:=fun e=>hj (zcD hN e1 (e ▸ hi))
     simp [this,e]
    ·exact .inr ⟨k,c,e,z.sameBut hs (cne y c e)⟩
  ·obtain⟨w',z⟩:=I.cell y c e
   exact⟨w',z.sameBut hs (cne y c e)⟩
  ·obtain⟨e,n,ne,nf,d⟩:=I.pin p hp
   exact⟨(hs.2 p.1 ne).trans e,n,ne,nf,d⟩
 ·have hfn:X.fn x=true:=by
   rcases hf with z|z
   ·exact z
   ·rw[z] at hk;cases hk
  obtain⟨c,hc⟩:=I.ok.has x (.inl hk);obtain⟨w',z⟩:=I.cell x c hc;refine wpAny_storeName_cell I.ok.kind hk hc z (fun h' hc' hs=>?_);obtain⟨oc,hoc,hocd⟩:=id z;refine h { s with heap:=h' } ⟨I.ok,I.os,I.bare,⟨fun b o e n hb hx=>?_,fun b o e n hb hx=>?_,I.base.free,fun b o e hx=>?_,I.base.tups,I.base.frzs,I.base.tbls⟩,⟨m,hn.sameBut hs (Ne.symm (cne x c hc)),fun j y v' e1 e2 e3=>?_⟩,fun y c' e=>?_,I.free,I.freeC,fun p hp=>?_,tracked ⟨oc,hoc,I.freeC x c hc⟩ hs,by simpa using I.len⟩ ⟨c,hs,.inr hc⟩
  ·exact(hs.2 b (ne_of_lt (lt_of_lt_of_le (aI e) (I.ok.cab x c hfn hc)))).trans (I.base.keep b o e n hb hx)
  ·obtain⟨sl,e1⟩:=I.base.slot b o e n hb hx
   exact⟨sl,(hs.2 b (ne_of_lt (lt_of_lt_of_le (aI e) (I.ok.cab x c hfn hc)))).trans e1⟩
  ·obtain⟨o',e1⟩:=I.base.there b o e hx
   exact⟨o',(hs.2 b (ne_of_lt (lt_of_lt_of_le (aI e) (I.ok.cab x c hfn hc)))).trans e1⟩
  ·by_cases hj:j=i
   ·subst hj
    rw[hi] at e1;cases e1;rw[List.getElem?_set_self hiσ] at e2;cases e2;exact⟨u,r,.inr ⟨.inl hk,c,hc,hc'⟩⟩
   ·rw[getElem?_set_ne (Ne.symm hj)] at e2
    obtain⟨u',r',q⟩:=hl j y v' e1 e2 e3;exists u',r',?_;rcases q with q|⟨k,c',e,z'⟩
    ·exact .inl q
    ·refine .inr ⟨k,c',e,z'.sameBut hs ?_⟩
     rintro rfl;exact hj (zcD hN e1 (I.ok.inj _ _ _ e hc ▸ hi))
  ·by_cases hcc:c'=c
   ·subst hcc;exact⟨_,hc'⟩
   ·obtain⟨w2,z2⟩:=I.cell y c' e
    exact⟨w2,z2.sameBut hs hcc⟩
  ·obtain⟨e,n,ne,nf,d⟩:=I.pin p hp
   exists (hs.2 p.1 ?_).trans e,n,ne,nf,d;intro q;rw[q,hoc] at e;have q':oc=p.2:=Option.some.inj e;exact d w' (by rw[<- q'];exact hocd)
theorem qd{E:VSP}{i:Nat}{Q:Unit->Shared->Prop}(I:Inv X pins σ H s)(hN:X.N.Nodup)(hi:X.N[i]?=some x)(hx:Loc X.env.scope x)(r:z5 v u)
  (h:∀s',Inv X pins (σ.set i (some v)) H s'->Q () s') (hf:X.fn x=true\/X.env.scope.names.lookup x=some .local:=by first|exact .inl rfl|exact .inr rfl|assumption):wpAny M A (storeName X.env x u) Q E s:=
 zaC I hN hi hx r (fun s' I' _=>h s' I') hf
theorem Inv.call'(I:Inv X pins σ H s)(ho:s'.os=s.os)(u:Un (frs X.stack) ch H H' s.heap s'.heap)(hok:HOk X.prog X.w H' s'.heap)(hg:AllBare s'.gens)
  (hch:∀b∈ch,(b∈X.ex\/X.s₀.heap.objs.size<=b)/\b≠X.env.locals/\(∀x c,X.env.cells.lookup x=some c->c≠b)/\∀p∈X.pn++pins,p.1≠b):Inv X pins σ H' s':=by
 obtain⟨h',g',d',t',o'⟩:=s';have e:o'=s.os:=ho;subst e;exact I.call (g':=g') (t':=t') (d':=d') u hok hg hch
abbrev XK:=Value->Option Addr->Hp->Prop
abbrev St:=List (Option V)
abbrev VK:=V->Hp->Prop
abbrev TE:=St->Hp->VK->Prop
abbrev TT:=St->Hp->(Bool->Hp->Prop)->Prop
abbrev TA:=St->Hp->(List V->Hp->Prop)->Prop
structure jQ where
 nx:St->Hp->Prop
 rt:VK
 bk:St->Hp->Prop:=fun _ _=>False
 ct:St->Hp->Prop:=fun _ _=>False
abbrev TS:=jQ->St->Hp->Prop
def EP(X:Cx)(pins:PnL)(σ : St)(Q:VK)(u:Value)(s':Shared):Prop:=∃v H',Inv X pins σ H' s'/\z5 v u/\Q v H'
def TP(X:Cx)(pins:PnL)(σ : St)(Q:Bool->Hp->Prop)(b:Bool)(s':Shared):Prop:=∃H',Inv X pins σ H' s'/\Q b H'
def AP(X:Cx)(pins:PnL)(σ : St)(Q:List V->Hp->Prop)(us:List Value)(s':Shared):Prop:=∃vs H',Inv X pins σ H' s'/\zV vs us/\Q vs H'
def SP(X:Cx)(pins:PnL)(D:jQ)(f:Flow)(s':Shared):Prop:=
 match f with
 | .next=>∃σ' H',Inv X pins σ' H' s'/\D.nx σ' H'
 | .brk=>∃σ' H',Inv X pins σ' H' s'/\D.bk σ' H'
 | .cont=>∃σ' H',Inv X pins σ' H' s'/\D.ct σ' H'
 | .ret u=>∃v σ' H',Inv X pins σ' H' s'/\z5 v u/\D.rt v H'
structure PE(X:Cx)(e:Expr)(t:TE):Prop where
 run:∀(pins:PnL) (s:Shared) (σ : St) (H:Hp) (Q:VK),Inv X pins σ H s->t σ H Q->↑X (eval e X.env) (EP X pins σ Q) X.xe s
instance {X:Cx}{e:Expr}{t:TE}:CoeFun (PE X e t) (fun _=>∀(pins:PnL) (s:Shared) (σ : St) (H:Hp) (Q:VK),Inv X pins σ H s->t σ H Q->↑X (eval e X.env) (EP X pins σ Q) X.xe s):=⟨PE.run⟩
structure PT(X:Cx)(e:Expr)(t:TT):Prop where
 run:∀(pins:PnL) (s:Shared) (σ : St) (H:Hp) (Q:Bool->Hp->Prop),Inv X pins σ H s->t σ H Q->↑X (isTrue e X.env (eval e X.env)) (TP X pins σ Q) X.xe s
instance {X:Cx}{e:Expr}{t:TT}:CoeFun (PT X e t) (fun _=>∀(pins:PnL) (s:Shared) (σ : St) (H:Hp) (Q:Bool->Hp->Prop),Inv X pins σ H s->t σ H Q->↑X (isTrue e X.env (eval e X.env)) (TP X pins σ Q) X.xe s):=⟨PT.run⟩
structure PW(X:Cx)(e:Expr)(t:TT):Prop where
 run:∀(whole:Sem Value) (pins:PnL) (s:Shared) (σ : St) (H:Hp) (Q:Bool->Hp->Prop),Inv X pins σ H s->t σ H Q->↑X (isTrue e X.env whole) (TP X pins σ Q) X.xe s
instance {X:Cx}{e:Expr}{t:TT}:CoeFun (PW X e t) (fun _=>∀(whole:Sem Value) (pins:PnL) (s:Shared) (σ : St) (H:Hp) (Q:Bool->Hp->Prop),Inv X pins σ H s->t σ H Q->↑X (isTrue e X.env whole) (TP X pins σ Q) X.xe s):=⟨PW.run⟩
theorem yS{t:TT}(h:PW X e t):PT X e t:=⟨h _⟩
structure PA(X:Cx)(es:List Expr)(t:TA):Prop where
 run:∀(pos:Pos) (pins:PnL) (s:Shared) (σ : St) (H:Hp) (Q:List V->Hp->Prop),Inv X pins σ H s->t σ H Q->↑X (spliced (backTo pos (starEach es X.env))) (AP X pins σ Q) X.xe s
instance {X:Cx}{es:List Expr}{t:TA}:CoeFun (PA X es t) (fun _=>∀(pos:Pos) (pins:PnL) (s:Shared) (σ : St) (H:Hp) (Q:List V->Hp->Prop),Inv X pins σ H s->t σ H Q->↑X (spliced (backTo pos (starEach es X.env))) (AP X pins σ Q) X.xe s):=⟨PA.run⟩
structure PS(X:Cx)(st:Stmt)(t:TS):Prop where
 run:∀(pins:PnL) (s:Shared) (σ : St) (H:Hp) (D:jQ),Inv X pins σ H s->t D σ H->↑X (exec st X.env) (SP X pins D) X.xe s
instance {X:Cx}{st:Stmt}{t:TS}:CoeFun (PS X st t) (fun _=>∀(pins:PnL) (s:Shared) (σ : St) (H:Hp) (D:jQ),Inv X pins σ H s->t D σ H->↑X (exec st X.env) (SP X pins D) X.xe s):=⟨PS.run⟩
structure PSs(X:Cx)(st:List Stmt)(t:TS):Prop where
 run:∀(pins:PnL) (s:Shared) (σ : St) (H:Hp) (D:jQ),Inv X pins σ H s->t D σ H->↑X (execs st X.env) (SP X pins D) X.xe s
instance {X:Cx}{st:List Stmt}{t:TS}:CoeFun (PSs X st t) (fun _=>∀(pins:PnL) (s:Shared) (σ : St) (H:Hp) (D:jQ),Inv X pins σ H s->t D σ H->↑X (execs st X.env) (SP X pins D) X.xe s):=⟨PSs.run⟩
theorem thn{α : Type}{t:Sem α}{Q Q' : α->Shared->Prop}{M:Model}{A:Around}{E:VSP}{s:Shared}(h:wpAny M A t Q E s)(hQ:∀a s,Q a s->Q' a s):wpAny M A t Q' E s:=wpAny_mono h hQ fun _ _ x=>x
inductive zn3(i:Nat)(σ : St)(H:Hp)(Q:VK):Prop where
 | mk (v:V) (e : σ[i]?=some (some v)) (q:Q v H)
def zal(i:Nat):TE:=fun σ H Q=>zn3 i σ H Q
def tC(v:V):TE:=fun _ H Q=>Q v H
theorem zlg{i:Nat}(hN:X.N[i]?=some x)(hv:Vis X.env.scope x)(hd:(x==("__debug__" : Str))=false:=by decide)(hcd:(x==("__classdict__" : Str))=false:=by decide):PE X (.Name x pos) (zal i):=by
 and_intros;obtain⟨v,e,h⟩:=h;obtain⟨m,hn,hl⟩:=I.loc;obtain⟨u,r,l⟩:=hl i x v hN e hv;have fin:EP X pins σ Q u s:=⟨v,H,I,r,h⟩;rcases l with ⟨hk,hm⟩|⟨hk,c,hc,hcell⟩
 ·exact wpAny_Name (wpAny_loadName_local I.ok.kind hk hn hm fin) hd
 ·rcases hk with hk|hk
  ·exact wpAny_Name (wpAny_loadName_cell I.ok.kind hk hc hcell fin) hd
  ·exact wpAny_Name (wpAny_loadName_free I.ok.kind hk hc hcell fin hcd) hd
theorem ze{i j pos}:PE X (.Constant (.int i) j pos) (tC (.int i)):=⟨fun _ _ _ H _ I h=>wpAny_Constant_int ⟨.int i,H,I.tok _,⟨_,rfl⟩,h⟩⟩
theorem x6{b j pos}:PE X (.Constant (.bool b) j pos) (tC (.bl b)):=⟨fun _ _ _ H _ I h=>Constant_bool ⟨.bl b,H,I,rfl,h⟩⟩
theorem qC{j pos}:PE X (.Constant .none j pos) (tC .non):=⟨fun _ _ _ H _ I h=>Constant_none ⟨.non,H,I,rfl,h⟩⟩
theorem zH{x j pos}:PE X (.Constant (.str x) j pos) (tC (.str x)):=⟨fun _ _ _ H _ I h=>Calls.Constant_str ⟨.str x,H,I.tok _,⟨_,rfl⟩,h⟩⟩
def Gl(X:Cx)(x:Str):Prop:=X.env.kindOf x=some .globalImplicit
theorem uc{E:VSP}{Q:VSP}(I:Inv X pins σ H s)(hg:Gl X x)(hm:X.mg x=some u)(h:Q u s)
  (hd:(x==("__debug__" : Str))=false:=by decide):↑X (eval (.Name x pos) X.env) Q E s:=
 Calls.Name_function_global I.ok.kind hg (Calls.loadGlobal_global (by rw[I.ok.glob];exact I.mod.glob.keeps I.bk) hm h) hd
theorem wP{E:VSP}{Q:VSP}(I:Inv X pins σ H s)(hg:Gl X x)(hm:X.mg x=none)(hv:bootBuiltins x=some u)(h:Q u s)
  (hn:x≠"__name__":=by decide) (hd:(x==("__debug__" : Str))=false:=by decide):↑X (eval (.Name x pos) X.env) Q E s:=by
 obtain⟨mb,h1,h2⟩:=I.mod.blt;exact Calls.Name_function_global I.ok.kind hg (Calls.loadGlobal_builtin (by rw[I.ok.glob];exact I.mod.glob.keeps I.bk) hm (by rw[I.ok.blt];exact h1.keeps I.bk) ((h2 x hn).trans hv) h) hd
theorem xN(hg:Gl X x)(hm:X.mg x=some u)(r:z5 v u)(hd:(x==("__debug__" : Str))=false:=by decide):PE X (.Name x pos) (tC v):=⟨fun _ _ _ H _ I h=>uc I hg hm ⟨v,H,I,r,h⟩ hd⟩
theorem zbF(hg:Gl X x)(hm:X.mg x=none)(hv:bootBuiltins x=some u)(r:z5 v u)(hn:x≠"__name__":=by decide)(hd:(x==("__debug__" : Str))=false:=by decide):PE X (.Name x pos) (tC v):=⟨fun _ _ _ H _ I h=>wP I hg hm hv ⟨v,H,I,r,h⟩ hn hd⟩
variable {a b:Expr}{ta tb:TE}
structure PC(X:Cx)(op:CmpOp)(a b:Expr)(t:TE):Prop where
 run:∀(pins:PnL) (s:Shared) (σ : St) (H:Hp) (Q:VK),Inv X pins σ H s->t σ H Q->
  ↑X (eval a X.env) (fun v s₁=>↑X (eval b X.env) (fun u s₂=>↑X (compareOp op v u) (EP X pins σ Q) X.xe s₂) X.xe s₁) X.xe s
instance {X:Cx}{op:CmpOp}{a b:Expr}{t:TE}:CoeFun (PC X op a b t) (fun _=>∀(pins:PnL) (s:Shared) (σ : St) (H:Hp) (Q:VK),Inv X pins σ H s->t σ H Q->
  ↑X (eval a X.env) (fun v s₁=>↑X (eval b X.env) (fun u s₂=>↑X (compareOp op v u) (EP X pins σ Q) X.xe s₂) X.xe s₁) X.xe s):=⟨PC.run⟩
theorem zcE(b:Expr)(h:op≠.In)(h2:op≠.NotIn):behindInMarks op b=false:=by
 have e1:(op==CmpOp.In)=false:=by cases op <;> first|rfl|exact absurd rfl h
 have e2:(op==CmpOp.NotIn)=false:=by cases op <;> first|rfl|exact absurd rfl h2
 cases b <;> simp [behindInMarks,e1,e2]
def zna(ta:TE):TE:=fun σ H Q=>ta σ H fun x H1=>Q (.bl (decide (x=.non))) H1
def zl2(ta:TE):TE:=fun σ H Q=>ta σ H fun x H1=>Q (.bl (!decide (x=.non))) H1
theorem z5.none_iff(r:z5 x v):(v==Value.none)=decide (x=.non):=by
 cases x with
 | non=>cases r;rfl
 | bl _=>cases r;rfl
 | int _=>obtain⟨t,rfl⟩:=r;rfl
 | str _=>obtain⟨t,rfl⟩:=r;rfl
 | byt _=>obtain⟨t,rfl⟩:=r;rfl
 | flt _=>obtain⟨t,rfl⟩:=r;rfl
 | ref _=>cases r;rfl
 | ty _=>cases r;rfl
theorem vz{j pos'}(ha:PE X a ta):PC X .Is a (.Constant .none j pos') (zna ta):=by
 and_intros;refine thn (ha pins s σ H _ I h) fun v s1 ⟨x,H1,I1,r1,q1⟩=>?_;exact Constant_none (is_none_gen ⟨.bl _,H1,I1,by rw[r1.none_iff];rfl,q1⟩)
theorem jX{j pos'}(ha:PE X a ta):PC X .IsNot a (.Constant .none j pos') (zl2 ta):=by
 and_intros;refine thn (ha pins s σ H _ I h) fun v s1 ⟨x,H1,I1,r1,q1⟩=>?_;exact Constant_none (isnot_none_gen ⟨.bl _,H1,I1,by rw[r1.none_iff];rfl,q1⟩)
def tB(t:TE):TT:=fun σ H Q=>t σ H fun x H1=>∃c,x=.bl c/\Q c H1
theorem zdz{t:TE}(h:PC X op a b t)(h1:behindInMarks op b=false:=by first|exact zcE _ ⋯ ⋯|rfl):PE X (.Compare a [op] [b] pos) t:=⟨fun pins s σ H Q I hw=>wpAny_Compare1 (h pins s σ H Q I hw) h1⟩
theorem wb{t:TE}(h:PC X op a b t)(h1:behindInMarks op b=false:=by first|exact zcE _ ⋯ ⋯|rfl):PT X (.Compare a [op] [b] pos) (tB t):=by
 exists ?_;intro pins s σ H Q I hw;refine wpAny_isTrue_Compare1 (thn (h pins s σ H _ I hw) fun v s1 h1=>thn h1 fun u s2 h2=>thn h2 fun c s3 ⟨x,H1,I1,r1,q1⟩=>?_) h1;obtain⟨d,rfl,q⟩:=q1;cases r1;exact wpAny_truthy_bool ⟨H1,I1,q⟩
theorem yz{t:TE}(h:PE X e t)(he:∀whole,isTrue e X.env whole=(do let v <- whole;standAt e.pos;holding [v] (truthy v)):=by intro _;rfl):PT X e (tB t):=by
 exists ?_;intro pins s σ H Q I hw;refine isTrue_plain (thn (h pins s σ H _ I hw) fun v s1 ⟨x,H1,I1,r1,q1⟩=>?_) (he _);obtain⟨d,rfl,q⟩:=q1;cases r1;exact wpAny_truthy_bool ⟨H1,I1,q⟩
variable {tA tB':TT}
def znh(t u:TT):TT:=fun σ H Q=>t σ H fun c H1=>if c=true then u σ H1 Q else Q false H1
def tOr(t u:TT):TT:=fun σ H Q=>t σ H fun c H1=>if c=true then Q true H1 else u σ H1 Q
def zm9(t:TT):TT:=fun σ H Q=>t σ H fun c H1=>Q (!c) H1
theorem yB(ha:PT X a tA):PW X (.BoolOp .And [a] pos) tA:=by
 exists ?_;intro wh pins s σ H Q I h;refine isTrue_and (thn (ha pins s σ H Q I h) fun c s1 e=>?_);cases c with
 | true=>exact isTrue_and_nil e
 | false=>exact e
theorem vo(ha:PT X a tA):PW X (.BoolOp .Or [a] pos) tA:=by
 exists ?_;intro wh pins s σ H Q I h;refine isTrue_or (thn (ha pins s σ H Q I h) fun c s1 e=>?_);cases c with
 | false=>exact isTrue_or_nil e
 | true=>exact e
theorem yO{pos:Pos}{rest:List Expr}(ha:PT X a tA)(hb:PW X (.BoolOp .And (b::rest) pos) tB'):PW X (.BoolOp .And (a::b::rest) pos) (znh tA tB'):=by
 exists ?_;intro wh pins s σ H Q I h;refine isTrue_and (thn (ha pins s σ H _ I h) fun c s1 ⟨H1,I1,q1⟩=>?_);cases c with
 | true=>exact hb wh pins s1 σ H1 Q I1 q1
 | false=>exact⟨H1,I1,q1⟩
theorem vK{pos:Pos}{rest:List Expr}(ha:PT X a tA)(hb:PW X (.BoolOp .Or (b::rest) pos) tB'):PW X (.BoolOp .Or (a::b::rest) pos) (tOr tA tB'):=by
 exists ?_;intro wh pins s σ H Q I h;refine isTrue_or (thn (ha pins s σ H _ I h) fun c s1 ⟨H1,I1,q1⟩=>?_);cases c with
 | true=>exact⟨H1,I1,q1⟩
 | false=>exact hb wh pins s1 σ H1 Q I1 q1
theorem xx(ha:PT X a tA):PT X (.UnaryOp .Not a pos) (zm9 tA):=by
 and_intros;exact isTrue_not (ha pins s σ H (fun c H1=>Q (!c) H1) I h)
def zl7(ta tb:TE):TE:=fun σ H Q=>ta σ H fun x H1=>∃c,x=.bl c/\if c=true then tb σ H1 Q else Q (.bl false) H1
def zl1(ta:TE):TE:=fun σ H Q=>ta σ H fun x H1=>∃c,x=.bl c/\Q (.bl (!c)) H1
theorem zbE{op}{t:TE}(h:PE X a t):PE X (.BoolOp op [a] pos) t:=⟨fun pins s σ H Q I hw=>BoolOp_one (h pins s σ H Q I hw)⟩
theorem zbG{pos:Pos}{rest:List Expr}(ha:PE X a ta)(hb:PE X (.BoolOp .And (b::rest) pos) tb):PE X (.BoolOp .And (a::b::rest) pos) (zl7 ta tb):=by
 and_intros;refine BoolOp_and (thn (ha pins s σ H _ I h) fun v s1 ⟨x,H1,I1,r1,q1⟩=>?_);obtain⟨c,rfl,q1⟩:=q1;cases r1;refine wpAny_truthy_bool ?_;cases c with
 | true=>exact hb pins s1 σ H1 Q I1 q1
 | false=>exact⟨.bl false,H1,I1,rfl,q1⟩
theorem zdy(ha:PE X a ta):PE X (.UnaryOp .Not a pos) (zl1 ta):=by
 and_intros;refine UnaryOp_ (thn (ha pins s σ H _ I h) fun v s1 ⟨x,H1,I1,r1,q1⟩=>?_);obtain⟨c,rfl,q1⟩:=q1;cases r1;exact not_of (wpAny_truthy_bool ⟨.bl (!c),H1,I1,rfl,q1⟩)
def tIf(t:TT)(ta tb:TE):TE:=fun σ H Q=>t σ H fun c H1=>if c=true then ta σ H1 Q else tb σ H1 Q
theorem qE(hc:PT X c tA)(ha:PE X a ta)(hb:PE X b tb):PE X (.IfExp c a b pos) (tIf tA ta tb):=by
 and_intros;refine wpAny_IfExp (thn (hc pins s σ H _ I h) fun d s1 ⟨H1,I1,q1⟩=>?_);cases d with
 | true=>exact ha pins s1 σ H1 Q I1 q1
 | false=>exact hb pins s1 σ H1 Q I1 q1
def SqL(K:Frag)(H:Hp)(a:Addr)(xs:List V):Prop:=
 Rd H a (.lst xs)\/
  ∃(o:Obj) (its:Array Value) (n:Nat),K.lookup a=some o/\o.cls=.type "list"/\o.dict=none/\o.data=.seq its n/\its.size<=sizeLine/\zV xs its.toList
def SqT(K:Frag)(H:Hp)(a:Addr)(xs:List V):Prop:=
 Rd H a (.tup xs)\/
  ∃(o:Obj) (its:Array Value) (n:Nat),K.lookup a=some o/\o.cls=.type "tuple"/\o.data=.seq its n/\its.size<=sizeLine/\zV xs its.toList
def znR:Value->Option V
 | .none=>some .non
 | .bool b=>some (.bl b)
 | .int i _=>some (.int i)
 | .str x _=>some (.str x)
 | .bytes b _=>some (.byt b)
 | .float b _=>some (.flt b)
 | .ref a=>some (.ref a)
 | .type n=>some (.ty n)
 | _=>none
theorem z5.abs(r:z5 x u):znR u=some x:=by
 cases x with
 | non=>cases r;rfl
 | bl _=>cases r;rfl
 | int _=>obtain⟨t,rfl⟩:=r;rfl
 | str _=>obtain⟨t,rfl⟩:=r;rfl
 | byt _=>obtain⟨t,rfl⟩:=r;rfl
 | flt _=>obtain⟨t,rfl⟩:=r;rfl
 | ref _=>cases r;rfl
 | ty _=>cases r;rfl
theorem z5.inj(r:z5 x u)(q:z5 y u):x=y:=Option.some.inj (r.abs.symm.trans q.abs)
theorem zV.inj:∀{xs ys:List V}{us:List Value},zV xs us->zV ys us->xs=ys
 | _,_,_,.nil,.nil=>rfl
 | _,_,_,.cons r t,.cons r' t'=>by rw[r.inj r',zV.inj t t']
end
section
variable {X:Cx}{pins:PnL}{σ:St}{H:Hp}{s:Shared}{a:Addr}{xs ys:List V}
theorem zf{K:Frag}(h:H a=some (.lst xs)):SqL K H a xs:=.inl (.inl h)
theorem zy{K:Frag}(h:H a=some (.tup xs)):SqT K H a xs:=.inl (.inl h)
theorem Inv.list(I:Inv X pins σ H s)(h:SqL X.K H a xs):∃its:List Value,zV xs its/\PlainL s.heap a its.toArray/\xs.length<=sizeLine:=by
 rcases h with h|⟨o,its,n,hk,hc,hd,hs,hz,r⟩
 ·obtain⟨z,its,n,r,e⟩:=h.ok I.hok
  exact⟨its,r,⟨_,n,e,rfl,rfl,rfl⟩,z⟩
 ·exists its.toList,r,⟨o,n,I.kIn a o hk,hc,hd,by simpa using hs⟩,?_
  have e:=r.length;simp only[Array.length_toList] at e;omega
theorem Inv.tuple(I:Inv X pins σ H s)(h:SqT X.K H a xs):∃its:List Value,zV xs its/\IsTup s.heap a its.toArray/\xs.length<=sizeLine:=by
 rcases h with h|⟨o,its,n,hk,hc,hs,hz,r⟩
 ·obtain⟨z,its,r,p⟩:=h.ok I.hok
  exact⟨its,r,p,z⟩
 ·exists its.toList,r,⟨o,I.kIn a o hk,hc,n,by simpa using hs⟩,?_
  have e:=r.length;simp only[Array.length_toList] at e;omega
theorem Inv.list_inj(I:Inv X pins σ H s)(h:SqL X.K H a xs)(h':SqL X.K H a ys):xs=ys:=by
 obtain⟨its,r,⟨o,n,e,_,_,d⟩,_⟩:=I.list h;obtain⟨its',r',⟨o',n',e',_,_,d'⟩,_⟩:=I.list h';rw[e] at e';cases e';rw[d] at d';injection d' with d1 _
 have:its=its':=by simpa using congrArg Array.toList d1
 subst this;exact r.inj r'
abbrev Cx.wish(X:Cx)(E:VSP):Cx:={ X with xe:=E }
abbrev Cx.nox(X:Cx):Cx:=X.wish fun _ _=>False
theorem Cx.Ok.wish(ok:X.Ok)(E:VSP):(X.wish E).Ok:=
 ⟨ok.mod,ok.kind,ok.glob,ok.blt,ok.above,ok.inj,ok.has,ok.cab,ok.hd,ok.frames,ok.stk,ok.exf,ok.bs,ok.bsz,ok.noex,ok.exfs,ok.funs,ok.frf⟩
theorem Cx.Ok.unwish{E:VSP}(ok:(X.wish E).Ok):X.Ok:=
 ⟨ok.mod,ok.kind,ok.glob,ok.blt,ok.above,ok.inj,ok.has,ok.cab,ok.hd,ok.frames,ok.stk,ok.exf,ok.bs,ok.bsz,ok.noex,ok.exfs,ok.funs,ok.frf⟩
variable {E:VSP}
theorem Inv.wish(I:Inv X pins σ H s)(E:VSP):Inv (X.wish E) pins σ H s:=⟨I.ok.wish E,I.os,I.bare,I.base,I.loc,I.cell,I.free,I.freeC,I.pin,I.hok,I.len⟩
theorem Inv.unwish(I:Inv (X.wish E) pins σ H s):Inv X pins σ H s:=⟨I.ok.unwish,I.os,I.bare,I.base,I.loc,I.cell,I.free,I.freeC,I.pin,I.hok,I.len⟩
theorem SP.unwish(h:SP (X.wish E) pins D f s'):SP X pins D f s':=by
 cases f with
 | next=>obtain⟨σ',H',I,q⟩:=h;exact⟨σ',H',I.unwish,q⟩
 | brk=>obtain⟨σ',H',I,q⟩:=h;exact⟨σ',H',I.unwish,q⟩
 | cont=>obtain⟨σ',H',I,q⟩:=h;exact⟨σ',H',I.unwish,q⟩
 | ret u=>obtain⟨v,σ',H',I,r,q⟩:=h;exact⟨v,σ',H',I.unwish,r,q⟩
theorem PSs.nox{st:List Stmt}{t:TS}(h:PSs X.nox st t):PSs X st t:=⟨fun pins s σ H D I hw=>
 wpAny_mono (h pins s σ H D (I.wish _) hw) (fun _ _ q=>q.unwish) fun _ _ z=>False.elim z⟩
variable {t u:TS}{te:TE}
def zj5:TS:=fun D σ H=>D.nx σ H
def jj(t u:TS):TS:=fun D σ H=>t { D with nx:=u D } σ H
theorem zD:PSs X [] zj5:=⟨fun _ _ σ H _ I h=>wpAny_execs_nil ⟨σ,H,I,h⟩⟩
theorem zu{st:Stmt}{rest:List Stmt}(h1:PS X st t)(h2:PSs X rest u):PSs X (st::rest) (jj t u):=by
 exists ?_;intro pins s σ H D I h;refine wpAny_execs_cons (thn (h1 pins s σ H { D with nx:=u D } I h) fun f s1 q=>?_)
 cases f with
 | next=>
  obtain⟨σ',H',I',q⟩:=q;exact h2 pins s1 σ' H' D I' q
 | ret v=>exact q
 | brk=>exact q
 | cont=>exact q
theorem zg{st:Stmt}(h1:PS X st t):PSs X [st] t:=by
 exists ?_;intro pins s σ H D I h;refine wpAny_execs_cons (thn (h1 pins s σ H D I h) fun f s1 q=>?_);cases f with
 | next=>exact wpAny_execs_nil q
 | ret v=>exact q
 | brk=>exact q
 | cont=>exact q
theorem Inv.quiet(I:Inv X pins σ H s):interactive X.env=false:=by simp [interactive,I.ok.kind]
def zl5(te:TE):TS:=fun D σ H=>te σ H fun _ H1=>D.nx σ H1
theorem zZ(he:PE X e te)(hs:swapsWith e none pos.line X.env=pure false:=by rfl):PS X (.Expr e pos) (zl5 te):=by
 exists ?_;intro pins s σ H D I h;exact wpAny_Expr_any (thn (he pins s σ H _ I h) fun v s1 ⟨x,H1,I1,r1,q1⟩=>⟨σ,H1,I1,q1⟩) I.quiet hs
def zm8(te:TE):TS:=fun D σ H=>te σ H D.rt
theorem zB(he:PE X e te):PS X (.Return (some e) pos) (zm8 te):=by
 exists ?_;intro pins s σ H D I h;exact wpAny_Return_some (thn (he pins s σ H _ I h) fun v s1 ⟨x,H1,I1,r1,q1⟩=>⟨x,σ,H1,I1,r1,q1⟩)
def znb(c:TT)(t u:TS):TS:=fun D σ H=>c σ H fun b H1=>if b=true then t D σ H1 else u D σ H1
theorem zS{pos:Pos}{c:Expr}{a b:List Stmt}{tc:TT}(hc:PT X c tc)(ha:PSs X a t)(hb:PSs X b u):PS X (.If c a b pos) (znb tc t u):=by
 exists ?_;intro pins s σ H D I h;refine wpAny_If (thn (hc pins s σ H _ I h) fun d s1 ⟨H1,I1,q1⟩=>?_);cases d with
 | true=>exact ha pins s1 σ H1 D I1 q1
 | false=>exact hb pins s1 σ H1 D I1 q1
abbrev TG:=V->St->Hp->(St->Hp->Prop)->Prop
abbrev TGs:=List V->St->Hp->(St->Hp->Prop)->Prop
structure PG(X:Cx)(target:Expr)(t:TG):Prop where
 run:∀(pins:PnL) (s:Shared) (σ : St) (H:Hp) (v:V) (u:Value) (Q:St->Hp->Prop),Inv X pins σ H s->z5 v u->t v σ H Q->
  ↑X (assign target X.env u) (fun _ s'=>∃σ' H',Inv X pins σ' H' s'/\Q σ' H') X.xe s
instance {X:Cx}{target:Expr}{t:TG}:CoeFun (PG X target t) (fun _=>∀(pins:PnL) (s:Shared) (σ : St) (H:Hp) (v:V) (u:Value) (Q:St->Hp->Prop),Inv X pins σ H s->z5 v u->t v σ H Q->
  ↑X (assign target X.env u) (fun _ s'=>∃σ' H',Inv X pins σ' H' s'/\Q σ' H') X.xe s):=⟨PG.run⟩
structure PGs(X:Cx)(ts:List Expr)(t:TGs):Prop where
 run:∀(pins:PnL) (s:Shared) (σ : St) (H:Hp) (vs:List V) (us:List Value) (Q:St->Hp->Prop),Inv X pins σ H s->zV vs us->t vs σ H Q->
  ↑X (assignInOrder ((assignEach ts X.env).map (·.2)) us) (fun _ s'=>∃σ' H',Inv X pins σ' H' s'/\Q σ' H') X.xe s
instance {X:Cx}{ts:List Expr}{t:TGs}:CoeFun (PGs X ts t) (fun _=>∀(pins:PnL) (s:Shared) (σ : St) (H:Hp) (vs:List V) (us:List Value) (Q:St->Hp->Prop),Inv X pins σ H s->zV vs us->t vs σ H Q->
  ↑X (assignInOrder ((assignEach ts X.env).map (·.2)) us) (fun _ s'=>∃σ' H',Inv X pins σ' H' s'/\Q σ' H') X.xe s):=⟨PGs.run⟩
abbrev zlR:=V->V->V->Hp->(Hp->Prop)->Prop
def zm0(X:Cx)(t:zlR):Prop:=
 ∀(pins:PnL) s (σ:St) H o i v ov iv u (Q:Hp->Prop),Inv X pins σ H s->z5 o ov->z5 i iv->z5 v u->t o i v H Q->
  ↑X (setItem ov iv u) (fun _ s'=>∃H',Inv X pins σ H' s'/\Q H') X.xe s
abbrev TIp:=V->V->Hp->VK->Prop
def PIp(X:Cx)(op:Operator)(t:TIp):Prop:=
 ∀(pins:PnL) s (σ:St) H x y v u (Q:VK),Inv X pins σ H s->z5 x v->z5 y u->t x y H Q->
  ↑X (inplaceOp op v u) (EP X pins σ Q) X.xe s
def zJ(i:Nat):TG:=fun v σ H Q=>Q (σ.set i (some v)) H
theorem zo{i:Nat}(hN:X.N.Nodup)(hi:X.N[i]?=some x)(hx:Loc X.env.scope x)(hf:X.fn x=true\/X.env.scope.names.lookup x=some .local:=by first|exact .inl rfl|exact .inr rfl|assumption):PG X (.Name x pos) (zJ i):=by
 exists ?_;intro pins s σ H v u Q I r h;exact wpAny_assign_Name (qd I hN hi hx r (fun s' I'=>⟨_,H,I',h⟩) hf)
def zmM:TGs:=fun vs σ H Q=>vs=[]/\Q σ H
def zic(t:TG)(u:TGs):TGs:=fun vs σ H Q=>∃v r,vs=v::r/\t v σ H fun σ' H'=>u r σ' H' Q
theorem yH:PGs X [] zmM:=by
 exists ?_;intro pins s σ H vs us Q I r h;obtain⟨e,h⟩:=h;subst e;cases r;exact assignInOrder_nil ⟨σ,H,I,h⟩
theorem zN{t:TG}{u:TGs}(h1:PG X e t)(h2:PGs X es u)
  (hs:(assignEach (e::es) X.env).map (·.2)=assign e X.env::(assignEach es X.env).map (·.2):=by rfl):PGs X (e::es) (zic t u):=by
 exists ?_;intro pins s σ H vs us Q I r h;obtain⟨v,vr,e1,h⟩:=h;subst e1;cases r with
 | cons r rr=>
  rw[hs];refine assignInOrder_cons (thn (h1 pins s σ H _ _ _ I r h) fun _ s1 ⟨σ1,H1,I1,q1⟩=>?_);exact h2 pins s1 σ1 H1 _ _ Q I1 rr q1
inductive zmLJ(K:Frag)(n:Nat)(t:TGs)(v:V)(σ:St)(H:Hp)(Q:St->Hp->Prop):Prop|mk(a xs:_):v=.ref a->SqT K H a xs->xs.length=n->(t xs σ H Q)->zmLJ K n t v σ H Q
def zmL(K:Frag)(n:Nat)(t:TGs):TG:=fun v σ H Q=>zmLJ K n t v σ H Q
theorem y6{k:Nat}{t:TGs}{n:Nat}(hc:X.calm=true)(h:PGs X es t)
  (hn:(assignEach es X.env).length=n:=by rfl) (hst:(assignEach es X.env).findIdx? (·.1)=none:=by rfl):PG X (.Tuple es k pos) (zmL X.K n t):=by
 exists ?_;intro pins s σ H v u Q I r hw;obtain⟨a,xs,e1,hq,hl,hw⟩:=hw;subst e1;cases r;obtain⟨its,rv,ht,hz⟩:=I.tuple hq;refine assign_Tuple_tuple (I.ok.hd hc) ht (by simp [hn,<- hl,rv.length]) hst fun h' hx=>?_
 have I1:Inv X pins σ H { s with heap:=h' }:=I.kept (t':=s.toks) fun b o e=>hx b o (ne_of_lt (aI e)) e
 exact h pins _ σ H xs _ Q I1 (by simpa using rv) hw
def znO(to ti:TE)(t:zlR):TG:=fun v σ H Q=>to σ H fun o H1=>ti σ H1 fun i H2=>t o i v H2 fun H3=>Q σ H3
theorem zhj{pos:Pos}{o i:Expr}{to ti:TE}{t:zlR}(ho:PE X o to)(hi:PE X i ti)(hs:zm0 X t)
  (ha:∀v,assign (.Subscript o i pos) X.env v=(do
   let ov <- holding [v] (eval o X.env)
   let iv <- holding [v,ov] (eval i X.env)
   standAt pos
   holding [v,ov,iv] (setItem ov iv v)
   release [v,ov,iv] []):=by intro _;rfl):PG X (.Subscript o i pos) (znO to ti t):=by
 exists ?_;intro pins s σ H v u Q I r h;rw[ha];refine zwb (wpAny_holding (thn (ho pins s σ H _ I h) fun ov s1 ⟨x,H1,I1,r1,q1⟩=>?_));refine zwb (wpAny_holding (thn (hi pins s1 σ H1 _ I1 q1) fun iv s2 ⟨y,H2,I2,r2,q2⟩=>?_));refine zwb (wpAny_standAt (zwb (wpAny_holding (thn (hs pins s2 σ H2 x y v ov iv u _ I2 r1 r2 r q2) fun _ s3 ⟨H3,I3,q3⟩=>?_))));exact wpAny_release ⟨σ,H3,I3,q3⟩
def zkG(te:TE)(g:TG):TS:=fun D σ H=>te σ H fun x H1=>g x σ H1 D.nx
theorem vt{te:TE}{g:TG}(he:PE X e te)(hg:PG X tg g)(hs:swapsWithSole [tg] e pos.line X.env=pure false:=by rfl)(hw:swappedStores [tg] e X.env=pure none:=by rfl)
  (h1:(assignEach [tg] X.env).map (·.2)=[assign tg X.env]:=by rfl):PS X (.Assign [tg] e pos) (zkG te g):=by
 exists ?_;intro pins s σ H D I h;refine wpAny_Assign_stores (thn (he pins s σ H _ I h) fun v s1 ⟨x,H1,I1,r1,q1⟩=>?_) hs hw;rw[h1];exact thn (hg pins s1 σ H1 x v _ I1 r1 q1) fun _ s2 q=>q
theorem zx{i:Nat}{te:TE}(hN:X.N.Nodup)(hi:X.N[i]?=some x)(hx:Loc X.env.scope x)(he:PE X e te)(hs:swapsWith e (some (.Name x pos')) pos.line X.env=pure false:=by rfl)(hf:X.fn x=true\/X.env.scope.names.lookup x=some .local:=by first|exact .inl rfl|exact .inr rfl|assumption):
  PS X (.Assign [.Name x pos'] e pos) (zkG te (zJ i)):=by
 exists ?_;intro pins s σ H D I h;refine wpAny_Assign_Name (thn (he pins s σ H _ I h) fun v s1 ⟨y,H1,I1,r1,q1⟩=>?_) hs;exact qd I1 hN hi hx r1 (fun s2 I2=>⟨_,H1,I2,q1⟩) hf
def zng(i:Nat)(te:TE)(ti:TIp):TS:=fun D σ H=>∃x,σ[i]?=some (some x)/\te σ H fun y H1=>ti x y H1 fun z H2=>D.nx (σ.set i (some z)) H2
theorem zle{i:Nat}{te:TE}(hN:X.N.Nodup)(hi:X.N[i]?=some x)(hx:Loc X.env.scope x)(he:PE X e te)(ho:PIp X op ti)(hf:X.fn x=true\/X.env.scope.names.lookup x=some .local:=by first|exact .inl rfl|exact .inr rfl|assumption):
  PS X (.AugAssign (.Name x pos') op e pos) (zng i te ti):=by
 exists ?_;intro pins s σ H D I h;obtain⟨v,e1,h⟩:=h;obtain⟨m,hn,hl⟩:=I.loc;have vis:Vis X.env.scope x:=by rcases hx with k|k;exact .inl k;exact .inr (.inl k)
 obtain⟨u,r,l⟩:=hl i x v hi e1 vis;refine wpAny_AugAssign_Name ?_;have go:↑X (eval e X.env) (fun w s₂=>↑X (inplaceOp op u w) (fun r s₃=>↑X (storeName X.env x r) (fun _=>SP X pins D .next) X.xe s₃) X.xe s₂) X.xe s:=by
  refine thn (he pins s σ H _ I h) fun w s1 ⟨y,H1,I1,r1,q1⟩=>?_;refine thn (ho pins s1 σ H1 v y u w _ I1 r r1 q1) fun z s2 ⟨zv,H2,I2,r2,q2⟩=>?_;exact qd I2 hN hi hx r2 (fun s3 I3=>⟨_,H2,I3,q2⟩) hf
 rcases l with ⟨hk,hm⟩|⟨hk,c,hc,hcell⟩
 ·exact wpAny_loadName_local I.ok.kind hk hn hm go
 ·rcases hk with hk|hk
  ·exact wpAny_loadName_cell I.ok.kind hk hc hcell go
  ·rcases hx with k|k
   ·have:X.env.scope.names.lookup x=some .free:=hk
    rw[k] at this;cases this
   ·have:X.env.scope.names.lookup x=some .free:=hk
    rw[k] at this;cases this
def ipI(f:Int->Int->Int):TIp:=fun x y H Q=>∃i j,x=.int i/\y=.int j/\Q (.int (f i j)) H
theorem zlF:PIp X .Add (ipI fun i j=>i+j):=by
 intro pins s σ H x y v u Q I r1 r2 h;obtain⟨i,j,e1,e2,q⟩:=h;subst e1;subst e2;obtain⟨t,rfl⟩:=r1;obtain⟨t',rfl⟩:=r2;exact iadd_int ⟨.int _,H,I.tok _,⟨_,rfl⟩,q⟩
def zkA(c:TT)(tb:TS):TS:=fun D σ H=>∃W:Nat->St->Hp->Prop,(∃m,W m σ H)/\∀m σ H,W m σ H->
 c σ H fun b H1=>if b=true then ∃N:St->Hp->Prop,(∀σ' H',N σ' H'->∃m',m'<m/\W m' σ' H')/\tb { D with nx:=N,ct:=N,bk:=D.nx } σ H1 else D.nx σ H1
theorem qA{tc:TT}{tb:TS}(hp:PassesOwn (model X.prog X.w) X.A X.env X.xe)(hc:PT X c tc)(hb:PSs X body tb):PS X (.While c body [] pos) (zkA tc tb):=by
 exists ?_;intro pins s σ H D I h;obtain⟨W,⟨m0,w0⟩,turn⟩:=h;refine wpAny_While (codeAny_whileLoop (fun n s'=>∃σ' H',Inv X pins σ' H' s'/\W n σ' H') ?_ m0 ⟨σ,H,I,w0⟩);rintro n s1 ⟨σ1,H1,I1,w1⟩;refine wpAny_passesOwn hp (thn (hc pins s1 σ1 H1 _ I1 (turn n σ1 H1 w1)) fun b s2 ⟨H2,I2,q2⟩=>?_);cases b with
 | true=>
  obtain⟨N,hN,q2⟩:=q2;rw[aK rfl];refine wpAny_passesOwn hp (thn (hb pins s2 σ1 H2 _ I2 q2) fun f s3 q3=>?_);cases f with
  | next=>
   obtain⟨σ3,H3,I3,n3⟩:=q3;obtain⟨m',hm,w3⟩:=hN σ3 H3 n3;exact⟨m',hm,σ3,H3,I3,w3⟩
  | cont=>
   obtain⟨σ3,H3,I3,n3⟩:=q3;obtain⟨m',hm,w3⟩:=hN σ3 H3 n3;exact⟨m',hm,σ3,H3,I3,w3⟩
  | brk=>exact q3
  | ret v=>exact q3
 | false=>
  rw[aJ zft];exact wpAny_execs_nil ⟨σ1,H2,I2,q2⟩
structure It where
 go:Nat->Hp->Prop
 yld:Nat->Hp->V->Hp->Prop
 stop:Nat->Hp->Prop
def xQ(X:Cx)(pins:PnL)(H:Hp)(b:Addr):Prop:=
 H b=none/\b≠X.env.locals/\b∉X.fs/\(b∈X.ex\/X.s₀.heap.objs.size<=b)/\(∀x c,X.env.cells.lookup x=some c->c≠b)/\∀p∈X.pn++pins,p.1≠b
theorem Inv.fpOk(I:Inv X pins σ H s)(hb:s.heap.objs.size<=b)(hn:H' b=none):xQ X pins H' b:=by
 exists hn,ne_of_gt (lt_of_lt_of_le I.lt hb),I.nofs hb,.inr (Nat.le_trans I.sz hb),fun x c e z=>?_,fun p hp z=>?_
 ·obtain⟨v,q⟩:=I.cell x c e
  exact absurd (lt_of_lt_of_le q.lt (by rw[z];exact hb)) (lt_irrefl _)
 ·exact absurd (lt_of_lt_of_le (aI (I.pin p hp).1) (by rw[z];exact hb)) (lt_irrefl _)
structure zar(P:Program)(w:World)(K:Frag)(tg:Expr)(J:It)(fp:List Addr)(it:Addr)(tn:Nat->Heap->Prop):Prop where
 mem:it∈fp
 obj:∀i h,tn i h->∀b∈fp,∃o,h.get? b=some o/\∀v,o.data≠.cell v
 keep:∀i h h',tn i h->(∀b∈fp,∀o,h.get? b=some o->h'.get? b=some o)->tn i h'
 item:∀(X:Cx),X.prog=P->X.w=w->X.K=K->X.calm=true->∀(i:Nat) (pins:PnL) (s:Shared) (σ : St) (H:Hp) (E:VSP),Inv X pins σ H s->(∀b∈fp,xQ X pins H b)->tn i s.heap->J.go i H->
  wpAny (model P w) X.A (pyNext (.ref it)) (fun r s1=>∃u,r=some u/\
   wpAny (model P w) X.A (letOwnedTupleGo tg (.ref it) u) (fun _ s2=>∃x H',Inv X pins σ H' s2/\z5 x u/\J.yld i H x H'/\tn (i+1) s2.heap/\∀b∈fp,H' b=none) E s1) E s
 done:∀(X:Cx),X.prog=P->X.w=w->X.K=K->X.calm=true->∀(i:Nat) (pins:PnL) (s:Shared) (σ : St) (H:Hp) (E:VSP),Inv X pins σ H s->(∀b∈fp,xQ X pins H b)->tn i s.heap->J.stop i H->
  wpAny (model P w) X.A (pyNext (.ref it)) (fun r s1=>r=none/\Inv X pins σ H s1) E s
 self:∀(A:Around) (i:Nat) (s:Shared) (Q:VSP) (E:VSP),tn i s.heap->Q (.ref it) s->wpAny (model P w) A (pyIter (.ref it)) Q E s
abbrev TI:=St->Hp->(It->Hp->Prop)->Prop
def PIE(X:Cx)(pins:PnL)(σ : St)(tg:Expr)(R:It->Hp->Prop)(itv:Value)(s2:Shared):Prop:=
 ∃(it:Addr) (fp:List Addr) (tn:Nat->Heap->Prop) (J:It) (H':Hp),itv=.ref it/\Inv X pins σ H' s2/\zar X.prog X.w X.K tg J fp it tn/\tn 0 s2.heap/\(∀b∈fp,xQ X pins H' b)/\R J H'
structure PI(X:Cx)(tg iter:Expr)(wi:TI):Prop where
 run:∀(pins:PnL) (s:Shared) (σ : St) (H:Hp) (R:It->Hp->Prop),Inv X pins σ H s->wi σ H R->
  ↑X (eval iter X.env) (fun v s1=>↑X (pyIter v) (PIE X pins σ tg R) X.xe s1) X.xe s
instance {X:Cx}{tg iter:Expr}{wi:TI}:CoeFun (PI X tg iter wi) (fun _=>∀(pins:PnL) (s:Shared) (σ : St) (H:Hp) (R:It->Hp->Prop),Inv X pins σ H s->wi σ H R->
  ↑X (eval iter X.env) (fun v s1=>↑X (pyIter v) (PIE X pins σ tg R) X.xe s1) X.xe s):=⟨PI.run⟩
theorem zia{M:Model}{A:Around}{E:VSP}{s:Shared}{tg:Expr}{it:Addr}{u:Value}{o:Obj}{n:String}{vs:Array Value}{Q:Unit->Shared->Prop}(ho:s.heap.get? it=some o)(hc:o.cls=.type n)(hd:o.data=.fields vs)
  (hn:["enumerate","zip","dict_itemiterator","dict_reverseitemiterator","odict_iterator","itertools.zip_longest","itertools.pairwise"].contains n=false) (hQ:Q () s):wpAny M A (letOwnedTupleGo tg (.ref it) u) Q E s:=by
 unfold letOwnedTupleGo;cases tg <;> first
  | exact zwp hQ
  | (cases u <;> first
    | exact zwp hQ
    | (refine zwb (wpAny_load ho ?_)
       rw[hc,hd];show wpAny M A (if (["enumerate","zip","dict_itemiterator","dict_reverseitemiterator","odict_iterator","itertools.zip_longest","itertools.pairwise"].contains n&&vs[0]?==some (rawInt _))=true then _ else _) Q E s
       rw[aJ (by intro h;rw[hn,Bool.false_and] at h;cases h)]
       exact zwp hQ))
def Itl(K:Frag)(a:Addr):It:=
 ⟨fun i H=>∃xs x,SqL K H a xs/\xs[i]?=some x,fun i H x H'=>H'=H/\∀xs,SqL K H a xs->xs[i]?=some x,fun i H=>∃xs,SqL K H a xs/\xs.length<=i⟩
def Itr(lo:Int)(n:Nat):It:=⟨fun i _=>i<n,fun i H x H'=>H'=H/\x=.int (lo+i),fun i _=>n<=i⟩
theorem zff{P:Program}{w:World}{K:Frag}{tg:Expr}(a it:Addr):zar P w K tg (Itl K a) [it] it (fun i h=>h.IsListIter it a i) where
 mem:=by simp
 obj:=fun i h st b hb=>by
  have e:b=it:=by simpa using hb
  subst e;obtain⟨o,e,c,d⟩:=st;exact⟨o,e,fun v z=>by rw[d] at z;cases z⟩
 keep:=fun i h h' st k=>st.at fun o e=>k it (by simp) o e
 item:=by
  intro X hP hw hK hc i pins s σ H E I hf st hg;subst hP hw hK;obtain⟨xs,x,hq,hx⟩:=hg;obtain⟨its,rv,p,hz⟩:=I.list hq;obtain⟨u,hu,ru⟩:=rv.get hx;obtain⟨f0,f1,f2,f3,f4,f5⟩:=hf it (by simp)
  refine wpAny_pyNext_list_item st p.isList (x:=u) (by simpa using hu) fun h' st' sb=>?_
  have I1:Inv X pins σ H { s with heap:=h' }:=I.turned (t':=s.toks) (fun b o hb e=>(sb.2 b hb).trans e) f0 f1 f3 f4 f5
  obtain⟨o,e,c,d⟩:=id st';exact⟨u,rfl,zia (s:={ s with heap:=h' }) e c d ⋯ ⟨x,H,I1,ru,⟨rfl,fun ys hy=>by rw[I.list_inj hy hq];exact hx⟩,st',fun b hb=>(hf b hb).1⟩⟩
 done:=by
  intro X hP hw hK hc i pins s σ H E I hf st hg;subst hP hw hK;obtain⟨xs,hq,hx⟩:=hg;obtain⟨its,rv,p,hz⟩:=I.list hq;obtain⟨f0,f1,f2,f3,f4,f5⟩:=hf it (by simp)
  have hl:=rv.length;exact wpAny_pyNext_list_end (I.ok.hd hc) st p.isList (by simp;omega) fun h' eb=>⟨rfl,I.turned (t':=s.toks) (fun b o hb e=>eb b o hb e) f0 f1 f3 f4 f5⟩
 self:=fun _ _ _ _ _ st h=>wpAny_pyIter_listiter st h
theorem zc5{P:Program}{w:World}{K:Frag}{tg:Expr}(it:Addr)(lo:Int)(n:Nat):zar P w K tg (Itr lo n) [it] it (fun i h=>IsRangeIter h it (lo+(i:Nat) * 1) ((n:Int) - (i:Nat)) 1) where
 mem:=by simp
 obj:=fun i h st b hb=>by
  have e:b=it:=by simpa using hb
  subst e;exact⟨_,st,fun v z=>by
   have z':Data.fields _=Data.cell v:=z;cases z'⟩
 keep:=fun i h h' st k=>k it (by simp) _ st
 item:=by
  intro X hP hw hK hc i pins s σ H E I hf st hg;subst hP hw hK;obtain⟨f0,f1,f2,f3,f4,f5⟩:=hf it (by simp)
  have W:=Walks.range (prog:=X.prog) (w:=X.w) (I.ok.hd hc) it lo 1 n;refine W.item i s _ _ hg st fun v h' tk hv st' kk=>?_;obtain⟨t,rfl⟩:=hv;have I1:Inv X pins σ H { s with heap:=h',toks:=tk }:=I.turned (fun b o hb e=>kk b o (by simpa using hb) e) f0 f1 f3 f4 f5
  exists _,rfl,zia (s:={ s with heap:=h',toks:=tk }) (n:="range_iterator") st' rfl rfl ⋯ ⟨.int (lo+i),H,I1,⟨t,?_⟩,⟨rfl,rfl⟩,st',fun b hb=>(hf b hb).1⟩
  rw[Int.mul_one]
 done:=by
  intro X hP hw hK hc i pins s σ H E I hf st hg;subst hP hw hK;obtain⟨f0,f1,f2,f3,f4,f5⟩:=hf it (by simp)
  exact wpAny_pyNext_range_end (I.ok.hd hc) st (by have:n<=i:=hg;omega) fun h' eb=>⟨rfl,I.turned (t':=s.toks) (fun b o hb e=>eb b o hb e) f0 f1 f3 f4 f5⟩
 self:=fun _ _ _ _ _ st h=>wpAny_pyIter_rangeiter st h
inductive zksJ(K:Frag)(R:It->Hp->Prop)(x:V)(H1:Hp):Prop|mk(a:_):x=.ref a->(∃xs,SqL K H1 a xs)->(R (Itl K a) H1)->zksJ K R x H1
def zks(K:Frag)(tl:TE):TI:=fun σ H R=>tl σ H fun x H1=>zksJ K R x H1
theorem zM{tl:TE}(hl:PE X l tl):PI X tg l (zks X.K tl):=by
 exists ?_;intro pins s σ H R I h;refine thn (hl pins s σ H _ I h) fun v s1 ⟨x,H1,I1,r1,q1⟩=>?_;obtain⟨a,e,⟨xs,hq⟩,q⟩:=q1;subst e;cases r1;obtain⟨its,rv,p,hz⟩:=I1.list hq;refine wpAny_pyIter_list p.isList ?_;exists s1.heap.objs.size,[s1.heap.objs.size],_,_,H1,rfl,I1.kept (t':=s1.toks) fun b o e=>zgp _ e,zff a _,⟨_,zgs _ rfl,rfl,rfl⟩,fun b hb=>?_,q;have e:b=s1.heap.objs.size:=by simpa using hb
 subst e;exact I1.fpOk (aF _) (I1.hok.fresh (aF _))
theorem zco{tg:Expr}{pins:PnL}{σ : St}{H:Hp}{s:Shared}{R:It->Hp->Prop}{E:VSP}{lo hi:Int}{t u v:Tok}{tk:Nat}(I:Inv X pins σ H s)(h1 : -(2 ^ 62)<=lo)(h2:lo<2 ^ 62)(h3 : -(2 ^ 62)<=hi)(h4:hi<2 ^ 62)
  (q:R (Itr lo (hi - lo).toNat) H):↑X (pyIter (.ref s.heap.objs.size)) (PIE X pins σ tg R) E { s with heap:=s.heap.push { cls:=.type "range",data:=.fields #[.int lo t,.int hi u,.int 1 v] },toks:=tk }:=by
 refine wpAny_pyIter_range (IsRange.new ..) (small_one h1 h2 h3 h4) ?_;have I1:Inv X pins σ H { s with heap:=s.heap.push { cls:=.type "range",data:=.fields #[.int lo t,.int hi u,.int 1 v] },toks:=tk }:=I.kept fun b o e=>zgp _ e
 refine⟨(s.heap.push { cls:=.type "range",data:=.fields #[.int lo t,.int hi u,.int 1 v] }).objs.size,[(s.heap.push { cls:=.type "range",data:=.fields #[.int lo t,.int hi u,.int 1 v] }).objs.size],_,_,H,rfl,
  I1.kept (t':=tk) fun b o e=>zgp _ e,zc5 _ lo (hi - lo).toNat,?_,fun b hb=>?_,q⟩
 ·have e1:lo+((0:Nat):Int) * 1=lo:=by simp
  have e2:(((hi - lo).toNat:Nat):Int) - ((0:Nat):Int)=Builtin.Range.rangeSize lo hi 1:=by rw[rangeSize_one];split <;> omega
  show IsRangeIter _ _ (lo+((0:Nat):Int) * 1) ((((hi - lo).toNat:Nat):Int) - ((0:Nat):Int)) 1;rw[e1,e2];exact zgs _ rfl
 ·have e:b=(s.heap.push { cls:=.type "range",data:=.fields #[.int lo t,.int hi u,.int 1 v] }).objs.size:=by simpa using hb
  subst e;exact I1.fpOk (aF _) (I1.hok.fresh (aF _))
inductive zmHJ(R:It->Hp->Prop)(vs:List V)(H1:Hp):Prop|mk(j:Int):vs=[.int j]->-(2 ^ 62)<=j->j<2 ^ 62->(R (Itr 0 j.toNat) H1)->zmHJ R vs H1
def zmH(ta:TA):TI:=fun σ H R=>ta σ H fun vs H1=>zmHJ R vs H1
inductive zmGJ(R:It->Hp->Prop)(vs:List V)(H1:Hp):Prop|mk(i j:Int):vs=[.int i,.int j]->(-(2 ^ 62)<=i/\i<2 ^ 62/\-(2 ^ 62)<=j/\j<2 ^ 62)->(R (Itr i (j - i).toNat) H1)->zmGJ R vs H1
def zmG(ta:TA):TI:=fun σ H R=>ta σ H fun vs H1=>zmGJ R vs H1
theorem wq{tg:Expr}{a:Expr}{ta:TA}{p pos:Pos}(hg:Gl X "range")(hm:X.mg "range"=none)(ha:PA X [a] ta)(hs:starEach [a] X.env=[(false,eval a X.env)]:=by rfl):PI X tg (.Call (.Name "range" p) [a] [] pos) (zmH ta):=by
 exists ?_;intro pins s σ H R I h;refine Call_ (wP I hg hm boot_range (PyProof.Rows.callWith_type1 (thn (ha pos pins s σ H _ I h) fun us s1 ⟨vs,H1,I1,r1,q1⟩=>?_) hs rfl));obtain⟨j,e,q1,q2,q⟩:=q1;subst e;cases r1 with
 | cons r rr=>
  cases rr;obtain⟨t,rfl⟩:=r;exact call_range_1 (zco I1 ∅ ∅ q1 q2 (by simpa using q))
theorem zfr{tg:Expr}{a b:Expr}{ta:TA}{p pos:Pos}(hg:Gl X "range")(hm:X.mg "range"=none)(ha:PA X [a,b] ta)(hs:starEach [a,b] X.env=[(false,eval a X.env),(false,eval b X.env)]:=by rfl)(hs2:starEach [b] X.env=[(false,eval b X.env)]:=by rfl):
  PI X tg (.Call (.Name "range" p) [a,b] [] pos) (zmG ta):=by
 exists ?_;intro pins s σ H R I h;refine Call_ (wP I hg hm boot_range (PyProof.Rows.callWith_type1 (thn (ha pos pins s σ H _ I h) fun us s1 ⟨vs,H1,I1,r1,q1⟩=>?_) (by rw[hs,hs2]) (by rw[hs2];rfl)))
 obtain⟨i,j,e,⟨q1,q2,q3,q4⟩,q⟩:=q1;subst e;cases r1 with
 | cons r rr=>
  cases rr with
  | cons r' rr=>
   cases rr;obtain⟨t,rfl⟩:=r;obtain⟨t',rfl⟩:=r';exact call_range_2 (zco I1 q1 q2 q3 q4 q)
def znd(wi:TI)(g:TG)(tb:TS):TS:=fun D σ H=>wi σ H fun J H1=>∃W:Nat->Nat->St->Hp->Prop,(∃m,W 0 m σ H1)/\∀i m σ H,W i m σ H->
 (J.stop i H/\D.nx σ H)\/(J.go i H/\∃N:St->Hp->Prop,(∀σ' H',N σ' H'->∃m',m'<m/\W (i+1) m' σ' H')/\∀x H',J.yld i H x H'->g x σ H' fun σ2 H2=>tb { D with nx:=N,ct:=N,bk:=D.nx } σ2 H2)
def vw(fp:List Addr)(h:Heap):List (Addr×Obj):=fp.filterMap fun b=>(h.get? b).map fun o=>(b,o)
theorem yF(hb:b∈fp)(e:h.get? b=some o):(b,o)∈vw fp h:=List.mem_filterMap.mpr ⟨b,hb,by rw[e];rfl⟩
theorem zfL(hp:p∈vw fp h):p.1∈fp/\h.get? p.1=some p.2:=by
 obtain⟨b,hb,e⟩:=List.mem_filterMap.mp hp;cases q:h.get? b with
 | none=>rw[q] at e;cases e
 | some o=>
  rw[q] at e;have e':(b,o)=p:=Option.some.inj e;subst e';exact⟨hb,q⟩
theorem Inv.pinned(I:Inv X pins σ H s)(hf:∀b∈fp,xQ X pins H b)(ho:∀b∈fp,∃o,s.heap.get? b=some o/\∀v,o.data≠.cell v):Inv X (pins++vw fp s.heap) σ H s:=
 I.pins_of fun p hp=>(List.mem_append.mp hp).elim (fun z=>I.pin p (mem_append_right _ z)) fun z=>by
  obtain⟨hb,e⟩:=zfL z;obtain⟨f0,f1,f2,_⟩:=hf p.1 hb;obtain⟨o,e',d⟩:=ho p.1 hb;rw[e] at e';cases e';exact⟨e,f0,f1,f2,d⟩
theorem Inv.unpinned(I:Inv X (pins++pl) σ H s):Inv X pins σ H s:=I.pins_of fun p hp=>I.pin p (mem_append_right _ (mem_append_left _ hp))
theorem yU{wi:TI}{g:TG}{tb:TS}(hp:PassesOwn (model X.prog X.w) X.A X.env X.xe)(hc:X.calm=true)(hi:PI X tg iter wi)(hg:PG X tg g)(hb:PSs X body tb)
  (hs:∀x,foldedSetIterable iter X.env x=pure x:=by intro _;rfl):PS X (.For tg iter body [] pos) (znd wi g tb):=by
 exists ?_;intro pins s σ H D I h;refine wpAny_For (thn (hi pins s σ H _ I h) fun v s1 h1=>thn h1 fun itv s2 h2=>?_) hs;obtain⟨it,fp,tn,J,H2,e,I2,T,st2,f2,W,⟨m0,w0⟩,turn⟩:=h2;subst e;have stat:∀{H':Hp},(∀b∈fp,H' b=none)->∀b∈fp,xQ X pins H' b:=fun hn b hb=>⟨hn b hb,(f2 b hb).2⟩;refine codeAny_forLoop_any (fun n s'=>∃i σ' H',Inv X pins σ' H' s'/\tn i s'.heap/\(∀b∈fp,H' b=none)/\W i n σ' H') ?_ m0 ⟨0,σ,H2,I2,st2,fun b hb=>(f2 b hb).1,w0⟩;rintro n s3 ⟨i,σ3,H3,I3,st3,fr3,w3⟩;rcases turn i n σ3 H3 w3 with ⟨stop,qn⟩|⟨go,N,hN,step⟩
 ·refine wpAny_passesOwn hp (thn (T.done X rfl rfl rfl hc i pins s3 σ3 H3 X.xe I3 (stat fr3) st3 stop) fun r s4 ⟨hr,I4⟩=>?_)
  subst hr;exact wpAny_execs_nil ⟨σ3,H3,I4,qn⟩
 ·refine wpAny_passesOwn hp (thn (T.item X rfl rfl rfl hc i pins s3 σ3 H3 X.xe I3 (stat fr3) st3 go) fun r s4 ⟨u,hr,h4⟩=>?_)
  subst hr;refine wpAny_passesOwn hp (thn h4 fun _ s5 ⟨x,H5,I5,r5,y5,st5,fr5⟩=>?_);have I5':=I5.pinned (stat fr5) (T.obj _ _ st5);refine wpAny_passesOwn hp (thn (hg _ s5 σ3 H5 x u _ I5' r5 (step x H5 y5)) fun _ s6 ⟨σ6,H6,I6,q6⟩=>?_);refine wpAny_passesOwn hp (thn (hb _ s6 σ6 H6 _ I6 q6) fun f s7 q7=>?_);have again:∀{σ7:St}{H7:Hp},Inv X (pins++vw fp s5.heap) σ7 H7 s7->N σ7 H7->∃m,m<n/\∃i σ' H',Inv X pins σ' H' s7/\tn i s7.heap/\(∀b∈fp,H' b=none)/\W i m σ' H':=fun {σ7 H7} I7 n7=>by
   obtain⟨m',hm,w7⟩:=hN σ7 H7 n7;exists m',hm,i+1,σ7,H7,I7.unpinned,T.keep _ _ _ st5 fun b hb o e=>(I7.pin (b,o) (mem_append_right _ (mem_append_right _ (yF hb e)))).1,fun b hb=>?_,w7;obtain⟨o,e,d⟩:=T.obj _ _ st5 b hb;exact(I7.pin (b,o) (mem_append_right _ (mem_append_right _ (yF hb e)))).2.1
  cases f with
  | next=>obtain⟨σ7,H7,I7,n7⟩:=q7;exact again I7 n7
  | cont=>obtain⟨σ7,H7,I7,n7⟩:=q7;exact again I7 n7
  | brk=>obtain⟨σ7,H7,I7,q7⟩:=q7;exact⟨σ7,H7,I7.unpinned,q7⟩
  | ret v=>obtain⟨x7,σ7,H7,I7,r7,q7⟩:=q7;exact⟨x7,σ7,H7,I7.unpinned,r7,q7⟩
theorem xf{K:Frag}{a:Addr}{xs:List V}{g:TG}{tb:TS}{D:jQ}{σ : St}{H:Hp}(Pv:Nat->St->Hp->Prop)(h0:Pv 0 σ H)(hl:∀i σ H,i<=xs.length->Pv i σ H->SqL K H a xs)
  (hs:∀i x σ H,xs[i]?=some x->Pv i σ H->g x σ H fun σ2 H2=>tb { D with nx:=Pv (i+1),ct:=Pv (i+1),bk:=D.nx } σ2 H2) (hd:∀σ H,Pv xs.length σ H->D.nx σ H) :
  ∃W:Nat->Nat->St->Hp->Prop,(∃m,W 0 m σ H)/\∀i m σ H,W i m σ H->
   ((Itl K a).stop i H/\D.nx σ H)\/((Itl K a).go i H/\∃N:St->Hp->Prop,(∀σ' H',N σ' H'->∃m',m'<m/\W (i+1) m' σ' H')/\∀x H',(Itl K a).yld i H x H'->g x σ H' fun σ2 H2=>tb { D with nx:=N,ct:=N,bk:=D.nx } σ2 H2):=by
 exists fun i m σ H=>m=xs.length - i/\i<=xs.length/\Pv i σ H,⟨xs.length,by simp,zero_le _,h0⟩,?_
 rintro i m σ H ⟨rfl,hi,p⟩;have q:=hl i σ H hi p;by_cases hlt:i<xs.length
 ·refine .inr ⟨⟨xs,xs[i],q,by simp [hlt]⟩,Pv (i+1),fun σ' H' p'=>⟨xs.length - (i+1),∅,rfl,hlt,p'⟩,fun x H' y=>?_⟩
  obtain⟨e,y⟩:=y;subst e;exact hs i x σ _ (y xs q) p
 ·have e:i=xs.length:=by omega
  subst e;exact .inl ⟨⟨xs,q,aF _⟩,hd σ H p⟩
theorem uf{lo:Int}{n:Nat}{g:TG}{tb:TS}{D:jQ}{σ : St}{H:Hp}(Pv:Nat->St->Hp->Prop)(h0:Pv 0 σ H)
  (hs:∀i σ H,i<n->Pv i σ H->g (.int (lo+i)) σ H fun σ2 H2=>tb { D with nx:=Pv (i+1),ct:=Pv (i+1),bk:=D.nx } σ2 H2) (hd:∀σ H,Pv n σ H->D.nx σ H) :
  ∃W:Nat->Nat->St->Hp->Prop,(∃m,W 0 m σ H)/\∀i m σ H,W i m σ H->
   ((Itr lo n).stop i H/\D.nx σ H)\/((Itr lo n).go i H/\∃N:St->Hp->Prop,(∀σ' H',N σ' H'->∃m',m'<m/\W (i+1) m' σ' H')/\∀x H',(Itr lo n).yld i H x H'->g x σ H' fun σ2 H2=>tb { D with nx:=N,ct:=N,bk:=D.nx } σ2 H2):=by
 exists fun i m σ H=>m=n - i/\i<=n/\Pv i σ H,⟨n,by simp,zero_le _,h0⟩,?_
 rintro i m σ H ⟨rfl,hi,p⟩;by_cases hlt:i<n
 ·refine .inr ⟨hlt,Pv (i+1),fun σ' H' p'=>⟨n - (i+1),∅,rfl,hlt,p'⟩,fun x H' y=>?_⟩
  obtain⟨e,y⟩:=y;subst e y;exact hs i σ _ hlt p
 ·have e:i=n:=by omega
  subst e;exact .inl ⟨aF _,hd σ H p⟩
abbrev R2:=V->V->Hp->VK->Prop
def OpR(X:Cx)(f:Value->Value->Sem Value)(r:R2):Prop:=
 ∀(pins:PnL) s (σ:St) H x y v u (Q:VK),Inv X pins σ H s->z5 x v->z5 y u->r x y H Q->
  ↑X (f v u) (EP X pins σ Q) X.xe s
def UnR(X:Cx)(f:Value->Sem Value)(r:V->Hp->VK->Prop):Prop:=
 ∀(pins:PnL) s (σ:St) H x v (Q:VK),Inv X pins σ H s->z5 x v->r x H Q->
  ↑X (f v) (EP X pins σ Q) X.xe s
def xq(X:Cx)(f:Value)(r:List V->Hp->VK->Prop):Prop:=
 ∀(pins:PnL) s (σ:St) H xs us (Q:VK),Inv X pins σ H s->zV xs us->r xs H Q->
  ↑X (call f us) (EP X pins σ Q) X.xe s
def znY(X:Cx)(r:V->Hp->(Bool->Hp->Prop)->Prop):Prop:=
 ∀(pins:PnL) s (σ:St) H x v (Q:Bool->Hp->Prop),Inv X pins σ H s->z5 x v->r x H Q->
  ↑X (truthy v) (TP X pins σ Q) X.xe s
def tOp(r:R2)(ta tb:TE):TE:=fun σ H Q=>ta σ H fun x H1=>tb σ H1 fun y H2=>r x y H2 Q
def tUn(r:V->Hp->VK->Prop)(ta:TE):TE:=fun σ H Q=>ta σ H fun x H1=>r x H1 Q
inductive IrI(C:Int->Int->Prop)(g:Int->Int->V)(x y:V)(H:Hp)(Q:VK):Prop where
 | mk (i j:Int) (e1:x=.int i) (e2:y=.int j) (c:C i j) (q:Q (g i j) H)
def rI(C:Int->Int->Prop)(g:Int->Int->V):R2:=fun x y H Q=>IrI C g x y H Q
inductive zn2(g:Int->Int->V)(x y:V)(H:Hp)(Q:VK):Prop where
 | mk (i j:Int) (e1:x=.int i) (e2:y=.int j) (q:Q (g i j) H)
def rI0(g:Int->Int->V):R2:=fun x y H Q=>zn2 g x y H Q
def rU(g:Int->V):V->Hp->VK->Prop:=fun x H Q=>∃i,x=.int i/\Q (g i) H
end
section
variable {ta tb tc:TE}
theorem zlO(ha:PE X a ta)(hb:PE X b tb){R:V->V->Hp->Prop}(I:Inv X pins σ H s)
  (h:ta σ H fun x H1=>tb σ H1 fun y H2=>R x y H2) {Q:VSP}{f:Value->Value->Sem Value}
  (hf:∀v u s2 x y H2,Inv X pins σ H2 s2->z5 x v->z5 y u->R x y H2->↑X (f v u) Q X.xe s2) :
  ↑X (eval a X.env) (fun v s₁=>↑X (eval b X.env) (fun u s₂=>↑X (f v u) Q X.xe s₂) X.xe s₁) X.xe s:=by
 refine thn (ha pins s σ H _ I h) fun v s1 ⟨x,H1,I1,r1,q1⟩=>?_;refine thn (hb pins s1 σ H1 _ I1 q1) fun u s2 ⟨y,H2,I2,r2,q2⟩=>?_;exact hf v u s2 x y H2 I2 r1 r2 q2
theorem zk{r:R2}(ho:OpR X (binaryOp op) r)(ha:PE X a ta)(hb:PE X b tb):PE X (.BinOp a op b pos) (tOp r ta tb):=by
 and_intros;exact wpAny_BinOp (zlO ha hb I h fun v u s2 x y H2 I2 rx ry q=>ho pins s2 σ H2 x y v u Q I2 rx ry q)
theorem zkp{r:V->Hp->VK->Prop}(ho:UnR X (unaryOp op) r)(ha:PE X a ta):PE X (.UnaryOp op a pos) (tUn r ta):=by
 and_intros;exact UnaryOp_ (thn (ha pins s σ H _ I h) fun v s1 ⟨x,H1,I1,r1,q1⟩=>ho pins s1 σ H1 x v Q I1 r1 q1)
theorem opI{f:Value->Value->Sem Value}{C:Int->Int->Prop}{g:Int->Int->Int}
  (rule:∀(i j:Int) t u s (Q:VSP) (E:VSP),C i j->Q (.int (g i j) s.toks) { s with toks:=s.toks+1 }->↑X (f (.int i t) (.int j u)) Q E s) :
  OpR X f (rI C fun i j=>.int (g i j)):=by
 intro pins s σ H x y v u Q I rx ry h;obtain⟨i,j,rfl,rfl,hc,q⟩:=h;obtain⟨t,rfl⟩:=rx;obtain⟨t',rfl⟩:=ry;exact rule i j t t' s _ _ hc ⟨.int (g i j),H,I.tok _,⟨_,rfl⟩,q⟩
theorem zmq{f:Value->Value->Sem Value}{g:Int->Int->Int}
  (rule:∀(i j:Int) t u s (Q:VSP) (E:VSP),Q (.int (g i j) s.toks) { s with toks:=s.toks+1 }->↑X (f (.int i t) (.int j u)) Q E s) :
  OpR X f (rI0 fun i j=>.int (g i j)):=by
 intro pins s σ H x y v u Q I rx ry h;obtain⟨i,j,rfl,rfl,q⟩:=h;obtain⟨t,rfl⟩:=rx;obtain⟨t',rfl⟩:=ry;exact rule i j t t' s _ _ ⟨.int (g i j),H,I.tok _,⟨_,rfl⟩,q⟩
theorem zll{f:Value->Value->Sem Value}{g:Int->Int->Bool}
  (rule:∀(i j:Int) t u s (Q:VSP) (E:VSP),Q (.bool (g i j)) s->↑X (f (.int i t) (.int j u)) Q E s) :
  OpR X f (rI0 fun i j=>.bl (g i j)):=by
 intro pins s σ H x y v u Q I rx ry h;obtain⟨i,j,rfl,rfl,q⟩:=h;obtain⟨t,rfl⟩:=rx;obtain⟨t',rfl⟩:=ry;exact rule i j t t' s _ _ ⟨.bl (g i j),H,I,rfl,q⟩
def zm3(i j:Int):Prop:=0<j/\j<1073741824
def zn6(i j:Int):Prop:=0<=j/\j<=1000000/\i.natAbs<2 ^ 64
def zlV(i j:Int):Prop:=(-(2 ^ 64)<i/\i<2 ^ 64)\/(-(2 ^ 64)<j/\j<2 ^ 64)
theorem zlV.ok{i j:Int}(h:zlV i j):IntMulOk i j:=by
 rcases h with ⟨h1,h2⟩|⟨h1,h2⟩
 ·exact .of_left (intBits_le_64 h1 h2)
 ·exact .of_right (intBits_le_64 h1 h2)
theorem yP:OpR X (binaryOp .Add) (rI0 fun i j=>.int (i+j)):=zmq fun _ _ _ _ _ _ _ q=>add_int q
theorem zdB:OpR X (binaryOp .Sub) (rI0 fun i j=>.int (i - j)):=zmq fun _ _ _ _ _ _ _ q=>sub_int q
theorem xT:OpR X (binaryOp .Mult) (rI zlV fun i j=>.int (i * j)):=opI fun _ _ _ _ _ _ _ hc q=>mul_int q hc.ok
theorem z3:OpR X (binaryOp .FloorDiv) (rI zm3 fun i j=>.int (i / j)):=opI fun i j _ _ _ _ _ hc q=>by
 have h1:(0:Int)<j:=hc.1;have h2:j<1073741824:=hc.2;exact floordiv_int ∅ (by rw[Int.fdiv_eq_ediv_of_nonneg i ∅];exact q) (.inl (PyProof.noPylong_small ∅))
theorem zW:OpR X (binaryOp .Mod) (rI (fun _ j=>0<j) fun i j=>.int (i % j)):=opI fun i j _ _ _ _ _ hc q=>by
 have h1:(0:Int)<j:=hc;exact mod_int' ∅ (by rw[Int.fmod_eq_emod_of_nonneg i ∅];exact q)
theorem zhq:OpR X (binaryOp .Pow) (rI zn6 fun i j=>.int (i ^ j.toNat)):=opI fun _ _ _ _ _ _ _ hc q=>pow_int_small hc.1 hc.2.1 hc.2.2 q
theorem unI{f:Value->Sem Value}{g:Int->Int}
  (rule:∀(i:Int) t s (Q:VSP) (E:VSP),Q (.int (g i) s.toks) { s with toks:=s.toks+1 }->↑X (f (.int i t)) Q E s) :
  UnR X f (rU fun i=>.int (g i)):=by
 intro pins s σ H x v Q I rx h;obtain⟨i,rfl,q⟩:=h;obtain⟨t,rfl⟩:=rx;exact rule i t s _ _ ⟨.int (g i),H,I.tok _,⟨_,rfl⟩,q⟩
theorem zgl:UnR X (unaryOp .USub) (rU fun i=>.int (-i)):=unI fun _ _ _ _ _ q=>neg_int q
def zmf:V->V->Bool
 | .non,.non=>true|.non,.int _=>true|.int _,.non=>true|.non,.bl _=>true|.bl _,.non=>true|.non,.str _=>true|.str _,.non=>true
 | .int _,.int _=>true|.bl _,.bl _=>true|.str _,.str _=>true|.byt _,.byt _=>true
 | .int _,.str _=>true|.str _,.int _=>true|.bl _,.str _=>true|.str _,.bl _=>true
 | _,_=>false
def rEq:R2:=fun x y H Q=>zmf x y=true/\Q (.bl (decide (x=y))) H
def rNe:R2:=fun x y H Q=>zmf x y=true/\Q (.bl (!decide (x=y))) H
theorem ze6{i j:Int}:decide (V.int i=V.int j)=(i==j):=by
 rw[Bool.eq_iff_iff];simp
theorem ziq:decide (V.bl i=V.bl j)=(i==j):=by
 rw[Bool.eq_iff_iff];simp
theorem ze5:decide (V.str i=V.str j)=(i==j):=by
 rw[Bool.eq_iff_iff];simp
theorem ze7:decide (V.byt i=V.byt j)=(i.toList==j.toList):=by
 rw[Bool.eq_iff_iff];cases i;cases j;simp
theorem yl{Q:VK}(I:Inv X pins σ H s)(q:Q (.bl k) H)(e:k=k'):EP X pins σ Q (.bool k') s:=by
 subst e;exact⟨.bl k,H,I,rfl,q⟩
theorem ym:OpR X (compareOp .Eq) rEq:=by
 intro pins s σ H x y v u Q I rx ry h;obtain⟨hs,q⟩:=h;cases x with
 | non=>
  cases rx;cases y with
  | non=>cases ry;exact PySem.EqNone.eq_none_none (yl I q (by simp))
  | bl j=>cases ry;exact PySem.EqNone.eq_none_bool (yl I q (by simp))
  | int j=>obtain⟨t',rfl⟩:=ry;exact PySem.EqNone.eq_none_int (yl I q (by simp))
  | str j=>obtain⟨t',rfl⟩:=ry;exact PySem.EqNone.eq_none_str (yl I q (by simp))
  | _=>exact absurd (show false=true from hs) zft
 | bl i=>
  cases rx;cases y with
  | non=>cases ry;exact PySem.EqNone.eq_bool_none (yl I q (by simp))
  | bl j=>cases ry;exact eq_bool (yl I q ziq)
  | str j=>obtain⟨t',rfl⟩:=ry;exact PySem.EqMixed.eq_bool_str (yl I q (by simp))
  | _=>exact absurd (show false=true from hs) zft
 | int i=>
  obtain⟨t,rfl⟩:=rx;cases y with
  | non=>cases ry;exact PySem.EqNone.eq_int_none (yl I q (by simp))
  | int j=>obtain⟨t',rfl⟩:=ry;exact eq_int (yl I q ze6)
  | str j=>obtain⟨t',rfl⟩:=ry;exact PySem.EqMixed.eq_int_str (yl I q (by simp))
  | _=>exact absurd (show false=true from hs) zft
 | str i=>
  obtain⟨t,rfl⟩:=rx;cases y with
  | non=>cases ry;exact PySem.EqNone.eq_str_none (yl I q (by simp))
  | bl j=>cases ry;exact PySem.EqMixed.eq_str_bool (yl I q (by simp))
  | int j=>obtain⟨t',rfl⟩:=ry;exact PySem.EqMixed.eq_str_int (yl I q (by simp))
  | str j=>obtain⟨t',rfl⟩:=ry;exact eq_str (yl I q ze5)
  | _=>exact absurd (show false=true from hs) zft
 | byt i=>
  obtain⟨t,rfl⟩:=rx;cases y with
  | byt j=>obtain⟨t',rfl⟩:=ry;exact PySem.W.eq_bytes (yl I q ze7)
  | _=>exact absurd (show false=true from hs) zft
 | _=>cases y <;> exact absurd (show false=true from hs) zft
theorem qK:OpR X (compareOp .NotEq) rNe:=by
 intro pins s σ H x y v u Q I rx ry h;obtain⟨hs,q⟩:=h;cases x with
 | non=>
  cases rx;cases y with
  | non=>cases ry;exact PySem.EqNone.ne_none_none (yl I q (by simp))
  | bl j=>cases ry;exact PySem.EqNone.ne_none_bool (yl I q (by simp))
  | int j=>obtain⟨t',rfl⟩:=ry;exact PySem.EqNone.ne_none_int (yl I q (by simp))
  | str j=>obtain⟨t',rfl⟩:=ry;exact PySem.EqNone.ne_none_str (yl I q (by simp))
  | _=>exact absurd (show false=true from hs) zft
 | bl i=>
  cases rx;cases y with
  | non=>cases ry;exact PySem.EqNone.ne_bool_none (yl I q (by simp))
  | bl j=>cases ry;exact ne_bool (yl I q (congrArg not ziq))
  | str j=>obtain⟨t',rfl⟩:=ry;exact PySem.EqMixed.ne_bool_str (yl I q (by simp))
  | _=>exact absurd (show false=true from hs) zft
 | int i=>
  obtain⟨t,rfl⟩:=rx;cases y with
  | non=>cases ry;exact PySem.EqNone.ne_int_none (yl I q (by simp))
  | int j=>obtain⟨t',rfl⟩:=ry;exact ne_int (yl I q (congrArg not ze6))
  | str j=>obtain⟨t',rfl⟩:=ry;exact PySem.EqMixed.ne_int_str (yl I q (by simp))
  | _=>exact absurd (show false=true from hs) zft
 | str i=>
  obtain⟨t,rfl⟩:=rx;cases y with
  | non=>cases ry;exact PySem.EqNone.ne_str_none (yl I q (by simp))
  | bl j=>cases ry;exact PySem.EqMixed.ne_str_bool (yl I q (by simp))
  | int j=>obtain⟨t',rfl⟩:=ry;exact PySem.EqMixed.ne_str_int (yl I q (by simp))
  | str j=>obtain⟨t',rfl⟩:=ry;exact ne_str (yl I q (congrArg not ze5))
  | _=>exact absurd (show false=true from hs) zft
 | byt i=>
  obtain⟨t,rfl⟩:=rx;cases y with
  | byt j=>obtain⟨t',rfl⟩:=ry;exact PySem.W.ne_bytes (yl I q (congrArg not ze7))
  | _=>exact absurd (show false=true from hs) zft
 | _=>cases y <;> exact absurd (show false=true from hs) zft
theorem vL:OpR X (compareOp .Lt) (rI0 fun i j=>.bl (decide (i<j))):=zll fun _ _ _ _ _ _ _ q=>lt_int q
theorem zeJ:OpR X (compareOp .LtE) (rI0 fun i j=>.bl (decide (i<=j))):=zll fun _ _ _ _ _ _ _ q=>le_int q
theorem zeK:OpR X (compareOp .Gt) (rI0 fun i j=>.bl (decide (j<i))):=zll fun _ _ _ _ _ _ _ q=>gt_int q
theorem zfz:OpR X (compareOp .In) (fun x y H Q=>∃i j,x=.str i/\y=.str j/\Q (.bl (!(Builtin.Str.occurrences j i 0 j.length 1).isEmpty)) H):=by
 intro pins s σ H x y v u Q I rx ry h;obtain⟨i,j,rfl,rfl,q⟩:=h;obtain⟨t,rfl⟩:=rx;obtain⟨t',rfl⟩:=ry;exact in_str (yl I q rfl)
theorem OpR.or{f:Value->Value->Sem Value}{r r':R2}(h:OpR X f r)(h':OpR X f r'):OpR X f (fun x y H Q=>r x y H Q\/r' x y H Q):=by
 intro pins s σ H x y v u Q I rx ry q;rcases q with q|q
 ·exact h pins s σ H x y v u Q I rx ry q
 ·exact h' pins s σ H x y v u Q I rx ry q
theorem zF(b:Expr)(h:op≠.In:=by decide)(h2:op≠.NotIn:=by decide):behindInMarks op b=false:=by
 have e1:(op==CmpOp.In)=false:=by cases op <;> first|rfl|exact absurd rfl h
 have e2:(op==CmpOp.NotIn)=false:=by cases op <;> first|rfl|exact absurd rfl h2
 cases b <;> simp [behindInMarks,e1,e2]
theorem xB{r:R2}(ho:OpR X (compareOp op) r)(ha:PE X a ta)(hb:PE X b tb)(hm:behindInMarks op b=false):PE X (.Compare a [op] [b] pos) (tOp r ta tb):=by
 and_intros;exact wpAny_Compare1 (zlO ha hb I h fun v u s2 x y H2 I2 rx ry q=>ho pins s2 σ H2 x y v u Q I2 rx ry q) hm
inductive zm1(x:V)(H:Hp)(Q:Bool->Hp->Prop):Prop where
 | mk (k:Bool) (e:x=.bl k) (q:Q k H)
def zaB(t:TE):TT:=fun σ H Q=>t σ H fun x H'=>zm1 x H' Q
theorem zm{r:R2}(ho:OpR X (compareOp op) r)(ha:PE X a ta)(hb:PE X b tb)(hm:behindInMarks op b=false):PT X (.Compare a [op] [b] pos) (zaB (tOp r ta tb)):=by
 and_intros;refine wpAny_isTrue_Compare1 (thn (ha pins s σ H _ I h) fun v s1 ⟨x,H1,I1,r1,q1⟩=>thn (hb pins s1 σ H1 _ I1 q1) fun u s2 ⟨y,H2,I2,r2,q2⟩=>
  thn (ho pins s2 σ H2 x y v u _ I2 r1 r2 q2) fun c s3 ⟨z,H3,I3,r3,k,e,q3⟩=>?_) hm
 subst e;cases r3;exact wpAny_truthy_bool ⟨H3,I3,q3⟩
def zkF(r r':R2)(ta tb tc:TE):TE:=fun σ H Q=>ta σ H fun x H1=>tb σ H1 fun y H2=>r x y H2 fun z H3=>∃k,z=.bl k/\
 (if k=true then tc σ H3 fun w' H4=>r' y w' H4 Q else Q (.bl false) H3)
theorem zhc{r r':R2}(ho:OpR X (compareOp op) r)(ho':OpR X (compareOp op') r')(ha:PE X a ta)(hb:PE X b tb)(hc:PE X c tc)
  (hm:lastMarks [op,op'] [b,c]=false:=by with_unfolding_all rfl):PT X (.Compare a [op,op'] [b,c] pos) (zaB (zkF r r' ta tb tc)):=by
 and_intros;refine isTrue_chain (thn (ha pins s σ H _ I h) fun v s1 ⟨x,H1,I1,r1,q1⟩=>test_link (thn (hb pins s1 σ H1 _ I1 q1) fun u s2 ⟨y,H2,I2,r2,q2⟩=>
  thn (ho pins s2 σ H2 x y v u _ I2 r1 r2 q2) fun d s3 ⟨z,H3,I3,r3,k,e,q3⟩=>?_)) hm
 subst e;cases r3;refine wpAny_truthy_bool ?_;cases k with
 | false=>
  obtain⟨k',e',q'⟩:=q3;cases e';exact ite_ff ⟨H3,I3,q'⟩
 | true=>
  refine ite_tt (test_last (thn (hc pins s3 σ H3 _ I3 q3) fun w' s4 ⟨z',H4,I4,r4,q4⟩=>thn (ho' pins s4 σ H4 y z' u w' _ I4 r2 r4 q4) fun d' s5 ⟨z2,H5,I5,r5,k2,e2,q5⟩=>?_));subst e2;cases r5;exact wpAny_truthy_bool ⟨H5,I5,q5⟩
def zmY(K:Frag)(x:V)(H:Hp)(k:Bool):Prop:=
 match x with
 | .non=>k=false
 | .bl b=>k=b
 | .int i=>k=(i != 0)
 | .str y=>y.length<=sizeLine/\k=((y.length:Int) != 0)
 | .byt y=>y.size<=sizeLine/\k=((y.size:Int) != 0)
 | .ref p=>(∃xs,SqL K H p xs/\k=!xs.isEmpty)\/(∃xs,SqT K H p xs/\k=!xs.isEmpty)\/∃kvs,H p=some (.dK kvs)/\k=!kvs.isEmpty
 | _=>False
theorem zdU{κ : Type}{kvs:List (κ×V)}{vs:List (κ×Value)}(r:KV kvs vs):(!vs.isEmpty)=!kvs.isEmpty:=by
 cases r <;> rfl
theorem qW(r:zV xs its):(!its.toArray.isEmpty)=!xs.isEmpty:=by
 cases r <;> simp
theorem uC:(sizeLine:Nat)<2 ^ 63:=by rw[sizeLine_eq];decide
theorem zkz:znY X (fun x H Q=>∃k,zmY X.K x H k/\Q k H):=by
 intro pins s σ H x v Q I rx h;obtain⟨k,e,q⟩:=h;have hl:=uC;have hs:sizeLine=16777216:=sizeLine_eq;cases x with
 | non=>
  cases rx;have e':k=false:=e;subst e';exact truthy_none ⟨H,I,q⟩
 | bl b=>
  cases rx;have e':k=b:=e;subst e';exact wpAny_truthy_bool ⟨H,I,q⟩
 | int i=>
  obtain⟨t,rfl⟩:=rx;have e':k=(i != 0):=e;subst e';exact PySem.P.truthy_int ⟨H,I,q⟩
 | str y=>
  obtain⟨t,rfl⟩:=rx;obtain⟨hy,e'⟩:y.length<=sizeLine/\k=((y.length:Int) != 0):=e;subst e';exact PySem.P.truthy_str ∅ ⟨H,I.tok _,q⟩
 | byt y=>
  obtain⟨t,rfl⟩:=rx;obtain⟨hy,e'⟩:y.size<=sizeLine/\k=((y.size:Int) != 0):=e;subst e';exact PySem.W.truthy_bytes ∅ ⟨H,I.tok _,q⟩
 | ref p=>
  cases rx;have e':(∃xs,SqL X.K H p xs/\k=!xs.isEmpty)\/(∃xs,SqT X.K H p xs/\k=!xs.isEmpty)\/∃kvs,H p=some (.dK kvs)/\k=!kvs.isEmpty:=e;rcases e' with ⟨xs,hx,e'⟩|⟨xs,hx,e'⟩|⟨kvs,hx,e'⟩
  ·subst e'
   obtain⟨its,r,pl,hz⟩:=I.list hx;have hlen:=r.length;exact wpAny_truthy_list pl.isList (by simp only[size_toArray];omega) ⟨H,I.tok _,by rw[qW r];exact q⟩
  ·subst e'
   obtain⟨its,r,pl,hz⟩:=I.tuple hx;have hlen:=r.length;exact truthy_tuple pl (by simp only[size_toArray];omega) ⟨H,I.tok _,by rw[qW r];exact q⟩
  ·subst e'
   obtain⟨hz,hS,vs,r,m⟩:kvs.length<=sizeLine/\(p==sysModules)=false/\∃vs,KV kvs vs/\s.heap.DictOf (yx X.prog X.w) p vs:=I.hok p _ hx;have hlen:kvs.length=vs.length:=Paired.length r;exact wpAny_truthy_dict hS m ∅ ⟨H,I.tok _,by rw[zdU r];exact q⟩
 | _=>exact(show False from e).elim
theorem zhb(ha:PE X a ta)(he:∀whole,isTrue a X.env whole=(do let v <- whole;standAt a.pos;holding [v] (truthy v))):
  PT X a (fun σ H Q=>ta σ H fun x H'=>∃k,zmY X.K x H' k/\Q k H'):=by
 and_intros;exact isTrue_plain (thn (ha pins s σ H _ I h) fun v s1 ⟨x,H1,I1,r1,q1⟩=>zkz pins s1 σ H1 x v Q I1 r1 q1) (he _)
theorem xE:OpR X (binaryOp .Add) (fun x y H Q=>∃i j,x=.str i/\y=.str j/\i.length+j.length<=sizeLine/\Q (.str (i++j)) H):=by
 intro pins s σ H x y v u Q I rx ry h;obtain⟨i,j,rfl,rfl,hz,q⟩:=h;obtain⟨t,rfl⟩:=rx;obtain⟨t',rfl⟩:=ry;exact add_str (fun t' tk=>⟨.str (i++j),H,I.tok _,⟨_,rfl⟩,q⟩) hz
theorem wt(r:zV [x] us):∃u,us=[u]/\z5 x u:=by
 cases r with
 | cons r1 r2=>cases r2;exact⟨_,rfl,r1⟩
theorem zgh(r:zV [x,y] us):∃u w',us=[u,w']/\z5 x u/\z5 y w':=by
 cases r with
 | cons r1 r2=>
  cases r2 with
  | cons r3 r4=>cases r4;exact⟨_,_,rfl,r1,r3⟩
theorem jz(hc:X.calm=true):xq X (.builtin "max") (fun xs H Q=>∃i j,xs=[.int i,.int j]/\Q (.int (if j>i then j else i)) H):=by
 intro pins s σ H xs us Q I r h;obtain⟨i,j,rfl,q⟩:=h;obtain⟨u,w',rfl,⟨t,rfl⟩,⟨t',rfl⟩⟩:=zgh r;refine max_two_ints (I.ok.hd hc) fun h' tk k=>⟨_,H,I.kept k,?_,q⟩;by_cases hj:j>i
 ·rw[aK hj,aK hj];exact⟨_,rfl⟩
 ·rw[aJ hj,aJ hj];exact⟨_,rfl⟩
theorem zgb:xq X (.type "int") (fun xs H Q=>(∃i,xs=[.int i]/\Q (.int i) H)\/∃k,xs=[.bl k]/\Q (.int (if k then 1 else 0)) H):=by
 intro pins s σ H xs us Q I r h;rcases h with ⟨i,rfl,q⟩|⟨k,rfl,q⟩
 ·obtain⟨u,rfl,t,rfl⟩:=wt r
  exact call_int_int ⟨.int i,H,I,⟨_,rfl⟩,q⟩
 ·obtain⟨u,rfl,r1⟩:=wt r
  cases r1;exact call_int_bool ⟨.int (if k then 1 else 0),H,I.tok _,⟨_,rfl⟩,q⟩
theorem jK:xq X (.builtin "divmod") (fun xs H Q=>∃i j,xs=[.int i,.int j]/\zm3 i j/\∀p,H p=none->Q (.ref p) (upd H p (.tup [.int (i / j),.int (i % j)]))):=by
 intro pins s σ H xs us Q I r h;obtain⟨i,j,rfl,⟨h1,h2⟩,q⟩:=h;obtain⟨u,w',rfl,⟨t,rfl⟩,⟨t',rfl⟩⟩:=zgh r;refine divmod_int ∅ ?_ (.inl (PyProof.noPylong_small ∅))
 rw[Int.fdiv_eq_ediv_of_nonneg i ∅,Int.fmod_eq_emod_of_nonneg i ∅]
 have hn:H s.heap.objs.size=none:=I.hok.fresh (aF _);exists .ref s.heap.objs.size,_,?_,rfl,q _ hn;refine I.laid (fun b o e=>zgp _ e) (aF _) ⟨by simp only[length_cons,length_nil];rw[sizeLine_eq];decide,[.int (i / j) s.toks,.int (i % j) (s.toks+1)],.cons ⟨_,rfl⟩ (.cons ⟨_,rfl⟩ .nil),?_⟩
 exact⟨_,zgs s.heap rfl,rfl,0,rfl⟩
structure zec(h:Heap)(x dx C:Addr)(mA:Str->Option Value):Prop where
 obj:h.get? x=some (instObj C dx)
 ns:h.Ns1 dx mA
 ne:dx≠x
theorem zfR{h:Heap}{dx:Addr}{mA:Str->Option Value}(n:h.Ns1 dx mA):∃od,h.get? dx=some od/\∀name,lookIn name od=some (mA name):=by
 obtain⟨o,es,ep,ho,hd,hk,_,hm⟩:=n;exists o,ho,fun name=>?_;have e:=hm name;unfold nsFind findBy at e;rw[<- Array.find?_toList] at e;unfold lookIn;rw[hd];dsimp only;split
 ·rename_i y q
  rw[q] at e;exact congrArg some e
 ·rename_i q
  rw[q] at e;have a:es.toList.any (·.refKey)=false:=by
   rw[List.any_eq_false];intro y hy;obtain⟨z,t,hkey⟩:=hk y (Array.mem_toList_iff.mp hy);simp [DictEntry.refKey,hkey]
  have a':¬es.toList.any (·.refKey)=true:=by rw[a];exact zft
  rw[aJ a'];exact congrArg some e
theorem zec.look{mA:Str->Option Value}(I:zec h x dx C mA):∃od,PySem.W.InstAt h x (instObj C dx) C (some od)/\∀name,lookIn name od=some (mA name):=
 let ⟨od,ho,hl⟩:=zfR I.ns
 ⟨od,⟨I.obj,rfl,rfl,ho⟩,hl⟩
variable {E:VSP}{mA:Str->Option Value}
theorem zjK{prog:Program}{w:World}{A:Around}{s:Shared}{K:Frag}{x dx C:Addr}{name:Str}{v:Value}{expr:Bool}{Q:VSP}(X:K.In s.heap)(I:zec s.heap x dx C mA)(hg:plainGet K C name=true)(hh:hasDictIn K C=true)
  (ha:findIn K (.ref C) name=some none) (hv:mA name=some v) (hv':PySem.W.handedIn v=true) (h:Q v { s with toks:=s.toks+1 }) :
  wpAny (model prog w) A (getAttr (.ref x) name expr) Q E s:=by
 obtain⟨od,J,hl⟩:=I.look;exact PySem.W.get_value X J (plainGet_of hg).1 (PySem.W.findObj_own hh ha rfl (by rw[hl,hv])) hv' h
theorem zib{prog:Program}{w:World}{A:Around}{s:Shared}{K:Frag}{x dx C f:Addr}{name:Str}{pl:Sem Bool}{Q:Value×List Value->Shared->Prop}(X:K.In s.heap)(I:zec s.heap x dx C mA)(hg:plainGet K C name=true)
  (hf:findIn K (.ref C) name=some (~~~f)) (ht:isFn K (.ref f)=true) (hv:mA name=none) (h:Q (.ref f,[.ref x]) s) :
  wpAny (model prog w) A (getMethod (.ref x) name pl) Q E s:=by
 obtain⟨od,J,hl⟩:=I.look;exact PySem.W.method_fn X J (plainGet_of hg).1 (plainGet_of hg).2 hf (beq_iff_eq.mp ht) (by show(lookIn name od).map (·.isSome)=some false;rw[hl,hv];rfl) h
theorem ziN{prog:Program}{w:World}{A:Around}{s:Shared}{K:Frag}{x dx C:Addr}{name:Str}{v:Value}{ns:List Str}{Q:Unit->Shared->Prop}(X:K.In s.heap)(I:zec s.heap x dx C mA)
  (hs:findIn K (.ref C) "__setattr__"=some (some (.builtin "object.__setattr__"))) (hp:plainOver K C=true) (ht:takerIn K C name=some none) (hh:hasDictIn K C=true)
  (hw:PySem.Within mA ns) (hsz:ns.length<=sizeLine)
  (h:∀h',zec h' x dx C (fun y=>if y=name then some v else mA y)->Heap.SameBut dx s.heap h'->Q () { s with heap:=h',toks:=s.toks+2 }) :
  wpAny (model prog w) A (setAttr (.ref x) name v) Q E s:=by
 obtain⟨od,J,hl⟩:=I.look;refine PySem.W.set_plain X J hs (PySem.W.osa_open (s:={ s with toks:=s.toks+1 }) (r:=none) X J hp ht fun b=>?_)
 obtain⟨cd,hc,hd'⟩:=PySem.W.any_some hh;have hx:s.heap.get? x=some ⟨.ref C,some dx,.plain,#[]⟩:=I.obj;refine zwb (zwp (zwb (zwb (wpAny_loadPart hx (zwb (PySem.W.Looks.here (s:={ s with toks:=s.toks+1 }) (PySem.W.looks_clsIn X hc) ?_))))))
 rw[hd'];refine zwp (a:=some dx) (zwb (zwp (zwb ?_)));refine wpAny_nsSet1 (s:={ s with toks:=s.toks+1 }) I.ns fun h' hn2 hs2=>?_
 obtain⟨oD,esD,epD,hoD,hdD,hcD⟩:=hn2.count (PySem.Within.cons name v hw);refine zwb (wpAny_lookBehind hoD (by rw[hdD];exact pastItsLine_dict (Nat.le_trans hcD (by rw[length_cons];omega))) ?_)
 exact zwp (h _ ⟨(hs2.2 _ (Ne.symm I.ne)).trans I.obj,hn2,I.ne⟩ hs2)
theorem zhW{s:Shared}{K:Frag}{f:Addr}{R:Result->Shared->Prop}{vs:List Value}{kw:List (Str×Value)}(X:K.In s.heap)(hm:makesIn K C=true)
  (hi:findIn K (.ref C) "__init__"=some (~~~f)) (hf:PySem.W.typeIn K (.ref f)=some (.type "function"))
  (h:codeAny (model prog w) (A.under (.builtin "type.__call__" ⟨.ref C::vs,kw⟩)) (.call (.ref f) ⟨.ref (s.heap.objs.size+1)::vs,kw⟩) (PySem.W.InitBack (s.heap.objs.size+1) R)
   { s with heap:=(s.heap.push emptyDict).push (instObj C s.heap.objs.size) }) :
  codeAny (model prog w) A (.call (.ref C) ⟨vs,kw⟩) R s:=by
 obtain⟨hh,g,d,t,os⟩:=s;exact PySem.W.make_core (PySem.W.makes_of X hm) (PySem.W.looks_findIn X hi) (fun self=>PySem.W.bind_fn X self hf) (.inl rfl) h
def yf(f:Str)(v:V):List (Str×V)->List (Str×V)
 | []=>[(f,v)]
 | (g,x)::r=>if g=f then (g,v)::r else (g,x)::yf f v r
theorem zw(f g:Str)(v:V):∀fs:List (Str×V),(yf f v fs).lookup g=if g=f then some v else fs.lookup g
 | []=>by
  show List.lookup g [(f,v)]=_;by_cases h:g=f
  ·have hb:(g==f)=true:=beq_iff_eq.mpr h
   simp only[List.lookup,hb,aK h]
  ·have hb:(g==f)=false:=beq_eq_false_iff_ne.mpr h
   simp only[List.lookup,hb,aJ h]
 | (k,x)::r=>by
  have ih:=zw f g v r;rw[show yf f v ((k,x)::r)=(if k=f then (k,v)::r else (k,x)::yf f v r) from rfl]
  by_cases hk:k=f
  ·rw[aK hk]
   by_cases h:g=k
   ·have hb:(g==k)=true:=beq_iff_eq.mpr h
    simp only[List.lookup,hb,aK (h.trans hk)]
   ·have hb:(g==k)=false:=beq_eq_false_iff_ne.mpr h
    simp only[List.lookup,hb,aJ (fun e:g=f=>h (e.trans hk.symm))]
  ·rw[aJ hk]
   by_cases h:g=k
   ·have hb:(g==k)=true:=beq_iff_eq.mpr h
    simp only[List.lookup,hb,aJ (fun e:g=f=>hk (h.symm.trans e))]
   ·have hb:(g==k)=false:=beq_eq_false_iff_ne.mpr h
    simp only[List.lookup,hb];exact ih
theorem jv(f:Str)(v:V):∀fs:List (Str×V),f∈(yf f v fs).map (·.1)/\∀g,g∈fs.map (·.1)->g∈(yf f v fs).map (·.1)
 | []=>⟨by simp [yf],fun g h=>by simp at h⟩
 | (k,x)::r=>by
  obtain⟨i1,i2⟩:=jv f v r;rw[show yf f v ((k,x)::r)=(if k=f then (k,v)::r else (k,x)::yf f v r) from rfl]
  by_cases hk:k=f
  ·rw[aK hk]
   subst hk;exact⟨by simp,fun g h=>by simpa using h⟩
  ·rw[aJ hk]
   exists ?_,fun g h=>?_
   ·rw[map_cons]
    exact mem_cons_of_mem _ i1
   ·rw[map_cons] at h |-
    rcases List.mem_cons.mp h with e|e
    ·exact List.mem_cons.mpr (.inl e)
    ·exact mem_cons_of_mem _ (i2 g e)
theorem jF(f:Str)(v:V):∀fs:List (Str×V),(yf f v fs).length<=fs.length+1
 | []=>by simp [yf]
 | (k,x)::r=>by
  have ih:=jF f v r;rw[show yf f v ((k,x)::r)=(if k=f then (k,v)::r else (k,x)::yf f v r) from rfl]
  by_cases hk:k=f
  ·rw[aK hk,length_cons,length_cons];omega
  ·rw[aJ hk,length_cons,length_cons];omega
theorem vD(r:jh (some v) o):∃u,o=some u/\z5 v u:=by
 cases o with
 | none=>exact(show False from r).elim
 | some u=>exact⟨u,rfl,r⟩
theorem jh.none_of(r:jh none o):o=none:=by
 cases o with
 | none=>rfl
 | some u=>exact(show False from r).elim
theorem zf0(r:z5 v u):PySem.W.handedIn u=true:=by
 cases v with
 | non=>cases (show u=Value.none from r);rfl
 | bl b=>cases (show u=Value.bool b from r);rfl
 | int i=>obtain⟨t,e⟩:=(show ∃t,u=Value.int i t from r);cases e;rfl
 | str x=>obtain⟨t,e⟩:=(show ∃t,u=Value.str x t from r);cases e;rfl
 | byt b=>obtain⟨t,e⟩:=(show ∃t,u=Value.bytes b t from r);cases e;rfl
 | flt b=>obtain⟨t,e⟩:=(show ∃t,u=Value.float b t from r);cases e;rfl
 | ref a=>cases (show u=Value.ref a from r);rfl
 | ty n=>cases (show u=Value.type n from r);rfl
end
section
variable {P:Program}{w:World}{H H':Hp}{a C dx:Addr}{fs fs':List (Str×V)}
theorem j4(hok:HOk P w H h)(e:H a=some (.ins C dx fs)):∃mA,zec h a dx C mA/\(∀f,jh (fs.lookup f) (mA f))/\PySem.Within mA (fs.map (·.1))/\fs.length<=1000/\H dx=some (.own a):=by
 obtain⟨d,z,ne,ob,mA,n,r,q⟩:=(show yT P w H h a (.ins C dx fs) from hok a _ e);exact⟨mA,⟨ob,n,ne⟩,r,q,z,d⟩
structure Cls(K:Frag)(C:Addr):Prop where
 pg:plainGet K C Str.empty=true
 hd:hasDictIn K C=true
 po:plainOver K C=true
 sa:findIn K (.ref C) "__setattr__"=some (some (.builtin "object.__setattr__"))
theorem Cls.get{K:Frag}{C:Addr}(c:Cls K C)(f:Str):plainGet K C f=true:=c.pg
def xF(K:Frag)(C:Addr)(f:Str):Prop:=findIn K (.ref C) f=some none
theorem xF.taker{K:Frag}{C:Addr}{f:Str}(n:xF K C f):takerIn K C f=some none:=by
 unfold takerIn;rw[show findIn K (.ref C) f=some none from n];rfl
structure xv(K:Frag)(C:Addr)(m:Str)(f:Addr):Prop where
 at_:findIn K (.ref C) m=some (~~~f)
 fn:isFn K (.ref f)=true
 kp:keepIn K (.ref f)=true
variable {σ:St}{s:Shared}{f:Str}{v:V}{A:Around}{E:VSP}
theorem zdX{Q:VSP}(I:Inv X pins σ H s)(e:H a=some (.ins C dx fs))(c:Cls X.K C)(n:xF X.K C f)(l:fs.lookup f=some v)
  (h:∀u s',Inv X pins σ H s'->z5 v u->Q u s'):wpAny (model X.prog X.w) A (getAttr (.ref a) f b) Q E s:=by
 obtain⟨mA,O,r,_,_,_⟩:=j4 I.hok e;obtain⟨u,hu,ru⟩:=vD (v:=v) (o:=mA f) (by rw[<- l];exact r f)
 exact zjK I.kIn O (c.get f) c.hd n hu (zf0 ru) (h u _ (I.tok _) ru)
theorem uE{Q:Value×List Value->Shared->Prop}(I:Inv X pins σ H s)(e:H a=some (.ins C dx fs))(c:Cls X.K C)(k:xv X.K C m g)(l:fs.lookup m=none)
  (h:Q (.ref g,[.ref a]) s):wpAny (model X.prog X.w) A (getMethod (.ref a) m pl) Q E s:=by
 obtain⟨mA,O,r,_,_,_⟩:=j4 I.hok e;have hn:mA m=none:=jh.none_of (by rw[<- l];exact r m)
 exact zib I.kIn O (c.get m) k.at_ k.fn hn h
theorem zdb{Q:Unit->Shared->Prop}(I:Inv X pins σ H s)(e:H a=some (.ins C dx fs))(c:Cls X.K C)(n:xF X.K C f)(hl:fs.length<1000)(ry:z5 y u)
  (h:∀s',Inv X pins σ (upd H a (.ins C dx (yf f y fs))) s'->Q () s'):wpAny (model X.prog X.w) A (setAttr (.ref a) f u) Q E s:=by
 obtain⟨mA,O,r,wi,_,ho⟩:=j4 I.hok e;have hz:(fs.map (·.1)).length<=sizeLine:=by rw[aA,sizeLine_eq];omega
 refine ziN I.kIn O c.sa c.po n.taker c.hd wi hz fun h' O' sb=>h _ ?_;have hd:∃o,h'.get? dx=some o:=let ⟨o,_,_,e',_⟩:=O'.ns;⟨o,e'⟩;refine I.write (x:=a) (e:=dx) (by rw[e];exact True.intro) (.inr ho) (fun b q hb z=>(sb.2 b hb).trans z) hd ?_
 exists by rw[zi O.ne];exact ho,?_,O.ne,O'.obj,_,O'.ns,fun g=>?_,fun g hg=>?_
 ·have:=jF f y fs;omega
 ·show jh ((yf f y fs).lookup g) (if g=f then some u else mA g)
  rw[zw];by_cases q:g=f
  ·rw[aK q,aK q];exact ry
  ·rw[aJ q,aJ q];exact r g
 ·by_cases q:g=f
  ·rw[q];exact(jv f y fs).1
  ·refine(jv f y fs).2 g (wi g fun z=>hg ?_)
   show(if g=f then some u else mA g)=none
   rw[aJ q];exact z
theorem Inv.made(I:Inv X pins σ H s):Inv X pins σ (upd (upd H s.heap.objs.size (.own (s.heap.objs.size+1))) (s.heap.objs.size+1) (.ins C s.heap.objs.size []))
  { s with heap:=(s.heap.push emptyDict).push (instObj C s.heap.objs.size) }:=by
 have e1:(s.heap.push emptyDict).get? s.heap.objs.size=some emptyDict:=zgs s.heap rfl;have e2:((s.heap.push emptyDict).push (instObj C s.heap.objs.size)).get? (s.heap.objs.size+1)=some (instObj C s.heap.objs.size):=by
  have:=zgs (s.heap.push emptyDict) (o:=instObj C s.heap.objs.size) rfl
  rwa [Heap.size_push] at this
 have e3:(s.heap.push emptyDict).Ns s.heap.objs.size (fun _=>none):=⟨emptyDict,#[],_,e1,rfl,(fun e he=>absurd he (by simp)),fun _=>rfl⟩
 have I1:=I.laid (a:=s.heap.objs.size) (o:=.own (s.heap.objs.size+1)) (h':=s.heap.push emptyDict) (t':=s.toks) (fun b u q=>zgp _ q) (aF _) ⟨_,e1⟩;refine I1.laid (a:=s.heap.objs.size+1) (o:=.ins C s.heap.objs.size []) (t':=s.toks) (fun b u q=>zgp _ q) (Nat.le_of_eq (Heap.size_push _ _)) ?_;have ne:s.heap.objs.size≠s.heap.objs.size+1:=ne_of_lt (lt_succ_self _);exists by rw[zi ne,za],zero_le _,ne,e2,fun _=>none,(Heap.Ns1.of_empty e3).at fun o q=>zgp _ q,fun _=>True.intro,fun y hy=>absurd rfl hy
theorem zjW{Q:VSP}(hb:attributeBase e f env (eval e env)=eval e env)
  (h:wpAny (model prog w) A (eval e env) (fun o s₁=>wpAny (model prog w) A (getAttr o f true) Q E s₁) E s):wpAny (model prog w) A (eval (.Attribute e f pos) env) Q E s:=
 Attribute_any_ h (by rw[arm_eval_Attribute,hb])
inductive zl4J(K:Frag)(f:Str)(Q:VK)(x:V)(H1:Hp):Prop|mk(a C dx fs v:_):x=.ref a->H1 a=some (.ins C dx fs)->Cls K C->xF K C f->fs.lookup f=some v->(Q v H1)->zl4J K f Q x H1
def zl4(K:Frag)(ta:TE)(f:Str):TE:=fun σ H Q=>ta σ H fun x H1=>zl4J K f Q x H1
inductive znjJ(K:Frag)(f:Str)(D:L2.jQ)(σ:St)(y:V)(x:V)(H2:Hp):Prop|mk(a C dx fs:_):x=.ref a->H2 a=some (.ins C dx fs)->Cls K C->xF K C f->fs.length<1000->(D.nx σ (upd H2 a (.ins C dx (yf f y fs))))->znjJ K f D σ y x H2
def znj(K:Frag)(ta tv:TE)(f:Str):TS:=fun D σ H=>tv σ H fun y H1=>ta σ H1 fun x H2=>znjJ K f D σ y x H2
variable {o e value:Expr}{ta tv:TE}
theorem xi(he:PE X e ta)(hb:attributeBase e f X.env (eval e X.env)=eval e X.env):PE X (.Attribute e f pos) (zl4 X.K ta f):=by
 and_intros;refine zjW hb (thn (he pins s σ H _ I h) fun u s1 ⟨x,H1,I1,rx,a,C,dx,fs,v,ex,ea,c,n,l,q⟩=>?_);subst ex;obtain rfl:u=Value.ref a:=rx;exact zdX I1 ea c n l fun u' s2 I2 ru=>⟨v,H1,I2,ru,q⟩
theorem vq(ha:PE X o ta)(hv:PE X value tv)(hs:swapsWith value (some (.Attribute o f pos')) pos.line X.env=pure false):PS X (.Assign [.Attribute o f pos'] value pos) (znj X.K ta tv f):=by
 exists ?_;intro pins s σ H D I h;refine plainObj_wpAny_Assign_Attribute (thn (hv pins s σ H _ I h) fun u s1 ⟨y,H1,I1,ry,q⟩=>thn (ha pins s1 σ H1 _ I1 q) fun ov s2 ⟨x,H2,I2,rx,a,C,dx,fs,ex,ea,c,n,l,q2⟩=>?_) hs;subst ex;obtain rfl:ov=Value.ref a:=rx;exact zdb I2 ea c n l ry fun s3 I3=>⟨σ,_,I3,q2⟩
variable {Q:VSP}{b:Bool}
inductive up(K:Frag)(H:Hp):V->Value->Prop where
 | non:up K H .non (.type "NoneType")
 | bl (x:Bool):up K H (.bl x) (.type "bool")
 | int (i:Int):up K H (.int i) (.type "int")
 | str (x:Str):up K H (.str x) (.type "str")
 | flt (x:UInt64):up K H (.flt x) (.type "float")
 | lst {a:Addr}{xs:List V}(e:H a=some (.lst xs)):up K H (.ref a) (.type "list")
 | frz {a:Addr}{o:Obj}{xs:List V}(e:H a=some (.frz o (.lst xs))):up K H (.ref a) (.type "list")
 | tup {a:Addr}{xs:List V}(e:H a=some (.tup xs)):up K H (.ref a) (.type "tuple")
 | dK {a:Addr}{kvs:List (Key×V)}(e:H a=some (.dK kvs)):up K H (.ref a) (.type "dict")
 | dT {a:Addr}{kvs:List (List Key×V)}(e:H a=some (.dT kvs)):up K H (.ref a) (.type "dict")
 | ins {a C dx:Addr}{fs:List (Str×V)}(e:H a=some (.ins C dx fs)) (cl:Cls K C) (ha:findIn K (.ref C) "__class__"=some (some (.builtin "object.__class__")))
   (hn:PySem.W.specialIn K (.builtin "object.__class__") "__get__"=some (some (.builtin "getset_descriptor.__get__"))) (htk:PySem.W.takesIn K (.builtin "object.__class__")=some true)
   (hm:PySem.W.mroIn K C (.type "object")=some true):up K H (.ref a) (.ref C)
theorem zfX(I:Inv X pins σ H s)(rx:z5 x u)(ty:up X.K H x t)(e:kitOne X.K t c=some b)(h:∀tk,Q (.bool b) { s with toks:=tk }):
  wpAny (model X.prog X.w) A (call (.builtin "isinstance") [u,c]) Q E s:=by
 cases ty with
 | non=>cases (show u=Value.none from rx);exact kia_one PySem.W.kitx_none I.kIn True.intro e (fun z=>nomatch z) h
 | bl y=>cases (show u=Value.bool y from rx);exact kia_one PySem.W.kitx_bool I.kIn True.intro e (fun z=>nomatch z) h
 | int i=>obtain⟨t,q⟩:=(show ∃t,u=Value.int i t from rx);cases q;exact kia_one PySem.W.kitx_int I.kIn True.intro e (fun z=>nomatch z) h
 | str y=>obtain⟨t,q⟩:=(show ∃t,u=Value.str y t from rx);cases q;exact kia_one PySem.W.kitx_str I.kIn True.intro e (fun z=>nomatch z) h
 | flt y=>obtain⟨t,q⟩:=(show ∃t,u=Value.float y t from rx);cases q;exact kia_one PySem.W.kitx_float I.kIn True.intro e (fun z=>nomatch z) h
 | @lst a xs ea=>
  cases (show u=Value.ref a from rx);obtain⟨_,_,n,_,h1⟩:=(show yT X.prog X.w H s.heap a (.lst xs) from I.hok a _ ea);exact kia_one PySem.W.kitx_list I.kIn ⟨_,h1,rfl⟩ e (fun z=>nomatch z) h
 | @frz a ob xs ea=>
  cases (show u=Value.ref a from rx);obtain⟨_,_,_,n,_,h1⟩:=(show yT X.prog X.w H s.heap a (.frz ob (.lst xs)) from I.hok a _ ea);exact kia_one PySem.W.kitx_list I.kIn ⟨_,h1,rfl⟩ e (fun z=>nomatch z) h
 | @tup a xs ea=>
  cases (show u=Value.ref a from rx);obtain⟨_,_,_,p⟩:=(show yT X.prog X.w H s.heap a (.tup xs) from I.hok a _ ea);obtain⟨o,h1,h2,_⟩:=p;exact kia_one PySem.W.kitx_tuple I.kIn ⟨o,h1,h2⟩ e (fun z=>nomatch z) h
 | @dK a kvs ea=>
  cases (show u=Value.ref a from rx);obtain⟨_,_,vs,_,p⟩:=(show yT X.prog X.w H s.heap a (.dK kvs) from I.hok a _ ea);obtain⟨o,es,ep,h1,h2,_⟩:=p;exact kia_one PySem.W.kitx_dict I.kIn ⟨o,h1,h2.1⟩ e (fun z=>nomatch z) h
 | @dT a kvs ea=>
  cases (show u=Value.ref a from rx);obtain⟨_,_,xs,_,o,es,ep,h1,h2,_⟩:=(show yT X.prog X.w H s.heap a (.dT kvs) from I.hok a _ ea);exact kia_one PySem.W.kitx_dict I.kIn ⟨o,h1,h2.1⟩ e (fun z=>nomatch z) h
 | @ins a C dx fs ea cl ha hn htk hm=>
  cases (show u=Value.ref a from rx);obtain⟨mA,O,_⟩:=j4 I.hok ea;obtain⟨od,J,_⟩:=O.look;exact kia_one (PySem.W.kitx_own (cl.get _) cl.hd ha hn htk hm) I.kIn J e (fun z=>nomatch z) h
structure yk(k:Nat)(A:Around):Prop where
 hd:A.handled=none
 dp:A.depth+3 * k+5<recursionLimit
 un:A.units+16 * k+200<cLine
 gd:A.guards=some []
theorem yk.mono{j k:Nat}(r:yk k A)(h:j<=k):yk j A:=⟨r.hd,by have:=r.dp;omega,by have:=r.un;omega,r.gd⟩
theorem yk.deeper{k:Nat}(r:yk (k+1) A)(env:Env):yk k (A.deeper env):=
 ⟨r.hd,by have:=r.dp;show A.depth+1+3 * k+5<_;omega,by have:=r.un;show A.units+3+16 * k+200<_;omega,r.gd⟩
theorem yk.in1{k:Nat}(r:yk (k+1) A):yk k A.in1:=
 ⟨r.hd,by have:=r.dp;show A.depth+3 * k+5<_;omega,by have:=r.un;show A.units+1+16 * k+200<_;omega,r.gd⟩
theorem zdL:(A.under (.builtin "type.__call__" ⟨.ref C::us,kw⟩)).depth=A.depth+1:=by
 first|rfl|simp [Around.under,Code.weight,Code.isCreation,Code.isGuard,Code.isCaller,Code.frames,Code.isFrame,guardIds]
theorem zdK:(A.under (.builtin "type.__call__" ⟨.ref C::us,kw⟩)).units=A.units+1:=by
 first|rfl|simp [Around.under,Code.cUnits,Code.frames,Code.isFrame]
theorem yk.make{k:Nat}(r:yk (k+1) A)(C:Addr)(us:List Value)(kw:List (Str×Value)):yk k (A.under (.builtin "type.__call__" ⟨.ref C::us,kw⟩)):=
 ⟨r.hd,by have:=r.dp;rw[zdL];omega,by have:=r.un;rw[zdK];omega,r.gd⟩
theorem yk.depth{k:Nat}(r:yk k A):A.depth<recursionLimit:=by have:=r.dp;omega
theorem yk.units{k:Nat}(r:yk k A):A.units+64<cLine:=by have:=r.un;omega
theorem yk.units0{k:Nat}(r:yk k A):A.units<cLine:=by have:=r.un;omega
def ziG:TA:=fun _ H Q=>Q [] H
def zej(ta:TE)(tr:TA):TA:=fun σ H Q=>ta σ H fun x H1=>tr σ H1 fun xs H2=>Q (x::xs) H2
variable {te:TE}{t:TA}
theorem zc:PA X [] ziG:=⟨fun _ _ _ _ H Q I h=>Calls.spliced_nil ⟨[],H,I,.nil,h⟩⟩
theorem zjh(ha:PE X e te)(hr:PA X es t)(hs:starEach (e::es) X.env=(false,eval e X.env)::starEach es X.env:=by rfl):PA X (e::es) (zej te t):=by
 exists ?_;intro pos pins s σ H Q I h;rw[hs];show wpAny _ _ (spliced ((false,eval e X.env)::backTo pos (starEach es X.env))) _ _ s;refine Calls.spliced_cons (thn (ha pins s σ H _ I h) fun u s1 ⟨x,H1,I1,r1,q1⟩=>?_);exact thn (hr pos pins s1 σ H1 _ I1 q1) fun us s2 ⟨xs,H2,I2,r2,q2⟩=>⟨x::xs,H2,I2,.cons r1 r2,q2⟩
def zm7(t:TA):TE:=fun σ H Q=>t σ H fun xs H1=>xs.length<=sizeLine/\∀p,H1 p=none->Q (.ref p) (upd H1 p (.tup xs))
def zl3(t:TA):TE:=fun σ H Q=>t σ H fun xs H1=>xs.length<=sizeLine/\∀p,H1 p=none->Q (.ref p) (upd H1 p (.lst xs))
theorem z7{x1}(h:PA X es t):PE X (.Tuple es x1 pos) (zm7 t):=by
 exists ?_;intro pins s σ H Q I hq;refine wpAny_Tuple_spliced (thn (h pos pins s σ H _ I hq) fun us s1 ⟨xs,H1,I1,r,z,q⟩=>⟨by rw[<- r.length];exact z,?_⟩)
 have hf:H1 s1.heap.objs.size=none:=I1.hok.fresh (aF _);exists .ref s1.heap.objs.size,upd H1 s1.heap.objs.size (.tup xs),I1.laid (t':=s1.toks) (fun b u e=>zgp _ e) (aF _) ?_,rfl,q _ hf;exact⟨z,us,r,⟨_,zgs _ rfl,rfl,_,rfl⟩⟩
theorem zT(h:PA X es t):PE X (.List es pos) (zl3 t):=by
 exists ?_;intro pins s σ H Q I hq;refine wpAny_List_spliced (thn (h pos pins s σ H _ I hq) fun us s1 ⟨xs,H1,I1,r,z,q⟩=>⟨by rw[<- r.length];exact z,?_⟩)
 have hf:H1 s1.heap.objs.size=none:=I1.hok.fresh (aF _);exists .ref s1.heap.objs.size,upd H1 s1.heap.objs.size (.lst xs),I1.laid (t':=s1.toks) (fun b u e=>zgp _ e) (aF _) ?_,rfl,q _ hf;exact⟨z,us,0,r,zgs _ rfl⟩
abbrev Sp:=List V->Hp->VK->XK->Prop
abbrev CXT:=List Env->Hp->Shared->XK->Value->Shared->Prop
structure zav(P:Program)(w:World)(K:Frag)(mg:Str->Option Value)(base:Heap)(A:Around)(outer:List Env)(s:Shared)(H:Hp):Prop where
 frames:A.frames=some outer
 mod:Mod K mg base
 bs:∀b o,base.get? b=some o->s.heap.get? b=some o/\H b=none
 bsz:base.objs.size<=s.heap.objs.size
 funs:s.heap.FunFrames base outer
 frf:∀b∈frs outer,H b=none
 hok:HOk P w H s.heap
 bare:AllBare s.gens
def CE(outer:List Env)(P:Program)(w:World)(H:Hp)(s:Shared)(Q:VK)(u:Value)(s':Shared):Prop:=
 ∃v H',s'.os=s.os/\AllBare s'.gens/\Un (frs outer) [] H H' s.heap s'.heap/\HOk P w H' s'.heap/\z5 v u/\Q v H'
def CR(CX:CXT)(outer:List Env)(P:Program)(w:World)(H:Hp)(s:Shared)(Q:VK)(E:XK)(r:Result)(s':Shared):Prop:=
 match r with
 | .ok (.ret u)=>CE outer P w H s Q u s'
 | .ok _=>False
 | .error e=>CX outer H s E e s'
structure zL(P:Program)(w:World)(K:Frag)(mg:Str->Option Value)(base:Heap)(CX:CXT)(k:Nat)(f:Addr)(fd:FuncData)(ps:List Str)(sp:Sp):Prop where
 len:∀vs H Q E,sp vs H Q E->vs.length=ps.length
 run:∀(A:Around) (outer:List Env) (s:Shared) (H:Hp) (args:Args) (us:List Value) (vs:List V) (Q:VK) (E:XK),yk k A->zav P w K mg base A outer s H->BindsTo s fd args (ps.zip us)->zV vs us->sp vs H Q E->
  codeAny (model P w) A (.call (.ref f) args) (CR CX outer P w H s Q E) s
theorem zav.make{P:Program}{w:World}{K:Frag}{mg:Str->Option Value}{base:Heap}{A:Around}{outer:List Env}{s:Shared}{H:Hp}(e:zav P w K mg base A outer s H)(C:Addr)(us:List Value)(kw:List (Str×Value)):
  zav P w K mg base (A.under (.builtin "type.__call__" ⟨.ref C::us,kw⟩)) outer s H:=⟨by first|exact e.frames|(simpa [Around.under,Code.envs,Code.isFrame,pushEnvs] using e.frames),e.mod,e.bs,e.bsz,e.funs,e.frf,e.hok,e.bare⟩
theorem zav.in1{P:Program}{w:World}{K:Frag}{mg:Str->Option Value}{base:Heap}{A:Around}{outer:List Env}{s:Shared}{H:Hp}(e:zav P w K mg base A outer s H):
  zav P w K mg base A.in1 outer s H:=⟨e.frames,e.mod,e.bs,e.bsz,e.funs,e.frf,e.hok,e.bare⟩
theorem Inv.env0(I:Inv X pins σ H s):zav X.prog X.w X.K X.mg X.base X.A X.stack s H:=
 ⟨I.ok.frames,I.ok.mod,I.bs,Nat.le_trans I.ok.bsz I.sz,I.stack,I.stkFree,I.hok,I.bare⟩
theorem Inv.after{Q:VK}(I:Inv X pins σ H s)(h:CE X.stack X.prog X.w H s Q u s'):EP X pins σ Q u s':=by
 obtain⟨v,H',os,bare,un,hok,r,q⟩:=h;obtain⟨hh,g,d,t,os'⟩:=s';obtain rfl:os'=s.os:=os;exact⟨v,H',I.call (h':=hh) (g':=g) (d':=d) (t':=t) (ch:=[]) un hok bare (fun b z=>absurd z (by simp)),r,q⟩
def zgo(sp:Sp)(dvs:List V)(E:XK)(t:TA):TE:=fun σ H Q=>t σ H fun vs H1=>sp (vs++dvs) H1 Q E
inductive zj6J(C:Addr)(m:Str)(sp:Sp)(dvs:List V)(E:XK)(t:TA)(σ:St)(Q:VK)(x:V)(H1:Hp):Prop|mk(a dx fs:_):x=.ref a->H1 a=some (.ins C dx fs)->fs.lookup m=none->(t σ H1 fun vs H2=>sp (x::(vs++dvs)) H2 Q E)->zj6J C m sp dvs E t σ Q x H1
def zj6(C:Addr)(m:Str)(sp:Sp)(dvs:List V)(E:XK)(ta:TE)(t:TA):TE:=fun σ H Q=>ta σ H fun x H1=>zj6J C m sp dvs E t σ Q x H1
def zj7(C:Addr)(sp:Sp)(dvs:List V)(E:XK)(t:TA):TE:=fun σ H Q=>t σ H fun vs H1=>∀x dx,H1 x=none->H1 dx=none->dx≠x->
 sp (.ref x::(vs++dvs)) (upd (upd H1 dx (.own x)) x (.ins C dx [])) (fun v H2=>v=.non/\Q (.ref x) H2) E
def yc(K:Frag)(fd:FuncData)(ps:List Str)(ds:List Value):Prop:=
 ∀s us,K.In s.heap->(us++ds).length=ps.length->BindsTo s fd ⟨us,[]⟩ (ps.zip (us++ds))
theorem yc.all{K:Frag}{fd:FuncData}{ps:List Str}(h:∀us:List Value,us.length=ps.length->bindArgs fd ⟨us,[]⟩=pure (ps.zip us)):yc K fd ps []:=fun s us _ hl=>by
 rw[append_nil] at hl |-;exact .of_eq (h us hl)
def wU(CX:CXT)(X:Cx)(E:XK):Prop:=∀(pins:PnL) (σ:St) H s e s',Inv X pins σ H s->CX X.stack H s E e s'->X.xe e s'
end
section
variable {CX:CXT}{k:Nat}{f C:Addr}{sp:Sp}{x m:Str}{ta:TE}{t:TA}
theorem qx{Q:VK}(F:zL X.prog X.w X.K X.mg X.base CX k f fd ps sp)(hr:yk k X.A)(hb:yc X.K fd ps ds)(hd:zV dvs ds)(hx:wU CX X E)
  (I:Inv X pins σ H s) (r:zV vs us) (h:sp (vs++dvs) H Q E):↑X (call (.ref f) us) (EP X pins σ Q) X.xe s:=by
 have r2:zV (vs++dvs) (us++ds):=r.append hd;have hl:(us++ds).length=ps.length:=by rw[<- r2.length];exact F.len _ _ _ _ h
 refine wpAny_call (codeAny_mono (F.run X.A X.stack s H ⟨us,[]⟩ (us++ds) (vs++dvs) Q E hr I.env0 (hb s us I.kIn hl) r2 h) fun r s' hq=>?_);cases r with
 | error e=>exact hx pins σ H s e s' I hq
 | ok fl=>
  cases fl with
  | ret u=>exact I.after hq
  | next=>exact False.elim hq
  | brk=>exact False.elim hq
  | cont=>exact False.elim hq
theorem zjg(F:zL X.prog X.w X.K X.mg X.base CX k f fd ps sp)(hr:yk k X.A)(hg:Gl X x)(hm:X.mg x= ~~~f)(hk:keepIn X.K (.ref f)=true)(hb:yc X.K fd ps ds)(hd:zV dvs ds)(hx:wU CX X E)
  (ha:PA X (e::es) t) (hdb:(x==("__debug__" : Str))=false:=by decide) (he:starEach (e::es) X.env=(false,eval e X.env)::starEach es X.env:=by rfl) (hpl:(backTo pos (starEach es X.env)).any (·.1)=false:=by rfl) :
  PE X (.Call (.Name x p) (e::es) [] pos) (zgo sp dvs E t):=by
 and_intros;refine wpAny_Call_Name_kw (uc I hg hm ?_ hdb);refine callWith_K (h₀:=X.base) I.ok.mod.kin hk (thn (ha pos pins s σ H _ I h) fun us s1 ⟨vs,H1,I1,r,q⟩=>⟨I1.kIn,?_⟩) he hpl;exact qx F hr hb hd hx I1 r q
theorem zeE(he:PE X o ta)(c:Cls X.K C)(hm:xv X.K C m f)(F:zL X.prog X.w X.K X.mg X.base CX k f fd ps sp)(hr:yk k X.A)(hb:yc X.K fd ps ds)(hd:zV dvs ds)(hx:wU CX X E)(ha:PA X (e::es) t)
  (hst:starEach (e::es) X.env=(false,eval e X.env)::starEach es X.env:=by rfl) (hpl:(backTo pos (starEach es X.env)).any (·.1)=false:=by rfl)
  (ht:eval (.Call (.Attribute o m apos) (e::es) [] pos) X.env=(do
   let ov <- eval o X.env
   standAt apos.atName
   let (f,first) <- holding [ov] (getMethod ov m pl)
   callWith pos f first (backTo pos (starEach (e::es) X.env)) (backToKw pos (keywordEach [] X.env))):=by rfl) :
  PE X (.Call (.Attribute o m apos) (e::es) [] pos) (zj6 C m sp dvs E ta t):=by
 and_intros;refine methodCall_KW (pl:=pl) (thn (he pins s σ H _ I h) fun u s1 ⟨x,H1,I1,rx,a,dx,fs,ex,ea,l,q⟩=>?_) ht;subst ex;obtain rfl:u=Value.ref a:=rx;refine uE I1 ea c hm l ?_;refine callWith_K (first:=[.ref a]) (h₀:=X.base) I.ok.mod.kin hm.kp (thn (ha pos pins s1 σ H1 _ I1 q) fun us s2 ⟨vs,H2,I2,r,q2⟩=>⟨I2.kIn,?_⟩) hst hpl
 exact qx (us:=.ref a::us) (vs:=.ref a::vs) F hr hb hd hx I2 (.cons rfl r) q2
theorem yy(he:PE X o ta)(c:Cls X.K C)(hm:xv X.K C m f)(F:zL X.prog X.w X.K X.mg X.base CX k f fd ps sp)(hr:yk k X.A)(hb:yc X.K fd ps ds)(hd:zV dvs ds)(hx:wU CX X E)
  (ht:eval (.Call (.Attribute o m apos) [] [] pos) X.env=(do
   let ov <- eval o X.env
   standAt apos.atName
   let (f,first) <- holding [ov] (getMethod ov m pl)
   callWith pos f first (backTo pos (starEach [] X.env)) (backToKw pos (keywordEach [] X.env))):=by rfl) :
  PE X (.Call (.Attribute o m apos) [] [] pos) (zj6 C m sp dvs E ta ziG):=by
 and_intros;refine methodCall_KW (pl:=pl) (thn (he pins s σ H _ I h) fun u s1 ⟨x,H1,I1,rx,a,dx,fs,ex,ea,l,q⟩=>?_) ht;subst ex;obtain rfl:u=Value.ref a:=rx;refine uE I1 ea c hm l ?_;exact PySem.W.callWith_K0 (first:=[.ref a]) I1.kIn hm.kp (qx (us:=[.ref a]) (vs:=[.ref a]) F hr hb hd hx I1 (.cons rfl .nil) q)
structure Mk(K:Frag)(C f:Addr):Prop where
 makes:makesIn K C=true
 init:findIn K (.ref C) "__init__"=some (~~~f)
 fn:isFn K (.ref f)=true
 kp:keepIn K (.ref C)=true
theorem zg7{Q:VK}(M:Mk X.K C f)(F:zL X.prog X.w X.K X.mg X.base CX k f fd ps sp)(hr:yk (k+1) X.A)(hb:yc X.K fd ps ds)(hd:zV dvs ds)
  (hx:wU CX X E) (I:Inv X pins σ H s) (r:zV vs us)
  (h:∀x dx,H x=none->H dx=none->dx≠x->sp (.ref x::(vs++dvs)) (upd (upd H dx (.own x)) x (.ins C dx [])) (fun v H2=>v=.non/\Q (.ref x) H2) E) :
  ↑X (call (.ref C) us) (EP X pins σ Q) X.xe s:=by
 have hq:=h (s.heap.objs.size+1) s.heap.objs.size (I.hok.fresh (le_succ _)) (I.hok.fresh (aF _)) (ne_of_lt (lt_succ_self _));have I2:=Inv.made (C:=C) I;have r2:zV (V.ref (s.heap.objs.size+1)::(vs++dvs)) (Value.ref (s.heap.objs.size+1)::(us++ds)):=.cons rfl (r.append hd);have hl:(Value.ref (s.heap.objs.size+1)::us++ds).length=ps.length:=by
  have e:=r2.length;rw[F.len _ _ _ _ hq] at e;exact e.symm
 refine wpAny_call (zhW (f:=f) I.kIn M.makes M.init (beq_iff_eq.mp M.fn) (codeAny_mono (F.run _ X.stack _ _ ⟨Value.ref (s.heap.objs.size+1)::us,[]⟩ (Value.ref (s.heap.objs.size+1)::(us++ds)) _ _ E (hr.make C us [])
  (I2.env0.make C us []) (hb _ (Value.ref (s.heap.objs.size+1)::us) I2.kIn hl) r2 hq) fun r s' hq'=>?_))
 cases r with
 | error e=>exact hx pins σ _ _ e s' I2 hq'
 | ok fl=>
  cases fl with
  | ret u=>
   obtain⟨v,H',I3,rv,ev,q3⟩:=I2.after hq';subst ev;exact⟨rv,⟨V.ref (s.heap.objs.size+1),H',I3,rfl,q3⟩⟩
  | next=>exact False.elim hq'
  | brk=>exact False.elim hq'
  | cont=>exact False.elim hq'
theorem zeF(M:Mk X.K C f)(F:zL X.prog X.w X.K X.mg X.base CX k f fd ps sp)(hr:yk (k+1) X.A)(hg:Gl X x)(hm:X.mg x= ~~~C)(hb:yc X.K fd ps ds)(hd:zV dvs ds)(hx:wU CX X E)
  (ha:PA X (e::es) t) (hdb:(x==("__debug__" : Str))=false:=by decide) (he:starEach (e::es) X.env=(false,eval e X.env)::starEach es X.env:=by rfl) (hpl:(backTo pos (starEach es X.env)).any (·.1)=false:=by rfl) :
  PE X (.Call (.Name x p) (e::es) [] pos) (zj7 C sp dvs E t):=by
 and_intros;refine wpAny_Call_Name_kw (uc I hg hm ?_ hdb);refine callWith_K (h₀:=X.base) I.ok.mod.kin M.kp (thn (ha pos pins s σ H _ I h) fun us s1 ⟨vs,H1,I1,r,q⟩=>⟨I1.kIn,?_⟩) he hpl;exact zg7 M F hr hb hd hx I1 r q
variable {te:TE}{tk:TA}
variable {g:List Value->List Value->List Value}{gV:List V->List V->List V}
structure zA(N P:List Str)(sc:Scope):Prop where
 kind:sc.kind=.function
 co:sc.isCoroutine=false
 gen:sc.isGenerator=false
 nd:N.Nodup
 pre:N.take P.length=P
 par:∀x∈P,sc.names.lookup x=some .local\/sc.names.lookup x=some .cell
 nofree:∀y∈sc.names,y.2≠.free
theorem fsc(a:sc.kind=.function:=by rfl)(b:sc.isCoroutine=false:=by rfl)(c:sc.isGenerator=false:=by rfl)(d:N.Nodup:=by decide +kernel)(e:N.take P.length=P:=by rfl)(f:∀x∈P,sc.names.lookup x=some .local\/sc.names.lookup x=some .cell:=by decide +kernel)(g:∀y∈sc.names,y.2≠.free:=by decide +kernel):zA N P sc:=⟨a,b,c,d,e,f,g⟩
theorem za1{kindOf:Str->Option NameKind}{x:Str}:∀{binds:List (Str×Value)}{m:Str->Option Value},(∀v,(x,v)∉binds)->bindL kindOf binds m x=m x
 | [],_,_=>rfl
 | (n,v)::r,m,h=>by
  unfold bindL;rw[za1 fun w hw=>h w (mem_cons_of_mem _ hw)];split
  ·have:x≠n:=by rintro rfl;exact h v mem_cons_self
   simp [this]
  ·rfl
theorem za3{kindOf:Str->Option NameKind}{x:Str}:∀{binds:List (Str×Value)}{m:Str->Option Value},(∀v,(x,v)∉binds)->bindC kindOf binds m x=m x
 | [],_,_=>rfl
 | (n,v)::r,m,h=>by
  unfold bindC;rw[za3 fun w hw=>h w (mem_cons_of_mem _ hw)];split
  ·rfl
  ·have:x≠n:=by rintro rfl;exact h v mem_cons_self
   simp [this]
theorem za2{kindOf:Str->Option NameKind}{x:Str}{v:Value}:∀{P:List Str}{vs:List Value}{i:Nat}{m:Str->Option Value},P.Nodup->P[i]?=some x->vs[i]?=some v->kindOf x=some .local->
  bindL kindOf (P.zip vs) m x=some v
 | [],_,_,_,_,h,_,_=>by simp at h
 | _::_,[],_,_,_,_,h,_=>by simp at h
 | p::P,w::vs,0,m,nd,h1,h2,hk=>by
  simp at h1 h2;subst h1;subst h2;show bindL kindOf ((p,w)::P.zip vs) m p=_;unfold bindL;rw[za1 fun v hv=>(List.nodup_cons.mp nd).1 (of_mem_zip hv).1,aK hk];simp
 | p::P,w::vs,i+1,m,nd,h1,h2,hk=>by
  show bindL kindOf ((p,w)::P.zip vs) m x=_;unfold bindL;exact za2 (i:=i) (List.nodup_cons.mp nd).2 (by simpa using h1) (by simpa using h2) hk
theorem za4{kindOf:Str->Option NameKind}{x:Str}{v:Value}:∀{P:List Str}{vs:List Value}{i:Nat}{m:Str->Option Value},P.Nodup->P[i]?=some x->vs[i]?=some v->kindOf x≠some .local->
  bindC kindOf (P.zip vs) m x=some v
 | [],_,_,_,_,h,_,_=>by simp at h
 | _::_,[],_,_,_,_,h,_=>by simp at h
 | p::P,w::vs,0,m,nd,h1,h2,hk=>by
  simp at h1 h2;subst h1;subst h2;show bindC kindOf ((p,w)::P.zip vs) m p=_;unfold bindC;rw[za3 fun v hv=>(List.nodup_cons.mp nd).1 (of_mem_zip hv).1,aJ hk];simp
 | p::P,w::vs,i+1,m,nd,h1,h2,hk=>by
  show bindC kindOf ((p,w)::P.zip vs) m x=_;unfold bindC;exact za4 (i:=i) (List.nodup_cons.mp nd).2 (by simpa using h1) (by simpa using h2) hk
def uM(N:List Str)(vs:List V):St:=vs.map some++List.replicate (N.length - vs.length) none
def zd4(CX:CXT)(P:Program)(w:World)(K:Frag)(mg:Str->Option Value)(base:Heap)(N:List Str)(qual:Str)(scope:Scope)(f:Addr)(cd:Value)(A:Around)(outer:List Env)(s:Shared)(H:Hp)(E:XK):Cx where
 prog:=P
 w:=w
 K:=K
 mg:=mg
 base:=base
 A:=A.deeper (envOfC qual scope s.heap.objs.size f cd)
 N:=N
 s₀:=s
 H₀:=H
 env:=envOfC qual scope s.heap.objs.size f cd
 outer:=outer
 stack:=envOfC qual scope s.heap.objs.size f cd::outer
 ex:=[]
 calm:=true
 fn:=fun _=>true
 pn:=[]
 xe:=fun e s'=>wpAny (model P w) (A.deeper (envOfC qual scope s.heap.objs.size f cd)) (leaving (envOfC qual scope s.heap.objs.size f cd) e) (fun _ s''=>CX outer H s E e s'') (fun e' s''=>CX outer H s E e' s'') s'
theorem zcW{sc:Scope}{n:Nat}{x:Str}(h:sc.names.lookup x=some .cell):∃c,(cellsFrom n sc.names []).lookup x=some c:=by
 have q:=PySem.W.cellsFrom_some sc.names n [] (.inl h);exact Option.isSome_iff_exists.mp q
theorem zfY{CX:CXT}{P:Program}{w:World}{K:Frag}{mg:Str->Option Value}{base:Heap}{N ps:List Str}{qual:Str}{scope:Scope}{f:Addr}{cd:Value}{A:Around}{outer:List Env}{s s1:Shared}{H:Hp}{E:XK}{us:List Value}{vs:List V}
  (S:zA N ps scope) (hd:A.handled=none) (e0:zav P w K mg base A outer s H) (hl:vs.length=ps.length) (r:zV vs us)
  (x:InCallC s s.heap.objs.size (bindL (envOfC qual scope s.heap.objs.size f cd).kindOf (ps.zip us) fun _=>none) (cellsFrom (s.heap.objs.size+1) scope.names []) (bindC (envOfC qual scope s.heap.objs.size f cd).kindOf (ps.zip us) fun _=>none) s1) :
  Inv (zd4 CX P w K mg base N qual scope f cd A outer s H E) [] (uM N vs) H s1:=by
 have hpl:ps.length<=N.length:=by have:=congrArg List.length S.pre;rw[length_take] at this;omega
 obtain⟨h1,tk,rfl,hk⟩:=x.done;have noA:∀b:Addr,b∉(zd4 CX P w K mg base N qual scope f cd A outer s H E).ex:=fun b z=>absurd (show b∈([]:List Addr) from z) (by simp)
 refine⟨⟨e0.mod,S.kind,rfl,rfl,aF _,fun y z c h1 h2=>?_,fun y hy=>?_,fun y c _ h=>?_,fun _=>hd,Around.frames_deeper e0.frames,.inr ⟨rfl,rfl⟩,fun b z=>absurd z (noA b),e0.bs,e0.bsz,fun b _ _=>noA b,fun b z=>absurd z (noA b),e0.funs,e0.frf⟩,
  rfl,e0.bare,Un.kept hk,⟨_,x.toInCall.ns,fun i y v h1 h2 h3=>?_⟩,fun y c h=>⟨_,x.cell y c h⟩,e0.hok.fresh (aF _),fun y c h=>?_,fun p hp=>absurd (show p∈([]:PnL) from hp) (by simp),e0.hok.kept hk,?_⟩
 ·exact name_of_addr x.apart (PySem.mem_of_lookup h1) (PySem.mem_of_lookup h2)
 ·have hy:scope.names.lookup y=some .cell\/scope.names.lookup y=some .free:=hy
  rcases hy with hy|hy
  ·exact zcW hy
  ·exact absurd rfl (S.nofree _ (PySem.mem_of_lookup hy))
 ·exact le_of_lt (x.above y c (PySem.mem_of_lookup h))
 ·have hi:i<vs.length:=by
   unfold uM at h2;by_cases hi:i<vs.length
   ·exact hi
   ·rw[getElem?_append_right (by simpa using hi)] at h2
    rw[List.getElem?_replicate] at h2;split at h2 <;> cases h2
  have ha:vs[i]?=some v:=by
   unfold uM at h2;rw[getElem?_append_left (by simpa using hi),getElem?_map] at h2
   cases e:vs[i]? with
   | none=>rw[e] at h2;cases h2
   | some a=>rw[e] at h2;cases h2;rfl
  obtain⟨u,hu,rv⟩:=r.get ha;have hp:ps[i]?=some y:=by
   rw[<- S.pre,List.getElem?_take_of_lt ∅];exact h1
  have ndP:ps.Nodup:=by rw[<- S.pre];exact S.nd.sublist (take_sublist _ _)
  exists u,rv,?_;rcases S.par y (aH hp) with k|k
  ·exact .inl ⟨k,za2 ndP hp hu k⟩
  ·obtain⟨c,e⟩:=zcW (n:=s.heap.objs.size+1) k
   refine .inr ⟨.inl k,c,e,?_⟩;have q:=x.cell y c e;rw[za4 ndP hp hu (by show scope.names.lookup y≠_;rw[k];decide)] at q
   exact q
 ·exact e0.hok.fresh (le_of_lt (x.above y c (PySem.mem_of_lookup h)))
 ·unfold uM
  show _=N.length;rw[aG,aA,List.length_replicate];omega
theorem zku{CX:CXT}{P:Program}{w:World}{K:Frag}{mg:Str->Option Value}{base:Heap}{k:Nat}{f:Addr}{name qual:Str}{params:Arguments}{body:List Stmt}{scope:Scope}{dV kV doc pm cdv ct oc:Value}{an od:Option Addr}
  {osl:Array (Option Value)}{N ps:List Str}{sp:Sp}(lk:K.lookup f=some ⟨oc,od,.func (fnOf name qual params body scope dV kV doc pm an cdv ct),osl⟩) (hcd:codeIn K cdv qual=true) (S:zA N ps scope)
  (len:∀vs H Q E,sp vs H Q E->vs.length=ps.length)
  (hbody:∀(A:Around) (outer:List Env) (s:Shared) (H:Hp) (vs:List V) (Q:VK) (E:XK),yk k (A.deeper (envOfC qual scope s.heap.objs.size f cdv))->sp vs H Q E->
   ∃t,PSs (zd4 CX P w K mg base N qual scope f cdv A outer s H E) body t/\t { nx:=fun _ H'=>Q .non H',rt:=Q } (uM N vs) H) :
  zL P w K mg base CX (k+1) f (fnOf name qual params body scope dV kV doc pm an cdv ct) ps sp:=by
 exists len,fun A outer s H args us vs Q E hr e0 hb r hsp=>?_;have hl:=len _ _ _ _ hsp;have KX:K.In s.heap:=e0.mod.kin.keeps fun b o e=>(e0.bs b o e).1;have lim:s.heap.NoLimit:=e0.mod.nolimit.keeps fun b o e=>(e0.bs b o e).1;have hkind:∀y∈ps.zip us,scope.names.lookup y.1=some .local\/(scope.names.lookup y.1=some .cell/\((cellsFrom (s.heap.objs.size+1) scope.names []).lookup y.1).isSome=true):=fun⟨n,v⟩ hy=>by
  rcases S.par n (of_mem_zip hy).1 with q|q
  ·exact .inl q
  ·exact .inr ⟨q,PySem.W.cellsFrom_some _ _ _ (.inl q)⟩
 refine codeAny_call_function hr.depth (KX _ _ lk) rfl S.co S.gen rfl (PySem.W.codeRec_of KX hcd) (hb _ _ _ _ ?_);refine wpAny_newFunctionEnv_cells S.kind hkind fun env he s1 x=>?_;subst he;exists lim.keeps x.toInCall.keep,codeAny_func ?_;obtain⟨t,ht,hq⟩:=hbody A outer s H vs Q E (hr.deeper _) hsp;have I:Inv (zd4 CX P w K mg base N qual scope f cdv A outer s H E) [] (uM N vs) H s1:=zfY S hr.hd e0 hl r x;refine wpAny_mono (ht [] s1 (uM N vs) H _ I hq) (fun fl s' hs=>?_) fun e s' hs=>hs;have fin:∀{σ':St}{H':Hp}{v:V}{u:Value},Inv (zd4 CX P w K mg base N qual scope f cdv A outer s H E) [] σ' H' s'->z5 v u->Q v H'->CE outer P w H s Q u s':=
  fun {σ' H' v u} J rv q=>⟨v,H',J.os,J.bare,J.base,J.hok,rv,q⟩
 cases fl with
 | ret u=>
  obtain⟨v,σ',H',J,rv,q⟩:=hs;exact fin J rv q
 | next=>
  obtain⟨σ',H',J,q⟩:=hs;exact fin (v:=V.non) (u:=Value.none) J rfl q
 | brk=>
  obtain⟨_,_,_,q⟩:=hs;exact False.elim q
 | cont=>
  obtain⟨_,_,_,q⟩:=hs;exact False.elim q
variable {r:List V->Hp->VK->Prop}
def tCB(r:List V->Hp->VK->Prop)(t:TA):TE:=fun σ H Q=>t σ H fun vs H1=>r vs H1 Q
theorem zhm{X:Cx}{p pos:Pos}{e:Expr}{es:List Expr}{id:String}(hc:xq X (.builtin id) r)(hg:Gl X x)(hm:X.mg x=none)(hv:bootBuiltins x=some (.builtin id))(ha:PA X (e::es) t)(hn:x≠"__name__":=by decide)(hdb:(x==("__debug__" : Str))=false:=by decide)
  (he:starEach (e::es) X.env=(false,eval e X.env)::starEach es X.env:=by rfl) (hpl:(backTo pos (starEach es X.env)).any (·.1)=false:=by rfl):PE X (.Call (.Name x p) (e::es) [] pos) (tCB r t):=by
 and_intros;refine wpAny_Call_Name_kw (wP I hg hm hv ?_ hn hdb);exact PyProof.Rows.callWith_builtin1 (thn (ha pos pins s σ H _ I h) fun us s1 ⟨vs,H1,I1,r1,q1⟩=>hc pins s1 σ H1 vs us Q I1 r1 q1) he hpl
theorem zfu(hc:xq X (.type T) r)(hg:Gl X x)(hm:X.mg x=none)(hv:bootBuiltins x=some (.type T))(ha:PA X (e::es) t)(hn:x≠"__name__":=by decide)(hdb:(x==("__debug__" : Str))=false:=by decide)
  (he:starEach (e::es) X.env=(false,eval e X.env)::starEach es X.env:=by rfl) (hpl:(backTo pos (starEach es X.env)).any (·.1)=false:=by rfl):PE X (.Call (.Name x p) (e::es) [] pos) (tCB r t):=by
 and_intros;refine wpAny_Call_Name_kw (wP I hg hm hv ?_ hn hdb);exact PyProof.Rows.callWith_type1 (thn (ha pos pins s σ H _ I h) fun us s1 ⟨vs,H1,I1,r1,q1⟩=>hc pins s1 σ H1 vs us Q I1 r1 q1) he hpl
theorem zdA(hc:xq X (.type T) r)(hg:Gl X x)(hm:X.mg x=none)(hv:bootBuiltins x=some (.type T))(hn:x≠"__name__":=by decide)(hdb:(x==("__debug__" : Str))=false:=by decide):
  PE X (.Call (.Name x p) [] [] pos) (tCB r ziG):=by
 and_intros;refine wpAny_Call_Name_kw (wP I hg hm hv ?_ hn hdb);exact PyProof.Rows.callWith_type0 (hc pins s σ H [] [] Q I .nil h)
end
end L2
namespace HT
open PySem PyProof.Rows
section
open PySem.SeqAt
open PySem.AutoSeq1 (wpAny_loadPart')
open PySem.MeetsSeq PySem.MeetsSeq2 PySem.MeetsSeq3
end
section
theorem zm6(ht:IsTup s.heap t vs.toArray)(hb:IsTup s.heap b ws.toArray)(hv:vs≠[])
  (h1:ws=[]->Q (.ref t) s) (h2:ws≠[]->Q (.ref s.heap.objs.size) { s with heap:=s.heap.push { cls:=.type "tuple",data:=.seq (vs++ws).toArray } })
  (hsz:vs.length+ws.length<=sizeLine):wpAny (model prog w) A (binaryOp .Add (.ref t) (.ref b)) Q E s:=by
 obtain⟨⟨cls,dd,data,sl⟩,ho,hc,n,hd⟩:=id ht;obtain⟨⟨cls2,dd2,data2,sl2⟩,ho2,hc2,n2,hd2⟩:=id hb;simp only at hc hd hc2 hd2;subst hc hd hc2 hd2;have e:vs.toArray++ws.toArray=(vs++ws).toArray:=by simp
 by_cases hw:ws=[]
 ·exact concat_meets ⟨_,ho,rfl⟩ ⟨_,ho2,rfl⟩ noFill_tuple_add seq_tuple_add PySem.F.slot_tuple_add PySem.F.entry_tuple_add (PySem.F.args_tuple_add_2 _ _)
   (tuple_addW1 t b vs.toArray ws.toArray n n2 dd dd2 sl sl2 (by simpa using hv) (by simp [hw])) ⟨ho,ho2,h1 hw⟩
 ·refine concat_meets ⟨_,ho,rfl⟩ ⟨_,ho2,rfl⟩ noFill_tuple_add seq_tuple_add PySem.F.slot_tuple_add PySem.F.entry_tuple_add (PySem.F.args_tuple_add_2 _ _)
   (tuple_addW2 t b vs.toArray ws.toArray n n2 dd dd2 sl sl2 (by simpa using hv) (by simpa using hw) (by rw[size_toArray,size_toArray];exact hsz)) ⟨ho,ho2,?_⟩
  rw[e];exact h2 hw
def sIx(n d:Nat):Option Int->Nat
 | none=>d
 | some v=>if v<0 then (v+(n:Int)).toNat else min v.toNat n
theorem zmj(n d:Nat):sIx n d none=d:=rfl
theorem zm5(n d k:Nat):sIx n d (some (k:Int))=min k n:=by
 show(if (k:Int)<0 then ((k:Int)+(n:Int)).toNat else min (k:Int).toNat n)=min k n
 rw[L2.aJ ∅,toNat_natCast]
theorem zk7(n d:Nat)(hd:d<=n)(o:Option Int):sIx n d o<=n:=by
 cases o with
 | none=>exact hd
 | some v=>
  show(if v<0 then (v+(n:Int)).toNat else min v.toNat n)<=n
  by_cases hv:v<0
  ·rw[L2.aK hv];omega
  ·rw[L2.aJ hv];exact Nat.min_le_right _ _
theorem zfa(v:Int)(n d:Nat):(if v<0 then max (v+(n:Int)) 0 else min v (n:Int))=((sIx n d (some v):Nat):Int):=by
 show(if v<0 then max (v+(n:Int)) 0 else min v (n:Int))=(((if v<0 then (v+(n:Int)).toNat else min v.toNat n):Nat):Int)
 by_cases hv:v<0
 ·simp only[L2.aK hv];omega
 ·simp only[L2.aJ hv];omega
theorem zea(lo hi:Option Int)(n:Nat):Builtin.Slice.sliceAdjust lo hi 1 (n:Int)=(((sIx n 0 lo:Nat):Int),((sIx n n hi:Nat):Int)):=by
 have h1:¬((1:Int)<0):=by omega
 unfold Builtin.Slice.sliceAdjust;simp only[h1,if_false];refine Prod.ext ?_ ?_
 ·cases lo with
  | none=>rfl
  | some v=>exact zfa v n 0
 ·cases hi with
  | none=>rfl
  | some v=>exact zfa v n n
theorem zdx(i j:Nat):Builtin.Slice.slicePlaces (i:Int) (j:Int) 1=j - i:=by
 unfold Builtin.Slice.slicePlaces;have h1:(1:Int)>0:=by omega
 simp only[h1,if_true,Int.ediv_one];split <;> omega
theorem ql{Q:Option Int->Shared->Prop}(p:IsPart v o)(h:Q o s):wpAny (model prog w) A (Builtin.Slice.slicePartIndex v) Q E s:=by
 cases p with
 | none=>exact slicePart_none h
 | int i t=>exact slicePart_int h
theorem jm{prog:Program}{w:World}{A:Around}{E:L2.VSP}{s:Shared}{sl:Addr}{vl vu:Value}{lo hi:Option Int}{n:Nat}{Q:Int×Int×Nat->Shared->Prop}(hs:s.heap.IsSliceOf sl vl vu .none)(pl:IsPart vl lo)(pu:IsPart vu hi)
  (h:Q (((sIx n 0 lo:Nat):Int),1,sIx n n hi - sIx n 0 lo) s):wpAny (model prog w) A (Builtin.Slice.sliceApplied (.ref sl) (pure (n:Int))) Q E s:=by
 obtain⟨os,hos,hcs,hds⟩:=id hs;unfold Builtin.Slice.sliceApplied Builtin.Slice.sliceFields;refine L2.zwb (L2.zwb (wpAny_field hos hds (x:=vl) rfl (L2.zwb (wpAny_field hos hds (x:=vu) rfl (L2.zwb (wpAny_field hos hds (x:=.none) rfl (L2.zwp ?_)))))));refine L2.zwb (slicePart_none ?_);show wpAny _ _ (if ((1:Int)==0)=true then _ else _) _ _ s
 rw[L2.aJ ⋯]
 refine L2.zwb (ql pl (L2.zwb (ql pu (L2.zwb (L2.zwp ?_)))));show wpAny _ _ (match Builtin.Slice.sliceAdjust lo hi 1 (n:Int) with|(lo,hi)=>pure (lo,(1:Int),Builtin.Slice.slicePlaces lo hi 1)) _ _ s
 rw[zea lo hi n];show wpAny _ _ (pure (((sIx n 0 lo:Nat):Int),(1:Int),Builtin.Slice.slicePlaces ((sIx n 0 lo:Nat):Int) ((sIx n n hi:Nat):Int) 1)) _ _ s;rw[zdx];exact L2.zwp h
theorem zhf(xs:Array Value)(i k:Nat):((List.range k).filterMap fun (m:Nat)=>xs[((i:Int)+(m:Int) * 1).toNat]?).toArray=((xs.toList.drop i).take k).toArray:=by
 have e:(fun (m:Nat)=>xs[((i:Int)+(m:Int) * 1).toNat]?)=fun m=>xs[i+m]?:=by
  funext m
  have:((i:Int)+(m:Int) * 1).toNat=i+m:=by omega
  rw[this]
 rw[e]
 have:=pick_run xs i k
 rw[List.filterMap_map] at this;have e2:((fun x=>xs[x]?) ∘ fun x=>i+x)=fun m=>xs[i+m]?:=rfl;rw[e2] at this;rw[this]
theorem zeW{prog:Program}{w:World}{A:Around}{E:L2.VSP}{s:Shared}{t sl:Addr}{items:Array Value}{vl vu:Value}{lo hi:Option Int}{Q:L2.VSP}(ht:IsTup s.heap t items)(hs:s.heap.IsSliceOf sl vl vu .none)(pl:IsPart vl lo)(pu:IsPart vu hi)
  (hw:¬(sIx items.size 0 lo=0/\sIx items.size items.size hi=items.size))
  (h:Q (.ref s.heap.objs.size) { s with heap:=s.heap.push { cls:=.type "tuple",data:=.seq ((items.toList.drop (sIx items.size 0 lo)).take (sIx items.size items.size hi - sIx items.size 0 lo)).toArray } })
  (hsz:items.size<=sizeLine):wpAny (model prog w) A (getItem (.ref t) (.ref sl)) Q E s:=by
 have htake:sizeOk (.seq ((items.toList.drop (sIx items.size 0 lo)).take (sIx items.size items.size hi - sIx items.size 0 lo)).toArray):=by
  show((items.toList.drop (sIx items.size 0 lo)).take (sIx items.size items.size hi - sIx items.size 0 lo)).toArray.size<=sizeLine;rw[size_toArray,length_take,length_drop,Array.length_toList];omega
 have hj:sIx items.size items.size hi<=items.size:=zk7 _ _ (L2.aF _) hi;obtain⟨os,hos,hcs,hds⟩:=id hs;have hTs:s.TypeIs (.ref sl) "slice":=⟨os,hos,hcs⟩;unfold getItem
 try with_reducible refine wpAny_holding ?_
 first|refine L2.zwb (L2.zwp ?_)|skip
 refine L2.zwb (wpAny_sequenceKey ht.typeIs ⋯ ?_)
 refine L2.zwb (wpAny_callSpecial?_slot (name:=Str.ofString "__getitem__") ht.typeIs PyProof.Rows.slot_tuple_getitem
  (wpAny_call_entry PyProof.Rows.slot_tuple_getitem ht.typeIs entry_tuple_getitem ?_ (args_tuple_getitem _ _)))
 show wpAny _ _ (Builtin.Tuple.tupleItemsOf (.ref t) >>= _) _ _ s;refine L2.zwb (tupleItemsOf_ ht ?_);refine L2.zwb (wpAny_typeOf hTs ?_);rw[L2.aK ⋯]
 refine L2.zwb (jm hs pl pu ?_);have hno:¬((((sIx items.size 0 lo:Nat):Int)==0&&(1:Int)==1&&(sIx items.size items.size hi - sIx items.size 0 lo)==items.size)=true):=by
  intro q;rw[Bool.and_eq_true,Bool.and_eq_true] at q;have q1:((sIx items.size 0 lo:Nat):Int)=0:=eq_of_beq q.1.1;have q2:sIx items.size items.size hi - sIx items.size 0 lo=items.size:=eq_of_beq q.2;exact hw ⟨∅,∅⟩
 show wpAny _ _ (if (((sIx items.size 0 lo:Nat):Int)==0&&(1:Int)==1&&(sIx items.size items.size hi - sIx items.size 0 lo)==items.size)=true then _ else _) _ _ s
 rw[L2.aJ hno,zhf]
 first
  | exact L2.zwb (m:=Builtin.Tuple.tupleExact _) (wpAny_newObj_type (L2.zwp ⟨_,rfl,L2.zwp h⟩) htake)
  | exact L2.zwb (m:=Builtin.Tuple.tupleExact _) (wpAny_newObj_type (L2.zwb (L2.zwp (L2.zwp ⟨_,rfl,L2.zwp h⟩))) htake)
  | exact L2.zwb (L2.zwb (m:=Builtin.Tuple.tupleExact _) (wpAny_newObj_type (L2.zwp (L2.zwp ⟨_,rfl,L2.zwp h⟩)) htake))
  | exact L2.zwb (L2.zwb (m:=Builtin.Tuple.tupleExact _) (wpAny_newObj_type (L2.zwp ⟨_,rfl,L2.zwp h⟩) htake))
end
end HT
namespace L2
open PySem PySem.Spec PyProof.Rows
abbrev TO:=St->Hp->(Option Int->Hp->Prop)->Prop
structure PO(X:Cx)(e:Option Expr)(t:TO):Prop where
 run:∀(pins:PnL) (s:Shared) (σ : St) (H:Hp) (Q:Option Int->Hp->Prop),Inv X pins σ H s->t σ H Q->
  ↑X (evalPart e X.env) (fun u s'=>∃o H',Inv X pins σ H' s'/\IsPart u o/\Q o H') X.xe s
instance {X:Cx}{e:Option Expr}{t:TO}:CoeFun (PO X e t) (fun _=>∀(pins:PnL) (s:Shared) (σ : St) (H:Hp) (Q:Option Int->Hp->Prop),Inv X pins σ H s->t σ H Q->
  ↑X (evalPart e X.env) (fun u s'=>∃o H',Inv X pins σ H' s'/\IsPart u o/\Q o H') X.xe s):=⟨PO.run⟩
def ziF:TO:=fun _ H Q=>Q none H
def zl0(t:TE):TO:=fun σ H Q=>t σ H fun x H1=>∃i,x=.int i/\Q (some i) H1
section
variable {te:TE}{lo hi:Option Expr}{tl th:TO}
theorem yR:PO X none ziF:=by
 and_intros;rw[evalPart_none];exact zwp ⟨none,H,I,.none,h⟩
theorem yp(h:PE X e te):PO X (some e) (zl0 te):=by
 exists ?_;intro pins s σ H Q I hw;rw[evalPart_some];refine thn (h pins s σ H _ I hw) fun u s1 ⟨x,H1,I1,r1,q1⟩=>?_;obtain⟨i,rfl,q⟩:=q1;obtain⟨t,rfl⟩:=r1;exact⟨some i,H1,I1,.int i t,q⟩
def SlR(X:Cx)(r:V->Option Int->Option Int->Hp->VK->Prop):Prop:=
 ∀(pins:PnL) s (σ:St) H x v vl vu (lo hi:Option Int) sl (Q:VK),Inv X pins σ H s->z5 x v->s.heap.IsSliceOf sl vl vu .none->IsPart vl lo->IsPart vu hi->r x lo hi H Q->
  ∃T id,typeLookup (.type T) "__getitem__"=pure (some (.builtin id))/\s.TypeIs v T/\↑X (getItem v (.ref sl)) (EP X pins σ Q) X.xe s
def tSl(r:V->Option Int->Option Int->Hp->VK->Prop)(te:TE)(tl th:TO):TE:=fun σ H Q=>te σ H fun x H1=>tl σ H1 fun l H2=>th σ H2 fun u H3=>r x l u H3 Q
theorem yj{r:V->Option Int->Option Int->Hp->VK->Prop}(hr:SlR X r)(he:PE X e te)(hl:PO X lo tl)(hu:PO X hi th):PE X (.Subscript e (.Slice lo hi none p2) pos) (tSl r te tl th):=by
 and_intros;refine Subscript_ (thn (he pins s σ H _ I h) fun v s1 ⟨x,H1,I1,r1,q1⟩=>?_);refine wpAny_Slice (thn (hl pins s1 σ H1 _ I1 q1) fun vl s2 ⟨l,H2,I2,pl,q2⟩=>thn (hu pins s2 σ H2 _ I2 q2) fun vu s3 ⟨u,H3,I3,pu,q3⟩=>?_);rw[evalPart_none];refine zwp ?_;have I4:Inv X pins σ H3 { s3 with heap:=s3.heap.push { cls:=.type "slice",data:=.fields #[vl,vu,.none] } }:=I3.kept (t':=s3.toks) fun b ob q=>zgp _ q
 obtain⟨T,id,hT,ht,hg⟩:=hr pins { s3 with heap:=s3.heap.push { cls:=.type "slice",data:=.fields #[vl,vu,.none] } } σ H3 x v vl vu l u s3.heap.objs.size Q I4 r1 (Heap.IsSliceOf.new ..) pl pu q3
 show ↑X (subscriptTail e (.Slice lo hi none p2) v (.ref s3.heap.objs.size)) (EP X pins σ Q) X.xe { s3 with heap:=s3.heap.push { cls:=.type "slice",data:=.fields #[vl,vu,.none] } }
 exact tail_any (ops:=[.ref s3.heap.objs.size,v]) ht hT hg (by with_unfolding_all rfl)
def xJ(xs:List V)(lo hi:Option Int):List V:=(xs.drop (HT.sIx xs.length 0 lo)).take (HT.sIx xs.length xs.length hi - HT.sIx xs.length 0 lo)
theorem jJ(xs:List V)(lo hi:Option Int):(xJ xs lo hi).length<=xs.length:=by
 unfold xJ;rw[length_take,length_drop];omega
inductive zhaJ(K:Frag)(x:V)(lo:Option Int)(hi:Option Int)(H:Hp)(Q:VK):Prop|mk(a xs:_):x=.ref a->SqT K H a xs->¬(HT.sIx xs.length 0 lo=0/\HT.sIx xs.length xs.length hi=xs.length)->(∀p,H p=none->Q (.ref p) (upd H p (.tup (xJ xs lo hi))))->zhaJ K x lo hi H Q
def zha(K:Frag):V->Option Int->Option Int->Hp->VK->Prop:=fun x lo hi H Q=>zhaJ K x lo hi H Q
theorem zbg:SlR X (zha X.K):=by
 intro pins s σ H x v vl vu lo hi sl Q I rx hs pl pu h;obtain⟨a,xs,rfl,hx,hw,q⟩:=h;cases rx;obtain⟨its,r,ht,hz⟩:=I.tuple hx;have hlen:its.toArray.size=xs.length:=by rw[size_toArray];exact r.length.symm
 exists "tuple",_,PyProof.Rows.slot_tuple_getitem.lookup,ht.typeIs,?_;refine HT.zeW ht hs pl pu (by rw[hlen];exact hw) ?_ (by rw[hlen];exact hz)
 rw[hlen];exists .ref s.heap.objs.size,_,I.laid (t':=s.toks) (o:=.tup (xJ xs lo hi)) (fun b ob q=>zgp _ q) (aF _) ?_,rfl,q _ (I.hok.fresh (aF _));exact⟨Nat.le_trans (jJ xs lo hi) hz,_,(r.drop (HT.sIx xs.length 0 lo)).take (HT.sIx xs.length xs.length hi - HT.sIx xs.length 0 lo),IsTup.new _ _⟩
inductive zcpJ(K:Frag)(x:V)(y:V)(H:Hp)(Q:VK):Prop|mk(a b xs ys:_):x=.ref a->y=.ref b->SqT K H a xs->SqT K H b ys->xs≠[]->xs.length+ys.length<=sizeLine->(ys=[]->Q (.ref a) H)->((ys≠[]->∀p,H p=none->Q (.ref p) (upd H p (.tup (xs++ys)))))->zcpJ K x y H Q
def zcp(K:Frag):R2:=fun x y H Q=>zcpJ K x y H Q
theorem zV.nil_iff(r:zV xs us):us=[] ↔ xs=[]:=by
 cases r with
 | nil=>simp
 | cons _ _=>simp
theorem jY:OpR X (binaryOp .Add) (zcp X.K):=by
 intro pins s σ H x y v u Q I rx ry h;obtain⟨a,b,xs,ys,rfl,rfl,ha,hb,hx,hz,q1,q2⟩:=h;cases rx;cases ry;obtain⟨its,r1,p1,_⟩:=I.tuple ha;obtain⟨its2,r2,p2,_⟩:=I.tuple hb;refine HT.zm6 p1 p2 (fun z=>hx (r1.nil_iff.mp z)) (fun z=>⟨.ref a,H,I,rfl,q1 (r2.nil_iff.mp z)⟩) (fun z=>?_) (by rw[<- r1.length,<- r2.length];exact hz)
 exists .ref s.heap.objs.size,_,I.laid (t':=s.toks) (o:=.tup (xs++ys)) (fun b ob q=>zgp _ q) (aF _) ?_,rfl,q2 (fun w=>z (r2.nil_iff.mpr w)) _ (I.hok.fresh (aF _));exact⟨by rw[aG];exact hz,_,r1.append r2,IsTup.new _ _⟩
def ixN(n:Nat)(i:Int):Option Nat:=if 0<=i then (if i<n then some i.toNat else none) else if -(n:Int)<=i then some (i+n).toNat else none
def atI{α : Type}(xs:List α)(i:Int):Option α:=(ixN xs.length i).bind fun j=>xs[j]?
theorem zbQ{n:Nat}{i:Int}{j:Nat}(h:ixN n i=some j):seqIndex? i n=some j/\j<n/\-(n:Int)<=i/\i<n:=by
 unfold ixN at h;by_cases h0 : 0<=i
 ·rw[aK h0] at h
  by_cases h1:i<n
  ·rw[aK h1] at h
   have e:i.toNat=j:=Option.some.inj h;exact⟨by rw[seqIndex_of h0 h1,e],∅,∅,h1⟩
  ·rw[aJ h1] at h;cases h
 ·rw[aJ h0] at h
  by_cases h1 : -(n:Int)<=i
  ·rw[aK h1] at h
   have e:(i+n).toNat=j:=Option.some.inj h;exact⟨by rw[seqIndex_neg ∅ h1,e],∅,h1,∅⟩
  ·rw[aJ h1] at h;cases h
theorem zbX{α : Type}{xs:List α}{i:Int}{v : α}(h:atI xs i=some v):∃j,seqIndex? i xs.length=some j/\xs[j]?=some v/\j<xs.length/\-(xs.length:Int)<=i/\i<xs.length:=by
 unfold atI at h;cases e:ixN xs.length i with
 | none=>rw[e] at h;cases h
 | some j=>
  rw[e] at h;obtain⟨h1,h2,h3,h4⟩:=zbQ e;exact⟨j,h1,h,h2,h3,h4⟩
theorem wK{α : Type}{xs:List α}{j:Nat}{v : α}(h:xs[j]?=some v):atI xs (j:Int)=some v:=by
 have hj:j<xs.length:=(List.getElem?_eq_some_iff.mp h).1;have e:ixN xs.length (j:Int)=some j:=by
  unfold ixN;rw[aK ∅,aK ∅];simp
 unfold atI;rw[e];exact h
def zj4(b:Expr):Prop:=∀o i,subscripted b false o i=operate [o,i] (getItem o i)
def IxR(X:Cx)(r:R2):Prop:=
 ∀(value slice:Expr) (pins:PnL) s (σ:St) H x y v u (Q:VK),Inv X pins σ H s->z5 x v->z5 y u->r x y H Q->
  subscripted slice false v u=operate [v,u] (getItem v u)->↑X (subscriptTail value slice v u) (EP X pins σ Q) X.xe s
def MtR(X:Cx)(id:String)(r:V->List V->Hp->VK->Prop):Prop:=
 ∀(pins:PnL) s (σ:St) H x xs v us (Q:VK),Inv X pins σ H s->z5 x v->zV xs us->r x xs H Q->
  ↑X (call (.builtin id) (v::us)) (EP X pins σ Q) X.xe s
variable {a b:Expr}{ta tb:TE}
theorem zC{r:R2}(hr:IxR X r)(ha:PE X a ta)(hb:PE X b tb)(hs:zj4 b):PE X (.Subscript a b pos) (tOp r ta tb):=by
 and_intros;exact Subscript_ (zlO ha hb I h fun v u s2 x y H2 I2 rx ry q=>hr a b pins s2 σ H2 x y v u Q I2 rx ry q (hs _ _))
inductive zn5(K:Frag)(x y:V)(H:Hp)(Q:VK):Prop where
 | mk (p:Addr) (xs:List V) (i:Int) (v:V) (e1:x=.ref p) (e2:y=.int i) (h:SqL K H p xs) (a:atI xs i=some v) (q:Q v H)
def zmo(K:Frag):R2:=fun x y H Q=>zn5 K x y H Q
inductive zn4(K:Frag)(x y:V)(H:Hp)(Q:VK):Prop where
 | mk (p:Addr) (xs:List V) (i:Int) (v:V) (e1:x=.ref p) (e2:y=.int i) (h:SqT K H p xs) (a:atI xs i=some v) (q:Q v H)
def xc(K:Frag):R2:=fun x y H Q=>zn4 K x y H Q
inductive znrJ(x:V)(y:V)(H:Hp)(Q:VK):Prop|mk(z i c:_):x=.str z->y=.int i->z.length<=sizeLine->atI z.cps.toList i=some c->(Q (.str ⟨#[c]⟩) H)->znrJ x y H Q
def znr:R2:=fun x y H Q=>znrJ x y H Q
theorem ye:IxR X (zmo X.K):=by
 intro value slice pins s σ H x y v u Q I rx ry h hs;obtain⟨p,xs,i,z,rfl,rfl,hq,he,q⟩:=h;cases rx;obtain⟨t,rfl⟩:=ry;obtain⟨its,r,pl,hz⟩:=I.list hq;obtain⟨j,h1,h2,h3,h4,h5⟩:=zbX he;obtain⟨w,ew,rw'⟩:=r.get h2;have hl:=r.length;have hn:=uC;have fin:EP X pins σ Q w s:=⟨z,H,I,rw',q⟩;by_cases h0 : 0<=i
 ·have hj:i.toNat=j:=by
   rw[seqIndex_of h0 h5] at h1;exact Option.some.inj h1
  exact item_listR pl.isList h0 ∅ (by rw[hj];simpa using ew) fin hs
 ·have hj:(i+(its.toArray.size:Int)).toNat=j:=by
   rw[seqIndex_neg ∅ h4] at h1
   rw[size_toArray,<- hl];exact Option.some.inj h1
  exact subscriptTail_builtinR (x:=w) pl.isList.typeIs slot_list_getitem.lookup
   (wpAny_getItem_list_neg (Q:=fun r s'=>r=w/\EP X pins σ Q r s') pl.isList ∅ (by rw[size_toArray] <;> omega) ∅ (by rw[hj];simpa using ew) ⟨rfl,fin⟩) hs
theorem zG:IxR X (xc X.K):=by
 intro value slice pins s σ H x y v u Q I rx ry h hs;obtain⟨p,xs,i,z,rfl,rfl,hq,he,q⟩:=h;cases rx;obtain⟨t,rfl⟩:=ry;obtain⟨its,r,pl,hz⟩:=I.tuple hq;obtain⟨j,h1,h2,h3,h4,h5⟩:=zbX he;obtain⟨w,ew,rw'⟩:=r.get h2;have hl:=r.length;have hn:=uC;have fin:EP X pins σ Q w s:=⟨z,H,I,rw',q⟩;exact subscriptTail_builtinR (x:=w) pl.typeIs slot_tuple_getitem.lookup
  (getItem_tuple (j:=j) (Q:=fun r s'=>r=w/\EP X pins σ Q r s') pl ∅ ∅ (by rw[size_toArray,<- hl];exact h1) (by simpa using ew) ⟨rfl,fin⟩) hs
theorem vO:IxR X znr:=by
 intro value slice pins s σ H x y v u Q I rx ry h hs;obtain⟨z,i,c,rfl,rfl,hz,he,q⟩:=h;obtain⟨t,rfl⟩:=rx;obtain⟨t',rfl⟩:=ry;obtain⟨j,h1,h2,h3,h4,h5⟩:=zbX he;have hl:z.cps.toList.length=z.length:=by simp [Str.length]
 rw[hl] at h1 h4 h5;have hn:=uC;exact tail_any (typeIs_str s z t) slot_str_getitem.lookup (getItem_str (c:=c) (by
  have e1:decide (i < -(2 ^ 63:Int))=false:=aD ∅
  have e2:decide (i>=2 ^ 63)=false:=aD ∅
  rw[e1,e2,Bool.or_false]) (by rw[h1];simpa using h2) ⟨.str ⟨#[c]⟩,H,I.tok _,⟨_,rfl⟩,q⟩) hs
theorem zdJ(its:List Value)(n j:Nat)(u:Value):Obj.mapSeq (·.setIfInBounds j u) { cls:=.type "list",data:=.seq its.toArray n }={ cls:=.type "list",data:=.seq (its.set j u).toArray n }:=by
 simp [Obj.mapSeq]
theorem Inv.lst(I:Inv X pins σ H s)(h:H p=some (.lst xs)):
  ∃(its:List Value) (n:Nat),zV xs its/\s.heap.get? p=some { cls:=.type "list",data:=.seq its.toArray n }/\xs.length<=sizeLine:=by
 obtain⟨z,its,n,r,e⟩:=I.hok p _ h;exact⟨its,n,r,e,z⟩
theorem Inv.lstUpd{X:Cx}{pins:PnL}{σ : St}{H:Hp}{s:Shared}{p:Addr}{xs ys:List V}{its its':List Value}{n n':Nat}{f:Obj->Obj}(I:Inv X pins σ H s)(h:H p=some (.lst xs))
  (ho:s.heap.get? p=some { cls:=.type "list",data:=.seq its.toArray n }) (hf:f { cls:=.type "list",data:=.seq its.toArray n }={ cls:=.type "list",data:=.seq its'.toArray n' }) (r:zV ys its') (hz:ys.length<=sizeLine) (t:Nat) :
  Inv X pins σ (upd H p (.lst ys)) { s with heap:=s.heap.update p f,toks:=t }:=by
 have e:(s.heap.update p f).get? p=some { cls:=.type "list",data:=.seq its'.toArray n' }:=by
  rw[Heap.get?_update_self f ho (by rw[hf] <;> rfl),hf]
 refine I.write (x:=p) (e:=p) (by rw[h];trivial) (.inl rfl) (fun b u hb q=>(Heap.get?_update_other _ _ (Ne.symm hb)).trans q) ⟨_,e⟩ ?_
 exact⟨hz,its',n',r,e⟩
def zmm:V->V->V->Hp->(Hp->Prop)->Prop:=fun o i v H Q=>∃p xs k j,o=.ref p/\i=.int k/\H p=some (.lst xs)/\ixN xs.length k=some j/\Q (upd H p (.lst (xs.set j v)))
theorem zce:zm0 X zmm:=by
 intro pins s σ H o i v ov iv u Q I ro ri rv h;obtain⟨p,xs,k,j,rfl,rfl,hp,hj,q⟩:=h;cases ro;obtain⟨t,rfl⟩:=ri;obtain⟨its,n,r,ho,hz⟩:=I.lst hp;obtain⟨h1,h2,h3,h4⟩:=zbQ hj;have hl:=r.length;have hn:=uC;have I':Inv X pins σ (upd H p (.lst (xs.set j v))) { s with heap:=s.heap.update p (Obj.mapSeq (·.setIfInBounds j u)) }:=
  I.lstUpd hp ho (zdJ its n j u) (r.set rv j) (by rw[length_set];exact hz) s.toks
 by_cases h0 : 0<=k
 ·have hk:k.toNat=j:=by
   rw[seqIndex_of h0 h4] at h1;exact Option.some.inj h1
  exact PySem.W.ki_setAt ho h0 ∅ (by rw[size_toArray,<- hl];exact h4) (by rw[hk];exact⟨_,I',q⟩)
 ·have hk:(k+(its.toArray.size:Int)).toNat=j:=by
   rw[seqIndex_neg ∅ h3] at h1
   rw[size_toArray,<- hl];exact Option.some.inj h1
  exact PySem.W.ki_setBack ho ∅ (by rw[size_toArray,<- hl];exact h3) ∅ (by rw[hk];exact⟨_,I',q⟩)
theorem zbf(lo hi:Option Int)(n:Nat):(sliceBounds lo hi none n).1=((HT.sIx n 0 lo:Nat):Int)/\(sliceBounds lo hi none n).2.1=((HT.sIx n n hi:Nat):Int)/\(sliceBounds lo hi none n).2.2=1:=by
 exists ?_,?_,rfl
 ·cases lo with
  | none=>simp [sliceBounds,HT.sIx]
  | some i=>
   simp only[sliceBounds,HT.sIx,getD_none,show(1:Int)>0 by decide,if_true]
   by_cases h:i<0
   ·simp only[h,if_true] <;> omega
   ·simp only[h,if_false] <;> omega
 ·cases hi with
  | none=>simp [sliceBounds,HT.sIx]
  | some i=>
   simp only[sliceBounds,HT.sIx,getD_none,show(1:Int)>0 by decide,if_true]
   by_cases h:i<0
   ·simp only[h,if_true] <;> omega
   ·simp only[h,if_false] <;> omega
theorem zam(its:List Value)(lo hi:Option Int):slicePick its.toArray lo hi none=((its.drop (HT.sIx its.length 0 lo)).take (HT.sIx its.length its.length hi - HT.sIx its.length 0 lo)).toArray:=by
 obtain⟨h1,h2,h3⟩:=zbf lo hi its.toArray.size;unfold slicePick;rw[h1,h2,h3];simp only[sliceRange_one,pick_run,size_toArray] <;> rfl
inductive znmJ(K:Frag)(x:V)(lo:Option Int)(hi:Option Int)(H:Hp)(Q:VK):Prop|mk(a xs:_):x=.ref a->SqL K H a xs->(∀p,H p=none->Q (.ref p) (upd H p (.lst (xJ xs lo hi))))->znmJ K x lo hi H Q
def znm(K:Frag):V->Option Int->Option Int->Hp->VK->Prop:=fun x lo hi H Q=>znmJ K x lo hi H Q
theorem yX:SlR X (znm X.K):=by
 intro pins s σ H x v vl vu lo hi sl Q I rx hs pl pu h;obtain⟨a,xs,rfl,hx,q⟩:=h;cases rx;obtain⟨its,r,ht,hz⟩:=I.list hx;have hlen:=r.length;exists "list",_,slot_list_getitem.lookup,ht.isList.typeIs,?_;refine wpAny_getItem_list_slice ht.isList hs pl pu .none (by simp) ?_ (by rw[size_toArray] <;> omega)
 rw[zam,<- hlen];exists .ref s.heap.objs.size,_,I.laid (t':=s.toks) (o:=.lst (xJ xs lo hi)) (fun b ob q=>zgp _ q) (aF _) ?_,rfl,q _ (I.hok.fresh (aF _));exact⟨Nat.le_trans (jJ xs lo hi) hz,_,0,(r.drop (HT.sIx xs.length 0 lo)).take (HT.sIx xs.length xs.length hi - HT.sIx xs.length 0 lo),zgs _ rfl⟩
def x9:V->Bool
 | .non=>true
 | .bl _=>true
 | .int _=>true
 | .str _=>true
 | _=>false
def eqV:V->V->Bool
 | .non,.non=>true
 | .bl a,.bl b=>a==b
 | .bl a,.int b=>(if a then 1 else 0)==b
 | .int a,.bl b=>a==(if b then 1 else 0)
 | .int a,.int b=>a==b
 | .str a,.str b=>a==b
 | _,_=>false
theorem zij(ry:z5 y u)(rx:z5 x v)(fy:x9 y=true)(fx:x9 x=true):SeqAt.EqAt A s u v (eqV y x):=by
 cases y with
 | non=>
  cases ry;cases x with
  | non=>cases rx;exact SeqAt.EqAt.same _
  | bl b=>cases rx;exact SeqAt.EqAt.none_bool b
  | int b=>obtain⟨t,rfl⟩:=rx;exact SeqAt.EqAt.none_int b t
  | str b=>obtain⟨t,rfl⟩:=rx;exact SeqAt.EqAt.none_str b t
  | _=>exact absurd (show false=true from fx) zft
 | bl a=>
  cases ry;cases x with
  | non=>cases rx;exact SeqAt.EqAt.bool_none a
  | bl b=>cases rx;exact SeqAt.EqAt.bool_bool a b
  | int b=>obtain⟨t,rfl⟩:=rx;exact SeqAt.EqAt.bool_int a b t
  | str b=>obtain⟨t,rfl⟩:=rx;exact SeqAt.EqAt.bool_str a b t
  | _=>exact absurd (show false=true from fx) zft
 | int a=>
  obtain⟨t',rfl⟩:=ry;cases x with
  | non=>cases rx;exact SeqAt.EqAt.int_none a t'
  | bl b=>cases rx;exact SeqAt.EqAt.int_bool a t' b
  | int b=>obtain⟨t,rfl⟩:=rx;exact SeqAt.EqAt.int_int a t' b t
  | str b=>obtain⟨t,rfl⟩:=rx;exact SeqAt.EqAt.int_str a t' b t
  | _=>exact absurd (show false=true from fx) zft
 | str a=>
  obtain⟨t',rfl⟩:=ry;cases x with
  | non=>cases rx;exact SeqAt.EqAt.str_none a t'
  | bl b=>cases rx;exact SeqAt.EqAt.str_bool a t' b
  | int b=>obtain⟨t,rfl⟩:=rx;exact SeqAt.EqAt.str_int a t' b t
  | str b=>obtain⟨t,rfl⟩:=rx;exact SeqAt.EqAt.str_str a t' b t
  | _=>exact absurd (show false=true from fx) zft
 | _=>exact absurd (show false=true from fy) zft
def eqU(x:V)(u:Value):Bool:=match u with
 | .none=>eqV .non x
 | .bool b=>eqV (.bl b) x
 | .int i _=>eqV (.int i) x
 | .str z _=>eqV (.str z) x
 | _=>false
theorem zii(r:z5 y u)(f:x9 y=true):eqU x u=eqV y x:=by
 cases y with
 | non=>cases r;rfl
 | bl b=>cases r;rfl
 | int i=>obtain⟨t,rfl⟩:=r;rfl
 | str z=>obtain⟨t,rfl⟩:=r;rfl
 | _=>exact absurd (show false=true from f) zft
theorem jg{x:V}:∀{xs:List V}{us:List Value},zV xs us->xs.all x9=true->us.any (eqU x)=xs.any fun y=>eqV y x
 | _,_,.nil,_=>rfl
 | y::xs,u::us,.cons r t,f=>by
  rw[all_cons,Bool.and_eq_true] at f;rw[any_cons,any_cons,zii r f.1,jg t f.2]
theorem vN{A:Around}{s:Shared}{x:V}{v:Value}(rx:z5 x v)(fx:x9 x=true):∀{xs:List V}{us:List Value},zV xs us->xs.all x9=true->∀u∈us,SeqAt.EqAt A s u v (eqU x u)
 | _,_,.nil,_=>fun u hu=>by cases hu
 | y::xs,u::us,.cons r t,f=>fun u' hu=>by
  rw[all_cons,Bool.and_eq_true] at f;rcases List.mem_cons.mp hu with rfl|hu
  ·rw[zii r f.1];exact zij r rx f.1 fx
  ·exact vN rx fx t f.2 u' hu
def inV(x:V)(xs:List V):Bool:=xs.any fun y=>eqV y x
inductive rInJ(K:Frag)(neg:Bool)(x:V)(y:V)(H:Hp)(Q:VK):Prop|mk(p xs:_):y=.ref p->(SqL K H p xs\/SqT K H p xs)->x9 x=true->xs.all x9=true->(Q (.bl (if neg then !inV x xs else inV x xs)) H)->rInJ K neg x y H Q
def rIn(K:Frag)(neg:Bool):R2:=fun x y H Q=>rInJ K neg x y H Q
theorem yi:OpR X (compareOp .In) (rIn X.K false):=by
 intro pins s σ H x y v u Q I rx ry h;obtain⟨p,xs,rfl,hq,fx,fs,q⟩:=h;cases ry;rcases hq with hq|hq
 ·obtain⟨its,r,pl,hz⟩:=I.list hq
  refine SeqAt.in_listAt (eqU x) pl.isList (fun w hw=>vN rx fx r fs w (by simpa using hw)) ⟨.bl _,H,I,rfl,?_⟩
  rw[show its.toArray.any (eqU x)=its.any (eqU x) by simp,jg r fs]
  exact q
 ·obtain⟨its,r,pl,hz⟩:=I.tuple hq
  refine SeqAt.in_tupleAt (eqU x) pl (fun w hw=>vN rx fx r fs w (by simpa using hw)) ⟨.bl _,H,I,rfl,?_⟩
  rw[show its.toArray.any (eqU x)=its.any (eqU x) by simp,jg r fs]
  exact q
theorem yI:OpR X (compareOp .NotIn) (rIn X.K true):=by
 intro pins s σ H x y v u Q I rx ry h;obtain⟨p,xs,rfl,hq,fx,fs,q⟩:=h;cases ry;rcases hq with hq|hq
 ·obtain⟨its,r,pl,hz⟩:=I.list hq
  refine SeqAt.notIn_listAt (eqU x) pl.isList (fun w hw=>vN rx fx r fs w (by simpa using hw)) ⟨.bl _,H,I,rfl,?_⟩
  rw[show its.toArray.any (eqU x)=its.any (eqU x) by simp,jg r fs]
  exact q
 ·obtain⟨its,r,pl,hz⟩:=I.tuple hq
  refine SeqAt.notIn_tupleAt (eqU x) pl (fun w hw=>vN rx fx r fs w (by simpa using hw)) ⟨.bl _,H,I,rfl,?_⟩
  rw[show its.toArray.any (eqU x)=its.any (eqU x) by simp,jg r fs]
  exact q
theorem zE:xq X (.builtin "len") (fun xs H Q=>∃p ys,xs=[.ref p]/\(SqL X.K H p ys\/SqT X.K H p ys)/\Q (.int ys.length) H):=by
 intro pins s σ H xs us Q I r h;obtain⟨p,ys,rfl,hq,q⟩:=h;obtain⟨u,rfl,rx⟩:=wt r;cases rx;have hn:=uC;rcases hq with hq|hq
 ·obtain⟨its,r',pl,hz⟩:=I.list hq
  have hlen:=r'.length;exact Calls.call_len_list pl.isList (by simp only[size_toArray] <;> omega) ⟨.int ys.length,H,I.tok _,⟨s.toks+1,by rw[size_toArray,hlen]⟩,q⟩
 ·obtain⟨its,r',pl,hz⟩:=I.tuple hq
  have hlen:=r'.length;exact len_tuple pl (by simp only[size_toArray] <;> omega) ⟨.int ys.length,H,I.tok _,⟨s.toks+1,by rw[size_toArray,hlen]⟩,q⟩
theorem vC:xq X (.builtin "len") (fun xs H Q=>∃z,xs=[.str z]/\z.length<=sizeLine/\Q (.int z.length) H):=by
 intro pins s σ H xs us Q I r h;obtain⟨z,rfl,hz,q⟩:=h;obtain⟨u,rfl,t,rfl⟩:=wt r;have hn:=uC;exact len_str ∅ ⟨.int z.length,H,I.tok _,⟨_,rfl⟩,q⟩
theorem y9:xq X (.type "list") (fun xs H Q=>∃p ys,xs=[.ref p]/\(SqL X.K H p ys\/SqT X.K H p ys)/\∀l,H l=none->Q (.ref l) (upd H l (.lst ys))):=by
 intro pins s σ H xs us Q I r h;obtain⟨p,ys,rfl,hq,q⟩:=h;obtain⟨u,rfl,rx⟩:=wt r;cases rx;have fin:∀its,zV ys its->ys.length<=sizeLine->∀h' (c':Nat),(∀b o',s.heap.get? b=some o'->h'.get? b=some o')->
   h'.get? s.heap.objs.size=some { cls:=.type "list",dict:=none,data:=.seq its.toArray c',slots:=#[] }->EP X pins σ Q (.ref s.heap.objs.size) { s with heap:=h' }:=fun its r' hz h' c' kp e=>
  ⟨.ref s.heap.objs.size,_,I.laid (t':=s.toks) kp (aF _) (show yT X.prog X.w _ h' _ (.lst ys) from ⟨hz,its,c',r',e⟩),rfl,q _ (I.hok.fresh (aF _))⟩
 rcases hq with hq|hq
 ·obtain⟨its,r',pl,hz⟩:=I.list hq
  have hlen:=r'.length;obtain⟨o,ho,hc,n,hd⟩:=pl.isList;exact call_list_seq p (.inl rfl) ho hc hd (fun h' c' kp e=>fin its r' hz h' c' kp e) (by simp only[size_toArray] <;> omega)
 ·obtain⟨its,r',pl,hz⟩:=I.tuple hq
  have hlen:=r'.length;obtain⟨o,ho,hc,n,hd⟩:=pl;exact call_list_seq p (.inr rfl) ho hc hd (fun h' c' kp e=>fin its r' hz h' c' kp e) (by simp only[size_toArray] <;> omega)
def tyV(K:Frag)(T:String)(x:V)(H:Hp):Prop:=match x with
 | .str _=>T="str"
 | .int _=>T="int"
 | .ref p=>(T="list"/\∃xs,SqL K H p xs)\/(T="tuple"/\∃o,K.lookup p=some o/\o.cls=.type "tuple"/\o.dict=none)\/
   (T="dict"/\((∃kvs,H p=some (.dK kvs))\/∃kvs,H p=some (.dT kvs)))\/(T="set"/\∃S n,H p=some (.set S n))
 | _=>False
theorem zgm(I:Inv X pins σ H s)(r:z5 x v)(ty:tyV X.K T x H):
  s.TypeIs v T/\∀a,v=.ref a->∃ob,s.heap.get? a=some ob/\ob.dict=none:=by
 cases x with
 | str z=>
  obtain⟨t,rfl⟩:=r;cases (show T="str" from ty);exact⟨typeIs_str s z t,fun _ e=>nomatch e⟩
 | int i=>
  obtain⟨t,rfl⟩:=r;cases (show T="int" from ty);exact⟨typeIs_int s i t,fun _ e=>nomatch e⟩
 | ref p=>
  cases r;rcases ty with ⟨rfl,xs,hq⟩|⟨rfl,o,hk,hc,hd⟩|⟨rfl,hk⟩|⟨rfl,S,n,hk⟩
  ·obtain⟨its,_,pl,_⟩:=I.list hq
   exists pl.isList.typeIs,fun a e=>?_;cases e;obtain⟨o,n,e,c,hd,_⟩:=pl;exact⟨o,e,hd⟩
  ·exists ⟨o,I.kIn p o hk,hc⟩,fun a e=>?_
   cases e;exact⟨o,I.kIn _ o hk,hd⟩
  ·have z:∃o,s.heap.get? p=some o/\o.ExactDict:=by
    rcases hk with ⟨kvs,hk⟩|⟨kvs,hk⟩
    ·obtain⟨_,_,_,_,o,_,_,e,ex,_⟩:=I.hok p _ hk
     exact⟨o,e,ex⟩
    ·obtain⟨_,_,_,_,o,_,_,e,ex,_⟩:=I.hok p _ hk
     exact⟨o,e,ex⟩
   obtain⟨o,e,ex⟩:=z;exists ⟨o,e,ex.1⟩,fun a e2=>?_;cases e2;exact⟨o,e,ex.2.1⟩
  ·obtain⟨o,_,_,_,e,ex,_⟩:=I.hok p _ hk
   exists ⟨o,e,ex.1⟩,fun a e2=>?_;cases e2;exact⟨o,e,ex.2.1⟩
 | _=>exact False.elim ty
def znf(K:Frag)(T:String)(r:V->List V->Hp->VK->Prop)(to:TE):TE:=fun σ H Q=>to σ H fun x H1=>tyV K T x H1/\r x [] H1 Q
def tBM(K:Frag)(T:String)(r:V->List V->Hp->VK->Prop)(to:TE)(t:TA):TE:=fun σ H Q=>to σ H fun x H1=>tyV K T x H1/\t σ H1 fun xs H2=>r x xs H2 Q
variable {to:TE}{t:TA}{r:V->List V->Hp->VK->Prop}
theorem zlj{X:Cx}{o:Expr}{name:Str}{apos cpos:Pos}{T id:String}(pa:PlainAttrs T)(slot:Slot T name id)(hty:typeOf (.builtin id)=pure (.type "method_descriptor"))(hm:MtR X id r)(ho:PE X o to)
  (hbase:attributeBase o name X.env (eval o X.env)=eval o X.env:=by rfl) (hline:(apos.endLine==cpos.line)=true:=by rfl):PE X (.Call (.Attribute o name apos) [] [] cpos) (znf X.K T r to):=by
 and_intros;refine wpAny_Call_method0_late hbase hline (thn (ho pins s σ H _ I h) fun v s1 ⟨x,H1,I1,r1,ty,q1⟩=>?_);obtain⟨h1,h2⟩:=zgm I1 r1 ty;exact⟨T,id,pa,slot,hty,h1,h2,Calls.callWith_builtin rfl (PySem.evalArgs_none (hm pins s1 σ H1 x [] v [] Q I1 r1 .nil q1))⟩
theorem xw{X:Cx}{e:Expr}{o:Expr}{es:List Expr}{name:Str}{apos cpos:Pos}{T id:String}(pa:PlainAttrs T)(slot:Slot T name id)(hty:typeOf (.builtin id)=pure (.type "method_descriptor"))(hm:MtR X id r)(ho:PE X o to)(ha:PA X (e::es) t)
  (hbase:attributeBase o name X.env (eval o X.env)=eval o X.env:=by rfl)
  (hfew:((backTo cpos (starEach (e::es) X.env)).all (fun x=>!x.1)&&(backToKw cpos (keywordEach [] X.env)).all (fun x=>x.1.isSome)
   && decide ((e::es).length+([]:List Keyword).length+(if ([]:List Keyword).isEmpty then 0 else 1)<30))=true:=by rfl)
  (hline:(apos.endLine==cpos.line)=true:=by rfl) (hs:starEach (e::es) X.env=(false,eval e X.env)::starEach es X.env:=by rfl) (hplain:(backTo cpos (starEach es X.env)).any (·.1)=false:=by rfl) :
  PE X (.Call (.Attribute o name apos) (e::es) [] cpos) (tBM X.K T r to t):=by
 and_intros;refine wpAny_Call_method_late hbase hfew hline rfl (thn (ho pins s σ H _ I h) fun v s1 ⟨x,H1,I1,r1,ty,q1⟩=>?_);obtain⟨h1,h2⟩:=zgm I1 r1 ty;exists T,id,pa,slot,hty,h1,h2,?_;have hA:=ha cpos pins s1 σ H1 _ I1 q1;rw[hs] at hA |-;refine Calls.callWith_builtin (by show(false||(backTo cpos (starEach es X.env)).any (·.1))=false;rw[hplain] <;> rfl) (Calls.evalArgs_plain ?_)
 exact thn hA fun us s2 ⟨vs,H2,I2,r2,q2⟩=>hm pins s2 σ H2 x vs v us Q I2 r1 r2 q2
def MtM(X:Cx)(id:String)(r:V->List V->Hp->VK->Prop):Prop:=
 ∀(pins:PnL) s (σ:St) H x xs v us (Q:VK),Inv X pins σ H s->z5 x v->zV xs us->r x xs H Q->
  ↑X (call (.builtin id) (v::us)) (EP X pins σ Q) X.xe s
theorem zV.one:∀{x:V}{us:List Value},zV [x] us->∃u,us=[u]/\z5 x u
 | _,_,.cons r .nil=>⟨_,rfl,r⟩
theorem zV.zero:∀{us:List Value},zV [] us->us=[]
 | _,.nil=>rfl
theorem zV.dropLast(h:zV xs us):zV xs.dropLast us.dropLast:=by
 induction h with
 | nil=>exact .nil
 | cons r t ih=>
  cases t with
  | nil=>exact .nil
  | cons q t'=>exact .cons r ih
theorem zV.eraseIdx:∀{xs:List V}{us:List Value}(i:Nat),zV xs us->zV (xs.eraseIdx i) (us.eraseIdx i)
 | _,_,_,.nil=>.nil
 | _,_,0,.cons _ t=>t
 | _,_,i+1,.cons r t=>.cons r (zV.eraseIdx i t)
theorem zV.rep{xs:List V}{us:List Value}(h:zV xs us):∀k:Nat,zV (List.replicate k xs).flatten (List.replicate k us).flatten
 | 0=>.nil
 | k+1=>by
  rw[replicate_succ,replicate_succ,flatten_cons,flatten_cons];exact zV.append h (zV.rep h k)
theorem zd3{α : Type}(l:List α):l.eraseIdx (l.length - 1)=l.dropLast:=by
 induction l with
 | nil=>rfl
 | cons a r ih=>
  cases r with
  | nil=>rfl
  | cons b r=>
   have e:(a::b::r).length - 1=((b::r).length - 1)+1:=by
    have h1:(a::b::r).length=r.length+2:=rfl;have h2:(b::r).length=r.length+1:=rfl;omega
   rw[e,List.eraseIdx_cons_succ,ih]
   all_goals rfl
theorem zaP{α : Type}:∀(l:List α) (i:Nat),(l.eraseIdx i).length<=l.length
 | [],_=>aF _
 | _::_,0=>le_succ _
 | _::r,i+1=>succ_le_succ (zaP r i)
theorem zaV(its:List Value):∀(k:Nat) (acc:List Value),
  List.foldl (fun x1 x2=>x1++x2) acc.toArray (List.replicate k its.toArray)=(acc++(List.replicate k its).flatten).toArray
 | 0,acc=>by simp
 | k+1,acc=>by
  have e:acc.toArray++its.toArray=(acc++its).toArray:=by simp
  have e2:(acc++its)++(List.replicate k its).flatten=acc++(List.replicate (k+1) its).flatten:=by
   rw[replicate_succ,flatten_cons,append_assoc]
  rw[<- e2,<- zaV its k (acc++its),<- e,replicate_succ,List.foldl_cons]
end
section
variable {H:Hp}{l b:Addr}{xs ys zs:List V}
theorem Inv.lset{X:Cx}{pins:PnL}{σ:St}{s:Shared}{its its':List Value}{n:Nat}{f:Array Value->Array Value}{t':Nat}(I:Inv X pins σ H s)(hH:H l=some (.lst xs))
  (e:s.heap.get? l=some { cls:=.type "list",data:=.seq its.toArray n }) (hf:f its.toArray=its'.toArray) (hv:zV ys its') (hz:ys.length<=sizeLine) :
  Inv X pins σ (upd H l (.lst ys)) { s with heap:=s.heap.update l (Obj.mapSeq f),toks:=t' }:=by
 have q:=PySem.IsL.update e f;rw[hf] at q;refine I.write (x:=l) (e:=l) (by rw[hH];exact trivial) (.inl rfl) (fun b' u hb hu=>(Heap.get?_update_other s.heap (Obj.mapSeq f) (Ne.symm hb)).trans hu) ⟨_,q⟩ ?_
 exact⟨hz,its',_,hv,q⟩
theorem Inv.lnew{t':Nat}(I:Inv X pins σ H s)(hv:zV ys its)(hz:ys.length<=sizeLine):
  Inv X pins σ (upd H s.heap.objs.size (.lst ys)) { s with heap:=s.heap.push { cls:=.type "list",data:=.seq its.toArray },toks:=t' }:=
 I.laid (fun _ _ q=>zgp _ q) (aF _) ⟨hz,its,0,hv,zgs _ rfl⟩
theorem Inv.fresh(I:Inv X pins σ H s):H s.heap.objs.size=none:=I.hok.fresh (aF _)
theorem Inv.lstM(I:Inv X pins σ H s)(hH:H l=some (.lst xs)):xs.length<=sizeLine/\∃(its:List Value) (n:Nat),zV xs its/\xs.length=its.length/\s.heap.get? l=some { cls:=.type "list",data:=.seq its.toArray n }:=by
 obtain⟨z,its,n,r,e⟩:=I.hok l _ hH;exact⟨z,its,n,r,r.length,e⟩
theorem zcC{n:Nat}(h:n<=sizeLine):Builtin.List.listTooLong n=false:=by
 unfold Builtin.List.listTooLong;exact aD ∅
inductive zjaJ(x:V)(vs:List V)(H:Hp)(Q:VK):Prop|mk(l xs y:_):x=.ref l->vs=[y]->H l=some (.lst xs)->xs.length<sizeLine->(Q .non (upd H l (.lst (xs++[y]))))->zjaJ x vs H Q
def zja:V->List V->Hp->VK->Prop:=fun x vs H Q=>zjaJ x vs H Q
theorem ya:MtM X "list.append" zja:=by
 intro pins s σ H x vs v us Q I rx rv h;obtain⟨l,xs,y,rfl,rfl,hH,hz,q⟩:=h;cases rx;obtain⟨u,rfl,ru⟩:=rv.one;obtain⟨z,its,n,r,hl,e⟩:=I.lstM hH;refine call_meets F.slot_list_append ⟨_,e,rfl⟩ F.entry_list_append (F.args_list_append_2 _ _) (PySem.list_append l its.toArray n u (by rw[size_toArray];omega)) ⟨e,?_⟩
 exists .non,_,I.lset (its':=its++[u]) hH e (by simp) (r.append (.cons ru .nil)) ?_,rfl,q
 rw[aG,length_singleton];omega
inductive zi9J(x:V)(vs:List V)(H:Hp)(Q:VK):Prop|mk(l b xs zs:_):x=.ref l->vs=[.ref b]->H l=some (.lst xs)->H b=some (.lst zs)->xs.length+zs.length<=sizeLine->(Q .non (upd H l (.lst (xs++zs))))->zi9J x vs H Q
def zi9:V->List V->Hp->VK->Prop:=fun x vs H Q=>zi9J x vs H Q
theorem zaO:MtM X "list.extend" zi9:=by
 intro pins s σ H x vs v us Q I rx rv h;obtain⟨l,b,xs,zs,rfl,rfl,hH,hB,hz,q⟩:=h;cases rx;obtain⟨u,rfl,ru⟩:=rv.one;cases ru;obtain⟨z,its,n,r,hl,e⟩:=I.lstM hH;obtain⟨z2,its2,n2,r2,hl2,e2⟩:=I.lstM hB;have hsz:its.toArray.size+its2.toArray.size<=sizeLine:=by rw[size_toArray,size_toArray];omega
 have hlong:¬(!its.toArray.isEmpty&&Builtin.List.listTooLong (its.toArray.size+its2.toArray.size))=true:=by
  rw[zcC hsz,Bool.and_false];exact zft
 refine call_meets F.slot_list_extend ⟨_,e,rfl⟩ F.entry_list_extend (F.args_list_extend_2 _ _)
  (AutoSeq1.list_extend_list_list_0 l its.toArray n b its2.toArray n2 hlong (by rw[size_toArray];omega) ∅) ⟨e,e2,?_⟩
 exists .non,_,I.lset (its':=its++its2) hH e (by simp) (r.append r2) ?_,rfl,q
 rw[aG];omega
inductive znoJ(x:V)(vs:List V)(H:Hp)(Q:VK):Prop|mk(l xs y:_):x=.ref l->vs=[]->H l=some (.lst xs)->xs[xs.length - 1]?=some y->(Q y (upd H l (.lst xs.dropLast)))->znoJ x vs H Q
def zno:V->List V->Hp->VK->Prop:=fun x vs H Q=>znoJ x vs H Q
theorem zly:MtM X "list.pop" zno:=by
 intro pins s σ H x vs v us Q I rx rv h;obtain⟨l,xs,y,rfl,rfl,hH,hy,q⟩:=h;cases rx;have hus:=rv.zero;subst hus;obtain⟨z,its,n,r,hl,e⟩:=I.lstM hH;obtain⟨u,hu,ru⟩:=r.get hy;have hy':its.toArray[its.toArray.size - 1]?=some u:=by
  show its.toArray[its.length - 1]?=some u;rw[<- Array.getElem?_toList,<- hl];exact hu
 refine call_meets F.slot_list_pop ⟨_,e,rfl⟩ F.entry_list_pop (F.args_list_pop_1 _) (MeetsSeq.list_pop_last l its.toArray n u hy' (by rw[size_toArray];omega)) ⟨e,?_⟩
 exists y,_,I.lset (its':=its.dropLast) hH e ?_ r.dropLast ?_,ru,q
 ·show its.toArray.eraseIdxIfInBounds (its.toArray.size - 1)=its.dropLast.toArray
  rw[size_toArray,List.eraseIdxIfInBounds_toArray,zd3]
 ·rw[List.length_dropLast]
  omega
inductive zlcJ(x:V)(vs:List V)(H:Hp)(Q:VK):Prop|mk(l xs i k y:_):x=.ref l->vs=[.int i]->H l=some (.lst xs)->-(2 ^ 63)<=i->i<2 ^ 63->seqIndex? i xs.length=some k->xs[k]?=some y->(Q y (upd H l (.lst (xs.eraseIdx k))))->zlcJ x vs H Q
def zlc:V->List V->Hp->VK->Prop:=fun x vs H Q=>zlcJ x vs H Q
theorem zhV:MtM X "list.pop" zlc:=by
 intro pins s σ H x vs v us Q I rx rv h;obtain⟨l,xs,i,k,y,rfl,rfl,hH,h1,h2,hk,hy,q⟩:=h;cases rx;obtain⟨u,rfl,ru⟩:=rv.one;obtain⟨t,rfl⟩:=ru;obtain⟨z,its,n,r,hl,e⟩:=I.lstM hH;obtain⟨w,hw,rw'⟩:=r.get hy;refine call_meets F.slot_list_pop ⟨_,e,rfl⟩ F.entry_list_pop (F.args_list_pop_2 _ _)
  (MeetsSeq.list_pop_at l its.toArray n i t k w (fitsIndex_both h1 h2) (by rw[size_toArray,<- hl];exact hk) (by rw[<- Array.getElem?_toList];exact hw) (by rw[size_toArray];omega)) ⟨e,?_⟩
 exists y,_,I.lset (its':=its.eraseIdx k) hH e ?_ (r.eraseIdx k) ?_,rw',q
 ·show its.toArray.eraseIdxIfInBounds k=(its.eraseIdx k).toArray
  rw[List.eraseIdxIfInBounds_toArray]
 ·have:=zaP xs k
  omega
inductive zntJ(x:V)(y:V)(H:Hp)(Q:VK):Prop|mk(l b xs zs:_):x=.ref l->y=.ref b->H l=some (.lst xs)->H b=some (.lst zs)->xs.length+zs.length<=sizeLine->(∀p,H p=none->Q (.ref p) (upd H p (.lst (xs++zs))))->zntJ x y H Q
def znt:R2:=fun x y H Q=>zntJ x y H Q
theorem yA:OpR X (binaryOp .Add) znt:=by
 intro pins s σ H x y v u Q I rx ry h;obtain⟨l,b,xs,zs,rfl,rfl,hH,hB,hz,q⟩:=h;cases rx;cases ry;obtain⟨z,its,n,r,hl,e⟩:=I.lstM hH;obtain⟨z2,its2,n2,r2,hl2,e2⟩:=I.lstM hB;refine PySem.P.add_list e e2 ?_ (by rw[size_toArray,size_toArray];omega)
 have ea:its.toArray++its2.toArray=(its++its2).toArray:=by simp
 rw[ea];exact⟨.ref _,_,I.lnew (t':=s.toks) (r.append r2) (by rw[aG];omega),rfl,q _ I.fresh⟩
inductive znnJ(x:V)(y:V)(H:Hp)(Q:VK):Prop|mk(l k xs:_):x=.ref l->y=.int k->H l=some (.lst xs)->-(2 ^ 63)<=k->k<2 ^ 63->xs.length * k.toNat<=sizeLine->(∀p,H p=none->Q (.ref p) (upd H p (.lst (List.replicate k.toNat xs).flatten)))->znnJ x y H Q
def znn:R2:=fun x y H Q=>znnJ x y H Q
theorem zjF{α : Type}(xs:List α)(k:Nat):(List.replicate k xs).flatten.length=k * xs.length:=by
 induction k with
 | zero=>simp
 | succ k ih=>rw[replicate_succ,flatten_cons,aG,ih,Nat.succ_mul,Nat.add_comm]
theorem zhp:OpR X (binaryOp .Mult) znn:=by
 intro pins s σ H x y v u Q I rx ry h;obtain⟨l,k,xs,rfl,rfl,hH,h1,h2,hz,q⟩:=h;cases rx;obtain⟨t,rfl⟩:=ry;obtain⟨z,its,n,r,hl,e⟩:=I.lstM hH;have hlen:its.toArray.size * k.toNat<=sizeLine:=by rw[size_toArray,<- hl];exact hz
 have hcap:¬its.toArray.size * k.toNat>(2 ^ 63 - 1) / 8:=by
  have:(sizeLine:Nat)<=(2 ^ 63 - 1) / 8:=by decide
  omega
 have hfit:¬(!Builtin.List.listFitsIndex k)=true:=by
  rw[fitsIndex_both h1 h2];exact zft
 have hlong:¬Builtin.List.listTooLong (its.toArray.size * k.toNat)=true:=by
  rw[zcC hlen];exact zft
 have hnew:List.foldl (fun x1 x2=>x1++x2) #[] (List.replicate (if its.toArray.isEmpty=true then 0 else k.toNat) its.toArray)=(List.replicate k.toNat its).flatten.toArray:=by
  have f0:∀m:Nat,List.foldl (fun x1 x2=>x1++x2) #[] (List.replicate m its.toArray)=(List.replicate m its).flatten.toArray:=fun m=>by
   have:=zaV its m []
   rw[nil_append] at this;exact this
  rw[f0];cases its with
  | nil=>simp
  | cons a r'=>rw[aJ (by simp)]
 refine wpAny_binaryOp_repeat_ref (T:="list") (U:="int") ⋯ ⟨_,e,rfl⟩ (fun s'=>typeIs_int s' k t) noFill_list_mul F.fills_int_mul F.slot_int_rmul repeat_list F.slot_int_index.lookup
  (call_meets F.slot_int_rmul (typeIs_int s k t) F.entry_int_rmul (F.args_int_rmul_2 _ _) (int___rmul___int_list k t l its.toArray n)
   ⟨e,rfl,⟨_,e,rfl⟩,call_meets F.slot_list_mul ⟨_,e,rfl⟩ F.entry_list_mul (F.args_list_mul_2 _ _) (AutoListH.list___mul___list_int_3 l its.toArray n k t hfit hcap hlong) ⟨e,?_⟩⟩)
 rw[hnew];exact⟨.ref _,_,I.lnew (t':=s.toks) (r.rep k.toNat) (by rw[zjF,Nat.mul_comm];exact hz),rfl,q _ I.fresh⟩
variable {E:VSP}
end
section
variable {κ : Type}[DecidableEq κ]
def yd(kvs:List (κ×V))(k : κ):Option V:=(kvs.find? fun kv=>decide (kv.1=k)).map (·.2)
def xo(kvs:List (κ×V))(k : κ)(v:V):List (κ×V):=
 if (kvs.any fun kv=>decide (kv.1=k))=true then kvs.map (fun kv=>if kv.1=k then (kv.1,v) else kv) else kvs++[(k,v)]
theorem xj{p : κ×V}{r:List (κ×V)}{k : κ}(e:p.1=k):yd (p::r) k=some p.2:=by simp [yd,find?_cons,e]
theorem xk{p : κ×V}{r:List (κ×V)}{k : κ}(e:¬p.1=k):yd (p::r) k=yd r k:=by simp [yd,find?_cons,e]
theorem wW(k : κ):∀kvs:List (κ×V),(kvs.any fun kv=>decide (kv.1=k))=(yd kvs k).isSome
 | []=>rfl
 | p::r=>by
  rw[any_cons];by_cases e:p.1=k
  ·simp only[xj e,aC e,Bool.true_or,Option.isSome_some]
  ·rw[xk e,aD e,Bool.false_or];exact wW k r
theorem zb2(k j : κ)(y:V):∀kvs:List (κ×V),yd (kvs.map fun kv=>if kv.1=k then (kv.1,y) else kv) j=(yd kvs j).map fun x=>if j=k then y else x
 | []=>rfl
 | p::r=>by
  have ih:=zb2 k j y r;rw[map_cons];by_cases h:p.1=k
  ·rw[aK h]
   by_cases e:p.1=j
   ·rw[xj (p:=(p.1,y)) e,xj e,map_some,aK (e.symm.trans h)]
   ·rw[xk (p:=(p.1,y)) e,xk e,ih]
  ·rw[aJ h]
   by_cases e:p.1=j
   ·rw[xj (p:=p) e,xj e,map_some,aJ (fun z=>h (e.trans z))]
   ·rw[xk (p:=p) e,xk e,ih]
theorem zay(k j : κ)(y:V):∀kvs:List (κ×V),yd kvs k=none->yd (kvs++[(k,y)]) j=if j=k then some y else yd kvs j
 | [],_=>by
  by_cases e:k=j
  ·rw[aK e.symm];exact xj (p:=(k,y)) e
  ·rw[aJ (fun z=>e z.symm)];exact xk (p:=(k,y)) e
 | p::r,hn=>by
  rw[List.cons_append];have hk:¬p.1=k:=fun z=>by rw[xj z] at hn;cases hn
  rw[xk hk] at hn;have ih:=zay k j y r hn;by_cases e:p.1=j
  ·rw[xj e,xj e,aJ (fun z=>hk (e.trans z))]
  ·rw[xk e,xk e,ih]
theorem zb1(kvs:List (κ×V))(k j : κ)(y:V):yd (xo kvs k y) j=if j=k then some y else yd kvs j:=by
 unfold xo;by_cases a:(kvs.any fun kv=>decide (kv.1=k))=true
 ·rw[aK a,zb2]
  rw[wW] at a;by_cases e:j=k
  ·obtain⟨x,hx⟩:=Option.isSome_iff_exists.mp a
   rw[aK e,e,hx,map_some,aK rfl]
  ·rw[aJ e]
   cases yd kvs j with
   | none=>rfl
   | some x=>rw[map_some,aJ e]
 ·rw[aJ a]
  refine zay k j y kvs ?_;rw[wW] at a;cases q:yd kvs k with
  | none=>rfl
  | some x=>rw[q] at a;exact(a rfl).elim
theorem x8(kvs:List (κ×V))(k : κ)(v:V):(xo kvs k v).length<=kvs.length+1:=by
 unfold xo;split
 ·rw[aA];omega
 ·rw[aG,length_cons,length_nil];omega
theorem jh.isSome_eq(r:jh o u):o.isSome=u.isSome:=by
 cases o with
 | none=>cases u with
  | none=>rfl
  | some _=>exact(show False from r).elim
 | some _=>cases u with
  | none=>exact(show False from r).elim
  | some _=>rfl
theorem jh.getD(r:jh o u)(rd:z5 d d'):z5 (o.getD d) (u.getD d'):=by
 cases o with
 | none=>cases u with
  | none=>exact rd
  | some _=>exact(show False from r).elim
 | some _=>cases u with
  | none=>exact(show False from r).elim
  | some _=>exact r
theorem KV.val(r:KV kvs vs)(k : κ):jh (yd kvs k) (valueAt vs k):=by
 unfold KV at r;induction r with
 | nil=>exact True.intro
 | @cons p q ps qs h t ih=>
  obtain⟨h1,h2⟩:=h;by_cases e:p.1=k
  ·have e':q.1=k:=h1.symm.trans e
   have b:valueAt (q::qs) k=some q.2:=by simp [valueAt,find?_cons,e']
   rw[xj e,b];exact h2
  ·have e':¬q.1=k:=fun z=>e (h1.trans z)
   have b:valueAt (q::qs) k=valueAt qs k:=by simp [valueAt,find?_cons,e']
   rw[xk e,b];exact ih
theorem KV.any(r:KV kvs vs)(k : κ):(kvs.any fun kv=>decide (kv.1=k))=vs.any fun kv=>decide (kv.1=k):=by
 unfold KV at r;induction r with
 | nil=>rfl
 | cons h t ih=>rw[any_cons,any_cons,ih,h.1]
theorem KV.repl(r:KV kvs vs)(k : κ)(ry:z5 y u):
  KV (kvs.map fun kv=>if kv.1=k then (kv.1,y) else kv) (vs.map fun kv=>if kv.1=k then (kv.1,u) else kv):=by
 unfold KV at r |-;induction r with
 | nil=>exact .nil
 | @cons p q ps qs h t ih=>
  rw[map_cons,map_cons];refine .cons ?_ ih;obtain⟨h1,h2⟩:=h;by_cases e:p.1=k
  ·rw[aK e,aK (h1.symm.trans e)];exact⟨h1,ry⟩
  ·rw[aJ e,aJ (fun z=>e (h1.trans z))];exact⟨h1,h2⟩
theorem KV.put(r:KV kvs vs)(k : κ)(ry:z5 y u):KV (xo kvs k y) (stored vs k u):=by
 unfold xo stored;rw[r.any k];by_cases e:(vs.any fun kv=>decide (kv.1=k))=true
 ·rw[aK e,aK e];exact r.repl k ry
 ·rw[aJ e,aJ e];exact Paired.snoc r ⟨rfl,ry⟩
theorem KV.length(r:KV kvs vs):kvs.length=vs.length:=Paired.length r
end
theorem qV(r:z5 (kV k) u):(yx P w).is k u=true:=by
 cases k with
 | inl i=>obtain⟨t,e⟩:=(show ∃t,u=Value.int i t from r);subst e;exact zcH P w i t
 | inr x=>obtain⟨t,e⟩:=(show ∃t,u=Value.str x t from r);subst e;exact zcG P w x t
theorem zaR{P:Program}{w:World}:∀{ks:List Key}{us:List Value},zV (ks.map kV) us->ItemsAre (yx P w) ks us
 | [],_,r=>by rw[map_nil] at r;cases r;exact .nil
 | k::ks,_,r=>by
  rw[map_cons] at r;cases r with
  | cons h t=>exact .cons (qV h) (zaR t)
abbrev KT(H:Hp):List (List Key×V)->List (List Key×Addr×Value)->Prop:=Paired fun p q=>p.1=q.1/\H q.2.1=some (.tup (p.1.map kV))/\z5 p.2 q.2.2
theorem KT.val(r:KT H kvs xs)(k:List Key):jh (yd kvs k) ((atKey xs k).map (·.2)):=by
 induction r with
 | nil=>exact True.intro
 | @cons p q ps qs h t ih=>
  obtain⟨h1,_,h2⟩:=h;by_cases e:p.1=k
  ·have e':q.1=k:=h1.symm.trans e
   have b:atKey (q::qs) k=some q.2:=by simp [atKey,find?_cons,e']
   rw[xj e,b];exact h2
  ·have e':¬q.1=k:=fun z=>e (h1.trans z)
   have b:atKey (q::qs) k=atKey qs k:=by simp [atKey,find?_cons,e']
   rw[xk e,b];exact ih
theorem KT.repl(r:KT H kvs xs)(k:List Key)(ry:z5 y u):
  KT H (kvs.map fun kv=>if kv.1=k then (kv.1,y) else kv) (xs.map (putAt k u)):=by
 induction r with
 | nil=>exact .nil
 | @cons p q ps qs h t ih=>
  rw[map_cons,map_cons];refine .cons ?_ ih;obtain⟨h1,h2,h3⟩:=h;unfold putAt;by_cases e:p.1=k
  ·rw[aK e,aK (h1.symm.trans e)];exact⟨h1,h2,ry⟩
  ·rw[aJ e,aJ (fun z=>e (h1.trans z))];exact⟨h1,h2,h3⟩
theorem KT.put(r:KT H kvs xs)(k:List Key)(hb:H b=some (.tup (k.map kV)))(ry:z5 y u):
  KT H (xo kvs k y) (storedH xs k b u):=by
 have e:(kvs.any fun kv=>decide (kv.1=k))=(atKey xs k).isSome:=by
  rw[wW,(r.val k).isSome_eq,isSome_map]
 unfold xo storedH;rw[e];by_cases q:(atKey xs k).isSome=true
 ·rw[aK q,aK q];exact r.repl k ry
 ·rw[aJ q,aJ q];exact Paired.snoc r ⟨rfl,hb,ry⟩
theorem KT.keeps(r:KT H kvs xs)(ht:∀b ys,H b=some (.tup ys)->H' b=some (.tup ys)):KT H' kvs xs:=
 wM r fun _ _ z=>⟨z.1,ht _ _ z.2.1,z.2.2⟩
section
variable {a:Addr}
theorem zko(ok:HOk P w H h)(e:Rd H a u):yT P w H h a u:=e.ok ok
theorem zaf(ok:HOk P w H h)(e:Rd H a (.dK kvs)):kvs.length<=sizeLine/\(a==sysModules)=false/\∃vs,KV kvs vs/\h.DictOf (yx P w) a vs:=
 show yT P w H h a (.dK kvs) from zko ok e
theorem zkw(ok:HOk P w H h)(e:H a=some (.dK kvs)):kvs.length<=sizeLine/\(a==sysModules)=false/\∃vs,KV kvs vs/\h.DictOf (yx P w) a vs:=zaf ok (.inl e)
theorem jw(ok:HOk P w H h)(e:H a=some (.tup (ks.map kV))):(tupleKind (yx P w)).is h ks a:=by
 obtain⟨_,its,r,o,h1,h2,n,h3⟩:=(show yT P w H h a (.tup (ks.map kV)) from ok a _ e);exact⟨o,its.toArray,n,h1,h2,h3,by simpa using zaR r⟩
theorem zac(ok:HOk P w H h)(e:Rd H a (.dT kvs)):kvs.length<=sizeLine/\(a==sysModules)=false/\
  ∃xs,KT H kvs xs/\h.DictOfH (tupleKind (yx P w)) a xs:=by
 obtain⟨z,y,xs,r,o,es,ep,h1,h2,h3,h4,h5⟩:=(show yT P w H h a (.dT kvs) from zko ok e);exists z,y,xs,r,o,es,ep,h1,h2,h3,h4,fun x hx=>?_,h5;have all:∀{l:List (List Key×V)}{m:List (List Key×Addr×Value)},KT H l m->∀x∈m,(tupleKind (yx P w)).is h x.1 x.2.1:=by
  intro l m q;induction q with
  | nil=>intro x hx;exact nomatch hx
  | @cons p q ps qs hq t ih=>
   intro x hx;rcases List.mem_cons.mp hx with e|hx
   ·subst e
    exact jw ok (by rw[<- hq.1];exact hq.2.1)
   ·exact ih x hx
 exact all r x hx
theorem zmT(ok:HOk P w H h)(e:H a=some (.dT kvs)):kvs.length<=sizeLine/\(a==sysModules)=false/\
  ∃xs,KT H kvs xs/\h.DictOfH (tupleKind (yx P w)) a xs:=zac ok (.inl e)
def zbY(H:Hp)(a:Addr)(y:V)(r:Option V):Prop:=
 (∃kvs k,Rd H a (.dK kvs)/\y=kV k/\r=yd kvs k)\/∃kvs k b,Rd H a (.dT kvs)/\y=.ref b/\H b=some (.tup (k.map kV))/\r=yd kvs k
def zm2(H:Hp)(a:Addr)(y v:V)(H':Hp):Prop:=
 (∃kvs k,H a=some (.dK kvs)/\y=kV k/\kvs.length<sizeLine/\H'=upd H a (.dK (xo kvs k v)))\/
 ∃kvs k b,H a=some (.dT kvs)/\y=.ref b/\H b=some (.tup (k.map kV))/\kvs.length<sizeLine/\H'=upd H a (.dT (xo kvs k v))
variable {σ:St}{y v:V}{o:Option V}{E:VSP}
theorem Inv.big(I:Inv X pins σ H s):sysModules<s.heap.objs.size:=by
 have h:mainGlobals<s.heap.objs.size:=(I.mod.glob.keeps I.bk).lt;exact lt_trans ⋯ h
theorem zf3{Q:VSP}(hu:A.units+1<cLine)(I:Inv X pins σ H s)(g:zbY H a y (some v))(ry:z5 y u)(h:∀w' s',Inv X pins σ H s'->z5 v w'->Q w' s'):
  wpAny (model X.prog X.w) A (getItem (.ref a) u) Q E s:=by
 rcases g with ⟨kvs,k,e,ey,l⟩|⟨kvs,k,b,e,ey,eb,l⟩
 ·subst ey
  obtain⟨z,hd,vs,rel,dd⟩:=zaf I.hok e;obtain⟨w',hw,rw'⟩:=vD (v:=v) (o:=valueAt vs k) (by rw[l];exact rel.val k)
  exact wpAny_getItem_of (qV ry) dd.mapOf hw (h w' _ (I.tok _) rw')
 ·subst ey
  cases (show u=Value.ref b from ry);obtain⟨z,hd,xs,rel,dd⟩:=zac I.hok e;obtain⟨w',hw,rw'⟩:=vD (v:=v) (o:=(atKey xs k).map (·.2)) (by rw[l];exact rel.val k)
  obtain⟨p,hp,hp2⟩:=Option.map_eq_some_iff.mp hw;refine wpAny_getItem_heap (tupleKind_room_in1 hu) (jw I.hok eb) dd hp ?_;rw[hp2];exact h w' _ (I.tok _) rw'
theorem znP{Q:VSP}(hu:A.units+1<cLine)(I:Inv X pins σ H s)(g:zbY H a y o)(ry:z5 y u)(h:∀s',Inv X pins σ H s'->Q (.bool o.isSome) s'):
  wpAny (model X.prog X.w) A (compareOp .In u (.ref a)) Q E s:=by
 rcases g with ⟨kvs,k,e,ey,l⟩|⟨kvs,k,b,e,ey,eb,l⟩
 ·subst ey
  obtain⟨z,hd,vs,rel,dd⟩:=zaf I.hok e;refine wpAny_in_of (qV ry) hd dd.mapOf ?_;rw[<- (rel.val k).isSome_eq,<- l];exact h _ (I.tok _)
 ·subst ey
  cases (show u=Value.ref b from ry);obtain⟨z,hd,xs,rel,dd⟩:=zac I.hok e;refine wpAny_in_heap (tupleKind_room_in1 hu) (jw I.hok eb) hd dd ?_;have q:=(rel.val k).isSome_eq;rw[isSome_map] at q;rw[<- q,<- l];exact h _ (I.tok _)
theorem zjV{Q:VSP}(hu:A.units+1<cLine)(I:Inv X pins σ H s)(g:zbY H a y o)(ry:z5 y u)(h:∀s',Inv X pins σ H s'->Q (.bool (!o.isSome)) s'):
  wpAny (model X.prog X.w) A (compareOp .NotIn u (.ref a)) Q E s:=by
 rcases g with ⟨kvs,k,e,ey,l⟩|⟨kvs,k,b,e,ey,eb,l⟩
 ·subst ey
  obtain⟨z,hd,vs,rel,dd⟩:=zaf I.hok e;refine wpAny_notIn_of (qV ry) hd dd.mapOf ?_;rw[<- (rel.val k).isSome_eq,<- l];exact h _ (I.tok _)
 ·subst ey
  cases (show u=Value.ref b from ry);obtain⟨z,hd,xs,rel,dd⟩:=zac I.hok e;refine wpAny_notIn_heap (tupleKind_room_in1 hu) (jw I.hok eb) hd dd ?_;have q:=(rel.val k).isSome_eq;rw[isSome_map] at q;rw[<- q,<- l];exact h _ (I.tok _)
theorem zbV{t':Nat}(I:Inv X pins σ H s)(mu:Mut (H a))(hs:Heap.SameBut a s.heap h')(he:∃q,h'.get? a=some q)(new:yT X.prog X.w (upd H a ob) h' a ob):
  Inv X pins σ (upd H a ob) { s with heap:=h',toks:=t' }:=
 I.write (x:=a) (e:=a) mu (.inl rfl) (fun b q hb z=>(hs.2 b hb).trans z) he new
theorem zim(z:kvs.length<=sizeLine)(hd:(a==sysModules)=false)(rel:KV kvs vs)(dd:h'.DictOf (yx P w) a vs):
  yT P w H' h' a (.dK kvs):=⟨z,hd,vs,rel,dd⟩
theorem zf2{Q:Unit->Shared->Prop}(hu:A.units+1<cLine)(I:Inv X pins σ H s)(g:zm2 H a y v H')(ry:z5 y u)(rv:z5 v r)(h:∀s',Inv X pins σ H' s'->Q () s'):
  wpAny (model X.prog X.w) A (setItem (.ref a) u r) Q E s:=by
 rcases g with ⟨kvs,k,e,ey,l,eH⟩|⟨kvs,k,b,e,ey,eb,l,eH⟩
 ·subst ey eH
  obtain⟨z,hd,vs,rel,dd⟩:=zkw I.hok e;have hz:vs.length<=sizeLine:=by rw[<- rel.length];exact z
  have hl:(xo kvs k v).length<=sizeLine:=by have:=x8 kvs k v;omega
  refine wpAny_setItem_pairs (hsz:=hz) (qV ry) dd fun h' dd' hs=>h _ ?_;have he:∃q,h'.get? a=some q:=let ⟨q,_,_,hq,_⟩:=dd';⟨q,hq⟩;exact zbV I (by rw[e];exact True.intro) hs he (zim hl hd (rel.put k rv) dd')
 ·subst ey eH
  cases (show u=Value.ref b from ry);obtain⟨z,hd,xs,rel,dd⟩:=zmT I.hok e;have hz:xs.length<=sizeLine:=by rw[<- Paired.length rel];exact z
  have hl:(xo kvs k v).length<=sizeLine:=by have:=x8 kvs k v;omega
  refine wpAny_setItem_heap (hsz:=hz) (tupleKind_room_in1 hu) (jw I.hok eb) dd fun h' dd' hs=>h _ ?_;obtain⟨q,es,ep,hq,h2,h3,h4,_,h5⟩:=dd';refine zbV I (by rw[e];exact True.intro) hs ⟨q,hq⟩ ⟨hl,hd,_,(rel.put k eb rv).keeps fun c ys ec=>?_,q,es,ep,hq,h2,h3,h4,h5⟩
  rw[zi (wl ec e (fun z=>nomatch z))];exact ec
def zlT(i:Expr):Prop:=∀ov iv,subscripted i false ov iv=operate [ov,iv] (getItem ov iv)
theorem zek{prog:Program}{w:World}{A:Around}{E:VSP}{s:Shared}{env:Env}{value slice:Expr}{pos:Pos}{T id:String}{Q:VSP}
  (hl:typeLookup (.type T) "__getitem__"=pure (some (.builtin id))) (hs:zlT slice)
  (h:wpAny (model prog w) A (eval value env) (fun o s₁=>wpAny (model prog w) A (eval slice env) (fun i s₂=>s₂.TypeIs o T/\wpAny (model prog w) A (getItem o i) Q E s₂) E s₁) E s) :
  wpAny (model prog w) A (eval (.Subscript value slice pos) env) Q E s:=by
 refine Subscript_ (wpAny_mono h (fun o s₁ h₁=>wpAny_mono h₁ (fun i s₂ h₂=>?_) fun _ _ x=>x) fun _ _ x=>x);obtain⟨hT,h₂⟩:=h₂;unfold subscriptTail;refine zwb ?_;rw[getitemInPython_of_ne hT.not_modules];refine zwb (wpAny_specialOf hT hl ?_);have fin:wpAny (model prog w) A (subscripted slice false o i) (fun r s₃=>wpAny (model prog w) A (letTemporaryGo value o r >>= fun _=>pure r) Q E s₃) E s₂:=by
  rw[hs o i];exact wpAny_operating (wpAny_mono h₂ (fun r s₃ h₃=>zwb (wpAny_letTemporaryGo (zwp h₃))) fun _ _ x=>x)
 first
  | exact zwp (zwb fin)
  | exact zwb (zwp (zwb fin))
  | exact zwb fin
theorem zcQ(I:Inv X pins σ H s)(g:zbY H a y o):s.TypeIs (.ref a) "dict":=by
 rcases g with ⟨kvs,k,e,_,_⟩|⟨kvs,k,b,e,_,_,_⟩
 ·obtain⟨_,_,vs,_,dd⟩:=zaf I.hok e
  exact dd.typeIs
 ·obtain⟨_,_,xs,_,dd⟩:=zac I.hok e
  exact dd.typeIs
inductive zl6J(Q:VK)(x:V)(y:V)(H2:Hp):Prop|mk(a v:_):x=.ref a->zbY H2 a y (some v)->(Q v H2)->zl6J Q x y H2
def zl6(td ty:TE):TE:=fun σ H Q=>td σ H fun x H1=>ty σ H1 fun y H2=>zl6J Q x y H2
inductive zneJ(Q:VK)(y:V)(x:V)(H2:Hp):Prop|mk(a o:_):x=.ref a->zbY H2 a y o->(Q (.bl o.isSome) H2)->zneJ Q y x H2
def zne(ty td:TE):TE:=fun σ H Q=>ty σ H fun y H1=>td σ H1 fun x H2=>zneJ Q y x H2
inductive ziIJ(Q:VK)(y:V)(x:V)(H2:Hp):Prop|mk(a o:_):x=.ref a->zbY H2 a y o->(Q (.bl (!o.isSome)) H2)->ziIJ Q y x H2
def ziI(ty td:TE):TE:=fun σ H Q=>ty σ H fun y H1=>td σ H1 fun x H2=>ziIJ Q y x H2
inductive zmkJ(D:L2.jQ)(σ:St)(v:V)(x:V)(y:V)(H3:Hp):Prop|mk(a H4:_):x=.ref a->zm2 H3 a y v H4->(D.nx σ H4)->zmkJ D σ v x y H3
def zmk(td ty tv:TE):TS:=fun D σ H=>tv σ H fun v H1=>td σ H1 fun x H2=>ty σ H2 fun y H3=>zmkJ D σ v x y H3
end
section
variable {X:Cx}{o i e value:Expr}{td ty tv:TE}
theorem zeG(hu:X.A.units+1<cLine)(ho:PE X o td)(hi:PE X i ty)(hs:zlT i):PE X (.Subscript o i pos) (zl6 td ty):=by
 and_intros;refine zek PySem.F.slot_dict_getitem.lookup hs (thn (ho pins s σ H _ I h) fun u s1 ⟨x,H1,I1,rx,q1⟩=>thn (hi pins s1 σ H1 _ I1 q1) fun iv s2 ⟨y,H2,I2,ry,a,v,ex,g,q2⟩=>?_);subst ex;obtain rfl:u=Value.ref a:=rx;exact⟨zcQ I2 g,zf3 hu I2 g ry fun w' s3 I3 rw'=>⟨v,H2,I3,rw',q2⟩⟩
theorem zlk(hu:X.A.units+1<cLine)(hi:PE X i ty)(ho:PE X o td):PC X .In i o (zne ty td):=by
 and_intros;refine thn (hi pins s σ H _ I h) fun iv s1 ⟨y,H1,I1,ry,q1⟩=>thn (ho pins s1 σ H1 _ I1 q1) fun u s2 ⟨x,H2,I2,rx,a,ov,ex,g,q2⟩=>?_;subst ex;obtain rfl:u=Value.ref a:=rx;exact znP hu I2 g ry fun s3 I3=>⟨.bl ov.isSome,H2,I3,rfl,q2⟩
theorem zfv(hu:X.A.units+1<cLine)(hi:PE X i ty)(ho:PE X o td):PC X .NotIn i o (ziI ty td):=by
 and_intros;refine thn (hi pins s σ H _ I h) fun iv s1 ⟨y,H1,I1,ry,q1⟩=>thn (ho pins s1 σ H1 _ I1 q1) fun u s2 ⟨x,H2,I2,rx,a,ov,ex,g,q2⟩=>?_;subst ex;obtain rfl:u=Value.ref a:=rx;exact zjV hu I2 g ry fun s3 I3=>⟨.bl (!ov.isSome),H2,I3,rfl,q2⟩
theorem zjb(hu:X.A.units+1<cLine)(ho:PE X o td)(hi:PE X i ty)(hv:PE X value tv)(hs:swapsWith value (some (.Subscript o i pos')) pos.line X.env=pure false):
  PS X (.Assign [.Subscript o i pos'] value pos) (zmk td ty tv):=by
 exists ?_;intro pins s σ H D I h;refine wpAny_Assign_Subscript (thn (hv pins s σ H _ I h) fun r s1 ⟨v,H1,I1,rv,q1⟩=>thn (ho pins s1 σ H1 _ I1 q1) fun u s2 ⟨x,H2,I2,rx,q2⟩=>thn (hi pins s2 σ H2 _ I2 q2) fun iv s3 ⟨y,H3,I3,ry,a,H4,ex,g,q3⟩=>?_) hs;subst ex;obtain rfl:u=Value.ref a:=rx;exact zf2 hu I3 g ry rv fun s4 I4=>⟨σ,H4,I4,q3⟩
theorem zio(h:Heap)(hb:sysModules<h.objs.size):yT P w H (h.push { cls:=.type "dict",data:=.dict #[] }) h.objs.size (.dK []):=
 ⟨zero_le _,beq_eq_false_iff_ne.mpr (Ne.symm (ne_of_lt hb)),[],.nil,Heap.DictOf.new h⟩
def zkD:TE:=fun _ H Q=>∀p,H p=none->Q (.ref p) (upd H p (.dK []))
theorem zhk:PE X (.Dict [] [] pos) zkD:=⟨fun pins s σ H Q I h=>
 wpAny_Dict_empty ⟨.ref s.heap.objs.size,_,I.laid (a:=s.heap.objs.size) (o:=.dK []) (t':=s.toks) (fun _ _ q=>zgp _ q) (aF _) (zio s.heap I.big),rfl,h _ (I.hok.fresh (aF _))⟩⟩
def zkB:List (TE×TE)->St->Hp->(List (V×V)->Hp->Prop)->Prop
 | [],_,H,Q=>Q [] H
 | (tk,tv)::r,σ,H,Q=>tk σ H fun x H1=>tv σ H1 fun y H2=>zkB r σ H2 fun ps H3=>Q ((x,y)::ps) H3
structure M1(X:Cx)(o:Expr)(m:Str)(apos:Pos)(e:Expr)(cpos:Pos):Prop where
 base:attributeBase o m X.env (eval o X.env)=eval o X.env
 few:((backTo cpos (starEach [e] X.env)).all (fun x=>!x.1)&&(backToKw cpos (keywordEach [] X.env)).all (fun x=>x.1.isSome)
  && decide (([e]:List Expr).length+([]:List Keyword).length+(if ([]:List Keyword).isEmpty then 0 else 1)<30))=true
 line:(apos.endLine==cpos.line)=true
 trees:backTo cpos (starEach [e] X.env)=[(false,eval e X.env)]
def IsD(H:Hp)(a:Addr):Prop:=(∃kvs,Rd H a (.dK kvs))\/∃kvs,Rd H a (.dT kvs)
theorem zlE(I:Inv X pins σ H s)(d:IsD H a):
  s.TypeIs (.ref a) "dict"/\(∀b,Value.ref a=.ref b->∃ob,s.heap.get? b=some ob/\ob.dict=none)/\(a==sysModules)=false:=by
 rcases d with ⟨kvs,e⟩|⟨kvs,e⟩
 ·obtain⟨_,hd,vs,_,dd⟩:=zaf I.hok e
  exists dd.typeIs,fun b q=>?_,hd;cases q;obtain⟨ob,_,_,h1,h2,_⟩:=dd;exact⟨ob,h1,h2.2.1⟩
 ·obtain⟨_,hd,xs,_,dd⟩:=zac I.hok e
  exists dd.typeIs,fun b q=>?_,hd;cases q;obtain⟨ob,_,_,h1,h2,_⟩:=dd;exact⟨ob,h1,h2.2.1⟩
end
section
variable {σ:St}{a:Addr}{y d:V}{o:Option V}{E:VSP}
theorem zlN{Q:VSP}(hu:A.units+1<cLine)(I:Inv X pins σ H s)(g:zbY H a y o)(ry:z5 y u)(h:∀w' s',Inv X pins σ H s'->z5 (o.getD .non) w'->Q w' s'):
  wpAny (model X.prog X.w) A (call (.builtin "dict.get") [.ref a,u]) Q E s:=by
 rcases g with ⟨kvs,k,e,ey,l⟩|⟨kvs,k,b,e,ey,eb,l⟩
 ·subst ey
  obtain⟨z,hd,vs,rel,dd⟩:=zaf I.hok e;refine call_meetsIn PySem.F.slot_dict_get dd.typeIs PySem.F.entry_dict_get (PySem.F.args_dict_get_2 _ _) (meets_dict_get (yx X.prog X.w) a (qV ry) hd) ⟨_,dd.mapOf,h _ _ (I.tok _) ?_⟩;rw[l];exact(rel.val k).getD rfl
 ·subst ey
  cases (show u=Value.ref b from ry);obtain⟨z,hd,xs,rel,dd⟩:=zac I.hok e;refine call_meetsIn PySem.F.slot_dict_get dd.typeIs PySem.F.entry_dict_get (PySem.F.args_dict_get_2 _ _) (meetsH_dict_get (tupleKind (yx X.prog X.w)) a b hd) ⟨tupleKind_room_in1 hu,k,xs,jw I.hok eb,dd,h _ _ (I.tok _) ?_⟩;rw[l];exact(rel.val k).getD rfl
inductive zkEJ(ty:TE)(σ:St)(Q:VK)(x:V)(H1:Hp):Prop|mk(a:_):x=.ref a->IsD H1 a->(ty σ H1 fun y H2=>∃o,zbY H2 a y o/\Q (o.getD .non) H2)->zkEJ ty σ Q x H1
def zkE(td ty:TE):TE:=fun σ H Q=>td σ H fun x H1=>zkEJ ty σ Q x H1
end
section
variable {td ty tx:TE}
theorem zhl(hu:X.A.units+1<cLine)(ho:PE X o td)(he:PE X e ty)(m:M1 X o "get" apos e cpos):PE X (.Call (.Attribute o "get" apos) [e] [] cpos) (zkE td ty):=by
 and_intros;refine wpAny_Call_method m.base m.few m.line PySem.F.plainAttrs_dict PySem.F.slot_dict_get PySem.F.type_dict_get (thn (ho pins s σ H _ I h) fun u s1 ⟨x,H1,I1,rx,a,ex,d,q1⟩=>?_);subst ex;obtain rfl:u=Value.ref a:=rx;obtain⟨t1,t2,_⟩:=zlE I1 d;exists t1,t2,?_;rw[m.trees];refine Calls.callWith_builtin rfl (Calls.evalArgs_plain (Calls.spliced_cons (thn (he pins s1 σ H1 _ I1 q1) fun iv s2 ⟨y,H2,I2,ry,ov,g,q2⟩=>Calls.spliced_nil ?_)));exact zlN hu I2 g ry fun w' s3 I3 rw'=>⟨_,H2,I3,rw',q2⟩
variable {E:VSP}
end
end L2
namespace Att
open PySem PySem.W PySem.Calls PyProof.Rows
theorem jN:∀(ns:List Int) vs,WellAll P h vs (ns.map WData.int)->IntsAre vs ns:=by
 intro ns;induction ns with
 | nil=>
  intro vs w;rw[map_nil] at w;cases w;exact .nil
 | cons n ns ih=>
  intro vs w;rw[map_cons] at w;cases w with
  | cons a b=>
   cases a;exact .cons _ _ (ih _ b)
theorem zfl{l:OpenLaw}{n:Nat}(hn:l.most=some n){P:Params}{h:Heap}{args:List WData}{vals:List Value}
  (hpre:l.row.toRowW.claim.pre args=true) (hwl:WellAll P h vals args) :
  ∃a vs ns,vals=[Value.ref a]/\args=[WData.list (ns.map WData.int)]/\h.get? a=some { cls:=.type "list",data:=.seq vs.toArray }/\IntsAre vs ns/\ns.length<=n:=by
 have hsh:WShape.hasAll [] args [.list .int]=true:=(pre_splitW hpre).1;have hc:l.pre.holds [] { args:=args }=true:=(pre_splitW hpre).2;obtain⟨d,r,rfl,h1,h2⟩:=hasAllW_cons hsh;obtain rfl:=hasAllW_nil h2;obtain⟨xs,rfl,h3⟩:=hasW_list h1;obtain⟨ns,rfl⟩:=items_int h3;have hlen:ns.length<=n:=by
  unfold OpenLaw.pre at hc;have h4:(WTm.not (.lt (.lit (.int (n:Int))) (.len (.arg 0)))).holds [] { args:=[.list (ns.map .int)] }=true:=by
   have h4:=(holds_andW hc).1;rw[hn] at h4;exact h4
  have h5:=condW_of h4 (w_not (w_lt w_lit (w_len_list (w_arg rfl))));rw[L2.aA] at h5;refine Nat.le_of_not_lt fun q=>?_;have q':(n:Int)<((ns.length:Nat):Int):=by omega
  first
   | (rw[L2.aC q'] at h5;exact absurd h5 ⋯)
   | (simp at h5;omega)
 cases hwl with
 | cons w1 w2=>
  cases w2;cases w1 with
  | list ho hall=>exact⟨_,_,ns,rfl,rfl,ho,jN ns _ hall,hlen⟩
theorem zfq(l:OpenLaw)(args:List WData):l.row.toRowW.claim.post args (.bool true) args=true:=
 postW_of (r:=l.row.toRowW) (X:=(true==true))
  (show WShape.has [] (.bool true) .bool=true by first|rfl|decide|simp [WShape.has,WShape.arms,WShape.armsAll])
  (show(WTm.eq .res (.lit (.bool true))).value [] { args:=args,res:=some (.bool true),after:=args }=some (.bool (true==true)) from w_eq_bool (w_res rfl) w_lit) rfl
section
def znL(h:Heap)(L d:Addr):List (Addr×Obj):=(List.range h.objs.size).filterMap fun a=>if a=L\/a=d then none else (h.get? a).map fun o=>(a,o)
end
end Att
namespace L2
open PySem PySem.Spec PyProof.Rows
theorem zax:∀{vs:List Value}{ns:List Int},IntsAre vs ns->zV (ns.map V.int) vs
 | _,_,.nil=>.nil
 | _,_,.cons n t h=>.cons ⟨t,rfl⟩ (zax h)
def zlS(H:Hp):Prop:=∀b,H b=none\/∃o xs,H b=some (.frz o (.lst xs))
theorem zh1{P:Program}{w:World}{K:Frag}{mg mb:Str->Option Value}{CX:CXT}{k:Nat}{fa a:Addr}{fd:FuncData}{x:Str}{sp:Sp}{s₁:Shared}{vs:List Value}{ns:List Int}
  (KX:K.In s₁.heap) (hns:s₁.heap.Ns mainGlobals mg) (hb:s₁.heap.Ns builtinsNs mb) (hbb:∀x:Str,x≠"__name__"->mb x=bootBuiltins x) (hlim:s₁.heap.NoLimit) (hg:s₁.gens=#[])
  (ha:s₁.heap.get? a=some { cls:=.type "list",data:=.seq vs.toArray }) (hi:IntsAre vs ns) (hl:ns.length<=sizeLine) (hr:yk k callerA)
  (F:∀base:Heap,K.In base->base.Ns mainGlobals mg->zL P w K mg base CX k fa fd [x] sp) (hbind:∀(s:Shared) (u:Value),BindsTo s fd ⟨[u],[]⟩ [(x,u)])
  (hsp:∀H:Hp,zlS H->SqL K H a (ns.map V.int)->sp [.ref a] H (fun v _=>v=.bl true) fun _ _ _=>False)
  (hCX:∀H e s',CX [] H s₁ (fun _ _ _=>False) e s'->False) :
  codeAny (model P w) callerA (.call (.ref fa) ⟨[.ref a],[]⟩) (fun r s'=>r=.ok (.ret (.bool true))/\OldK s₁.heap s'.heap/\s'.os=s₁.os/\AllBare s'.gens) s₁:=by
 have rv:=zax hi;have lenV:=hi.length;have core:∀H:Hp,zlS H->SqL K H a (ns.map V.int)->HOk P w H s₁.heap->(∀b,H b≠none->b=a)->(H a≠none->K.lookup a=none)->
   codeAny (model P w) callerA (.call (.ref fa) ⟨[.ref a],[]⟩) (fun r s'=>r=.ok (.ret (.bool true))/\OldK s₁.heap s'.heap/\s'.os=s₁.os/\AllBare s'.gens) s₁:=by
  intro H hO hS hok hA hK;have base_of:∀{b:Addr}{o:Obj},s₁.heap.get? b=some o->H b=none->(zbR s₁.heap H).get? b=some o:=fun e n=>zh9 e n;have noA:∀{b:Addr}{o:Obj}{es:Array DictEntry}{ep:Nat},s₁.heap.get? b=some o->o.data=.dict es ep->H b=none:=fun {b o es ep} e d=>by
   cases q:H b with
   | none=>rfl
   | some u=>
    have e':b=a:=hA b (by rw[q];simp)
    subst e';rw[ha] at e;cases e;have d':Data.seq vs.toArray _=Data.dict es ep:=d;cases d'
  have nsK:∀{b:Addr}{m:Str->Option Value},s₁.heap.Ns b m->(zbR s₁.heap H).Ns b m:=fun {b m} ⟨o,es,ep,e,d,r⟩=>⟨o,es,ep,base_of e (noA e d),d,r⟩;have hKb:K.In (zbR s₁.heap H):=fun b o e=>base_of (KX b o e) (by
   cases q:H b with
   | none=>rfl
   | some u=>
    have e':b=a:=hA b (by rw[q];simp)
    subst e';rw[hK (by rw[q];simp)] at e;cases e)
  have hM:Mod K mg (zbR s₁.heap H):=⟨hKb,nsK hns,⟨mb,nsK hb,hbb⟩,let ⟨mc,h1,h2⟩:=hlim;⟨mc,nsK h1,h2⟩⟩;have e0:zav P w K mg (zbR s₁.heap H) callerA [] s₁ H:=⟨rfl,hM,fun b o e=>zjB e,Nat.le_of_eq (zfZ _ _),trivial,fun b hb=>absurd (show b∈([]:List Addr) from hb) (by simp),hok,.of_eq hg⟩
  refine codeAny_mono ((F _ hKb (nsK hns)).run callerA [] s₁ H ⟨[.ref a],[]⟩ [.ref a] [.ref a] _ _ hr e0 (hbind s₁ (.ref a)) (.cons rfl .nil) (hsp H hO hS)) fun r s' h=>?_;cases r with
  | error e=>exact(hCX H e s' h).elim
  | ok fl=>
   cases fl with
   | next=>exact False.elim h
   | brk=>exact False.elim h
   | cont=>exact False.elim h
   | ret u=>
    obtain⟨v,H',os,bare,un,hok',r',q⟩:=h;have q':v=.bl true:=q;subst q';obtain rfl:u=Value.bool true:=r';exists rfl,OldK.of_keep fun b o e=>?_,os,bare;cases q:H b with
    | none=>exact un.keep b o e q (by intro z;exact absurd (show b∈([]:List Addr) from z) (by simp)) (by simp)
    | some u=>
     rcases hO b with z|⟨ob,xs,z⟩
     ·rw[q] at z;cases z
     ·have z2:=un.frzs b ob _ z
      obtain⟨e1,_⟩:=hok b _ z;obtain⟨e2,_⟩:=hok' b _ z2;rw[e] at e1;cases e1;exact e2
 cases hk:K.lookup a with
 | some o=>
  have e:=KX a o hk;rw[ha] at e;cases e;refine core (fun _=>none) (fun _=>.inl rfl) (.inr ⟨_,vs.toArray,_,hk,rfl,rfl,rfl,by rw[size_toArray,lenV];exact hl,by simpa using rv⟩) (fun b u z=>by have z':(none:Option HO)=some u:=z;cases z') (fun b z=>absurd rfl z) fun z=>absurd rfl z
 | none=>
  refine core (fun b=>if b=a then some (.frz { cls:=.type "list",data:=.seq vs.toArray } (.lst (ns.map V.int))) else none) (fun b=>?_) (.inl (.inr ⟨{ cls:=.type "list",data:=.seq vs.toArray },aK rfl⟩)) (fun b u z=>?_) (fun b z=>?_) fun _=>hk
  ·by_cases hb:b=a
   ·exact .inr ⟨_,_,aK hb⟩
   ·exact .inl (aJ hb)
  ·by_cases hb:b=a
   ·have z':=(aK hb).symm.trans z
    cases z';subst hb;exact⟨ha,by rw[aA];exact hl,vs,_,rv,ha⟩
   ·have z':=(aJ hb).symm.trans z
    cases z'
  ·by_cases hb:b=a
   ·exact hb
   ·exact absurd (aJ hb) z
def yE(s:Stmt)(j:Nat):Stmt:=match s with
 | .ClassDef _ _ _ body _ _ _ _ _ _ _=>body.getD j (.Pass ⟨0,0,0,0⟩)
 | _=>.Pass ⟨0,0,0,0⟩
def yq(s:Stmt):Arguments:=match s with
 | .FunctionDef _ a _ _ _ _ _ _ _ _=>a
 | _=>{ posonlyargs:=[],args:=[],vararg:=none,kwonlyargs:=[],kw_defaults:=[],kwarg:=none,defaults:=[] }
def yh(s:Stmt):List Stmt:=match s with
 | .FunctionDef _ _ b _ _ _ _ _ _ _=>b
 | _=>[]
def zh(s:Stmt):Scope:=match s with
 | .FunctionDef _ _ _ _ _ _ sc _ _ _=>sc
 | _=>{ kind:=.function,names:=[],isGenerator:=false,isCoroutine:=false }
abbrev CX0:CXT:=fun _ _ _ _ _ _=>False
abbrev E0:XK:=fun _ _ _=>False
theorem yt:wU CX0 X E0:=fun _ _ _ _ _ _ _ h=>h.elim
structure Fun(K:Frag)(x qual:Str)(st:Stmt)(f:Addr)(fd:FuncData):Prop where
 ex:∃(oc:Value) (od:Option Addr) (kV doc pm:Value) (an:Option Addr) (cdv ct:Value) (osl:Array (Option Value)),
  fd=fnOf x qual (yq st) (yh st) (zh st) .none kV doc pm an cdv ct/\K.lookup f=some ⟨oc,od,.func fd,osl⟩/\codeIn K cdv qual=true
 kp:keepIn K (.ref f)=true
section
variable {mg:Str->Option Value}
theorem Fun.ok{P:Program}{w:World}{K:Frag}{base:Heap}{x qual:Str}{st:Stmt}{f:Addr}{fd:FuncData}{N ps:List Str}{k:Nat}{sp:Sp}(F:Fun K x qual st f fd)(S:zA N ps (zh st))(hbody:∀(cdv:Value) (A:Around) (outer:List Env) (s:Shared) (H:Hp) (vs:List V) (Q:VK) (E:XK),yk k (A.deeper (envOfC qual (zh st) s.heap.objs.size f cdv))->sp vs H Q E->
   ∃t,PSs (zd4 CX0 P w K mg base N qual (zh st) f cdv A outer s H E).nox (yh st) t/\t { nx:=fun _ H'=>Q .non H',rt:=Q } (uM N vs) H) (len:∀vs H Q E,sp vs H Q E->vs.length=ps.length:=by intro vs H Q E h;first|(obtain⟨_,rfl,_⟩:=h;rfl)|(obtain⟨_,_,rfl,_⟩:=h;rfl)|(obtain⟨_,_,_,rfl,_⟩:=h;rfl)|(obtain⟨_,_,_,_,rfl,_⟩:=h;rfl)|(obtain⟨_,_,_,_,_,rfl,_⟩:=h;rfl)|(obtain⟨_,_,_,_,_,_,rfl,_⟩:=h;rfl)|(obtain⟨_,_,_,_,_,_,_,rfl,_⟩:=h;rfl)|(obtain⟨_,_,_,_,_,_,_,_,rfl,_⟩:=h;rfl)|(obtain⟨_,_,_,_,_,_,_,_,_,rfl,_⟩:=h;rfl)|(obtain⟨_,_,_,_,_,_,_,_,_,_,rfl,_⟩:=h;rfl)|(obtain⟨_,_,_,_,_,_,_,_,_,_,_,rfl,_⟩:=h;rfl)|(obtain⟨_,_,_,_,_,_,_,_,_,_,_,_,rfl,_⟩:=h;rfl)|(obtain⟨_,_,_,_,_,_,_,_,_,_,_,_,_,rfl,_⟩:=h;rfl)|(obtain⟨_,_,_,_,_,_,_,_,_,_,_,_,_,_,rfl,_⟩:=h;rfl)|(obtain⟨_,_,_,_,_,_,_,_,_,_,_,_,_,_,_,rfl,_⟩:=h;rfl)|(obtain⟨_,_,_,_,_,_,_,_,_,_,_,_,_,_,_,_,rfl,_⟩:=h;rfl)):zL P w K mg base CX0 (k+1) f fd ps sp:=by
 obtain⟨oc,od,kV,doc,pm,an,cdv,ct,osl,rfl,lk,hcd⟩:=F.ex;refine zku lk hcd S len fun A outer s H vs Q E hr hsp=>?_;obtain⟨t,h,q⟩:=hbody cdv A outer s H vs Q E hr hsp;exact⟨t,h.nox,q⟩
theorem Fun.binds{K:Frag}{x qual:Str}{st:Stmt}{f:Addr}{fd:FuncData}{ps:List Str}(F:Fun K x qual st f fd)
  (h:∀(kV doc pm:Value) (an:Option Addr) (cdv ct:Value) (us:List Value),us.length=ps.length->bindArgs (fnOf x qual (yq st) (yh st) (zh st) .none kV doc pm an cdv ct) ⟨us,[]⟩=pure (ps.zip us)):yc K fd ps []:=by
 obtain⟨oc,od,kV,doc,pm,an,cdv,ct,osl,rfl,lk,hcd⟩:=F.ex;exact .all (h kV doc pm an cdv ct)
theorem zid{K:Frag}{x qual:Str}{st:Stmt}{f:Addr}{oc:Value}{od an:Option Addr}{osl:Array (Option Value)}{kV doc pm cdv ct:Value}(l:K.lookup f=some ⟨oc,od,.func (fnOf x qual (yq st) (yh st) (zh st) .none kV doc pm an cdv ct),osl⟩)
  (c:codeIn K cdv qual=true) (k:keepIn K (.ref f)=true):Fun K x qual st f (fnOf x qual (yq st) (yh st) (zh st) .none kV doc pm an cdv ct):=⟨⟨oc,od,kV,doc,pm,an,cdv,ct,osl,rfl,l,c⟩,k⟩
theorem zeV{k:Nat}(hr:yk k A):A.units+1<cLine:=lt_of_le_of_lt (Nat.add_le_add_left (by decide : 1<=64) _) hr.units
theorem zY{n:Nat}(h:n<=1000):n<sizeLine:=lt_of_le_of_lt h ⋯
theorem pv(i:Nat)(hN:X.N[i]?=some x:=by rfl)(hv:Vis X.env.scope x:=by first|exact Or.inl rfl|exact Or.inr (Or.inl rfl)|exact Or.inr (Or.inr rfl))(hd:(x==("__debug__" : Str))=false:=by decide)
  (hcd:(x==("__classdict__" : Str))=false:=by decide):PE X (.Name x pos) (zal i):=zlg hN hv hd hcd
theorem yD{A B:Prop}(h:B):if false=true then A else B:=by
 rw[aJ zft];exact h
theorem xO{A B:Prop}(h:A):if true=true then A else B:=by
 rw[aK rfl];exact h
theorem wQ{c A B:Prop}[Decidable c](h1:c->A)(h2:¬c->B):if c then A else B:=by
 by_cases h:c
 ·rw[aK h]
  exact h1 h
 ·rw[aJ h]
  exact h2 h
def zq(H H':Hp):Prop:=∀b o,H b=some o->H' b=some o
theorem zq.refl(H:Hp):zq H H:=fun _ _ h=>h
theorem zq.trans(a:zq H H1)(b:zq H1 H2):zq H H2:=fun c o h=>b c o (a c o h)
theorem zq.free(e:zq H H')(h:H' l=Option.none):H l=Option.none:=by
 cases q:H l with
 | none=>rfl
 | some o=>
  rw[e l o q] at h;cases h
theorem zq.seq{K:Frag}{H H':Hp}{a:Addr}{xs:List V}(e:zq H H')(h:SqL K H a xs):SqL K H' a xs:=by
 rcases h with (h|⟨o,h⟩)|h
 ·exact .inl (.inl (e _ _ h))
 ·exact .inl (.inr ⟨o,e _ _ h⟩)
 ·exact .inr h
end
section
variable {κ : Type}[DecidableEq κ]
end
def clB(env:Env)(fr:List Str):List (Str×Addr):=fr.map fun n=>(n,(env.cells.lookup n).getD 0)
theorem zai{env:Env}:∀{fr:List Str}{x:Str}{c:Addr},(clB env fr).lookup x=some c->x∈fr/\c=(env.cells.lookup x).getD 0
 | [],x,c,h=>by simp [clB] at h
 | n::r,x,c,h=>by
  have h':List.lookup x ((n,(env.cells.lookup n).getD 0)::clB env r)=some c:=h;rw[lookup_cons] at h';cases e:x==n with
  | true=>
   rw[e] at h';have e':x=n:=by simpa using e
   subst e';exact⟨mem_cons_self,(Option.some.inj h').symm⟩
  | false=>
   rw[e] at h';obtain⟨h1,h2⟩:=zai h';exact⟨mem_cons_of_mem _ h1,h2⟩
theorem jy{env:Env}:∀{fr:List Str}{x:Str},x∈fr->(clB env fr).lookup x=some ((env.cells.lookup x).getD 0)
 | n::r,x,h=>by
  show List.lookup x ((n,(env.cells.lookup n).getD 0)::clB env r)=_;rw[lookup_cons];cases e:x==n with
  | true=>
   have e':x=n:=by simpa using e
   subst e';rfl
  | false=>
   rcases List.mem_cons.mp h with z|z
   ·subst z;simp at e
   ·exact jy z
theorem wC{env:Env}:∀{names:List (Str×NameKind)}{x:Str}{k:NameKind},
  (names.map fun (n,k)=>if (k==NameKind.free&&env.scope.kind==.function&&env.kindOf n==some .cell) then (n,NameKind.cell) else (n,k)).lookup x=some k->
  ∃k0,(x,k0)∈names/\(k=k0\/(k0=.free/\k=.cell))
 | [],_,_,h=>by simp at h
 | (n,k0)::r,x,k,h=>by
  have h':List.lookup x ((if (k0==NameKind.free&&env.scope.kind==.function&&env.kindOf n==some .cell)=true then (n,NameKind.cell) else (n,k0)) ::
   (r.map fun (n,k)=>if (k==NameKind.free&&env.scope.kind==.function&&env.kindOf n==some .cell) then (n,NameKind.cell) else (n,k)))=some k:=h
  by_cases hc:(k0==NameKind.free&&env.scope.kind==.function&&env.kindOf n==some .cell)=true
  ·rw[aK hc,lookup_cons] at h'
   cases e:x==n with
   | true=>
    rw[e] at h';have e':x=n:=by simpa using e
    subst e';simp only[Bool.and_eq_true] at hc;exact⟨k0,mem_cons_self,.inr ⟨by simpa using hc.1.1,(Option.some.inj h').symm⟩⟩
   | false=>
    rw[e] at h';obtain⟨k1,h1,h2⟩:=wC h';exact⟨k1,mem_cons_of_mem _ h1,h2⟩
  ·rw[aJ hc,lookup_cons] at h'
   cases e:x==n with
   | true=>
    rw[e] at h';have e':x=n:=by simpa using e
    subst e';exact⟨k0,mem_cons_self,.inl (Option.some.inj h').symm⟩
   | false=>
    rw[e] at h';obtain⟨k1,h1,h2⟩:=wC h';exact⟨k1,mem_cons_of_mem _ h1,h2⟩
theorem wm{env:Env}(hk:env.scope.kind=.function):∀{names:List (Str×NameKind)}{x:Str},names.lookup x=some .free->env.kindOf x=some .cell->
  (names.map fun (n,k)=>if (k==NameKind.free&&env.scope.kind==.function&&env.kindOf n==some .cell) then (n,NameKind.cell) else (n,k)).lookup x=some .cell
 | [],_,h,_=>by simp at h
 | (n,k0)::r,x,h,hx=>by
  show List.lookup x ((if (k0==NameKind.free&&env.scope.kind==.function&&env.kindOf n==some .cell)=true then (n,NameKind.cell) else (n,k0)) ::
   (r.map fun (n,k)=>if (k==NameKind.free&&env.scope.kind==.function&&env.kindOf n==some .cell) then (n,NameKind.cell) else (n,k)))=some .cell
  rw[lookup_cons] at h;cases e:x==n with
  | true=>
   rw[e] at h;have e':x=n:=by simpa using e
   subst e';have h0:k0=.free:=Option.some.inj h;subst h0;rw[aK (by rw[hk,hx];decide),lookup_cons]
   simp
  | false=>
   rw[e] at h;have ih:=wm hk h hx;split
   ·rw[lookup_cons,e];exact ih
   ·rw[lookup_cons,e];exact ih
abbrev yb(X:Cx)(pins:PnL)(sc:Scope)(fr Nc:List Str)(fp:List Addr)(s:Shared)(H:Hp)(C:Addr):Cx:=
 { prog:=X.prog,w:=X.w,K:=X.K,mg:=X.mg,base:=X.base,A:=X.A,N:=Nc,s₀:=s,H₀:=H,env:=compEnvC sc (clB X.env fr) C X.env,outer:=X.stack,stack:=X.stack,ex:=fp,fn:=fun _=>false,calm:=X.calm,pn:=X.pn++pins,xe:=fun _ _=>False }
structure xa(env:Env)(sc:Scope)(fr:List Str):Prop where
 kind:sc.kind=.function
 clos:closureFor sc env=pure (clB env fr)
 cells:(fr.all fun n=>(env.cells.lookup n).isSome)=true
 names:(sc.names.all fun y=>(y.2 != .cell)&&(y.2 != .free||fr.contains y.1)&&(y.2 != .local||sc.names.lookup y.1==some .local))=true
def wz(N Nc:List Str)(caps:List (Option Nat))(env:Env)(sc:Scope)(fr:List Str):Bool:=
 (Nc.zip caps).all fun p=>match p.2 with
  | none=>true
  | some j=>(N[j]?==some p.1)&&(env.kindOf p.1==some .cell)&&(sc.names.lookup p.1==some .free)&&fr.contains p.1
def yW(caps:List (Option Nat))(σ : St):St:=caps.map fun o=>match o with
 | none=>none
 | some j=>(σ[j]?).join
section
variable {X:Cx}{pins:PnL}{σ:St}{H:Hp}{s:Shared}
theorem xa.sub(B:xa env sc fr)(h:(clB env fr).lookup x=some c):env.cells.lookup x=some c:=by
 obtain⟨h1,h2⟩:=zai h;have h3:=List.all_eq_true.mp B.cells x h1;obtain⟨d,hd⟩:=Option.isSome_iff_exists.mp h3;rw[hd] at h2 |-;rw[h2];rfl
theorem xa.free(B:xa env sc fr)(h:(relabel sc env).names.lookup x=some k)(hk:k=.cell\/k=.free):x∈fr:=by
 obtain⟨k0,h1,h2⟩:=wC h;have h3:=List.all_eq_true.mp B.names _ h1;simp only[Bool.and_eq_true,Bool.or_eq_true,bne_iff_ne,ne_eq,contains_iff_mem] at h3;have h4:k0=.free:=by
  rcases h2 with h2|⟨h2,_⟩
  ·subst h2
   rcases hk with z|z
   ·exact absurd z h3.1.1
   ·exact z
  ·exact h2
 rcases h3.1.2 with z|z
 ·exact absurd h4 z
 ·exact z
theorem ze9(I:Inv X pins σ H s)(B:xa X.env sc fr)(hf:∀b∈fp,xQ X pins H b)(ho:∀b∈fp,∃o,s.heap.get? b=some o)(hC:s.heap.objs.size<=C):(yb X pins sc fr Nc fp s H C).Ok where
 mod:=I.ok.mod
 kind:=B.kind
 glob:=I.ok.glob
 blt:=I.ok.blt
 above:=hC
 inj:=fun x y c h1 h2=>I.ok.inj x y c (B.sub h1) (B.sub h2)
 has:=fun x h=>by
  have hx:x∈fr:=by
   rcases h with h|h
   ·exact B.free h (.inl rfl)
   ·exact B.free h (.inr rfl)
  exact⟨_,jy hx⟩
 cab:=fun x c h=>absurd h (by simp)
 hd:=I.ok.hd
 frames:=I.ok.frames
 stk:=.inl rfl
 exf:=fun b hb=>by
  obtain⟨o,e⟩:=ho b hb;exists fun z=>?_,fun x c h=>(hf b hb).2.2.2.2.1 x c (B.sub h);have z':b=C:=z
  have:=aI e
  rw[z'] at this;exact absurd (lt_of_lt_of_le this hC) (lt_irrefl _)
 bs:=I.bs
 bsz:=Nat.le_trans I.ok.bsz I.sz
 noex:=fun b o e hb=>by
  rcases (hf b hb).2.2.2.1 with z|z
  ·exact I.ok.noex b o e z
  ·exact absurd (lt_of_lt_of_le (aI (I.ok.bs b o e).1) z) (lt_irrefl _)
 exfs:=fun b hb h=>by
  rcases List.mem_cons.mp (I.stkSub b h) with z|z
  ·exact(hf b hb).2.1 z
  ·exact(hf b hb).2.2.1 z
 funs:=I.stack
 frf:=I.stkFree
theorem Inv.pin_lt(I:Inv X pins σ H s)(hp:p∈X.pn++pins):p.1<s.heap.objs.size:=aI (I.pin p hp).1
theorem zd5{m:Str->Option Value}{t' n0:Nat}(I:Inv X pins σ H s)(B:xa X.env sc fr)(hf:∀b∈fp,xQ X pins H b)(ho:∀b∈fp,∃o,s.heap.get? b=some o)
  (hC:s.heap.objs.size<=C) (hD:s.heap.objs.size<=D) (hDC:D≠C) (keep:∀b o,s.heap.get? b=some o->h'.get? b=some o) (hl:h'.get? D=some { cls:=.type "list",data:=.seq ([]:List Value).toArray n0 }) (hn:h'.Ns C m)
  (hcap:wz X.N Nc caps X.env sc fr=true) (hlen:caps.length=Nc.length) :
  Inv (yb X pins sc fr Nc fp s H C) [] (yW caps σ) (upd H D (.lst [])) { s with heap:=h',toks:=t' }:=by
 have hk:X.env.scope.kind=.function:=I.ok.kind;have fresh:∀a,s.heap.objs.size<=a->H a=none:=fun a ha=>I.hok.fresh ha;exists ze9 I B hf ho hC,rfl,I.bare,Un.laid keep hD (fresh D hD),⟨m,hn,fun i x v e1 e2 e3=>?_⟩,fun x c h=>?_,?_,fun x c h=>?_,fun p hp=>?_,?_,?_
 ·
  have e2':(caps[i]?).map (fun o=>match o with|none=>none|some j=>(σ[j]?).join)=some (some v):=by
   have:(yW caps σ)[i]?=some (some v):=e2
   unfold yW at this;rw[getElem?_map] at this;exact this
  cases hc:caps[i]? with
  | none=>rw[hc] at e2';cases e2'
  | some o=>
   rw[hc] at e2';cases o with
   | none=>simp at e2'
   | some j=>
    have e4:(σ[j]?).join=some v:=by simpa using e2'
    have e5 : σ[j]?=some (some v):=by
     cases q : σ[j]? with
     | none=>rw[q] at e4;cases e4
     | some w'=>rw[q] at e4;simp at e4;rw[e4]
    have e6:(Nc.zip caps)[i]?=some (x,some j):=by
     rw[List.getElem?_zip_eq_some];exact⟨e1,hc⟩
    have e7:=List.all_eq_true.mp hcap _ (aH e6);simp only[Bool.and_eq_true,beq_iff_eq,contains_iff_mem] at e7;obtain⟨⟨⟨a1,a2⟩,a3⟩,a4⟩:=e7;obtain⟨m0,hn0,hl0⟩:=I.loc;obtain⟨u,r,l⟩:=hl0 j x v a1 e5 (.inr (.inl a2));exists u,r,.inr ⟨.inl (wm hk a3 a2),_,jy a4,?_⟩;rcases l with ⟨z,_⟩|⟨_,c,ec,hcell⟩
    ·rw[a2] at z;cases z
    ·have:(X.env.cells.lookup x).getD 0=c:=by rw[ec];rfl
     rw[this];exact hcell.keeps keep
 ·obtain⟨v,hv⟩:=I.cell x c (B.sub h)
  exact⟨v,hv.keeps keep⟩
 ·show upd H D (.lst []) C=none
  rw[zi (Ne.symm hDC)];exact fresh C hC
 ·obtain⟨v,hv⟩:=I.cell x c (B.sub h)
  have:c≠D:=fun z=>by have:=hv.lt;rw[z] at this;exact absurd (lt_of_lt_of_le this hD) (lt_irrefl _)
  rw[zi this];exact I.freeC x c (B.sub h)
 ·have hp':p∈X.pn++pins:=by simpa using hp
  obtain⟨e,n,ne,nf,d⟩:=I.pin p hp';have hlt:=I.pin_lt hp';exists keep _ _ e,?_,?_,fun z=>?_,d
  ·rw[zi (fun z=>by rw[z] at hlt;exact absurd (lt_of_lt_of_le hlt hD) (lt_irrefl _))];exact n
  ·intro z
   have z':p.1=C:=z;rw[z'] at hlt;exact absurd (lt_of_lt_of_le hlt hC) (lt_irrefl _)
  ·rcases List.mem_cons.mp (I.stkSub p.1 z) with q|q
   ·exact ne q
   ·exact nf q
 ·exact I.hok.laid keep hD ⟨zero_le _,[],n0,.nil,hl⟩
 ·show(yW caps σ).length=Nc.length
  unfold yW;rw[aA,hlen]
theorem jx(I:Inv X pins σ H s)(hf:∀b∈fp,xQ X pins H b)(J:Inv (yb X pins sc fr Nc fp s H C) pl σ' H' s'):Inv X pins σ H' s':=
 I.call' J.os J.base J.hok J.bare fun b hb=>⟨(hf b hb).2.2.2.1,(hf b hb).2.1,(hf b hb).2.2.2.2.1,(hf b hb).2.2.2.2.2⟩
theorem za0{t2:Nat}(I:Inv X pins σ H s)(J:Inv (yb X pins sc fr Nc fp s H C) pl σ' H' s')(J2:Inv X pins σ2 H' s')(hs:Heap.SameBut C s'.heap h2):Inv X pins σ2 H' { s' with heap:=h2,toks:=t2 }:=by
 have hC:s.heap.objs.size<=C:=J.ok.above;refine J2.turned (it:=C) (fun b o hb e=>(hs.2 b hb).trans e) J.free ?_ (.inr (Nat.le_trans I.sz hC)) (fun x c h z=>?_) fun p hp z=>?_
 ·intro z
  have:=I.lt
  rw[<- z] at this;exact absurd (lt_of_lt_of_le this hC) (lt_irrefl _)
 ·obtain⟨v,hv⟩:=I.cell x c h
  have:=hv.lt
  rw[z] at this;exact absurd (lt_of_lt_of_le this hC) (lt_irrefl _)
 ·have:=I.pin_lt hp
  rw[z] at this;exact absurd (lt_of_lt_of_le this hC) (lt_irrefl _)
def zlY:TT:=fun _ H Q=>Q true H
structure PIf(X:Cx)(ifs:List Expr)(t:TT):Prop where
 run:∀(pins:PnL) (s:Shared) (σ : St) (H:Hp) (Q:Bool->Hp->Prop),Inv X pins σ H s->t σ H Q->
  ↑X (forIn ifs true fun c r=>if r=true then do let ok <- isTrue c X.env (eval c X.env);pure (ForInStep.yield ok) else pure (ForInStep.yield r)) (TP X pins σ Q) X.xe s
instance {X:Cx}{ifs:List Expr}{t:TT}:CoeFun (PIf X ifs t) (fun _=>∀(pins:PnL) (s:Shared) (σ : St) (H:Hp) (Q:Bool->Hp->Prop),Inv X pins σ H s->t σ H Q->
  ↑X (forIn ifs true fun c r=>if r=true then do let ok <- isTrue c X.env (eval c X.env);pure (ForInStep.yield ok) else pure (ForInStep.yield r)) (TP X pins σ Q) X.xe s):=⟨PIf.run⟩
theorem yV:PIf X [] zlY:=⟨fun _ _ _ H _ I h=>wpAny_tests_nil ⟨H,I,h⟩⟩
theorem yg{t:TT}(hc:PT X c t):PIf X [c] t:=⟨fun pins s σ H Q I h=>wpAny_tests_one (hc pins s σ H Q I h)⟩
def zat(g:TG)(ow:List Nat):Prop:=
 ∀v (σ:St) H (Q:St->Hp->Prop),g v σ H Q->g v σ H fun σ2 H2=>Q σ2 H2/\σ2.length=σ.length/\∀i,i∉ow->σ2[i]?=σ[i]?
theorem zK(i:Nat):zat (zJ i) [i]:=fun v σ H Q h=>⟨h,length_set ..,fun j hj=>getElem?_set_ne (fun e=>hj (by simp [e]))⟩
theorem ue{K:Frag}{n:Nat}(i j:Nat):zat (zmL K n (zic (zJ i) (zic (zJ j) zmM))) [i,j]:=by
 rintro v σ H Q ⟨a,xs,e1,e2,e3,v1,r1,e4,v2,r2,e5,e6,q⟩;exists a,xs,e1,e2,e3,v1,r1,e4,v2,r2,e5,e6,q,by rw[length_set,length_set],fun k hk=>?_
 have h1:i≠k:=fun e=>hk (by simp [e])
 have h2:j≠k:=fun e=>hk (by simp [e])
 rw[getElem?_set_ne h2,getElem?_set_ne h1]
variable {R:Result->Shared->Prop}
theorem uu(Ex:VSP)(hE:∀e s,Ex e s->notedBy (model prog w) A env (fun x s'=>R (.error x) s') e s)(I:Nat->Shared->Prop)
  (turn:∀n s,I n s->wpAny (model prog w) A (pyNext it) (fun r s₁=>match r with
   | none=>R (.ok .next) s₁
   | some v=>wpAny (model prog w) A (letOwnedTupleGo target it v) (fun _ s₀=>wpAny (model prog w) A (assign target env v) (fun _ s₂=>
     wpAny (model prog w) A (forIn ifs true fun c r=>if r=true then do let ok <- isTrue c env (eval c env);pure (ForInStep.yield ok) else pure (ForInStep.yield r)) (fun ok s₃=>
      if ok=true then wpAny (model prog w) A (eval elt env) (fun x s₄=>
       wpAny (model prog w) A (call (.builtin "list.append") [acc,x]) (fun _ s₅=>∃m,m<n/\I m s₅) Ex s₄) Ex s₃
      else ∃m,m<n/\I m s₃) Ex s₂) Ex s₀) Ex s₁) Ex s)
  (n:Nat) (h:I n s) :
  codeAny (model prog w) A (.compLoop (.ListComp elt [⟨target,iter,ifs,0⟩] scope pos) 0 it acc env) R s:=by
 refine codeAny_loop rfl I (fun n s hI=>?_) n h;show wpAny _ A ((compTurn (.ListComp elt [⟨target,iter,ifs,0⟩] scope pos) 0 it acc env).onRaise (fun x=>do noteFrame x env;theTreesLotGoes x)) _ _ s
 refine wpAny_noted ?_;rw[compTurn_list];refine zwb (wpAny_standAt (zwb (wpAny_mono (turn n s hI) (fun r s₁ h₁=>?_) hE)));cases r with
 | none=>exact zwp h₁
 | some v=>
  refine zwb (wpAny_mono h₁ (fun _ s₀ h₀=>?_) hE);refine zwb (wpAny_mono h₀ (fun _ s₂ h₂=>zwb (wpAny_mono h₂ (fun ok s₃ h₃=>?_) hE)) hE);cases ok with
  | false=>exact zwp ⟨rfl,h₃⟩
  | true=>
   exact zwb (zwb (wpAny_mono h₃ (fun x s₄ h₄=>zwb (wpAny_mono h₄ (fun _ s₅ h₅=>zwp (zwp ⟨rfl,h₅⟩)) hE)) hE))
def LCr(J:It)(caps:List (Option Nat))(g:TG)(tt:TT)(te:TE)(σ : St)(H1:Hp)(Q:VK)(D:Addr):Prop:=
 ∃W:Nat->Nat->List V->Hp->Prop,(∃m,W 0 m [] (upd H1 D (.lst [])))/\∀i m ys H,W i m ys H->
  (J.stop i H/\Q (.ref D) H)\/
  (J.go i H/\∀x H',J.yld i H x H'->g x (yW caps σ) H' fun σ2 H2=>tt σ2 H2 fun ok H3=>
   (ok=true->te σ2 H3 fun v H4=>H4 D=some (.lst ys)/\ys.length<sizeLine/\∃m',m'<m/\W (i+1) m' (ys++[v]) (upd H4 D (.lst (ys++[v]))))/\
   (ok=false->∃m',m'<m/\W (i+1) m' ys H3))
def tLC(wi:TI)(caps:List (Option Nat))(g:TG)(tt:TT)(te:TE):TE:=fun σ H Q=>wi σ H fun J H1=>∀D,H1 D=none->LCr J caps g tt te σ H1 Q D
variable {g:TG}{tt:TT}{te:TE}{E:VSP}
theorem zf4{tn:Nat->Heap->Prop}{J:It}{Q:VK}{RR:Value->Addr->Result->Shared->Prop}
  (hc:X.calm=true) (B:xa X.env sc fr) (go:zat g ow) (how:(ow.all fun i=>caps[i]?==some none)=true) (hcap:wz X.N Nc caps X.env sc fr=true) (hlen:caps.length=Nc.length)
  (Ex:Addr->Addr->Value->Shared->Prop) (hb:∀D C,PG ((yb X pins sc fr Nc fp s H2 C).wish (Ex D C)) tg g/\PIf ((yb X pins sc fr Nc fp s H2 C).wish (Ex D C)) ifs tt/\PE ((yb X pins sc fr Nc fp s H2 C).wish (Ex D C)) elt te)
  (I2:Inv X pins σ H2 s) (T:zar X.prog X.w X.K tg J fp it tn) (st2:tn 0 s.heap) (f2:∀b∈fp,xQ X pins H2 b) (h:∀D,H2 D=none->LCr J caps g tt te σ H2 Q D)
  (hE:∀D C e s',Ex D C e s'->notedBy (model X.prog X.w) X.A (compEnvC sc (clB X.env fr) C X.env) (fun x s3=>RR (.ref D) C (.error x) s3) e s')
  (fin:∀D C (σ':St) H' s',Inv (yb X pins sc fr Nc fp s H2 C) [] σ' H' s'->Q (.ref D) H'->RR (.ref D) C (.ok .next) s') :
  ↑X (newList []) (fun acc s₃=>↑X (newFunctionEnv sc X.env.globals (clB X.env fr) [] X.env.qual none .none (some X.env)) (fun cenv s₄=>
   codeAny (model X.prog X.w) X.A (.compStart (.ListComp elt [⟨tg,iter,ifs,0⟩] sc pos) 0 (.ref it) acc { cenv with scope:=relabel sc X.env }) (RR acc cenv.locals) s₄) E s₃) E s:=by
 have hcell:∀y∈sc.names,y.2≠.cell:=fun y hy=>by
  have h3:=List.all_eq_true.mp B.names _ hy;simp only[Bool.and_eq_true,bne_iff_ne,ne_eq] at h3;exact h3.1.1
 refine wpAny_newObj_type (wpAny_newFunctionEnv hcell (by intro y hy;simp at hy) (fun h₁ hns₁ hsb₁=>?_) B.kind)
 dsimp only at hns₁ hsb₁ |-;generalize hH2:s.heap.push { cls:=.type "list",dict:=none,data:=.seq ([]:List Value).toArray }=H3 at hns₁ hsb₁ |-;have hCs:H3.objs.size=s.heap.objs.size+1:=by rw[<- hH2,Heap.size_push]
 have hDC:s.heap.objs.size≠H3.objs.size:=by rw[hCs];exact ne_of_lt (lt_succ_self _)
 have hC:s.heap.objs.size<=H3.objs.size:=by rw[hCs];exact le_succ _
 have old:∀b o,s.heap.get? b=some o->h₁.get? b=some o:=fun b o e=>
  hsb₁.extBut b o (ne_of_lt (lt_of_lt_of_le (aI e) hC)) (zgp _ (hH2 ▸ zgp _ e))
 have hD:h₁.get? s.heap.objs.size=some { cls:=.type "list",data:=.seq ([]:List Value).toArray }:=hsb₁.extBut _ _ hDC (zgp _ (hH2 ▸ zgs _ rfl));have ho:∀b∈fp,∃o,s.heap.get? b=some o:=fun b hb'=>let ⟨o,e,_⟩:=T.obj 0 _ st2 b hb';⟨o,e⟩
 let CC:Cx:=yb X pins sc fr Nc fp s H2 H3.objs.size
 let xb:Value->Shared->Prop:=Ex s.heap.objs.size H3.objs.size
 have I4:∀t',Inv (CC.wish xb) [] (yW caps σ) (upd H2 s.heap.objs.size (.lst [])) { s with heap:=h₁,toks:=t' }:=fun t'=>
  (zd5 I2 B f2 ho hC (aF _) hDC old hD hns₁ hcap hlen).wish xb
 have ok:=(I4 0).ok;obtain⟨hbg,hbt,hbe⟩:=hb s.heap.objs.size H3.objs.size;obtain⟨W,⟨m0,w0⟩,turn⟩:=h s.heap.objs.size (I2.hok.fresh (aF _));have stat:∀{H':Hp},(∀b∈fp,H' b=none)->∀b∈fp,xQ (CC.wish xb) [] H' b:=fun hn b hb'=>
  ⟨hn b hb',(ok.exf b hb').1,ok.exfs b hb',.inl hb',(ok.exf b hb').2,fun p hp=>(f2 b hb').2.2.2.2.2 p (by have hp':p∈(X.pn++pins)++[]:=hp;simpa using hp')⟩
 have hfp0:∀b∈fp,upd H2 s.heap.objs.size (.lst []) b=none:=fun b hb'=>by
  obtain⟨o,e⟩:=ho b hb';rw[zi (ne_of_lt (aI e))];exact(f2 b hb').1
 have loop:∀s₃:Shared,s₃={ s with heap:=h₁,toks:=s.toks+([]:List (Str×Value)).length }->
   codeAny (model X.prog X.w) X.A (.compLoop (.ListComp elt [⟨tg,iter,ifs,0⟩] sc pos) 0 (.ref it) (.ref s.heap.objs.size) (compEnvC sc (clB X.env fr) H3.objs.size X.env)) (RR (.ref s.heap.objs.size) H3.objs.size) s₃:=by
  rintro s₃ rfl;refine uu xb (hE _ _) (fun n s'=>∃i σ' H' ys,Inv (CC.wish xb) [] σ' H' s'/\tn i s'.heap/\(∀b∈fp,H' b=none)/\W i n ys H'/\
   (∀(k:Nat) v,(yW caps σ)[k]?=some (some v)->σ'[k]?=some (some v))) ?_ m0
   ⟨0,_,_,[],I4 _,T.keep _ _ _ st2 (fun b _ o e=>old b o e),hfp0,w0,fun _ _ e=>e⟩
  rintro n s3 ⟨i,σ3,H4,ys,I3,st3,fr3,w3,wk3⟩;have I3':Inv (CC.wish xb) [] (yW caps σ) H4 s3:=I3.weak (by rw[I3.len];exact(I4 0).len) wk3
  rcases turn i n ys H4 w3 with ⟨stop,qn⟩|⟨gg,step⟩
  ·refine thn (T.done (CC.wish xb) rfl rfl rfl hc i [] s3 _ H4 xb I3' (stat fr3) st3 stop) fun r s4 ⟨hr,I4'⟩=>?_
   subst hr;exact fin _ _ _ _ _ I4'.unwish qn
  ·refine thn (T.item (CC.wish xb) rfl rfl rfl hc i [] s3 _ H4 xb I3' (stat fr3) st3 gg) fun r s4 ⟨u,hr,h4⟩=>?_
   subst hr;refine thn h4 fun _ s5 ⟨x,H5,I5,r5,y5,st5,fr5⟩=>?_;have I5':=I5.pinned (stat fr5) (T.obj _ _ st5);refine thn (hbg _ s5 _ H5 x u _ I5' r5 (go _ _ _ _ (step x H5 y5))) fun _ s6 ⟨σ6,H6,I6,q6,l6,k6⟩=>?_;have wk6:∀(k:Nat) v,(yW caps σ)[k]?=some (some v)->σ6[k]?=some (some v):=fun k v e=>by
    rw[k6 k fun hk=>?_]
    ·exact e
    ·have h1:=List.all_eq_true.mp how k hk
     have h2:caps[k]?=some none:=by simpa using h1
     unfold yW at e;rw[getElem?_map,h2] at e;cases e
   refine thn (hbt _ s6 σ6 H6 _ I6 q6) fun ok s7 ⟨H7,I7,q7⟩=>?_;have again:∀{H8:Hp}{s8:Shared}{ys':List V},Inv (CC.wish xb) ([]++vw fp s5.heap) σ6 H8 s8->(∃m',m'<n/\W (i+1) m' ys' H8)->
     ∃m,m<n/\∃i σ' H' ys,Inv (CC.wish xb) [] σ' H' s8/\tn i s8.heap/\(∀b∈fp,H' b=none)/\W i m ys H'/\(∀(k:Nat) v,(yW caps σ)[k]?=some (some v)->σ'[k]?=some (some v)):=fun {H8 s8 ys'} I8 ⟨m',hm,w8⟩=>by
    exists m',hm,i+1,σ6,H8,ys',I8.unpinned,T.keep _ _ _ st5 fun b hb' o e=>(I8.pin (b,o) (mem_append_right _ (mem_append_right _ (yF hb' e)))).1,fun b hb'=>?_,w8,wk6;obtain⟨o,e,d⟩:=T.obj _ _ st5 b hb';exact(I8.pin (b,o) (mem_append_right _ (mem_append_right _ (yF hb' e)))).2.1
   cases ok with
   | false=>
    rw[aJ zft];exact again I7 (q7.2 rfl)
   | true=>
    rw[aK rfl];refine thn (hbe _ s7 σ6 H7 _ I7 (q7.1 rfl)) fun uv s8 ⟨v,H8,I8,r8,hD8,hz,q8⟩=>?_;refine thn (ya (X:=CC.wish xb) _ s8 σ6 H8 (.ref s.heap.objs.size) [v] _ [uv] (fun _ H'=>H'=upd H8 s.heap.objs.size (.lst (ys++[v]))) I8 rfl (.cons r8 .nil) ⟨_,ys,v,rfl,rfl,hD8,hz,rfl⟩) fun _ s9 ⟨_,H9,I9,_,e9⟩=>?_;subst e9;exact again I9 q8
 exact codeAny_compStart_list (loop _ rfl) (T.self _ 0 _ _ _ (T.keep _ _ _ st2 (fun b _ o e=>old b o e)) (loop _ rfl))
theorem zcU{tn:Nat->Heap->Prop}{J:It}{Q:VK}{RR:Value->Addr->Result->Shared->Prop}
  (hc:X.calm=true) (B:xa X.env sc fr) (go:zat g ow) (how:(ow.all fun i=>caps[i]?==some none)=true) (hcap:wz X.N Nc caps X.env sc fr=true) (hlen:caps.length=Nc.length)
  (hb:∀(pins:PnL) fp s H C,PG (yb X pins sc fr Nc fp s H C) tg g/\PIf (yb X pins sc fr Nc fp s H C) ifs tt/\PE (yb X pins sc fr Nc fp s H C) elt te)
  (I2:Inv X pins σ H2 s) (T:zar X.prog X.w X.K tg J fp it tn) (st2:tn 0 s.heap) (f2:∀b∈fp,xQ X pins H2 b) (h:∀D,H2 D=none->LCr J caps g tt te σ H2 Q D)
  (fin:∀D C (σ':St) H' s',Inv (yb X pins sc fr Nc fp s H2 C) [] σ' H' s'->Q (.ref D) H'->RR (.ref D) C (.ok .next) s') :
  ↑X (newList []) (fun acc s₃=>↑X (newFunctionEnv sc X.env.globals (clB X.env fr) [] X.env.qual none .none (some X.env)) (fun cenv s₄=>
   codeAny (model X.prog X.w) X.A (.compStart (.ListComp elt [⟨tg,iter,ifs,0⟩] sc pos) 0 (.ref it) acc { cenv with scope:=relabel sc X.env }) (RR acc cenv.locals) s₄) E s₃) E s:=
 zf4 hc B go how hcap hlen (fun _ _ _ _=>False) (fun _ C=>hb pins fp s H2 C) I2 T st2 f2 h (fun _ _ _ _ z=>z.elim) fin
theorem xa.loc(B:xa env sc fr):∀x∈sc.names,x.2=.local->sc.names.lookup x.1=some .local:=fun y hy e=>by
 have h3:=List.all_eq_true.mp B.names _ hy;simp only[Bool.and_eq_true,Bool.or_eq_true,bne_iff_ne,ne_eq,beq_iff_eq] at h3;rcases h3.2 with z|z
 ·exact absurd e z
 ·exact z
theorem yY{wi:TI}(fr Nc:List Str)(caps:List (Option Nat))(hc:X.calm=true)(B:xa X.env sc fr)(hi:PI X tg iter wi)(go:zat g ow)(how:(ow.all fun i=>caps[i]?==some none)=true)
  (hcap:wz X.N Nc caps X.env sc fr=true) (hlen:caps.length=Nc.length)
  (hb:∀(pins:PnL) fp s H C,PG (yb X pins sc fr Nc fp s H C) tg g/\PIf (yb X pins sc fr Nc fp s H C) ifs tt/\PE (yb X pins sc fr Nc fp s H C) elt te)
  (hs:∀x,foldedSetIterable iter X.env x=pure x:=by intro _;rfl):PE X (.ListComp elt [⟨tg,iter,ifs,0⟩] sc pos) (tLC wi caps g tt te):=by
 and_intros;rw[eval_ListComp];refine wpAny_comprehension_free (use:=none) rfl hs B.clos B.kind B.loc (thn (hi pins s σ H _ I h) fun v s1 h1=>thn h1 fun itv s2 h2=>?_);obtain⟨it,fp,tn,J,H2,e,I2,T,st2,f2,q⟩:=h2;subst e;refine zcU (RR:=fun acc C=>compPost (model X.prog X.w) X.A X.xe none (EP X pins σ Q) acc C) hc B go how hcap hlen hb I2 T st2 f2 q ?_;intro D C σ' H' s' J' qq;obtain⟨m,hn,_⟩:=J'.loc;exact⟨m,hn,fun h' hs'=>⟨.ref D,H',za0 I2 J' (jx I2 f2 J') hs',rfl,qq⟩⟩
theorem wD{wi:TI}{i:Nat}(fr Nc:List Str)(caps:List (Option Nat))(hN:X.N.Nodup)(hix:X.N[i]?=some x)(hx:Loc X.env.scope x)(hc:X.calm=true)(B:xa X.env sc fr)(hi:PI X tg iter wi)(go:zat g ow)(how:(ow.all fun i=>caps[i]?==some none)=true)
  (hcap:wz X.N Nc caps X.env sc fr=true) (hlen:caps.length=Nc.length)
  (hb:∀(pins:PnL) fp s H C,PG (yb X pins sc fr Nc fp s H C) tg g/\PIf (yb X pins sc fr Nc fp s H C) ifs tt/\PE (yb X pins sc fr Nc fp s H C) elt te)
  (hsw:swapsWith (.ListComp elt [⟨tg,iter,ifs,0⟩] sc pos) (some (.Name x pos')) pos2.line X.env=pure true:=by rfl)
  (hs:∀x,foldedSetIterable iter X.env x=pure x:=by intro _;rfl) (hf:X.fn x=true\/X.env.scope.names.lookup x=some .local:=by first|exact .inl rfl|exact .inr rfl|assumption) :
  PS X (.Assign [.Name x pos'] (.ListComp elt [⟨tg,iter,ifs,0⟩] sc pos) pos2) (zkG (tLC wi caps g tt te) (zJ i)):=by
 exists ?_;intro pins s σ H D0 I h;rw[exec_Assign_Name_used _ _ _ _ hsw];refine zwb (wpAny_standAt (zwb ?_));show wpAny _ X.A (do let _ <- comprehension (.ListComp elt [⟨tg,iter,ifs,0⟩] sc pos) sc X.env _ (newList []) false (eval iter X.env) (some (assign (.Name x pos') X.env))) _ _ s
 refine zwb (wpAny_mono (wpAny_comprehension_free (use:=some (assign (.Name x pos') X.env)) (Q:=fun _ s'=>SP X pins D0 .next s') rfl hs B.clos B.kind B.loc
  (thn (hi pins s σ H _ I h) fun v s1 h1=>thn h1 fun itv s2 h2=>?_)) (fun _ s' hq=>zwp (zwp hq)) fun _ _ e=>e)
 obtain⟨it,fp,tn,J,H2,e,I2,T,st2,f2,q⟩:=h2;subst e;refine zcU (Q:=fun v H1=>zJ i v σ H1 D0.nx) (RR:=fun acc C=>compPost (model X.prog X.w) X.A X.xe (some (assign (.Name x pos') X.env)) (fun _ s'=>SP X pins D0 .next s') acc C) hc B go how hcap hlen hb I2 T st2 f2 q ?_;intro D C σ' H' s' J' qq;have I':=jx I2 f2 J';obtain⟨m,hn,_⟩:=J'.loc;have hC:s2.heap.objs.size<=C:=J'.ok.above;show wpAny _ X.A (assign (.Name x pos') X.env (.ref D)) _ _ s';refine wpAny_assign_Name (zaC (v:=.ref D) I' hN hix hx rfl (fun s'' I'' ⟨a,sb,ha⟩=>?_) hf);have haC:C≠a:=by
  rintro rfl;rcases ha with z|z
  ·have:=I2.lt
   rw[<- z] at this;exact absurd (lt_of_lt_of_le this hC) (lt_irrefl _)
  ·obtain⟨v,hv⟩:=I2.cell x C z
   exact absurd (lt_of_lt_of_le hv.lt hC) (lt_irrefl _)
 have hCH:H' C=none:=J'.free;exists m,hn.sameBut sb haC,fun h' hs'=>⟨_,H',?_,qq⟩;refine I''.turned (it:=C) (t':=s''.toks) (fun b o hb e=>(hs'.2 b hb).trans e) hCH ?_ (.inr (Nat.le_trans I2.sz hC)) (fun x c h z=>?_) fun p hp z=>?_
 ·intro z
  have:=I2.lt
  rw[<- z] at this;exact absurd (lt_of_lt_of_le this hC) (lt_irrefl _)
 ·obtain⟨v,hv⟩:=I2.cell x c h
  have:=hv.lt
  rw[z] at this;exact absurd (lt_of_lt_of_le this hC) (lt_irrefl _)
 ·have:=I2.pin_lt hp
  rw[z] at this;exact absurd (lt_of_lt_of_le this hC) (lt_irrefl _)
def Its(z:Str):It:=⟨fun i _=>i<z.cps.size,fun i H x H'=>H'=H/\∃c,z.cps[i]?=some c/\x=.str ⟨#[c]⟩,fun i _=>z.cps.size<=i⟩
theorem zgn{P:Program}{w:World}{K:Frag}{tg:Expr}(it:Addr)(z:Str)(t:Tok):zar P w K tg (Its z) [it] it (fun i h=>h.IsStrIter it (strIterType z) z t i) where
 mem:=by simp
 obj:=fun i h st b hb=>by
  have e:b=it:=by simpa using hb
  subst e;obtain⟨o,e,_,d⟩:=st;exact⟨o,e,fun v q=>by rw[d] at q;cases q⟩
 keep:=fun i h h' st k=>by
  obtain⟨o,e,r⟩:=st;exact⟨o,k it (by simp) o e,r⟩
 item:=by
  intro X hP hw hK hc i pins s σ H E I hf st hg;subst hP hw hK;obtain⟨f0,f1,f2,f3,f4,f5⟩:=hf it (by simp)
  have hi:i<z.cps.size:=hg;have hx:z.cps[i]?=some z.cps[i]:=by simp [hi]
  have fin:∀h',h'.IsStrIter it (strIterType z) z t (i+1)->Heap.SameBut it s.heap h'->
    ∃u,some (Value.str ⟨#[z.cps[i]]⟩ s.toks)=some u/\↑X (letOwnedTupleGo tg (.ref it) u) (fun _ s2=>∃x H',Inv X pins σ H' s2/\z5 x u/\(Its z).yld i H x H'/\s2.heap.IsStrIter it (strIterType z) z t (i+1)/\∀b∈[it],H' b=none) E { s with heap:=h',toks:=s.toks+1 }:=fun h' hit hs=>by
   have I1:Inv X pins σ H { s with heap:=h',toks:=s.toks+1 }:=I.turned (fun b o hb e=>(hs.2 b hb).trans e) f0 f1 f3 f4 f5
   obtain⟨o,e1,e2,e3⟩:=id hit;exists _,rfl,zia (s:={ s with heap:=h',toks:=s.toks+1 }) e1 e2 e3 ?_ ⟨.str ⟨#[z.cps[i]]⟩,H,I1,⟨_,rfl⟩,⟨rfl,_,hx,rfl⟩,hit,fun b hb=>(hf b hb).1⟩
   unfold strIterType;split <;> decide
  cases ha:z.cps.all (·<128)
  ·have e:strIterType z="str_iterator":=by simp [strIterType,ha]
   rw[e] at st;exact wpAny_pyNext_wide_item st hx fun h' a b=>fin h' (e.symm ▸ a) b
  ·have e:strIterType z="str_ascii_iterator":=by simp [strIterType,ha]
   rw[e] at st;exact wpAny_pyNext_ascii_item st hx fun h' a b=>fin h' (e.symm ▸ a) b
 done:=by
  intro X hP hw hK hc i pins s σ H E I hf st hg;subst hP hw hK;obtain⟨f0,f1,f2,f3,f4,f5⟩:=hf it (by simp)
  have hi:z.cps.size<=i:=hg;have hx:z.cps[i]?=none:=by simp [hi]
  have fin:∀h',Heap.ExtBut it s.heap h'->(none:Option Value)=none/\Inv X pins σ H { s with heap:=h' }:=fun h' eb=>⟨rfl,I.turned (t':=s.toks) (fun b o hb e=>eb b o hb e) f0 f1 f3 f4 f5⟩
  cases ha:z.cps.all (·<128)
  ·have e:strIterType z="str_iterator":=by simp [strIterType,ha]
   rw[e] at st;exact wpAny_pyNext_wide_end (I.ok.hd hc) st hx fin
  ·have e:strIterType z="str_ascii_iterator":=by simp [strIterType,ha]
   rw[e] at st;exact wpAny_pyNext_ascii_end (I.ok.hd hc) st hx fin
 self:=fun A i s Q E st h=>by
  cases ha:z.cps.all (·<128)
  ·have e:strIterType z="str_iterator":=by simp [strIterType,ha]
   rw[e] at st;exact wpAny_pyIter_striter_wide st h
  ·have e:strIterType z="str_ascii_iterator":=by simp [strIterType,ha]
   rw[e] at st;exact wpAny_pyIter_striter_ascii st h
def znN(tl:TE):TI:=fun σ H R=>tl σ H fun x H1=>∃z,x=.str z/\R (Its z) H1
theorem zhg{tl:TE}(hl:PE X l tl):PI X tg l (znN tl):=by
 exists ?_;intro pins s σ H R I h;refine thn (hl pins s σ H _ I h) fun v s1 ⟨x,H1,I1,r1,q1⟩=>?_;obtain⟨z,e,q⟩:=q1;subst e;obtain⟨t,rfl⟩:=r1;refine wpAny_pyIter_strU ?_;exists s1.heap.objs.size,[s1.heap.objs.size],_,_,H1,rfl,I1.kept (t':=s1.toks) fun b o e=>zgp _ e,zgn _ z t,⟨_,zgs _ rfl,rfl,rfl⟩,fun b hb=>?_,q;have e:b=s1.heap.objs.size:=by simpa using hb
 subst e;exact I1.fpOk (aF _) (I1.hok.fresh (aF _))
inductive znlJ(x:V)(lo:Option Int)(hi:Option Int)(H:Hp)(Q:VK):Prop|mk(z:_):x=.str z->z.length<=sizeLine->(Q (.str (Txt.slice z lo hi)) H)->znlJ x lo hi H Q
def znl:V->Option Int->Option Int->Hp->VK->Prop:=fun x lo hi H Q=>znlJ x lo hi H Q
theorem zkJ:SlR X znl:=by
 intro pins s σ H x v vl vu lo hi sl Q I rx hs pl pu h;obtain⟨z,rfl,hz,q⟩:=h;obtain⟨t,rfl⟩:=rx;exists "str",_,F.slot_str_getitem.lookup,typeIs_str _ _ _,?_;have fin:∀t' k,EP X pins σ Q (.str (Txt.slice z lo hi) t') { s with toks:=k }:=fun t' k=>⟨.str (Txt.slice z lo hi),H,I.tok k,⟨t',rfl⟩,q⟩
 cases pl with
 | none=>
  cases pu with
  | none=>exact wpAny_getItem_str_slice (l:=none) (u:=none) (st:=none) hs rfl (post_val_or_str ⟨Nat.le_trans (Txt.slice_le z _ _) hz,fin⟩)
  | int j tj=>exact wpAny_getItem_str_slice (l:=none) (u:=some (j,tj)) (st:=none) hs rfl (post_val_or_str ⟨Nat.le_trans (Txt.slice_le z _ _) hz,fin⟩)
 | int i ti=>
  cases pu with
  | none=>exact wpAny_getItem_str_slice (l:=some (i,ti)) (u:=none) (st:=none) hs rfl (post_val_or_str ⟨Nat.le_trans (Txt.slice_le z _ _) hz,fin⟩)
  | int j tj=>exact wpAny_getItem_str_slice (l:=some (i,ti)) (u:=some (j,tj)) (st:=none) hs rfl (post_val_or_str ⟨Nat.le_trans (Txt.slice_le z _ _) hz,fin⟩)
theorem jA(hc:X.calm=true):xq X (.builtin "all") (fun xs H Q=>∃(p:Addr) (bs:List Bool),xs=[.ref p]/\SqL X.K H p (bs.map V.bl)/\Q (.bl (bs.all id)) H):=by
 intro pins s σ H xs us Q I r h;obtain⟨p,bs,rfl,hS,q⟩:=h;obtain⟨u,rfl,ru⟩:=wt r;cases ru;obtain⟨its,rv,hp,hz⟩:=I.list hS;have hlen:its.length=bs.length:=by rw[<- rv.length,aA]
 have hne:p≠s.heap.objs.size:=ne_of_lt (by obtain⟨_,e,_⟩:=hp.isList;exact aI e)
 refine call_all_walk (wpAny_pyIter_list hp.isList ?_);exists s.heap.objs.size,_,_,_,_,_,fun i=>bs.getD i false,rfl,Walks.list (A:=X.A.in1) (I.ok.hd hc) s.heap.objs.size p hne its.toArray,⟨⟨_,zgs _ rfl,rfl,rfl⟩,hp.isList.push _⟩,?_,fun h' tk k=>?_
 ·intro i v s' Q' E' hP hQ
  have hv:its[i]?=some v:=by simpa using hP
  have hi:i<bs.length:=by rw[<- hlen];exact(List.getElem?_eq_some_iff.mp hv).1
  obtain⟨u',e1,e2⟩:=rv.get (i:=i) (x:=V.bl bs[i]) (by rw[getElem?_map,aB hi];rfl)
  rw[hv] at e1;cases e1;cases e2;refine wpAny_truthy_bool ?_
  have:bs.getD i false=bs[i]:=by rw[getD_eq_getElem?_getD,aB hi];rfl
  rw[<- this];exact hQ
 ·have e:((List.range its.toArray.size).all fun i=>bs.getD i false)=bs.all id:=by
   rw[size_toArray,hlen,Bool.eq_iff_iff,all_eq_true,all_eq_true];constructor
   ·intro hh b hb
    obtain⟨i,hi,rfl⟩:=List.getElem_of_mem hb
    have:=hh i (List.mem_range.mpr hi)
    rw[getD_eq_getElem?_getD,aB hi] at this;exact this
   ·intro hh i hi
    have hi':=List.mem_range.mp hi;rw[getD_eq_getElem?_getD,aB hi'];exact hh _ (getElem_mem hi')
  rw[e];exact⟨.bl (bs.all id),H,I.kept (h':=h') (t':=tk) (fun b o q=>k b o (fun hm=>by
   have e:b=s.heap.objs.size:=by simpa using hm
   exact absurd (aI q) (by rw[e];exact lt_irrefl _)) (zgp _ q)),rfl,q⟩
theorem vR:xq X (.builtin "isinstance") (fun xs H Q=>∃x T t b,xs=[x,.ty T]/\up X.K H x t/\kitOne X.K t (.type T)=some b/\Q (.bl b) H):=by
 intro pins s σ H xs us Q I r h;obtain⟨x,T,t,b,rfl,ty,e,q⟩:=h;obtain⟨u,w',rfl,ru,rw'⟩:=zgh r;cases rw';exact zfX I ru ty e fun tk=>⟨.bl b,H,I.tok tk,rfl,q⟩
def vP:Expr->Bool
 | .Starred ..=>true
 | _=>false
theorem yL(h:vP e=false):starEach (e::es) env=(false,eval e env)::starEach es env:=by
 cases e <;> first|rfl|cases h
theorem wY{env:Env}{pos:Pos}:∀{es:List Expr},es.any vP=false->(backTo pos (starEach es env)).any (·.1)=false
 | [],_=>rfl
 | e::es,h=>by
  rw[any_cons,Bool.or_eq_false_iff] at h;rw[yL h.1];show(false||(backTo pos (starEach es env)).any (·.1))=false
  rw[wY h.2];rfl
end
section
variable {CX:CXT}{k:Nat}{f C:Addr}{fd:FuncData}{ps:List Str}{sp:Sp}{x m:Str}{te ta:TE}{t:TA}{r:List V->Hp->VK->Prop}
theorem ac(ha:PE X e te)(hr:PA X es t)(h:vP e=false:=by rfl):PA X (e::es) (zej te t):=zjh ha hr (yL h)
theorem cB{X:Cx}{p pos:Pos}{e:Expr}{es:List Expr}{id:String}(hc:xq X (.builtin id) r)(hm:X.mg x=none)(hv:bootBuiltins x=some (.builtin id))(ha:PA X (e::es) t)(hg:Gl X x:=by rfl)(hn:x≠"__name__":=by decide)(hdb:(x==("__debug__" : Str))=false:=by decide)
  (h1:vP e=false:=by rfl) (h2:es.any vP=false:=by rfl):PE X (.Call (.Name x p) (e::es) [] pos) (tCB r t):=zhm hc hg hm hv ha hn hdb (yL h1) (wY h2)
theorem cTy(hc:xq X (.type T) r)(hm:X.mg x=none)(hv:bootBuiltins x=some (.type T))(ha:PA X (e::es) t)(hg:Gl X x:=by rfl)(hn:x≠"__name__":=by decide)(hdb:(x==("__debug__" : Str))=false:=by decide)
  (h1:vP e=false:=by rfl) (h2:es.any vP=false:=by rfl):PE X (.Call (.Name x p) (e::es) [] pos) (tCB r t):=zfu hc hg hm hv ha hn hdb (yL h1) (wY h2)
structure zI(P:Program)(w:World)(K:Frag)(mg:Str->Option Value)(base:Heap)(k:Nat)(x:Str)(f:Addr)(fd:FuncData)(ps:List Str)(sp:Sp):Prop where
 ok:zL P w K mg base CX0 k f fd ps sp
 mg:mg x=some (.ref f)
 kp:keepIn K (.ref f)=true
 bd:yc K fd ps []
theorem cF(c:zI X.prog X.w X.K X.mg X.base k x f fd ps sp)(hr:yk k X.A)(ha:PA X (e::es) t)(hg:Gl X x:=by rfl)(hdb:(x==("__debug__" : Str))=false:=by decide)
  (h1:vP e=false:=by rfl) (h2:es.any vP=false:=by rfl):PE X (.Call (.Name x p) (e::es) [] pos) (zgo sp [] E0 t):=
 zjg c.ok hr hg c.mg c.kp c.bd .nil yt ha hdb (yL h1) (wY h2)
end
end L2
namespace L2
open PySem PyProof.Rows
theorem jM(K:Frag):kitOne K (.type "NoneType") (.type "str")=some false:=by kernel_rfl
theorem zdS(K:Frag):kitOne K (.type "int") (.type "str")=some false:=by kernel_rfl
theorem zcN(K:Frag):kitOne K (.type "bool") (.type "str")=some false:=by kernel_rfl
theorem zbP(K:Frag):kitOne K (.type "bool") (.type "bool")=some true:=by kernel_rfl
theorem zdR(K:Frag):kitOne K (.type "str") (.type "str")=some true:=by kernel_rfl
theorem zcL(K:Frag):kitOne K (.type "list") (.type "str")=some false:=by kernel_rfl
theorem zbO(K:Frag):kitOne K (.type "list") (.type "list")=some true:=by kernel_rfl
theorem zbN(K:Frag):kitOne K (.type "tuple") (.type "str")=some false:=by kernel_rfl
theorem qT(K:Frag):kitOne K (.type "tuple") (.type "tuple")=some true:=by kernel_rfl
theorem zcM(K:Frag):kitOne K (.type "dict") (.type "str")=some false:=by kernel_rfl
end L2
namespace L2
open PySem PySem.Spec PyProof.Rows
inductive Dt where
 | non|bl (b:Bool)|int (i:Int)|str (z:Str)|tup (ds:List Dt)|lst (ds:List Dt)
def vH:V->Dt->Prop
 | .non,.non=>True
 | .bl a,.bl b=>a=b
 | .int a,.int b=>a=b
 | .str a,.str b=>a=b
 | _,_=>False
def zR(K:Frag)(ok:Addr->Prop)(H:Hp):Nat->V->Dt->Prop
 | 0,x,d=>vH x d
 | n+1,x,d=>vH x d\/(∃a xs ds,x=.ref a/\d=.tup ds/\SqT K H a xs/\Paired (zR K ok H n) xs ds)\/(∃a xs ds,x=.ref a/\d=.lst ds/\ok a/\H a=some (.lst xs)/\Paired (zR K ok H n) xs ds)
section
variable {K:Frag}{ok ok':Addr->Prop}{H H':Hp}
theorem zR.flat{n:Nat}(h:vH x d):zR K ok H n x d:=by
 cases n with
 | zero=>exact h
 | succ n=>exact .inl h
theorem zR.int{n:Nat}{i:Int}:zR K ok H n (.int i) (.int i):=.flat rfl
theorem zR.str{n:Nat}:zR K ok H n (.str z) (.str z):=.flat rfl
theorem zR.bl{n:Nat}:zR K ok H n (.bl b) (.bl b):=.flat rfl
theorem zR.non{n:Nat}:zR K ok H n .non .non:=.flat True.intro
theorem zR.tup{n:Nat}(h:SqT K H a xs)(r:Paired (zR K ok H n) xs ds):zR K ok H (n+1) (.ref a) (.tup ds):=.inr (.inl ⟨a,xs,ds,rfl,rfl,h,r⟩)
theorem zR.lst{n:Nat}(o:ok a)(h:H a=some (.lst xs))(r:Paired (zR K ok H n) xs ds):zR K ok H (n+1) (.ref a) (.lst ds):=.inr (.inr ⟨a,xs,ds,rfl,rfl,o,h,r⟩)
theorem zR.frame(hT:∀a xs,SqT K H a xs->SqT K H' a xs)(hL:∀a xs,ok a->H a=some (.lst xs)->ok' a/\H' a=some (.lst xs)):∀{n:Nat}{x:V}{d:Dt},zR K ok H n x d->zR K ok' H' n x d
 | 0,_,_,h=>h
 | n+1,x,d,h=>by
  rcases h with h|⟨a,xs,ds,e1,e2,h,r⟩|⟨a,xs,ds,e1,e2,o,h,r⟩
  ·exact .inl h
  ·exact .inr (.inl ⟨a,xs,ds,e1,e2,hT a xs h,zO (fun _ _ z=>zR.frame hT hL z) r⟩)
  ·exact .inr (.inr ⟨a,xs,ds,e1,e2,(hL a xs o h).1,(hL a xs o h).2,zO (fun _ _ z=>zR.frame hT hL z) r⟩)
theorem zq.sqT(e:zq H H')(h:SqT K H a xs):SqT K H' a xs:=by
 rcases h with (h|⟨o,h⟩)|h
 ·exact .inl (.inl (e _ _ h))
 ·exact .inl (.inr ⟨o,e _ _ h⟩)
 ·exact .inr h
theorem zR.same{n:Nat}(e:zq H H')(h:zR K ok H n x d):zR K ok H' n x d:=h.frame (fun _ _ z=>e.sqT z) fun _ _ o z=>⟨o,e _ _ z⟩
theorem Paired.get{α β : Type}{F : α->β->Prop}:∀{l₁:List α}{l₂:List β}{i:Nat}{a : α},Paired F l₁ l₂->l₁[i]?=some a->∃b,l₂[i]?=some b/\F a b
 | _,_,_,_,.nil,e=>by simp at e
 | _,_,0,_,.cons r _,e=>by simp at e;subst e;exact⟨_,rfl,r⟩
 | _,_,i+1,a,.cons _ t,e=>by
  obtain⟨b,h1,h2⟩:=Paired.get (i:=i) (a:=a) t (by simpa using e)
  exact⟨b,by simpa using h1,h2⟩
theorem zaW(hx:vH x d)(hy:vH y d)(ru:z5 x u)(rv:z5 y v):SeqAt.EqAt A s u v true:=by
 cases d with
 | non=>
  cases x <;> try exact hx.elim
  cases y <;> try exact hy.elim
  cases ru;cases rv;exact SeqAt.EqAt.same _
 | bl b=>
  cases x <;> try exact hx.elim
  cases y <;> try exact hy.elim
  rename_i a c;obtain rfl:a=b:=hx;obtain rfl:c=a:=hy;cases ru;cases rv;exact SeqAt.EqAt.same _
 | int b=>
  cases x <;> try exact hx.elim
  cases y <;> try exact hy.elim
  rename_i a c;obtain rfl:a=b:=hx;obtain rfl:c=a:=hy;obtain⟨t,rfl⟩:=ru;obtain⟨t',rfl⟩:=rv
  have:=SeqAt.EqAt.int_int (A:=A) (s:=s) c t c t'
  simpa using this
 | str b=>
  cases x <;> try exact hx.elim
  cases y <;> try exact hy.elim
  rename_i a c;obtain rfl:a=b:=hx;obtain rfl:c=a:=hy;obtain⟨t,rfl⟩:=ru;obtain⟨t',rfl⟩:=rv
  have:=SeqAt.EqAt.str_str (A:=A) (s:=s) c t c t'
  simpa using this
 | tup ds=>cases x <;> exact hx.elim
 | lst ds=>cases x <;> exact hx.elim
theorem qZ(h:vH (.ref a) d):False:=by cases d <;> exact h
theorem vT(n:Nat):((List.range n).all fun _=>true)=true:=by rw[all_eq_true];intro _ _;rfl
theorem uh{X:Cx}{pins:PnL}{σ:St}{s:Shared}(I:Inv X pins σ H s):∀(n:Nat) {A:Around}{x y:V}{d:Dt}{u v:Value},zR X.K ok H n x d->zR X.K ok' H n y d->z5 x u->z5 y v->A.units+n<cLine->SeqAt.EqAt A s u v true
 | 0,A,x,y,d,u,v,hx,hy,ru,rv,_=>zaW hx hy ru rv
 | n+1,A,x,y,d,u,v,hx,hy,ru,rv,hu=>by
  have hin:A.in1.units+n<cLine:=by show A.units+1+n<cLine;omega
  rcases hx with hx|⟨a,xs,ds,rfl,rfl,hx,r⟩|⟨a,xs,ds,rfl,rfl,_,hx,r⟩
  ·rcases hy with hy|⟨b,ys,es,rfl,rfl,hy,q⟩|⟨b,ys,es,rfl,rfl,_,hy,q⟩
   ·exact zaW hx hy ru rv
   ·cases x <;> exact hx.elim
   ·cases x <;> exact hx.elim
  ·rcases hy with hy|⟨b,ys,es,rfl,e2,hy,q⟩|⟨b,ys,es,rfl,e2,_,hy,q⟩
   ·cases y <;> exact hy.elim
   ·cases e2
    cases ru;cases rv;by_cases hab:a=b
    ·subst hab;exact SeqAt.EqAt.same _
    ·obtain⟨ia,va,pa,_⟩:=I.tuple hx
     obtain⟨ib,vb,pb,_⟩:=I.tuple hy;have la:ia.length=ds.length:=by rw[<- va.length,r.length]
     have lb:ib.length=ds.length:=by rw[<- vb.length,q.length]
     have:=SeqAt.RcAt.tuples (A:=A) (s:=s) (e:=fun _=>true) (show s.heap.IsTuple a ia.toArray from pa) (show s.heap.IsTuple b ib.toArray from pb) ∅ (fun j h1 h2=>by
      have j1:j<ia.length:=by simpa using h1
      have j2:j<ib.length:=by simpa using h2
      have hxl:j<xs.length:=by rw[va.length];exact j1
      have hyl:j<ys.length:=by rw[vb.length];exact j2
      obtain⟨u',e1,e2⟩:=va.get (i:=j) (aB hxl);obtain⟨v',e3,e4⟩:=vb.get (i:=j) (aB hyl);obtain⟨d1,f1,f2⟩:=Paired.get r (aB hxl);obtain⟨d2,f3,f4⟩:=Paired.get q (aB hyl);rw[f1] at f3;cases f3;rw[aB j1] at e1;rw[aB j2] at e3;cases e1;cases e3;simpa using uh I n f2 f4 e2 e4 hin)
     rw[vT] at this;have z:(ia.toArray.size==ib.toArray.size)=true:=by simp [la,lb]
     rw[z] at this;exact SeqAt.EqAt.of_refs hab this
   ·cases e2
  ·rcases hy with hy|⟨b,ys,es,rfl,e2,hy,q⟩|⟨b,ys,es,rfl,e2,_,hy,q⟩
   ·cases y <;> exact hy.elim
   ·cases e2
   ·cases e2
    cases ru;cases rv;by_cases hab:a=b
    ·subst hab;exact SeqAt.EqAt.same _
    ·obtain⟨ia,va,pa,_⟩:=I.list (zf hx)
     obtain⟨ib,vb,pb,_⟩:=I.list (zf hy);have la:ia.length=ds.length:=by rw[<- va.length,r.length]
     have lb:ib.length=ds.length:=by rw[<- vb.length,q.length]
     have:=SeqAt.RcAt.lists (A:=A) (s:=s) (e:=fun _=>true) pa.isList pb.isList (by simp [la,lb]) ∅ (fun j h1 h2=>by
      have j1:j<ia.length:=by simpa using h1
      have j2:j<ib.length:=by simpa using h2
      have hxl:j<xs.length:=by rw[va.length];exact j1
      have hyl:j<ys.length:=by rw[vb.length];exact j2
      obtain⟨u',e1,e2⟩:=va.get (i:=j) (aB hxl);obtain⟨v',e3,e4⟩:=vb.get (i:=j) (aB hyl);obtain⟨d1,f1,f2⟩:=Paired.get r (aB hxl);obtain⟨d2,f3,f4⟩:=Paired.get q (aB hyl);rw[f1] at f3;cases f3;rw[aB j1] at e1;rw[aB j2] at e3;cases e1;cases e3;simpa using uh I n f2 f4 e2 e4 hin)
     rw[vT] at this;exact SeqAt.EqAt.of_refs hab this
theorem zi8(I:Inv X pins σ H s){n:Nat}(hx:zR X.K ok H (n+1) (.ref a) d)(hy:zR X.K ok' H (n+1) (.ref b) d)(hu:A.units+n+1<cLine):
  SeqAt.RcAt A s (.ref a) (.ref b) true/\SeqAt.RcNeAt A s (.ref a) (.ref b) false:=by
 have hin:A.in1.units+n<cLine:=by show A.units+1+n<cLine;omega
 rcases hx with hx|⟨a,xs,ds,e0,rfl,hx,r⟩|⟨a,xs,ds,e0,rfl,_,hx,r⟩
 ·exact(qZ hx).elim
 ·cases e0
  rcases hy with hy|⟨b,ys,es,e1,e2,hy,q⟩|⟨b,ys,es,e1,e2,_,hy,q⟩
  ·exact(qZ hy).elim
  ·cases e1;cases e2
   obtain⟨ia,va,pa,_⟩:=I.tuple hx;obtain⟨ib,vb,pb,_⟩:=I.tuple hy;have la:ia.length=ds.length:=by rw[<- va.length,r.length]
   have lb:ib.length=ds.length:=by rw[<- vb.length,q.length]
   have el:∀j (h1:j<ia.toArray.size) (h2:j<ib.toArray.size),SeqAt.EqAt A.in1 s ia.toArray[j] ib.toArray[j] true:=fun j h1 h2=>by
    have j1:j<ia.length:=by simpa using h1
    have j2:j<ib.length:=by simpa using h2
    have hxl:j<xs.length:=by rw[va.length];exact j1
    have hyl:j<ys.length:=by rw[vb.length];exact j2
    obtain⟨u',e1,e2⟩:=va.get (i:=j) (aB hxl);obtain⟨v',e3,e4⟩:=vb.get (i:=j) (aB hyl);obtain⟨d1,f1,f2⟩:=Paired.get r (aB hxl);obtain⟨d2,f3,f4⟩:=Paired.get q (aB hyl);rw[f1] at f3;cases f3;rw[aB j1] at e1;rw[aB j2] at e3;cases e1;cases e3;simpa using uh I n f2 f4 e2 e4 hin
   have z:(ia.toArray.size==ib.toArray.size)=true:=by simp [la,lb]
   have t1:=SeqAt.RcAt.tuples (A:=A) (s:=s) (e:=fun _=>true) (show s.heap.IsTuple a ia.toArray from pa) (show s.heap.IsTuple b ib.toArray from pb) ∅ el
   have t2:=SeqAt.RcNeAt.tuples (A:=A) (s:=s) (e:=fun _=>true) (show s.heap.IsTuple a ia.toArray from pa) (show s.heap.IsTuple b ib.toArray from pb) ∅ el
   rw[vT,z] at t1 t2;exact⟨t1,t2⟩
  ·cases e1;cases e2
 ·cases e0
  rcases hy with hy|⟨b,ys,es,e1,e2,hy,q⟩|⟨b,ys,es,e1,e2,_,hy,q⟩
  ·exact(qZ hy).elim
  ·cases e1;cases e2
  ·cases e1;cases e2
   obtain⟨ia,va,pa,_⟩:=I.list (zf hx);obtain⟨ib,vb,pb,_⟩:=I.list (zf hy);have la:ia.length=ds.length:=by rw[<- va.length,r.length]
   have lb:ib.length=ds.length:=by rw[<- vb.length,q.length]
   have el:∀j (h1:j<ia.toArray.size) (h2:j<ib.toArray.size),SeqAt.EqAt A.in1 s ia.toArray[j] ib.toArray[j] true:=fun j h1 h2=>by
    have j1:j<ia.length:=by simpa using h1
    have j2:j<ib.length:=by simpa using h2
    have hxl:j<xs.length:=by rw[va.length];exact j1
    have hyl:j<ys.length:=by rw[vb.length];exact j2
    obtain⟨u',e1,e2⟩:=va.get (i:=j) (aB hxl);obtain⟨v',e3,e4⟩:=vb.get (i:=j) (aB hyl);obtain⟨d1,f1,f2⟩:=Paired.get r (aB hxl);obtain⟨d2,f3,f4⟩:=Paired.get q (aB hyl);rw[f1] at f3;cases f3;rw[aB j1] at e1;rw[aB j2] at e3;cases e1;cases e3;simpa using uh I n f2 f4 e2 e4 hin
   have t1:=SeqAt.RcAt.lists (A:=A) (s:=s) (e:=fun _=>true) pa.isList pb.isList (by simp [la,lb]) ∅ el
   have t2:=SeqAt.RcNeAt.lists (A:=A) (s:=s) (e:=fun _=>true) pa.isList pb.isList (by simp [la,lb]) ∅ el
   rw[vT] at t1 t2;exact⟨t1,t2⟩
inductive zmnJ(K:Frag)(b:Bool)(x:V)(y:V)(H:Hp)(Q:VK):Prop|mk(a c:Addr)(n:Nat)(d:Dt)(ok ok':Addr->Prop):x=.ref a->y=.ref c->n<=20->zR K ok H (n+1) x d->zR K ok' H (n+1) y d->(Q (.bl b) H)->zmnJ K b x y H Q
def zmn(K:Frag)(b:Bool):R2:=fun x y H Q=>zmnJ K b x y H Q
theorem zdC(hu:X.A.units+64<cLine):OpR X (compareOp .Eq) (zmn X.K true):=by
 intro pins s σ H x y v u Q I rx ry h;obtain⟨a,c,n,d,ok,ok',rfl,rfl,hn,hx,hy,q⟩:=h;cases rx;cases ry;exact(zi8 (A:=X.A) I hx hy ∅).1 X.prog X.w X.xe _ ⟨.bl true,H,I,rfl,q⟩
def Ite(K:Frag)(a:Addr):It:=
 ⟨fun i H=>∃xs x,SqL K H a xs/\xs[i]?=some x,fun i H x H'=>∃p y,x=.ref p/\H p=none/\(∀xs,SqL K H a xs->xs[i]?=some y)/\H'=upd H p (.tup [.int i,y]),fun i H=>∃xs,SqL K H a xs/\xs.length<=i⟩
theorem zfg{x1:Nat}(a e it:Addr)(hne:e≠it):
  zar P w K (.Tuple elts x1 tpos) (Ite K a) [e,it] e (fun i h=>(∃old,IsEnum h e it (i:Int) old)/\h.IsListIter it a i) where
 mem:=by simp
 obj:=fun i h st b hb=>by
  rcases List.mem_cons.mp hb with rfl|hb
  ·obtain⟨⟨old,he⟩,_⟩:=st
   exact⟨_,he,fun v q=>by cases q⟩
  ·have e':b=it:=by simpa using hb
   subst e';obtain⟨_,o,ho,_,hd⟩:=st;exact⟨o,ho,fun v q=>by rw[hd] at q;cases q⟩
 keep:=fun i h h' st k=>by
  obtain⟨⟨old,he⟩,o,ho,r⟩:=st;exact⟨⟨old,k e (by simp) _ he⟩,o,k it (by simp) o ho,r⟩
 item:=by
  intro X hP hw hK hc i pins s σ H E I hf st hg;subst hP hw hK;obtain⟨f0,f1,f2,f3,f4,f5⟩:=hf e (by simp)
  obtain⟨g0,g1,g2,g3,g4,g5⟩:=hf it (by simp)
  obtain⟨⟨old,he⟩,hit⟩:=st;obtain⟨xs,x,hS,hx⟩:=hg;obtain⟨its,rv,hp,hz⟩:=I.list hS;obtain⟨u,hu,ru⟩:=rv.get hx;refine wpAny_pyNext_enum_item he hit hp.isList (x:=u) (by simpa using hu) hne fun h' he' hit' htup hsz hk=>?_
  have I0:Inv X pins σ H { s with heap:=h',toks:=s.toks+1 }:=by
   refine I.step (g':=s.gens) (d':=s.drawn) (ch:=[e,it]) (fun b hb=>?_) (fun b o _ _ hc' e1 _=>hk b o (fun z=>hc' (by simp [z])) (fun z=>hc' (by simp [z])) e1) (fun b o _ _ hc' e1 _=>⟨o.slots,hk b o (fun z=>hc' (by simp [z])) (fun z=>hc' (by simp [z])) e1⟩) (fun _ _ _ _ n=>n)
    (fun b o hc' e1=>⟨o,hk b o (fun z=>hc' (by simp [z])) (fun z=>hc' (by simp [z])) e1⟩) (fun _ _ e1=>e1) (fun _ _ _ e1=>e1) (fun b ps e1=>⟨#[],by rw[e1];simp⟩) (fun m hm=>?_) (fun b u' e1=>?_) I.bare
   ·rcases List.mem_cons.mp hb with rfl|hb
    ·exact⟨f3,f1,f4,f5⟩
    ·have e':b=it:=by simpa using hb
     subst e';exact⟨g3,g1,g4,g5⟩
   ·obtain⟨o,es,ep,ho,r⟩:=hm
    exact⟨o,es,ep,hk _ o (Ne.symm f1) (Ne.symm g1) ho,r⟩
   ·have nit:∀c v',H c=some v'->c≠e/\c≠it:=fun c v' q=>⟨fun z=>(by rw[z,f0] at q;cases q),fun z=>(by rw[z,g0] at q;cases q)⟩
    refine(I.hok b u' e1).stay (fun c v' hc' q=>?_) (fun _ q=>q) fun _ _ q=>q;rcases hc' with z|z
    ·subst z;exact hk c v' (nit c _ e1).1 (nit c _ e1).2 q
    ·exact hk c v' (nit c _ z).1 (nit c _ z).2 q
  have hfr:H s.heap.objs.size=none:=I.hok.fresh (aF _);have I1:Inv X pins σ (upd H s.heap.objs.size (.tup [.int i,x])) { s with heap:=h',toks:=s.toks+1 }:=by
   have hok:HOk X.prog X.w (upd H s.heap.objs.size (.tup [.int i,x])) h':=fun b o q=>by
    by_cases hb:b=s.heap.objs.size
    ·subst hb
     rw[za] at q;cases q;exact⟨by show 2<=sizeLine;decide,[.int i s.toks,u],.cons ⟨_,rfl⟩ (.cons ru .nil),⟨_,htup,rfl,_,rfl⟩⟩
    ·rw[zi hb] at q
     exact(I0.hok b o q).stay (fun _ _ _ z=>z) (fun c z=>by rw[zi (zj z hfr)];exact z) fun c xs' z=>by rw[zi (zj z hfr)];exact z
   refine I0.step (s:={ s with heap:=h',toks:=s.toks+1 }) (g':=s.gens) (d':=s.drawn) (h':=h') (t':=s.toks+1) (ch:=[s.heap.objs.size]) (fun b hb=>?_) (fun b o _ _ _ e1 _=>e1) (fun b o _ _ _ e1 _=>⟨o.slots,e1⟩) (fun b o hb e1 n=>by rw[zi (fun z=>hb (by simp [z]))];exact n)
    (fun b o _ e1=>⟨o,e1⟩) (fun b xs' e1=>by rw[zi (zj e1 hfr)];exact e1) (fun b o' u' e1=>by rw[zi (zj e1 hfr)];exact e1) (fun b ps e1=>⟨#[],by rw[zi (zj e1 hfr),e1];simp⟩) (fun m hm=>hm) hok I0.bare
   have e':b=s.heap.objs.size:=by simpa using hb
   subst e';exists .inr I.sz,fun z=>?_,fun y c h z=>?_,fun p hp' z=>?_
   ·have:=I.lt;rw[<- z] at this;exact absurd this (lt_irrefl _)
   ·obtain⟨v',hv⟩:=I.cell y c h
    have:=hv.lt;rw[z] at this;exact absurd this (lt_irrefl _)
   ·have:=I.pin_lt hp';rw[z] at this;exact absurd this (lt_irrefl _)
  exists _,rfl,wpAny_letOwnedTupleGo_enum he' fun h2 he2 hs2=>?_;have nes:s.heap.objs.size≠e:=fun z=>by
   have:=aI (show s.heap.get? e=some _ from he)
   rw[<- z] at this;exact absurd this (lt_irrefl _)
  have nis:s.heap.objs.size≠it:=fun z=>by
   obtain⟨o,ho,_⟩:=hit
   have:=aI ho
   rw[<- z] at this;exact absurd this (lt_irrefl _)
  have I2:Inv X pins σ (upd H s.heap.objs.size (.tup [.int i,x])) { s with heap:=h2,toks:=s.toks+1 }:=
   I1.turned (s:={ s with heap:=h',toks:=s.toks+1 }) (t':=s.toks+1) (it:=e) (fun b o hb q=>(hs2.2 b hb).trans q) (by rw[zi nes.symm];exact f0) f1 f3 f4 f5
  exists .ref s.heap.objs.size,_,I2,rfl,⟨_,x,rfl,hfr,fun xs' h'=>?_,rfl⟩,⟨⟨_,by simpa using he2⟩,?_⟩,fun b hb=>?_
  ·rw[I.list_inj h' hS];exact hx
  ·obtain⟨o,ho,r⟩:=hit'
   exact⟨o,(hs2.2 it (Ne.symm hne)).trans ho,r⟩
  ·rcases List.mem_cons.mp hb with rfl|hb
   ·rw[zi nes.symm];exact f0
   ·have e':b=it:=by simpa using hb
    subst e';rw[zi nis.symm];exact g0
 done:=by
  intro X hP hw hK hc i pins s σ H E I hf st hg;subst hP hw hK;obtain⟨⟨old,he⟩,hit⟩:=st;obtain⟨g0,g1,g2,g3,g4,g5⟩:=hf it (by simp)
  obtain⟨xs,hS,hle⟩:=hg;obtain⟨its,rv,hp,hz⟩:=I.list hS;have hx:its.toArray[i]?=none:=by simp [<- rv.length,hle]
  exact wpAny_pyNext_enum_end (I.ok.hd hc) he hit hp.isList hx fun h' eb=>⟨rfl,I.turned (t':=s.toks) (fun b o hb e1=>eb b o hb e1) g0 g1 g3 g4 g5⟩
 self:=fun A i s Q E st h=>by
  obtain⟨⟨old,he⟩,_⟩:=st;exact wpAny_pyIter_enum he h
variable {x1:Nat}
inductive zmIJ(K:Frag)(R:It->Hp->Prop)(vs:List V)(H1:Hp):Prop|mk(a:_):vs=[.ref a]->(∃xs,SqL K H1 a xs)->(R (Ite K a) H1)->zmIJ K R vs H1
def zmI(K:Frag)(ta:TA):TI:=fun σ H R=>ta σ H fun vs H1=>zmIJ K R vs H1
theorem wE{ta:TA}(hg:Gl X "enumerate")(hm:X.mg "enumerate"=none)(ha:PA X [l] ta)(hl:vP l=false:=by rfl):PI X (.Tuple elts x1 tpos) (.Call (.Name "enumerate" p) [l] [] pos) (zmI X.K ta):=by
 exists ?_;intro pins s σ H R I h;refine Call_ (wP I hg hm PyProof.Rows.boot_enumerate (PyProof.Rows.callWith_type1 (thn (ha pos pins s σ H _ I h) fun us s1 ⟨vs,H1,I1,r1,q1⟩=>?_) (yL hl) rfl));obtain⟨a,e,⟨xs,hS⟩,q⟩:=q1;subst e;obtain⟨u,rfl,ru⟩:=wt r1;cases ru;obtain⟨its,rv,hp,hz⟩:=I1.list hS;refine call_enumerate_list hp.isList fun h' he hit hsz hk=>?_;refine wpAny_pyIter_enum he ?_;have hfr:∀b,s1.heap.objs.size<=b->H1 b=none:=fun b hb=>I1.hok.fresh hb;have I2:Inv X pins σ H1 { s1 with heap:=h' }:=I1.kept (t':=s1.toks) hk
 exists s1.heap.objs.size+1,[s1.heap.objs.size+1,s1.heap.objs.size],_,_,H1,rfl,I2,zfg a _ _ (Nat.succ_ne_self _),⟨⟨_,he⟩,hit⟩,fun b hb=>?_,q;rcases List.mem_cons.mp hb with rfl|hb
 ·exact I1.fpOk (le_succ _) (hfr _ (le_succ _))
 ·have e':b=s1.heap.objs.size:=by simpa using hb
  subst e';exact I1.fpOk (aF _) (hfr _ (aF _))
end
end L2
namespace Att
open PySem PySem.W PySem.Calls PyProof.Rows
theorem zci{ns:List Int}(h:WData.layableAll [WData.list (ns.map WData.int)]=true):∀n∈ns,Builtin.Int.intBits n<=1048576:=fun n hn=>
 PySem.intBits_le_of_layable (layable0_of_all (lay0_int (layableW_item (layW_cons h).1 (.int n) (List.mem_map.mpr ⟨n,hn,rfl⟩))))
theorem zjX{l:OpenLaw}{n:Nat}{q:Program}{loose:List Str}{XP:(Str->Option Value)->Heap->Prop}{YP:World->Heap->Prop}{d:DefRec}
  (hn:l.most=some n) (hdf:d.params.defaults=[])
  (call:∀(w:World) (s₀ s₁:Shared) (mg mb:Str->Option Value) (fa:Addr) (o:Obj) (pm cd doc:Value) (a:Addr) (vs:List Value) (ns:List Int),
   Ground q loose [] XP w s₀ mg mb s₁.heap->YP w s₁.heap->
   s₁.heap.get? fa=some o->o.data=.func (docDef d.name d.params d.body d.scope pm cd doc)->s₁.heap.CodeRec cd d.name->mg d.name=some (.ref fa)->
   s₁.heap.get? a=some { cls:=.type "list",data:=.seq vs.toArray }->IntsAre vs ns->ns.length<=n->(∀m∈ns,Builtin.Int.intBits m<=1048576)->s₁.gens=#[]->
   codeAny (model l.prog w) callerA (.call (.ref fa) ⟨[.ref a],[]⟩) (fun r s'=>r=.ok (.ret (.bool true))/\OldK s₁.heap s'.heap/\s'.os=s₁.os/\AllBare s'.gens) s₁) :
  WalkO q loose XP YP l.row.toRowW d [] (fun f vs=>PySem.call f vs):=by
 intro w s₀ s₁ mg mb G Y fa o pm cd doc dV kV ho hd hcd hD hmg hg args vals as hpre hlay hrd hwl hlo;obtain rfl:dV=.none:=Dflts.none hD hdf;obtain rfl:kV=.none:=Dflts.noKw hD;obtain⟨a,vs,ns,rfl,rfl,hobj,hints,hlen⟩:=zfl hn hpre hwl;refine enter_call (codeAny_mono (call w s₀ s₁ mg mb fa o pm cd doc a vs ns G Y ho (fd_plain hd) hcd hmg hobj hints hlen (zci hlay) hg) fun r s' hq=>?_);obtain⟨rfl,h2,h3,h4⟩:=hq;exact⟨.inl ⟨.bool true,.bool true,[],rfl,fun _=>rfl,.bool true,zfq l _,fun _=>⟨List.Pairwise.nil,fun _ hm=>(nomatch hm)⟩⟩,h2,h3,h4⟩
end Att
namespace L2
open PySem PySem.Spec PyProof.Rows
theorem zlX{l:PySem.W.OpenLaw}{n k:Nat}{q:Program}{loose:List Str}{XP:(Str->Option Value)->Heap->Prop}{YP:World->Heap->Prop}{d:DefRec}{K:Params->Frag}{CX:World->CXT}{sp:World->Sp}{x:Str}
  (hn:l.most=some n) (hn2:n<=sizeLine) (hdf:d.params.defaults=[]) (hr:yk k callerA)
  (hY:∀(w:World) (h:Heap),YP w h->(K w.params).In h)
  (F:∀(w:World) (mg:Str->Option Value) (fa:Addr) (h:Heap),(K w.params).In h->h.Ns mainGlobals mg->mg d.name=some (.ref fa)->
   ∃fd:FuncData,(∀(s:Shared) (u:Value),BindsTo s fd ⟨[u],[]⟩ [(x,u)])/\
    ∀base:Heap,(K w.params).In base->base.Ns mainGlobals mg->zL l.prog w (K w.params) mg base (CX w) k fa fd [x] (sp w))
  (hsp:∀(w:World) (H:Hp) (a:Addr) (ns:List Int),ns.length<=n->(∀m∈ns,Builtin.Int.intBits m<=1048576)->zlS H->SqL (K w.params) H a (ns.map V.int)->sp w [.ref a] H (fun v _=>v=.bl true) fun _ _ _=>False)
  (hCX:∀(w:World) (H:Hp) (s:Shared) (e:Value) (s':Shared),CX w [] H s (fun _ _ _=>False) e s'->False) :
  PySem.W.WalkO q loose XP YP l.row.toRowW d [] (fun f vs=>PySem.call f vs):=by
 refine Att.zjX hn hdf fun w s₀ s₁ mg mb fa o pm cd doc a vs ns G Y ho hd hcd hmg hobj hints hlen hbits hg=>?_;have KX:=hY w _ Y;obtain⟨fd,hb,hF⟩:=F w mg fa _ KX G.T.g hmg;exact zh1 KX G.T.g G.T.b G.T.builtins G.T.nolimit hg hobj hints (Nat.le_trans hlen hn2) hr hF hb (fun H hO hS=>hsp w H a ns hlen hbits hO hS) fun H e s'=>hCX w H s₁ e s'
section
structure zau(K:Frag)(x qual:Str)(st:Stmt)(f:Addr)(fd:FuncData)(items:List Value):Prop where
 ex:∃(oc:Value) (od:Option Addr) (T:Addr) (kV doc pm:Value) (an:Option Addr) (cdv ct:Value) (osl:Array (Option Value)) (o:Obj) (n:Nat),
  fd=fnOf x qual (yq st) (yh st) (zh st) (.ref T) kV doc pm an cdv ct/\K.lookup f=some ⟨oc,od,.func fd,osl⟩/\codeIn K cdv qual=true/\K.lookup T=some o/\o.data=.seq items.toArray n
 kp:keepIn K (.ref f)=true
variable {mg:Str->Option Value}
theorem zau.ok{P:Program}{w:World}{K:Frag}{base:Heap}{x qual:Str}{st:Stmt}{f:Addr}{fd:FuncData}{items:List Value}{N ps:List Str}{k:Nat}{sp:Sp}(F:zau K x qual st f fd items)(S:zA N ps (zh st))(len:∀vs H Q E,sp vs H Q E->vs.length=ps.length)
  (hbody:∀(cdv:Value) (A:Around) (outer:List Env) (s:Shared) (H:Hp) (vs:List V) (Q:VK) (E:XK),yk k (A.deeper (envOfC qual (zh st) s.heap.objs.size f cdv))->sp vs H Q E->
   ∃t,PSs (zd4 CX0 P w K mg base N qual (zh st) f cdv A outer s H E).nox (yh st) t/\t { nx:=fun _ H'=>Q .non H',rt:=Q } (uM N vs) H):zL P w K mg base CX0 (k+1) f fd ps sp:=by
 obtain⟨oc,od,T,kV,doc,pm,an,cdv,ct,osl,o,n,rfl,lk,hcd,_,_⟩:=F.ex;refine zku lk hcd S len fun A outer s H vs Q E hr hsp=>?_;obtain⟨t,h,q⟩:=hbody cdv A outer s H vs Q E hr hsp;exact⟨t,h.nox,q⟩
theorem zau.bindsTo{K:Frag}{x qual:Str}{st:Stmt}{f:Addr}{fd:FuncData}{items:List Value}(F:zau K x qual st f fd items){args:Args}{bs:List (Str×Value)}
  (h:∀(T:Addr) (kV doc pm:Value) (an:Option Addr) (cdv ct:Value),∃k:Option (Array Value)->Sem (List (Str×Value)),
   bindArgs (fnOf x qual (yq st) (yh st) (zh st) (.ref T) kV doc pm an cdv ct) args=seqItems? (.ref T) >>= k/\k (some items.toArray)=pure bs) {s:Shared}(KX:K.In s.heap):BindsTo s fd args bs:=by
 obtain⟨oc,od,T,kV,doc,pm,an,cdv,ct,osl,o,n,rfl,lk,hcd,lt,hs⟩:=F.ex;obtain⟨k,h1,h2⟩:=h T kV doc pm an cdv ct;exact BindsTo.of_defaults (T:=T) (n:=n) rfl (KX _ _ lt) hs h1 h2
theorem zjL{K:Frag}{x qual:Str}{st:Stmt}{f T:Addr}{oc:Value}{od an:Option Addr}{osl:Array (Option Value)}{kV doc pm cdv ct:Value}{o:Obj}{n:Nat}{items:List Value}
  (l:K.lookup f=some ⟨oc,od,.func (fnOf x qual (yq st) (yh st) (zh st) (.ref T) kV doc pm an cdv ct),osl⟩)
  (c:codeIn K cdv qual=true) (k:keepIn K (.ref f)=true) (lT:K.lookup T=some o) (hs:o.data=.seq items.toArray n) :
  zau K x qual st f (fnOf x qual (yq st) (yh st) (zh st) (.ref T) kV doc pm an cdv ct) items:=⟨⟨oc,od,T,kV,doc,pm,an,cdv,ct,osl,o,n,rfl,l,c,lT,hs⟩,k⟩
variable {CX:CXT}{k:Nat}{sp:Sp}{t tk:TA}{g:List Value->List Value->List Value}{gV:List V->List V->List V}
theorem yo{t u:TS}(R:St->Hp->Prop)(h2:∀σ H,R σ H->u D σ H)(h1:(∀σ H,R σ H->u D σ H)->t { D with nx:=u D } σ H):jj t u D σ H:=h1 h2
def lcN(n i:Nat)(D:Addr)(Pv:Nat->List V->Hp->Prop)(ys:List V):VK:=fun v H4=>H4 D=some (.lst ys)/\ys.length<sizeLine/\∃m',m'<n - i/\m'=n - (i+1)/\i+1<=n/\Pv (i+1) (ys++[v]) (upd H4 D (.lst (ys++[v])))
def lcS(n i:Nat)(Pv:Nat->List V->Hp->Prop)(ys:List V):Hp->Prop:=fun H4=>∃m',m'<n - i/\m'=n - (i+1)/\i+1<=n/\Pv (i+1) ys H4
theorem lcN.mk{n i:Nat}{Pv:Nat->List V->Hp->Prop}(hi:i<n)(hn:n<=sizeLine)(hD:H4 D=some (.lst ys))(hy:ys.length<=i)(p:Pv (i+1) (ys++[v]) (upd H4 D (.lst (ys++[v])))):lcN n i D Pv ys v H4:=
 ⟨hD,∅,n - (i+1),∅,rfl,hi,p⟩
theorem lcS.mk{n i:Nat}{Pv:Nat->List V->Hp->Prop}(hi:i<n)(p:Pv (i+1) ys H4):lcS n i Pv ys H4:=⟨n - (i+1),∅,rfl,hi,p⟩
theorem wG{K:Frag}{a:Addr}{xs:List V}{caps:List (Option Nat)}{g:TG}{tt:TT}{te:TE}{σ : St}{H1:Hp}{Q:VK}{D:Addr}(Pv:Nat->List V->Hp->Prop)(h0:Pv 0 [] (upd H1 D (.lst [])))
  (hl:∀i ys H,Pv i ys H->SqL K H a xs)
  (hs:∀i x ys H,i<xs.length->xs[i]?=some x->Pv i ys H->g x (yW caps σ) H fun σ2 H2=>tt σ2 H2 fun ok H3=>(ok=true->te σ2 H3 (lcN xs.length i D Pv ys))/\(ok=false->lcS xs.length i Pv ys H3))
  (hd:∀ys H,Pv xs.length ys H->Q (.ref D) H):LCr (Itl K a) caps g tt te σ H1 Q D:=by
 exists fun i m ys H=>m=xs.length - i/\i<=xs.length/\Pv i ys H,⟨xs.length,by simp,zero_le _,h0⟩,?_
 rintro i m ys H ⟨rfl,hi,p⟩;have q:=hl i ys H p;by_cases hlt:i<xs.length
 ·refine .inr ⟨⟨xs,xs[i],q,by simp [hlt]⟩,fun x H' y=>?_⟩
  obtain⟨e,y⟩:=y;subst e;exact hs i x ys _ hlt (y xs q) p
 ·have e:i=xs.length:=by omega
  subst e;exact .inl ⟨⟨xs,q,aF _⟩,hd ys H p⟩
theorem xD(hx:H x=none)(hd:H dx=none):zq H (upd (upd H dx (.own x)) x o1):=fun b u q=>by
 rw[zi (zj q hx),zi (zj q hd)];exact q
theorem zd(h:H p=none)(o:HO):zq H (upd H p o):=fun b u q=>by rw[zi (zj q h)];exact q
end
end L2
namespace L2
open PySem
theorem nS(h:H p=none)(e:upd H p o=H'):zq H H':=e ▸ zd h o
theorem nE(e:upd H p o=H'):H' p=some o:=e ▸ za
end L2
local macro_rules|`(tactic|injections $l:ident $h:ident $H:ident $s:ident $e:ident)=>`(tactic|(generalize hE:L2.upd _ $l _=$H:ident;have $s:ident:=L2.nS $h hE;have $e:ident:=L2.nE hE;clear hE))
namespace L2
open PySem PySem.Spec PyProof.Rows
theorem qR{lo:Int}{n:Nat}{g:TG}{tt:TT}{te:TE}{Q:VK}(Pv:Nat->List V->Hp->Prop)(h0:Pv 0 [] (upd H1 D (.lst [])))
  (hs:∀i ys H,i<n->Pv i ys H->g (.int (lo+i)) (yW caps σ) H fun σ2 H2=>tt σ2 H2 fun ok H3=>(ok=true->te σ2 H3 (lcN n i D Pv ys))/\(ok=false->lcS n i Pv ys H3))
  (hd:∀ys H,Pv n ys H->Q (.ref D) H):LCr (Itr lo n) caps g tt te σ H1 Q D:=by
 exists fun i m ys H=>m=n - i/\i<=n/\Pv i ys H,⟨n,by simp,zero_le _,h0⟩,?_
 rintro i m ys H ⟨rfl,hi,p⟩;by_cases hlt:i<n
 ·refine .inr ⟨hlt,fun x H' y=>?_⟩
  obtain⟨e,y⟩:=y;subst e y;exact hs i ys _ hlt p
 ·have e:i=n:=by omega
  subst e;exact .inl ⟨aF _,hd ys H p⟩
theorem zeS{K:Frag}{a:Addr}{xs:List V}{caps:List (Option Nat)}{g:TG}{tt:TT}{te:TE}{σ : St}{H1:Hp}{Q:VK}{D:Addr}(Pv:Nat->List V->Hp->Prop)(h0:Pv 0 [] (upd H1 D (.lst [])))
  (hl:∀i ys H,Pv i ys H->SqL K H a xs)
  (hs:∀i x p ys H,i<xs.length->xs[i]?=some x->Pv i ys H->H p=none->g (.ref p) (yW caps σ) (upd H p (.tup [.int i,x])) fun σ2 H2=>tt σ2 H2 fun ok H3=>(ok=true->te σ2 H3 (lcN xs.length i D Pv ys))/\(ok=false->lcS xs.length i Pv ys H3))
  (hd:∀ys H,Pv xs.length ys H->Q (.ref D) H):LCr (Ite K a) caps g tt te σ H1 Q D:=by
 exists fun i m ys H=>m=xs.length - i/\i<=xs.length/\Pv i ys H,⟨xs.length,by simp,zero_le _,h0⟩,?_
 rintro i m ys H ⟨rfl,hi,p⟩;have q:=hl i ys H p;by_cases hlt:i<xs.length
 ·refine .inr ⟨⟨xs,xs[i],q,by simp [hlt]⟩,fun x H' y=>?_⟩
  obtain⟨pp,y,rfl,hp,y2,rfl⟩:=y;exact hs i y pp ys H hlt (y2 xs q) p hp
 ·have e:i=xs.length:=by omega
  subst e;exact .inl ⟨⟨xs,q,aF _⟩,hd ys H p⟩
theorem vQ{K:Frag}{a:Addr}{xs:List V}{g:TG}{tb:TS}{D:jQ}{σ : St}{H:Hp}(Pv:Nat->St->Hp->Prop)(h0:Pv 0 σ H)(hl:∀i σ H,i<=xs.length->Pv i σ H->SqL K H a xs)
  (hs:∀i x p σ H,xs[i]?=some x->Pv i σ H->H p=none->g (.ref p) σ (upd H p (.tup [.int i,x])) fun σ2 H2=>tb { D with nx:=Pv (i+1),ct:=Pv (i+1),bk:=D.nx } σ2 H2) (hd:∀σ H,Pv xs.length σ H->D.nx σ H) :
  ∃W:Nat->Nat->St->Hp->Prop,(∃m,W 0 m σ H)/\∀i m σ H,W i m σ H->
   ((Ite K a).stop i H/\D.nx σ H)\/((Ite K a).go i H/\∃N:St->Hp->Prop,(∀σ' H',N σ' H'->∃m',m'<m/\W (i+1) m' σ' H')/\∀x H',(Ite K a).yld i H x H'->g x σ H' fun σ2 H2=>tb { D with nx:=N,ct:=N,bk:=D.nx } σ2 H2):=by
 exists fun i m σ H=>m=xs.length - i/\i<=xs.length/\Pv i σ H,⟨xs.length,by simp,zero_le _,h0⟩,?_
 rintro i m σ H ⟨rfl,hi,p⟩;have q:=hl i σ H hi p;by_cases hlt:i<xs.length
 ·refine .inr ⟨⟨xs,xs[i],q,by simp [hlt]⟩,Pv (i+1),fun σ' H' p'=>⟨xs.length - (i+1),∅,rfl,hlt,p'⟩,fun x H' y=>?_⟩
  obtain⟨pp,y,rfl,hp,y2,rfl⟩:=y;exact hs i y pp σ H (y2 xs q) p hp
 ·have e:i=xs.length:=by omega
  subst e;exact .inl ⟨⟨xs,q,aF _⟩,hd σ H p⟩
section
variable {E:VSP}
end
section
variable {t:TA}
variable {mg:Str->Option Value}
variable {k:Nat}{sp:Sp}
end
section
variable {E:VSP}{i:Nat}
end
section
variable {te ta:TE}{t tr:TA}{k:Nat}{sp:Sp}
variable {i:Nat}{tb:XK->TS}{ts:TS}{ok:Value->Prop}
end
end L2
namespace L2
open PySem PySem.W PySem.Builtin PySem.Builtin.ObjectAttr PySem.Builtin.Getset_descriptor PySem.Spec PyProof.Rows
section
variable {E:VSP}
end
end L2
namespace L2
open PySem PySem.Spec PyProof.Rows
section
variable {mg:Str->Option Value}
variable {k:Nat}{sp:Sp}{t:TA}
end
section
variable {w:World}{E:VSP}{n:Int}
theorem ziw:bootBuiltins "reversed"=some (.type "reversed"):=by decide +kernel
variable {o i:Expr}{to ti:TE}
inductive znqJ(x:V)(y:V)(H:Hp)(Q:VK):Prop|mk(a c:Addr)(xs ys:List V):x=.ref a->y=.ref c->H a=some (.lst xs)->H c=some (.lst ys)->xs.length≠ys.length->(Q (.bl false) H)->znqJ x y H Q
def znq:R2:=fun x y H Q=>znqJ x y H Q
theorem zcz(hu:X.A.units<cLine):OpR X (compareOp .Eq) znq:=by
 intro pins s σ H x y v u Q I rx ry h;obtain⟨a,c,xs,ys,rfl,rfl,ha,hc,hn,q⟩:=h;cases rx;cases ry;obtain⟨its,r,pl,_⟩:=I.list (zf ha);obtain⟨its2,r2,pl2,_⟩:=I.list (zf hc);have e1:=r.length;have e2:=r2.length;exact PySem.SeqAt.eq_list_lengthsAt pl.isList pl2.isList (by simp only[size_toArray,bne_iff_ne];omega) hu ⟨.bl false,H,I,rfl,q⟩
variable {te:TE}{C:Addr}{x:Str}
theorem ww{H H1:Hp}{x dx:Addr}{o1 o2:HO}(hx:H x=none)(hd:H dx=none)(s:zq (upd (upd H dx (.own x)) x o1) H1):zq H (upd H1 x o2):=fun b u q=>by
 rw[zi (zj q hx)];exact s _ _ (xD hx hd b u q)
structure zge(P:Program)(w:World)(K:Frag)(mg:Str->Option Value)(base:Heap)(CX:CXT)(k:Nat)(x:Str)(C i:Addr)(fd:FuncData)(ps:List Str)(ds:List Value)(sp:Sp):Prop where
 mkr:Mk K C i
 ok:zL P w K mg base CX k i fd ps sp
 mg:mg x=some (.ref C)
 bd:yc K fd ps ds
end
section
variable {CX:CXT}{k:Nat}{C i f:Addr}{sp:Sp}{E:XK}{x m:Str}{es:List Expr}{t tk:TA}{g:List Value->List Value->List Value}{gV:List V->List V->List V}
theorem cMk(c:zge X.prog X.w X.K X.mg X.base CX k x C i fd ps ds sp)(hd:zV dvs ds)(hp:wU CX X E)(hr:yk (k+1) X.A)(ha:PA X (e::es) t)(hg:Gl X x:=by rfl)(hdb:(x==("__debug__" : Str))=false:=by decide)
  (h1:vP e=false:=by rfl) (h2:es.any vP=false:=by rfl):PE X (.Call (.Name x p) (e::es) [] pos) (zj7 C sp dvs E t):=zeF c.mkr c.ok hr hg c.mg c.bd hd hp ha hdb (yL h1) (wY h2)
structure zak(K:Frag)(C:Addr)(m:Str)(f:Addr):Prop where
 ga:PySem.W.specialIn K (.ref C) "__getattribute__"=some (some (.builtin "type.__getattribute__"))
 rd:PySem.W.readsIn K C (.type "type")=true
 fc:PySem.W.findCls K (.ref C) (.type "type") m=some (.val (.ref f))
 kp:keepIn K (.ref f)=true
theorem zcu(B:zak X.K C m f)(hm:X.mg x= ~~~C)(F:zL X.prog X.w X.K X.mg X.base CX k f fd ps sp)(hr:yk k X.A)(hb:yc X.K fd ps [])(hx:wU CX X E)(ha:PA X (e::es) t)(hg:Gl X x:=by rfl)
  (hdb:(x==("__debug__" : Str))=false:=by decide) (h1:vP e=false:=by rfl) (h2:es.any vP=false:=by rfl)
  (ht:eval (.Call (.Attribute (.Name x p) m apos) (e::es) [] pos) X.env=(do
   let ov <- eval (.Name x p) X.env
   standAt apos.atName
   let (f,first) <- holding [ov] (getMethod ov m pl)
   callWith pos f first (backTo pos (starEach (e::es) X.env)) (backToKw pos (keywordEach [] X.env))):=by rfl) :
  PE X (.Call (.Attribute (.Name x p) m apos) (e::es) [] pos) (zgo sp [] E t):=by
 and_intros;refine methodCall_KW (pl:=pl) (uc I hg hm ?_ hdb) ht;refine PySem.W.method_cls I.kIn B.ga (PySem.W.cls_value I.kIn B.rd B.fc rfl ?_);have It:=I.tok (s.toks+1);refine callWith_K (first:=[]) (h₀:=X.base) I.ok.mod.kin B.kp (thn (ha pos pins _ σ H _ It h) fun us s2 ⟨vs,H2,I2,r,q2⟩=>⟨I2.kIn,?_⟩) (yL h1) (wY h2)
 exact qx F hr hb .nil hx I2 r q2
theorem vZ{X:Cx}{st:Stmt}:PS X st (fun _ _ _=>False):=⟨fun _ _ _ _ _ _ h=>h.elim⟩
def znZ(P:Program)(w:World)(a:Addr)(S:Str->Bool)(n:Nat)(h:Heap):Prop:=h.SetOf (strKind P w) a S n
abbrev vJ(P:Program)(w:World)(a:Addr)(S:Str->Bool)(n:Nat):HO:=.ext (znZ P w a S n)
theorem zbh{S:Str->Bool}{n:Nat}(e:h.SetOf (strKind P w) a S n):yT P w H h a (vJ P w a S n):=
 ⟨e,let ⟨o,_,_,_,h1,_⟩:=e;⟨o,h1⟩,fun g1 g2 q k=>let ⟨o,es,ep,t,h1,c⟩:=q;⟨o,es,ep,t,k o h1,c⟩⟩
theorem zf8:xq X (.type "set") (fun xs H Q=>xs=[]/\∀p,H p=none->Q (.ref p) (upd H p (vJ X.prog X.w p (fun _=>false) 0))):=by
 intro pins s σ H xs us Q I r h;obtain⟨rfl,q⟩:=h;cases r;refine call_set_0 fun led=>?_;have hf:H s.heap.objs.size=none:=I.hok.fresh (aF _);exists .ref s.heap.objs.size,_,I.laid (t':=s.toks) (fun b u e=>zgp _ e) (aF _) (zbh ?_),rfl,q _ hf;exact(setObjOf_fresh led).setOf (zgs _ rfl) ⋯
theorem qL:OpR X (compareOp .In) (fun x y H Q=>∃(a:Addr) (S:Str->Bool) (n:Nat) (z:Str),x=.str z/\y=.ref a/\H a=some (vJ X.prog X.w a S n)/\Q (.bl (S z)) H):=by
 intro pins s σ H x y v u Q I rx ry h;obtain⟨a,S,n,z,rfl,rfl,e,q⟩:=h;obtain⟨t,rfl⟩:=rx;cases ry;have hS:s.heap.SetOf (strKind X.prog X.w) a S n:=(I.hok a _ e).1;exact wpAny_inSet_of (strKind_is X.prog X.w z t) rfl hS ⟨.bl (S z),H,I.tok _,rfl,q⟩
inductive zlZJ(P:Program)(w:World)(te:TE)(σ:St)(Q:VK)(x:V)(H1:Hp):Prop|mk(a:Addr)(S:Str->Bool)(n:Nat):x=.ref a->H1 a=some (vJ P w a S n)->(te σ H1 fun y H2=>∃(S:Str->Bool) (n:Nat) (z:Str),y=.str z/\H2 a=some (vJ P w a S n)/\n+1<scanBound/\Q .non (upd H2 a (vJ P w a (fun k=>S k||decide (k=z)) (if S z then n else n+1))))->zlZJ P w te σ Q x H1
def zlZ(P:Program)(w:World)(to te:TE):TE:=fun σ H Q=>to σ H fun x H1=>zlZJ P w te σ Q x H1
theorem zje{to te:TE}(ho:PE X o to)(he:PE X e te)(m:M1 X o "add" apos e cpos):PE X (.Call (.Attribute o "add" apos) [e] [] cpos) (zlZ X.prog X.w to te):=by
 and_intros;refine wpAny_Call_method m.base m.few m.line PySem.F.plainAttrs_set PySem.F.slot_set_add PySem.F.type_set_add (thn (ho pins s σ H _ I h) fun u s1 ⟨x,H1,I1,rx,a,S,n,ex,d,q1⟩=>?_);subst ex;obtain rfl:u=Value.ref a:=rx;have hS:s1.heap.SetOf (strKind X.prog X.w) a S n:=(I1.hok a _ d).1;exists hS.typeIs,hS.noDict,?_;rw[m.trees];refine Calls.callWith_builtin rfl (Calls.evalArgs_plain (Calls.spliced_cons (thn (he pins s1 σ H1 _ I1 q1) fun iv s2 ⟨y,H2,I2,ry,S2,n2,z,ey,e2,hn,q2⟩=>Calls.spliced_nil ?_)));subst ey;obtain⟨t,rfl⟩:=ry;have hS2:s2.heap.SetOf (strKind X.prog X.w) a S2 n2:=(I2.hok a _ e2).1;refine call_set_add (strKind_is X.prog X.w z t) rfl hS2 hn fun h' hs hS3=>⟨.non,_,?_,rfl,q2⟩;refine I2.write (x:=a) (e:=a) (by rw[e2];exact True.intro) (.inl rfl) (fun b q hb z=>(hs.2 b hb).trans z) (let ⟨o,_,_,_,h1,_⟩:=hS3;⟨o,h1⟩) (zbh hS3)
inductive zkCJ(Cs:Addr->Prop)(m:Str)(sp:Sp)(E:XK)(Q:VK)(x:V)(H1:Hp):Prop|mk(a C dx fs:_):x=.ref a->Cs C->H1 a=some (.ins C dx fs)->fs.lookup m=none->(sp [x] H1 Q E)->zkCJ Cs m sp E Q x H1
def zkC(Cs:Addr->Prop)(m:Str)(sp:Sp)(E:XK)(ta:TE):TE:=fun σ H Q=>ta σ H fun x H1=>zkCJ Cs m sp E Q x H1
theorem wx{CX:CXT}{k:Nat}{sp:Sp}{ta:TE}{Cs:Addr->Prop}(he:PE X o ta)(hC:∀C,Cs C->Cls X.K C/\xv X.K C m f)(F:zL X.prog X.w X.K X.mg X.base CX k f fd ps sp)(hr:yk k X.A)(hb:yc X.K fd ps [])(hx:wU CX X E)
  (ht:eval (.Call (.Attribute o m apos) [] [] pos) X.env=(do
   let ov <- eval o X.env
   standAt apos.atName
   let (f,first) <- holding [ov] (getMethod ov m pl)
   callWith pos f first (backTo pos (starEach [] X.env)) (backToKw pos (keywordEach [] X.env))):=by rfl) :
  PE X (.Call (.Attribute o m apos) [] [] pos) (zkC Cs m sp E ta):=by
 and_intros;refine methodCall_KW (pl:=pl) (thn (he pins s σ H _ I h) fun u s1 ⟨x,H1,I1,rx,a,C,dx,fs,ex,hc,ea,l,q⟩=>?_) ht;subst ex;obtain rfl:u=Value.ref a:=rx;obtain⟨c,hm⟩:=hC C hc;refine uE I1 ea c hm l ?_;exact PySem.W.callWith_K0 (first:=[.ref a]) I1.kIn hm.kp (qx (us:=[.ref a]) (vs:=[.ref a]) F hr hb .nil hx I1 (.cons rfl .nil) q)
structure zlU(w:World)(K:Frag)(a:Addr)(f:Str->Option V):Prop where
 obj:∃es n,K.lookup a=some ⟨.type "dict",none,.dict es n,#[]⟩/\KeysLit w.params es.toList
 vals:∀x v,f x=some v->∃u,nsIn K a x=some (some u)/\z5 v u
theorem zjf{f:Str->Option V}{te:TE}(T:zlU X.w X.K a f)(hm:X.mg d= ~~~a)(he:PE X e te)(hg:Gl X d:=by rfl)(hs:zlT e:=by first|exact fun _ _=>rfl|decide|rfl)(hdb:(d==("__debug__" : Str))=false:=by decide):
  PE X (.Subscript (.Name d p) e pos) (fun σ H Q=>te σ H fun y H1=>∃x v,y=.str x/\f x=some v/\Q v H1):=by
 and_intros;obtain⟨es,n,hl,hk⟩:=T.obj;refine zek PySem.F.slot_dict_getitem.lookup hs (uc I hg hm (thn (he pins s σ H _ I h) fun iv s2 ⟨y,H2,I2,ry,x,v,ey,ef,q2⟩=>?_) hdb);subst ey;obtain⟨t,rfl⟩:=ry;obtain⟨u,eu,ru⟩:=T.vals x v ef;have hmap:=PySem.W.mapOf_K (prog:=X.prog) (w:=X.w) I2.kIn hl hk;exact⟨hmap.typeIs,wpAny_getItem_of (strKind_is X.prog X.w x t) hmap (PySem.W.find_K hl eu) ⟨v,H2,I2.tok _,ru,q2⟩⟩
theorem zcT{m:Str->Option Value}{t':Nat}(I:Inv X pins σ H s)(B:xa X.env sc fr)(hf:∀b∈fp,xQ X pins H b)(ho:∀b∈fp,∃o,s.heap.get? b=some o)
  (hC:s.heap.objs.size<=C) (hD:s.heap.objs.size<=D) (hDC:D≠C) (keep:∀b o,s.heap.get? b=some o->h'.get? b=some o) (new:yT X.prog X.w (upd H D o0) h' D o0) (hn:h'.Ns C m)
  (hcap:wz X.N Nc caps X.env sc fr=true) (hlen:caps.length=Nc.length) :
  Inv (yb X pins sc fr Nc fp s H C) [] (yW caps σ) (upd H D o0) { s with heap:=h',toks:=t' }:=by
 have hk:X.env.scope.kind=.function:=I.ok.kind;have fresh:∀a,s.heap.objs.size<=a->H a=none:=fun a ha=>I.hok.fresh ha;exists ze9 I B hf ho hC,rfl,I.bare,Un.laid keep hD (fresh D hD),⟨m,hn,fun i x v e1 e2 e3=>?_⟩,fun x c h=>?_,?_,fun x c h=>?_,fun p hp=>?_,?_,?_
 ·
  have e2':(caps[i]?).map (fun o=>match o with|none=>none|some j=>(σ[j]?).join)=some (some v):=by
   have:(yW caps σ)[i]?=some (some v):=e2
   unfold yW at this;rw[getElem?_map] at this;exact this
  cases hc:caps[i]? with
  | none=>rw[hc] at e2';cases e2'
  | some o=>
   rw[hc] at e2';cases o with
   | none=>simp at e2'
   | some j=>
    have e4:(σ[j]?).join=some v:=by simpa using e2'
    have e5 : σ[j]?=some (some v):=by
     cases q : σ[j]? with
     | none=>rw[q] at e4;cases e4
     | some w'=>rw[q] at e4;simp at e4;rw[e4]
    have e6:(Nc.zip caps)[i]?=some (x,some j):=by
     rw[List.getElem?_zip_eq_some];exact⟨e1,hc⟩
    have e7:=List.all_eq_true.mp hcap _ (aH e6);simp only[Bool.and_eq_true,beq_iff_eq,contains_iff_mem] at e7;obtain⟨⟨⟨a1,a2⟩,a3⟩,a4⟩:=e7;obtain⟨m0,hn0,hl0⟩:=I.loc;obtain⟨u,r,l⟩:=hl0 j x v a1 e5 (.inr (.inl a2));exists u,r,.inr ⟨.inl (wm hk a3 a2),_,jy a4,?_⟩;rcases l with ⟨z,_⟩|⟨_,c,ec,hcell⟩
    ·rw[a2] at z;cases z
    ·have:(X.env.cells.lookup x).getD 0=c:=by rw[ec];rfl
     rw[this];exact hcell.keeps keep
 ·obtain⟨v,hv⟩:=I.cell x c (B.sub h)
  exact⟨v,hv.keeps keep⟩
 ·show upd H D o0 C=none
  rw[zi (Ne.symm hDC)];exact fresh C hC
 ·obtain⟨v,hv⟩:=I.cell x c (B.sub h)
  have:c≠D:=fun z=>by have:=hv.lt;rw[z] at this;exact absurd (lt_of_lt_of_le this hD) (lt_irrefl _)
  rw[zi this];exact I.freeC x c (B.sub h)
 ·have hp':p∈X.pn++pins:=by simpa using hp
  obtain⟨e,n,ne,nf,d⟩:=I.pin p hp';have hlt:=I.pin_lt hp';exists keep _ _ e,?_,?_,fun z=>?_,d
  ·rw[zi (fun z=>by rw[z] at hlt;exact absurd (lt_of_lt_of_le hlt hD) (lt_irrefl _))];exact n
  ·intro z
   have z':p.1=C:=z;rw[z'] at hlt;exact absurd (lt_of_lt_of_le hlt hC) (lt_irrefl _)
  ·rcases List.mem_cons.mp (I.stkSub p.1 z) with q|q
   ·exact ne q
   ·exact nf q
 ·exact I.hok.laid keep hD new
 ·show(yW caps σ).length=Nc.length
  unfold yW;rw[aA,hlen]
variable {R:Result->Shared->Prop}
theorem zan(I:Nat->Shared->Prop)
  (turn:∀n s,I n s->wpAny (model prog w) A (pyNext it) (fun r s₁=>match r with
   | none=>R (.ok .next) s₁
   | some v=>wpAny (model prog w) A (letOwnedTupleGo target it v) (fun _ s₀=>wpAny (model prog w) A (assign target env v) (fun _ s₂=>
     wpAny (model prog w) A (forIn ifs true fun c r=>if r=true then do let ok <- isTrue c env (eval c env);pure (ForInStep.yield ok) else pure (ForInStep.yield r)) (fun ok s₃=>
      if ok=true then wpAny (model prog w) A (eval kx env) (fun kv s₄=>wpAny (model prog w) A (eval vx env) (fun vv s₅=>
       wpAny (model prog w) A (dictSet D kv vv) (fun _ s₆=>∃m,m<n/\I m s₆) (fun _ _=>False) s₅) (fun _ _=>False) s₄) (fun _ _=>False) s₃
      else ∃m,m<n/\I m s₃) (fun _ _=>False) s₂) (fun _ _=>False) s₀) (fun _ _=>False) s₁) (fun _ _=>False) s)
  (n:Nat) (h:I n s) :
  codeAny (model prog w) A (.compLoop (.DictComp kx vx [⟨target,iter,ifs,0⟩] scope pos) 0 it (.ref D) env) R s:=by
 refine codeAny_loop rfl I (fun n s hI=>?_) n h;show wpAny _ A ((compTurn (.DictComp kx vx [⟨target,iter,ifs,0⟩] scope pos) 0 it (.ref D) env).onRaise (fun x=>do noteFrame x env;theTreesLotGoes x)) _ _ s
 refine wpAny_noted ?_;rw[compTurn_dict];refine zwb (wpAny_standAt (zwb (wpAny_mono (turn n s hI) (fun r s₁ h₁=>?_) fun _ _ z=>z.elim)));cases r with
 | none=>exact zwp h₁
 | some v=>
  refine zwb (wpAny_mono h₁ (fun _ s₀ h₀=>?_) fun _ _ z=>z.elim);refine zwb (wpAny_mono h₀ (fun _ s₂ h₂=>zwb (wpAny_mono h₂ (fun ok s₃ h₃=>?_) fun _ _ z=>z.elim)) fun _ _ z=>z.elim);cases ok with
  | false=>exact zwp ⟨rfl,h₃⟩
  | true=>
   exact zwb (zwb (wpAny_mono h₃ (fun kv s₄ h₄=>zwb (wpAny_holding (wpAny_mono h₄ (fun vv s₅ h₅=>zwb (wpAny_standAt (wpAny_holding (wpAny_mono h₅ (fun _ s₆ h₆=>zwp ⟨rfl,h₆⟩) fun _ _ z=>z.elim)))) fun _ _ z=>z.elim))) fun _ _ z=>z.elim))
def DCr(J:It)(caps:List (Option Nat))(g:TG)(tt:TT)(tk tv:TE)(σ : St)(H1:Hp)(Q:VK)(D:Addr):Prop:=
 ∃W:Nat->Nat->List (Key×V)->Hp->Prop,(∃m,W 0 m [] (upd H1 D (.dK [])))/\∀i m ys H,W i m ys H->
  (J.stop i H/\Q (.ref D) H)\/
  (J.go i H/\∀x H',J.yld i H x H'->g x (yW caps σ) H' fun σ2 H2=>tt σ2 H2 fun ok H3=>
   (ok=true->tk σ2 H3 fun y H4=>tv σ2 H4 fun v H5=>∃k,y=kV k/\H5 D=some (.dK ys)/\ys.length<sizeLine/\∃m',m'<m/\W (i+1) m' (xo ys k v) (upd H5 D (.dK (xo ys k v))))/\
   (ok=false->∃m',m'<m/\W (i+1) m' ys H3))
def tDC(wi:TI)(caps:List (Option Nat))(g:TG)(tt:TT)(tk tv:TE):TE:=fun σ H Q=>wi σ H fun J H1=>∀D,H1 D=none->DCr J caps g tt tk tv σ H1 Q D
end
section
variable {g:TG}{tt:TT}{tk tv:TE}{E:VSP}
theorem zl8(I:Inv X pins σ H s):sysModules<s.heap.objs.size:=I.big
theorem zf5{tn:Nat->Heap->Prop}{J:It}{Q:VK}{RR:Value->Addr->Result->Shared->Prop}
  (hc:X.calm=true) (B:xa X.env sc fr) (go:zat g ow) (how:(ow.all fun i=>caps[i]?==some none)=true) (hcap:wz X.N Nc caps X.env sc fr=true) (hlen:caps.length=Nc.length)
  (hb:∀(pins:PnL) fp s H C,PG (yb X pins sc fr Nc fp s H C) tg g/\PIf (yb X pins sc fr Nc fp s H C) ifs tt/\PE (yb X pins sc fr Nc fp s H C) kx tk/\PE (yb X pins sc fr Nc fp s H C) vx tv)
  (I2:Inv X pins σ H2 s) (T:zar X.prog X.w X.K tg J fp it tn) (st2:tn 0 s.heap) (f2:∀b∈fp,xQ X pins H2 b) (h:∀D,H2 D=none->DCr J caps g tt tk tv σ H2 Q D)
  (fin:∀D C (σ':St) H' s',Inv (yb X pins sc fr Nc fp s H2 C) [] σ' H' s'->Q (.ref D) H'->RR (.ref D) C (.ok .next) s') :
  ↑X newDict (fun acc s₃=>↑X (newFunctionEnv sc X.env.globals (clB X.env fr) [] X.env.qual none .none (some X.env)) (fun cenv s₄=>
   codeAny (model X.prog X.w) X.A (.compStart (.DictComp kx vx [⟨tg,iter,ifs,0⟩] sc pos) 0 (.ref it) acc { cenv with scope:=relabel sc X.env }) (RR acc cenv.locals) s₄) E s₃) E s:=by
 have hcell:∀y∈sc.names,y.2≠.cell:=fun y hy=>by
  have h3:=List.all_eq_true.mp B.names _ hy;simp only[Bool.and_eq_true,bne_iff_ne,ne_eq] at h3;exact h3.1.1
 refine wpAny_newObj_type (wpAny_newFunctionEnv hcell (by intro y hy;simp at hy) (fun h₁ hns₁ hsb₁=>?_) B.kind)
 dsimp only at hns₁ hsb₁ |-;have hnew:(s.heap.push { cls:=.type "dict",dict:=none,data:=.dict #[] }).DictOf (yx X.prog X.w) s.heap.objs.size []:=Heap.DictOf.new s.heap;generalize hH2:s.heap.push { cls:=.type "dict",dict:=none,data:=.dict #[] }=H3 at hns₁ hsb₁ hnew |-;have hCs:H3.objs.size=s.heap.objs.size+1:=by rw[<- hH2,Heap.size_push]
 have hDC:s.heap.objs.size≠H3.objs.size:=by rw[hCs];exact ne_of_lt (lt_succ_self _)
 have hC:s.heap.objs.size<=H3.objs.size:=by rw[hCs];exact le_succ _
 have old:∀b o,s.heap.get? b=some o->h₁.get? b=some o:=fun b o e=>
  hsb₁.extBut b o (ne_of_lt (lt_of_lt_of_le (aI e) hC)) (zgp _ (hH2 ▸ zgp _ e))
 have hsm:sysModules<s.heap.objs.size:=zl8 I2;have hD:h₁.DictOf (yx X.prog X.w) s.heap.objs.size []:=hnew.at fun o e=>hsb₁.extBut _ _ hDC (zgp _ e);have hDo:∀H',yT X.prog X.w H' h₁ s.heap.objs.size (.dK []):=fun _=>⟨zero_le _,beq_eq_false_iff_ne.mpr (Ne.symm (ne_of_lt hsm)),[],.nil,hD⟩;have ho:∀b∈fp,∃o,s.heap.get? b=some o:=fun b hb'=>let ⟨o,e,_⟩:=T.obj 0 _ st2 b hb';⟨o,e⟩;have I4:∀t',Inv (yb X pins sc fr Nc fp s H2 H3.objs.size) [] (yW caps σ) (upd H2 s.heap.objs.size (.dK [])) { s with heap:=h₁,toks:=t' }:=fun t'=>
  zcT I2 B f2 ho hC (aF _) hDC old (hDo _) hns₁ hcap hlen
 have ok:=(I4 0).ok;obtain⟨hbg,hbt,hbk,hbv⟩:=hb pins fp s H2 H3.objs.size;obtain⟨W,⟨m0,w0⟩,turn⟩:=h s.heap.objs.size (I2.hok.fresh (aF _));have stat:∀{H':Hp},(∀b∈fp,H' b=none)->∀b∈fp,xQ (yb X pins sc fr Nc fp s H2 H3.objs.size) [] H' b:=fun hn b hb'=>
  ⟨hn b hb',(ok.exf b hb').1,ok.exfs b hb',.inl hb',(ok.exf b hb').2,fun p hp=>(f2 b hb').2.2.2.2.2 p (by simpa using hp)⟩
 have hfp0:∀b∈fp,upd H2 s.heap.objs.size (.dK []) b=none:=fun b hb'=>by
  obtain⟨o,e⟩:=ho b hb';rw[zi (ne_of_lt (aI e))];exact(f2 b hb').1
 have loop:∀s₃:Shared,s₃={ s with heap:=h₁,toks:=s.toks+([]:List (Str×Value)).length }->
   codeAny (model X.prog X.w) X.A (.compLoop (.DictComp kx vx [⟨tg,iter,ifs,0⟩] sc pos) 0 (.ref it) (.ref s.heap.objs.size) (compEnvC sc (clB X.env fr) H3.objs.size X.env)) (RR (.ref s.heap.objs.size) H3.objs.size) s₃:=by
  rintro s₃ rfl;refine zan (fun n s'=>∃i σ' H' ys,Inv (yb X pins sc fr Nc fp s H2 H3.objs.size) [] σ' H' s'/\tn i s'.heap/\(∀b∈fp,H' b=none)/\W i n ys H'/\
   (∀(k:Nat) v,(yW caps σ)[k]?=some (some v)->σ'[k]?=some (some v))) ?_ m0
   ⟨0,_,_,[],I4 _,T.keep _ _ _ st2 (fun b _ o e=>old b o e),hfp0,w0,fun _ _ e=>e⟩
  rintro n s3 ⟨i,σ3,H4,ys,I3,st3,fr3,w3,wk3⟩;have I3':Inv (yb X pins sc fr Nc fp s H2 H3.objs.size) [] (yW caps σ) H4 s3:=I3.weak (by rw[I3.len];exact(I4 0).len) wk3
  rcases turn i n ys H4 w3 with ⟨stop,qn⟩|⟨gg,step⟩
  ·refine thn (T.done (yb X pins sc fr Nc fp s H2 H3.objs.size) rfl rfl rfl hc i [] s3 _ H4 (fun _ _=>False) I3' (stat fr3) st3 stop) fun r s4 ⟨hr,I4'⟩=>?_
   subst hr;exact fin _ _ _ _ _ I4' qn
  ·refine thn (T.item (yb X pins sc fr Nc fp s H2 H3.objs.size) rfl rfl rfl hc i [] s3 _ H4 (fun _ _=>False) I3' (stat fr3) st3 gg) fun r s4 ⟨u,hr,h4⟩=>?_
   subst hr;refine thn h4 fun _ s5 ⟨x,H5,I5,r5,y5,st5,fr5⟩=>?_;have I5':=I5.pinned (stat fr5) (T.obj _ _ st5);refine thn (hbg _ s5 _ H5 x u _ I5' r5 (go _ _ _ _ (step x H5 y5))) fun _ s6 ⟨σ6,H6,I6,q6,l6,k6⟩=>?_;have wk6:∀(k:Nat) v,(yW caps σ)[k]?=some (some v)->σ6[k]?=some (some v):=fun k v e=>by
    rw[k6 k fun hk=>?_]
    ·exact e
    ·have h1:=List.all_eq_true.mp how k hk
     have h2:caps[k]?=some none:=by simpa using h1
     unfold yW at e;rw[getElem?_map,h2] at e;cases e
   refine thn (hbt _ s6 σ6 H6 _ I6 q6) fun ok s7 ⟨H7,I7,q7⟩=>?_;have again:∀{H8:Hp}{s8:Shared}{ys':List (Key×V)},Inv (yb X pins sc fr Nc fp s H2 H3.objs.size) ([]++vw fp s5.heap) σ6 H8 s8->(∃m',m'<n/\W (i+1) m' ys' H8)->
     ∃m,m<n/\∃i σ' H' ys,Inv (yb X pins sc fr Nc fp s H2 H3.objs.size) [] σ' H' s8/\tn i s8.heap/\(∀b∈fp,H' b=none)/\W i m ys H'/\(∀(k:Nat) v,(yW caps σ)[k]?=some (some v)->σ'[k]?=some (some v)):=fun {H8 s8 ys'} I8 ⟨m',hm,w8⟩=>by
    exists m',hm,i+1,σ6,H8,ys',I8.unpinned,T.keep _ _ _ st5 fun b hb' o e=>(I8.pin (b,o) (mem_append_right _ (mem_append_right _ (yF hb' e)))).1,fun b hb'=>?_,w8,wk6;obtain⟨o,e,d⟩:=T.obj _ _ st5 b hb';exact(I8.pin (b,o) (mem_append_right _ (mem_append_right _ (yF hb' e)))).2.1
   cases ok with
   | false=>
    rw[aJ zft];exact again I7 (q7.2 rfl)
   | true=>
    rw[aK rfl];refine thn (hbk _ s7 σ6 H7 _ I7 (q7.1 rfl)) fun uk s8 ⟨y,H8,I8,r8,q8⟩=>?_;refine thn (hbv _ s8 σ6 H8 _ I8 q8) fun uv s9 ⟨v,H9,I9,r9,k,ey,hD9,hz,q9⟩=>?_;subst ey;obtain⟨z,hd,vs,rel,dd⟩:=zkw I9.hok hD9;have hzs:vs.length<=sizeLine:=by rw[<- rel.length];exact z
    have hl:(xo ys k v).length<=sizeLine:=by have:=x8 ys k v;omega
    refine wpAny_dictSet_pairs (hsz:=hzs) (qV r8) dd fun h' dd' hs=>?_;have he:∃q,h'.get? s.heap.objs.size=some q:=let ⟨q,_,_,hq,_⟩:=dd';⟨q,hq⟩;exact again (zbV I9 (by rw[hD9];exact True.intro) hs he (zim hl hd (rel.put k r9) dd')) q9
 exact codeAny_compStart_dict (loop _ rfl) (T.self _ 0 _ _ _ (T.keep _ _ _ st2 (fun b _ o e=>old b o e)) (loop _ rfl))
theorem zmp{wi:TI}(fr Nc:List Str)(caps:List (Option Nat))(hc:X.calm=true)(B:xa X.env sc fr)(hi:PI X tg iter wi)(go:zat g ow)(how:(ow.all fun i=>caps[i]?==some none)=true)
  (hcap:wz X.N Nc caps X.env sc fr=true) (hlen:caps.length=Nc.length)
  (hb:∀(pins:PnL) fp s H C,PG (yb X pins sc fr Nc fp s H C) tg g/\PIf (yb X pins sc fr Nc fp s H C) ifs tt/\PE (yb X pins sc fr Nc fp s H C) kx tk/\PE (yb X pins sc fr Nc fp s H C) vx tv)
  (hs:∀x,foldedSetIterable iter X.env x=pure x:=by intro _;rfl):PE X (.DictComp kx vx [⟨tg,iter,ifs,0⟩] sc pos) (tDC wi caps g tt tk tv):=by
 and_intros;rw[arm_eval_DictComp];refine wpAny_comprehension_free (use:=none) rfl hs B.clos B.kind B.loc (thn (hi pins s σ H _ I h) fun v s1 h1=>thn h1 fun itv s2 h2=>?_);obtain⟨it,fp,tn,J,H2,e,I2,T,st2,f2,q⟩:=h2;subst e;refine zf5 (RR:=fun acc C=>compPost (model X.prog X.w) X.A X.xe none (EP X pins σ Q) acc C) hc B go how hcap hlen hb I2 T st2 f2 q ?_;intro D C σ' H' s' J' qq;obtain⟨m,hn,_⟩:=J'.loc;exact⟨m,hn,fun h' hs'=>⟨.ref D,H',za0 I2 J' (jx I2 f2 J') hs',rfl,qq⟩⟩
theorem zV.rev(r:zV xs us):zV xs.reverse us.reverse:=by
 induction r with
 | nil=>exact .nil
 | cons h t ih=>
  rw[reverse_cons,reverse_cons];exact ih.append (.cons h .nil)
def eqT(xs ys:List V):Bool:=((List.range (min xs.length ys.length)).all fun j=>eqV (xs[j]?.getD .non) (ys[j]?.getD .non))&&xs.length==ys.length
end
end L2
namespace K84
open PySem L2 PyProof.Rows
def top(i:Nat):Stmt:=PySem.Challenge.pw_callbinds_k84_whole_parting_great_forms.main.body.getD i (.Pass ⟨0,0,0,0⟩)
abbrev sIs:Stmt:=top 3
abbrev zdl:Stmt:=yE (top 53) 0
abbrev zg0:Stmt:=yE (top 53) 1
abbrev qw:Stmt:=yE (top 53) 2
abbrev zbB:Stmt:=yE (top 53) 3
abbrev zkZ:Stmt:=yE (top 53) 4
abbrev zmi:Stmt:=yE (top 53) 5
abbrev zgR:Stmt:=yE (top 54) 0
abbrev zg5:Stmt:=yE (top 55) 0
abbrev zgP:Stmt:=yE (top 56) 0
abbrev zk0:Stmt:=yE (top 57) 0
abbrev zla:Stmt:=yE (top 58) 0
abbrev zdq:Stmt:=yE (top 43) 0
abbrev zgZ:Stmt:=yE (top 43) 1
abbrev zdp:Stmt:=yE (top 43) 2
abbrev zdr:Stmt:=yE (top 43) 3
abbrev qv:Stmt:=yE (top 43) 4
abbrev zdo:Stmt:=yE (top 43) 5
abbrev zg4:Stmt:=yE (top 43) 6
abbrev zg3:Stmt:=yE (top 43) 7
abbrev zk9:Stmt:=yE (top 43) 8
abbrev zk2:Stmt:=top 59
abbrev zdi:Stmt:=top 44
abbrev zbu:Stmt:=top 45
abbrev zdj:Stmt:=top 46
abbrev zbt:Stmt:=top 47
abbrev zgV:Stmt:=top 48
abbrev zdd:Stmt:=top 5
abbrev zgS:Stmt:=top 6
abbrev zdf:Stmt:=top 7
abbrev zds:Stmt:=top 8
abbrev zgX:Stmt:=top 21
abbrev qu:Stmt:=top 29
abbrev zg2:Stmt:=top 30
abbrev zde:Stmt:=top 31
abbrev zbz:Stmt:=top 32
abbrev zk5:Stmt:=top 33
abbrev zdm:Stmt:=top 34
abbrev zkX:Stmt:=top 35
abbrev zgY:Stmt:=top 36
abbrev zgU:Stmt:=top 37
abbrev zbp:Stmt:=top 10
abbrev qt:Stmt:=top 11
abbrev zbn:Stmt:=top 12
abbrev zdg:Stmt:=top 13
abbrev zbw:Stmt:=top 14
abbrev zbv:Stmt:=top 15
abbrev zk4:Stmt:=top 16
abbrev zkY:Stmt:=top 17
abbrev qr:Stmt:=top 18
abbrev jn:Stmt:=top 19
abbrev zk3:Stmt:=top 61
abbrev zgQ:Stmt:=top 62
abbrev zbo:Stmt:=top 63
abbrev zbA:Stmt:=top 64
abbrev zgO:Stmt:=top 65
abbrev zgT:Stmt:=top 66
abbrev zk1:Stmt:=top 67
abbrev zg6:Stmt:=top 68
abbrev zg1:Stmt:=top 69
abbrev zbs:Stmt:=top 70
abbrev zbx:Stmt:=top 71
abbrev zbm:Stmt:=top 72
abbrev zby:Stmt:=top 73
abbrev zdn:Stmt:=top 74
abbrev zdk:Stmt:=top 75
abbrev zk8:Stmt:=top 76
abbrev zdh:Stmt:=top 77
abbrev zbr:Stmt:=top 78
abbrev zgW:Stmt:=top 79
abbrev zbq:Stmt:=top 80
abbrev zk6:Stmt:=top 81
def low(c:Nat):Bool:=decide (97<=c)&&decide (c<=122)
def zU(z:Str):Bool:=decide (1<=z.length)&&decide (z.length<=8)&&z.cps.toList.all low
def nmV:V->Bool
 | .str z=>zU z
 | _=>false
def OkS(z:Str):Prop:=z.length<=1000/\∀c∈z.cps.toList,c<128
def OkV(K:Frag)(H:Hp)(x:V):Prop:=(∃z,x=.str z/\OkS z)\/(nmV x=false/\∃t,up K H x t/\kitOne K t (.type "str")=some false)
theorem js:zU z=true ↔ 1<=z.length/\z.length<=8/\∀c∈z.cps.toList,97<=c/\c<=122:=by
 unfold zU low;simp only[Bool.and_eq_true,decide_eq_true_eq,all_eq_true];constructor
 ·rintro⟨⟨a,b⟩,c⟩;exact⟨a,b,c⟩
 ·rintro⟨a,b,c⟩;exact⟨⟨a,b⟩,c⟩
theorem qO(h:z.length=0\/9<=z.length):zU z=false:=by
 cases e:zU z with
 | false=>rfl
 | true=>
  have:=js.mp e
  omega
theorem zcF(h:zU z=true):OkS z:=by
 obtain⟨_,h2,h3⟩:=js.mp h;exact⟨∅,fun c hc=>by have:=h3 c hc;omega⟩
def letters:Str:="abcdefghijklmnopqrstuvwxyz"
theorem zdM:∀c:Nat,c<128->(!(Builtin.Str.occurrences letters ⟨#[c]⟩ 0 letters.length 1).isEmpty)=low c:=by decide +kernel
theorem zd(h:H p=none)(o:HO):zq H (upd H p o):=fun b u q=>by rw[zi (zj q h)];exact q
theorem zfe{K:Frag}{H H':Hp}{x:V}{t:Value}(s:zq H H')(h:up K H x t):up K H' x t:=by
 cases h with
 | non=>exact .non
 | bl b=>exact .bl b
 | int i=>exact .int i
 | str z=>exact .str z
 | flt z=>exact .flt z
 | lst e=>exact .lst (s _ _ e)
 | frz e=>exact .frz (s _ _ e)
 | tup e=>exact .tup (s _ _ e)
 | dK e=>exact .dK (s _ _ e)
 | dT e=>exact .dT (s _ _ e)
 | ins e a b c d f=>exact .ins (s _ _ e) a b c d f
theorem OkV.same{K:Frag}{H H':Hp}{x:V}(s:zq H H')(h:OkV K H x):OkV K H' x:=by
 rcases h with h|⟨h,t,ty,e⟩
 ·exact .inl h
 ·exact .inr ⟨h,t,zfe s ty,e⟩
theorem nd1:([Str.ofString "sign"]:List Str).Nodup:=by decide +kernel
inductive zkH(K:Frag)(vs:List V)(H:Hp)(Q:VK)(E:XK):Prop|mk(x:_):vs=[x]->OkV K H x->(∀H',zq H H'->Q (.bl (nmV x)) H')->zkH K vs H Q E
structure zlQ(K:Frag)(mg:Str->Option Value):Prop where
 isi:mg "isinstance"=none
 str:mg "str"=none
 bool:mg "bool"=none
 len:mg "len"=none
 all:mg "all"=none
 range:mg "range"=none
 letters:∃t,mg "LETTERS"=some (.str letters t)
 longest:∃t,mg "LONGEST"=some (.int 8 t)
 kNon:kitOne K (.type "NoneType") (.type "str")=some false
 kInt:kitOne K (.type "int") (.type "str")=some false
 kBl:kitOne K (.type "bool") (.type "str")=some false
 kLst:kitOne K (.type "list") (.type "str")=some false
 kTup:kitOne K (.type "tuple") (.type "str")=some false
 kDct:kitOne K (.type "dict") (.type "str")=some false
 kStr:kitOne K (.type "str") (.type "str")=some true
 bBl:kitOne K (.type "bool") (.type "bool")=some true
section
variable {P:Program}{w:World}{K:Frag}{mg:Str->Option Value}{base:Heap}
theorem zni:zA ["thing"] ["thing"] (zh sIs):=fsc
theorem zms(F:Fun K "is_name" "is_name" sIs f fd)(T:zlQ K mg):↥1 f fd ["thing"] (zkH K):=by
 specialize zni;obtain⟨x,rfl,hx,q⟩:=h;obtain⟨tL,hL⟩:=T.letters;obtain⟨tN,hN⟩:=T.longest;refine⟨_,zu (zS (yS (vK (xx (yz (cB vR T.isi boot_isinstance (ac (pv 0) (ac (zbF (v:=.ty "str") rfl T.str PyProof.Rows.boot_str rfl) zc)))))
   (vo (xx (zhc zeJ zeJ ze (cB vC T.len PySem.boot_len (ac (pv 0) zc)) (xN (v:=.int 8) rfl hN ⟨_,rfl⟩))))))
   (zg (zB x6)) zD)
  (zg (zB (cB (jA rfl) T.all boot_all (ac (yY [] ["sign"] [none] rfl ⟨rfl,rfl,rfl,rfl⟩ (zhg (pv 0)) (zK 0) rfl rfl rfl
   (fun pins fp s H C=>⟨zo (i:=0) nd1 rfl (Or.inl rfl) (.inr rfl),yV,xB zfz (pv 0) (xN (v:=.str letters) rfl hL ⟨_,rfl⟩) (by with_unfolding_all rfl)⟩)) zc)))),?_⟩
 rcases hx with ⟨z,rfl,hz1,hz2⟩|⟨hn,t,ty,e⟩
 ·exists _,rfl,_,_,_,_,rfl,.str z,T.kStr,_,rfl,?_
  refine yD ?_;exists _,rfl,z,rfl,Nat.le_trans hz1 ⋯,_,_,rfl,rfl,_,rfl,?_
  have no:zU z=false->Q (.bl false) H:=fun e=>by
   have:=q H (zq.refl H)
   have e':nmV (.str z)=false:=e;rw[e'] at this;exact this
  refine wQ (fun c=>?_) (fun c=>?_)
  ·have c':(1:Int)<=(z.length:Int):=of_decide_eq_true c
   exists _,_,rfl,rfl,_,rfl,?_;by_cases h8:(z.length:Int)<=8
   ·rw[aC h8]
    refine yD ?_;exists _,rfl,z,rfl,fun D hD=>?_;exists fun i m ys H'=>i<=z.cps.size/\m=z.cps.size - i/\ys=(z.cps.toList.take i).map (fun c=>V.bl (low c))/\H'=upd H D (.lst ys),⟨_,zero_le _,rfl,rfl,rfl⟩,?_;rintro i m ys H' ⟨hi,rfl,rfl,rfl⟩;by_cases he:i=z.cps.size
    ·subst he
     refine .inl ⟨aF _,?_⟩;exists D,z.cps.toList.map low,rfl,zf ?_,?_
     ·rw[za,take_of_length_le (by simp),map_map]
      rfl
     ·have e:(z.cps.toList.map low).all id=nmV (.str z):=by
       show _=zU z;unfold zU;rw[aC (show 1<=z.length by omega),aC (show z.length<=8 by omega),all_map]
       rfl
      rw[e];exact q _ (zd hD _)
    ·refine .inr ⟨by show i<z.cps.size;omega,?_⟩
     rintro x H' ⟨rfl,c,hc,rfl⟩;exists fun _=>?_,fun e=>Bool.noConfusion e;exists _,rfl,_,_,rfl,rfl,za,?_,z.cps.size - (i+1),∅,∅,rfl,?_,?_
     ·rw[aA,length_take]
      have:z.cps.size<=1000:=hz1
      exact zY ∅
     ·have hc':z.cps.toList[i]?=some c:=by simpa using hc
      have hlow:=zdM c (hz2 c (aH hc'));rw[hlow,take_add_one,hc',aE];rfl
     ·rw[jR]
   ·rw[aD h8]
    refine xO ?_;exact no (qO (.inr ∅))
  ·have c':¬(1:Int)<=(z.length:Int):=of_decide_eq_false (Bool.eq_false_iff.mpr c)
   exists _,rfl,?_;exact xO (no (qO (.inl ∅)))
 ·exists _,rfl,_,_,_,_,rfl,ty,e,_,rfl,?_
  refine xO ?_;refine xO ?_
  have:=q H (zq.refl H)
  rw[hn] at this;exact this
theorem dT{A B:Prop}{c:Prop}[Decidable c](h:c)(a:A):if decide c=true then A else B:=by rw[aC h];exact xO a
theorem dF{A B:Prop}{c:Prop}[Decidable c](h:¬c)(b:B):if decide c=true then A else B:=by rw[aD h];exact yD b
def kw:Nat->Str
 | 0=>"seat"|1=>"both"|2=>"tail"|3=>"tag"|_=>"bag"
def zlb(k:Nat)(x:V)(b:Bool):List V:=match k with
 | 0=>[.str "seat",x,.bl b]|1=>[.str "both",x,.bl b]|2=>[.str "tail",x]|3=>[.str "tag",x,.bl b]|_=>[.str "bag",x]
def fr(k:Nat)(b:Bool):Bool:=match k with
 | 0=>b|1=>b|2=>true|3=>b|_=>true
theorem lt5{k:Nat}(h:k<5):k=0\/k=1\/k=2\/k=3\/k=4:=by omega
def pf(wd:Str)(x:V)(b:Bool):List (Str×V):=yf "may_lack" (.bl b) (yf "name" x (yf "word" (.str wd) []))
theorem uZ:(pf wd x b).lookup ("word" : Str)=some (.str wd):=by
 unfold pf;rw[zw,aJ (by decide +kernel),zw,aJ (by decide +kernel),zw,aK rfl]
theorem v0:(pf wd x b).lookup ("name" : Str)=some x:=by
 unfold pf;rw[zw,aJ (by decide +kernel),zw,aK rfl]
theorem zjd:(pf wd x b).lookup ("may_lack" : Str)=some (.bl b):=by
 unfold pf;rw[zw,aK rfl]
theorem u0{wd:Str}{x:V}{b:Bool}{m:Str}(h1:¬m="may_lack")(h2:¬m="name")(h3:¬m="word"):(pf wd x b).lookup m=none:=by
 unfold pf;rw[zw,aJ h1,zw,aJ h2,zw,aJ h3];rfl
structure MA where
 (fF fP fB fT fO:Addr)
structure PC(K:Frag)(m:MA)(C:Addr):Prop where
 cl:Cls K C
 nW:xF K C "word"
 nN:xF K C "name"
 nM:xF K C "may_lack"
 mF:xv K C "free" m.fF
 mP:xv K C "by_place" m.fP
 mB:xv K C "by_name" m.fB
 mT:xv K C "takes_one" m.fT
 mO:xv K C "told" m.fO
inductive spP(K:Frag)(m:MA)(vs:List V)(H:Hp)(Q:VK)(E:XK):Prop|mk(p dx C:Addr)(wd:Str)(x:V)(b:Bool):vs=[.ref p,.str wd,x,.bl b]->H p=some (.ins C dx [])->PC K m C->OkV K H x->nmV x=true->(∀H1,zq H H1->Q .non (upd H1 p (.ins C dx (pf wd x b))))->spP K m vs H Q E
inductive spS(K:Frag)(C:Addr)(wd:Str)(vs:List V)(H:Hp)(Q:VK)(E:XK):Prop|mk(p dx:Addr)(x:V)(b:Bool):vs=[.ref p,x,.bl b]->H p=some (.ins C dx [])->OkV K H x->nmV x=true->(∀H1,zq H H1->Q .non (upd H1 p (.ins C dx (pf wd x b))))->spS K C wd vs H Q E
inductive spT(K:Frag)(C:Addr)(wd:Str)(vs:List V)(H:Hp)(Q:VK)(E:XK):Prop|mk(p dx:Addr)(x:V):vs=[.ref p,x]->H p=some (.ins C dx [])->OkV K H x->nmV x=true->(∀H1,zq H H1->Q .non (upd H1 p (.ins C dx (pf wd x true))))->spT K C wd vs H Q E
def bpL:List V:=[.str "seat",.str "both"]
def bnL:List V:=[.str "both",.str "tag"]
def otL:List V:=[.str "seat",.str "both",.str "tag"]
inductive zbd(K:Frag)(m:MA)(vs:List V)(H:Hp)(Q:VK)(E:XK):Prop|mk(p dx C:Addr)(wd:Str)(x:V)(b:Bool):vs=[.ref p]->PC K m C->H p=some (.ins C dx (pf wd x b))->(Q (.bl b) H)->zbd K m vs H Q E
inductive qi(K:Frag)(m:MA)(l:List V)(vs:List V)(H:Hp)(Q:VK)(E:XK):Prop|mk(p dx C:Addr)(wd:Str)(x:V)(b:Bool):vs=[.ref p]->PC K m C->H p=some (.ins C dx (pf wd x b))->(Q (.bl (inV (.str wd) l)) H)->qi K m l vs H Q E
structure Wds(K:Frag)(mg:Str->Option Value)(tP tB tO:Addr):Prop where
 mP:mg "BY_PLACE"=some (.ref tP)
 mB:mg "BY_NAME"=some (.ref tB)
 mO:mg "OF_ONE_THING"=some (.ref tO)
 hP:∀H,SqT K H tP bpL
 hB:∀H,SqT K H tB bnL
 hO:∀H,SqT K H tO otL
theorem ziV:zA ["self","word","name","may_lack"] ["self","word","name","may_lack"] (zh zdl):=fsc
theorem zhD(F:Fun K "__init__" "Parameter.__init__" zdl f fd)(cI:⇑1 "is_name" g gd ["thing"] (zkH K)):
  ↥2 f fd ["self","word","name","may_lack"] (spP K m):=by
 specialize ziV;obtain⟨p,dx,C,wd,x,b,rfl,hp,c,hx,q1,q2⟩:=h;refine⟨_,zu (zS (xx (yz (cF cI hr (ac (pv 2) zc)))) (zg vZ) zD)
  (zu (vq (pv 0) (pv 1) rfl) (zu (vq (pv 0) (pv 2) rfl) (zg (vq (pv 0) (pv 3) rfl)))),?_⟩
 exists _,rfl,x,rfl,hx,fun H1 s1=>⟨_,rfl,?_⟩;rw[q1];refine yD ?_;exists _,rfl,_,rfl,p,C,dx,[],rfl,s1 _ _ hp,c.cl,c.nW,(by show 0<1000;decide),?_
 exists _,rfl,_,rfl,p,C,dx,_,rfl,za,c.cl,c.nN,(by show 1<1000;decide),?_
 exists _,rfl,_,rfl,p,C,dx,_,rfl,za,c.cl,c.nM,(by show 2<1000;decide),?_
 rw[jR,jR];exact q2 _ s1
theorem zkN:zA ["self","name","free"] ["self","name","free"] (zh zgR):=fsc
theorem zjl(F:zau K "__init__" "Seat.__init__" zgR f fd ds)(c:PC K m C)(B:zak K D "__init__" g)(mD:mg "Parameter"= ~~~D)(G:↥2 g gd ["self","word","name","may_lack"] (spP K m))(bg:yc K gd ["self","word","name","may_lack"] []):
  ↥3 f fd ["self","name","free"] (spS K C "seat"):=by
 refine F.ok zkN (fun vs H Q E h=>?_) (fun cdv A outer s H vs Q E hr h=>?_)
 ·obtain⟨p,dx,x,b,rfl,_⟩:=h
  rfl
 obtain⟨p,dx,x,b,rfl,hp,hx,q1,q2⟩:=h;exists _,zg (zZ (zcu B mD G hr bg yt (ac (pv 0) (ac zH (ac (pv 1) (ac (pv 2) zc)))))),?_;exact⟨_,rfl,_,rfl,_,rfl,p,dx,C,_,x,b,rfl,hp,c,hx,q1,q2⟩
theorem zkW:zA ["self","name","free"] ["self","name","free"] (zh zg5):=fsc
theorem zjA(F:zau K "__init__" "Both.__init__" zg5 f fd ds)(c:PC K m C)(B:zak K D "__init__" g)(mD:mg "Parameter"= ~~~D)(G:↥2 g gd ["self","word","name","may_lack"] (spP K m))(bg:yc K gd ["self","word","name","may_lack"] []):
  ↥3 f fd ["self","name","free"] (spS K C "both"):=by
 refine F.ok zkW (fun vs H Q E h=>?_) (fun cdv A outer s H vs Q E hr h=>?_)
 ·obtain⟨p,dx,x,b,rfl,_⟩:=h
  rfl
 obtain⟨p,dx,x,b,rfl,hp,hx,q1,q2⟩:=h;exists _,zg (zZ (zcu B mD G hr bg yt (ac (pv 0) (ac zH (ac (pv 1) (ac (pv 2) zc)))))),?_;exact⟨_,rfl,_,rfl,_,rfl,p,dx,C,_,x,b,rfl,hp,c,hx,q1,q2⟩
theorem zmg:zA ["self","name","free"] ["self","name","free"] (zh zk0):=fsc
theorem zlp(F:zau K "__init__" "Tag.__init__" zk0 f fd ds)(c:PC K m C)(B:zak K D "__init__" g)(mD:mg "Parameter"= ~~~D)(G:↥2 g gd ["self","word","name","may_lack"] (spP K m))(bg:yc K gd ["self","word","name","may_lack"] []):
  ↥3 f fd ["self","name","free"] (spS K C "tag"):=by
 refine F.ok zmg (fun vs H Q E h=>?_) (fun cdv A outer s H vs Q E hr h=>?_)
 ·obtain⟨p,dx,x,b,rfl,_⟩:=h
  rfl
 obtain⟨p,dx,x,b,rfl,hp,hx,q1,q2⟩:=h;exists _,zg (zZ (zcu B mD G hr bg yt (ac (pv 0) (ac zH (ac (pv 1) (ac (pv 2) zc)))))),?_;exact⟨_,rfl,_,rfl,_,rfl,p,dx,C,_,x,b,rfl,hp,c,hx,q1,q2⟩
theorem zkM:zA ["self","name"] ["self","name"] (zh zgP):=fsc
theorem zjj(F:Fun K "__init__" "Tail.__init__" zgP f fd)(c:PC K m C)(B:zak K D "__init__" g)(mD:mg "Parameter"= ~~~D)(G:↥2 g gd ["self","word","name","may_lack"] (spP K m))(bg:yc K gd ["self","word","name","may_lack"] []):
  ↥3 f fd ["self","name"] (spT K C "tail"):=by
 specialize zkM;obtain⟨p,dx,x,rfl,hp,hx,q1,q2⟩:=h;exists _,zg (zZ (zcu B mD G hr bg yt (ac (pv 0) (ac zH (ac (pv 1) (ac x6 zc)))))),?_;exact⟨_,rfl,_,rfl,p,dx,C,_,x,true,rfl,hp,c,hx,q1,q2⟩
theorem zmh:zA ["self","name"] ["self","name"] (zh zla):=fsc
theorem zlx(F:Fun K "__init__" "Bag.__init__" zla f fd)(c:PC K m C)(B:zak K D "__init__" g)(mD:mg "Parameter"= ~~~D)(G:↥2 g gd ["self","word","name","may_lack"] (spP K m))(bg:yc K gd ["self","word","name","may_lack"] []):
  ↥3 f fd ["self","name"] (spT K C "bag"):=by
 specialize zmh;obtain⟨p,dx,x,rfl,hp,hx,q1,q2⟩:=h;exists _,zg (zZ (zcu B mD G hr bg yt (ac (pv 0) (ac zH (ac (pv 1) (ac x6 zc)))))),?_;exact⟨_,rfl,_,rfl,p,dx,C,_,x,true,rfl,hp,c,hx,q1,q2⟩
theorem zkS:zA ["self"] ["self"] (zh zg0):=fsc
theorem zjw(F:Fun K "free" "Parameter.free" zg0 f fd):↥1 f fd ["self"] (zbd K m):=by
 specialize zkS;obtain⟨p,dx,C,wd,x,b,rfl,c,hp,q⟩:=h;exists _,zg (zB (xi (pv 0) rfl)),?_;exact⟨_,rfl,p,C,dx,_,_,rfl,hp,c.cl,c.nM,zjd,q⟩
theorem zfn:zA ["self"] ["self"] (zh qw):=fsc
theorem zcA{f:Addr}{fd:FuncData}{tP tB tO:Addr}{m:MA}(F:Fun K "by_place" "Parameter.by_place" qw f fd)(Wd:Wds K mg tP tB tO):↥1 f fd ["self"] (qi K m bpL):=by
 specialize zfn;obtain⟨p,dx,C,wd,x,b,rfl,c,hp,q⟩:=h;exists _,zg (zB (xB yi (xi (pv 0) rfl) (xN (v:=.ref tP) rfl Wd.mP rfl) (by with_unfolding_all rfl))),?_
 exact⟨_,rfl,p,C,dx,_,_,rfl,hp,c.cl,c.nW,uZ,tP,bpL,rfl,.inr (Wd.hP H),rfl,⋯,q⟩
theorem zgN:zA ["self"] ["self"] (zh zbB):=fsc
theorem zdG{f:Addr}{fd:FuncData}{tP tB tO:Addr}{m:MA}(F:Fun K "by_name" "Parameter.by_name" zbB f fd)(Wd:Wds K mg tP tB tO):↥1 f fd ["self"] (qi K m bnL):=by
 specialize zgN;obtain⟨p,dx,C,wd,x,b,rfl,c,hp,q⟩:=h;exists _,zg (zB (xB yi (xi (pv 0) rfl) (xN (v:=.ref tB) rfl Wd.mB rfl) (by with_unfolding_all rfl))),?_
 exact⟨_,rfl,p,C,dx,_,_,rfl,hp,c.cl,c.nW,uZ,tB,bnL,rfl,.inr (Wd.hB H),rfl,⋯,q⟩
structure C5 where
 (c0 c1 c2 c3 c4:Addr)
def C5.at(c:C5):Nat->Addr
 | 0=>c.c0|1=>c.c1|2=>c.c2|3=>c.c3|_=>c.c4
structure zky(P:Program)(w:World)(K:Frag)(mg:Str->Option Value)(base:Heap)(c:C5)(i0 i1 i2 i3 i4:Addr)(d0 d1 d2 d3 d4:FuncData):Prop where
 k0:zge P w K mg base CX0 3 "Seat" c.c0 i0 d0 ["self","name","free"] [] (spS K c.c0 "seat")
 k1:zge P w K mg base CX0 3 "Both" c.c1 i1 d1 ["self","name","free"] [] (spS K c.c1 "both")
 k2:zge P w K mg base CX0 3 "Tail" c.c2 i2 d2 ["self","name"] [] (spT K c.c2 "tail")
 k3:zge P w K mg base CX0 3 "Tag" c.c3 i3 d3 ["self","name","free"] [] (spS K c.c3 "tag")
 k4:zge P w K mg base CX0 3 "Bag" c.c4 i4 d4 ["self","name"] [] (spT K c.c4 "bag")
def Res(c:C5)(H:Hp)(k:Nat)(x:V)(b:Bool)(Q:VK):Prop:=
 nmV x=true/\∀o dx H',zq H H'->H' o=some (.ins (c.at k) dx (pf (kw k) x (fr k b)))->Q (.ref o) H'
inductive zke(K:Frag)(c:C5)(vs:List V)(H:Hp)(Q:VK)(E:XK):Prop|mk(p:Addr)(k:Nat)(x:V)(b:Bool):vs=[.ref p]->k<5->H p=some (.tup (zlb k x b))->OkV K H x->(Res c H k x b Q)->zke K c vs H Q E
theorem znE:¬(V.str "both"=V.str "seat"):=by decide +kernel
theorem znD:¬(V.str "tail"=V.str "seat"):=by decide +kernel
theorem znC:¬(V.str "tail"=V.str "both"):=by decide +kernel
theorem znB:¬(V.str "tag"=V.str "seat"):=by decide +kernel
theorem znA:¬(V.str "tag"=V.str "both"):=by decide +kernel
theorem znz:¬(V.str "tag"=V.str "tail"):=by decide +kernel
theorem zny:¬(V.str "bag"=V.str "seat"):=by decide +kernel
theorem znx:¬(V.str "bag"=V.str "both"):=by decide +kernel
theorem znw:¬(V.str "bag"=V.str "tail"):=by decide +kernel
theorem znv:¬(V.str "bag"=V.str "tag"):=by decide +kernel
theorem znK{k:Nat}(h:k<5):atI (zlb k x b) 0=some (.str (kw k)):=by rcases lt5 h with rfl|rfl|rfl|rfl|rfl <;> rfl
theorem zkk:zA ["told","word"] ["told"] (zh zk2):=fsc
theorem zlr(F:Fun K "parameter_of" "parameter_of" zk2 f fd)(U:zky P w K mg base c i0 i1 i2 i3 i4 d0 d1 d2 d3 d4):↥5 f fd ["told"] (zke K c):=by
 specialize zkk;obtain⟨p,k,x,b,rfl,hk,hp,hx,r1,r2⟩:=h;refine⟨_,zu (zx (i:=1) zkk.nd rfl (Or.inl rfl) (zC zG (pv 0) ze (fun _ _=>rfl)))
  (zu (zS (zm ym (pv 1) zH (zF _)) (zg (zB (cMk U.k0 .nil yt hr (ac (zC zG (pv 0) ze (fun _ _=>rfl)) (ac (zC zG (pv 0) ze (fun _ _=>rfl)) zc))))) zD)
  (zu (zS (zm ym (pv 1) zH (zF _)) (zg (zB (cMk U.k1 .nil yt hr (ac (zC zG (pv 0) ze (fun _ _=>rfl)) (ac (zC zG (pv 0) ze (fun _ _=>rfl)) zc))))) zD)
  (zu (zS (zm ym (pv 1) zH (zF _)) (zg (zB (cMk U.k2 .nil yt hr (ac (zC zG (pv 0) ze (fun _ _=>rfl)) zc)))) zD)
  (zu (zS (zm ym (pv 1) zH (zF _)) (zg (zB (cMk U.k3 .nil yt hr (ac (zC zG (pv 0) ze (fun _ _=>rfl)) (ac (zC zG (pv 0) ze (fun _ _=>rfl)) zc))))) zD)
  (zg (zB (cMk U.k4 .nil yt hr (ac (zC zG (pv 0) ze (fun _ _=>rfl)) zc)))))))),?_⟩
 exists _,rfl,p,_,_,.str (kw k),rfl,rfl,zy hp,znK hk,?_;rcases lt5 hk with rfl|rfl|rfl|rfl|rfl
 ·have hS:SqT K H p _:=zy hp
  exists _,rfl,rfl,_,rfl,?_;refine dT rfl ?_;exact⟨_,rfl,p,_,_,x,rfl,rfl,hS,rfl,_,rfl,p,_,_,.bl b,rfl,rfl,hS,rfl,fun o dx ho hdx ne=>⟨o,dx,x,b,rfl,za,hx.same (xD ho hdx),r1,fun H1 s1=>⟨rfl,r2 o dx _ (ww ho hdx s1) za⟩⟩⟩
 ·have hS:SqT K H p _:=zy hp
  exists _,rfl,rfl,_,rfl,?_;refine dF znE ?_;exists _,rfl,rfl,_,rfl,?_;refine dT rfl ?_;exact⟨_,rfl,p,_,_,x,rfl,rfl,hS,rfl,_,rfl,p,_,_,.bl b,rfl,rfl,hS,rfl,fun o dx ho hdx ne=>⟨o,dx,x,b,rfl,za,hx.same (xD ho hdx),r1,fun H1 s1=>⟨rfl,r2 o dx _ (ww ho hdx s1) za⟩⟩⟩
 ·have hS:SqT K H p _:=zy hp
  exists _,rfl,rfl,_,rfl,?_;refine dF znD ?_;exists _,rfl,rfl,_,rfl,?_;refine dF znC ?_;exists _,rfl,rfl,_,rfl,?_;refine dT rfl ?_;exact⟨_,rfl,p,_,_,x,rfl,rfl,hS,rfl,fun o dx ho hdx ne=>⟨o,dx,x,rfl,za,hx.same (xD ho hdx),r1,fun H1 s1=>⟨rfl,r2 o dx _ (ww ho hdx s1) za⟩⟩⟩
 ·have hS:SqT K H p _:=zy hp
  exists _,rfl,rfl,_,rfl,?_;refine dF znB ?_;exists _,rfl,rfl,_,rfl,?_;refine dF znA ?_;exists _,rfl,rfl,_,rfl,?_;refine dF znz ?_;exists _,rfl,rfl,_,rfl,?_;refine dT rfl ?_;exact⟨_,rfl,p,_,_,x,rfl,rfl,hS,rfl,_,rfl,p,_,_,.bl b,rfl,rfl,hS,rfl,fun o dx ho hdx ne=>⟨o,dx,x,b,rfl,za,hx.same (xD ho hdx),r1,fun H1 s1=>⟨rfl,r2 o dx _ (ww ho hdx s1) za⟩⟩⟩
 ·have hS:SqT K H p _:=zy hp
  exists _,rfl,rfl,_,rfl,?_;refine dF zny ?_;exists _,rfl,rfl,_,rfl,?_;refine dF znx ?_;exists _,rfl,rfl,_,rfl,?_;refine dF znw ?_;exists _,rfl,rfl,_,rfl,?_;refine dF znv ?_;exact⟨_,rfl,p,_,_,x,rfl,rfl,hS,rfl,fun o dx ho hdx ne=>⟨o,dx,x,rfl,za,hx.same (xD ho hdx),r1,fun H1 s1=>⟨rfl,r2 o dx _ (ww ho hdx s1) za⟩⟩⟩
end
end K84
namespace L2
open PySem PySem.Spec PyProof.Rows
def dcN(n i:Nat)(D:Addr)(Pv:Nat->List (Key×V)->Hp->Prop)(ys:List (Key×V))(y:V):VK:=fun v H5=>∃k,y=kV k/\H5 D=some (.dK ys)/\ys.length<sizeLine/\∃m',m'<n - i/\m'=n - (i+1)/\i+1<=n/\Pv (i+1) (xo ys k v) (upd H5 D (.dK (xo ys k v)))
def dcS(n i:Nat)(Pv:Nat->List (Key×V)->Hp->Prop)(ys:List (Key×V))(H4:Hp):Prop:=∃m',m'<n - i/\m'=n - (i+1)/\i+1<=n/\Pv (i+1) ys H4
theorem dcN.mk{n i:Nat}{Pv:Nat->List (Key×V)->Hp->Prop}(k:Key)(hi:i<n)(ek:y=kV k)(hn:n<=sizeLine)(hD:H5 D=some (.dK ys))(hy:ys.length<=i)(p:Pv (i+1) (xo ys k v) (upd H5 D (.dK (xo ys k v)))):dcN n i D Pv ys y v H5:=
 ⟨k,ek,hD,∅,n - (i+1),∅,rfl,hi,p⟩
theorem dcS.mk{n i:Nat}{Pv:Nat->List (Key×V)->Hp->Prop}(hi:i<n)(p:Pv (i+1) ys H4):dcS n i Pv ys H4:=⟨n - (i+1),∅,rfl,hi,p⟩
theorem zjU{K:Frag}{a:Addr}{xs:List V}{caps:List (Option Nat)}{g:TG}{tt:TT}{tk tv:TE}{σ : St}{H1:Hp}{Q:VK}{D:Addr}(Pv:Nat->List (Key×V)->Hp->Prop)(h0:Pv 0 [] (upd H1 D (.dK [])))
  (hl:∀i ys H,Pv i ys H->SqL K H a xs)
  (hs:∀i x p ys H,i<xs.length->xs[i]?=some x->Pv i ys H->H p=none->g (.ref p) (yW caps σ) (upd H p (.tup [.int i,x])) fun σ2 H2=>tt σ2 H2 fun ok H3=>(ok=true->tk σ2 H3 fun y H4=>tv σ2 H4 (dcN xs.length i D Pv ys y))/\(ok=false->dcS xs.length i Pv ys H3))
  (hd:∀ys H,Pv xs.length ys H->Q (.ref D) H):DCr (Ite K a) caps g tt tk tv σ H1 Q D:=by
 exists fun i m ys H=>m=xs.length - i/\i<=xs.length/\Pv i ys H,⟨xs.length,by simp,zero_le _,h0⟩,?_
 rintro i m ys H ⟨rfl,hi,p⟩;have q:=hl i ys H p;by_cases hlt:i<xs.length
 ·refine .inr ⟨⟨xs,xs[i],q,by simp [hlt]⟩,fun x H' y=>?_⟩
  obtain⟨pp,y,rfl,hp,y2,rfl⟩:=y;exact hs i y pp ys H hlt (y2 xs q) p hp
 ·have e:i=xs.length:=by omega
  subst e;exact .inl ⟨⟨xs,q,aF _⟩,hd ys H p⟩
end L2
namespace K84
open PySem L2 PyProof.Rows
structure Rw where
 (k:Nat) (z:Str) (b:Bool)
def Rw.ok(r:Rw):Prop:=r.k<5/\zU r.z=true
abbrev rv(r:Rw):List V:=zlb r.k (.str r.z) r.b
abbrev pr(r:Rw):List (Str×V):=pf (kw r.k) (.str r.z) (fr r.k r.b)
def PAt(c:C5)(H:Hp)(p:Addr)(r:Rw):Prop:=∃dx,H p=some (.ins (c.at r.k) dx (pr r))
def wp(k:Nat):Bool:=k==0||k==1
def yn(k:Nat):Bool:=k==1||k==3
theorem zh6:∀k:Nat,k<5->inV (.str (kw k)) bpL=wp k:=by decide +kernel
theorem zaT:∀k:Nat,k<5->inV (.str (kw k)) bnL=yn k:=by decide +kernel
def grp:Nat->Nat
 | 0=>0|1=>0|2=>1|3=>2|_=>3
def zaj(l g:Nat):Bool:=decide (g<l)||(g==l&&(g==1||g==3))
def xH:Nat->List Rw->Bool
 | _,[]=>true
 | l,r::rs=>!zaj l (grp r.k)&&xH (grp r.k) rs
def nms(rows:List Rw):List Str:=(rows.filter fun r=>yn r.k).map (·.z)
structure jL(rows:List Rw)(bars:List Str):Prop where
 ok:∀r∈rows,r.ok
 l24:rows.length<=24
 l60:bars.length<=60
 ord:xH 0 rows=true
 bn:∀z∈bars,zU z=true
 nd:(nms rows++bars).Nodup
def zQ(kk:Nat):Nat->List Rw->Option Nat
 | _,[]=>none
 | i,r::rs=>if r.k=kk then some i else zQ kk (i+1) rs
def wn:Option Nat->V
 | none=>.non
 | some i=>.int i
def y8:Nat->List (Key×V)->List Rw->List (Key×V)
 | _,acc,[]=>acc
 | i,acc,r::rs=>y8 (i+1) (if yn r.k=true then xo acc (.inr r.z) (.int i) else acc) rs
def plN(rows:List Rw):Nat:=(rows.filter fun r=>wp r.k).length
def zix:List Str:=["row","bar_names","place_count","tail_number","bag_number","doors"]
structure FF(fs:List (Str×V))(lr lb ld:Addr)(rows:List Rw):Prop where
 row:fs.lookup ("row" : Str)=some (.ref lr)
 bn:fs.lookup ("bar_names" : Str)=some (.ref lb)
 pc:fs.lookup ("place_count" : Str)=some (.int (plN rows))
 tn:fs.lookup ("tail_number" : Str)=some (wn (zQ 2 0 rows))
 bg:fs.lookup ("bag_number" : Str)=some (wn (zQ 4 0 rows))
 dr:fs.lookup ("doors" : Str)=some (.ref ld)
 no:∀m,m∉zix->fs.lookup m=none
def xX(c:C5)(CF:Addr)(H:Hp)(f:Addr)(rows:List Rw)(bars:List Str):Prop:=
 ∃dx fs lr lb ld ps,H f=some (.ins CF dx fs)/\FF fs lr lb ld rows/\H lr=some (.lst (ps.map V.ref))/\Paired (PAt c H) ps rows/\H lb=some (.lst (bars.map V.str))/\H ld=some (.dK (y8 0 [] rows))
section
variable {c:C5}{H H':Hp}{rows:List Rw}{bars:List Str}{r:Rw}{ps:List Addr}
theorem PAt.same(h:PAt c H p r)(s:zq H H'):PAt c H' p r:=h.imp fun _=>s _ _
theorem yM(s:zq H H')(h:Paired (PAt c H) ps rows):Paired (PAt c H') ps rows:=zO (fun _ _ z=>z.same s) h
theorem xX.same(h:xX c CF H f rows bars)(s:zq H H'):xX c CF H' f rows bars:=by
 obtain⟨dx,fs,lr,lb,ld,ps,h1,h2,h3,h4,h5,h6⟩:=h;exact⟨dx,fs,lr,lb,ld,ps,s _ _ h1,h2,s _ _ h3,yM s h4,s _ _ h5,s _ _ h6⟩
def zc2(c:C5)(CF:Addr)(H H':Hp)(f:Addr)(rows:List Rw)(bars:List Str):Prop:=
 ∃dx fs lr lb ld ps,H' f=some (.ins CF dx fs)/\FF fs lr lb ld rows/\H' lr=some (.lst (ps.map V.ref))/\Paired (PAt c H') ps rows/\H' lb=some (.lst (bars.map V.str))/\H' ld=some (.dK (y8 0 [] rows))/\H lr=none/\H lb=none
theorem zc2.of(h:zc2 c CF H H' f rows bars)(s:zq H0 H):zc2 c CF H0 H' f rows bars:=by
 obtain⟨dx,fs,lr,lb,ld,ps,h1,h2,h3,h4,h5,h6,h7,h8⟩:=h;exact⟨dx,fs,lr,lb,ld,ps,h1,h2,h3,h4,h5,h6,s.free h7,s.free h8⟩
theorem yw{α β : Type}{R : α->β->Prop}{xs:List α}{ys:List β}(h:Paired R xs ys):∀{i:Nat}{x : α},xs[i]?=some x->∃y,ys[i]?=some y/\R x y:=by
 induction h with
 | nil=>intro i x e;simp at e
 | cons r t ih=>
  intro i x e;cases i with
  | zero=>exact⟨_,rfl,by simp at e;exact e ▸ r⟩
  | succ i=>simpa using ih (by simpa using e)
def zjJ(x:Str):Option V:=([(("seat" : Str),V.int 0),("both",.int 0),("tail",.int 1),("tag",.int 2),("bag",.int 3)]:List (Str×V)).lookup x
theorem zjI:∀k:Nat,k<5->zjJ (kw k)=some (.int (grp k)):=by decide +kernel
theorem zlK(k:Nat):grp k<4:=by unfold grp;split <;> decide
structure zc0(w:World)(K:Frag)(mg:Str->Option Value)(G sg:Addr):Prop where
 len:mg "len"=none
 en:mg "enumerate"=none
 lst:mg "list"=none
 set:mg "set"=none
 mp:∃t,mg "MOST_PARAMETERS"=some (.int 24 t)
 mb:∃t,mg "MOST_BARS"=some (.int 60 t)
 mgr:mg "GROUPS"=some (.ref G)
 gt:zlU w K G zjJ
 ms:mg "SINGLE_GROUPS"=some (.ref sg)
 hs:∀H,SqT K H sg [.int 1,.int 3]
def Cs5(c:C5):Addr->Prop:=fun C=>∃k,k<5/\C=c.at k
inductive zgw(K:Frag)(vs:List V)(H:Hp)(Q:VK)(E:XK):Prop|mk(a b:Addr)(xs ys:List V):vs=[.ref a,.ref b]->SqL K H a xs->SqL K H b ys->xs.length<=24->ys.length<=60->(Q .non H)->zgw K vs H Q E
inductive zkf(c:C5)(vs:List V)(H:Hp)(Q:VK)(E:XK):Prop|mk(a:Addr)(ps:List Addr)(rows:List Rw):vs=[.ref a]->H a=some (.lst (ps.map V.ref))->Paired (PAt c H) ps rows->(∀r∈rows,r.ok)->xH 0 rows=true->(∀H',zq H H'->Q .non H')->zkf c vs H Q E
inductive zma(vs:List V)(H:Hp)(Q:VK)(E:XK):Prop|mk(b:Addr)(bars:List Str):vs=[.ref b]->H b=some (.lst (bars.map V.str))->(∀z∈bars,zU z=true)->(∀H',zq H H'->Q .non H')->zma vs H Q E
inductive zl9(c:C5)(vs:List V)(H:Hp)(Q:VK)(E:XK):Prop|mk(a b:Addr)(ps:List Addr)(rows:List Rw)(bars:List Str):vs=[.ref a,.ref b]->H a=some (.lst (ps.map V.ref))->Paired (PAt c H) ps rows->(∀r∈rows,r.ok)->rows.length<=500->H b=some (.lst (bars.map V.str))->bars.length<=500->(nms rows++bars).Nodup->(∀H',zq H H'->Q .non H')->zl9 c vs H Q E
inductive zmc(c:C5)(vs:List V)(H:Hp)(Q:VK)(E:XK):Prop|mk(a:Addr)(ps:List Addr)(rows:List Rw)(kk:Nat):vs=[.ref a,.str (kw kk)]->kk<5->H a=some (.lst (ps.map V.ref))->Paired (PAt c H) ps rows->(∀r∈rows,r.ok)->(∀H',zq H H'->Q (wn (zQ kk 0 rows)) H')->zmc c vs H Q E
theorem uD:∀i:Nat,i<5->∀k:Nat,k<5->decide (V.str (kw k)=V.str (kw i))=(k==i):=by decide +kernel
theorem zbT{α : Type}{xs:List α}{i:Nat}{x : α}(h:xs[i]?=some x):xs.drop i=x::xs.drop (i+1):=by
 have hi:i<xs.length:=(List.getElem?_eq_some_iff.mp h).1;rw[List.drop_eq_getElem_cons hi];rw[aB hi] at h;rw[Option.some.inj h]
theorem xt{i:Nat}(h:(ps.map V.ref)[i]?=some x):∃p,ps[i]?=some p/\x=.ref p:=by
 rw[getElem?_map] at h;cases e:ps[i]? with
 | none=>rw[e] at h;cases h
 | some p=>rw[e] at h;exact⟨p,rfl,(Option.some.inj h).symm⟩
theorem strs_at{zs:List Str}{i:Nat}{x:V}(h:(zs.map V.str)[i]?=some x):∃z,zs[i]?=some z/\x=.str z:=by
 rw[getElem?_map] at h;cases e:zs[i]? with
 | none=>rw[e] at h;cases h
 | some p=>rw[e] at h;exact⟨p,rfl,(Option.some.inj h).symm⟩
variable {mg:Str->Option Value}
def Pcs(K:Frag)(m:MA)(c:C5):Prop:=∀k,k<5->PC K m (c.at k)
theorem ziT:zA ["parameters","bars"] ["parameters","bars"] (zh zdi):=fsc
theorem zjs{f:Addr}{P:Program}{w:World}{K:Frag}{base:Heap}{G sg:Addr}{fd:FuncData}(F:Fun K "refuse_too_many" "refuse_too_many" zdi f fd)(T:zc0 w K mg G sg):↥1 f fd ["parameters","bars"] (zgw K):=by
 specialize ziT;obtain⟨a,b,xs,ys,rfl,ha,hb,l1,l2,q⟩:=h;obtain⟨t1,m1⟩:=T.mp;obtain⟨t2,m2⟩:=T.mb;refine⟨_,zu (zS (zm zeK (cB zE T.len PySem.boot_len (ac (pv 0) zc)) (xN (v:=.int 24) rfl m1 ⟨_,rfl⟩) (zF _)) (zg vZ) zD)
  (zg (zS (zm zeK (cB zE T.len PySem.boot_len (ac (pv 1) zc)) (xN (v:=.int 60) rfl m2 ⟨_,rfl⟩) (zF _)) (zg vZ) zD)),?_⟩
 exists _,rfl,a,_,rfl,.inl ha,_,_,rfl,rfl,_,rfl,?_;refine dF (by show ¬(24:Int)<(xs.length:Int);omega) ?_
 exists _,rfl,b,_,rfl,.inl hb,_,_,rfl,rfl,_,rfl,?_;exact dF (by show ¬(60:Int)<(ys.length:Int);omega) q
theorem w5:zA ["parameters","last","at","parameter","group"] ["parameters"] (zh zbu):=fsc
theorem zhG{f:Addr}{P:Program}{w:World}{K:Frag}{base:Heap}{G sg:Addr}{fd:FuncData}{m:MA}(F:Fun K "refuse_bad_order" "refuse_bad_order" zbu f fd)(T:zc0 w K mg G sg)(PP:Pcs K m c):↥1 f fd ["parameters"] (zkf c):=by
 specialize w5;obtain⟨a,ps,rows,rfl,ha,hp,hok,ho,q⟩:=h;refine⟨_,zu (zx (i:=1) w5.nd rfl (Or.inl rfl) ze)
  (zg (yU PassesOwn.never rfl (wE rfl T.en (ac (pv 0) zc)) (y6 rfl (zN (zo (i:=2) w5.nd rfl (Or.inl rfl)) (zN (zo (i:=3) w5.nd rfl (Or.inl rfl)) yH)))
   (zu (zx (i:=4) w5.nd rfl (Or.inl rfl) (zjf T.gt T.mgr (xi (pv 3) rfl)))
   (zu (zS (yS (vK (zm vL (pv 4) (pv 1) (zF _)) (vo (yS (yO (zm ym (pv 4) (pv 1) (zF _)) (yB (zm yi (pv 4) (xN (v:=.ref sg) rfl T.ms rfl) (by with_unfolding_all rfl)))))))) (zg vZ) zD)
   (zg (zx (i:=1) w5.nd rfl (Or.inl rfl) (pv 4))))))),?_⟩
 show jj _ _ _ _ _;refine⟨_,rfl,a,rfl,⟨_,zf ha⟩,vQ (K:=K) (a:=a) (xs:=ps.map V.ref) (fun i σ H'=>∃(l:Nat) (v2 v3 v4:Option V),σ=[~~~a,some (.int (l:Nat)),v2,v3,v4]/\zq H H'/\xH l (rows.drop i)=true)
  ⟨0,_,_,_,rfl,zq.refl _,ho⟩ (fun i σ H' _ ⟨_,_,_,_,_,sH,_⟩=>zf (sH _ _ ha)) ?_ ?_⟩
 ·rintro i x p σ H' hx ⟨l,v2,v3,v4,rfl,sH,hl⟩ hpn
  obtain⟨pa,hpa,rfl⟩:=xt hx;obtain⟨r,hr',dx,hdx⟩:=yw hp hpa;have rok:=hok r (aH hr');have C:=PP r.k rok.1;rw[zbT hr'] at hl;have hl':(!zaj l (grp r.k)&&xH (grp r.k) (rows.drop (i+1)))=true:=hl;rw[Bool.and_eq_true,Bool.not_eq_true'] at hl';obtain⟨hb,hl2⟩:=hl';have hb':(decide (grp r.k<l)||(grp r.k==l&&(grp r.k==1||grp r.k==3)))=false:=hb
  rw[Bool.or_eq_false_iff] at hb';have sp:=zd hpn (.tup [.int (i:Nat),.ref pa]);exists p,_,rfl,zy za,rfl,_,_,rfl,_,_,rfl,rfl,?_;exists _,rfl,pa,_,dx,_,_,rfl,sp _ _ (sH _ _ hdx),C.cl,C.nW,uZ,kw r.k,.int (grp r.k),rfl,zjI r.k rok.1,?_;exists _,rfl,_,rfl,_,_,rfl,rfl,_,rfl,?_;refine dF (fun z=>by have:=of_decide_eq_false hb'.1;omega) ?_
  have fin:∃(l':Nat) (v2 v3 v4:Option V),([~~~a,some (.int (grp r.k:Nat)),some (.int (i:Nat)),~~~pa,some (.int (grp r.k:Nat))]:L2.St)=[~~~a,some (.int (l':Nat)),v2,v3,v4]/\zq H (upd H' p (.tup [.int (i:Nat),.ref pa]))/\xH l' (rows.drop (i+1))=true:=
   ⟨grp r.k,_,_,_,rfl,sH.trans sp,hl2⟩
  exists _,rfl,_,rfl,rfl,_,rfl,?_;by_cases e:grp r.k=l
  ·refine dT (by rw[e]) ?_
   exists _,rfl,sg,_,rfl,.inr (T.hs _),rfl,⋯,_,rfl,?_
   have h13:(grp r.k==1||grp r.k==3)=false:=by
    have:=hb'.2
    rw[e] at this |-;simpa using this
   have hin:inV (.int (grp r.k:Nat)) [.int 1,.int 3]=false:=by
    have g4:=zlK r.k
    have:∀g:Nat,g<4->(g==1||g==3)=false->inV (.int (g:Nat)) [.int 1,.int 3]=false:=by decide +kernel
    exact this _ g4 h13
   rw[show(if false=true then !inV (V.int ((grp r.k:Nat):Int)) [V.int 1,V.int 3] else inV (V.int ((grp r.k:Nat):Int)) [V.int 1,V.int 3])=false from hin]
   refine yD ?_;exact⟨_,rfl,fin⟩
  ·refine dF (fun z=>e (by have:=V.int.inj z;omega)) ?_
   exact⟨_,rfl,fin⟩
 ·rintro σ H' ⟨l,v2,v3,v4,rfl,sH,_⟩
  exact q _ sH
end
end K84
namespace L2
open PySem PySem.Spec PyProof.Rows
theorem jW{X:Cx}{K:Frag}{e:Expr}{f:Str}{pos:Pos}{ta:TE}(hK:X.K=K)(he:PE X e ta)(hb:attributeBase e f X.env (eval e X.env)=eval e X.env):PE X (.Attribute e f pos) (zl4 K ta f):=hK ▸ xi he hb
end L2
namespace K84
open PySem L2 PyProof.Rows
theorem z9{n:Nat}(h:n<=1000):n<=sizeLine:=le_of_lt (zY h)
theorem zjD{rows:List Rw}{i:Nat}{r:Rw}(h:rows[i]?=some r):nms (rows.take (i+1))=nms (rows.take i)++(if yn r.k=true then [r.z] else []):=by
 have hi:i<rows.length:=(List.getElem?_eq_some_iff.mp h).1;have e:rows[i]=r:=by rw[aB hi] at h;exact Option.some.inj h
 unfold nms;rw[take_succ_eq_append_getElem hi,filter_append,aE,e];cases hb:yn r.k <;> simp [hb]
section
variable {K:Frag}{mg:Str->Option Value}{f G sg:Addr}{c:C5}
theorem zdc:zA ["parameters","word","at","parameter"] ["parameters","word"] (zh zgV):=fsc
theorem zjp(F:Fun K "number_of_word" "number_of_word" zgV f fd)(T:zc0 w K mg G sg)(PP:Pcs K m c):↥1 f fd ["parameters","word"] (zmc c):=by
 specialize zdc;obtain⟨a,ps,rows,kk,rfl,hkk,ha,hp,hok,q⟩:=h;refine⟨_,zu (yU PassesOwn.never rfl (wE rfl T.en (ac (pv 0) zc)) (y6 rfl (zN (zo (i:=2) zdc.nd rfl (Or.inl rfl)) (zN (zo (i:=3) zdc.nd rfl (Or.inl rfl)) yH)))
   (zg (zS (zm ym (xi (pv 3) rfl) (pv 1) (zF _)) (zg (zB (pv 2))) zD))) (zg (zB qC)),?_⟩
 refine⟨_,rfl,a,rfl,⟨_,zf ha⟩,vQ (K:=K) (a:=a) (xs:=ps.map V.ref) (fun i σ H'=>∃v2 v3,σ=[~~~a,some (.str (kw kk)),v2,v3]/\zq H H'/\zQ kk i (rows.drop i)=zQ kk 0 rows)
  ⟨_,_,rfl,zq.refl _,rfl⟩ (fun i σ H' _ ⟨_,_,_,sH,_⟩=>zf (sH _ _ ha)) ?_ ?_⟩
 ·rintro i x p σ H' hx ⟨v2,v3,rfl,sH,hl⟩ hpn
  obtain⟨pa,hpa,rfl⟩:=xt hx;obtain⟨r,hr',dx,hdx⟩:=yw hp hpa;have rok:=hok r (aH hr');have C:=PP r.k rok.1;rw[zbT hr'] at hl;have hl':(if r.k=kk then some i else zQ kk (i+1) (rows.drop (i+1)))=zQ kk 0 rows:=hl
  have sp:=zd hpn (.tup [.int (i:Nat),.ref pa]);exists p,_,rfl,zy za,rfl,_,_,rfl,_,_,rfl,rfl,?_;exists _,rfl,pa,_,dx,_,_,rfl,sp _ _ (sH _ _ hdx),C.cl,C.nW,uZ,_,rfl,rfl,_,rfl,?_;by_cases e:r.k=kk
  ·refine dT (by rw[e]) ?_
   rw[aK e] at hl';exists _,rfl,?_
   have:=q _ (sH.trans sp)
   rw[<- hl'] at this;exact this
  ·refine dF (fun z=>?_) ?_
   ·have h1:=uD kk hkk r.k rok.1
    rw[aC z] at h1;exact e (by simpa using h1.symm)
   ·rw[aJ e] at hl'
    exact⟨_,_,rfl,sH.trans sp,hl'⟩
 ·rintro σ H' ⟨v2,v3,rfl,sH,hl⟩
  have e:zQ kk 0 rows=none:=by
   rw[<- hl,aA,hp.length,List.drop_length];rfl
  have:=q _ sH
  rw[e] at this;exact this
theorem zex:zA ["bars","bar"] ["bars"] (zh zdj):=fsc
theorem zhC(F:Fun K "refuse_bars_without_name" "refuse_bars_without_name" zdj f fd)(cI:⇑1 "is_name" g gd ["thing"] (zkH K)):↥2 f fd ["bars"] zma:=by
 specialize zex;obtain⟨b,bars,rfl,hb,hn,q⟩:=h;exists _,zg (yU PassesOwn.never rfl (zM (pv 0)) (zo (i:=1) zex.nd rfl (Or.inl rfl)) (zg (zS (xx (yz (cF cI hr (ac (pv 1) zc)))) (zg vZ) zD))),?_;exists _,rfl,b,rfl,⟨_,zf hb⟩,xf (K:=K) (a:=b) (xs:=bars.map V.str) (fun i σ H'=>∃v1,σ=[~~~b,v1]/\zq H H') ⟨_,rfl,zq.refl _⟩ (fun i σ H' _ ⟨_,_,sH⟩=>zf (sH _ _ hb)) ?_ ?_
 ·rintro i x σ H' hx ⟨v1,rfl,sH⟩
  obtain⟨z,hz,rfl⟩:=strs_at hx;have nz:=hn z (aH hz);exists _,rfl,_,rfl,.inl ⟨z,rfl,zcF nz⟩,fun H2 s2=>⟨_,rfl,?_⟩;rw[show nmV (.str z)=true from nz];refine yD ?_;exact⟨_,rfl,sH.trans s2⟩
 ·rintro σ H' ⟨v1,rfl,sH⟩
  exact q _ sH
theorem zfO:([Str.ofString "parameter"]:List Str).Nodup:=by decide +kernel
theorem qo:zA ["parameters","bars","seen","name"] ["parameters","bars"] (zh zbt):=fsc
theorem zhu(F:Fun K "refuse_twice" "refuse_twice" zbt f fd)(T:zc0 w K mg G sg)(PP:Pcs K m c)(GB:↥1 m.fB gd ["self"] (qi K m bnL))(bB:yc K gd ["self"] []):↥2 f fd ["parameters","bars"] (zl9 c):=by
 specialize qo;obtain⟨a,b,ps,rows,bars,rfl,ha,hp,hok,l1,hb,l2,nd,q⟩:=h;have hC:∀C,Cs5 c C->Cls K C/\xv K C "by_name" m.fB:=fun C ⟨k,hk,e⟩=>by rw[e];exact⟨(PP k hk).cl,(PP k hk).mB⟩
 refine⟨_,zu (zx (i:=2) qo.nd rfl (Or.inl rfl) (zdA zf8 rfl T.set (by decide +kernel:bootBuiltins "set"=some (.type "set"))))
  (zg (yU PassesOwn.never rfl (zM (zk yA (yY [] ["parameter"] [none] rfl ⟨rfl,rfl,rfl,rfl⟩ (zM (pv 0)) (zK 0) rfl rfl rfl
    (fun pins fp s H C=>⟨zo (i:=0) zfO rfl (Or.inl rfl) (.inr rfl),yg (yz (wx (pv 0) hC GB hr bB yt)),jW (K:=K) rfl (pv 0) rfl⟩)) (cTy y9 T.lst PyProof.Rows.boot_list (ac (pv 1) zc)))) (zo (i:=3) qo.nd rfl (Or.inl rfl))
   (zu (zS (zm qL (pv 3) (pv 2) (by with_unfolding_all rfl)) (zg vZ) zD)
   (zg (zZ (zje (pv 2) (pv 3) ⟨rfl,rfl,rfl,rfl⟩)))))),?_⟩
 exists rfl,fun se hse=>?_;have s1:zq H (upd H se (vJ P w se (fun _=>false) 0)):=zd hse _;have g1:upd H se (vJ P w se (fun _=>false) 0) se=some (vJ P w se (fun _=>false) 0):=za;show jj _ _ _ _ (upd H se (vJ P w se (fun _=>false) 0));generalize upd H se (vJ P w se (fun _=>false) 0)=H1 at s1 g1 |-;have ha1:=s1 _ _ ha;have hp1:=yM s1 hp;exists _,rfl,a,rfl,⟨_,zf ha1⟩,fun D hD=>?_;refine wG (K:=K) (xs:=ps.map V.ref) (fun i ys H'=>zq H1 H'/\H' D=some (.lst ys)/\ys=(nms (rows.take i)).map V.str) ⟨zd hD _,za,rfl⟩ (fun i ys H' h=>zf (h.1 _ _ ha1)) ?_ ?_
 ·rintro i x ys H' hlt hx ⟨sH,hDy,ey⟩
  obtain⟨pa,hpa,rfl⟩:=xt hx;obtain⟨r,hr',dx,hdx⟩:=yw hp1 hpa;have rok:=hok r (aH hr');have C:=PP r.k rok.1;have nl:ys.length<=i:=by
   rw[ey,aA];unfold nms;rw[aA];refine Nat.le_trans (length_filter_le _ _) ?_;rw[length_take];omega
  have hd2:=sH _ _ hdx;exists _,rfl,pa,_,dx,_,rfl,⟨r.k,rok.1,rfl⟩,hd2,u0 (by decide +kernel) (by decide +kernel) (by decide +kernel),pa,dx,_,_,_,_,rfl,C,hd2,_,rfl,?_
  rw[zaT r.k rok.1];have tk:=zjD hr';exists fun e=>?_,fun e=>?_
  ·rw[e,aK rfl] at tk
   exists _,rfl,pa,_,dx,_,_,rfl,hd2,C.cl,C.nN,v0,?_;refine lcN.mk hlt (z9 (by rw[aA,hp.length];omega)) hDy nl ⟨fun b u e=>?_,za,?_⟩
   ·rw[zi (zj e hD)]
    exact sH b u e
   ·rw[ey,tk,aE]
    rfl
  ·rw[e,aJ zft,append_nil] at tk
   exact lcS.mk hlt ⟨sH,hDy,by rw[ey,tk]⟩
 rintro ys H2 ⟨s2,hDy,ey⟩;have ey:ys=(nms rows).map V.str:=by
  rw[ey,aA,hp.length,take_length]
 subst ey;have hb2:=s2 _ _ (s1 _ _ hb);exists _,rfl,b,_,rfl,.inl (zf hb2),fun l hl=>?_
 injections l hl H3 s3 g3
 have ln:(nms rows).length<=500:=by
  unfold nms;rw[aA];exact Nat.le_trans (length_filter_le _ _) l1
 exists D,l,_,_,rfl,rfl,s3 _ _ hDy,g3,z9 (by rw[aA,aA];omega),fun l4 hl4=>?_
 rw[<- aE];have s4:=zd hl4 (.lst ((nms rows++bars).map V.str));have g4:upd H3 l4 (.lst ((nms rows++bars).map V.str)) l4=some (.lst ((nms rows++bars).map V.str)):=za;have nse:l4≠se:=fun z=>by
  rw[z] at hl4;rw[s3 _ _ (s2 _ _ g1)] at hl4;cases hl4
 generalize upd H3 l4 (.lst ((nms rows++bars).map V.str))=H4 at s4 g4 |-;have sA:zq H1 H4:=s2.trans (s3.trans s4);have gse:=sA _ _ g1;refine⟨l4,rfl,⟨_,zf g4⟩,xf (K:=K) (a:=l4) (xs:=(nms rows++bars).map V.str) (fun i σ H'=>∃(S:Str->Bool) (n:Nat) (v3:Option V),σ=[~~~a,~~~b,~~~se,v3]/\H' se=some (vJ P w se S n)/\(∀z,S z=decide (z∈(nms rows++bars).take i))/\n<=i/\(∀b' u,H4 b'=some u->b'≠se->H' b'=some u))
  ⟨_,0,_,rfl,gse,fun z=>by simp,aF _,fun b' u e _=>e⟩ (fun i σ H' _ ⟨_,_,_,_,_,_,_,k⟩=>zf (k _ _ g4 nse)) ?_ ?_⟩
 ·rintro i x σ H' hx ⟨S,n,v3,rfl,hS,hSz,hn,k⟩
  obtain⟨z,hz,rfl⟩:=strs_at hx;have hi:i<(nms rows++bars).length:=(List.getElem?_eq_some_iff.mp hz).1;have ez:(nms rows++bars)[i]=z:=by rw[aB hi] at hz;exact Option.some.inj hz
  have nz:S z=false:=by
   rw[hSz,decide_eq_false_iff_not];intro hm;obtain⟨j,hj,ej⟩:=List.mem_take_iff_getElem.mp hm
   have:=List.pairwise_iff_getElem.mp nd j i ∅ hi ∅
   exact this (ej.trans ez.symm)
  exists _,rfl,_,rfl,se,S,n,z,rfl,rfl,hS,_,rfl,?_;rw[nz];refine yD ?_;exists _,rfl,se,S,n,rfl,hS,_,rfl,S,n,z,rfl,hS,?_,?_
  ·rw[aG] at hi
   show n+1<4096;omega
  ·exists _,_,_,rfl,za,fun y=>?_,?_,fun b' u e ne=>?_
   ·rw[hSz y,take_succ_eq_append_getElem hi,ez]
    simp [mem_append]
   ·rw[nz]
    show n+1<=i+1;omega
   ·rw[zi ne]
    exact k b' u e ne
 ·rintro σ H' ⟨S,n,v3,rfl,hS,hSz,hn,k⟩
  refine q _ fun b' u e=>k b' u (sA _ _ (s1 _ _ e)) fun z=>?_;rw[z,hse] at e;cases e
def SX(f:Addr)(H H':Hp):Prop:=∀b u,H b=some u->b≠f->H' b=some u
theorem SX.same(x:SX f H H1)(s:zq H1 H2):SX f H H2:=fun b u e n=>s b u (x b u e n)
theorem SX.upd(x:SX f H H1):SX f H (upd H1 f o):=fun b u e n=>by rw[zi n];exact x b u e n
theorem SX.refl:SX f H H:=fun _ _ e _=>e
theorem vp(f:Str)(v:V):∀fs:List (Str×V),(yf f v fs).length<=fs.length+1
 | []=>aF _
 | (g,x)::r=>by
  show(if g=f then (g,v)::r else (g,x)::yf f v r).length<=_
  split
  ·simp
  ·have:=vp f v r
   simp only[length_cons];omega
def Pre(fs:List (Str×V)):Prop:=fs.length<=50/\∀m,m∉zix->fs.lookup m=none
structure FC(K:Frag)(CF:Addr):Prop where
 cl:Cls K CF
 n1:xF K CF "row"
 n2:xF K CF "bar_names"
 n3:xF K CF "place_count"
 n4:xF K CF "tail_number"
 n5:xF K CF "bag_number"
 n6:xF K CF "doors"
inductive zgz(c:C5)(CF:Addr)(vs:List V)(H:Hp)(Q:VK)(E:XK):Prop|mk(f a b dx:Addr)(fs:List (Str×V))(ps:List Addr)(rows:List Rw)(bars:List Str):vs=[.ref f,.ref a,.ref b]->H f=some (.ins CF dx fs)->Pre fs->H a=some (.lst (ps.map V.ref))->Paired (PAt c H) ps rows->(∀r∈rows,r.ok)->rows.length<=500->H b=some (.lst (bars.map V.str))->(∀H',SX f H H'->zc2 c CF H H' f rows bars->(∃dx' fs',H' f=some (.ins CF dx' fs')/\fs'.length<=fs.length+6)->Q .non H')->zgz c CF vs H Q E
theorem zjc{rows:List Rw}{i:Nat}{r:Rw}(h:rows[i]?=some r):plN (rows.take (i+1))=plN (rows.take i)+(if wp r.k=true then 1 else 0):=by
 have hi:i<rows.length:=(List.getElem?_eq_some_iff.mp h).1;have e:rows[i]=r:=by rw[aB hi] at h;exact Option.some.inj h
 unfold plN;rw[take_succ_eq_append_getElem hi,filter_append,aG,e];cases hb:wp r.k <;> simp [hb]
theorem zaY:∀(rows:List Rw) (i:Nat) (acc:List (Key×V)),(y8 i acc rows).length<=acc.length+rows.length
 | [],_,_=>aF _
 | r::rs,i,acc=>by
  have h:=zaY rs (i+1) (if yn r.k=true then xo acc (.inr r.z) (.int i) else acc)
  have h2:(if yn r.k=true then xo acc (.inr r.z) (.int i) else acc).length<=acc.length+1:=by
   split
   ·exact x8 acc _ _
   ·omega
  show(y8 (i+1) _ rs).length<=acc.length+(rs.length+1);omega
theorem jI{r:Rw}:∀(rows:List Rw) (j i:Nat) (acc:List (Key×V)),rows[i]?=some r->y8 j acc (rows.take (i+1))=(if yn r.k=true then xo (y8 j acc (rows.take i)) (.inr r.z) (.int (j+i:Nat)) else y8 j acc (rows.take i))
 | [],_,_,_,h=>by simp at h
 | r0::rs,j,0,acc,h=>by
  have e:r0=r:=by simpa using h
  subst e;show(if yn r0.k=true then xo acc (.inr r0.z) (.int j) else acc)=_
  rfl
 | r0::rs,j,i+1,acc,h=>by
  have:=jI rs (j+1) i (if yn r0.k=true then xo acc (.inr r0.z) (.int j) else acc) (by simpa using h)
  show y8 (j+1) _ (rs.take (i+1))=_;rw[this,show j+1+i=j+(i+1) by omega]
  rfl
variable {CF:Addr}
theorem PAt.ne(h:PAt c H p r)(e:H f=some (.ins CF dx fs))(n:fs.lookup ("word" : Str)=none):p≠f:=fun z=>by
 obtain⟨d,h⟩:=h;rw[z,e] at h;injection h with h
 injection h with h1 h2 h3
 rw[h3,uZ] at n;cases n
theorem u5(e:H f=some (.ins CF dx fs))(n:fs.lookup ("word" : Str)=none)(x:SX f H H')(h:Paired (PAt c H) ps rows):Paired (PAt c H') ps rows:=
 zO (fun _ _ z=>by
  have ne:=z.ne e n;obtain⟨d,q⟩:=z;exact⟨d,x _ _ q ne⟩) h
theorem zmF:([Str.ofString "at",Str.ofString "parameter"]:List Str).Nodup:=by decide +kernel
theorem zkR:zA ["self","parameters","bars"] ["self","parameters","bars"] (zh zgZ):=fsc
theorem zjv(F:Fun K "keep" "Form.keep" zgZ f fd)(T:zc0 w K mg G sg)(PP:Pcs K m c)(FK:FC K CF)(cW:⇑1 "number_of_word" g gd ["parameters","word"] (zmc c))
  (GP:↥1 m.fP gp ["self"] (qi K m bpL)) (bP:yc K gp ["self"] []) (GB:↥1 m.fB gb ["self"] (qi K m bnL)) (bB:yc K gb ["self"] []):↥2 f fd ["self","parameters","bars"] (zgz c CF):=by
 specialize zkR;obtain⟨f,a,b,dx,fs,ps,rows,bars,rfl,hf,⟨pl,pn⟩,ha,hp,hok,l5,hb,q⟩:=h;have hP:∀C,Cs5 c C->Cls K C/\xv K C "by_place" m.fP:=fun C ⟨k,hk,e⟩=>by rw[e];exact⟨(PP k hk).cl,(PP k hk).mP⟩
 have hB:∀C,Cs5 c C->Cls K C/\xv K C "by_name" m.fB:=fun C ⟨k,hk,e⟩=>by rw[e];exact⟨(PP k hk).cl,(PP k hk).mB⟩
 have nw:fs.lookup ("word" : Str)=none:=pn _ (by decide +kernel)
 refine⟨_,zu (vq (pv 0) (cTy y9 T.lst PyProof.Rows.boot_list (ac (pv 1) zc)) rfl)
  (zu (vq (pv 0) (cTy y9 T.lst PyProof.Rows.boot_list (ac (pv 2) zc)) rfl)
  (zu (vq (pv 0) (cB zE T.len PySem.boot_len (ac (yY [] ["parameter"] [none] rfl ⟨rfl,rfl,rfl,rfl⟩ (zM (xi (pv 0) rfl)) (zK 0) rfl rfl rfl
    (fun pins fp s H C=>⟨zo (i:=0) zfO rfl (Or.inl rfl) (.inr rfl),yg (yz (wx (pv 0) hP GP hr bP yt)),pv 0⟩)) zc)) rfl)
  (zu (vq (pv 0) (cF cW hr (ac (xi (pv 0) rfl) (ac zH zc))) rfl)
  (zu (vq (pv 0) (cF cW hr (ac (xi (pv 0) rfl) (ac zH zc))) rfl)
  (zg (vq (pv 0) (zmp [] ["at","parameter"] [none,none] rfl ⟨rfl,rfl,rfl,rfl⟩ (wE rfl T.en (ac (xi (pv 0) rfl) zc)) (ue (K:=K) (n:=2) 0 1) rfl rfl rfl
    (fun pins fp s H C=>⟨y6 rfl (zN (zo (i:=0) zmF rfl (Or.inl rfl) (.inr rfl)) (zN (zo (i:=1) zmF rfl (Or.inl rfl) (.inr rfl)) yH)),yg (yz (wx (pv 1) hB GB hr bB yt)),jW (K:=K) rfl (pv 1) rfl,pv 0⟩)) rfl)))))),?_⟩
 exists _,rfl,a,_,rfl,.inl (zf ha),fun l1 hl1=>?_;have s1:=zd hl1 (.lst (ps.map V.ref));exists _,rfl,f,CF,dx,fs,rfl,s1 _ _ hf,FK.cl,FK.n1,∅,?_
 have x1:SX f H (upd (upd H l1 (.lst (ps.map V.ref))) f (.ins CF dx (yf "row" (.ref l1) fs))):=(SX.refl.same s1).upd;have f1:upd (upd H l1 (.lst (ps.map V.ref))) f (.ins CF dx (yf "row" (.ref l1) fs)) f=some (.ins CF dx (yf "row" (.ref l1) fs)):=za;have e1:upd (upd H l1 (.lst (ps.map V.ref))) f (.ins CF dx (yf "row" (.ref l1) fs)) l1=some (.lst (ps.map V.ref)):=by
  rw[zi (fun z=>by rw[z,hf] at hl1;cases hl1),za]
 have p1:=vp "row" (.ref l1) fs;have r1:(yf "row" (.ref l1) fs).lookup ("row" : Str)=some (.ref l1):=by rw[zw,aK rfl]
 show jj _ _ _ _ (upd (upd H l1 (.lst (ps.map V.ref))) f (.ins CF dx (yf "row" (.ref l1) fs)));generalize upd (upd H l1 (.lst (ps.map V.ref))) f (.ins CF dx (yf "row" (.ref l1) fs))=H1 at x1 f1 e1 |-;have nbf:b≠f:=wl hb hf (by intro z;cases z)
 exists _,rfl,b,_,rfl,.inl (zf (x1 _ _ hb nbf)),fun l2 hl2=>?_;have s2:=zd hl2 (.lst (bars.map V.str));have hlb:H l2=none:=by
  cases e:H l2 with
  | none=>rfl
  | some u=>exact absurd (x1 _ _ e (fun z=>by rw[z,f1] at hl2;cases hl2)) (by rw[hl2];intro z;cases z)
 exists _,rfl,f,CF,dx,_,rfl,s2 _ _ f1,FK.cl,FK.n2,∅,?_
 have x2:SX f H (upd (upd H1 l2 (.lst (bars.map V.str))) f (.ins CF dx (yf "bar_names" (.ref l2) (yf "row" (.ref l1) fs)))):=(x1.same s2).upd;have f2:upd (upd H1 l2 (.lst (bars.map V.str))) f (.ins CF dx (yf "bar_names" (.ref l2) (yf "row" (.ref l1) fs))) f=some (.ins CF dx (yf "bar_names" (.ref l2) (yf "row" (.ref l1) fs))):=za;have g2:upd (upd H1 l2 (.lst (bars.map V.str))) f (.ins CF dx (yf "bar_names" (.ref l2) (yf "row" (.ref l1) fs))) l2=some (.lst (bars.map V.str)):=by
  rw[zi (fun z=>by rw[z,f1] at hl2;cases hl2),za]
 have e2:upd (upd H1 l2 (.lst (bars.map V.str))) f (.ins CF dx (yf "bar_names" (.ref l2) (yf "row" (.ref l1) fs))) l1=some (.lst (ps.map V.ref)):=by
  rw[zi (wl e1 f1 (by intro z;cases z)),s2 _ _ e1]
 have p2:=vp "bar_names" (.ref l2) (yf "row" (.ref l1) fs);have r2:(yf "bar_names" (.ref l2) (yf "row" (.ref l1) fs)).lookup ("row" : Str)=some (.ref l1):=by rw[zw,aJ (by decide +kernel)];exact r1
 show jj _ _ _ _ (upd (upd H1 l2 (.lst (bars.map V.str))) f (.ins CF dx (yf "bar_names" (.ref l2) (yf "row" (.ref l1) fs))));generalize hfs2:yf "bar_names" (.ref l2) (yf "row" (.ref l1) fs)=fs2 at f2 e2 g2 p2 r2 x2 |-;generalize upd (upd H1 l2 (.lst (bars.map V.str))) f (.ins CF dx fs2)=H2 at x2 f2 e2 g2 |-;have hp2:=u5 hf nw x2 hp;exists _,rfl,f,CF,dx,_,_,rfl,f2,FK.cl,FK.n1,r2,l1,rfl,⟨_,zf e2⟩,fun D hD=>?_;refine wG (K:=K) (xs:=ps.map V.ref) (fun i ys H'=>zq H2 H'/\H' D=some (.lst ys)/\ys.length=plN (rows.take i)) ⟨zd hD _,za,rfl⟩ (fun i ys H' h=>zf (h.1 _ _ e2)) ?_ ?_
 ·rintro i x ys H' hlt hx ⟨sH,hDy,ey⟩
  obtain⟨pa,hpa,rfl⟩:=xt hx;obtain⟨r,hr',dx',hdx⟩:=yw hp2 hpa;have rok:=hok r (aH hr');have C:=PP r.k rok.1;have nl:ys.length<=i:=by
   rw[ey];unfold plN;refine Nat.le_trans (length_filter_le _ _) ?_;rw[length_take];omega
  have hd2:=sH _ _ hdx;exists _,rfl,pa,_,dx',_,rfl,⟨r.k,rok.1,rfl⟩,hd2,u0 (by decide +kernel) (by decide +kernel) (by decide +kernel),pa,dx',_,_,_,_,rfl,C,hd2,_,rfl,?_
  rw[zh6 r.k rok.1];have tk:=zjc hr';exists fun e=>?_,fun e=>?_
  ·rw[e,aK rfl] at tk
   exists _,rfl,lcN.mk hlt (z9 (by rw[aA,hp.length];omega)) hDy nl ⟨fun b u e=>?_,za,?_⟩
   ·rw[zi (zj e hD)]
    exact sH b u e
   ·rw[aG,ey,tk]
    rfl
  ·rw[e,aJ zft] at tk
   exact lcS.mk hlt ⟨sH,hDy,by rw[ey,tk];rfl⟩
 rintro ys H3 ⟨s3,hDy,ey⟩;rw[aA,hp.length,take_length] at ey;exists D,_,rfl,.inl (zf hDy),?_;rw[ey];have x3:=x2.same s3;exists _,rfl,f,CF,dx,_,rfl,s3 _ _ f2,FK.cl,FK.n3,∅,?_
 have f3:upd H3 f (.ins CF dx (yf "place_count" (.int (plN rows:Nat)) fs2)) f=some (.ins CF dx (yf "place_count" (.int (plN rows:Nat)) fs2)):=za;have x4:SX f H (upd H3 f (.ins CF dx (yf "place_count" (.int (plN rows:Nat)) fs2))):=x3.upd;have e4:upd H3 f (.ins CF dx (yf "place_count" (.int (plN rows:Nat)) fs2)) l1=some (.lst (ps.map V.ref)):=by rw[zi (wl e2 f2 (by intro z;cases z))];exact s3 _ _ e2
 have g4:upd H3 f (.ins CF dx (yf "place_count" (.int (plN rows:Nat)) fs2)) l2=some (.lst (bars.map V.str)):=by rw[zi (wl g2 f2 (by intro z;cases z))];exact s3 _ _ g2
 have p3:=vp "place_count" (.int (plN rows:Nat)) fs2;have r3:(yf "place_count" (.int (plN rows:Nat)) fs2).lookup ("row" : Str)=some (.ref l1):=by rw[zw,aJ (by decide +kernel)];exact r2
 show jj _ _ _ _ (upd H3 f (.ins CF dx (yf "place_count" (.int (plN rows:Nat)) fs2)));generalize hfs3:yf "place_count" (.int (plN rows:Nat)) fs2=fs3 at f3 x4 e4 g4 p3 r3 |-;generalize upd H3 f (.ins CF dx fs3)=H4 at x4 f3 e4 g4 |-;exists _,rfl,f,CF,dx,_,_,rfl,f3,FK.cl,FK.n1,r3,l1,ps,rows,2,rfl,⋯,e4,u5 hf nw x4 hp,hok,fun H5 s5=>?_
 exists _,rfl,f,CF,dx,_,rfl,s5 _ _ f3,FK.cl,FK.n4,∅,?_
 have f5:upd H5 f (.ins CF dx (yf "tail_number" (wn (zQ 2 0 rows)) fs3)) f=some (.ins CF dx (yf "tail_number" (wn (zQ 2 0 rows)) fs3)):=za;have x5:SX f H (upd H5 f (.ins CF dx (yf "tail_number" (wn (zQ 2 0 rows)) fs3))):=(x4.same s5).upd;have e5:upd H5 f (.ins CF dx (yf "tail_number" (wn (zQ 2 0 rows)) fs3)) l1=some (.lst (ps.map V.ref)):=by rw[zi (wl e4 f3 (by intro z;cases z))];exact s5 _ _ e4
 have g5:upd H5 f (.ins CF dx (yf "tail_number" (wn (zQ 2 0 rows)) fs3)) l2=some (.lst (bars.map V.str)):=by rw[zi (wl g4 f3 (by intro z;cases z))];exact s5 _ _ g4
 have p4:=vp "tail_number" (wn (zQ 2 0 rows)) fs3;have r4:(yf "tail_number" (wn (zQ 2 0 rows)) fs3).lookup ("row" : Str)=some (.ref l1):=by rw[zw,aJ (by decide +kernel)];exact r3
 show jj _ _ _ _ (upd H5 f (.ins CF dx (yf "tail_number" (wn (zQ 2 0 rows)) fs3)));generalize hfs4:yf "tail_number" (wn (zQ 2 0 rows)) fs3=fs4 at f5 x5 e5 g5 p4 r4 |-;generalize upd H5 f (.ins CF dx fs4)=H6 at x5 f5 e5 g5 |-;exists _,rfl,f,CF,dx,_,_,rfl,f5,FK.cl,FK.n1,r4,l1,ps,rows,4,rfl,⋯,e5,u5 hf nw x5 hp,hok,fun H7 s7=>?_
 exists _,rfl,f,CF,dx,_,rfl,s7 _ _ f5,FK.cl,FK.n5,∅,?_
 have f7:upd H7 f (.ins CF dx (yf "bag_number" (wn (zQ 4 0 rows)) fs4)) f=some (.ins CF dx (yf "bag_number" (wn (zQ 4 0 rows)) fs4)):=za;have x7:SX f H (upd H7 f (.ins CF dx (yf "bag_number" (wn (zQ 4 0 rows)) fs4))):=(x5.same s7).upd;have e7:upd H7 f (.ins CF dx (yf "bag_number" (wn (zQ 4 0 rows)) fs4)) l1=some (.lst (ps.map V.ref)):=by rw[zi (wl e5 f5 (by intro z;cases z))];exact s7 _ _ e5
 have g7:upd H7 f (.ins CF dx (yf "bag_number" (wn (zQ 4 0 rows)) fs4)) l2=some (.lst (bars.map V.str)):=by rw[zi (wl g5 f5 (by intro z;cases z))];exact s7 _ _ g5
 have p5:=vp "bag_number" (wn (zQ 4 0 rows)) fs4;have r5:(yf "bag_number" (wn (zQ 4 0 rows)) fs4).lookup ("row" : Str)=some (.ref l1):=by rw[zw,aJ (by decide +kernel)];exact r4
 generalize hfs5:yf "bag_number" (wn (zQ 4 0 rows)) fs4=fs5 at f7 x7 e7 g7 p5 r5 |-;generalize upd H7 f (.ins CF dx fs5)=H8 at x7 f7 e7 g7 |-;have hp8:=u5 hf nw x7 hp;exists _,rfl,f,CF,dx,_,_,rfl,f7,FK.cl,FK.n1,r5,l1,rfl,⟨_,zf e7⟩,fun D2 hD2=>?_;refine zjU (K:=K) (xs:=ps.map V.ref) (fun i ys H'=>zq H8 H'/\H' D2=some (.dK ys)/\ys=y8 0 [] (rows.take i)) ⟨zd hD2 _,za,rfl⟩ (fun i ys H' h=>zf (h.1 _ _ e7)) ?_ ?_
 ·rintro i x p ys H' hlt hx ⟨sH,hDy,ey⟩ hpn
  obtain⟨pa,hpa,rfl⟩:=xt hx;obtain⟨r,hr',dx',hdx⟩:=yw hp8 hpa;have rok:=hok r (aH hr');have C:=PP r.k rok.1;have sp:=zd hpn (.tup [.int (i:Nat),.ref pa]);have hd2:=sp _ _ (sH _ _ hdx);have hDp:upd H' p (.tup [.int (i:Nat),.ref pa]) D2=some (.dK ys):=by rw[zi (zj hDy hpn)];exact hDy
  have nl:ys.length<=i:=by
   rw[ey];refine Nat.le_trans (zaY _ _ _) ?_;rw[length_take];show 0+_<=i;omega
  exists p,_,rfl,zy za,rfl,_,_,rfl,_,_,rfl,rfl,?_;exists _,rfl,pa,_,dx',_,rfl,⟨r.k,rok.1,rfl⟩,hd2,u0 (by decide +kernel) (by decide +kernel) (by decide +kernel),pa,dx',_,_,_,_,rfl,C,hd2,_,rfl,?_
  rw[zaT r.k rok.1];have tk:=jI rows 0 i [] hr';exists fun e=>?_,fun e=>?_
  ·rw[e,aK rfl] at tk
   exists _,rfl,pa,_,dx',_,_,rfl,hd2,C.cl,C.nN,v0,_,rfl,dcN.mk (.inr r.z) hlt rfl (z9 (by rw[aA,hp.length];omega)) hDp nl ⟨fun b u e=>?_,za,?_⟩
   ·rw[zi (zj e hD2)]
    exact sp _ _ (sH b u e)
   ·rw[tk,<- ey,Nat.zero_add]
  ·rw[e,aJ zft] at tk
   exact dcS.mk hlt ⟨sH.trans sp,hDp,by rw[ey,tk]⟩
 rintro ys H9 ⟨s9,hDy,ey⟩;rw[aA,hp.length,take_length] at ey;exists _,rfl,f,CF,dx,_,rfl,s9 _ _ f7,FK.cl,FK.n6,∅,?_
 have nf:∀{x:Addr}{o:HO},H9 x=some o->(∀C d g,o≠.ins C d g)->upd H9 f (.ins CF dx (yf "doors" (.ref D2) fs5)) x=some o:=fun {x o} e n=>by
  rw[zi (wl e (s9 _ _ f7) (by intro z;exact n _ _ _ z))]
  exact e
 refine q _ (x7.same s9).upd ⟨dx,_,l1,l2,D2,ps,za,?_,nf (s9 _ _ e7) (by intro _ _ _ z;cases z),u5 hf nw (x7.same s9).upd hp,nf (s9 _ _ g7) (by intro _ _ _ z;cases z),nf (by rw[hDy,ey]) (by intro _ _ _ z;cases z),hl1,hlb⟩ ⟨dx,_,za,Nat.le_trans (vp _ _ _) ∅⟩
 rw[<- hfs5,<- hfs4,<- hfs3,<- hfs2];exists ?_,?_,?_,?_,?_,?_,fun mm hm=>?_
 ·rw[zw,aJ (by decide +kernel),zw,aJ (by decide +kernel),zw,aJ (by decide +kernel),zw,aJ (by decide +kernel),zw,aJ (by decide +kernel),zw,aK rfl]
 ·rw[zw,aJ (by decide +kernel),zw,aJ (by decide +kernel),zw,aJ (by decide +kernel),zw,aJ (by decide +kernel),zw,aK rfl]
 ·rw[zw,aJ (by decide +kernel),zw,aJ (by decide +kernel),zw,aJ (by decide +kernel),zw,aK rfl]
 ·rw[zw,aJ (by decide +kernel),zw,aJ (by decide +kernel),zw,aK rfl]
 ·rw[zw,aJ (by decide +kernel),zw,aK rfl]
 ·rw[zw,aK rfl]
 ·have h':∀a∈zix,¬mm=a:=fun a ha e=>hm (e ▸ ha)
  rw[zw,aJ (h' _ (by decide +kernel)),zw,aJ (h' _ (by decide +kernel)),zw,aJ (h' _ (by decide +kernel)),zw,aJ (h' _ (by decide +kernel)),zw,aJ (h' _ (by decide +kernel)),zw,aJ (h' _ (by decide +kernel))]
  exact pn mm hm
inductive zmd(c:C5)(CF:Addr)(vs:List V)(H:Hp)(Q:VK)(E:XK):Prop|mk(f a dx:Addr)(bv:V)(ps:List Addr)(rows:List Rw)(bars:List Str):vs=[.ref f,.ref a,bv]->H f=some (.ins CF dx [])->H a=some (.lst (ps.map V.ref))->Paired (PAt c H) ps rows->((bv=.non/\bars=[])\/∃b,bv=.ref b/\H b=some (.lst (bars.map V.str)))->jL rows bars->(∀H',SX f H H'->zc2 c CF H H' f rows bars->(∃dx' fs',H' f=some (.ins CF dx' fs')/\fs'.length<=6)->Q .non H')->zmd c CF vs H Q E
inductive zba(c:C5)(CF:Addr)(vs:List V)(H:Hp)(Q:VK)(E:XK):Prop|mk(f:Addr)(rows:List Rw)(bars:List Str):vs=[.ref f]->xX c CF H f rows bars->(∀(l:Addr) (ps:List Addr) (H':Hp),zq H H'->H l=none->H' l=some (.lst (ps.map V.ref))->Paired (PAt c H') ps rows->Q (.ref l) H')->zba c CF vs H Q E
inductive zbe(c:C5)(CF:Addr)(vs:List V)(H:Hp)(Q:VK)(E:XK):Prop|mk(f:Addr)(rows:List Rw)(bars:List Str):vs=[.ref f]->xX c CF H f rows bars->(∀(l:Addr) (H':Hp),zq H H'->H l=none->H' l=some (.lst (bars.map V.str))->Q (.ref l) H')->zbe c CF vs H Q E
inductive wu(c:C5)(CF:Addr)(vs:List V)(H:Hp)(Q:VK)(E:XK):Prop|mk(f:Addr)(rows:List Rw)(bars:List Str):vs=[.ref f]->xX c CF H f rows bars->(Q (.int (plN rows:Nat)) H)->wu c CF vs H Q E
inductive vm(c:C5)(CF:Addr)(kk:Nat)(vs:List V)(H:Hp)(Q:VK)(E:XK):Prop|mk(f:Addr)(rows:List Rw)(bars:List Str):vs=[.ref f]->xX c CF H f rows bars->(Q (wn (zQ kk 0 rows)) H)->vm c CF kk vs H Q E
inductive zgv(c:C5)(CF:Addr)(vs:List V)(H:Hp)(Q:VK)(E:XK):Prop|mk(f:Addr)(z:Str)(rows:List Rw)(bars:List Str):vs=[.ref f,.str z]->xX c CF H f rows bars->(Q ((yd (y8 0 [] rows) (.inr z)).getD .non) H)->zgv c CF vs H Q E
def TAt(H:Hp)(u:Addr)(r:Rw):Prop:=H u=some (.tup (rv r))
theorem zr(s:zq H H')(h:Paired (TAt H) us rows):Paired (TAt H') us rows:=zO (fun _ _ z=>s _ _ z) h
theorem zez:zA ["self","parameters","bars","names"] ["self","parameters","bars"] (zh zdq):=fsc
theorem zhN(F:zau K "__init__" "Form.__init__" zdq f fd ds)(FK:FC K CF)(mK:xv K CF "keep" g5)
  (cM:⇑1 "refuse_too_many" g1 e1 ["parameters","bars"] (zgw K)) (cO:⇑1 "refuse_bad_order" g2 e2 ["parameters"] (zkf c)) (cB':⇑2 "refuse_bars_without_name" g3 e3 ["bars"] zma) (cT:⇑2 "refuse_twice" g4 e4 ["parameters","bars"] (zl9 c))
  (GK:↥2 g5 e5 ["self","parameters","bars"] (zgz c CF)) (bK:yc K e5 ["self","parameters","bars"] []):↥3 f fd ["self","parameters","bars"] (zmd c CF):=by
 refine F.ok zez (fun vs H Q E h=>?_) (fun cdv A outer s H vs Q E hr h=>?_)
 ·obtain⟨f,a,dx,bv,ps,rows,bars,rfl,_⟩:=h
  rfl
 obtain⟨f,a,dx,bv,ps,rows,bars,rfl,hf,ha,hp,hb,V',q⟩:=h;have hr1:yk 1 _:=hr.mono ⋯
 refine⟨_,zu (zx (i:=3) zez.nd rfl (Or.inl rfl) (qE (wb (vz (pv 2))) (zT zc) (pv 2)))
  (zu (zZ (cF cM hr1 (ac (pv 1) (ac (pv 3) zc))))
  (zu (zZ (cF cO hr1 (ac (pv 1) zc)))
  (zu (zZ (cF cB' hr (ac (pv 3) zc)))
  (zu (zZ (cF cT hr (ac (pv 1) (ac (pv 3) zc))))
  (zg (zZ (zeE (pv 0) FK.cl mK GK hr bK .nil yt (ac (pv 1) (ac (pv 3) zc))))))))),?_⟩
 try dsimp only
 refine yo (fun σ' H'=>∃b,σ'=[~~~f,~~~a,some bv,~~~b]/\zq H H'/\H' b=some (.lst (bars.map V.str))) ?_ (fun key=>?_);rotate_left
 ·rcases hb with ⟨rfl,rfl⟩|⟨b,rfl,hb⟩
  ·exists _,rfl,_,rfl,?_
   refine dT rfl ?_;exists wN,fun l hl=>?_;exact key _ _ ⟨l,rfl,zd hl _,za⟩
  ·exists _,rfl,_,rfl,?_
   refine dF (by intro z;cases z) ?_
   exact⟨_,rfl,key _ _ ⟨b,rfl,zq.refl _,hb⟩⟩
 rintro σ1 H1 ⟨b,rfl,s1,hb1⟩;have ha1:=s1 _ _ ha;exists _,rfl,_,rfl,a,b,_,_,rfl,zf ha1,zf hb1,(by rw[aA,hp.length];exact V'.l24),(by rw[aA];exact V'.l60),?_
 exists _,rfl,a,ps,rows,rfl,ha1,yM s1 hp,V'.ok,V'.ord,fun H2 s2=>?_;exists _,rfl,b,bars,rfl,s2 _ _ hb1,V'.bn,fun H3 s3=>?_;have s13:=s1.trans (s2.trans s3);exists _,rfl,_,rfl,a,b,ps,rows,bars,rfl,s13 _ _ ha,yM s13 hp,V'.ok,Nat.le_trans V'.l24 ⋯,s3 _ _ (s2 _ _ hb1),Nat.le_trans V'.l60 ⋯,V'.nd,fun H4 s4=>?_
 have s14:=s13.trans s4;exists _,rfl,f,dx,_,rfl,s14 _ _ hf,rfl,_,rfl,_,rfl,f,a,b,dx,[],ps,rows,bars,rfl,s14 _ _ hf,⟨⋯,fun _ _=>rfl⟩,s14 _ _ ha,yM s14 hp,V'.ok,Nat.le_trans V'.l24 ⋯,s4 _ _ (s3 _ _ (s2 _ _ hb1)),fun H5 x5 F5 L5=>?_
 exact q _ (fun b' u e n=>x5 b' u (s14 _ _ e) n) (F5.of s14) L5
theorem ziZ:zA ["self"] ["self"] (zh zdp):=fsc
theorem zhM(F:Fun K "parameters" "Form.parameters" zdp f fd)(T:zc0 w K mg G sg)(FK:FC K CF):↥1 f fd ["self"] (zba c CF):=by
 specialize ziZ;obtain⟨f,rows,bars,rfl,⟨dx,fs,lr,lb,ld,ps,h1,h2,h3,h4,h5,h6⟩,q⟩:=h;exists _,zg (zB (cTy y9 T.lst PyProof.Rows.boot_list (ac (xi (pv 0) rfl) zc))),?_;exists _,rfl,f,CF,dx,_,_,rfl,h1,FK.cl,FK.n1,h2.row,lr,_,rfl,.inl (zf h3),fun l hl=>?_;have s1:=zd hl (.lst (ps.map V.ref));exact q l ps _ s1 hl za (yM s1 h4)
theorem zi0:zA ["self"] ["self"] (zh zdr):=fsc
theorem zhO(F:Fun K "bars" "Form.bars" zdr f fd)(T:zc0 w K mg G sg)(FK:FC K CF):↥1 f fd ["self"] (zbe c CF):=by
 specialize zi0;obtain⟨f,rows,bars,rfl,⟨dx,fs,lr,lb,ld,ps,h1,h2,h3,h4,h5,h6⟩,q⟩:=h;exists _,zg (zB (cTy y9 T.lst PyProof.Rows.boot_list (ac (xi (pv 0) rfl) zc))),?_;exists _,rfl,f,CF,dx,_,_,rfl,h1,FK.cl,FK.n2,h2.bn,lb,_,rfl,.inl (zf h5),fun l hl=>?_;exact q l _ (zd hl _) hl za
theorem zfm:zA ["self"] ["self"] (zh qv):=fsc
theorem zdF(F:Fun K "places" "Form.places" qv f fd)(FK:FC K CF):↥1 f fd ["self"] (wu c CF):=by
 specialize zfm;obtain⟨f,rows,bars,rfl,⟨dx,fs,lr,lb,ld,ps,h1,h2,h3,h4,h5,h6⟩,q⟩:=h;exact⟨_,zg (zB (xi (pv 0) rfl)),_,rfl,f,CF,dx,_,_,rfl,h1,FK.cl,FK.n3,h2.pc,q⟩
theorem ziY:zA ["self"] ["self"] (zh zdo):=fsc
theorem zhK(F:Fun K "tail" "Form.tail" zdo f fd)(FK:FC K CF):↥1 f fd ["self"] (vm c CF 2):=by
 specialize ziY;obtain⟨f,rows,bars,rfl,⟨dx,fs,lr,lb,ld,ps,h1,h2,h3,h4,h5,h6⟩,q⟩:=h;exact⟨_,zg (zB (xi (pv 0) rfl)),_,rfl,f,CF,dx,_,_,rfl,h1,FK.cl,FK.n4,h2.tn,q⟩
theorem zkV:zA ["self"] ["self"] (zh zg4):=fsc
theorem zjz(F:Fun K "bag" "Form.bag" zg4 f fd)(FK:FC K CF):↥1 f fd ["self"] (vm c CF 4):=by
 specialize zkV;obtain⟨f,rows,bars,rfl,⟨dx,fs,lr,lb,ld,ps,h1,h2,h3,h4,h5,h6⟩,q⟩:=h;exact⟨_,zg (zB (xi (pv 0) rfl)),_,rfl,f,CF,dx,_,_,rfl,h1,FK.cl,FK.n5,h2.bg,q⟩
theorem zkU:zA ["self","name"] ["self","name"] (zh zg3):=fsc
theorem zjx(F:Fun K "number_of" "Form.number_of" zg3 f fd)(FK:FC K CF):↥1 f fd ["self","name"] (zgv c CF):=by
 specialize zkU;obtain⟨f,z,rows,bars,rfl,⟨dx,fs,lr,lb,ld,ps,h1,h2,h3,h4,h5,h6⟩,q⟩:=h;exists _,zg (zB (zhl (zeV hr) (xi (pv 0) rfl) (pv 1) ⟨rfl,rfl,rfl,rfl⟩)),?_;exists _,rfl,f,CF,dx,_,_,rfl,h1,FK.cl,FK.n6,h2.dr,ld,rfl,?_,_,rfl,_,.inl ⟨_,.inr z,.inl h6,rfl,rfl⟩,q;exact .inl ⟨_,.inl h6⟩
end
end K84
namespace L2
open PySem PySem.Spec PyProof.Rows
section
variable {H:Hp}
theorem Inv.freeze(I:Inv X pins σ H s)(hl:H l=some (.dK kvs)):∃o,s.heap.get? l=some o/\Inv X pins σ (upd H l (.frz o (.dK kvs))) s:=by
 obtain⟨hz,hy,vs,r,o,es,ep,ho,c⟩:=id (I.hok l _ hl);exists o,ho,⟨I.ok,I.os,I.bare,⟨I.base.keep,I.base.slot,fun b u e n x=>?_,I.base.there,fun b xs e=>?_,fun b u v e=>?_,fun b ps e=>?_⟩,I.loc,I.cell,?_,fun x c e=>?_,fun p hp'=>?_,fun b u e=>?_,I.len⟩
 ·have e1:=I.base.free b u e n x
  rw[zi (zj hl e1).symm];exact e1
 ·have e1:=I.base.tups b xs e
  rw[zi (wl e1 hl (by intro z;cases z))];exact e1
 ·have e1:=I.base.frzs b u v e
  rw[zi (wl e1 hl (by intro z;cases z))];exact e1
 ·obtain⟨more,e1⟩:=I.base.tbls b ps e
  exact⟨more,by rw[zi (wl e1 hl (by intro z;cases z))];exact e1⟩
 ·rw[zi (zj hl I.free).symm];exact I.free
 ·rw[zi (zj hl (I.freeC x c e)).symm];exact I.freeC x c e
 ·obtain⟨q1,q2,q3⟩:=I.pin p hp'
  exact⟨q1,by rw[zi (zj hl q2).symm];exact q2,q3⟩
 ·have ho':∀c,∀b,H b=some (.own c)->upd H l (.frz o (.dK kvs)) b=some (.own c):=fun c b q=>by rw[zi (wl q hl (by intro z;cases z))];exact q
  have ht':∀b xs,H b=some (.tup xs)->upd H l (.frz o (.dK kvs)) b=some (.tup xs):=fun b xs q=>by rw[zi (wl q hl (by intro z;cases z))];exact q
  by_cases hb:b=l
  ·subst hb;rw[za] at e;cases e
   exact⟨ho,(I.hok b _ hl).stay (fun _ _ _ q=>q) (ho' b) ht'⟩
  ·rw[zi hb] at e
   exact(I.hok b u e).stay (fun _ _ _ q=>q) (ho' b) ht'
inductive zncJ(Q:VK)(x:V)(H1:Hp):Prop|mk(l kvs:_):x=.ref l->H1 l=some (.dK kvs)->(∀o,Q x (upd H1 l (.frz o (.dK kvs))))->zncJ Q x H1
def znc(te:TE):TE:=fun σ H Q=>te σ H fun x H1=>zncJ Q x H1
theorem zli{te:TE}(h:PE X e te):PE X e (znc te):=by
 exists ?_;intro pins s σ H Q I hw;refine thn (h pins s σ H _ I hw) fun v s1 ⟨x,H1,I1,r1,l,kvs,ex,hl,q⟩=>?_;obtain⟨o,_,I2⟩:=I1.freeze hl;exact⟨x,_,I2,r1,q o⟩
theorem zi7(h:qU k u=true):z5 (kV k) u:=by
 rcases yK h with ⟨i,t,rfl,rfl⟩|⟨x,t,rfl,rfl⟩
 ·exact⟨t,rfl⟩
 ·exact⟨t,rfl⟩
def Itd(d:Addr)(o:Obj)(kvs:List (Key×V)):It:=
 ⟨fun i H=>H d=some (.frz o (.dK kvs))/\i<kvs.length,fun i H x H'=>∃p k v,x=.ref p/\H p=none/\kvs[i]?=some (k,v)/\H'=upd H p (.tup [kV k,v]),fun i H=>H d=some (.frz o (.dK kvs))/\kvs.length<=i⟩
theorem zie{ep:Nat}(I:Inv X pins σ H s)(hd:H d=some (.frz o (.dK kvs)))(ho:o.data=.dict es ep):
  (d==sysModules)=false/\∃vs,KV kvs vs/\s.heap.DictAt (yx X.prog X.w) d vs ep:=by
 obtain⟨e,hz,hy,vs,r,o',es',ep',ho',c1,c2,c3⟩:=id (I.hok d _ hd);rw[e] at ho';cases ho';rw[ho] at c2;cases c2;exact⟨hy,vs,r,o,es,e,c1,ho,c3⟩
theorem uo:entryFor table "dict_itemiterator.__iter__"=some Builtin.«dict_keyiterator.__iter__»:=entryFor_alias (id':="dict_keyiterator.__iter__") (by kernel_rfl) (by first|rfl|decide +kernel|(unfold String.splitOn;simp +decide [String.splitOnAux])) (by decide +kernel) (by kernel_rfl)
theorem vI{E:VSP}{i n ep:Nat}{Q:VSP}(he:IsItemIter s.heap it d i n ep ok ov)(h:Q (.ref it) s):wpAny (model P w) A (pyIter (.ref it)) Q E s:=by
 have hT:s.TypeIs (.ref it) "dict_itemiterator":=⟨_,he,rfl⟩;refine wpAny_pyIter_slot hT F.slot_dict_itemiterator_iter (wpAny_call_entry F.slot_dict_itemiterator_iter hT uo ?_ (F.args_dict_itemiterator_iter_1 _));show wpAny _ _ (ret (.ref it)) _ _ s;exact zwp ⟨_,rfl,"dict_itemiterator",_,hT,F.slot_dict_itemiterator_next.lookup,h⟩
theorem zc6{P:Program}{w:World}{K:Frag}{elts:List Expr}{x1:Nat}{tpos:Pos}(d it:Addr)(o:Obj)(kvs:List (Key×V))(es:Array DictEntry)(ep:Nat)(ho:o.data=.dict es ep):
  zar P w K (.Tuple elts x1 tpos) (Itd d o kvs) [it] it (fun i h=>∃ok ov,IsItemIter h it d i kvs.length ep ok ov) where
 mem:=by simp
 obj:=fun i h st b hb=>by
  have e':b=it:=by simpa using hb
  subst e';obtain⟨ok,ov,hi⟩:=st;exact⟨_,hi,fun v q=>by cases q⟩
 keep:=fun i h h' st k=>by
  obtain⟨ok,ov,hi⟩:=st;exact⟨ok,ov,k it (by simp) _ hi⟩
 item:=by
  intro X hP hw hK hc i pins s σ H E I hf st hg;subst hP hw hK;obtain⟨f0,f1,f2,f3,f4,f5⟩:=hf it (by simp)
  obtain⟨ok,ov,hit⟩:=st;obtain⟨hd,hlt⟩:=hg;obtain⟨hy,vs,r,hm⟩:=zie I hd ho;have hl:kvs.length=vs.length:=r.length;obtain⟨⟨k2,u⟩,hu,ek,ru⟩:=Paired.get r (aB hlt);rw[hl] at hit;obtain⟨k,v,hkv⟩:∃k v,kvs[i]=(k,v):=⟨_,_,rfl⟩;have ek:k=k2:=by rw[hkv] at ek;exact ek
  have ru2:z5 v u:=by rw[hkv] at ru;exact ru
  subst ek;refine wpAny_pyNext_items_item hit hm hu fun key h' hk2 he' htup hsz hkp=>?_;have rk:z5 (kV k) key:=zi7 hk2;have I0:Inv X pins σ H { s with heap:=h' }:=I.turned (t':=s.toks) (it:=it) hkp f0 f1 f3 f4 f5
  have hfr:H s.heap.objs.size=none:=I.hok.fresh (aF _);have I1:Inv X pins σ (upd H s.heap.objs.size (.tup [kV k,v])) { s with heap:=h' }:=by
   have hok:HOk X.prog X.w (upd H s.heap.objs.size (.tup [kV k,v])) h':=fun b o q=>by
    by_cases hb:b=s.heap.objs.size
    ·subst hb
     rw[za] at q;cases q;exact⟨by show 2<=sizeLine;decide,[key,u],.cons rk (.cons ru2 .nil),⟨_,htup,rfl,_,rfl⟩⟩
    ·rw[zi hb] at q
     exact(I0.hok b o q).stay (fun _ _ _ z=>z) (fun c z=>by rw[zi (zj z hfr)];exact z) fun c xs' z=>by rw[zi (zj z hfr)];exact z
   refine I0.step (s:={ s with heap:=h' }) (g':=s.gens) (d':=s.drawn) (h':=h') (t':=s.toks) (ch:=[s.heap.objs.size]) (fun b hb=>?_) (fun b o _ _ _ e1 _=>e1) (fun b o _ _ _ e1 _=>⟨o.slots,e1⟩) (fun b o hb e1 n=>by rw[zi (fun z=>hb (by simp [z]))];exact n)
    (fun b o _ e1=>⟨o,e1⟩) (fun b xs' e1=>by rw[zi (zj e1 hfr)];exact e1) (fun b o' u' e1=>by rw[zi (zj e1 hfr)];exact e1) (fun b ps e1=>⟨#[],by rw[zi (zj e1 hfr),e1];simp⟩) (fun m hm=>hm) hok I0.bare
   have e':b=s.heap.objs.size:=by simpa using hb
   subst e';exists .inr I.sz,fun z=>?_,fun y c h z=>?_,fun p hp' z=>?_
   ·have:=I.lt;rw[<- z] at this;exact absurd this (lt_irrefl _)
   ·obtain⟨v',hv⟩:=I.cell y c h
    have:=hv.lt;rw[z] at this;exact absurd this (lt_irrefl _)
   ·have:=I.pin_lt hp';rw[z] at this;exact absurd this (lt_irrefl _)
  exists _,rfl,wpAny_letOwnedTupleGo_items he' fun h2 he2 hs2=>?_;have nis:s.heap.objs.size≠it:=fun z=>by
   have:=aI (show s.heap.get? it=some _ from hit)
   rw[<- z] at this;exact absurd this (lt_irrefl _)
  have I2:Inv X pins σ (upd H s.heap.objs.size (.tup [kV k,v])) { s with heap:=h2 }:=
   I1.turned (s:={ s with heap:=h' }) (t':=s.toks) (it:=it) (fun b o hb q=>(hs2.2 b hb).trans q) (by rw[zi nis.symm];exact f0) f1 f3 f4 f5
  exists .ref s.heap.objs.size,_,I2,rfl,⟨_,k,v,rfl,hfr,by rw[aB hlt,hkv],rfl⟩,⟨_,_,by rw[hl];exact he2⟩,fun b hb=>?_
  have e':b=it:=by simpa using hb
  subst e';rw[zi nis.symm];exact f0
 done:=by
  intro X hP hw hK hc i pins s σ H E I hf st hg;subst hP hw hK;obtain⟨ok,ov,hit⟩:=st;obtain⟨f0,f1,f2,f3,f4,f5⟩:=hf it (by simp)
  obtain⟨hd,hle⟩:=hg;obtain⟨hy,vs,r,hm⟩:=zie I hd ho;have hl:kvs.length=vs.length:=r.length;rw[hl] at hit;exact wpAny_pyNext_items_end (I.ok.hd hc) hit hm (getElem?_eq_none ∅) fun h' eb=>⟨rfl,I.turned (t':=s.toks) (fun b o hb e1=>eb b o hb e1) f0 f1 f3 f4 f5⟩
 self:=fun A i s Q E st h=>by
  obtain⟨ok,ov,hit⟩:=st;exact vI hit h
variable {x1:Nat}
inductive zlIJ(R:It->Hp->Prop)(x:V)(H1:Hp):Prop|mk(d o kvs:_):x=.ref d->H1 d=some (.frz o (.dK kvs))->(R (Itd d o kvs) H1)->zlIJ R x H1
def zlI(te:TE):TI:=fun σ H R=>te σ H fun x H1=>zlIJ R x H1
theorem zhi{te:TE}(hl:PE X l te)(hbase:attributeBase l "items" X.env (eval l X.env)=eval l X.env:=by rfl)(hline:(apos.endLine==cpos.line)=true:=by rfl):
  PI X (.Tuple elts x1 tpos) (.Call (.Attribute l "items" apos) [] [] cpos) (zlI te):=by
 exists ?_;intro pins s σ H R I h;refine wpAny_Call_method0_late hbase hline (thn (hl pins s σ H _ I h) fun v s1 ⟨x,H1,I1,r1,d,o,kvs,ex,hd,q⟩=>?_);subst ex;cases r1;obtain⟨e,hz,hy,vs,r,o',es,ep,ho',c1,c2,c3⟩:=id (I1.hok d _ hd);rw[e] at ho';cases ho';have hm:s1.heap.DictAt (yx X.prog X.w) d vs ep:=⟨o,es,e,c1,c2,c3⟩;exists "dict","dict.items",F.plainAttrs_dict,F.slot_dict_items,F.type_dict_items,⟨o,e,c1.1⟩,fun a ea=>by cases ea;exact⟨o,e,c1.2.1⟩,Calls.callWith_builtin rfl (PySem.evalArgs_none ?_)
 refine call_meetsIn F.slot_dict_items ⟨o,e,c1.1⟩ F.entry_dict_items (F.args_dict_items_1 _) (meets_dict_items (yx X.prog X.w) d hy) ⟨⟨vs,hm.dictOf⟩,?_⟩;show wpAny _ _ (pyIter (.ref s1.heap.objs.size)) _ _ _;have hl:kvs.length=vs.length:=r.length;refine wpAny_pyIter_items (knd:=yx X.prog X.w) (d:=d) (kvs:=vs) (ep:=ep) ⟨_,zgs _ rfl,rfl,rfl⟩ (hm.push _) ?_;have hk:∀b ob,s1.heap.get? b=some ob->((s1.heap.push { cls:=.type "dict_items",data:=.fields #[.ref d] }).push { cls:=.type "dict_itemiterator",data:=.fields #[.none,.bool false,.ref d,.int 0 0,.int vs.length 0,.int ep 0,.none,.none] }).get? b=some ob:=fun b ob q=>zgp _ (zgp _ q);have I2:=I1.kept (t':=s1.toks) hk;have hsz:(s1.heap.push { cls:=.type "dict_items",data:=.fields #[.ref d] }).objs.size=s1.heap.objs.size+1:=Heap.size_push ..;exists (s1.heap.push { cls:=.type "dict_items",data:=.fields #[.ref d] }).objs.size,[(s1.heap.push { cls:=.type "dict_items",data:=.fields #[.ref d] }).objs.size],_,Itd d o kvs,H1,rfl,I2,zc6 d _ o kvs es ep c2,⟨.none,.none,?_⟩,fun b hb=>?_,q
 ·rw[hl]
  exact zgs (s1.heap.push { cls:=.type "dict_items",data:=.fields #[.ref d] }) (o:={ cls:=.type "dict_itemiterator",data:=.fields #[.none,.bool false,.ref d,.int 0 0,.int vs.length 0,.int ep 0,.none,.none] }) rfl
 ·have e':b=(s1.heap.push { cls:=.type "dict_items",data:=.fields #[.ref d] }).objs.size:=by simpa using hb
  subst e';rw[hsz];exact I1.fpOk (le_succ _) (I1.hok.fresh (le_succ _))
theorem zf1{d:Addr}{o:Obj}{kvs:List (Key×V)}{g:TG}{tb:TS}{D:jQ}{σ : St}{H:Hp}(Pv:Nat->St->Hp->Prop)(h0:Pv 0 σ H)(hl:∀i σ H,i<=kvs.length->Pv i σ H->H d=some (.frz o (.dK kvs)))
  (hs:∀i k v p σ H,kvs[i]?=some (k,v)->Pv i σ H->H p=none->g (.ref p) σ (upd H p (.tup [kV k,v])) fun σ2 H2=>tb { D with nx:=Pv (i+1),ct:=Pv (i+1),bk:=D.nx } σ2 H2) (hd:∀σ H,Pv kvs.length σ H->D.nx σ H) :
  ∃W:Nat->Nat->St->Hp->Prop,(∃m,W 0 m σ H)/\∀i m σ H,W i m σ H->
   ((Itd d o kvs).stop i H/\D.nx σ H)\/((Itd d o kvs).go i H/\∃N:St->Hp->Prop,(∀σ' H',N σ' H'->∃m',m'<m/\W (i+1) m' σ' H')/\∀x H',(Itd d o kvs).yld i H x H'->g x σ H' fun σ2 H2=>tb { D with nx:=N,ct:=N,bk:=D.nx } σ2 H2):=by
 exists fun i m σ H=>m=kvs.length - i/\i<=kvs.length/\Pv i σ H,⟨kvs.length,by simp,zero_le _,h0⟩,?_
 rintro i m σ H ⟨rfl,hi,p⟩;have q:=hl i σ H hi p;by_cases hlt:i<kvs.length
 ·refine .inr ⟨⟨q,hlt⟩,Pv (i+1),fun σ' H' p'=>⟨kvs.length - (i+1),∅,rfl,hlt,p'⟩,fun x H' y=>?_⟩
  obtain⟨pp,k,v,rfl,hp,y2,rfl⟩:=y;exact hs i k v pp σ H y2 p hp
 ·have e:i=kvs.length:=by omega
  subst e;exact .inl ⟨⟨q,aF _⟩,hd σ H p⟩
theorem znk(I:Inv X pins σ H s)(ha:SqT X.K H a xs)(hb:SqT X.K H b ys)(fx:xs.all x9=true)(fy:ys.all x9=true)(hu:A.units+8<cLine):
  SeqAt.RcAt A s (.ref a) (.ref b) (eqT xs ys):=by
 obtain⟨ia,va,pa,_⟩:=I.tuple ha;obtain⟨ib,vb,pb,_⟩:=I.tuple hb;have la:ia.toArray.size=xs.length:=by rw[size_toArray];exact va.length.symm
 have lb:ib.toArray.size=ys.length:=by rw[size_toArray];exact vb.length.symm
 have:=SeqAt.RcAt.tuples (A:=A) (s:=s) (e:=fun j=>eqV (xs[j]?.getD .non) (ys[j]?.getD .non)) (show s.heap.IsTuple a ia.toArray from pa) (show s.heap.IsTuple b ib.toArray from pb) ∅ (fun j h1 h2=>by
  have j1:j<ia.length:=by simpa using h1
  have j2:j<ib.length:=by simpa using h2
  have hxl:j<xs.length:=by rw[va.length];exact j1
  have hyl:j<ys.length:=by rw[vb.length];exact j2
  obtain⟨u',e1,e2⟩:=va.get (i:=j) (aB hxl);obtain⟨v',e3,e4⟩:=vb.get (i:=j) (aB hyl);rw[aB j1] at e1;rw[aB j2] at e3;cases e1;cases e3;have q:=zij (A:=A.in1) (s:=s) e2 e4 (List.all_eq_true.mp fx _ (getElem_mem hxl)) (List.all_eq_true.mp fy _ (getElem_mem hyl));simpa [hxl,hyl] using q)
 rw[la,lb] at this;exact this
inductive zldJ(K:Frag)(x:V)(y:V)(H:Hp)(Q:VK):Prop|mk(a c:Addr)(xs ys:List V):x=.ref a->y=.ref c->SqT K H a xs->SqT K H c ys->xs.all x9=true->ys.all x9=true->(Q (.bl (eqT xs ys)) H)->zldJ K x y H Q
def zld(K:Frag):R2:=fun x y H Q=>zldJ K x y H Q
theorem zhs(hu:X.A.units+64<cLine):OpR X (compareOp .Eq) (zld X.K):=by
 intro pins s σ H x y v u Q I rx ry h;obtain⟨a,c,xs,ys,rfl,rfl,ha,hc,fx,fy,q⟩:=h;cases rx;cases ry;exact znk (A:=X.A) I ha hc fx fy ∅ X.prog X.w X.xe _ ⟨.bl _,H,I,rfl,q⟩
end
end L2
namespace K84
open PySem L2 PyProof.Rows
inductive vE where
 | one (t:Int)|row (ts:List Int)|named (n:Str) (t:Int)|book (ps:List (Str×Int))
def wF(p:Str×Int):Dt:=.tup [.str p.1,.int p.2]
def jH:vE->Dt
 | .one t=>.tup [.str "one",.int t]
 | .row ts=>.tup [.str "row",.lst (ts.map .int)]
 | .named n t=>.tup [.str "named",.str n,.int t]
 | .book ps=>.tup [.str "book",.lst (ps.map wF)]
def itT:vE->List Int
 | .one t=>[t]
 | .row ts=>ts
 | _=>[]
def itP:vE->List (Str×Int)
 | .named n t=>[(n,t)]
 | .book ps=>ps
 | _=>[]
def xz(c:List vE):List Int:=(c.map itT).flatten
def xI(c:List vE):List (Str×Int):=(c.map itP).flatten
abbrev T':Addr->Prop:=fun _=>True
def Two(K:Frag)(H H':Hp)(p:Addr)(ts:List Int)(ps:List (Str×Int)):Prop:=
 ∃l1 l2 xs,H l1=none/\H l2=none/\l1≠l2/\H p=none/\H' p=some (.tup [.ref l1,.ref l2])/\H' l1=some (.lst (ts.map V.int))/\H' l2=some (.lst xs)/\Paired (zR K T' H' 1) xs (ps.map wF)
inductive zgy(K:Frag)(vs:List V)(H:Hp)(Q:VK)(E:XK):Prop|mk(a:Addr)(c:List vE)(xs:List V):vs=[.ref a]->SqL K H a xs->Paired (zR K T' H 3) xs (c.map jH)->(xz c).length<=900->(xI c).length<=900->(∀(p:Addr) (H':Hp),zq H H'->Two K H H' p (xz c) (xI c)->Q (.ref p) H')->zgy K vs H Q E
section
variable {mg:Str->Option Value}
variable {ok:Addr->Prop}{n:Nat}
theorem uU{K:Frag}{H:Hp}{x:V}{i:Int}(h:zR K ok H n x (.int i)):x=.int i:=by
 have fl:vH x (.int i)->x=.int i:=fun h=>by
  cases x <;> first|exact h.elim|(have e:=(show _=_ from h);rw[e])
 cases n with
 | zero=>exact fl h
 | succ n=>
  rcases h with h|⟨_,_,_,_,e,_⟩|⟨_,_,_,_,e,_⟩
  ·exact fl h
  ·cases e
  ·cases e
theorem vc{K:Frag}{H:Hp}{x:V}{z:Str}(h:zR K ok H n x (.str z)):x=.str z:=by
 have fl:vH x (.str z)->x=.str z:=fun h=>by
  cases x <;> first|exact h.elim|(have e:=(show _=_ from h);rw[e])
 cases n with
 | zero=>exact fl h
 | succ n=>
  rcases h with h|⟨_,_,_,_,e,_⟩|⟨_,_,_,_,e,_⟩
  ·exact fl h
  ·cases e
  ·cases e
theorem w9{K:Frag}{H:Hp}{x:V}{ds:List Dt}(h:zR K ok H (n+1) x (.tup ds)):∃a xs,x=.ref a/\SqT K H a xs/\Paired (zR K ok H n) xs ds:=by
 rcases h with h|⟨a,xs,ds',e1,e2,e3,r⟩|⟨_,_,_,_,e,_⟩
 ·cases x <;> exact h.elim
 ·cases e2;exact⟨a,xs,e1,e3,r⟩
 ·cases e
theorem zck{K:Frag}{H:Hp}{x:V}{ds:List Dt}(h:zR K ok H (n+1) x (.lst ds)):∃a xs,x=.ref a/\ok a/\H a=some (.lst xs)/\Paired (zR K ok H n) xs ds:=by
 rcases h with h|⟨_,_,_,_,e,_⟩|⟨a,xs,ds',e1,e2,o,e3,r⟩
 ·cases x <;> exact h.elim
 ·cases e
 ·cases e2;exact⟨a,xs,e1,o,e3,r⟩
theorem zaI{K:Frag}{H:Hp}:∀{ts:List Int}{xs:List V},Paired (zR K ok H n) xs (ts.map .int)->xs=ts.map V.int
 | [],_,r=>by cases r;rfl
 | t::ts,_,r=>by
  cases r with
  | cons h r=>rw[uU h,zaI r];rfl
theorem yu{α β : Type}{F : α->β->Prop}:∀{a c:List α}{b d:List β},Paired F a b->Paired F c d->Paired F (a++c) (b++d)
 | _,_,_,_,.nil,s=>s
 | _,_,_,_,.cons r t,s=>.cons r (yu t s)
theorem zh5{K:Frag}{H:Hp}{x:V}{t:Int}(h:zR K ok H 3 x (jH (.one t))):∃a,x=.ref a/\SqT K H a [.str "one",.int t]:=by
 obtain⟨a,xs,rfl,hS,r⟩:=w9 h;cases r with
 | cons h1 r=>cases r with
  | cons h2 r=>cases r;rw[vc h1,uU h2] at hS;exact⟨a,rfl,hS⟩
theorem zh4{K:Frag}{H:Hp}{x:V}{ts:List Int}(h:zR K ok H 3 x (jH (.row ts))):∃a b,x=.ref a/\SqT K H a [.str "row",.ref b]/\ok b/\H b=some (.lst (ts.map V.int)):=by
 obtain⟨a,xs,rfl,hS,r⟩:=w9 h;cases r with
 | cons h1 r=>cases r with
  | cons h2 r=>
   cases r;obtain⟨b,ys,rfl,o,hb,q⟩:=zck h2;rw[vc h1] at hS;rw[zaI q] at hb;exact⟨a,b,rfl,hS,o,hb⟩
theorem zdT{K:Frag}{H:Hp}{x:V}{z:Str}{t:Int}(h:zR K ok H 3 x (jH (.named z t))):∃a,x=.ref a/\SqT K H a [.str "named",.str z,.int t]:=by
 obtain⟨a,xs,rfl,hS,r⟩:=w9 h;cases r with
 | cons h1 r=>cases r with
  | cons h2 r=>cases r with
   | cons h3 r=>cases r;rw[vc h1,vc h2,uU h3] at hS;exact⟨a,rfl,hS⟩
theorem zfW{K:Frag}{H:Hp}{x:V}{ps:List (Str×Int)}(h:zR K ok H 3 x (jH (.book ps))):∃a b ys,x=.ref a/\SqT K H a [.str "book",.ref b]/\ok b/\H b=some (.lst ys)/\Paired (zR K ok H 1) ys (ps.map wF):=by
 obtain⟨a,xs,rfl,hS,r⟩:=w9 h;cases r with
 | cons h1 r=>cases r with
  | cons h2 r=>
   cases r;obtain⟨b,ys,rfl,o,hb,q⟩:=zck h2;rw[vc h1] at hS;exact⟨a,b,ys,rfl,hS,o,hb,q⟩
theorem zdP(c:List vE)(i:Nat)(it:vE)(h:c[i]?=some it):xz (c.take (i+1))=xz (c.take i)++itT it:=by
 unfold xz;rw[take_add_one,h,aE,flatten_append];simp
theorem zdQ(c:List vE)(i:Nat)(it:vE)(h:c[i]?=some it):xI (c.take (i+1))=xI (c.take i)++itP it:=by
 unfold xI;rw[take_add_one,h,aE,flatten_append];simp
theorem zcJ(c:List vE)(i:Nat):(xz (c.take i)).length<=(xz c).length:=by
 unfold xz
 conv=>rhs;rw[<- take_append_drop i c]
 rw[aE,flatten_append,aG];omega
theorem zcK(c:List vE)(i:Nat):(xI (c.take i)).length<=(xI c).length:=by
 unfold xI
 conv=>rhs;rw[<- take_append_drop i c]
 rw[aE,flatten_append,aG];omega
theorem ne1:¬(V.str "row"=V.str "one"):=by decide +kernel
theorem ne2:¬(V.str "named"=V.str "one"):=by decide +kernel
theorem ne3:¬(V.str "book"=V.str "one"):=by decide +kernel
theorem ne4:¬(V.str "named"=V.str "row"):=by decide +kernel
theorem ne5:¬(V.str "book"=V.str "row"):=by decide +kernel
theorem ne6:¬(V.str "book"=V.str "named"):=by decide +kernel
theorem qp:zA ["call","things","pairs","item","word"] ["call"] (zh zgX):=fsc
theorem xm(s:zq H H2)(h:H l=none)(o:HO):zq H (upd H2 l o):=fun b u q=>by rw[zi (zj q h)];exact s b u q
theorem zju{P:Program}{w:World}{K:Frag}{base:Heap}{f:Addr}{fd:FuncData}(F:Fun K "laid" "laid" zgX f fd):↥1 f fd ["call"] (zgy K):=by
 specialize qp;obtain⟨a,c,xs,rfl,hS,hc,hT,hP,q⟩:=h;refine⟨_,zu (zx (i:=1) qp.nd rfl (Or.inl rfl) (zT zc)) (zu (zx (i:=2) qp.nd rfl (Or.inl rfl) (zT zc))
  (zu (yU PassesOwn.never rfl (zM (pv 0)) (zo (i:=3) qp.nd rfl (Or.inl rfl))
   (zu (zx (i:=4) qp.nd rfl (Or.inl rfl) (zC zG (pv 3) ze (fun _ _=>rfl)))
   (zg (zS (zm ym (pv 4) zH (zF _)) (zg (zZ (xw PySem.F.plainAttrs_list PySem.F.slot_list_append PySem.F.type_list_append ya (pv 1) (ac (zC zG (pv 3) ze (fun _ _=>rfl)) zc))))
    (zg (zS (zm ym (pv 4) zH (zF _)) (zg (zZ (xw PySem.F.plainAttrs_list PySem.F.slot_list_extend PySem.F.type_list_extend zaO (pv 1) (ac (zC zG (pv 3) ze (fun _ _=>rfl)) zc))))
     (zg (zS (zm ym (pv 4) zH (zF _)) (zg (zZ (xw PySem.F.plainAttrs_list PySem.F.slot_list_append PySem.F.type_list_append ya (pv 2) (ac (z7 (ac (zC zG (pv 3) ze (fun _ _=>rfl)) (ac (zC zG (pv 3) ze (fun _ _=>rfl)) zc))) zc))))
      (zg (zZ (xw PySem.F.plainAttrs_list PySem.F.slot_list_extend PySem.F.type_list_extend zaO (pv 2) (ac (zC zG (pv 3) ze (fun _ _=>rfl)) zc))))))))))))
  (zg (zB (z7 (ac (pv 1) (ac (pv 2) zc))))))),?_⟩
 exists wN,fun l1 h1=>?_;exists wN,fun l2 h2=>?_;have n12:l1≠l2:=zj za h2;have f2:H l2=none:=(zd h1 _).free h2;have s0:zq H (upd (upd H l1 (.lst [])) l2 (.lst [])):=(zd h1 _).trans (zd h2 _);refine⟨_,rfl,a,rfl,⟨_,s0.seq hS⟩,xf (K:=K) (a:=a) (xs:=xs) (fun i σ H2=>∃v3 v4 ys,σ=[~~~a,~~~l1,~~~l2,v3,v4]/\zq H H2/\H2 l1=some (.lst ((xz (c.take i)).map V.int))/\H2 l2=some (.lst ys)/\Paired (zR K T' H2 1) ys ((xI (c.take i)).map wF))
  ⟨_,_,[],rfl,s0,by rw[zi n12,za];rfl,za,.nil⟩ (fun i σ H2 _ ⟨_,_,_,_,s2,_⟩=>s2.seq hS) ?_ ?_⟩
 ·rintro i y σ H2 hi ⟨v3,v4,ys,rfl,s2,g1,g2,gp⟩
  obtain⟨d,hd,hy⟩:=Paired.get hc hi;obtain⟨it,hit,rfl⟩:∃it,c[i]?=some it/\jH it=d:=by
   rw[getElem?_map] at hd;cases e:c[i]? with
   | none=>rw[e] at hd;cases hd
   | some it=>rw[e] at hd;exact⟨it,rfl,Option.some.inj hd⟩
  have hy2:=hy.same s2;have eT:=zdP c i it hit;have eP:=zdQ c i it hit;have lT:=zcJ c i;have lP:=zcK c i;have lT1:=zcJ c (i+1);have lP1:=zcK c (i+1);have lys:ys.length=(xI (c.take i)).length:=by rw[gp.length,aA]
  have sT:∀{H3:Hp}{o:HO}{l:Addr},H3 l=none\/(∃zs,H3 l=some (.lst zs))->∀{b zs},SqT K H3 b zs->SqT K (upd H3 l o) b zs:=fun {H3 o l} hl {b zs} hz=>by
   rcases hz with (z|⟨u,z⟩)|z
   ·refine .inl (.inl ?_)
    have:b≠l:=fun e=>by
     subst e;rcases hl with e|⟨_,e⟩
     ·rw[e] at z;cases z
     ·rw[e] at z;cases z
    rw[zi this];exact z
   ·refine .inl (.inr ⟨u,?_⟩)
    have:b≠l:=fun e=>by
     subst e;rcases hl with e|⟨_,e⟩
     ·rw[e] at z;cases z
     ·rw[e] at z;cases z
    rw[zi this];exact z
   ·exact .inr z
  have keepP:∀{H3:Hp}{o:HO}{l:Addr}{zs:List V}{ps:List (Str×Int)},H3 l=none\/(∃zs,H3 l=some (.lst zs))->Paired (zR K T' H3 1) zs (ps.map wF)->Paired (zR K T' (upd H3 l o) 1) zs (ps.map wF):=by
   intro H3 o l zs ps hl r;induction ps generalizing zs with
   | nil=>cases r;exact .nil
   | cons p ps ih=>
    cases r with
    | cons h r=>
     refine .cons ?_ (ih r);obtain⟨b,ws,rfl,hS',r'⟩:=w9 h;exact .tup (sT hl hS') (zO (fun _ _ z=>z) r')
  cases it with
  | one t=>
   obtain⟨b,rfl,hb⟩:=zh5 hy2;exists _,rfl,b,_,_,.str "one",rfl,rfl,hb,rfl,?_;exists _,rfl,rfl,_,rfl,?_;refine dT rfl ?_;exists _,rfl,.inl ⟨rfl,_,zf g1⟩,_,rfl,b,_,_,.int t,rfl,rfl,hb,rfl,l1,_,_,rfl,rfl,g1,?_,?_
   ·rw[aA];exact zY ∅
   ·exists _,_,ys,rfl,xm s2 h1 _,?_,?_,?_
    ·rw[za,eT,aE];rfl
    ·rw[zi n12.symm];exact g2
    ·rw[eP];show Paired _ _ ((xI (c.take i)++[]).map wF);rw[append_nil];exact keepP (.inr ⟨_,g1⟩) gp
  | row ts=>
   obtain⟨b,bl,rfl,hb,_,hbl⟩:=zh4 hy2;exists _,rfl,b,_,_,.str "row",rfl,rfl,hb,rfl,?_;exists _,rfl,rfl,_,rfl,?_;refine dF ne1 ?_;exists _,rfl,rfl,_,rfl,?_;refine dT rfl ?_;exists _,rfl,.inl ⟨rfl,_,zf g1⟩,_,rfl,b,_,_,.ref bl,rfl,rfl,hb,rfl,l1,bl,_,_,rfl,rfl,g1,hbl,?_,?_
   ·have e1:(xz (c.take (i+1))).length=(xz (c.take i)).length+ts.length:=by rw[eT,aG];rfl
    rw[aA,aA];exact z9 ∅
   ·exists _,_,ys,rfl,xm s2 h1 _,?_,?_,?_
    ·rw[za,eT,aE];rfl
    ·rw[zi n12.symm];exact g2
    ·rw[eP];show Paired _ _ ((xI (c.take i)++[]).map wF);rw[append_nil];exact keepP (.inr ⟨_,g1⟩) gp
  | named z t=>
   obtain⟨b,rfl,hb⟩:=zdT hy2;exists _,rfl,b,_,_,.str "named",rfl,rfl,hb,rfl,?_;exists _,rfl,rfl,_,rfl,?_;refine dF ne2 ?_;exists _,rfl,rfl,_,rfl,?_;refine dF ne4 ?_;exists _,rfl,rfl,_,rfl,?_;refine dT rfl ?_;exists _,rfl,.inl ⟨rfl,_,zf g2⟩,_,rfl,b,_,_,.str z,rfl,rfl,hb,rfl,_,rfl,b,_,_,.int t,rfl,rfl,hb,rfl,yG,fun p hp=>?_;have np2:l2≠p:=zj g2 hp;have np1:l1≠p:=zj g1 hp;have fp:H p=none:=s2.free hp;exists l2,_,_,rfl,rfl,(by rw[zi np2];exact g2),?_,?_
   ·rw[lys];exact zY ∅
   ·exists _,_,ys++[.ref p],rfl,xm (xm s2 fp _) f2 _,?_,za,?_
    ·rw[zi n12,zi np1,g1,eT];show _=some (HO.lst ((xz (c.take i)++[]).map V.int));rw[append_nil]
    ·rw[eP,aE]
     refine yu (keepP (.inr ⟨_,by rw[zi np2];exact g2⟩) (keepP (.inl hp) gp)) (.cons (.tup (xs:=[.str z,.int t]) (zy ?_) (.cons .str (.cons .int .nil))) .nil)
     rw[zi np2.symm,za]
  | book ps=>
   obtain⟨b,bl,zs,rfl,hb,_,hbl,hz⟩:=zfW hy2;exists _,rfl,b,_,_,.str "book",rfl,rfl,hb,rfl,?_;exists _,rfl,rfl,_,rfl,?_;refine dF ne3 ?_;exists _,rfl,rfl,_,rfl,?_;refine dF ne5 ?_;exists _,rfl,rfl,_,rfl,?_;refine dF ne6 ?_;have lz:zs.length=ps.length:=by rw[hz.length,aA]
   exists _,rfl,.inl ⟨rfl,_,zf g2⟩,_,rfl,b,_,_,.ref bl,rfl,rfl,hb,rfl,l2,bl,_,_,rfl,rfl,g2,hbl,?_,?_
   ·have e1:(xI (c.take (i+1))).length=(xI (c.take i)).length+ps.length:=by rw[eP,aG];rfl
    rw[lys,lz];exact z9 ∅
   ·exists _,_,ys++zs,rfl,xm s2 f2 _,?_,za,?_
    ·rw[zi n12,g1,eT];show _=some (HO.lst ((xz (c.take i)++[]).map V.int));rw[append_nil]
    ·rw[eP,aE]
     exact yu (keepP (.inr ⟨_,g2⟩) gp) (keepP (.inr ⟨_,g2⟩) hz)
 ·rintro σ H2 ⟨v3,v4,ys,rfl,s2,g1,g2,gp⟩
  exists _,rfl,_,rfl,yG,fun p hp=>?_;have hl:xs.length=c.length:=by rw[hc.length,aA]
  rw[hl,take_length] at g1 gp;refine q p _ (s2.trans (zd hp _)) ⟨l1,l2,ys,h1,f2,n12,s2.free hp,za,?_,?_,zO (fun _ _ z=>z.same (zd hp _)) gp⟩
  ·rw[zi (zj g1 hp)];exact g1
  ·rw[zi (zj g2 hp)];exact g2
theorem zho{ps:List (Str×Int)}{i:Nat}{d:Dt}(h:(ps.map wF)[i]?=some d):∃p,ps[i]?=some p/\wF p=d:=by
 rw[getElem?_map] at h;cases e:ps[i]? with
 | none=>rw[e] at h;cases h
 | some it=>rw[e] at h;exact⟨it,rfl,Option.some.inj h⟩
theorem zfy{K:Frag}{ok:Addr->Prop}{H:Hp}{n:Nat}{x:V}{p:Str×Int}(h:zR K ok H (n+1) x (wF p)):∃b,x=.ref b/\SqT K H b [.str p.1,.int p.2]:=by
 obtain⟨a,xs,rfl,hS,r⟩:=w9 h;cases r with
 | cons h1 r=>cases r with
  | cons h2 r=>cases r;rw[vc h1,uU h2] at hS;exact⟨a,rfl,hS⟩
theorem xA{A B:Prop}(h:b=true)(a:A):if b=true then A else B:=by rw[h];exact xO a
theorem yZ{A B:Prop}(h:b=false)(a:B):if b=true then A else B:=by rw[h];exact yD a
end
section
variable {mg:Str->Option Value}
section
end
end
def y7(c:List vE):List Str:=(xI c).map (·.1)
inductive zen(K:Frag)(vs:List V)(H:Hp)(Q:VK)(E:XK):Prop|mk(a:Addr)(c:List vE)(xs:List V):vs=[.ref a]->SqL K H a xs->Paired (zR K T' H 3) xs (c.map jH)->(xz c).length<=900->(xI c).length<=900->(∀(p l:Addr) (H':Hp),zq H H'->H l=none->H' p=some (.tup [.int ((xz c).length:Nat),.ref l])->H' l=some (.lst ((y7 c).map V.str))->Q (.ref p) H')->zen K vs H Q E
def um:Nat->List (Key×V)->List Str->List (Key×V)
 | _,acc,[]=>acc
 | i,acc,z::zs=>um (i+1) (if (yd acc (.inr z)).isSome=true then acc else xo acc (.inr z) (.int i)) zs
theorem zaU{z:Str}:∀(zs:List Str) (j i:Nat) (acc:List (Key×V)),zs[i]?=some z->um j acc (zs.take (i+1))=(if (yd (um j acc (zs.take i)) (.inr z)).isSome=true then um j acc (zs.take i) else xo (um j acc (zs.take i)) (.inr z) (.int (j+i:Nat)))
 | [],_,_,_,h=>by simp at h
 | y::ys,j,0,acc,h=>by
  have e:y=z:=by simpa using h
  subst e;rfl
 | y::ys,j,i+1,acc,h=>by
  have:=zaU ys (j+1) i (if (yd acc (.inr y)).isSome=true then acc else xo acc (.inr y) (.int j)) (by simpa using h)
  show um (j+1) _ (ys.take (i+1))=_;rw[this,show j+1+i=j+(i+1) by omega]
  rfl
theorem zcO:∀(zs:List Str) (i:Nat) (acc:List (Key×V)),(um i acc zs).length<=acc.length+zs.length
 | [],_,_=>aF _
 | z::zs,i,acc=>by
  have h:=zcO zs (i+1) (if (yd acc (.inr z)).isSome=true then acc else xo acc (.inr z) (.int i))
  have h2:(if (yd acc (.inr z)).isSome=true then acc else xo acc (.inr z) (.int i)).length<=acc.length+1:=by
   split
   ·omega
   ·exact x8 acc _ _
  show(um (i+1) _ zs).length<=acc.length+(zs.length+1);omega
inductive zcb(vs:List V)(H:Hp)(Q:VK)(E:XK):Prop|mk(a:Addr)(zs:List Str):vs=[.ref a]->H a=some (.lst (zs.map V.str))->zs.length<=900->(∀(l:Addr) (o:Obj) (H':Hp),zq H H'->H l=none->H' l=some (.frz o (.dK (um 0 [] zs)))->Q (.ref l) H')->zcb vs H Q E
section
variable {mg:Str->Option Value}{f CF:Addr}{c:C5}
theorem zmz:([Str.ofString "name",Str.ofString "thing"]:List Str).Nodup:=by decide +kernel
theorem zbj:zA ["call","things","pairs"] ["call"] (zh zde):=fsc
theorem zhx{P:Program}{w:World}{K:Frag}{base:Heap}{fd:FuncData}{g:Addr}{gd:FuncData}(F:Fun K "shape" "shape" zde f fd)(hlen:mg "len"=none)(cL:⇑1 "laid" g gd ["call"] (zgy K)):↥2 f fd ["call"] (zen K):=by
 specialize zbj;obtain⟨a,c,xs,rfl,hS,hc,lT,lP,q⟩:=h;refine⟨_,zu (vt (cF cL hr (ac (pv 0) zc)) (y6 rfl (zN (zo (i:=1) zbj.nd rfl (Or.inl rfl)) (zN (zo (i:=2) zbj.nd rfl (Or.inl rfl)) yH))))
  (zg (zB (z7 (ac (cB zE hlen PySem.boot_len (ac (pv 1) zc)) (ac (yY [] ["name","thing"] [none,none] rfl ⟨rfl,rfl,rfl,rfl⟩ (zM (pv 2)) (ue (K:=K) (n:=2) 0 1) rfl rfl rfl
   (fun pins fp s H C=>⟨y6 rfl (zN (zo (i:=0) zmz rfl (Or.inl rfl) (.inr rfl)) (zN (zo (i:=1) zmz rfl (Or.inl rfl) (.inr rfl)) yH)),yV,pv 0⟩)) zc))))),?_⟩
 exists _,rfl,a,c,xs,rfl,hS,hc,lT,lP,fun p H1 s1 two=>?_;obtain⟨l1,l2,ys,n1,n2,n12,np,ep,e1,e2,gp⟩:=two;exists p,_,rfl,zy ep,rfl,_,_,rfl,_,_,rfl,rfl,?_;exists _,rfl,l1,_,rfl,.inl (zf e1),_,rfl,l2,rfl,⟨_,zf e2⟩,fun D hD=>?_;have lys:ys.length=(xI c).length:=by rw[gp.length,aA]
 refine wG (K:=K) (xs:=ys) (fun i zs H'=>zq H1 H'/\H' D=some (.lst zs)/\zs=((y7 c).take i).map V.str) ⟨zd hD _,za,rfl⟩ (fun i zs H' h=>zf (h.1 _ _ e2)) ?_ ?_
 ·rintro i x zs H' hlt hx ⟨sH,hDy,ez⟩
  obtain⟨d,hd,hy⟩:=Paired.get gp hx;obtain⟨pr',hpr,rfl⟩:=zho hd;obtain⟨b,rfl,hb⟩:=zfy (hy.same sH);exists b,_,rfl,hb,rfl,_,_,rfl,_,_,rfl,rfl,fun _=>⟨_,rfl,?_⟩,fun e=>Bool.noConfusion e;have hi:i<(y7 c).length:=by unfold y7;rw[aA];omega
  have en:(y7 c)[i]=pr'.1:=by
   have:(y7 c)[i]?=some pr'.1:=by unfold y7;rw[getElem?_map,hpr];rfl
   rw[aB hi] at this;exact Option.some.inj this
  refine lcN.mk hlt (z9 ∅) hDy (by rw[ez,aA,length_take];omega) ⟨fun b' u e=>?_,za,?_⟩
  ·rw[zi (zj e hD)]
   exact sH b' u e
  ·rw[ez,take_succ_eq_append_getElem hi,en,aE]
   rfl
 rintro zs H2 ⟨s2,hDy,ez⟩;have hz:zs=(y7 c).map V.str:=by
  rw[ez,take_of_length_le (by unfold y7;rw[aA];omega)]
 subst hz;exists yG,fun t ht=>?_;have s3:=zd ht (.tup [.int ((xz c).map V.int).length,.ref D]);refine q t D _ (s1.trans (s2.trans s3)) (s1.free hD) (by rw[za,aA]) (s3 _ _ hDy)
theorem uT:zA ["names","firsts","number","name"] ["names"] (zh zbz):=fsc
theorem zfJ{P:Program}{w:World}{K:Frag}{base:Heap}{fd:FuncData}(F:Fun K "first_numbers" "first_numbers" zbz f fd)(hen:mg "enumerate"=none):↥1 f fd ["names"] zcb:=by
 specialize uT;obtain⟨a,zs,rfl,ha,lz,q⟩:=h;have hu1:=zeV hr;refine⟨_,zu (zx (i:=1) uT.nd rfl (Or.inl rfl) zhk)
  (zu (yU PassesOwn.never rfl (wE rfl hen (ac (pv 0) zc)) (y6 rfl (zN (zo (i:=2) uT.nd rfl (Or.inl rfl)) (zN (zo (i:=3) uT.nd rfl (Or.inl rfl)) yH)))
   (zg (zS (wb (zfv hu1 (pv 3) (pv 1))) (zg (zjb hu1 (pv 1) (pv 3) (pv 2) rfl)) zD)))
  (zg (zB (zli (pv 1))))),?_⟩
 intro sd hsd;have s1:=zd hsd (.dK []);have e1:upd H sd (.dK []) sd=some (.dK []):=za;show jj _ _ _ _ (upd H sd (.dK []));generalize upd H sd (.dK [])=H1 at s1 e1 |-;refine⟨_,rfl,a,rfl,⟨_,zf (s1 _ _ ha)⟩,vQ (K:=K) (a:=a) (xs:=zs.map V.str) (fun i σ H'=>∃(v2 v3:Option V),σ=[~~~a,~~~sd,v2,v3]/\zq H H'/\H' sd=some (.dK (um 0 [] (zs.take i))))
  ⟨_,_,rfl,s1,e1⟩ (fun i σ H' _ ⟨_,_,_,sH,_⟩=>zf (sH _ _ ha)) ?_ ?_⟩
 ·rintro i x p σ H' hx ⟨v2,v3,rfl,sH,hd⟩ hpn
  obtain⟨z,hz,rfl⟩:=strs_at hx;have sp:=zd hpn (.tup [.int (i:Nat),.str z]);have hd2:=sp _ _ hd;have tk:=zaU zs 0 i [] hz;rw[Nat.zero_add] at tk;have hi:i<zs.length:=(List.getElem?_eq_some_iff.mp hz).1;exists p,_,rfl,zy za,rfl,_,_,rfl,_,_,rfl,rfl,?_;exists _,rfl,_,rfl,sd,_,rfl,.inl ⟨_,.inr z,.inl hd2,rfl,rfl⟩,_,rfl,?_;refine wQ (fun ne=>?_) (fun ne=>?_)
  ·have ns:¬(yd (um 0 [] (zs.take i)) (.inr z)).isSome=true:=by
    intro e;rw[e] at ne;cases ne
   rw[aJ ns] at tk;have ln:=zcO (zs.take i) 0 [];exists _,rfl,_,rfl,_,rfl,sd,_,rfl,.inl ⟨_,.inr z,hd2,rfl,zY (by rw[length_take] at ln;simp at ln;omega),rfl⟩,?_
   refine⟨_,_,rfl,fun b' u e=>?_,by rw[za,tk]⟩
   rw[zi (zj e hsd)];exact sp _ _ (sH _ _ e)
  ·have ns:(yd (um 0 [] (zs.take i)) (.inr z)).isSome=true:=by
    cases e:(yd (um 0 [] (zs.take i)) (.inr z)).isSome with
    | true=>rfl
    | false=>exact absurd (by rw[e];rfl) ne
   rw[aK ns] at tk;exact⟨_,_,rfl,sH.trans sp,by rw[tk];exact hd2⟩
 ·rintro σ H' ⟨v2,v3,rfl,sH,hd⟩
  rw[aA,take_length] at hd;exists _,rfl,sd,_,rfl,hd,fun o=>?_;refine q sd o _ (fun b' u e=>?_) hsd za;rw[zi (zj e hsd)];exact sH _ _ e
def MA1(H:Hp)(u:Addr)(m:Str×Nat):Prop:=H u=some (.tup [.str m.1,.int (m.2:Nat)])
def vk(H:Hp)(us:List Addr)(ms:List (Str×Nat)):Prop:=Paired (MA1 H) us ms
theorem vk.same(h:vk H us ms)(s:zq H H'):vk H' us ms:=zO (fun _ _ z=>s _ _ z) h
theorem vk.upd(h:vk H us ms)(hD:H D=some (.lst ys)):vk (upd H D o) us ms:=zO (fun u m z=>by
 show L2.upd H D o u=_;rw[zi (fun e=>by rw[e] at z;rw[MA1,hD] at z;cases z)]
 exact z) h
theorem vk.snoc(h:vk H us ms)(hu:MA1 H u m):vk H (us++[u]) (ms++[m]):=Paired.snoc h hu
def zc1(H H':Hp)(l:Addr)(ms:List (Str×Nat)):Prop:=∃us:List Addr,H l=none/\H' l=some (.lst (us.map V.ref))/\vk H' us ms
def ur(rows:List Rw)(many:Nat):List (Str×Nat):=if (zQ 2 0 rows).isSome=true then [] else (List.range (many - plN rows)).map fun i=>((("over" : Str),plN rows+i):Str×Nat)
inductive zer(c:C5)(CF:Addr)(vs:List V)(H:Hp)(Q:VK)(E:XK):Prop|mk(f:Addr)(many:Nat)(rows:List Rw)(bars:List Str):vs=[.ref f,.int (many:Nat)]->many<=900->rows.length<=500->xX c CF H f rows bars->(∀(l:Addr) (H':Hp),zq H H'->zc1 H H' l (ur rows many)->Q (.ref l) H')->zer c CF vs H Q E
def zbI(r:Rw)(i many:Nat)(fk:List (Key×V)):List V:=
 if wp r.k=true/\i<many then [.str "place",.int (i:Nat)] else if yn r.k=true/\(yd fk (.inr r.z)).isSome=true then [.str "name",(yd fk (.inr r.z)).getD .non] else [.str "free"]
def zee(fk:List (Key×V)):Prop:=∀k v,yd fk k=some v->x9 v=true
inductive zgt(c:C5)(vs:List V)(H:Hp)(Q:VK)(E:XK):Prop|mk(p d:Addr)(i many:Nat)(r:Rw)(fk:List (Key×V)):vs=[.ref p,.int (i:Nat),.int (many:Nat),.ref d]->PAt c H p r->r.ok->Rd H d (.dK fk)->(∀(u:Addr) (H':Hp),zq H H'->H' u=some (.tup (zbI r i many fk))->Q (.ref u) H')->zgt c vs H Q E
def wj(r:Rw)(i many:Nat)(fk:List (Key×V)):Bool:=!fr r.k r.b&&L2.eqT (zbI r i many fk) [.str "free"]
def vG(many:Nat)(fk:List (Key×V)):Nat->List Rw->List (Str×Nat)
 | _,[]=>[]
 | i,r::rs=>(if wj r i many fk=true then [(("lacking" : Str),i)] else [])++vG many fk (i+1) rs
theorem qS{many:Nat}{fk:List (Key×V)}{r:Rw}:∀(rows:List Rw) (j i:Nat),rows[i]?=some r->vG many fk j (rows.take (i+1))=vG many fk j (rows.take i)++(if wj r (j+i) many fk=true then [(("lacking" : Str),j+i)] else [])
 | [],_,_,h=>by simp at h
 | y::ys,j,0,h=>by
  have e:y=r:=by simpa using h
  subst e;show(_++[])=[]++_;rw[append_nil,nil_append];rfl
 | y::ys,j,i+1,h=>by
  have:=qS (many:=many) (fk:=fk) ys (j+1) i (by simpa using h)
  show _++vG many fk (j+1) (ys.take (i+1))=_;rw[this,show j+1+i=j+(i+1) by omega,<- append_assoc]
  rfl
theorem ju(many:Nat)(fk:List (Key×V)):∀(rows:List Rw) (i:Nat),(vG many fk i rows).length<=rows.length
 | [],_=>aF _
 | r::rs,i=>by
  have:=ju many fk rs (i+1)
  show(_++vG many fk (i+1) rs).length<=rs.length+1;rw[aG];split
  ·rw[length_singleton];omega
  ·rw[length_nil];omega
theorem zfA{i many:Nat}(h:zee fk):(zbI r i many fk).all x9=true:=by
 unfold zbI;split
 ·rfl
 ·split
  next h2=>
   obtain⟨v,hv⟩:=Option.isSome_iff_exists.mp h2.2;rw[hv];show(true&&(x9 v&&true))=true;rw[h _ _ hv];rfl
  ·rfl
inductive zes(c:C5)(CF:Addr)(vs:List V)(H:Hp)(Q:VK)(E:XK):Prop|mk(f d:Addr)(many:Nat)(rows:List Rw)(bars:List Str)(fk:List (Key×V)):vs=[.ref f,.int (many:Nat),.ref d]->rows.length<=500->(∀r∈rows,r.ok)->xX c CF H f rows bars->Rd H d (.dK fk)->zee fk->(∀(l:Addr) (H':Hp),zq H H'->zc1 H H' l (vG many fk 0 rows)->Q (.ref l) H')->zes c CF vs H Q E
theorem zq.rd(s:zq H H')(h:Rd H a u):Rd H' a u:=h.elim (fun e=>.inl (s _ _ e)) fun⟨o,e⟩=>.inr ⟨o,s _ _ e⟩
theorem zmx:([Str.ofString "number"]:List Str).Nodup:=by decide +kernel
theorem ziW:zA ["form","many"] ["form","many"] (zh zdm):=fsc
theorem zhF{P:Program}{w:World}{K:Frag}{base:Heap}{fd:FuncData}{gT gP:Addr}{eT eP:FuncData}(F:Fun K "overs" "overs" zdm f fd)(hran:mg "range"=none)(FK:FC K CF)(mT:xv K CF "tail" gT)(GT:↥1 gT eT ["self"] (vm c CF 2))(bT:yc K eT ["self"] [])(mP:xv K CF "places" gP)(GP:↥1 gP eP ["self"] (wu c CF))(bP:yc K eP ["self"] []):
  ↥2 f fd ["form","many"] (zer c CF):=by
 specialize ziW;obtain⟨f,many,rows,bars,rfl,lm,l5,hF,q⟩:=h;refine⟨_,zu (zS (wb (jX (yy (pv 0) FK.cl mT GT hr bT .nil yt))) (zg (zB (zT zc))) zD)
  (zg (zB (yY [] ["number"] [none] rfl ⟨rfl,rfl,rfl,rfl⟩ (zfr rfl hran (ac (yy (pv 0) FK.cl mP GP hr bP .nil yt) (ac (pv 1) zc))) (zK 0) rfl rfl rfl
   (fun pins fp s H C=>⟨zo (i:=0) zmx rfl (Or.inl rfl) (.inr rfl),yV,z7 (ac zH (ac (pv 0) zc))⟩)))),?_⟩
 obtain⟨dx,fs,lr,lb,ld,ps,h1,h2,h3,h4,h5,h6⟩:=id hF;have nmT:fs.lookup ("tail" : Str)=none:=h2.no _ (by decide +kernel)
 have nmP:fs.lookup ("places" : Str)=none:=h2.no _ (by decide +kernel)
 exists _,rfl,f,dx,fs,rfl,h1,nmT,f,rows,bars,rfl,hF,?_;exists _,rfl,?_;cases e:zQ 2 0 rows with
 | some i=>
  have ef:ur rows many=[]:=by unfold ur;rw[e];rfl
  have ne:(!decide (wn (some i)=V.non))=true:=rfl;rw[aK ne];exists wN,fun l hl=>?_;exact q l _ (zd hl _) ⟨[],hl,za,by rw[ef];exact .nil⟩
 | none=>
  have ef:ur rows many=(List.range (many - plN rows)).map fun i=>((("over" : Str),plN rows+i):Str×Nat):=by unfold ur;rw[e];rfl
  refine yD ?_;have lp:plN rows<=500:=Nat.le_trans (length_filter_le _ _) l5;exists _,rfl,f,dx,fs,rfl,h1,nmP,f,rows,bars,rfl,hF,_,rfl,(plN rows:Nat),(many:Nat),rfl,⟨∅,∅,∅,∅⟩,fun D hD=>?_
  have en:((many:Int) - (plN rows:Int)).toNat=many - plN rows:=by omega
  refine qR (n:=((many:Int) - (plN rows:Int)).toNat) (fun i ys H'=>∃us,ys=us.map V.ref/\zq H H'/\H' D=some (.lst ys)/\vk H' us ((List.range i).map fun i=>((("over" : Str),plN rows+i):Str×Nat))) ⟨[],rfl,zd hD _,za,.nil⟩ ?_ ?_
  ·rintro i ys H' hi ⟨us,rfl,sH,hDy,hm⟩
   have lu:us.length=i:=by rw[hm.length,aA,length_range]
   exists fun _=>?_,fun e=>Bool.noConfusion e;exists _,rfl,yG,fun t ht=>?_;have s2:=zd ht (.tup [.str "over",.int ((plN rows:Int)+(i:Int))]);have hDy2:=s2 _ _ hDy;refine lcN.mk hi (z9 ∅) hDy2 (by rw[aA,lu];exact aF _) ⟨us++[t],by rw[aE];rfl,fun b' u' e'=>?_,za,?_⟩
   ·rw[zi (zj e' hD)]
    exact s2 _ _ (sH _ _ e')
   ·rw[range_succ,aE]
    have hu:MA1 (upd H' t (.tup [.str "over",.int ((plN rows:Int)+(i:Int))])) t ("over",plN rows+i):=by
     show upd H' t _ t=_;rw[za];rfl
    exact((hm.same s2).snoc hu).upd hDy2
  ·rintro ys H' ⟨us,rfl,sH,hDy,hm⟩
   rw[en,<- ef] at hm;exact q D H' sH ⟨us,hD,hDy,hm⟩
theorem zkP:zA ["parameter","number","many","firsts"] ["parameter","number","many","firsts"] (zh zgU):=fsc
theorem zjo{P:Program}{w:World}{K:Frag}{base:Heap}{fd:FuncData}{m:MA}{gp gb:FuncData}(F:Fun K "one_entry" "one_entry" zgU f fd)(PP:Pcs K m c)(GP:↥1 m.fP gp ["self"] (qi K m bpL))(bP:yc K gp ["self"] [])(GB:↥1 m.fB gb ["self"] (qi K m bnL))(bB:yc K gb ["self"] []):
  ↥2 f fd ["parameter","number","many","firsts"] (zgt c):=by
 specialize zkP;obtain⟨p,d,i,many,r,fk,rfl,⟨dx,hp⟩,rok,hd,q⟩:=h;have hu1:=zeV hr;have C:=PP r.k rok.1;refine⟨_,zu (zS (yS (yO (yz (yy (pv 0) C.cl C.mP GP hr bP .nil yt)) (yB (zm vL (pv 1) (pv 2) (zF _))))) (zg (zB (z7 (ac zH (ac (pv 1) zc))))) zD)
  (zu (zS (yS (yO (yz (yy (pv 0) C.cl C.mB GB hr bB .nil yt)) (yB (wb (zlk hu1 (xi (pv 0) rfl) (pv 3)))))) (zg (zB (z7 (ac zH (ac (zeG hu1 (pv 3) (xi (pv 0) rfl) (fun _ _=>rfl)) zc))))) zD)
  (zg (zB (z7 (ac zH zc))))),?_⟩
 have nP:(pr r).lookup ("by_place" : Str)=none:=u0 (by decide +kernel) (by decide +kernel) (by decide +kernel)
 have nB:(pr r).lookup ("by_name" : Str)=none:=u0 (by decide +kernel) (by decide +kernel) (by decide +kernel)
 try dsimp only
 refine yo (fun σ' H'=>σ'=[~~~p,some (.int (i:Nat)),some (.int (many:Nat)),~~~d]/\H'=H/\¬(wp r.k=true/\i<many)) ?_ (fun key=>?_);rotate_left
 ·exists _,rfl,p,dx,_,rfl,hp,nP,p,dx,_,_,_,_,rfl,C,hp,_,rfl,?_
  rw[zh6 r.k rok.1];cases eb:wp r.k with
  | false=>
   refine yD ?_;refine yD ?_;exact key _ _ ⟨rfl,rfl,by rw[eb];exact fun z=>Bool.noConfusion z.1⟩
  | true=>
   refine xO ?_;exists _,rfl,_,rfl,_,_,rfl,rfl,_,rfl,?_;refine wQ (fun c1=>?_) (fun c1=>?_)
   ·have hlt:i<many:=by
     have:=of_decide_eq_true c1
     omega
    exists _,rfl,yG,fun t ht=>?_;exact q t _ (zd ht _) (by rw[za];unfold zbI;rw[aK ⟨eb,hlt⟩])
   ·have hlt:¬i<many:=fun h=>c1 (aC (by show(i:Int)<(many:Int);omega))
    exact key _ _ ⟨rfl,rfl,fun z=>hlt z.2⟩
 rintro σ1 H1 ⟨rfl,rfl,nn⟩;have e1:zbI r i many fk=(if yn r.k=true/\(yd fk (.inr r.z)).isSome=true then [.str "name",(yd fk (.inr r.z)).getD .non] else [.str "free"]):=by unfold zbI;rw[aJ nn]
 try dsimp only
 refine yo (fun σ' H'=>σ'=[~~~p,some (.int (i:Nat)),some (.int (many:Nat)),~~~d]/\H'=H1/\¬(yn r.k=true/\(yd fk (.inr r.z)).isSome=true)) ?_ (fun key=>?_);rotate_left
 ·exists _,rfl,p,dx,_,rfl,hp,nB,p,dx,_,_,_,_,rfl,C,hp,_,rfl,?_
  rw[zaT r.k rok.1];cases eb:yn r.k with
  | false=>
   refine yD ?_;refine yD ?_;exact key _ _ ⟨rfl,rfl,by rw[eb];exact fun z=>Bool.noConfusion z.1⟩
  | true=>
   refine xO ?_;exists _,rfl,p,_,dx,_,_,rfl,hp,C.cl,C.nN,v0,_,rfl,d,_,rfl,.inl ⟨fk,.inr r.z,hd,rfl,rfl⟩,_,rfl,?_;refine wQ (fun c1=>?_) (fun c1=>?_)
   ·obtain⟨v,hv⟩:=Option.isSome_iff_exists.mp c1
    exists _,rfl,_,rfl,p,_,dx,_,_,rfl,hp,C.cl,C.nN,v0,d,v,rfl,.inl ⟨fk,.inr r.z,hd,rfl,hv.symm⟩,yG,fun t ht=>?_;exact q t _ (zd ht _) (by rw[za,e1,aK ⟨eb,c1⟩,hv];rfl)
   ·exact key _ _ ⟨rfl,rfl,fun z=>c1 z.2⟩
 rintro σ2 H2 ⟨rfl,rfl,nn2⟩;exists ux,fun t ht=>?_;exact q t _ (zd ht _) (by rw[za,e1,aJ nn2])
theorem jU:zA ["form","many","firsts","found","number","parameter"] ["form","many","firsts"] (zh zgY):=fsc
theorem zhJ{P:Program}{w:World}{K:Frag}{base:Heap}{fd:FuncData}{m:MA}{g gP:Addr}{gd gf eP:FuncData}(F:Fun K "lackings" "lackings" zgY f fd)(hen:mg "enumerate"=none)(PP:Pcs K m c)(FK:FC K CF)(mP:xv K CF "parameters" gP)(GP:↥1 gP eP ["self"] (zba c CF))(bP:yc K eP ["self"] [])
  (GF:↥1 m.fF gf ["self"] (zbd K m)) (bF:yc K gf ["self"] []) (cE1:⇑2 "one_entry" g gd ["parameter","number","many","firsts"] (zgt c)):↥3 f fd ["form","many","firsts"] (zes c CF):=by
 specialize jU;obtain⟨f,d,many,rows,bars,fk,rfl,l5,hok,hF,hd,hfl,q⟩:=h;have hr1:yk 1 _:=hr.mono ⋯
 have hU:=hr.units;have hO:∀C,Cs5 c C->Cls K C/\xv K C "free" m.fF:=fun C ⟨k,hk,e⟩=>by rw[e];exact⟨(PP k hk).cl,(PP k hk).mF⟩
 refine⟨_,zu (zx (i:=3) jU.nd rfl (Or.inl rfl) (zT zc))
  (zu (yU PassesOwn.never rfl (wE rfl hen (ac (yy (pv 0) FK.cl mP GP hr1 bP .nil yt) zc)) (y6 rfl (zN (zo (i:=4) jU.nd rfl (Or.inl rfl)) (zN (zo (i:=5) jU.nd rfl (Or.inl rfl)) yH)))
   (zg (zS (yS (yO (xx (yz (wx (pv 5) hO GF hr1 bF yt))) (yB (zm (zhs hU) (cF cE1 hr (ac (pv 5) (ac (pv 4) (ac (pv 1) (ac (pv 2) zc))))) (z7 (ac zH zc)) (zF _)))))
    (zg (zZ (xw PySem.F.plainAttrs_list PySem.F.slot_list_append PySem.F.type_list_append ya (pv 3) (ac (z7 (ac zH (ac (pv 4) zc))) zc)))) zD)))
  (zg (zB (pv 3)))),?_⟩
 exists wN,fun l hl=>?_;have s1:=zd hl (.lst []);have e1:upd H l (.lst []) l=some (.lst []):=za;show jj _ _ _ _ (upd H l (.lst []));generalize upd H l (.lst [])=H1 at s1 e1 |-;obtain⟨dx,fs,lr,lb,ld,ps0,h1,h2,h3,h4,h5,h6⟩:=id hF;have nmP:fs.lookup ("parameters" : Str)=none:=h2.no _ (by decide +kernel)
 exists _,rfl,f,dx,fs,rfl,s1 _ _ h1,nmP,f,rows,bars,rfl,hF.same s1,fun lp ps H2 s2 np ep hps=>?_;have e2:=s2 _ _ e1;have nlp:lp≠l:=Ne.symm (zj e1 np);have nd:∀{b:Addr}{u:HO},H b=some u->b≠l:=fun e=>zj e hl;have s12:=s1.trans s2;have sHl:∀{H':Hp},(∀b u,H2 b=some u->b≠l->H' b=some u)->zq H H':=fun k b u e=>k b u (s12 _ _ e) (nd e);refine⟨lp,rfl,⟨_,zf ep⟩,vQ (K:=K) (a:=lp) (xs:=ps.map V.ref) (fun i σ H'=>∃(us:List Addr) (v4 v5:Option V),σ=[~~~f,some (.int (many:Nat)),~~~d,~~~l,v4,v5]/\(∀b u,H2 b=some u->b≠l->H' b=some u)/\H' l=some (.lst (us.map V.ref))/\vk H' us (vG many fk 0 (rows.take i)))
  ⟨[],_,_,rfl,fun _ _ e _=>e,e2,.nil⟩ (fun i σ H' _ ⟨_,_,_,_,sH,_⟩=>zf (sH _ _ ep nlp)) ?_ ?_⟩
 ·rintro i x p σ H' hx ⟨us,v4,v5,rfl,sH,hl',hm⟩ hpn
  obtain⟨pa,hpa,rfl⟩:=xt hx;obtain⟨r,hr',dx',hdx⟩:=yw hps hpa;have rok:=hok r (aH hr');have C:=PP r.k rok.1;have hi:i<rows.length:=(List.getElem?_eq_some_iff.mp hr').1;have npa:pa≠l:=wl hdx e2 (by intro z;cases z)
  have tk:=qS (many:=many) (fk:=fk) rows 0 i hr';rw[Nat.zero_add] at tk;have sp:=zd hpn (.tup [.int (i:Nat),.ref pa]);have lu:us.length<=i:=by
   rw[hm.length];refine Nat.le_trans (ju _ _ _ _) ?_;rw[length_take];omega
  have sH1:∀b u,H2 b=some u->b≠l->upd H' p (.tup [.int (i:Nat),.ref pa]) b=some u:=fun b u e n=>sp _ _ (sH b u e n);have hl1:=sp _ _ hl';have hm1:=hm.same sp;exists p,_,rfl,zy za,rfl,_,_,rfl,_,_,rfl,rfl,?_;generalize upd H' p (.tup [.int (i:Nat),.ref pa])=H3 at sH1 hl1 hm1 |-;have hd3:=sH1 _ _ hdx npa;exists _,rfl,pa,_,dx',_,rfl,⟨r.k,rok.1,rfl⟩,hd3,u0 (by decide +kernel) (by decide +kernel) (by decide +kernel),pa,dx',_,_,_,_,rfl,C,hd3,_,rfl,?_
  cases ef:fr r.k r.b with
  | true=>
   have il:wj r i many fk=false:=by unfold wj;rw[ef];rfl
   rw[il,aJ zft,append_nil] at tk;refine yD ?_;refine yD ?_;exact⟨us,_,_,rfl,sH1,hl1,by rw[tk];exact hm1⟩
  | false=>
   refine xO ?_;exists _,rfl,_,rfl,_,rfl,_,rfl,pa,d,i,many,r,fk,rfl,⟨dx',hd3⟩,rok,zq.rd (sHl sH1) hd,fun u H4 s4 e4=>?_;exists ux,fun t ht=>?_;have s5:=zd ht (.tup [.str "free"]);exists u,t,_,_,rfl,rfl,zy (s5 _ _ e4),zy za,zfA hfl,rfl,_,rfl,?_;have s45:=s4.trans s5;have il:wj r i many fk=L2.eqT (zbI r i many fk) [.str "free"]:=by unfold wj;rw[ef];rfl
   rw[<- il];generalize upd H4 t (.tup [.str "free"])=H5 at s5 s45 |-;have hl5:=s45 _ _ hl1;have sH5:∀b u,H2 b=some u->b≠l->H5 b=some u:=fun b u e n=>s45 _ _ (sH1 b u e n);refine wQ (fun c1=>?_) (fun c1=>?_)
   ·rw[c1,aK rfl] at tk
    exists _,rfl,.inl ⟨rfl,_,zf hl5⟩,_,rfl,yG,fun t2 ht2=>?_;have s6:=zd ht2 (.tup [.str "lacking",.int (i:Nat)]);have hl6:=s6 _ _ hl5;have hu2:MA1 (upd H5 t2 (.tup [.str "lacking",.int (i:Nat)])) t2 ("lacking",i):=by
     show upd H5 t2 _ t2=_;rw[za]
    exists l,_,.ref t2,rfl,rfl,hl6,zY (by rw[aA];omega),?_
    exists us++[t2],_,_,rfl,fun b u e n=>?_,by rw[za,aE];rfl,?_
    ·rw[zi n]
     exact s6 _ _ (sH5 b u e n)
    ·rw[tk]
     exact(((hm1.same s45).same s6).snoc hu2).upd hl6
   ·have c2:wj r i many fk=false:=by
     cases e:wj r i many fk with
     | false=>rfl
     | true=>exact absurd e c1
    rw[c2,aJ zft,append_nil] at tk;exact⟨us,_,_,rfl,sH5,hl5,by rw[tk];exact hm1.same s45⟩
 ·rintro σ H' ⟨us,v4,v5,rfl,sH,hl',hm⟩
  rw[aA,hps.length,take_length] at hm;exact⟨_,rfl,q l H' (sHl sH) ⟨us,hl,hl',hm⟩⟩
def fpF:Nat->List (Str×Nat)->List Str->List (Str×Nat)
 | _,acc,[]=>acc
 | i,acc,z::zs=>fpF (i+1) (if (acc.any fun p=>decide (p.1=z))=true then acc else acc++[(z,i)]) zs
def kvP(fp:List (Str×Nat)):List (Key×V):=fp.map fun p=>(.inr p.1,.int (p.2:Nat))
theorem wI(fp:List (Str×Nat))(z:Str):(yd (kvP fp) (.inr z)).isSome=fp.any fun p=>decide (p.1=z):=by
 rw[<- wW];unfold kvP;rw[any_map]
 congr 1
 funext p
 show decide ((Sum.inr p.1:Key)=Sum.inr z)=decide (p.1=z);exact zh3 _ _
theorem zdY:∀(zs:List Str) (i:Nat) (acc:List (Str×Nat)),um i (kvP acc) zs=kvP (fpF i acc zs)
 | [],_,_=>rfl
 | z::zs,i,acc=>by
  show um (i+1) (if (yd (kvP acc) (.inr z)).isSome=true then kvP acc else xo (kvP acc) (.inr z) (.int i)) zs=kvP (fpF (i+1) (if (acc.any fun p=>decide (p.1=z))=true then acc else acc++[(z,i)]) zs)
  rw[wI];cases e:acc.any fun p=>decide (p.1=z) with
  | true=>exact zdY zs (i+1) acc
  | false=>
   have e2:xo (kvP acc) (.inr z) (.int (i:Nat))=kvP (acc++[(z,i)]):=by
    unfold xo;rw[wW,wI,e,aJ zft];unfold kvP;rw[aE];rfl
   rw[aJ zft,aJ zft,e2];exact zdY zs (i+1) _
theorem zbM(h:yd (kvP fp) k=some v):∃(z:Str) (j:Nat),k=.inr z/\v=.int (j:Nat)/\(z,j)∈fp:=by
 unfold yd at h;cases e:(kvP fp).find? fun kv=>decide (kv.1=k) with
 | none=>rw[e] at h;cases h
 | some kv=>
  rw[e] at h;have hm:=List.mem_of_find?_eq_some e;have hk:=List.find?_some e;unfold kvP at hm;obtain⟨p,hp,rfl⟩:=List.mem_map.mp hm;exact⟨p.1,p.2,(of_decide_eq_true hk).symm,(Option.some.inj h).symm,hp⟩
theorem zjM(fp:List (Str×Nat)):zee (kvP fp):=fun k v h=>by
 obtain⟨z,j,_,rfl,_⟩:=zbM h;rfl
theorem zeY{z:Str}:∀(zs:List Str) (i:Nat) (acc:List (Str×Nat)),(acc.any fun p=>decide (p.1=z))=true->((fpF i acc zs).any fun p=>decide (p.1=z))=true
 | [],_,_,h=>h
 | y::ys,i,acc,h=>by
  show((fpF (i+1) _ ys).any _)=true;refine zeY ys (i+1) _ ?_;split
  ·exact h
  ·rw[any_append,h];rfl
theorem zdZ{z:Str}:∀(zs:List Str) (i:Nat) (acc:List (Str×Nat)),z∈zs->((fpF i acc zs).any fun p=>decide (p.1=z))=true
 | [],_,_,h=>by cases h
 | y::ys,i,acc,h=>by
  show((fpF (i+1) _ ys).any _)=true;rcases List.mem_cons.mp h with rfl|h
  ·refine zeY ys (i+1) _ ?_
   split
   next e=>exact e
   ·rw[any_append]
    simp
  ·exact zdZ ys (i+1) _ h
def fpZ(zs:List Str):List (Str×Nat):=fpF 0 [] zs
theorem zmN(zs:List Str):um 0 [] zs=kvP (fpZ zs):=zdY zs 0 []
def jO(fk:List (Key×V)):Nat->List Str->List (Str×Nat)
 | _,[]=>[]
 | i,z::zs=>(if yd fk (.inr z)=some (.int (i:Nat)) then [] else [(("doubled" : Str),i)])++jO fk (i+1) zs
theorem zaZ{fk:List (Key×V)}{z:Str}:∀(zs:List Str) (j i:Nat),zs[i]?=some z->jO fk j (zs.take (i+1))=jO fk j (zs.take i)++(if yd fk (.inr z)=some (.int (j+i:Nat)) then [] else [(("doubled" : Str),j+i)])
 | [],_,_,h=>by simp at h
 | y::ys,j,0,h=>by
  have e:y=z:=by simpa using h
  subst e;show(_++[])=[]++_;rw[append_nil,nil_append];rfl
 | y::ys,j,i+1,h=>by
  have:=zaZ (fk:=fk) ys (j+1) i (by simpa using h)
  show _++jO fk (j+1) (ys.take (i+1))=_;rw[this,show j+1+i=j+(i+1) by omega,<- append_assoc]
  rfl
theorem zag(fk:List (Key×V)):∀(zs:List Str) (i:Nat),(jO fk i zs).length<=zs.length
 | [],_=>aF _
 | r::rs,i=>by
  have:=zag fk rs (i+1)
  show(_++jO fk (i+1) rs).length<=rs.length+1;rw[aG];split
  ·rw[length_nil];omega
  ·rw[length_singleton];omega
def y3(rows:List Rw)(bars:List Str)(many:Nat)(z:Str):Option Str:=
 if z∈bars then some "barred" else match lastD' z rows with
  | none=>if (zQ 4 0 rows).isSome=true then none else some "strange"
  | some l=>if l<plN rows/\l<many then some "again" else none
where lastD' (z:Str) (rows:List Rw):Option Nat:=match yd (y8 0 [] rows) (.inr z) with
 | some (.int i)=>some i.toNat
 | _=>none
def qb(rows:List Rw)(bars:List Str)(many:Nat)(fp:List (Str×Nat)):List (Str×Nat):=fp.filterMap fun p=>(y3 rows bars many p.1).map fun wd=>(wd,p.2)
def u9(rows:List Rw)(bars:List Str)(many:Nat)(zs:List Str):List (Str×Nat):=jO (kvP (fpZ zs)) 0 zs++ur rows many++qb rows bars many (fpZ zs)++vG many (kvP (fpZ zs)) 0 rows
inductive zka(c:C5)(CF:Addr)(vs:List V)(H:Hp)(Q:VK)(E:XK):Prop|mk(f d:Addr)(o:Obj)(many:Nat)(rows:List Rw)(bars:List Str)(fp:List (Str×Nat)):vs=[.ref f,.int (many:Nat),.ref d]->rows.length<=500->bars.length<=500->fp.length<=900->xX c CF H f rows bars->H d=some (.frz o (.dK (kvP fp)))->(∀(l:Addr) (H':Hp),zq H H'->zc1 H H' l (qb rows bars many fp)->Q (.ref l) H')->zka c CF vs H Q E
inductive zkh(c:C5)(CF:Addr)(vs:List V)(H:Hp)(Q:VK)(E:XK):Prop|mk(f a:Addr)(many:Nat)(rows:List Rw)(bars zs:List Str):vs=[.ref f,.int (many:Nat),.ref a]->rows.length<=500->bars.length<=500->many<=900->zs.length<=900->(∀r∈rows,r.ok)->xX c CF H f rows bars->H a=some (.lst (zs.map V.str))->(∀(l:Addr) (H':Hp),zq H H'->zc1 H H' l (u9 rows bars many zs)->Q (.ref l) H')->zkh c CF vs H Q E
theorem zeZ:∀(zs:List Str) (i:Nat) (acc:List (Str×Nat)),(fpF i acc zs).length<=acc.length+zs.length
 | [],_,_=>aF _
 | z::zs,i,acc=>by
  have h:=zeZ zs (i+1) (if (acc.any fun p=>decide (p.1=z))=true then acc else acc++[(z,i)])
  have h2:(if (acc.any fun p=>decide (p.1=z))=true then acc else acc++[(z,i)]).length<=acc.length+1:=by
   split
   ·omega
   ·rw[aG];exact aF _
  show(fpF (i+1) _ zs).length<=acc.length+(zs.length+1);omega
theorem vk.app(h:vk H us ms)(h':vk H vs ns):vk H (us++vs) (ms++ns):=yu h h'
theorem zmE:([Str.ofString "number",Str.ofString "name",Str.ofString "firsts"]:List Str).Nodup:=by decide +kernel
theorem zgM:zA ["form","many","names","firsts","doubled"] ["form","many","names"] (zh zk5):=fsc
theorem zlt{P:Program}{w:World}{K:Frag}{base:Heap}{fd:FuncData}{g1 g2 g3 g4:Addr}{d1 d2 d3 d4:FuncData}(F:Fun K "misfits_of" "misfits_of" zk5 f fd)(hen:mg "enumerate"=none)(c1:⇑1 "first_numbers" g1 d1 ["names"] zcb)(c2:⇑2 "overs" g2 d2 ["form","many"] (zer c CF))(c3:⇑2 "unwelcomes" g3 d3 ["form","many","firsts"] (zka c CF))(c4:⇑3 "lackings" g4 d4 ["form","many","firsts"] (zes c CF)):
  ↥4 f fd ["form","many","names"] (zkh c CF):=by
 specialize zgM;obtain⟨f,a,many,rows,bars,zs,rfl,l5,lb5,lm,lz,hok,hF,ha,q⟩:=h;have hr1:yk 1 _:=hr.mono ⋯
 have hr2:yk 2 _:=hr.mono ⋯
 have hu1:=zeV hr;refine⟨_,zu (zx (i:=3) zgM.nd rfl (Or.inr rfl) (cF c1 hr1 (ac (pv 2) zc)))
  (zu (wD (i:=4) ["firsts"] ["number","name","firsts"] [none,none,some 3] zgM.nd rfl (Or.inl rfl) rfl ⟨rfl,rfl,rfl,rfl⟩ (wE rfl hen (ac (pv 2) zc)) (ue (K:=K) (n:=2) 0 1) rfl rfl rfl
   (fun pins fp s H C=>⟨y6 rfl (zN (zo (i:=0) zmE rfl (Or.inl rfl) (.inr rfl)) (zN (zo (i:=1) zmE rfl (Or.inl rfl) (.inr rfl)) yH)),yg (zm qK (zeG hu1 (pv 2) (pv 1) (fun _ _=>rfl)) (pv 0) (zF _)),z7 (ac zH (ac (pv 0) zc))⟩))
  (zg (zB (zk yA (zk yA (zk yA (pv 4) (cF c2 hr2 (ac (pv 0) (ac (pv 1) zc)))) (cF c3 hr2 (ac (pv 0) (ac (pv 1) (ac (pv 3) zc))))) (cF c4 hr (ac (pv 0) (ac (pv 1) (ac (pv 3) zc)))))))),?_⟩
 exists _,rfl,a,zs,rfl,ha,lz,fun d o H1 s1 hd0 hd1=>?_;rw[zmN] at hd1;have lfp:(fpZ zs).length<=900:=by
  have:=zeZ zs 0 []
  show(fpF 0 [] zs).length<=900;simp at this;omega
 generalize hfp:fpZ zs=fp at hd1 lfp;exists _,rfl,a,rfl,⟨_,zf (s1 _ _ ha)⟩,fun D hD=>?_;refine zeS (K:=K) (xs:=zs.map V.str) (fun i ys H'=>∃us,ys=us.map V.ref/\zq H1 H'/\H' D=some (.lst ys)/\vk H' us (jO (kvP fp) 0 (zs.take i))) ⟨[],rfl,zd hD _,za,.nil⟩ (fun i ys H' ⟨_,_,h,_⟩=>zf (h _ _ (s1 _ _ ha))) ?_ ?_
 ·rintro i x p ys H' hlt hx ⟨us,rfl,sH,hDy,hm⟩ hpn
  obtain⟨z,hz,rfl⟩:=strs_at hx;have hi:i<zs.length:=(List.getElem?_eq_some_iff.mp hz).1;have tk:=zaZ (fk:=kvP fp) zs 0 i hz;rw[Nat.zero_add] at tk;have sp:=zd hpn (.tup [.int (i:Nat),.str z]);have lu:us.length<=i:=by
   rw[hm.length];refine Nat.le_trans (zag _ _ _) ?_;rw[length_take];omega
  have hsome:(yd (kvP fp) (.inr z)).isSome=true:=by
   rw[wI,<- hfp];exact zdZ zs 0 [] (aH hz)
  obtain⟨v,hv⟩:=Option.isSome_iff_exists.mp hsome;obtain⟨_,j,_,rfl,_⟩:=zbM hv;have hd2:=sp _ _ (sH _ _ hd1);have hDy2:=sp _ _ hDy;have hm2:=hm.same sp;exists p,_,rfl,zy za,rfl,_,_,rfl,_,_,rfl,rfl,?_;have sA:=sH.trans sp;generalize upd H' p (.tup [.int (i:Nat),.str z])=H3 at sp hd2 hDy2 hm2 sA |-;exists _,rfl,_,rfl,d,_,rfl,.inl ⟨_,.inr z,.inr ⟨o,hd2⟩,rfl,hv.symm⟩,_,rfl,rfl,_,rfl,?_;by_cases ej:j=i
  ·subst ej
   rw[aK hv,append_nil] at tk;have ed:(!decide (V.int (j:Nat)=V.int (j:Nat)))=false:=by rw[aC rfl];rfl
   rw[ed];exact⟨fun e=>Bool.noConfusion e,fun _=>lcS.mk hlt ⟨us,rfl,sA,hDy2,by rw[tk];exact hm2⟩⟩
  ·have nv:¬yd (kvP fp) (.inr z)=some (.int (i:Nat)):=fun e=>by
    rw[hv] at e
    have:=V.int.inj (Option.some.inj e)
    omega
   rw[aJ nv] at tk;have ed:(!decide (V.int (j:Nat)=V.int (i:Nat)))=true:=by
    rw[aD (fun e=>by have:=V.int.inj e;omega)]
    rfl
   rw[ed];exists fun _=>?_,fun e=>Bool.noConfusion e;exists _,rfl,yG,fun t ht=>?_;have s4:=zd ht (.tup [.str "doubled",.int (i:Nat)]);have hDy4:=s4 _ _ hDy2;have hu:MA1 (upd H3 t (.tup [.str "doubled",.int (i:Nat)])) t ("doubled",i):=by
    show upd H3 t _ t=_;rw[za]
   refine lcN.mk hlt (z9 (by rw[aA];omega)) hDy4 (by rw[aA];exact lu) ⟨us++[t],by rw[aE];rfl,fun b' u' e'=>?_,za,?_⟩
   ·rw[zi (zj e' hD)]
    exact s4 _ _ (sA _ _ e')
   ·rw[tk]
    exact((hm2.same s4).snoc hu).upd hDy4
 rintro ys H2 ⟨us,rfl,s2,hDy,hm⟩;rw[aA,take_length] at hm;have s12:=s1.trans s2;have lov:(ur rows many).length<=900:=by
  unfold ur;split
  ·exact zero_le _
  ·rw[aA,length_range];omega
 have lun:(qb rows bars many fp).length<=900:=by
  unfold qb;exact Nat.le_trans (List.length_filterMap_le _ _) lfp
 have lla:=ju many (kvP fp) rows 0;have ldb:=zag (kvP fp) zs 0;have big : 4000<=sizeLine:=by decide
 exists _,rfl,_,rfl,_,rfl,f,many,rows,bars,rfl,lm,l5,hF.same s12,fun l3 H3 s3 ⟨us3,n3,e3,m3⟩=>?_;have lu0:=hm.length;have lu3:=m3.length;exists D,l3,_,_,rfl,rfl,s3 _ _ hDy,e3,(by simp only[aA];omega),fun p4 hp4=>?_
 rw[<- aE];have u4:=zd hp4 (.lst ((us++us3).map V.ref));have e4:upd H3 p4 (.lst ((us++us3).map V.ref)) p4=some (.lst ((us++us3).map V.ref)):=za;have m4:vk (upd H3 p4 (.lst ((us++us3).map V.ref))) (us++us3) _:=((hm.same s3).app m3).same u4;generalize upd H3 p4 (.lst ((us++us3).map V.ref))=H4 at u4 e4 m4 |-;have s24:=s2.trans (s3.trans u4);have s14:=s1.trans s24;exists _,rfl,_,rfl,_,rfl,f,d,o,many,rows,bars,fp,rfl,l5,lb5,lfp,hF.same s14,s24 _ _ hd1,fun l5' H5 s5 ⟨us5,n5,e5,m5⟩=>?_;have lu5:=m5.length;exists p4,l5',_,_,rfl,rfl,s5 _ _ e4,e5,(by simp only[aA,aG];omega),fun p6 hp6=>?_
 rw[<- aE];have u6:=zd hp6 (.lst ((us++us3++us5).map V.ref));have e6:upd H5 p6 (.lst ((us++us3++us5).map V.ref)) p6=some (.lst ((us++us3++us5).map V.ref)):=za;have m6:vk (upd H5 p6 (.lst ((us++us3++us5).map V.ref))) (us++us3++us5) _:=((m4.same s5).app m5).same u6;generalize upd H5 p6 (.lst ((us++us3++us5).map V.ref))=H6 at u6 e6 m6 |-;have s26:=s24.trans (s5.trans u6);have s16:=s1.trans s26;exists _,rfl,_,rfl,_,rfl,f,d,many,rows,bars,kvP fp,rfl,l5,hok,hF.same s16,.inr ⟨o,s26 _ _ hd1⟩,zjM fp,fun l7 H7 s7 ⟨us7,n7,e7,m7⟩=>?_;have lu7:=m7.length;exists p6,l7,_,_,rfl,rfl,s7 _ _ e6,e7,(by simp only[aA,aG];omega),fun p8 hp8=>?_
 rw[<- aE];have u8:=zd hp8 (.lst ((us++us3++us5++us7).map V.ref));refine q p8 _ (s16.trans (s7.trans u8)) ⟨us++us3++us5++us7,(s16.trans s7).free hp8,za,?_⟩;unfold u9;rw[hfp];exact((m6.same s7).app m7).same u8
end
end K84
namespace L2
open PySem PySem.Spec PyProof.Rows
def seen(val:Nat->Str)(T:Str->Bool):Nat->Nat->Str->Bool
 | _,0,z=>T z
 | i,k+1,z=>seen val (fun y=>T y||decide (y=val i)) (i+1) k z
section
variable {R:Result->Shared->Prop}{G:Array GenState->Array GenState->Prop}{n:Nat}{Pr:Nat->Value->Prop}{Sg:Nat->Shared->Prop}
theorem qc{P:Program}{w:World}{A:Around}{I:Addr}{fp wr:List Addr}(W:WalksS P w A.in1 I fp wr G n Pr Sg)(a:Addr)(ha:a∉fp)(val:Nat->Str)(hv:∀i v,Pr i v->∃t,v=.str (val i) t)(hb:n+1<scanBound):
  ∀(k i:Nat) (s:Shared) (T:Str->Bool) (c:Nat),n - i=k->i<=n->Sg i s->c<=i->s.heap.SetOf (strKind P w) a T c->
   (∀s' c',Moved (a::wr) G s s'->c'<=n->s'.heap.SetOf (strKind P w) a (seen val T i k) c'->R (.ok (.ret .none)) s')->
   codeAny (model P w) A (.builtin "set.update.loop" ⟨[.ref a,.ref I],[]⟩) R s
 | 0,i,s,T,c,hk,hi,hg,hc,hT,hR=>by
  have hw:a∉wr:=fun z=>ha (W.sub _ z);have ei:i=n:=by omega
  subst ei;refine codeAny_builtin PyProof.Rows.F.entry_set_update_loop ?_;rw[Around.under_plainId PyProof.Rows.F.plain_set_update_loop _];show wpAny _ A.in1 (pyNext (.ref I) >>= _) _ _ _;refine zwb (W.done s _ _ hg fun s' hm=>?_);show wpAny _ A.in1 (ret Value.none) _ _ _;refine zwp (hR s' c (hm.mono fun b z=>mem_cons_of_mem _ z) hc ?_);obtain⟨ob,es,ep,t,h1,h2⟩:=hT;exact⟨ob,es,ep,t,hm.heap a _ hw h1,h2⟩
 | k+1,i,s,T,c,hk,hi,hg,hc,hT,hR=>by
  have hw:a∉wr:=fun z=>ha (W.sub _ z);have hlt:i<n:=by omega
  refine codeAny_builtin PyProof.Rows.F.entry_set_update_loop ?_;rw[Around.under_plainId PyProof.Rows.F.plain_set_update_loop _];show wpAny _ A.in1 (pyNext (.ref I) >>= _) _ _ _;refine zwb (W.item i s _ _ hlt hg fun v s' hP hg' hm=>?_);obtain⟨t,rfl⟩:=hv i v hP;have hT':s'.heap.SetOf (strKind P w) a T c:=by
   obtain⟨ob,es,ep,tb,h1,h2⟩:=hT;exact⟨ob,es,ep,tb,hm.heap a _ hw h1,h2⟩
  show wpAny _ A.in1 (holding [Value.str (val i) t] (setAdd a (.str (val i) t)) >>= _) _ _ s';refine zwb (wpAny_holding ?_);unfold setAdd;refine wpAny_holding ?_;refine zwb ((strKind P w).pyHash (k:=val i) (strKind_is _ _ _ _) ?_);refine wpAny_setAddHashed_of (knd:=strKind P w) (s:={ s' with toks:=s'.toks+1 }) (strKind_is _ _ _ _) rfl hT' ∅ fun h' hsb h3=>?_
  refine zwp ⟨plainId_quiet PyProof.Rows.F.plain_set_update_loop _,qc W a ha val hv hb k (i+1) _ _ _ ∅ hlt (W.frame _ s' _ _ hg' (le_succ _) fun b hb' o e=>?_) (by split <;> omega) h3 fun s2 c2 hm2 hc2 h4=>?_⟩
  ·have:b≠a:=fun z=>ha (z ▸ hb')
   rw[hsb.2 b this];exact e
  ·refine hR s2 c2 (Moved.trans W.gtrans ((hm.mono fun b z=>mem_cons_of_mem _ z).then_heap (le_succ _) fun b o hb' e=>?_) hm2) hc2 h4
   have:b≠a:=fun z=>hb' (z ▸ mem_cons_self)
   rw[hsb.2 b this];exact e
abbrev wv(led:Bool):Obj:={ cls:=.type "set",dict:=none,data:=.set #[] 0 (.fresh 0 0 led) }
end
set_option maxHeartbeats 8000000 in
theorem zd8{P:Program}{w:World}{A:Around}{E:VSP}{s:Shared}{l:Addr}{items:Array Value}{zs:List Str}{Q:VSP}
  (hh:A.handled=none) (hl:s.heap.IsList l items) (hv:∀(i:Nat) (v:Value),items[i]?=some v->∃t,v=.str (zs.getD i "") t) (hb:items.size+1<scanBound)
  (h:∀(h':Heap) (tk c:Nat),h'.SetOf (strKind P w) s.heap.objs.size (seen (fun i=>zs.getD i "") (fun _=>false) 0 items.size) c->(∀b o,b<s.heap.objs.size->s.heap.get? b=some o->h'.get? b=some o)->Q (.ref s.heap.objs.size) { s with heap:=h',toks:=tk }) :
  wpAny (model P w) A (call (.type "set") [.ref l]) Q E s:=by
 obtain⟨mc,mt,mro⟩:=PySem.F.called_set.mro;have q1:=PySem.F.called_set.made;have q2:=PySem.F.called_set.sub;have q3:=PySem.F.called_set.notType;have q4:=PySem.F.called_set.canCreate;have q5:=PySem.F.typeCall_set_1 (.ref l);refine wpAny_call (codeAny_of_tree ?_);show wpAny _ _ (callAny (.type "set") _) _ _ _;refine zwp ⟨Code.quiet_builtin _ (by decide +kernel),codeAny_builtin PySem.F.entry_type_call ?_⟩;rw[Around.under_plain (weight_type_call_type "set" [.ref l] []) rfl]
 repeat (any_goals first|assumption|wp_step)
 refine codeAny_mono (code_set_new_1 (.ref l) (E:=E) (Q₁:=fun obj s₁=>∃led:Bool,obj=.ref s.heap.objs.size/\s₁={ s with heap:=s.heap.push (wv led) }) fun led=>⟨led,rfl,rfl⟩) fun r s₁ hr=>?_
 rcases r with e|(_|_|_|obj)
 ·exact hr
 ·exact hr.elim
 ·exact hr.elim
 ·exact hr.elim
 ·obtain⟨led,rfl,rfl⟩:=hr
  have hS:(s.heap.push (wv led)).get? s.heap.objs.size=some (wv led):=zgs _ rfl;have hT:Shared.TypeIs { s with heap:=s.heap.push (wv led) } (.ref s.heap.objs.size) "set":=⟨_,hS,rfl⟩
  have q6:=PySem.F.called_set.init.lookup;have q7:=PySem.F.called_set.init.bind (.ref s.heap.objs.size)
  repeat (any_goals first|assumption|wp_step)
  refine codeAny_mono (codeAny_call_builtin (R:=wants (fun r s₂=>r=.none/\∃h' tk c,s₂={ s with heap:=h',toks:=tk }/\h'.SetOf (strKind P w) s.heap.objs.size (seen (fun i=>zs.getD i "") (fun _=>false) 0 items.size) c/\∀b o,b<s.heap.objs.size->s.heap.get? b=some o->h'.get? b=some o) E) PySem.F.called_set.init.plain PySem.F.entry_set_init (check_set_init_1 hT ?_)) fun r₂ s₂ hr₂=>?_
  ·obtain⟨ol,hol,hcl,nl,hdl⟩:=id hl
   obtain⟨ocls,odict,odata,oslots⟩:=ol;simp only at hcl hdl;subst hcl hdl;have hol':(s.heap.push (wv led)).get? l=_:=zgp (wv led) hol;have t1:=PySem.F.sub_list_set;have t2:=PySem.F.sub_list_frozenset;have t3:(Value.type "list"==Value.type "dict")=false:=by decide
   have hl1:(s.heap.push (wv led)).IsList l items:=⟨_,hol',rfl,nl,rfl⟩;have hlS:l<s.heap.objs.size:=aI hol;unfold Builtin.«set.__init__» noKeywords Builtin.Frozenset.updateFrom;generalize hq:pyIter=pit
   wp_walk
   subst hq;refine wpAny_pyIter_list hl1 (zwb (wpAny_runValue ?_));have hz:(s.heap.push (wv led)).objs.size=s.heap.objs.size+1:=Heap.size_push ..;have n1:l≠(s.heap.push (wv led)).objs.size:=by rw[hz];exact ne_of_lt (lt_succ_of_lt hlS)
   have n2:∀b:Addr,b<s.heap.objs.size->b∉[s.heap.objs.size,(s.heap.push (wv led)).objs.size]:=fun b hb' z=>by
    rw[hz] at z;rcases List.mem_cons.mp z with e|e
    ·exact ne_of_lt hb' e
    ·exact ne_of_lt (lt_succ_of_lt hb') (List.mem_singleton.mp e)
   have n3:s.heap.objs.size∉[(s.heap.push (wv led)).objs.size,l]:=fun z=>by
    rw[hz] at z;rcases List.mem_cons.mp z with e|e
    ·exact ne_of_lt (lt_succ_self _) e
    ·exact ne_of_gt hlS (List.mem_singleton.mp e)
   refine qc ((Walks.list (by simp [hh]) _ l n1 items).toS) s.heap.objs.size n3 (fun i=>zs.getD i "") hv hb items.size 0 _ (fun _=>false) 0 ∅ (zero_le _) ⟨⟨_,zgs _ rfl,rfl,rfl⟩,hl1.push _⟩ (aF _) ?_ ?_
   ·exact(PyProof.Rows.setObjOf_fresh (knd:=strKind P w) led).setOf (zgp _ hS) (by unfold scanBound;omega)
   ·rintro⟨h',g',d',tk',os'⟩ c' hm hc' hS'
    have e1:g'=s.gens:=hm.gens;have e2:d'=s.drawn:=hm.drawn;have e3:os'=s.os:=hm.os;subst e1 e2 e3;show wpAny _ _ _ _ _ _;refine zwp ?_;show wpAny _ _ (ret Value.none) _ _ _;refine zwp ⟨rfl,h',tk',c',rfl,hS',fun b o hb' e=>hm.heap b o (n2 b hb') (zgp _ (zgp _ e))⟩
  ·rcases r₂ with e|(_|_|_|ob2)
   ·exact hr₂
   ·exact hr₂.elim
   ·exact hr₂.elim
   ·exact hr₂.elim
   ·obtain⟨rfl,h',tk,c',rfl,hS',hk'⟩:=hr₂
    repeat (any_goals first|assumption|wp_step)
    exact h _ _ _ hS' hk'
theorem zch(val:Nat->Str)(z:Str):∀(k i:Nat) (T:Str->Bool),seen val T i k z=true ↔ (T z=true\/∃j,j<k/\z=val (i+j))
 | 0,i,T=>⟨fun h=>.inl h,fun h=>h.elim id fun⟨j,hj,_⟩=>absurd hj (not_lt_zero _)⟩
 | k+1,i,T=>by
  show seen val (fun y=>T y||decide (y=val i)) (i+1) k z=true ↔ _
  rw[zch val z k (i+1)];simp only[Bool.or_eq_true,decide_eq_true_eq];constructor
  ·rintro ((h|h)|⟨j,hj,e⟩)
   ·exact .inl h
   ·exact .inr ⟨0,∅,h⟩
   ·exact .inr ⟨j+1,∅,by rw[show i+(j+1)=i+1+j by omega];exact e⟩
  ·rintro (h|⟨j,hj,e⟩)
   ·exact .inl (.inl h)
   ·cases j with
    | zero=>exact .inl (.inr e)
    | succ j=>exact .inr ⟨j,∅,by rw[show i+1+j=i+(j+1) by omega];exact e⟩
theorem zcg(zs:List Str)(z:Str):seen (fun i=>zs.getD i "") (fun _=>false) 0 zs.length z=decide (z∈zs):=by
 rw[Bool.eq_iff_iff,zch,decide_eq_true_eq];constructor
 ·rintro (h|⟨j,hj,e⟩)
  ·cases h
  ·rw[e,Nat.zero_add]
   show zs.getD j ""∈zs;rw[getD_eq_getElem?_getD,aB hj];exact getElem_mem hj
 ·intro h
  obtain⟨j,hj,e⟩:=List.mem_iff_getElem.mp h;refine .inr ⟨j,hj,?_⟩;rw[Nat.zero_add];show z=zs.getD j "";rw[getD_eq_getElem?_getD,aB hj];exact e.symm
theorem zV.strs_at:∀{zs:List Str}{us:List Value},zV (zs.map V.str) us->∀(i:Nat) (v:Value),us[i]?=some v->∃t,v=.str (zs.getD i "") t
 | [],_,.nil,i,v,h=>by simp at h
 | z::zs,_,.cons r t,0,v,h=>by
  obtain⟨tk,e⟩:=r
  have:v=.str z tk:=by rw[<- e];simpa using h.symm
  exact⟨tk,this⟩
 | z::zs,_,.cons r t,i+1,v,h=>zV.strs_at t i v (by simpa using h)
theorem zf7{X:Cx}(hc:X.calm=true):xq X (.type "set") (fun xs H Q=>∃(p:Addr) (zs:List Str),xs=[.ref p]/\SqL X.K H p (zs.map V.str)/\zs.length<=900/\∀(l:Addr) (n:Nat),H l=none->Q (.ref l) (upd H l (vJ X.prog X.w l (fun z=>decide (z∈zs)) n))):=by
 intro pins s σ H xs us Q I r h;obtain⟨p,zs,rfl,hS,lz,q⟩:=h;obtain⟨u,rfl,ru⟩:=wt r;cases ru;obtain⟨its,rv,hp,hz⟩:=I.list hS;have hl:its.length=zs.length:=by rw[<- rv.length,aA]
 have hb:its.toArray.size+1<scanBound:=by
  rw[size_toArray,hl];have : 1000<scanBound:=by unfold scanBound;decide
  omega
 refine zd8 (I.ok.hd hc) hp.isList (fun i v e=>rv.strs_at i v (by simpa using e)) hb fun h' tk c hS' hk=>?_
 have hsz:its.toArray.size=zs.length:=by rw[size_toArray,hl]
 rw[hsz] at hS';have eS:seen (fun i=>zs.getD i "") (fun _=>false) 0 zs.length=fun z=>decide (z∈zs):=funext (zcg zs);rw[eS] at hS';exists .ref s.heap.objs.size,_,I.laid (t':=tk) (fun b ob e=>hk b ob (aI e) e) (aF _) (zbh hS'),rfl,q _ c (I.hok.fresh (aF _))
end L2
namespace K84
open PySem L2 PyProof.Rows
theorem zil:∀(rows:List Rw) (i:Nat) (acc:List (Key×V)) (k:Key) (v:V),(∀k v,yd acc k=some v->∃j:Nat,v=.int (j:Nat))->yd (y8 i acc rows) k=some v->∃j:Nat,v=.int (j:Nat)
 | [],_,acc,k,v,h,e=>h k v e
 | r::rs,i,acc,k,v,h,e=>by
  refine zil rs (i+1) _ k v (fun k v e=>?_) e;split at e
  ·rw[zb1] at e
   split at e
   ·exact⟨i,(Option.some.inj e).symm⟩
   ·exact h k v e
  ·exact h k v e
theorem zfd{rows:List Rw}{bars:List Str}{many:Nat}{fp:List (Str×Nat)}{i:Nat}{p:Str×Nat}(h:fp[i]?=some p):qb rows bars many (fp.take (i+1))=qb rows bars many (fp.take i)++(match y3 rows bars many p.1 with|some wd=>[(wd,p.2)]|none=>[]):=by
 unfold qb;rw[take_add_one,h,List.filterMap_append]
 congr 1
 show List.filterMap _ [p]=_;rw[filterMap_cons,List.filterMap_nil];cases y3 rows bars many p.1 <;> rfl
theorem zgk(rows:List Rw)(bars:List Str)(many:Nat)(fp:List (Str×Nat)):(qb rows bars many fp).length<=fp.length:=List.length_filterMap_le _ _
section
variable {K:Frag}{mg:Str->Option Value}{f CF:Addr}{c:C5}
theorem zaF:zA ["form","many","firsts","barred","found","name","number","leads_to"] ["form","many","firsts"] (zh zkX):=fsc
theorem zln(F:Fun K "unwelcomes" "unwelcomes" zkX f fd)(hset:mg "set"=none)(FK:FC K CF)(mB:xv K CF "bars" gB)(GB:↥1 gB eB ["self"] (zbe c CF))(bB:yc K eB ["self"] [])(mN:xv K CF "number_of" gN)(GN:↥1 gN eN ["self","name"] (zgv c CF))(bN:yc K eN ["self","name"] [])
  (mG:xv K CF "bag" gG) (GG:↥1 gG eG ["self"] (vm c CF 4)) (bG:yc K eG ["self"] []) (mP:xv K CF "places" gP) (GP:↥1 gP eP ["self"] (wu c CF)) (bP:yc K eP ["self"] []) :
  ↥2 f fd ["form","many","firsts"] (zka c CF):=by
 specialize zaF;obtain⟨f,d,o,many,rows,bars,fp,rfl,l5,lb5,lfp,hF,hd,q⟩:=h;refine⟨_,zu (zx (i:=3) zaF.nd rfl (Or.inl rfl) (cTy (zf7 rfl) hset PyProof.Rows.boot_set (ac (yy (pv 0) FK.cl mB GB hr bB .nil yt) zc)))
  (zu (zx (i:=4) zaF.nd rfl (Or.inl rfl) (zT zc))
  (zu (yU PassesOwn.never rfl (zhi (pv 2)) (y6 rfl (zN (zo (i:=5) zaF.nd rfl (Or.inl rfl)) (zN (zo (i:=6) zaF.nd rfl (Or.inl rfl)) yH)))
   (zu (zx (i:=7) zaF.nd rfl (Or.inl rfl) (zeE (pv 0) FK.cl mN GN hr bN .nil yt (ac (pv 5) zc)))
   (zg (zS (zm qL (pv 5) (pv 3) (by with_unfolding_all rfl)) (zg (zZ (xw PySem.F.plainAttrs_list PySem.F.slot_list_append PySem.F.type_list_append ya (pv 4) (ac (z7 (ac zH (ac (pv 6) zc))) zc))))
    (zg (zS (wb (vz (pv 7))) (zg (zS (wb (vz (yy (pv 0) FK.cl mG GG hr bG .nil yt))) (zg (zZ (xw PySem.F.plainAttrs_list PySem.F.slot_list_append PySem.F.type_list_append ya (pv 4) (ac (z7 (ac zH (ac (pv 6) zc))) zc)))) zD))
     (zg (zS (yS (yO (zm vL (pv 7) (yy (pv 0) FK.cl mP GP hr bP .nil yt) (zF _)) (yB (zm vL (pv 7) (pv 1) (zF _))))) (zg (zZ (xw PySem.F.plainAttrs_list PySem.F.slot_list_append PySem.F.type_list_append ya (pv 4) (ac (z7 (ac zH (ac (pv 6) zc))) zc)))) zD))))))))
  (zg (zB (pv 4))))),?_⟩
 obtain⟨dx,fs,lr,lb,ld,ps0,h1,h2,h3,h4,h5,h6⟩:=id hF;have nmB:fs.lookup ("bars" : Str)=none:=h2.no _ (by decide +kernel)
 have nmN:fs.lookup ("number_of" : Str)=none:=h2.no _ (by decide +kernel)
 have nmG:fs.lookup ("bag" : Str)=none:=h2.no _ (by decide +kernel)
 have nmP:fs.lookup ("places" : Str)=none:=h2.no _ (by decide +kernel)
 exists _,rfl,f,dx,fs,rfl,h1,nmB,f,rows,bars,rfl,hF,fun lb1 H1 s1 nb eb=>?_;exists lb1,bars,rfl,zf eb,∅,fun sS nS hS=>?_
 have u2:=zd hS (vJ P w sS (fun z=>decide (z∈bars)) nS);have e2:upd H1 sS (vJ P w sS (fun z=>decide (z∈bars)) nS) sS=some (vJ P w sS (fun z=>decide (z∈bars)) nS):=za;show jj _ _ _ _ (upd H1 sS (vJ P w sS (fun z=>decide (z∈bars)) nS));generalize upd H1 sS (vJ P w sS (fun z=>decide (z∈bars)) nS)=H2 at u2 e2 |-;exists wN,fun l hl=>?_;have u3:=zd hl (.lst []);have e3:upd H2 l (.lst []) l=some (.lst []):=za;show jj _ _ _ _ (upd H2 l (.lst []));generalize upd H2 l (.lst [])=H3 at u3 e3 |-;have s2:=s1.trans u2;have s3:=s2.trans u3;have hlH:H l=none:=s2.free hl;have nl:∀{b:Addr}{u:HO},H2 b=some u->b≠l:=fun e=>zj e hl;have sHl:∀{H':Hp},(∀b u,H2 b=some u->H' b=some u)->zq H H':=fun k b u e=>k b u (s2 _ _ e);refine⟨_,rfl,d,o,kvP fp,rfl,s3 _ _ hd,zf1 (d:=d) (o:=o) (kvs:=kvP fp) (fun i σ H'=>∃us v5 v6 v7,σ=[~~~f,some (.int (many:Nat)),~~~d,~~~sS,~~~l,v5,v6,v7]/\(∀b u,H2 b=some u->H' b=some u)/\H' l=some (.lst (us.map V.ref))/\vk H' us (qb rows bars many (fp.take i)))
  ⟨[],_,_,_,rfl,fun _ _ e=>u3 _ _ e,e3,.nil⟩ (fun i σ H' _ ⟨_,_,_,_,_,sH,_⟩=>sH _ _ (s2 _ _ hd)) ?_ ?_⟩
 ·rintro i k v p σ H' hk ⟨us,v5,v6,v7,rfl,sH,hl',hm⟩ hpn
  obtain⟨z,n,hz,rfl,rfl⟩:∃(z:Str) (n:Nat),fp[i]?=some (z,n)/\k=.inr z/\v=.int (n:Nat):=by
   unfold kvP at hk;rw[getElem?_map] at hk;cases e:fp[i]? with
   | none=>rw[e] at hk;cases hk
   | some q=>rw[e] at hk;cases hk;exact⟨q.1,q.2,rfl,rfl,rfl⟩
  have tk:=zfd (rows:=rows) (bars:=bars) (many:=many) hz;dsimp only at tk;have sp:=zd hpn (.tup [kV (.inr z),.int (n:Nat)]);have lu:us.length<=i:=by
   rw[hm.length];refine Nat.le_trans (zgk _ _ _ _) ?_;rw[length_take];omega
  have hi:i<fp.length:=(List.getElem?_eq_some_iff.mp hz).1;have sH1:∀b u,H2 b=some u->upd H' p (.tup [kV (.inr z),.int (n:Nat)]) b=some u:=fun b u e=>sp _ _ (sH b u e);have hl1:=sp _ _ hl';have hm1:=hm.same sp;exists p,_,rfl,zy za,rfl,_,_,rfl,_,_,rfl,rfl,?_;generalize upd H' p (.tup [kV (.inr z),.int (n:Nat)])=H4 at sH1 hl1 hm1 |-;have s4:=sHl sH1;exists _,rfl,f,dx,fs,rfl,s4 _ _ h1,nmN,_,rfl,f,z,rows,bars,rfl,hF.same s4,?_;exists _,rfl,_,rfl,sS,_,_,z,rfl,rfl,sH1 _ _ e2,_,rfl,?_;by_cases hz1:z∈bars
  ·refine dT hz1 ?_
   rw[show y3 rows bars many z=some "barred" from aK hz1] at tk;exists _,rfl,.inl ⟨rfl,_,zf hl1⟩,_,rfl,yG,fun t ht=>?_;have s6:=zd ht (.tup [.str "barred",.int (n:Nat)]);have hl6:=s6 _ _ hl1;have hu2:MA1 (upd H4 t (.tup [.str "barred",.int (n:Nat)])) t ("barred",n):=by
    show upd H4 t _ t=_;rw[za]
   exists l,_,.ref t,rfl,rfl,hl6,zY (by rw[aA];omega),?_
   exists us++[t],_,_,_,rfl,fun b u e=>?_,by rw[za,aE];rfl,?_
   ·rw[zi (nl e)]
    exact s6 _ _ (sH1 b u e)
   ·rw[tk]
    exact((hm1.same s6).snoc hu2).upd hl6
  ·refine dF hz1 ?_
   have e0:y3 rows bars many z=(match y3.lastD' z rows with|none=>if (zQ 4 0 rows).isSome=true then none else some "strange"|some l=>if l<plN rows/\l<many then some "again" else none):=aJ hz1
   cases ev:yd (y8 0 [] rows) (.inr z) with
   | none=>
    have e1:y3.lastD' z rows=none:=by unfold y3.lastD';rw[ev]
    rw[e1] at e0;exists _,rfl,_,rfl,?_;refine dT rfl ?_;exists _,rfl,f,dx,fs,rfl,s4 _ _ h1,nmG,f,rows,bars,rfl,hF.same s4,_,rfl,?_;cases eg:zQ 4 0 rows with
    | none=>
     have e2':y3 rows bars many z=some "strange":=by rw[e0,eg];rfl
     refine dT rfl ?_;rw[show y3 rows bars many z=some "strange" from e2'] at tk;exists _,rfl,.inl ⟨rfl,_,zf hl1⟩,_,rfl,yG,fun t ht=>?_;have s6:=zd ht (.tup [.str "strange",.int (n:Nat)]);have hl6:=s6 _ _ hl1;have hu2:MA1 (upd H4 t (.tup [.str "strange",.int (n:Nat)])) t ("strange",n):=by
      show upd H4 t _ t=_;rw[za]
     exists l,_,.ref t,rfl,rfl,hl6,zY (by rw[aA];omega),?_
     exists us++[t],_,_,_,rfl,fun b u e=>?_,by rw[za,aE];rfl,?_
     ·rw[zi (nl e)]
      exact s6 _ _ (sH1 b u e)
     ·rw[tk]
      exact((hm1.same s6).snoc hu2).upd hl6
    | some j=>
     have e2':y3 rows bars many z=none:=by rw[e0,eg];rfl
     refine dF (by intro z;cases z) ?_
     rw[show y3 rows bars many z=none from e2',append_nil] at tk;exact⟨us,_,_,_,rfl,sH1,hl1,by rw[tk];exact hm1⟩
   | some v=>
    obtain⟨j,rfl⟩:=zil rows 0 [] (.inr z) v (fun k v e=>by cases e) ev
    have e1:y3.lastD' z rows=some j:=by unfold y3.lastD';rw[ev];rfl
    rw[e1] at e0;exists _,rfl,_,rfl,?_;refine dF (by intro z;cases z) ?_
    exists _,rfl,_,rfl,f,dx,fs,rfl,s4 _ _ h1,nmP,f,rows,bars,rfl,hF.same s4,_,_,rfl,rfl,_,rfl,?_;by_cases hj1:j<plN rows
    ·refine xA (aC (by show(j:Int)<(plN rows:Int);omega)) ?_
     exists _,rfl,_,rfl,_,_,rfl,rfl,_,rfl,?_;by_cases hj2:j<many
     ·have e2':y3 rows bars many z=some "again":=by rw[e0];exact aK ⟨hj1,hj2⟩
      refine xA (aC (by show(j:Int)<(many:Int);omega)) ?_
      rw[show y3 rows bars many z=some "again" from e2'] at tk;exists _,rfl,.inl ⟨rfl,_,zf hl1⟩,_,rfl,yG,fun t ht=>?_;have s6:=zd ht (.tup [.str "again",.int (n:Nat)]);have hl6:=s6 _ _ hl1;have hu2:MA1 (upd H4 t (.tup [.str "again",.int (n:Nat)])) t ("again",n):=by
       show upd H4 t _ t=_;rw[za]
      exists l,_,.ref t,rfl,rfl,hl6,zY (by rw[aA];omega),?_
      exists us++[t],_,_,_,rfl,fun b u e=>?_,by rw[za,aE];rfl,?_
      ·rw[zi (nl e)]
       exact s6 _ _ (sH1 b u e)
      ·rw[tk]
       exact((hm1.same s6).snoc hu2).upd hl6
     ·have e2':y3 rows bars many z=none:=by rw[e0];exact aJ fun h=>hj2 h.2
      refine yZ (aD (by show ¬(j:Int)<(many:Int);omega)) ?_
      rw[show y3 rows bars many z=none from e2',append_nil] at tk;exact⟨us,_,_,_,rfl,sH1,hl1,by rw[tk];exact hm1⟩
    ·have e2':y3 rows bars many z=none:=by rw[e0];exact aJ fun h=>hj1 h.1
     refine yZ (aD (by show ¬(j:Int)<(plN rows:Int);omega)) ?_
     refine yD ?_;rw[show y3 rows bars many z=none from e2',append_nil] at tk;exact⟨us,_,_,_,rfl,sH1,hl1,by rw[tk];exact hm1⟩
 ·rintro σ H' ⟨us,v5,v6,v7,rfl,sH,hl',hm⟩
  have lk:(kvP fp).length=fp.length:=by unfold kvP;rw[aA]
  rw[lk,take_length] at hm;exact⟨_,rfl,q l H' (sHl sH) ⟨us,hlH,hl',hm⟩⟩
def qP(rows:List Rw)(bars:List Str)(c:List vE):List (Str×Nat):=u9 rows bars (xz c).length (y7 c)
structure zef(K:Frag)(H:Hp)(a:Addr)(ct:List vE):Prop where
 at_:∃xs,SqL K H a xs/\Paired (zR K T' H 3) xs (ct.map jH)
 lt:(xz ct).length<=900
 lp:(xI ct).length<=900
structure xG(c:C5)(CF:Addr)(H:Hp)(f:Addr)(rows:List Rw)(bars:List Str):Prop where
 at_:xX c CF H f rows bars
 lr:rows.length<=500
 lb:bars.length<=500
 ok:∀r∈rows,r.ok
theorem xG.same(h:xG c CF H f rows bars)(s:zq H H'):xG c CF H' f rows bars:=⟨h.at_.same s,h.lr,h.lb,h.ok⟩
inductive zkg(K:Frag)(c:C5)(CF:Addr)(vs:List V)(H:Hp)(Q:VK)(E:XK):Prop|mk(f a:Addr)(rows:List Rw)(bars:List Str)(ct:List vE):vs=[.ref f,.ref a]->xG c CF H f rows bars->zef K H a ct->(∀(l:Addr) (H':Hp),zq H H'->zc1 H H' l (qP rows bars ct)->Q (.ref l) H')->zkg K c CF vs H Q E
theorem zgL:zA ["form","call","many","names"] ["form","call"] (zh qu):=fsc
theorem zlu(F:Fun K "misfits" "misfits" qu f fd)(c1:⇑2 "shape" g1 d1 ["call"] (zen K))(c2:⇑4 "misfits_of" g2 d2 ["form","many","names"] (zkh c CF)):↥5 f fd ["form","call"] (zkg K c CF):=by
 specialize zgL;obtain⟨f,a,rows,bars,ct,rfl,hF,⟨⟨xs,hx,hc⟩,lt,lp⟩,q⟩:=h;have hr2:yk 2 _:=hr.mono ⋯
 refine⟨_,zu (vt (cF c1 hr2 (ac (pv 1) zc)) (y6 rfl (zN (zo (i:=2) zgL.nd rfl (Or.inl rfl)) (zN (zo (i:=3) zgL.nd rfl (Or.inl rfl)) yH))))
  (zg (zB (cF c2 hr (ac (pv 0) (ac (pv 2) (ac (pv 3) zc)))))),?_⟩
 exists _,rfl,a,ct,xs,rfl,hx,hc,lt,lp,fun p l H1 s1 nl ep el=>?_;exists p,_,rfl,zy ep,rfl,_,_,rfl,_,_,rfl,rfl,?_;have hF1:=hF.same s1;have ln:(y7 ct).length<=900:=by unfold y7;rw[aA];exact lp
 exact⟨_,rfl,_,rfl,_,rfl,f,l,(xz ct).length,rows,bars,y7 ct,rfl,hF.lr,hF.lb,lt,ln,hF.ok,hF1.at_,el,fun l2 H2 s2 ⟨us,n2,e2,m2⟩=>q l2 H2 (s1.trans s2) ⟨us,s1.free n2,e2,m2⟩⟩
end
end K84
namespace L2
open PySem PySem.Spec PyProof.Rows
section
theorem zgc(hc:X.calm=true):xq X (.builtin "any") (fun xs H Q=>∃(p:Addr) (bs:List Bool),xs=[.ref p]/\SqL X.K H p (bs.map V.bl)/\Q (.bl (bs.any id)) H):=by
 intro pins s σ H xs us Q I r h;obtain⟨p,bs,rfl,hS,q⟩:=h;obtain⟨u,rfl,ru⟩:=wt r;cases ru;obtain⟨its,rv,hp,hz⟩:=I.list hS;have hlen:its.length=bs.length:=by rw[<- rv.length,aA]
 have hne:p≠s.heap.objs.size:=ne_of_lt (by obtain⟨_,e,_⟩:=hp.isList;exact aI e)
 refine call_any_walk (wpAny_pyIter_list hp.isList ?_);exists s.heap.objs.size,_,_,_,_,_,fun i=>bs.getD i false,rfl,Walks.list (A:=X.A.in1) (I.ok.hd hc) s.heap.objs.size p hne its.toArray,⟨⟨_,zgs _ rfl,rfl,rfl⟩,hp.isList.push _⟩,?_,fun h' tk k=>?_
 ·intro i v s' Q' E' hP hQ
  have hv:its[i]?=some v:=by simpa using hP
  have hi:i<bs.length:=by rw[<- hlen];exact(List.getElem?_eq_some_iff.mp hv).1
  obtain⟨u',e1,e2⟩:=rv.get (i:=i) (x:=V.bl bs[i]) (by rw[getElem?_map,aB hi];rfl)
  rw[hv] at e1;cases e1;cases e2;refine wpAny_truthy_bool ?_
  have:bs.getD i false=bs[i]:=by rw[getD_eq_getElem?_getD,aB hi];rfl
  rw[<- this];exact hQ
 ·have e:((List.range its.toArray.size).any fun i=>bs.getD i false)=bs.any id:=by
   rw[size_toArray,hlen,Bool.eq_iff_iff,any_eq_true,any_eq_true];constructor
   ·rintro⟨i,hi,hb⟩
    have hi':=List.mem_range.mp hi;rw[getD_eq_getElem?_getD,aB hi'] at hb;exact⟨_,getElem_mem hi',hb⟩
   ·rintro⟨b,hb,h1⟩
    obtain⟨i,hi,rfl⟩:=List.getElem_of_mem hb;exists i,List.mem_range.mpr hi,?_;rw[getD_eq_getElem?_getD,aB hi];exact h1
  rw[e];exact⟨.bl (bs.any id),H,I.kept (h':=h') (t':=tk) (fun b o q=>k b o (fun hm=>by
   have e:b=s.heap.objs.size:=by simpa using hm
   exact absurd (aI q) (by rw[e];exact lt_irrefl _)) (zgp _ q)),rfl,q⟩
def yJ(n:Nat):List Int:=(List.range n).map fun (i:Nat)=>(i:Int)
theorem zV.of_at{ts:List Int}:∀{us:List Value},us.length=ts.length->(∀(i:Nat) (v:Value),us[i]?=some v->∃t,v=Value.int (ts.getD i 0) t)->zV (ts.map V.int) us:=by
 induction ts with
 | nil=>
  intro us hl _
  have:us=[]:=List.length_eq_zero_iff.mp hl
  subst this;exact .nil
 | cons t ts ih=>
  intro us hl h;cases us with
  | nil=>cases hl
  | cons u us=>
   obtain⟨k,e⟩:=h 0 u rfl;exact .cons ⟨k,e⟩ (ih (by simpa using hl) fun i v e=>h (i+1) v e)
theorem ziu:xq X (.type "range") (fun xs H Q=>∃n:Nat,xs=[.int (n:Nat)]/\∀p,H p=none->Q (.ref p) (upd H p (.rng 0 (n:Nat)))):=by
 intro pins s σ H xs us Q I r h;obtain⟨n,rfl,q⟩:=h;obtain⟨u,rfl,ru⟩:=wt r;obtain⟨t,rfl⟩:=ru;refine call_range_1 ?_;exists .ref s.heap.objs.size,_,I.laid (o:=.rng 0 (n:Nat)) (fun b u e=>zgp _ e) (aF _) ?_,rfl,q _ (I.hok.fresh (aF _));exact⟨_,_,_,zgs _ rfl⟩
theorem zd9(hc:X.calm=true):xq X (.type "list") (fun xs H Q=>∃(p:Addr) (n:Nat),xs=[.ref p]/\H p=some (.rng 0 (n:Nat))/\n<=900/\∀l,H l=none->Q (.ref l) (upd H l (.lst ((yJ n).map V.int)))):=by
 intro pins s σ H xs us Q I r h;obtain⟨p,n,rfl,hp,hn,q⟩:=h;obtain⟨u,rfl,ru⟩:=wt r;cases ru;obtain⟨t,u',v',e⟩:=I.hok p _ hp;refine call_list_range (n:=n) (I.ok.hd hc) e ?_ ?_ ∅ fun h' tk acc c' hk he hacc=>?_
 ·exact small_one ∅ ∅ ∅ ∅
 ·unfold Builtin.Range.rangeSize
  rw[aK ⋯]
  split <;> omega
 ·have hl:acc.toList.length=(yJ n).length:=by
   unfold yJ;rw[aA,length_range];simpa using hacc.1
  have hv:zV ((yJ n).map V.int) acc.toList:=zV.of_at hl fun i v e=>by
   obtain⟨t,rfl⟩:=hacc.2 i v (by simpa using e)
   exists t,?_;have hi:i<n:=by
    have:=(List.getElem?_eq_some_iff.mp e).1
    rw[hl] at this;unfold yJ at this;simpa using this
   have eg:(yJ n).getD i 0=(i:Int):=by
    unfold yJ;rw[getD_eq_getElem?_getD,getElem?_map,getElem?_range hi];rfl
   rw[eg];simp
  exists .ref s.heap.objs.size,_,I.laid (t':=tk) (o:=.lst ((yJ n).map V.int)) hk (aF _) ⟨?_,acc.toList,c',hv,by simpa using he⟩,rfl,q _ (I.hok.fresh (aF _))
  unfold yJ;rw[aA,aA,length_range];have : 1000<=sizeLine:=by decide
  omega
end
end L2
namespace L2
open PySem PySem.W PySem.Builtin PySem.Builtin.ObjectAttr PySem.Spec PyProof.Rows
section
variable {E:VSP}
end
end L2
namespace L2
open PySem PySem.W PySem.Builtin PySem.Builtin.ObjectAttr PySem.Builtin.Getset_descriptor PySem.Spec PyProof.Rows
section
variable {E:VSP}
end
end L2
namespace L2
open PySem PySem.Spec PyProof.Rows
section
variable {E:VSP}
variable {ta tv:TE}
end
section
variable {CX:CXT}{k:Nat}{sp:Sp}{t:TA}
def drop(H:Hp)(a:Addr):Hp:=fun b=>if b=a then none else H b
end
section
variable {E:VSP}
end
section
variable {te:TE}
variable {mg:Str->Option Value}
variable {t:TA}
end
section
variable {E:VSP}{i:Nat}
variable {tb:XK->TS}{ts:TS}{ok:Value->Prop}
end
section
variable {t:TA}{k:Nat}{sp:Sp}
end
section
variable {E:VSP}{Q:Unit->Shared->Prop}
end
section
variable {te:TE}
variable {mg:Str->Option Value}
variable {k:Nat}{sp:Sp}{t:TA}
variable {i:Nat}{ts:TS}
variable {tb:XK->TS}
end
section
variable {E:VSP}
variable {ta:TE}
end
end L2
namespace L2
open PySem PySem.Spec PyProof.Rows PySem.Builtin
section
variable {E:VSP}{x left step:Int}{Q:Option Value->Shared->Prop}
end
end L2
namespace L2
open PySem PySem.Spec PyProof.Rows
structure zmX(ea:Addr)(P:Program)(w:World)(K:Frag)(tg:Expr)(J:It)(fp:List Addr)(it:Addr)(tn:Nat->Heap->Prop):Prop where
 mem:it∈fp
 obj:∀i h,tn i h->∀b∈fp,∃o,h.get? b=some o/\∀v,o.data≠.cell v
 keep:∀i h h',tn i h->(∀b∈fp,∀o,h.get? b=some o->h'.get? b=some o)->tn i h'
 item:∀(X:Cx),X.prog=P->X.w=w->X.K=K->X.A.handled=some (.ref ea)->∀(i:Nat) (pins:PnL) (s:Shared) (σ : St) (H:Hp) (E:VSP),Inv X pins σ H s->(∀b∈fp,xQ X pins H b)->tn i s.heap->J.go i H->
  wpAny (model P w) X.A (pyNext (.ref it)) (fun r s1=>∃u,r=some u/\
   wpAny (model P w) X.A (letOwnedTupleGo tg (.ref it) u) (fun _ s2=>∃x H',Inv X pins σ H' s2/\z5 x u/\J.yld i H x H'/\tn (i+1) s2.heap/\∀b∈fp,H' b=none) E s1) E s
 done:∀(X:Cx),X.prog=P->X.w=w->X.K=K->X.A.handled=some (.ref ea)->∀(i:Nat) (pins:PnL) (s:Shared) (σ : St) (H:Hp) (E:VSP),Inv X pins σ H s->(∀b∈fp,xQ X pins H b)->tn i s.heap->J.stop i H->
  wpAny (model P w) X.A (pyNext (.ref it)) (fun r s1=>r=none/\Inv X pins σ H s1) E s
 self:∀(A:Around) (i:Nat) (s:Shared) (Q:VSP) (E:VSP),tn i s.heap->Q (.ref it) s->wpAny (model P w) A (pyIter (.ref it)) Q E s
def zoc(X:Cx)(ea:Addr)(pins:PnL)(σ : St)(tg:Expr)(R:It->Hp->Prop)(itv:Value)(s2:Shared):Prop:=
 ∃(it:Addr) (fp:List Addr) (tn:Nat->Heap->Prop) (J:It) (H':Hp),itv=.ref it/\Inv X pins σ H' s2/\zmX ea X.prog X.w X.K tg J fp it tn/\tn 0 s2.heap/\(∀b∈fp,xQ X pins H' b)/\R J H'
section
variable {g:TG}{tt:TT}{te:TE}{E:VSP}
variable {i:Nat}{ts:TS}
end
end L2
namespace L2
open PySem PySem.Spec PyProof.Rows PySem.Builtin
section
variable {E:VSP}{i:Nat}{Q:Option Value->Shared->Prop}
variable {g:TG}{tt:TT}{te:TE}
end
end L2
namespace L2
open PySem PySem.Spec PyProof.Rows
section
variable {i:Nat}{ts:TS}
variable {mg:Str->Option Value}
variable {k:Nat}{sp:Addr->Sp}{t:TA}
theorem zfi{K:Frag}{H3:Hp}{o:HO}{l b:Addr}{zs:List V}(hl:∃zs,H3 l=some (.lst zs))(hz:SqT K H3 b zs):SqT K (upd H3 l o) b zs:=by
 obtain⟨ws,hl⟩:=hl;rcases hz with (z|⟨u,z⟩)|z
 ·refine .inl (.inl ?_)
  rw[zi (fun e=>by subst e;rw[hl] at z;cases z)]
  exact z
 ·refine .inl (.inr ⟨u,?_⟩)
  rw[zi (fun e=>by subst e;rw[hl] at z;cases z)]
  exact z
 ·exact .inr z
theorem vd{K:Frag}{ok ok':Addr->Prop}{H:Hp}{o:HO}{l:Addr}{zs:List V}(hl:H l=some (.lst zs))(hk:∀b,ok b->ok' b/\b≠l){n:Nat}{x:V}{d:Dt}(h:zR K ok H n x d):zR K ok' (upd H l o) n x d:=
 h.frame (fun a xs z=>zfi ⟨_,hl⟩ z) fun a xs oa z=>⟨(hk a oa).1,by rw[zi (hk a oa).2];exact z⟩
theorem zhY{K:Frag}{lo:Int}{n m:Nat}{caps:List (Option Nat)}{g:TG}{tt:TT}{te:TE}{σ : St}{H1:Hp}{Q:VK}{D:Addr}(dt:Nat->Dt)(hD:H1 D=none)(hn:n<=1000)
  (hs:∀(i:Nat) (H:Hp) (Qf:VK) (Qs:Hp->Prop),i<n->zq H1 H->(∀v H',zq H H'->zR K (fun a=>H a=none) H' m v (dt i)->Qf v H')->
   g (.int (lo+i)) (yW caps σ) H fun σ2 H2=>tt σ2 H2 fun ok H3=>(ok=true->te σ2 H3 Qf)/\(ok=false->Qs H3))
  (hd:∀vs H,zq H1 H->H D=some (.lst vs)->Paired (zR K (fun a=>a≠D/\H1 a=none) H m) vs ((List.range n).map dt)->Q (.ref D) H):LCr (Itr lo n) caps g tt te σ H1 Q D:=by
 have sz : 1000<=sizeLine:=by decide
 refine qR (fun i ys H'=>zq H1 H'/\H' D=some (.lst ys)/\Paired (zR K (fun a=>a≠D/\H1 a=none) H' m) ys ((List.range i).map dt)) ⟨fun b u e=>by rw[zi (zj e hD)];exact e,za,.nil⟩ ?_ ?_
 ·rintro i ys H hi ⟨sH,hDy,hp⟩
  refine hs i H _ _ hi sH fun v H' s' hv=>?_;have ly:ys.length=i:=by rw[hp.length,aA,length_range]
  refine lcN.mk hi ∅ (s' _ _ hDy) ∅ ⟨fun b u e=>?_,za,?_⟩
  ·rw[zi (zj e hD)]
   exact s' _ _ (sH _ _ e)
  ·rw[range_succ,aE]
   refine Paired.snoc (zO (fun _ _ z=>vd (s' _ _ hDy) (fun b o=>⟨o,o.1⟩) (z.same s')) hp) (vd (s' _ _ hDy) (fun b o=>?_) hv);have nb:b≠D:=fun e=>by subst e;rw[o] at hDy;cases hDy
   exact⟨⟨nb,sH.free o⟩,nb⟩
 ·rintro ys H ⟨sH,hDy,hp⟩
  exact hd ys H sH hDy hp
theorem zhZ{K:Frag}{a:Addr}{xs:List V}{m:Nat}{caps:List (Option Nat)}{g:TG}{tt:TT}{te:TE}{σ : St}{H1:Hp}{Q:VK}{D:Addr}(dt:Nat->Dt)(hD:H1 D=none)(ha:SqL K H1 a xs)(hn:xs.length<=1000)
  (hs:∀(i:Nat) (x:V) (H:Hp) (Qf:VK) (Qs:Hp->Prop),xs[i]?=some x->zq H1 H->(∀v H',zq H H'->zR K (fun a=>H a=none) H' m v (dt i)->Qf v H')->
   g x (yW caps σ) H fun σ2 H2=>tt σ2 H2 fun ok H3=>(ok=true->te σ2 H3 Qf)/\(ok=false->Qs H3))
  (hd:∀vs H,zq H1 H->H D=some (.lst vs)->Paired (zR K (fun a=>a≠D/\H1 a=none) H m) vs ((List.range xs.length).map dt)->Q (.ref D) H):LCr (Itl K a) caps g tt te σ H1 Q D:=by
 have sz : 1000<=sizeLine:=by decide
 refine wG (K:=K) (xs:=xs) (fun i ys H'=>zq H1 H'/\H' D=some (.lst ys)/\Paired (zR K (fun a=>a≠D/\H1 a=none) H' m) ys ((List.range i).map dt)) ⟨fun b u e=>by rw[zi (zj e hD)];exact e,za,.nil⟩ (fun i ys H h=>h.1.seq ha) ?_ ?_
 ·rintro i x ys H hi hx ⟨sH,hDy,hp⟩
  refine hs i x H _ _ hx sH fun v H' s' hv=>?_;have ly:ys.length=i:=by rw[hp.length,aA,length_range]
  refine lcN.mk hi ∅ (s' _ _ hDy) ∅ ⟨fun b u e=>?_,za,?_⟩
  ·rw[zi (zj e hD)]
   exact s' _ _ (sH _ _ e)
  ·rw[range_succ,aE]
   refine Paired.snoc (zO (fun _ _ z=>vd (s' _ _ hDy) (fun b o=>⟨o,o.1⟩) (z.same s')) hp) (vd (s' _ _ hDy) (fun b o=>?_) hv);have nb:b≠D:=fun e=>by subst e;rw[o] at hDy;cases hDy
   exact⟨⟨nb,sH.free o⟩,nb⟩
 ·rintro ys H ⟨sH,hDy,hp⟩
  exact hd ys H sH hDy hp
theorem zjG{n:Nat}(h:n<=1000):n<=sizeLine:=le_of_lt (zY h)
theorem zaX{α : Type}{ys:List α}{i:Nat}{y : α}(keep : α->Bool)(hy:ys[i]?=some y):(ys.take (i+1)).filter keep=(ys.take i).filter keep++(if keep y=true then [y] else []):=by
 have hi:i<ys.length:=(List.getElem?_eq_some_iff.mp hy).1;have e:ys[i]=y:=(List.getElem?_eq_some_iff.mp hy).2;rw[take_succ_eq_append_getElem hi,filter_append,e,filter_cons];rfl
theorem zjO{α : Type}{ys:List α}{i:Nat}(keep : α->Bool):((ys.take i).filter keep).length<=i:=by
 have:=length_filter_le keep (ys.take i)
 rw[length_take] at this;omega
theorem vA{α : Type}{K:Frag}{a:Addr}{xs:List V}{caps:List (Option Nat)}{g:TG}{tt:TT}{te:TE}{σ : L2.St}{H1:Hp}{Q:VK}{D:Addr}(ys:List α)(keep : α->Bool)(out : α->V)(hD:H1 D=none)(ha:SqL K H1 a xs)(hl:xs.length=ys.length)(hn:xs.length<=1000)
  (hs:∀(i:Nat) (x:V) (y : α) (H:Hp) (N:VK) (S:Hp->Prop),xs[i]?=some x->ys[i]?=some y->zq H1 H->(∀H',zq H H'->keep y=true->N (out y) H')->(∀H',zq H H'->keep y=false->S H')->g x (yW caps σ) H fun σ2 H2=>tt σ2 H2 fun ok H3=>(ok=true->te σ2 H3 N)/\(ok=false->S H3))
  (hd:∀H,zq H1 H->H D=some (.lst ((ys.filter keep).map out))->Q (.ref D) H):LCr (Itl K a) caps g tt te σ H1 Q D:=by
 refine wG (K:=K) (xs:=xs) (fun i zs H'=>zq H1 H'/\H' D=some (.lst zs)/\zs=((ys.take i).filter keep).map out) ⟨zd hD _,za,rfl⟩ (fun i zs H' h=>h.1.seq ha) ?_ ?_
 ·rintro i x zs H' hlt hx ⟨sH,hDy,ez⟩
  obtain⟨y,hy⟩:∃y,ys[i]?=some y:=⟨_,aB ∅⟩
  refine hs i x y H' _ _ hx hy sH (fun H2 s2 hk=>?_) (fun H2 s2 hk=>?_)
  ·refine lcN.mk hlt (zjG hn) (s2 _ _ hDy) (by rw[ez,aA];exact zjO _) ⟨fun b' u e=>?_,za,?_⟩
   ·rw[zi (zj e hD)]
    exact s2 _ _ (sH b' u e)
   ·rw[ez,zaX keep hy,aK hk,aE]
    rfl
  ·refine lcS.mk hlt ⟨sH.trans s2,s2 _ _ hDy,?_⟩
   rw[ez,zaX keep hy,aJ (by rw[hk];exact zft),append_nil]
 ·rintro zs H2 ⟨s2,hDy,ez⟩
  rw[take_of_length_le ∅] at ez
  rw[ez] at hDy;exact hd H2 s2 hDy
end
end L2
namespace L2
open PySem PySem.Spec PyProof.Rows PySem.Builtin
section
variable {E:VSP}{i:Nat}{Q:Option Value->Shared->Prop}
end
end L2
namespace L2
open PySem PySem.Spec PyProof.Rows
section
theorem vU{α : Type}{R:Addr->α->Prop}{us:List Addr}{rows:List α}(h:Paired R us rows)(keep : α->Bool):∃vs:List Addr,((us.zip rows).filter fun p=>keep p.2).map (fun p=>V.ref p.1)=vs.map V.ref/\Paired R vs (rows.filter keep):=by
 induction h with
 | nil=>exact⟨[],rfl,.nil⟩
 | cons r t ih=>
  rename_i u y us ys;obtain⟨vs,e,p⟩:=ih;rw[zip_cons_cons,filter_cons,filter_cons];cases hk:keep y with
  | true=>
   exists u::vs,?_,?_
   ·rw[aK rfl,map_cons,e]
    rfl
   ·rw[aK rfl]
    exact .cons r p
  | false=>exact⟨vs,by rw[aJ zft,e],by rw[aJ zft];exact p⟩
theorem uK{α : Type}{R:Addr->α->Prop}{us:List Addr}{rows:List α}(h:Paired R us rows)(keep : α->Bool)(out : α->V):((us.zip rows).filter fun p=>keep p.2).map (fun p=>out p.2)=(rows.filter keep).map out:=by
 induction h with
 | nil=>rfl
 | cons r t ih=>
  rename_i u y us ys;rw[zip_cons_cons,filter_cons,filter_cons];cases hk:keep y with
  | true=>rw[aK rfl,aK rfl,map_cons,map_cons,ih]
  | false=>rw[aJ zft,aJ zft,ih]
theorem wg{α : Type}{K:Frag}{a:Addr}{us:List Addr}{rows:List α}{caps:List (Option Nat)}{g:TG}{tt:TT}{te:TE}{σ : L2.St}{H1:Hp}{Q:VK}{D:Addr}(R:Hp->Addr->α->Prop)(keep : α->Bool)(out:Addr->α->V)(hD:H1 D=none)(ha:H1 a=some (.lst (us.map V.ref)))(hu:Paired (R H1) us rows)(hn:rows.length<=1000)
  (hs:∀(i:Nat) (u:Addr) (y : α) (H:Hp) (N:VK) (S:Hp->Prop),us[i]?=some u->rows[i]?=some y->R H1 u y->zq H1 H->(∀H',zq H H'->keep y=true->N (out u y) H')->(∀H',zq H H'->keep y=false->S H')->g (.ref u) (yW caps σ) H fun σ2 H2=>tt σ2 H2 fun ok H3=>(ok=true->te σ2 H3 N)/\(ok=false->S H3))
  (hd:∀H,zq H1 H->H D=some (.lst (((us.zip rows).filter fun p=>keep p.2).map fun p=>out p.1 p.2))->Q (.ref D) H):LCr (Itl K a) caps g tt te σ H1 Q D:=by
 have hl:us.length=rows.length:=hu.length;have lz:(us.zip rows).length=rows.length:=by rw[List.length_zip,hl,Nat.min_self]
 refine vA (K:=K) (xs:=us.map V.ref) (us.zip rows) (fun p=>keep p.2) (fun p=>out p.1 p.2) hD (zf ha) (by rw[aA,lz,hl]) (by rw[aA,hl];exact hn) (fun i x y H N S hx hy sH n1 s1=>?_) hd
 have hi:i<rows.length:=by rw[<- lz];exact(List.getElem?_eq_some_iff.mp hy).1
 have e1:(us.zip rows)[i]?=some (us[i],rows[i]):=by
  rw[aB ∅,List.getElem_zip]
 rw[e1] at hy;cases hy;have hu1:us[i]?=some us[i]:=aB ∅
 rw[getElem?_map,hu1] at hx;cases hx;obtain⟨d,hd',hr⟩:=Paired.get hu hu1;have e2:rows[i]?=some rows[i]:=aB hi;rw[e2] at hd';cases hd';exact hs i us[i] rows[i] H N S hu1 e2 hr sH n1 s1
variable {ta:TE}{t:TA}{k:Nat}{sp:Sp}
theorem Inv.turnedL{X:Cx}{pins:PnL}{σ : St}{H:Hp}{s:Shared}{h':Heap}{t':Nat}{ch:List Addr}(I:Inv X pins σ H s)(hf:∀b∈ch,xQ X pins H b)(k:∀b o,b∉ch->s.heap.get? b=some o->h'.get? b=some o):Inv X pins σ H { s with heap:=h',toks:=t' }:=by
 have nit:∀b u,H b=some u->b∉ch:=fun b u e z=>by rw[(hf b z).1] at e;cases e
 refine I.step (g':=s.gens) (d':=s.drawn) (ch:=ch) (fun b hb=>?_) (fun b o _ _ hc e _=>k b o hc e) (fun b o _ _ hc e _=>⟨o.slots,k b o hc e⟩) (fun _ _ _ _ n=>n)
  (fun b o hc e=>⟨o,k b o hc e⟩) (fun _ _ e=>e) (fun _ _ _ e=>e) (fun b ps e=>⟨#[],by rw[e];simp⟩) (fun m hm=>?_) (fun b u e=>?_) I.bare
 ·obtain⟨f0,f1,f2,f3,f4,f5⟩:=hf b hb
  exact⟨f3,f1,f4,f5⟩
 ·obtain⟨o,es,ep,ho,r⟩:=hm
  exact⟨o,es,ep,k _ o (fun z=>(hf _ z).2.1 rfl) ho,r⟩
 ·refine(I.hok b u e).stay (fun c v hc q=>k c v ?_ q) (fun _ q=>q) fun _ _ q=>q
  rcases hc with z|z
  ·rw[z];exact nit b u e
  ·exact nit c _ z
variable {x1:Nat}
variable {R:Result->Shared->Prop}{G:Array GenState->Array GenState->Prop}{n:Nat}{Pr:Nat->Value->Prop}{Sg:Nat->Shared->Prop}
theorem zeR{β : Type}{K:Frag}{a:Addr}{xs:List V}{bs:List β}{caps:List (Option Nat)}{g:TG}{tt:TT}{te:TE}{σ : L2.St}{H1:Hp}{Q:VK}{D:Addr}(R':Hp->Addr->β->Prop)
  (sR':∀{H H' v r},R' H v r->zq H H'->R' H' v r) (uR':∀{H v r D ys o},R' H v r->H D=some (.lst ys)->R' (upd H D o) v r)
  (ha:SqL K H1 a xs) (hl:xs.length=bs.length) (hn:bs.length<=500) (hD:H1 D=none)
  (hs:∀(i:Nat) x b H (Qf:VK) (Qs:Hp->Prop),xs[i]?=some x->bs[i]?=some b->zq H1 H->(∀v H',zq H H'->R' H' v b->Qf (.ref v) H')->
   g x (yW caps σ) H fun σ2 H2=>tt σ2 H2 fun ok H3=>(ok=true->te σ2 H3 Qf)/\(ok=false->Qs H3))
  (hd:∀vs H,zq H1 H->H D=some (.lst (vs.map V.ref))->Paired (R' H) vs bs->Q (.ref D) H):LCr (Itl K a) caps g tt te σ H1 Q D:=by
 refine wG (K:=K) (xs:=xs) (fun i ys H'=>∃vs,ys=vs.map V.ref/\zq H1 H'/\H' D=some (.lst ys)/\Paired (R' H') vs (bs.take i)) ⟨[],rfl,zd hD _,za,.nil⟩ (fun i ys H' ⟨_,_,h,_⟩=>h.seq ha) ?_ ?_
 ·rintro i x ys H' hlt hx ⟨vs,rfl,sH,hDy,fv⟩
  have hi:i<bs.length:=by omega
  have hb:bs[i]?=some bs[i]:=aB hi;have nl:(vs.map V.ref).length<=i:=by
   rw[aA,fv.length,length_take];omega
  refine hs i x _ H' _ _ hx hb sH (fun v H2 s2 r2=>?_);have s3:zq H1 (upd H2 D (.lst (vs.map V.ref++[.ref v]))):=fun b o z=>by
   rw[zi (zj z hD)];exact s2 _ _ (sH b o z)
  refine lcN.mk hlt (le_of_lt (zY ∅)) (s2 _ _ hDy) nl ⟨vs++[v],by rw[aE];rfl,s3,za,?_⟩
  rw[take_succ_eq_append_getElem hi];exact Paired.snoc (zO (fun w r' z=>uR' (sR' z s2) (s2 _ _ hDy)) fv) (uR' r2 (s2 _ _ hDy))
 ·rintro ys H ⟨vs,rfl,sH,hDy,fv⟩
  rw[hl,take_length] at fv;exact hd vs H sH hDy fv
end
end L2
namespace L2
open PySem PyProof.Rows
def zc4(X:Cx)(ss:List Stmt):TS:=fun D σ H=>∃t,PSs X ss t/\t D σ H
theorem y4:PSs X ss (zc4 X ss):=⟨fun pins s σ H D I ⟨_,p,h⟩=>p pins s σ H D I h⟩
theorem zp{X:Cx}{st:Stmt}{rest:List Stmt}{t:TS}{D:L2.jQ}{σ : L2.St}{H:Hp}(p:PS X st t)(h:jj t (zc4 X rest) D σ H):zc4 X (st::rest) D σ H:=⟨_,zu p y4,h⟩
end L2
namespace L2
open PySem PySem.Spec PyProof.Rows
mutual
def pyD:Dt->PyData
 | .non=>.none
 | .bl b=>.bool b
 | .int i=>.int i
 | .str z=>.str z
 | .tup ds=>.tuple (wO ds)
 | .lst ds=>.list (wO ds)
def wO:List Dt->List PyData
 | []=>[]
 | d::ds=>pyD d::wO ds
end
section
variable {H:Hp}{ok:Addr->Prop}
theorem qz{s:Shared}{x:V}{u:Value}{d:Dt}(h:vH x d)(r:z5 x u):Reads s.heap u (pyD d) []:=by
 cases x <;> cases d <;> first|exact h.elim|skip
 ·cases r;exact .none
 ·cases r;cases h;exact .bool _
 ·obtain⟨t,rfl⟩:=r;cases h;exact .int _ _
 ·obtain⟨t,rfl⟩:=r;cases h;exact .str _ _
theorem jp{X:Cx}{s:Shared}{n:Nat}(ih:∀{x:V}{u:Value}{d:Dt},zR X.K ok H n x d->z5 x u->∃as,Reads s.heap u (pyD d) as):∀{xs:List V}{ds:List Dt}{us:List Value},Paired (zR X.K ok H n) xs ds->zV xs us->∃as,ReadsAll s.heap us (wO ds) as
 | [],_,_,.nil,.nil=>⟨[],.nil⟩
 | _::_,_,_,.cons h t,.cons r q=>by
  obtain⟨as,a⟩:=ih h r;obtain⟨bs,b⟩:=jp ih t q;exact⟨as++bs,.cons a b⟩
theorem uY{X:Cx}{pins:PnL}{σ:St}{s:Shared}(I:Inv X pins σ H s):∀(n:Nat) {x:V}{u:Value}{d:Dt},zR X.K ok H n x d->z5 x u->∃as,Reads s.heap u (pyD d) as
 | 0,_,_,_,h,r=>⟨[],qz h r⟩
 | n+1,_,_,_,h,r=>by
  rcases h with h|⟨a,xs,ds,rfl,rfl,hx,q⟩|⟨a,xs,ds,rfl,rfl,_,hx,q⟩
  ·exact⟨[],qz h r⟩
  ·cases r
   obtain⟨ia,va,pa,_⟩:=I.tuple hx;obtain⟨as,b⟩:=jp (fun h r=>uY I n h r) q va;obtain⟨o,h1,h2,m,h3⟩:=(show s.heap.IsTuple a ia.toArray from pa);exact⟨as,.tuple h1 h2 h3 (by simpa using b)⟩
  ·cases r
   obtain⟨ia,va,pa,_⟩:=I.list (zf hx);obtain⟨as,b⟩:=jp (fun h r=>uY I n h r) q va;obtain⟨o,h1,h2,m,h3⟩:=pa.isList;exact⟨a::as,.list h1 h2 h3 (by simpa using b)⟩
inductive znsJ(K:Frag)(x:V)(y:V)(H:Hp)(Q:VK):Prop|mk(n:Nat)(d d':Dt)(ok ok':Addr->Prop):zR K ok H n x d->zR K ok' H n y d'->(pyD d).canLay0=true->(pyD d').canLay0=true->(pyD d).depth<=20->(Q (.bl (PyData.eqv (pyD d) (pyD d'))) H)->znsJ K x y H Q
def zns(K:Frag):R2:=fun x y H Q=>znsJ K x y H Q
theorem zht(hu:X.A.units+64<cLine):OpR X (compareOp .Eq) (zns X.K):=by
 intro pins s σ H x y v u Q I rx ry h;obtain⟨n,d,d',ok,ok',hx,hy,c1,c2,hd,q⟩:=h;obtain⟨as,a⟩:=uY I n hx rx;obtain⟨bs,b⟩:=uY I n hy ry;exact SeqAt.compareEq_reads a b c1 c2 ∅ ⟨.bl _,H,I,rfl,q⟩
def leS(a b:Str):Bool:=!ltCps b.cps.toList a.cps.toList
def z8(zs:List Str):List Str:=zs.mergeSort leS
theorem jb(a b:List Nat):ltCps a b=decide (a<b):=ltCps_eq a b
theorem zfT(a b:Str):(leS a b||leS b a)=true:=by
 unfold leS;rw[jb,jb];by_cases h:b.cps.toList<a.cps.toList
 ·have:¬a.cps.toList<b.cps.toList:=fun h2=>List.lt_asymm h h2
  simp [h,this]
 ·simp [h]
theorem zaQ(a b c:Str)(h1:leS a b=true)(h2:leS b c=true):leS a c=true:=by
 unfold leS at *;rw[jb] at *;simp only[Bool.not_eq_true',decide_eq_false_iff_not,not_lt] at *;exact List.le_trans h1 h2
theorem zhX(h1:leS a b=true)(h2:leS b a=true):a=b:=by
 unfold leS at *;rw[jb] at *;simp only[Bool.not_eq_true',decide_eq_false_iff_not,not_lt] at *
 have:=List.le_antisymm h1 h2
 cases a;cases b;simp only[Str.mk.injEq] at *;exact Array.ext' this
theorem zP(zs:List Str):(z8 zs).Perm zs:=List.mergeSort_perm _ _
theorem qk(zs:List Str):(z8 zs).Pairwise (fun a b=>leS a b=true):=List.pairwise_mergeSort zaQ zfT zs
theorem zaJ:∀(p:Str) (l:List Str),risingS p l=true->(p::l).Pairwise (fun a b=>leS a b=true)
 | _,[],_=>List.pairwise_singleton _ _
 | p,x::r,h=>by
  have h:(!ltCps x.cps.toList p.cps.toList&&risingS x r)=true:=h;rw[Bool.and_eq_true] at h;have ih:=zaJ x r h.2;refine List.pairwise_cons.mpr ⟨fun y hy=>?_,ih⟩;rcases List.mem_cons.mp hy with rfl|hy
  ·exact h.1
  ·exact zaQ p x y h.1 (List.rel_of_pairwise_cons ih hy)
theorem zdu:∀(l:List Str),sortedS l=true->l.Pairwise (fun a b=>leS a b=true)
 | [],_=>List.Pairwise.nil
 | x::r,h=>zaJ x r h
theorem zaD{a b:List Str}(p:a.Perm b)(ha:a.Pairwise (fun a b=>leS a b=true))(hb:b.Pairwise (fun a b=>leS a b=true)):a=b:=p.eq_of_pairwise (fun x y _ _ h1 h2=>zhX h1 h2) ha hb
theorem zcd(p:a.Perm b)(h:sortedS a=true):a=z8 b:=zaD (p.trans (zP b).symm) (zdu a h) (qk b)
theorem uO:z8 a=z8 b ↔ a.Perm b:=⟨fun h=>(zP a).symm.trans (h ▸ zP b),fun h=>zaD ((zP a).trans (h.trans (zP b).symm)) (qk a) (qk b)⟩
theorem zV.strsAre:∀{zs:List Str}{us:List Value},zV (zs.map V.str) us->StrsAre us zs
 | [],_,h=>by cases h;exact .nil
 | n::ns,_,h=>by
  cases h with
  | cons r t=>
   obtain⟨k,rfl⟩:=r;exact .cons n k (zV.strsAre t)
theorem StrsAre.vals:∀{us:List Value}{zs:List Str},StrsAre us zs->zV (zs.map V.str) us
 | _,_,.nil=>.nil
 | _,_,.cons n t h=>.cons ⟨t,rfl⟩ (StrsAre.vals h)
theorem wo:xq X (.builtin "sorted") (fun xs H Q=>∃p zs,xs=[.ref p]/\SqL X.K H p (zs.map V.str)/\zs.length<64/\∀l,H l=none->Q (.ref l) (upd H l (.lst ((z8 zs).map V.str)))):=by
 intro pins s σ H xs us Q I r h;obtain⟨p,ns,rfl,hS,h64,q⟩:=h;obtain⟨u,rfl,ru⟩:=wt r;cases ru;obtain⟨its,rv,hp,hz⟩:=I.list hS;have hlen:its.length=ns.length:=by rw[<- rv.length,aA]
 refine sorted_strs hp.isList (zV.strsAre rv) ∅ fun out ns' hI hperm hsort=>?_
 obtain⟨e,he⟩:=sortedAll_at s.heap its out;have en:=zcd hperm hsort;subst en;exists .ref (s.heap.objs.size+1),_,I.laid (t':=s.toks) (o:=.lst ((z8 ns).map V.str)) (fun b o hb=>sortedAll_old hb) (le_succ _) ⟨?_,out.toList,e,StrsAre.vals hI,by simpa using he⟩,rfl,q _ (I.hok.fresh (le_succ _))
 rw[aA,hperm.length_eq];have : 1000<=sizeLine:=by decide
 omega
end
end L2
namespace K84
open PySem L2 PyProof.Rows
abbrev TR:=Option (List Str×Bool×List Str)
def frR(r:Rw):Bool:=fr r.k r.b
def vF(rows:List Rw)(many:Nat):List Rw:=(rows.drop many).filter fun r=>!frR r
def xn(rows:List Rw)(bars:List Str)(many:Nat):TR:=
 if (vF rows many).any (fun r=>!yn r.k)=true then none
 else some (z8 ((vF rows many).map (·.z)),(zQ 4 0 rows).isSome,if (zQ 4 0 rows).isSome=true then z8 (bars++nms (rows.take many)) else z8 (nms (rows.drop many)))
def xL:TR->Dt
 | none=>.non
 | some (a,b,c)=>.tup [.lst (a.map Dt.str),.bl b,.lst (c.map Dt.str)]
inductive zeu(c:C5)(vs:List V)(H:Hp)(Q:VK)(E:XK):Prop|mk(a:Addr)(ps:List Addr)(rows:List Rw):vs=[.ref a]->H a=some (.lst (ps.map V.ref))->Paired (PAt c H) ps rows->(∀r∈rows,r.ok)->rows.length<=500->(∀(l:Addr) (H':Hp),zq H H'->H' l=some (.lst ((nms rows).map V.str))->Q (.ref l) H')->zeu c vs H Q E
inductive za8(K:Frag)(c:C5)(CF:Addr)(vs:List V)(H:Hp)(Q:VK)(E:XK):Prop|mk(f:Addr)(many:Nat)(rows:List Rw)(bars:List Str):vs=[.ref f,.int (many:Nat)]->xG c CF H f rows bars->rows.length<=24->bars.length<=60->bars.length+(nms rows).length<64->(∀(v:V) (H':Hp),zq H H'->zR K (fun a=>H a=none) H' 2 v (xL (xn rows bars many))->Q v H')->za8 K c CF vs H Q E
section
variable {P:Program}{mg:Str->Option Value}{f CF G sg:Addr}
theorem zi1:zA ["parameters"] ["parameters"] (zh zds):=fsc
theorem zhP{w:World}{K:Frag}{base:Heap}{fd:FuncData}{c:C5}{m:MA}{gd:FuncData}(F:Fun K "door_names" "door_names" zds f fd)(PP:Pcs K m c)(GB:↥1 m.fB gd ["self"] (qi K m bnL))(bB:yc K gd ["self"] []):↥2 f fd ["parameters"] (zeu c):=by
 specialize zi1;obtain⟨a,ps,rows,rfl,ha,hp,hok,l5,q⟩:=h;have hC:∀C,Cs5 c C->Cls K C/\xv K C "by_name" m.fB:=fun C ⟨k,hk,e⟩=>by rw[e];exact⟨(PP k hk).cl,(PP k hk).mB⟩
 refine⟨_,zg (zB (yY [] ["parameter"] [none] rfl ⟨rfl,rfl,rfl,rfl⟩ (zM (pv 0)) (zK 0) rfl rfl rfl
    (fun pins fp s H C=>⟨zo (i:=0) zfO rfl (Or.inl rfl) (.inr rfl),yg (yz (wx (pv 0) hC GB hr bB yt)),jW (K:=K) rfl (pv 0) rfl⟩))),?_⟩
 exists _,rfl,a,rfl,⟨_,zf ha⟩,fun D hD=>?_;refine vA (K:=K) (xs:=ps.map V.ref) rows (fun r=>yn r.k) (fun r=>V.str r.z) hD (zf ha) (by rw[aA,hp.length]) (by rw[aA,hp.length];omega) (fun i x r H' Nn S hx hr' sH nn ss=>?_) (fun H1 s1 h1=>?_)
 ·obtain⟨pa,hpa,rfl⟩:=xt hx
  obtain⟨r',hr2,dx,hdx⟩:=yw hp hpa;rw[hr'] at hr2;cases hr2;have rok:=hok r (aH hr');have C:=PP r.k rok.1;have hd2:=sH _ _ hdx;exists _,rfl,pa,_,dx,_,rfl,⟨r.k,rok.1,rfl⟩,hd2,u0 (by decide +kernel) (by decide +kernel) (by decide +kernel),pa,dx,_,_,_,_,rfl,C,hd2,_,rfl,?_
  rw[zaT r.k rok.1];exact⟨fun e=>⟨_,rfl,pa,_,dx,_,_,rfl,hd2,C.cl,C.nN,v0,nn _ (zq.refl _) e⟩,fun e=>ss _ (zq.refl _) e⟩
 ·refine q D _ s1 ?_
  rw[h1];unfold nms;rw[map_map];rfl
theorem vi{n:Nat}:xJ xs none (some (n:Int))=xs.take n:=by
 unfold xJ;rw[HT.zm5,HT.zmj,List.drop_zero,Nat.sub_zero];by_cases h:n<=xs.length
 ·rw[min_eq_left h]
 ·rw[min_eq_right ∅,take_of_length_le (aF _),take_of_length_le ∅]
theorem xV{n:Nat}:xJ xs (some (n:Int)) none=xs.drop n:=by
 unfold xJ;rw[HT.zm5,HT.zmj];by_cases h:n<=xs.length
 ·rw[min_eq_left h]
  exact take_of_length_le (by rw[length_drop];exact aF _)
 ·rw[min_eq_right ∅,drop_of_length_le (aF _),drop_of_length_le ∅]
  simp
theorem uB{α β : Type}{R : α->β->Prop}{a:List α}{c:List β}(h:Paired R a c):∀n,Paired R (a.take n) (c.take n):=by
 induction h with
 | nil=>intro n;rw[take_nil,take_nil];exact .nil
 | cons r _ ih=>
  intro n;cases n with
  | zero=>exact .nil
  | succ n=>exact .cons r (ih n)
theorem wy{α β : Type}{R : α->β->Prop}{a:List α}{c:List β}(h:Paired R a c):∀n,Paired R (a.drop n) (c.drop n):=by
 induction h with
 | nil=>intro n;rw[drop_nil,drop_nil];exact .nil
 | cons r t ih=>
  intro n;cases n with
  | zero=>exact .cons r t
  | succ n=>exact ih n
theorem zbH{α β : Type}{R : α->β->Prop}{a:List α}{c:List β}(k : β->Bool)(h:Paired R a c):Paired R (((a.zip c).filter fun p=>k p.2).map (·.1)) (c.filter k):=by
 induction h with
 | nil=>exact .nil
 | @cons x y xs ys r _ ih=>
  rw[zip_cons_cons,filter_cons,filter_cons];cases e:k y with
  | true=>rw[aK rfl,aK rfl,map_cons];exact .cons r ih
  | false=>rw[aJ zft,aJ zft];exact ih
theorem xh{kk:Nat}:wn (zQ kk 0 rows)=.non ↔ (zQ kk 0 rows).isSome=false:=by
 cases zQ kk 0 rows with
 | none=>exact⟨fun _=>rfl,fun _=>rfl⟩
 | some i=>exact⟨(fun h=>by cases h),(fun h=>by cases h)⟩
theorem wX{K:Frag}{ok:Addr->Prop}{H:Hp}{n:Nat}:∀(zs:List Str),Paired (zR K ok H n) (zs.map V.str) (zs.map Dt.str)
 | []=>.nil
 | z::zs=>.cons .str (wX zs)
theorem j0(rows:List Rw):(nms rows).length<=rows.length:=by unfold nms;rw[aA];exact length_filter_le _ _
structure zlP(mg:Str->Option Value):Prop where
 any:mg "any"=none
 sorted:mg "sorted"=none
 range:mg "range"=none
 len:mg "len"=none
theorem uR:zA ["form","many","parameters","left","lacking","needed"] ["form","many"] (zh zdf):=fsc
theorem zhz{w:World}{K:Frag}{base:Heap}{fd:FuncData}{c:C5}{m:MA}{g1 gP gB gG:Addr}{e1 eP eB eG gf gn:FuncData}(F:Fun K "row_of" "row_of" zdf f fd)(U:zlP mg)(PP:Pcs K m c)(FK:FC K CF)(cD:⇑2 "door_names" g1 e1 ["parameters"] (zeu c))
  (mP:xv K CF "parameters" gP) (GP:↥1 gP eP ["self"] (zba c CF)) (bP:yc K eP ["self"] []) (mB:xv K CF "bars" gB) (GB:↥1 gB eB ["self"] (zbe c CF)) (bB:yc K eB ["self"] []) (mG:xv K CF "bag" gG) (GG:↥1 gG eG ["self"] (vm c CF 4)) (bG:yc K eG ["self"] [])
  (GF:↥1 m.fF gf ["self"] (zbd K m)) (bF:yc K gf ["self"] []) (GN:↥1 m.fB gn ["self"] (qi K m bnL)) (bN:yc K gn ["self"] []):↥3 f fd ["form","many"] (za8 K c CF):=by
 specialize uR;obtain⟨f,many,rows,bars,rfl,hF,l24,l30,l64,q⟩:=h;have hr1:yk 1 _:=hr.mono ⋯
 have hok:=hF.ok;have hFr:∀C,Cs5 c C->Cls K C/\xv K C "free" m.fF:=fun C ⟨k,hk,e⟩=>by rw[e];exact⟨(PP k hk).cl,(PP k hk).mF⟩
 have hNm:∀C,Cs5 c C->Cls K C/\xv K C "by_name" m.fB:=fun C ⟨k,hk,e⟩=>by rw[e];exact⟨(PP k hk).cl,(PP k hk).mB⟩
 obtain⟨dx,fs,lr,lb',ld,pps,h1,h2,h3,h4,h5,h6⟩:=id hF.at_;refine uR[2]'(yy (pv 0) FK.cl mP GP hr1 bP .nil yt);exists _,rfl,f,dx,fs,rfl,h1,h2.no _ (by decide +kernel),f,rows,bars,rfl,hF.at_,fun l ps H1 s1 nl hl hp=>?_
 dsimp only[zJ];refine uR[3]'(yj yX (pv 2) (yp (pv 1)) yR);exists _,rfl,_,rfl,_,rfl,l,_,rfl,zf hl,fun l2 hl2=>?_;rw[show xJ (ps.map V.ref) (some (many:Int)) none=(ps.drop many).map V.ref from xV.trans (map_drop ..).symm]
 injections l2 hl2 H2 s2 g2
 have s02:=s1.trans s2;have hp2:=yM s2 hp;have hpd:=wy hp2 many;have okd:∀r∈rows.drop many,r.ok:=fun r hr=>hok r (mem_of_mem_drop hr);have ld':(rows.drop many).length<=24:=by rw[length_drop];omega
 dsimp only[zJ];refine zp (wD (i:=4) [] ["parameter"] [none] uR.nd rfl (Or.inl rfl) rfl ⟨rfl,rfl,rfl,rfl⟩ (zM (pv 3)) (zK 0) rfl rfl rfl
   (fun pins fp s H C=>⟨zo (i:=0) zfO rfl (Or.inl rfl) (.inr rfl),yg (xx (yz (wx (pv 0) hFr GF hr1 bF yt))),pv 0⟩)) ?_
 exists _,rfl,l2,rfl,⟨_,zf g2⟩,fun D hD=>?_;refine vA (K:=K) (xs:=(ps.drop many).map V.ref) ((ps.drop many).zip (rows.drop many)) (fun p=>!frR p.2) (fun p=>V.ref p.1) hD (zf g2) (by rw[aA,List.length_zip,hpd.length,Nat.min_self]) (by rw[aA,hpd.length];omega) (fun i x y H' Nn S hx hy sH nn ss=>?_) (fun H3 s3 h3'=>?_)
 ·obtain⟨pa,hpa,rfl⟩:=xt hx
  obtain⟨r,hr',dx',hdx⟩:=yw hpd hpa;have ey:y=(pa,r):=by
   rw[List.getElem?_zip_eq_some] at hy;rw[hpa,hr'] at hy;obtain⟨a,b⟩:=hy;cases y;simp only[Option.some.injEq] at a b;rw[a,b]
  subst ey;have rok:=okd r (aH hr');have C:=PP r.k rok.1;have hd2:=sH _ _ hdx;exists _,rfl,pa,_,dx',_,rfl,⟨r.k,rok.1,rfl⟩,hd2,u0 (by decide +kernel) (by decide +kernel) (by decide +kernel),pa,dx',_,_,_,_,rfl,C,hd2,_,rfl,?_
  exact⟨fun e=>⟨_,rfl,nn _ (zq.refl _) e⟩,fun e=>ss _ (zq.refl _) e⟩
 have hq:=zbH (fun r=>!frR r) (yM s3 hpd);have h3':H3 D=some (.lst (((((ps.drop many).zip (rows.drop many)).filter fun p=>!frR p.2).map (·.1)).map V.ref)):=by rw[h3',map_map];rfl
 have hq:Paired (PAt c H3) ((((ps.drop many).zip (rows.drop many)).filter fun p=>!frR p.2).map (·.1)) (vF rows many):=hq;generalize (((ps.drop many).zip (rows.drop many)).filter fun p=>!frR p.2).map (·.1)=qs at h3' hq;have okl:∀r∈vF rows many,r.ok:=fun r hr=>okd r (List.mem_filter.mp hr).1;have ll:(vF rows many).length<=24:=Nat.le_trans (length_filter_le _ _) ld';have s03:=s02.trans s3;dsimp only[zJ];have erow:xn rows bars many=if (vF rows many).any (fun r=>!yn r.k)=true then none else some (z8 ((vF rows many).map (·.z)),(zQ 4 0 rows).isSome,if (zQ 4 0 rows).isSome=true then z8 (bars++nms (rows.take many)) else z8 (nms (rows.drop many))):=rfl
 generalize xn rows bars many=R at q erow;generalize vF rows many=lk at hq okl ll erow;refine zp (zS (yz (cB (zgc rfl) U.any boot_any (ac (yY [] ["parameter"] [none] rfl ⟨rfl,rfl,rfl,rfl⟩ (zM (pv 4)) (zK 0) rfl rfl rfl
   (fun pins fp s H C=>⟨zo (i:=0) zfO rfl (Or.inl rfl) (.inr rfl),yV,zdy (wx (pv 0) hNm GN hr1 bN yt)⟩)) zc))) (zg (zB qC)) zD) ?_
 exists _,rfl,D,rfl,⟨_,zf h3'⟩,fun D2 hD2=>?_;refine vA (K:=K) (xs:=qs.map V.ref) lk (fun _=>true) (fun r=>V.bl (!yn r.k)) hD2 (zf h3') (by rw[aA,hq.length]) (by rw[aA,hq.length];omega) (fun i x r H' Nn S hx hr' sH nn ss=>?_) (fun H4 s4 h4'=>?_)
 ·obtain⟨pa,hpa,rfl⟩:=xt hx
  obtain⟨r',hr2,dx',hdx⟩:=yw hq hpa;rw[hr'] at hr2;cases hr2;have rok:=okl r (aH hr');have C:=PP r.k rok.1;have hd2:=sH _ _ hdx;exists fun _=>?_,fun e=>Bool.noConfusion e;exists _,rfl,pa,_,dx',_,rfl,⟨r.k,rok.1,rfl⟩,hd2,u0 (by decide +kernel) (by decide +kernel) (by decide +kernel),pa,dx',_,_,_,_,rfl,C,hd2,_,rfl,?_
  rw[zaT r.k rok.1];exact nn _ (zq.refl _) rfl
 rw[List.filter_eq_self.mpr (fun _ _=>rfl),show lk.map (fun r=>V.bl (!yn r.k))=(lk.map fun r=>!yn r.k).map V.bl by rw[map_map];rfl] at h4'
 exists D2,_,rfl,zf h4',_,rfl,?_;have ean:(lk.map fun r=>!yn r.k).any id=lk.any fun r=>!yn r.k:=by rw[any_map];rfl
 rw[ean];have s04:=s03.trans s4;cases ea:lk.any (fun r=>!yn r.k) with
 | true=>
  rw[ea,aK rfl] at erow;refine xO ?_;refine q _ _ s04 ?_;rw[erow];exact .inl True.intro
 | false=>
  rw[ea,aJ zft] at erow;refine yD ?_;have h3'':=s4 _ _ h3';have hq4:=yM s4 hq;refine uR[5]'(cB wo U.sorted boot_sorted (ac (yY [] ["parameter"] [none] rfl ⟨rfl,rfl,rfl,rfl⟩ (zM (pv 4)) (zK 0) rfl rfl rfl
   (fun pins fp s H C=>⟨zo (i:=0) zfO rfl (Or.inl rfl) (.inr rfl),yV,jW (K:=K) rfl (pv 0) rfl⟩)) zc))
  exists _,rfl,D,rfl,⟨_,zf h3''⟩,fun D3 hD3=>?_;refine vA (K:=K) (xs:=qs.map V.ref) lk (fun _=>true) (fun r=>V.str r.z) hD3 (zf h3'') (by rw[aA,hq.length]) (by rw[aA,hq.length];omega) (fun i x r H' Nn S hx hr' sH nn ss=>?_) (fun H5 s5 h5'=>?_)
  ·obtain⟨pa,hpa,rfl⟩:=xt hx
   obtain⟨r',hr2,dx',hdx⟩:=yw hq4 hpa;rw[hr'] at hr2;cases hr2;have C:=PP r.k (okl r (aH hr')).1;exact⟨fun _=>⟨_,rfl,pa,_,dx',_,_,rfl,sH _ _ hdx,C.cl,C.nN,v0,nn _ (zq.refl _) rfl⟩,fun e=>Bool.noConfusion e⟩
  rw[List.filter_eq_self.mpr (fun _ _=>rfl),show lk.map (fun r=>V.str r.z)=(lk.map (·.z)).map V.str by rw[map_map];rfl] at h5'
  exists D3,_,rfl,zf h5',by rw[aA];omega,fun ln hln=>?_
  have s6:=zd hln (.lst ((z8 (lk.map (·.z))).map V.str));have g6:upd H5 ln (.lst ((z8 (lk.map (·.z))).map V.str)) ln=some (.lst ((z8 (lk.map (·.z))).map V.str)):=za;have s06:=s04.trans (s5.trans s6);have s26:=s3.trans (s4.trans (s5.trans s6));have nln:H ln=none:=(s04.trans s5).free hln;generalize upd H5 ln (.lst ((z8 (lk.map (·.z))).map V.str))=H6 at s6 g6 s06 s26 |-;dsimp only[zJ];refine zp (zS (wb (vz (yy (pv 0) FK.cl mG GG hr1 bG .nil yt))) y4 zD) ?_;have F6:=hF.same s06;exists _,rfl,f,dx,fs,rfl,s06 _ _ h1,h2.no _ (by decide +kernel),f,rows,bars,rfl,F6.at_,_,rfl,?_
  have fin:∀{l7:Addr}{zs:List Str}{b:Bool}{H7:Hp},zq H6 H7->H7 l7=some (.lst (zs.map V.str))->H l7=none->R=some (z8 (lk.map (·.z)),b,zs)->∀t,H7 t=none->Q (.ref t) (upd H7 t (.tup [.ref ln,.bl b,.ref l7])):=fun {l7 zs b H7} s7 h7 n7 eR t ht=>by
   have s8:=zd ht (.tup [.ref ln,.bl b,.ref l7]);refine q _ _ (s06.trans (s7.trans s8)) ?_;rw[eR];exact zR.tup (zy za) (.cons (zR.lst nln ((s7.trans s8) _ _ g6) (wX _)) (.cons zR.bl (.cons (zR.lst n7 (s8 _ _ h7) (wX _)) .nil)))
  cases eb:(zQ 4 0 rows).isSome with
  | false=>
   rw[eb,aJ zft] at erow;refine xA (aC (xh.mpr eb)) ?_;exists _,zg (zB (z7 (ac (pv 5) (ac x6 (ac (cB wo U.sorted boot_sorted (ac (cF cD hr (ac (pv 3) zc)) zc)) zc))))),?_;exists _,rfl,_,rfl,l2,ps.drop many,rows.drop many,rfl,s26 _ _ g2,yM s26 hpd,okd,∅,fun l7 H7 s7 h7=>?_
   exists l7,_,rfl,zf h7,by have:=j0 (rows.drop many);omega,fun l8 hl8=>?_
   have s8:=zd hl8 (.lst ((z8 (nms (rows.drop many))).map V.str));exact⟨uP,fin (s7.trans s8) za ((s06.trans s7).free hl8) erow⟩
  | true=>
   rw[eb,aK rfl] at erow;refine yZ (aD (fun h=>by rw[xh.mp h] at eb;cases eb)) ?_
   exists _,zg (zB (z7 (ac (pv 5) (ac x6 (ac (cB wo U.sorted boot_sorted (ac (zk yA (yy (pv 0) FK.cl mB GB hr1 bB .nil yt) (cF cD hr (ac (yj yX (pv 2) yR (yp (pv 1))) zc))) zc)) zc))))),?_;exists _,rfl,_,rfl,f,dx,fs,rfl,s06 _ _ h1,h2.no _ (by decide +kernel),f,rows,bars,rfl,F6.at_,fun lbb H7 s7 nbb hbb=>?_
   have s27:=s26.trans s7;exists _,rfl,_,rfl,_,rfl,l,_,rfl,zf (s2.trans s27 _ _ hl),fun l8 hl8=>?_;rw[show xJ (ps.map V.ref) none (some (many:Int))=(ps.take many).map V.ref from vi.trans (map_take ..).symm];have s8:=zd hl8 (.lst ((ps.take many).map V.ref));exists l8,ps.take many,rows.take many,rfl,za,yM (s27.trans s8) (uB hp2 many),fun r hr=>hok r (mem_of_mem_take hr),by rw[length_take];omega,fun l9 H9 s9 h9=>?_
   exists lbb,l9,_,_,rfl,rfl,(s8.trans s9) _ _ hbb,h9,z9 (by have:=j0 (rows.take many);rw[aA,aA];rw[length_take] at this;omega),fun l10 hl10=>?_
   rw[<- aE];have s10:=zd hl10 (.lst ((bars++nms (rows.take many)).map V.str));have l64':(bars++nms (rows.take many)).length<64:=by
    have:(nms (rows.take many)).length<=(nms rows).length:=by unfold nms;exact(((take_sublist many rows).filter _).map _).length_le
    rw[aG];omega
   exists l10,_,rfl,zf za,l64',fun l11 hl11=>?_;have s11:=zd hl11 (.lst ((z8 (bars++nms (rows.take many))).map V.str));have s711:=s7.trans (s8.trans (s9.trans (s10.trans s11)));exact⟨uP,fin s711 za ((s06.trans (s7.trans (s8.trans (s9.trans s10)))).free hl11) erow⟩
theorem zeA{K:Frag}{ok ok':Addr->Prop}{H:Hp}(hk:∀b,ok b->H b≠none->ok' b){n:Nat}{x:V}{d:Dt}(h:zR K ok H n x d):zR K ok' H n x d:=
 h.frame (fun a xs z=>z) fun a xs oa z=>⟨hk a oa (by rw[z];intro q;cases q),z⟩
theorem zfp(s:zq H H2)(h:H l=none):zq H (upd H2 l o):=fun b u e=>by rw[zi (zj e h)];exact s b u e
theorem zcy{l g:Nat}(hg:grp r.k=g)(hb:zaj l g=false)(h:xH g rs=true):xH l (r::rs)=true:=by
 show(!zaj l (grp r.k)&&xH (grp r.k) rs)=true;rw[hg,hb,h];rfl
theorem qI{g:Nat}(he:zaj g g=false):∀(xs ys:List Rw) (l:Nat),zaj l g=false->(∀r∈xs,grp r.k=g)->xH l ys=true->xH g ys=true->xH l (xs++ys)=true
 | [],_,_,_,_,h1,_=>h1
 | r::rs,ys,l,hb,hg,_,h2=>zcy (hg r mem_cons_self) hb (qI he rs ys g he (fun x hx=>hg x (mem_cons_of_mem _ hx)) h2 h2)
theorem zeH{g l:Nat}(hl:xs.length<=1)(hb:zaj l g=false)(hg:∀r∈xs,grp r.k=g)(h1:xH l ys=true)(h2:xH g ys=true):xH l (xs++ys)=true:=by
 match xs,hl with
 | [],_=>exact h1
 | [r],_=>exact zcy (hg r mem_cons_self) hb h2
theorem zeI(g0:∀r∈xs0,grp r.k=0)(g1:∀r∈xs1,grp r.k=1)(l1:xs1.length<=1)(g2:∀r∈xs2,grp r.k=2)(g3:∀r∈xs3,grp r.k=3)(l3:xs3.length<=1):xH 0 (xs0++(xs1++(xs2++xs3)))=true:=by
 have h3:∀l,l<=2->xH l xs3=true:=fun l hl=>by
  have:=zeH (g:=3) (l:=l) (ys:=[]) l3 (by match l,hl with|0,_=>rfl|1,_=>rfl|2,_=>rfl) g3 rfl rfl
  rwa [append_nil] at this
 have h2:∀l,l<=1->xH l (xs2++xs3)=true:=fun l hl=>qI (g:=2) rfl xs2 xs3 l (by match l,hl with|0,_=>rfl|1,_=>rfl) g2 (h3 l ∅) (h3 2 ∅)
 have h1:xH 0 (xs1++(xs2++xs3))=true:=zeH (g:=1) l1 rfl g1 (h2 0 ∅) (h2 1 ∅)
 exact qI (g:=0) rfl xs0 _ 0 rfl g0 h1 h1
theorem yv(a b:List Rw):nms (a++b)=nms a++nms b:=by unfold nms;rw[filter_append,aE]
theorem jZ(r:Rw):nms [r]=if yn r.k=true then [r.z] else []:=by
 unfold nms;cases h:yn r.k <;> simp [h]
variable {lp lt ll u:Addr}{r:Rw}{z:Str}{b:Bool}
structure FD where
 (P T G B:List Rw)
def FD.rows(D:FD):List Rw:=D.P++(D.T++(D.G++D.B))
def yC:List Str:=[]
structure z6(zs:List Str)(D:FD)(bars:List Str):Prop where
 p:∀r∈D.P,(r.k=0\/r.k=1)/\zU r.z=true
 t:∀r∈D.T,r.k=2/\zU r.z=true
 lt:D.T.length<=1
 g:∀r∈D.G,r.k=3/\zU r.z=true
 b:∀r∈D.B,r.k=4/\zU r.z=true
 lb:D.B.length<=1
 nd:(nms D.P++nms D.G++bars).Nodup
 zn:∀z∈nms D.P++nms D.G++bars,z∈zs++yC
 dz:∀z∈nms D.P++nms D.G,z∈zs
 ln:D.P.length+D.G.length<=22
def acc(x:TR)(names:List Str):Bool:=match x with
 | none=>false
 | some (n,b,X)=>n.all (fun z=>decide (z∈names))&&names.all (fun z=>if b=true then decide (z∉X) else decide (z∈X))
structure wT(zs:List Str)(n:List Str)(b:Bool)(X:List Str):Prop where
 sn:z8 n=n
 sX:z8 X=X
 dn:n.Nodup
 dX:X.Nodup
 zn:∀z∈n,z∈zs
 zX:∀z∈X,z∈zs
 in_:∀z∈n,(z∈X)=(b=false)
theorem qj{a b:List Str}(sa:z8 a=a)(sb:z8 b=b)(da:a.Nodup)(db:b.Nodup)(h:∀z,z∈a ↔ z∈b):a=b:=by
 rw[<- sa,<- sb];exact uO.mpr ((List.perm_ext_iff_of_nodup da db).mpr h)
def FD.tl(D:FD):Bool:=!D.T.isEmpty
def FD.bg(D:FD):Bool:=!D.B.isEmpty
def sF(D:FD)(bars:List Str)(i:Nat):TR:=if i<=D.P.length then xn D.rows bars i else if D.tl=true then xn D.rows bars D.P.length else none
theorem xg{xs:List Rw}{p:Rw->Bool}(h:∀r∈xs,p r=false):xs.filter p=[]:=List.filter_eq_nil_iff.mpr fun r hr e=>by rw[h r hr] at e;cases e
theorem ug{xs:List Rw}{p:Rw->Bool}(h:∀r∈xs,p r=true):xs.filter p=xs:=List.filter_eq_self.mpr h
theorem k_p(h:z6 zs D bars):∀r∈D.P,wp r.k=true:=fun r hr=>by rcases (h.p r hr).1 with e|e <;> rw[e] <;> rfl
theorem xu(h:z6 zs D bars):plN D.rows=D.P.length:=by
 unfold plN FD.rows;rw[filter_append,filter_append,filter_append,ug (k_p h),xg (fun r hr=>by rw[(h.t r hr).1];rfl),xg (fun r hr=>by rw[(h.g r hr).1];rfl),xg (fun r hr=>by rw[(h.b r hr).1];rfl)]
 simp
theorem wa{kk:Nat}:∀(rows:List Rw) (i:Nat),(zQ kk i rows).isSome=rows.any fun r=>r.k==kk
 | [],_=>rfl
 | r::rs,i=>by
  unfold zQ;rw[any_cons];by_cases e:r.k=kk
  ·rw[aK e,e];simp
  ·rw[aJ e,wa rs (i+1)]
   simp [e]
theorem wL{xs:List Rw}{p:Rw->Bool}(h:∀r∈xs,p r=false):xs.any p=false:=by
 rw[List.any_eq_false];exact fun r hr=>by rw[h r hr];exact zft
theorem zfb{xs:List Rw}{p:Rw->Bool}(h:∀r∈xs,p r=true):xs.any p=!xs.isEmpty:=by
 cases xs with
 | nil=>rfl
 | cons x xs=>rw[any_cons,h x mem_cons_self];rfl
theorem xS(h:z6 zs D bars):(zQ 2 0 D.rows).isSome=D.tl:=by
 rw[wa];unfold FD.rows FD.tl;rw[any_append,any_append,any_append,wL (fun r hr=>by rcases (h.p r hr).1 with e|e <;> rw[e] <;> rfl),zfb (fun r hr=>by rw[(h.t r hr).1];rfl),wL (fun r hr=>by rw[(h.g r hr).1];rfl),wL (fun r hr=>by rw[(h.b r hr).1];rfl)]
 simp
theorem vS(h:z6 zs D bars):(zQ 4 0 D.rows).isSome=D.bg:=by
 rw[wa];unfold FD.rows FD.bg;rw[any_append,any_append,any_append,wL (fun r hr=>by rcases (h.p r hr).1 with e|e <;> rw[e] <;> rfl),wL (fun r hr=>by rw[(h.t r hr).1];rfl),wL (fun r hr=>by rw[(h.g r hr).1];rfl),zfb (fun r hr=>by rw[(h.b r hr).1];rfl)]
 simp
theorem zcl(h:z6 zs D bars):xn D.rows bars D.P.length≠none:=by
 unfold xn
 have:(vF D.rows D.P.length).any (fun r=>!yn r.k)=false:=by
  refine wL fun r hr=>?_;unfold vF FD.rows at hr;rw[List.drop_left] at hr;obtain⟨hr,hf⟩:=List.mem_filter.mp hr;rcases List.mem_append.mp hr with hr|hr
  ·unfold frR at hf;rw[(h.t r hr).1] at hf;cases hf
  ·rcases List.mem_append.mp hr with hr|hr
   ·rw[(h.g r hr).1];rfl
   ·unfold frR at hf;rw[(h.b r hr).1] at hf;cases hf
 rw[this,aJ zft];exact fun e=>by cases e
def xR(rows:List Rw):List Rw:=rows.filter fun r=>wp r.k
def tgs(rows:List Rw):List Rw:=rows.filter fun r=>r.k==3
def jd(rows:List Rw)(k:Nat):Bool:=rows.any fun r=>r.k==k
def wH(rows:List Rw)(many:Nat):List Str:=(((xR rows).drop many).filter fun r=>r.k==1).map (·.z)++(tgs rows).map (·.z)
def je(rows:List Rw)(many:Nat):List Str:=(((xR rows).take many).filter fun r=>r.k==1).map (·.z)
def jP(rows:List Rw)(bars:List Str)(many:Nat)(z:Str):Bool:=decide (z∈bars)||decide (z∈je rows many)||(decide (z∉wH rows many)&&!jd rows 4)
def uI(names:List Str)(r:Rw):Bool:=!r.b&&(r.k==0||decide (r.z∉names))
def xC(rows:List Rw)(bars:List Str)(many:Nat)(names:List Str):Bool:=
 !(decide (plN rows<many)&&!jd rows 2)&&names.all (fun z=>!jP rows bars many z)&&((xR rows).drop many++tgs rows).all fun r=>!uI names r
theorem wf(h:z6 zs D bars):xR D.rows=D.P:=by
 unfold xR FD.rows;rw[filter_append,filter_append,filter_append,ug (k_p h),xg (fun r hr=>by rw[(h.t r hr).1];rfl),xg (fun r hr=>by rw[(h.g r hr).1];rfl),xg (fun r hr=>by rw[(h.b r hr).1];rfl)]
 simp
theorem zaA(h:z6 zs D bars):tgs D.rows=D.G:=by
 unfold tgs FD.rows;rw[filter_append,filter_append,filter_append,xg (fun r hr=>by rcases (h.p r hr).1 with e|e <;> rw[e] <;> rfl),xg (fun r hr=>by rw[(h.t r hr).1];rfl),ug (fun r hr=>by rw[(h.g r hr).1];rfl),xg (fun r hr=>by rw[(h.b r hr).1];rfl)]
 simp
theorem qY(h:z6 zs D bars):jd D.rows 2=D.tl:=by rw[<- xS h,wa];rfl
theorem zdW(h:z6 zs D bars):jd D.rows 4=D.bg:=by rw[<- vS h,wa];rfl
theorem zkq(h:∀r∈xs,r.k=0\/r.k=1):nms xs=(xs.filter fun r=>r.k==1).map (·.z):=by
 unfold nms
 congr 1
 refine filter_congr fun r hr=>?_;rcases h r hr with e|e <;> rw[e] <;> rfl
theorem zeP(h:∀r∈xs,yn r.k=true):nms xs=xs.map (·.z):=by
 unfold nms;rw[ug h]
theorem zhQ(h:∀r∈xs,yn r.k=false):nms xs=[]:=by
 unfold nms;rw[xg h];rfl
theorem znu(h:z6 zs D bars):nms D.G=D.G.map (·.z):=zeP fun r hr=>by rw[(h.g r hr).1];rfl
theorem vg(h:z6 zs D bars){m:Nat}(hm:m<=D.P.length):nms (D.rows.drop m)=nms (D.P.drop m)++nms D.G:=by
 unfold FD.rows;rw[List.drop_append_of_le_length hm,yv,yv,yv,zhQ (xs:=D.T) (fun r hr=>by rw[(h.t r hr).1];rfl),zhQ (xs:=D.B) (fun r hr=>by rw[(h.b r hr).1];rfl)]
 simp
theorem zaN(h:z6 zs D bars){m:Nat}(hm:m<=D.P.length):nms (D.rows.take m)=nms (D.P.take m):=by
 unfold FD.rows;rw[List.take_append_of_le_length hm]
theorem zh2(h:z6 zs D bars){m:Nat}(hm:m<=D.P.length):vF D.rows m=(D.P.drop m++D.G).filter fun r=>!r.b:=by
 unfold vF FD.rows;rw[List.drop_append_of_le_length hm,filter_append,filter_append,filter_append,filter_append,xg (xs:=D.T) (fun r hr=>by unfold frR;rw[(h.t r hr).1];rfl),xg (xs:=D.B) (fun r hr=>by unfold frR;rw[(h.b r hr).1];rfl)]
 rw[nil_append,append_nil]
 congr 1
 ·refine filter_congr fun r hr=>?_
  unfold frR;rcases (h.p r (mem_of_mem_drop hr)).1 with e|e <;> rw[e] <;> rfl
 ·refine filter_congr fun r hr=>?_
  unfold frR;rw[(h.g r hr).1];rfl
theorem zmt(h:z6 zs D bars)(m:Nat):(nms (D.P.take m)++(nms (D.P.drop m)++nms D.G)++bars).Nodup:=by
 rw[<- append_assoc,<- yv,take_append_drop];exact h.nd
theorem zb3(h:z6 zs D bars){m:Nat}(hm:m<=D.P.length)(names:List Str):xC D.rows bars m names=acc (xn D.rows bars m) names:=by
 have ndp:=zmt h m;have kA:∀r∈D.P.drop m,r.k=0\/r.k=1:=fun r hr=>(h.p r (mem_of_mem_drop hr)).1;have kL:∀r∈D.P.take m,r.k=0\/r.k=1:=fun r hr=>(h.p r (mem_of_mem_take hr)).1;have eL:wH D.rows m=nms (D.P.drop m)++nms D.G:=by unfold wH;rw[wf h,zaA h,<- zkq kA,znu h]
 have eG:je D.rows m=nms (D.P.take m):=by unfold je;rw[wf h,<- zkq kL]
 unfold xC jP;rw[wf h,zaA h,qY h,zdW h,xu h,eL,eG,aD ∅]
 unfold xn;rw[zh2 h hm,vS h,vg h hm,zaN h hm];generalize nms (D.P.drop m)++nms D.G=late at ndp |-;have kk:∀r∈D.P.drop m++D.G,yn r.k=!(r.k==0):=fun r hr=>by
  rcases List.mem_append.mp hr with hr|hr
  ·rcases kA r hr with e|e <;> rw[e] <;> rfl
  ·rw[(h.g r hr).1];rfl
 rw[Bool.eq_iff_iff,Bool.and_eq_true,Bool.and_eq_true,all_eq_true,all_eq_true];have second:(∀r∈D.P.drop m++D.G,(!uI names r)=true) ↔ (((D.P.drop m++D.G).filter fun r=>!r.b).any (fun r=>!yn r.k)=false/\∀z∈((D.P.drop m++D.G).filter fun r=>!r.b).map (·.z),z∈names):=by
  constructor
  ·intro hh
   exists wL fun r hr=>?_,fun z hz=>?_
   ·obtain⟨hr,hb⟩:=List.mem_filter.mp hr
    have:=hh r hr
    unfold uI at this;rw[hb,Bool.true_and] at this;rw[kk r hr];cases e:(r.k==0) with
    | true=>rw[e] at this;cases this
    | false=>rfl
   ·obtain⟨r,hr,rfl⟩:=List.mem_map.mp hz
    obtain⟨hr,hb⟩:=List.mem_filter.mp hr
    have:=hh r hr
    unfold uI at this;rw[hb,Bool.true_and] at this;by_cases e:r.z∈names
    ·exact e
    ·rw[aC e,Bool.or_true] at this;cases this
  ·rintro⟨h1,h2⟩ r hr
   unfold uI;cases hb:r.b with
   | true=>rfl
   | false=>
    have hf:r∈(D.P.drop m++D.G).filter fun r=>!r.b:=List.mem_filter.mpr ⟨hr,by rw[hb];rfl⟩
    have a:=List.any_eq_false.mp h1 r hf;rw[kk r hr] at a;have b:=h2 r.z (List.mem_map.mpr ⟨r,hf,rfl⟩);rw[aD (not_not_intro b)];cases e:(r.k==0) with
    | true=>rw[e] at a;exact absurd rfl a
    | false=>rfl
 rw[second];generalize (D.P.drop m++D.G).filter (fun r=>!r.b)=lk;cases ha:lk.any (fun r=>!yn r.k) with
 | true=>
  rw[aK rfl];exact⟨(fun h=>by cases h.2.1),(fun h=>by cases h)⟩
 | false=>
  rw[aJ zft];show _ ↔ ((z8 (lk.map (·.z))).all (fun z=>decide (z∈names))&&names.all (fun z=>if D.bg=true then decide (z∉_) else decide (z∈_)))=true
  rw[Bool.and_eq_true,all_eq_true,all_eq_true];have nn:(∀z∈lk.map (·.z),z∈names) ↔ ∀z∈z8 (lk.map (·.z)),decide (z∈names)=true:=⟨fun h z hz=>aC (h z ((zP _).mem_iff.mp hz)),fun h z hz=>of_decide_eq_true (h z ((zP _).mem_iff.mpr hz))⟩;rw[<- nn];have first:(∀z∈names,(!(decide (z∈bars)||decide (z∈nms (D.P.take m))||(decide (z∉late)&&!D.bg)))=true) ↔ ∀z∈names,(if D.bg=true then decide (z∉(if D.bg=true then z8 (bars++nms (D.P.take m)) else z8 late)) else decide (z∈(if D.bg=true then z8 (bars++nms (D.P.take m)) else z8 late)))=true:=by
   refine forall_congr' fun z=>forall_congr' fun hz=>?_;cases D.bg with
   | true=>
    rw[aK rfl,aK rfl,decide_eq_true_iff,(zP _).mem_iff,mem_append];by_cases a:z∈bars <;> by_cases b:z∈nms (D.P.take m) <;> simp [a,b]
   | false=>
    rw[aJ zft,aJ zft,decide_eq_true_iff,(zP _).mem_iff];by_cases c:z∈late
    ·have a:z∉bars:=fun hb=>by
      have:=List.nodup_append.mp ndp
      exact this.2.2 z (List.mem_append.mpr (.inr c)) z hb rfl
     have b:z∉nms (D.P.take m):=fun hb=>by
      have:=List.nodup_append.mp (List.nodup_append.mp ndp).1
      exact this.2.2 z hb z c rfl
     simp [a,b,c]
    ·simp [c]
  rw[first]
  exact⟨fun h=>⟨h.2.2,h.1.2⟩,fun h=>⟨⟨by simp,h.2⟩,rfl,h.1⟩⟩
theorem vW(h:z6 zs D bars)(many:Nat)(names:List Str):xC D.rows bars many names=acc (sF D bars many) names:=by
 unfold sF;by_cases hm:many<=D.P.length
 ·rw[aK hm,zb3 h hm]
 ·rw[aJ hm]
  cases ht:D.tl with
  | true=>
   rw[aK rfl,<- zb3 h (aF _)];have e1:(xR D.rows).drop many=(xR D.rows).drop D.P.length:=by rw[wf h,drop_of_length_le ∅,drop_of_length_le (aF _)]
   have e2:(xR D.rows).take many=(xR D.rows).take D.P.length:=by rw[wf h,take_of_length_le ∅,take_of_length_le (aF _)]
   unfold xC jP wH je;rw[e1,e2,qY h,ht];simp
  | false=>
   rw[aJ zft];unfold xC;rw[qY h,ht,xu h,aC ∅]
   rfl
theorem qB(h:z6 zs D bars){m:Nat}(hm:m<=D.P.length)(e:xn D.rows bars m=some (n,b,X)):wT (zs++yC) n b X:=by
 have ndp:=zmt h m;unfold xn at e;rw[zh2 h hm,vS h,vg h hm,zaN h hm] at e;split at e
 ·cases e
 next ha=>
 have ha:((D.P.drop m++D.G).filter fun r=>!r.b).any (fun r=>!yn r.k)=false:=by simpa using ha
 have hall:∀r∈(D.P.drop m++D.G).filter fun r=>!r.b,yn r.k=true:=fun r hr=>by
  have:=List.any_eq_false.mp ha r hr
  simpa using this
 have sub:(((D.P.drop m++D.G).filter fun r=>!r.b).map (·.z)).Sublist (nms (D.P.drop m)++nms D.G):=by
  rw[<- zeP hall,<- yv];unfold nms;exact((List.filter_sublist).filter _).map _
 have zin:∀z∈nms (D.P.take m)++(nms (D.P.drop m)++nms D.G)++bars,z∈zs++yC:=fun z hz=>by
  refine h.zn z ?_
  rwa [<- append_assoc,<- yv,take_append_drop] at hz
 obtain⟨nd1,_,nd3⟩:=List.nodup_append.mp ndp;obtain⟨ndL,ndl,nd4⟩:=List.nodup_append.mp nd1;have ndb:=(List.nodup_append.mp ndp).2.1;have ss:∀a:List Str,z8 (z8 a)=z8 a:=fun a=>uO.mpr (zP a);have nn:(z8 (((D.P.drop m++D.G).filter fun r=>!r.b).map (·.z))).Nodup:=(zP _).nodup_iff.mpr (sub.nodup ndl);have inl:∀z∈z8 (((D.P.drop m++D.G).filter fun r=>!r.b).map (·.z)),z∈nms (D.P.drop m)++nms D.G:=fun z hz=>sub.subset ((zP _).mem_iff.mp hz);cases hb:D.bg with
 | true=>
  rw[hb,aK rfl] at e;cases e;exists ss _,ss _,nn,(zP _).nodup_iff.mpr (List.nodup_append.mpr ⟨ndb,ndL,fun a ha c hc e=>nd3 c (List.mem_append.mpr (.inl hc)) a ha e.symm⟩),fun z hz=>zin z (List.mem_append.mpr (.inl (List.mem_append.mpr (.inr (inl z hz))))),fun z hz=>?_,fun z hz=>?_
  ·rcases List.mem_append.mp ((zP _).mem_iff.mp hz) with h|h
   ·exact zin z (List.mem_append.mpr (.inr h))
   ·exact zin z (List.mem_append.mpr (.inl (List.mem_append.mpr (.inl h))))
  ·refine propext ⟨fun hx=>?_,fun h=>by cases h⟩
   exfalso;rcases List.mem_append.mp ((zP _).mem_iff.mp hx) with h|h
   ·exact nd3 z (List.mem_append.mpr (.inr (inl z hz))) z h rfl
   ·exact nd4 z h z (inl z hz) rfl
 | false=>
  rw[hb,aJ zft] at e;cases e;exact⟨ss _,ss _,nn,(zP _).nodup_iff.mpr ndl,fun z hz=>zin z (List.mem_append.mpr (.inl (List.mem_append.mpr (.inr (inl z hz))))),fun z hz=>zin z (List.mem_append.mpr (.inl (List.mem_append.mpr (.inr ((zP _).mem_iff.mp hz))))),fun z hz=>propext ⟨fun _=>rfl,fun _=>(zP _).mem_iff.mpr (inl z hz)⟩⟩
theorem ve(h:z6 zs D bars){i:Nat}(e:sF D bars i=some (n,b,X)):wT (zs++yC) n b X:=by
 unfold sF at e;split at e
 next hi=>exact qB h hi e
 ·split at e
  ·exact qB h (aF _) e
  ·cases e
theorem z6.valid(h:z6 zs D bars)(hz:∀z∈zs++yC,zU z=true)(lb:bars.length<=60):jL D.rows bars:=by
 have ok4:∀r∈D.rows,r.ok:=fun r hr=>by
  unfold FD.rows at hr;rcases List.mem_append.mp hr with hr|hr
  ·obtain⟨e,n⟩:=h.p r hr;exact⟨by rcases e with e|e <;> omega,n⟩
  ·rcases List.mem_append.mp hr with hr|hr
   ·obtain⟨e,n⟩:=h.t r hr;exact⟨∅,n⟩
   ·rcases List.mem_append.mp hr with hr|hr
    ·obtain⟨e,n⟩:=h.g r hr;exact⟨∅,n⟩
    ·obtain⟨e,n⟩:=h.b r hr;exact⟨∅,n⟩
 have enm:nms D.rows=nms D.P++nms D.G:=by have:=vg h (m:=0) (zero_le _);simpa using this
 refine⟨ok4,?_,lb,zeI (fun r hr=>by rcases (h.p r hr).1 with e|e <;> rw[e] <;> rfl) (fun r hr=>by rw[(h.t r hr).1];rfl) h.lt (fun r hr=>by rw[(h.g r hr).1];rfl) (fun r hr=>by rw[(h.b r hr).1];rfl) h.lb,fun z hz'=>hz z (h.zn z (List.mem_append.mpr (.inr hz'))),by rw[enm];exact h.nd⟩
 unfold FD.rows;rw[aG,aG,aG]
 have:=h.ln
 have:=h.lt
 have:=h.lb
 omega
def xW(H:Hp)(la:Addr)(rows:List Rw):Prop:=∃us:List Addr,H la=some (.lst (us.map V.ref))/\Paired (TAt H) us rows
theorem xW.same(h:xW H la rows)(s:zq H H'):xW H' la rows:=let ⟨us,h1,h2⟩:=h;⟨us,s _ _ h1,zr s h2⟩
theorem TAt.upd(h:TAt H v r)(hD:H D=some (.lst ys)):TAt (upd H D o) v r:=by
 show L2.upd H D o v=_;rw[zi (fun e=>by rw[e] at h;rw[TAt,hD] at h;cases h)]
 exact h
theorem PAt.upd(h:PAt c H v r)(hD:H D=some (.lst ys)):PAt c (upd H D o) v r:=by
 obtain⟨dx,h⟩:=h;exists dx,?_;rw[zi (fun e=>by rw[e,hD] at h;cases h)]
 exact h
end
end K84
namespace L2
open PySem PySem.Spec PyProof.Rows
def jG:Value->Str
 | .str z _=>z
 | _=>""
theorem yN{α : Type}[DecidableEq α]:∀(zs ys:List α),zs.Nodup->(∀z∈zs,z∈ys)->zs.length<=ys.length
 | [],_,_,_=>zero_le _
 | z::zs,ys,h,hs=>by
  have hz:z∈ys:=hs z mem_cons_self;have e:(ys.erase z).length=ys.length - 1:=List.length_erase_of_mem hz;have l0 : 0<ys.length:=List.length_pos_of_mem hz;rw[List.nodup_cons] at h;have ih:=yN zs (ys.erase z) h.2 fun y hy=>(List.mem_erase_of_ne (fun e:y=z=>h.1 (by rw[<- e];exact hy))).mpr (hs y (mem_cons_of_mem _ hy))
  rw[length_cons];omega
theorem zgD{P:Program}{w:World}{h:Heap}{a:Addr}{zs:List Str}{n:Nat}(hS:h.SetOf (strKind P w) a (fun z=>decide (z∈zs)) n)(nd:zs.Nodup):zs.length<=n:=by
 obtain⟨o,es,ep,t,ho,hx,hd,he,hb,hf,hfi,hn⟩:=hS
 have:=yN zs (es.toList.map fun e=>jG e.2) nd fun z hz=>by
  obtain⟨e,hm,hk⟩:=(hb z).mp (aC hz);refine List.mem_map.mpr ⟨e,hm,?_⟩;obtain⟨tk,e2⟩:=Value.isStrOf_shape hk;rw[e2];rfl
 rw[aA] at this;have e3:es.toList.length=es.size:=rfl;omega
end L2
namespace K84
open PySem L2 PyProof.Rows
section
variable {mg:Str->Option Value}
end
end K84
namespace L2
open PySem PySem.Spec PyProof.Rows
section
variable {κ : Type}{E:VSP}[DecidableEq κ]
end
section
variable {td:TE}{ta:TA}
end
end L2
namespace K84
open PySem L2 PyProof.Rows
section
variable {K:Frag}{mg:Str->Option Value}{f CF:Addr}{c:C5}
variable {ok:Addr->Prop}{H:Hp}
theorem zfo{n:Nat}(h:zR K ok H n x (.str z)):x=.str z:=by
 have fl:vH x (.str z)->x=.str z:=fun h=>by cases x <;> first|exact h.elim|exact congrArg V.str h
 cases n with
 | zero=>exact fl h
 | succ n=>
  rcases h with h|⟨a,xs,ds,_,e,_⟩|⟨a,xs,ds,_,e,_⟩
  ·exact fl h
  ·cases e
  ·cases e
theorem zi2{n:Nat}(h:zR K ok H n x (.bl z)):x=.bl z:=by
 have fl:vH x (.bl z)->x=.bl z:=fun h=>by cases x <;> first|exact h.elim|exact congrArg V.bl h
 cases n with
 | zero=>exact fl h
 | succ n=>
  rcases h with h|⟨a,xs,ds,_,e,_⟩|⟨a,xs,ds,_,e,_⟩
  ·exact fl h
  ·cases e
  ·cases e
theorem zcj{n:Nat}(h:zR K ok H n x .non):x=.non:=by
 have fl:vH x .non->x=.non:=fun h=>by cases x <;> first|exact h.elim|rfl
 cases n with
 | zero=>exact fl h
 | succ n=>
  rcases h with h|⟨a,xs,ds,_,e,_⟩|⟨a,xs,ds,_,e,_⟩
  ·exact fl h
  ·cases e
  ·cases e
theorem zaG{n:Nat}:∀{zs:List Str}{vs:List V},Paired (zR K ok H n) vs (zs.map Dt.str)->vs=zs.map V.str
 | [],_,.nil=>rfl
 | _::_,_,.cons h t=>by rw[zfo h,zaG t];rfl
theorem zaH{n:Nat}{x:V}{zs:List Str}(h:zR K ok H (n+1) x (.lst (zs.map Dt.str))):∃l,x=.ref l/\ok l/\H l=some (.lst (zs.map V.str)):=by
 rcases h with h|⟨a,xs,ds,_,e,_⟩|⟨a,xs,ds,ex,e,oa,ha,p⟩
 ·cases x <;> exact h.elim
 ·cases e
 ·cases e
  rw[zaG p] at ha;exact⟨a,ex,oa,ha⟩
theorem ziD{m:Nat}(h:zR K ok H (m+2) v (xL (some (n,b,X)))):∃t l0 l2,v=.ref t/\SqT K H t [.ref l0,.bl b,.ref l2]/\ok l0/\ok l2/\H l0=some (.lst (n.map V.str))/\H l2=some (.lst (X.map V.str)):=by
 rcases h with h|⟨a,xs,ds,ex,e,hs,p⟩|⟨a,xs,ds,_,e,_⟩
 ·cases v <;> exact h.elim
 ·cases e
  cases p with
  | cons h1 p=>cases p with
   | cons h2 p=>cases p with
    | cons h3 p=>
     cases p;obtain⟨l0,e0,o0,g0⟩:=zaH h1;have e1:=zi2 h2;obtain⟨l2,e2,o2,g2⟩:=zaH h3;subst e0 e1 e2;exact⟨a,l0,l2,ex,hs,o0,o2,g0,g2⟩
 ·cases e
inductive zgA(K:Frag)(c:C5)(CF:Addr)(vs:List V)(H:Hp)(Q:VK)(E:XK):Prop|mk(f a:Addr)(rows:List Rw)(bars:List Str)(ct:List vE):vs=[.ref f,.ref a]->xG c CF H f rows bars->zef K H a ct->(∀(H':Hp),zq H H'->Q (.bl (qP rows bars ct).isEmpty) H')->zgA K c CF vs H Q E
theorem zkT:zA ["form","call"] ["form","call"] (zh zg2):=fsc
theorem zjy(F:Fun K "fits" "fits" zg2 f fd)(c1:⇑5 "misfits" g1 d1 ["form","call"] (zkg K c CF)):↥6 f fd ["form","call"] (zgA K c CF):=by
 specialize zkT;obtain⟨f,a,rows,bars,ct,rfl,hF,hC,q⟩:=h;have hU:=hr.units;have hU0:=hr.units0;exists _,zg (zB (xB (OpR.or (zdC hU) (zcz hU0)) (cF c1 hr (ac (pv 0) (ac (pv 1) zc))) (zT zc) (zF _))),?_;exists _,rfl,_,rfl,f,a,rows,bars,ct,rfl,hF,hC,fun l H1 s1 ⟨us,nl,el,ml⟩=>?_;exists wN,fun l2 hl2=>?_;have s2:=zd hl2 (.lst []);have lu:=ml.length;cases e:qP rows bars ct with
 | nil=>
  rw[e] at ml;cases ml;refine .inl ⟨l,l2,0,.lst [],fun _=>True,fun _=>True,rfl,rfl,⋯,zR.lst True.intro (s2 _ _ el) .nil,zR.lst True.intro za .nil,?_⟩
  have:=q _ (s1.trans s2)
  rw[e] at this;exact this
 | cons x xs=>
  refine .inr ⟨l,l2,_,_,rfl,rfl,s2 _ _ el,za,(by rw[aA,lu,e];exact Nat.succ_ne_zero _),?_⟩
  have:=q _ (s1.trans s2)
  rw[e] at this;exact this
theorem zeh{κ : Type}[DecidableEq κ]{kvs:List (κ×V)}{k k' : κ}{v:V}:yd (xo kvs k v) k'=if k'=k then some v else yd kvs k':=zb1 kvs k k' v
theorem qM(r:Rw)(rs:List Rw):nms (r::rs)=(if yn r.k=true then [r.z] else [])++nms rs:=by
 have:=yv [r] rs
 rw[jZ] at this;exact this
theorem zad{z:Str}:∀(rows:List Rw) (i:Nat) (acc:List (Key×V)),z∉nms rows->yd (y8 i acc rows) (.inr z)=yd acc (.inr z)
 | [],_,_,_=>rfl
 | r::rs,i,acc,h=>by
  rw[qM] at h;have h2:z∉nms rs:=fun e=>h (mem_append_right _ e);show yd (y8 (i+1) _ rs) (.inr z)=_;rw[zad rs (i+1) _ h2];split
  next e=>
   rw[zeh,aJ];intro e2;rw[aK e] at h;exact h (by rw[Sum.inr.inj e2];exact mem_append_left _ (List.mem_singleton.mpr rfl))
  ·rfl
theorem zae{r:Rw}(hb:yn r.k=true):∀(rows:List Rw) (i j:Nat) (acc:List (Key×V)),rows[j]?=some r->(nms rows).Nodup->yd (y8 i acc rows) (.inr r.z)=some (.int ((i+j:Nat):Int))
 | [],_,_,_,h,_=>by simp at h
 | y::ys,i,0,acc,h,nd=>by
  have e:y=r:=by simpa using h
  subst e;rw[qM,aK hb] at nd;have hz:y.z∉nms ys:=(List.nodup_cons.mp nd).1;show yd (y8 (i+1) (if yn y.k=true then xo acc (.inr y.z) (.int i) else acc) ys) (.inr y.z)=_
  rw[zad ys (i+1) _ hz,aK hb,zeh,aK rfl];rfl
 | y::ys,i,j+1,acc,h,nd=>by
  rw[qM] at nd;have nd2:=(List.nodup_append.mp nd).2.1;show yd (y8 (i+1) _ ys) (.inr r.z)=_;rw[zae hb ys (i+1) j _ (by simpa using h) nd2,show i+1+j=i+(j+1) by omega]
theorem ziC(h:yd (kvP a) (.inr z)=some v):yd (kvP (a++b)) (.inr z)=some v:=by
 unfold yd at h |-;unfold kvP at h |-;rw[aE,List.find?_append];cases e:(a.map fun p=>((Sum.inr p.1:Key),V.int (p.2:Nat))).find? fun kv=>decide (kv.1=.inr z) with
 | none=>rw[e] at h;cases h
 | some kv=>rw[e] at h;exact h
theorem ziB{i:Nat}(h:(a.any fun p=>decide (p.1=z))=false):yd (kvP (a++[(z,i)])) (.inr z)=some (.int (i:Nat)):=by
 have e0:yd (kvP a) (.inr z)=none:=by
  rw[<- wI] at h;exact Option.not_isSome_iff_eq_none.mp (by rw[h];exact zft)
 unfold yd at e0 |-;unfold kvP at e0 |-;rw[aE,List.find?_append];cases e:(a.map fun p=>((Sum.inr p.1:Key),V.int (p.2:Nat))).find? fun kv=>decide (kv.1=.inr z) with
 | none=>
  rw[Option.none_or,map_cons,find?_cons,aC rfl];rfl
 | some kv=>rw[e] at e0;cases e0
theorem za6{z:Str}{v:V}:∀(zs:List Str) (i:Nat) (acc:List (Str×Nat)),yd (kvP acc) (.inr z)=some v->yd (kvP (fpF i acc zs)) (.inr z)=some v
 | [],_,_,h=>h
 | y::ys,i,acc,h=>by
  show yd (kvP (fpF (i+1) (if (acc.any fun p=>decide (p.1=y))=true then acc else acc++[(y,i)]) ys)) _=_
  split
  ·exact za6 ys (i+1) acc h
  ·exact za6 ys (i+1) _ (ziC h)
theorem zj0{acc:List (Str×Nat)}{z:Str}:(acc.any fun p=>decide (p.1=z))=decide (z∈acc.map (·.1)):=by
 rw[Bool.eq_iff_iff,any_eq_true,decide_eq_true_eq,List.mem_map];exact⟨fun⟨p,h1,h2⟩=>⟨p,h1,of_decide_eq_true h2⟩,fun⟨p,h1,h2⟩=>⟨p,h1,aC h2⟩⟩
theorem zd0:∀(a b:List Str) (j:Nat) (acc:List (Str×Nat)),fpF j acc (a++b)=fpF (j+a.length) (fpF j acc a) b
 | [],_,_,_=>rfl
 | z::zs,b,j,acc=>by
  show fpF (j+1) _ (zs++b)=fpF (j+(zs.length+1)) (fpF (j+1) _ zs) b;rw[zd0 zs b (j+1),show j+1+zs.length=j+(zs.length+1) by omega]
theorem zkt:∀(zs:List Str) (j:Nat) (acc:List (Str×Nat)),(∀p∈acc,p.2<j)->∀p∈fpF j acc zs,p.2<j+zs.length
 | [],_,_,h,p,hp=>h p hp
 | z::zs,j,acc,h,p,hp=>by
  have h2:=zkt zs (j+1) _ (fun q hq=>?_) p hp
  ·rw[length_cons];omega
  ·split at hq
   ·have:=h q hq;omega
   ·rcases List.mem_append.mp hq with hq|hq
    ·have:=h q hq;omega
    ·rw[List.mem_singleton.mp hq];exact lt_succ_self _
theorem zc8{zs:List Str}{i:Nat}{z:Str}(h:zs[i]?=some z):zs.take (i+1)=zs.take i++[z]:=by
 have hi:i<zs.length:=(List.getElem?_eq_some_iff.mp h).1;have e:zs[i]=z:=(List.getElem?_eq_some_iff.mp h).2;rw[take_succ_eq_append_getElem hi,e]
theorem zeX{zs:List Str}{i:Nat}{z:Str}(h:zs[i]?=some z):fpF 0 [] (zs.take (i+1))=if ((fpF 0 [] (zs.take i)).any fun p=>decide (p.1=z))=true then fpF 0 [] (zs.take i) else fpF 0 [] (zs.take i)++[(z,i)]:=by
 have hi:i<zs.length:=(List.getElem?_eq_some_iff.mp h).1;rw[zc8 h,zd0];have el : 0+(zs.take i).length=i:=by rw[length_take];omega
 rw[el];rfl
theorem zir{i:Nat}(h:zs[i]?=some z):decide (yd (kvP (fpZ zs)) (.inr z)=some (.int (i:Nat)))=!((fpF 0 [] (zs.take i)).any fun p=>decide (p.1=z)):=by
 have hi:i<zs.length:=(List.getElem?_eq_some_iff.mp h).1;have e:fpZ zs=fpF (i+1) (fpF 0 [] (zs.take (i+1))) (zs.drop (i+1)):=by
  unfold fpZ
  conv=>lhs;rw[<- take_append_drop (i+1) zs,zd0]
  rw[show 0+(zs.take (i+1)).length=i+1 by rw[length_take];omega]
 cases hb:(fpF 0 [] (zs.take i)).any fun p=>decide (p.1=z) with
 | true=>
  have hs:(yd (kvP (fpF 0 [] (zs.take i))) (.inr z)).isSome=true:=by rw[wI];exact hb
  obtain⟨v,hv⟩:=Option.isSome_iff_exists.mp hs;obtain⟨z',j,ez,ev,hm⟩:=zbM hv;have hj:=zkt (zs.take i) 0 [] (fun p hp=>by cases hp) _ hm
  rw[length_take] at hj;have h2:=zeX h;rw[hb,aK rfl] at h2;have h3:=za6 (z:=z) (v:=v) (zs.drop (i+1)) (i+1) (fpF 0 [] (zs.take (i+1))) (by rw[h2];exact hv)
  rw[e,h3,ev];refine aD fun e2=>?_
  have:(j:Int)=(i:Int):=V.int.inj (Option.some.inj e2)
  have hj':j<0+min i zs.length:=hj;omega
 | false=>
  have h2:=zeX h;rw[hb,aJ ⋯] at h2
  have h3:=za6 (z:=z) (v:=.int (i:Nat)) (zs.drop (i+1)) (i+1) (fpF 0 [] (zs.take (i+1))) (by rw[h2];exact ziB hb)
  rw[e,h3];exact aC rfl
def j8(rows:List Rw)(bars:List Str)(many:Nat)(z:Str):Str:=(y3 rows bars many z).getD ""
theorem zgf{many:Nat}(nd:(nms rows).Nodup)(h:z∉bars){l:Nat}(hl:rows[l]?=some r)(hb:yn r.k=true)(he:r.z=z):j8 rows bars many z=if l<min many (plN rows) then "again" else "":=by
 have hv:=zae hb rows 0 l [] hl nd;rw[he] at hv;have e1:y3.lastD' z rows=some l:=by unfold y3.lastD';rw[hv,Nat.zero_add];rfl
 unfold j8 y3;rw[aJ h,e1];show(if l<plN rows/\l<many then some ("again" : Str) else none).getD ""=_
 by_cases hc:l<plN rows/\l<many
 ·rw[aK hc,aK ∅];rfl
 ·rw[aJ hc,aJ ∅];rfl
theorem zfc{many:Nat}:y3 rows bars many z=if j8 rows bars many z="" then none else some (j8 rows bars many z):=by
 unfold j8;cases h:y3 rows bars many z with
 | none=>rfl
 | some x=>
  have hx:x≠"":=by
   unfold y3 at h;split at h
   ·cases h;decide +kernel
   ·split at h
    ·split at h
     ·cases h
     ·cases h;decide +kernel
    ·split at h
     ·cases h;decide +kernel
     ·cases h
  rw[aJ (show ¬(some x).getD ""="" from hx)];rfl
theorem zeU{i many:Nat}:wj r i many fk=(!fr r.k r.b&&!(wp r.k&&decide (i<many))&&!(yn r.k&&(yd fk (.inr r.z)).isSome)):=by
 unfold wj zbI;by_cases h1:wp r.k=true/\i<many
 ·rw[aK h1,h1.1,aC h1.2]
  have e:L2.eqT [.str "place",.int (i:Nat)] [.str "free"]=false:=rfl;rw[e];simp
 ·rw[aJ h1]
  have hn:(wp r.k&&decide (i<many))=false:=by
   cases hp:wp r.k with
   | false=>rfl
   | true=>exact aD fun h=>h1 ⟨hp,h⟩
  rw[hn];by_cases h2:yn r.k=true/\(yd fk (.inr r.z)).isSome=true
  ·rw[aK h2,h2.1,h2.2]
   have e:∀v,L2.eqT [.str "name",v] [.str "free"]=false:=fun v=>by unfold L2.eqT;simp
   rw[e];simp
  ·rw[aJ h2]
   have hn2:(yn r.k&&(yd fk (.inr r.z)).isSome)=false:=by
    cases hp:yn r.k with
    | false=>rfl
    | true=>
     cases hq:(yd fk (.inr r.z)).isSome with
     | false=>rfl
     | true=>exact absurd ⟨hp,hq⟩ h2
   rw[hn2];have e:L2.eqT [.str "free"] [.str "free"]=true:=by unfold L2.eqT;simp [range_succ,eqV]
   rw[e];simp
theorem j5:(yd (kvP (fpZ zs)) (.inr z)).isSome=decide (z∈zs):=by
 rw[wI,Bool.eq_iff_iff,decide_eq_true_eq];constructor
 ·intro h
  have key:∀zs (i:Nat) (acc:List (Str×Nat)),((fpF i acc zs).any fun p=>decide (p.1=z))=true->(acc.any fun p=>decide (p.1=z))=true\/z∈zs:=by
   intro zs;induction zs with
   | nil=>exact fun i acc h=>.inl h
   | cons y ys ih=>
    intro i acc h;rcases ih (i+1) _ h with h|h
    ·split at h
     ·exact .inl h
     ·rw[any_append,Bool.or_eq_true] at h
      rcases h with h|h
      ·exact .inl h
      ·right
       simp at h;rw[h];exact mem_cons_self
    ·exact .inr (mem_cons_of_mem _ h)
  rcases key zs 0 [] h with h|h
  ·simp at h
  ·exact h
 ·exact fun h=>zdZ zs 0 [] h
theorem ze0:z∈(fpZ zs).map (·.1) ↔ z∈zs:=by
 have h1:((fpZ zs).any fun p=>decide (p.1=z))=decide (z∈zs):=by rw[<- wI,j5]
 rw[zj0,Bool.eq_iff_iff,decide_eq_true_eq,decide_eq_true_eq] at h1;exact h1
theorem zei{many:Nat}:qb rows bars many (fpZ zs)=[] ↔ ∀z∈zs,y3 rows bars many z=none:=by
 unfold qb;rw[List.filterMap_eq_nil_iff];constructor
 ·intro h z hz
  obtain⟨p,hp,rfl⟩:=List.mem_map.mp (ze0.mpr hz)
  have:=h p hp
  rwa [map_eq_none_iff] at this
 ·intro h p hp
  rw[map_eq_none_iff];exact h _ (ze0.mp (List.mem_map.mpr ⟨p,hp,rfl⟩))
theorem zcS{fk:List (Key×V)}:∀(zs:List Str) (i:Nat),jO fk i zs=[] ↔ ∀j z,zs[j]?=some z->yd fk (.inr z)=some (.int ((i+j:Nat):Int))
 | [],i=>by simp [jO]
 | y::ys,i=>by
  show(if yd fk (.inr y)=some (.int (i:Nat)) then [] else [(("doubled" : Str),i)])++jO fk (i+1) ys=[] ↔ _
  rw[append_eq_nil_iff,zcS ys (i+1)];constructor
  ·rintro⟨h1,h2⟩ j z hj
   cases j with
   | zero=>
    have:y=z:=by simpa using hj
    subst this;split at h1
    next e=>exact e
    ·cases h1
   | succ j=>
    have:=h2 j z (by simpa using hj)
    rw[this]
    congr 3
    omega
  ·intro h
   exists ?_,fun j z hj=>?_
   ·have h0:=h 0 y rfl
    rw[Nat.add_zero] at h0;rw[aK h0]
   ·have:=h (j+1) z (by simpa using hj)
    rw[this]
    congr 3
    omega
theorem fpT:((fpF 0 [] zs).any fun p=>decide (p.1=z))=decide (z∈zs):=by
 have:=j5 (zs:=zs) (z:=z)
 rw[wI] at this;exact this
theorem ze8:jO (kvP (fpZ zs)) 0 zs=[] ↔ zs.Nodup:=by
 rw[zcS,List.nodup_iff_pairwise_ne];constructor
 ·intro h
  rw[List.pairwise_iff_getElem];intro i j hi hj hij e;have h1:=zir (zs:=zs) (i:=j) (z:=zs[j]) (aB hj);have h2:=h j _ (aB hj);rw[Nat.zero_add] at h2;rw[aC h2,fpT] at h1;have hm:zs[j]∈zs.take j:=by
   rw[<- e];rw[List.mem_iff_getElem];exact⟨i,by rw[length_take];omega,by rw[List.getElem_take]⟩
  rw[aC hm] at h1;cases h1
 ·intro h j z hj
  have h1:=zir hj;rw[fpT] at h1;have hn:z∉zs.take j:=by
   intro hm;obtain⟨i,hi,e⟩:=List.mem_iff_getElem.mp hm;rw[length_take] at hi;rw[List.getElem_take] at e;have hjl:j<zs.length:=(List.getElem?_eq_some_iff.mp hj).1
   have:=(List.pairwise_iff_getElem.mp h) i j ∅ hjl ∅
   rw[aB hjl] at hj;exact this (e.trans (Option.some.inj hj).symm)
  rw[aD hn] at h1;rw[Nat.zero_add];exact of_decide_eq_true h1
theorem zcx{many:Nat}:ur rows many=[] ↔ ((zQ 2 0 rows).isSome=true\/many<=plN rows):=by
 unfold ur;split
 next h=>simp [h]
 next h=>
  rw[List.map_eq_nil_iff,List.range_eq_nil];constructor
  ·intro e;right;omega
  ·rintro (e|e)
   ·exact absurd e h
   ·omega
theorem jt{many:Nat}{fk:List (Key×V)}:∀(rows:List Rw) (i:Nat),vG many fk i rows=[] ↔ ∀j r,rows[j]?=some r->wj r (i+j) many fk=false
 | [],i=>by simp [vG]
 | y::ys,i=>by
  show(if wj y i many fk=true then [(("lacking" : Str),i)] else [])++vG many fk (i+1) ys=[] ↔ _
  rw[append_eq_nil_iff,jt ys (i+1)];constructor
  ·rintro⟨h1,h2⟩ j z hj
   cases j with
   | zero=>
    have:y=z:=by simpa using hj
    subst this;split at h1
    ·cases h1
    next e=>exact Bool.eq_false_iff.mpr e
   | succ j=>
    have:=h2 j z (by simpa using hj)
    rw[show i+(j+1)=i+1+j by omega]
    exact this
  ·intro h
   exists ?_,fun j z hj=>?_
   ·have:=h 0 y rfl
    rw[Nat.add_zero] at this;rw[aJ (by rw[this];decide)]
   ·have:=h (j+1) z (by simpa using hj)
    rw[show i+1+j=i+(j+1) by omega]
    exact this
theorem zgj{many:Nat}(V1:jL rows bars){l:Nat}(hl:rows[l]?=some r)(hb:yn r.k=true)(he:r.z=z)(hn:¬(l<plN rows/\l<many)):y3 rows bars many z=none:=by
 have nd:(nms rows).Nodup:=(List.nodup_append.mp V1.nd).1;have hm:z∈nms rows:=by
  unfold nms;exact List.mem_map.mpr ⟨r,List.mem_filter.mpr ⟨aH hl,hb⟩,he⟩
 have hz:z∉bars:=fun h=>(List.nodup_append.mp V1.nd).2.2 z hm z h rfl;rw[zfc,zgf nd hz hl hb he,aJ (show ¬l<min many (plN rows) by omega),aK rfl]
theorem zig{many:Nat}(h1:names.Nodup)(h2:(zQ 2 0 rows).isSome=true\/many<=plN rows)(h3:∀z∈names,y3 rows bars many z=none)(h4:∀(i:Nat) r,rows[i]?=some r->fr r.k r.b=true\/(wp r.k=true/\i<many)\/(yn r.k=true/\r.z∈names)):u9 rows bars many names=[]:=by
 unfold u9;rw[append_eq_nil_iff,append_eq_nil_iff,append_eq_nil_iff,ze8,zcx,zei,jt];exists ⟨⟨h1,h2⟩,h3⟩,fun i r hr=>?_;rw[zeU,j5,Nat.zero_add];rcases h4 i r hr with h|⟨h,h'⟩|⟨h,h'⟩
 ·rw[h];rfl
 ·rw[h,aC h'];simp
 ·rw[h,aC h'];simp
theorem zhR(h:z∈nms rows):∃(l:Nat) (r:Rw),rows[l]?=some r/\yn r.k=true/\r.z=z:=by
 unfold nms at h;obtain⟨r,hr,rfl⟩:=List.mem_map.mp h;rw[List.mem_filter] at hr;obtain⟨l,hl⟩:=List.mem_iff_getElem?.mp hr.1;exact⟨l,r,hl,hr.2,rfl⟩
theorem zgi{many:Nat}(h:z∉bars)(hk:z∉nms rows):y3 rows bars many z=if (zQ 4 0 rows).isSome=true then none else some ("strange" : Str):=by
 have hv:=zad (z:=z) rows 0 [] hk;have e1:y3.lastD' z rows=none:=by unfold y3.lastD';rw[hv];rfl
 unfold y3;rw[aJ h,e1]
theorem zc7(h:z6 zs D bars)(V1:jL D.rows bars){many:Nat}(nd:names.Nodup)(ht:xC D.rows bars many names=true):u9 D.rows bars many names=[]:=by
 unfold xC at ht;rw[Bool.and_eq_true,Bool.and_eq_true,all_eq_true,all_eq_true] at ht;obtain⟨⟨t1,t2⟩,t3⟩:=ht;rw[qY h] at t1;have lenP:plN D.rows=D.P.length:=xu h;have er:D.rows=D.P++(D.T++(D.G++D.B)):=rfl;rw[wf h,zaA h] at t3;have grp:∀{i:Nat}{r:Rw},D.rows[i]?=some r->(i<D.P.length/\D.P[i]?=some r)\/(D.P.length<=i/\(r∈D.T\/r∈D.G\/r∈D.B)):=fun {i r} hi=>by
  by_cases hp:i<D.P.length
  ·rw[er,getElem?_append_left hp] at hi
   exact .inl ⟨hp,hi⟩
  ·rw[er,getElem?_append_right ∅] at hi
   have:=aH hi
   refine .inr ⟨∅,?_⟩
   rcases List.mem_append.mp this with m|m
   ·exact .inl m
   ·exact .inr (List.mem_append.mp m)
 have good:∀r∈D.P.drop many++D.G,r.b=true\/(r.k≠0/\r.z∈names):=fun r hr=>by
  have:=t3 r hr
  unfold uI at this;cases hb:r.b with
  | true=>exact .inl rfl
  | false=>
   right;rw[hb] at this;constructor
   ·intro e;rw[e] at this;cases this
   ·refine Decidable.by_contra fun hn=>?_
    rw[aC hn,Bool.or_true] at this;cases this
 have frG:∀{r:Rw},(r.k=0\/r.k=1\/r.k=3)->fr r.k r.b=r.b:=fun {r} e=>by rcases e with e|e|e <;> rw[e] <;> rfl
 refine zig nd ?_ (fun z hz=>?_) (fun i r hr=>?_)
 ·by_cases hm:plN D.rows<many
  ·left
   rw[xS h];rw[aC hm,Bool.true_and,Bool.not_not] at t1;exact t1
  ·exact .inr ∅
 ·have bz:=t2 z hz
  unfold jP at bz;rw[Bool.not_eq_true',Bool.or_eq_false_iff,Bool.or_eq_false_iff] at bz;obtain⟨⟨b1,b2⟩,b3⟩:=bz;have b1:=of_decide_eq_false b1;have b2:=of_decide_eq_false b2;by_cases hl:∃(l:Nat) (r:Rw),D.rows[l]?=some r/\yn r.k=true/\r.z=z/\¬(l<plN D.rows/\l<many)
  ·obtain⟨l,r,h1,h2,h3,h4⟩:=hl
   exact zgj V1 h1 h2 h3 h4
  have hnn:z∉nms D.rows:=fun hm=>by
   obtain⟨l,r,h1,h2,h3⟩:=zhR hm;have hlt:l<plN D.rows/\l<many:=Decidable.by_contra fun hn=>hl ⟨l,r,h1,h2,h3,hn⟩;refine b2 ?_;rcases grp h1 with ⟨hp,hi⟩|⟨hp,_⟩
   ·have k1:r.k=1:=by
     rcases (h.p r (aH hi)).1 with e|e
     ·rw[e] at h2;cases h2
     ·exact e
    unfold je;rw[wf h];refine List.mem_map.mpr ⟨r,List.mem_filter.mpr ⟨aH (i:=l) ?_,by rw[k1];rfl⟩,h3⟩
    rw[List.getElem?_take,aK hlt.2];exact hi
   ·rw[lenP] at hlt
    omega
  rw[zgi b1 hnn,vS h,<- zdW h];have hnl:z∉wH D.rows many:=fun hm=>by
   unfold wH at hm;rw[wf h,zaA h] at hm;refine hnn ?_;unfold nms;rcases List.mem_append.mp hm with m|m
   ·obtain⟨r,hr,e⟩:=List.mem_map.mp m
    obtain⟨hr,k⟩:=List.mem_filter.mp hr;exact List.mem_map.mpr ⟨r,List.mem_filter.mpr ⟨by rw[er];exact mem_append_left _ (mem_of_mem_drop hr),by rw[show r.k=1 by simpa using k];rfl⟩,e⟩
   ·obtain⟨r,hr,e⟩:=List.mem_map.mp m
    exact List.mem_map.mpr ⟨r,List.mem_filter.mpr ⟨by rw[er];exact mem_append_right _ (mem_append_right _ (mem_append_left _ hr)),by rw[(h.g r hr).1];rfl⟩,e⟩
  rw[aC hnl,Bool.true_and,Bool.not_eq_false'] at b3;rw[b3,aK rfl]
 ·rcases grp hr with ⟨hp,hi⟩|⟨hp,hT|hG|hB⟩
  ·have kr:=(h.p r (aH hi)).1
   by_cases hm:i<many
   ·exact .inr (.inl ⟨by rcases kr with e|e <;> rw[e] <;> rfl,hm⟩)
   ·have hd:r∈D.P.drop many:=by
     refine aH (i:=i - many) ?_;rw[getElem?_drop,show many+(i - many)=i by omega]
     exact hi
    rcases good r (mem_append_left _ hd) with e|⟨e1,e2⟩
    ·exact .inl (by rw[frG (by rcases kr with e|e;exact .inl e;exact .inr (.inl e))];exact e)
    ·refine .inr (.inr ⟨?_,e2⟩)
     rcases kr with e|e
     ·exact absurd e e1
     ·rw[e];rfl
  ·exact .inl (by rw[(h.t r hT).1];rfl)
  ·have kr:=(h.g r hG).1
   rcases good r (mem_append_right _ hG) with e|⟨e1,e2⟩
   ·exact .inl (by rw[frG (.inr (.inr kr))];exact e)
   ·exact .inr (.inr ⟨by rw[kr];rfl,e2⟩)
  ·exact .inl (by rw[(h.b r hB).1];rfl)
theorem zcZ(h:wT zs n b X):acc (some (n,b,X)) n=true:=by
 show(n.all (fun y=>decide (y∈n))&&n.all (fun y=>if b=true then decide (y∉X) else decide (y∈X)))=true
 rw[Bool.and_eq_true];exists List.all_eq_true.mpr fun y hy=>aC hy,List.all_eq_true.mpr fun y hy=>?_
 have:=h.in_ y hy
 cases b with
 | true=>rw[aK rfl];exact aC (by rw[this];exact fun e=>by cases e)
 | false=>rw[aJ zft];exact aC (by rw[this])
theorem zaS{K:Frag}{ok:Addr->Prop}{H:Hp}{n:Nat}:∀(ts:List Int),Paired (zR K ok H n) (ts.map V.int) (ts.map Dt.int)
 | []=>.nil
 | _::ts=>.cons .int (zaS ts)
end
end K84
namespace L2
open PySem PySem.Spec PyProof.Rows
def jf(w:World):Bool:=w.params.followText "set-order"
def Gd(w:World)(es:Array (Int×Value))(t:SetTable):Prop:=(es.toList.map fun e=>jG e.2).Nodup/\(jf w=true\/t.led=true)/\(t.plain=true->es.size=0)
def wS(P:Program)(w:World)(h:Heap)(a:Addr)(S:Str->Bool)(n:Nat):Prop:=
 ∃o es ep t,h.get? a=some o/\o.ExactSet/\o.data=.set es ep t/\ElemsOf (PySem.strKind P w) es.toList/\(∀k,S k=true ↔ ∃e∈es.toList,(PySem.strKind P w).is k e.2=true)
 /\es.size<scanBound/\t.fits es.size=true/\es.size=n/\Gd w es t
theorem zdO(t:SetTable)(es:Array (Int×Value))(h:Int)(x:Value):(layNew t es h x).2.1.led=t.led:=by
 unfold layNew;split
 ·rename_i slot wd _
  show((t.put slot).1.orStandIn _).led=t.led;unfold SetTable.orStandIn;split <;> rfl
 ·rfl
theorem zbC(t:SetTable)(es:Array (Int×Value))(k:Nat):(relayAll t es k).2.1.led=t.led:=by
 unfold relayAll;split
 ·rename_i t' order hr
  dsimp only;split
  ·unfold SetTable.relaid SetTable.laid at hr
   cases hq:SetTable.layClean (SetTable.sizeAbove k - 1) (es.map (·.1)) with
   | none=>rw[hq] at hr;cases hr
   | some ow=>rw[hq] at hr;injection hr with hr;injection hr with h1 h2;rw[<- h1]
  ·rfl
 ·rfl
theorem qy(t:SetTable)(es:Array (Int×Value))(k:Nat)(h:t.plain=false):(relayAll t es k).2.1.plain=false:=by
 unfold relayAll;split
 ·rename_i t' order hr
  dsimp only;split
  ·unfold SetTable.relaid SetTable.laid at hr
   cases hq:SetTable.layClean (SetTable.sizeAbove k - 1) (es.map (·.1)) with
   | none=>rw[hq] at hr;cases hr
   | some ow=>rw[hq] at hr;injection hr with hr;injection hr with h1 h2;rw[<- h1];exact h
  ·rfl
 ·rfl
section
variable {E:VSP}
theorem zcY{g:Bool->Sem Unit}(hg:∀(b:Bool) s₁ (Q':Unit->Shared->Prop),Q' () s₁->wpAny (model P w) A (g b) Q' E s₁)
  {ep:Nat}(ho:s.heap.get? a=some o) (hex:o.ExactSet) (hd:o.data=.set es ep t)
  {S':Str->Bool}(hel1:ElemsOf (PySem.strKind P w) es1.toList) (hmem1:∀k',S' k'=true ↔ ∃e∈es1.toList,(PySem.strKind P w).is k' e.2=true)
  (hb1:es1.size<scanBound) (hf2:t2.fits es1.size=true) (hnd:(es1.toList.map fun e=>jG e.2).Nodup) (hld:jf w=true\/t2.led=true) (hpl:t2.plain=false) {R:Option Bool->Shared->Prop}
  (h:∀h',Heap.SameBut a s.heap h'->wS P w h' a S' es1.size->R (some true) { s with heap:=h' }) :
  wpAny (model P w) A (do
    storeSet a es1 t2
    if (!wasDummy&&t2.tooFull)=true then do
      g (relayAll t2 es1 (SetTable.grown es1.size)).2.2
      storeSet a (relayAll t2 es1 (SetTable.grown es1.size)).1 (relayAll t2 es1 (SetTable.grown es1.size)).2.1
      pure (some true)
     else pure (some true)) R E s:=by
 refine zwb (wpAny_storeSet_of ho hd ?_ (fits_of_scanBound hb1));obtain⟨ho1,hS1⟩:=SetOf_store (knd:=PySem.strKind P w) ho hex hd hel1 hmem1 hb1 hf2;have hsb1:=Heap.SameBut.update s.heap a (Obj.putSet es1 t2);split
 ·have hp:=relayAll_perm t2 es1 (SetTable.grown es1.size)
  have hfr:=relayAll_fits t2 es1 (SetTable.grown es1.size);have hl:=zbC t2 es1 (SetTable.grown es1.size);have hpp:=qy t2 es1 (SetTable.grown es1.size) hpl;generalize hRl:relayAll t2 es1 (SetTable.grown es1.size)=Rl at hp hfr hl hpp |-;obtain⟨es2,t3,gave2⟩:=Rl;dsimp only at hp hfr hl hpp |-;have hel2:ElemsOf (PySem.strKind P w) es2.toList:=hel1.perm hp;have hmem2:∀k',S' k'=true ↔ ∃e∈es2.toList,(PySem.strKind P w).is k' e.2=true:=fun k'=>(hmem1 k').trans ⟨fun⟨e,he,q⟩=>⟨e,hp.mem_iff.mpr he,q⟩,fun⟨e,he,q⟩=>⟨e,hp.mem_iff.mp he,q⟩⟩;have hsz:es2.size=es1.size:=by rw[<- Array.length_toList,hp.length_eq,Array.length_toList]
  have hb2:es2.size<scanBound:=by rw[hsz];exact hb1
  refine zwb (hg _ _ _ ?_);refine zwb (wpAny_storeSet_of ho1 rfl ?_ (fits_of_scanBound hb2));obtain⟨hg2,_⟩:=SetOf_store (knd:=PySem.strKind P w) ho1 hex rfl hel2 hmem2 hb2 hfr;exact zwp (h _ (hsb1.trans (Heap.SameBut.update _ a _)) ⟨_,es2,_,t3,hg2,hex,rfl,hel2,hmem2,hb2,hfr,hsz,(hp.map _).nodup_iff.mpr hnd,by rw[hl];exact hld,fun e=>by rw[hpp] at e;cases e⟩)
 ·exact zwp (h _ hsb1 ⟨_,es1,_,t2,ho1,hex,rfl,hel1,hmem1,hb1,hf2,rfl,hnd,hld,fun e=>by rw[hpl] at e;cases e⟩)
theorem ziO{S:Str->Bool}{n:Nat}{Q:Bool->Shared->Prop}(hS:wS P w s.heap a S n)
  (hroom:n+1<scanBound)
  (h:∀h',Heap.SameBut a s.heap h'->wS P w h' a (fun k'=>S k'||decide (k'=z)) (if S z then n else n+1)->Q (!S z) { s with heap:=h' }) :
  wpAny (model P w) A (setAddHashed a (.str z tk) ((PySem.strKind P w).hash z)) Q E s:=by
 have hkey:(PySem.strKind P w).is z (.str z tk)=true:=strKind_is _ _ _ _;have hsc:(Value.str z tk).scannable=true:=rfl;obtain⟨o,es,ep,t,ho,hex,hd,hel,hmem,hb,hf,hn,hnd,hld,hpl⟩:=hS;have hb1:es.size+1<scanBound:=by rw[hn];exact hroom
 unfold setAddHashed setAddHashedIn;refine wpAny_holding (zwb (wpAny_setState_of ho hd hf ?_));dsimp only;rw[byScan_of hsc hb hel];simp only[↓reduceIte];unfold setAddByScan;refine zwb ?_;refine zwb (wpAny_rule ?_);refine zwb (wpAny_setScan_of hkey ho hd hf hel ?_);cases hr:List.findIdx? (fun e=>(PySem.strKind P w).is z e.2) es.toList with
 | some j=>
  dsimp only;obtain⟨hj,hpj,_⟩:=List.findIdx?_eq_some_iff_getElem.mp hr;have hSk:S z=true:=(hmem z).mpr ⟨es.toList[j],getElem_mem hj,hpj⟩;refine zwp (zwp ?_);have e:s={ s with heap:=s.heap }:=by cases s;rfl
  have:=h s.heap (Heap.SameBut.refl a s.heap) ⟨o,es,ep,t,ho,hex,hd,hel,fun k'=>by
   rw[Bool.or_eq_true,decide_eq_true_eq,<- hmem k'];exact⟨fun hk=>hk.elim id (fun e=>e ▸ hSk),.inl⟩,hb,hf,by rw[hSk];exact hn,hnd,hld,hpl⟩
  rw[hSk] at this;rw[e];exact this
 | none=>
  dsimp only;have hSk:S z=false:=by
   cases hk:S z with
   | false=>rfl
   | true=>obtain⟨e,he,hp⟩:=(hmem z).mp hk;have:=List.findIdx?_eq_none_iff.mp hr e he;rw[hp] at this;exact Bool.noConfusion this
  have hgw:∀(b:Bool) {s₁:Shared}{Q':Unit->Shared->Prop},Q' () s₁->wpAny (model P w) A (match b with|true=>rule "set.scan.the-table-gave-way"|false=>pure ()) Q' E s₁:=
   fun b s₁ Q' hq=>by cases b <;> first|exact zwp hq|exact wpAny_rule hq
  have hperm:=layNew_perm t es ((PySem.strKind P w).hash z) (.str z tk);have hfits:=layNew_fits t es ((PySem.strKind P w).hash z) (.str z tk);have hled:=zdO t es ((PySem.strKind P w).hash z) (.str z tk);generalize hL:layNew t es ((PySem.strKind P w).hash z) (.str z tk)=L at hperm hfits hled |-;obtain⟨es1,t1,wasDummy,gave⟩:=L;dsimp only at hperm hfits hled |-;rw[Array.toList_push] at hperm;have hel1:ElemsOf (PySem.strKind P w) es1.toList:=(hel.push hkey hsc).perm hperm;have hmem1:∀k',(S k'||decide (k'=z))=true ↔ ∃e∈es1.toList,(PySem.strKind P w).is k' e.2=true:=mem_push_iff hkey hmem hperm
  have hb1':es1.size<scanBound:=by rw[<- Array.length_toList,hperm.length_eq,aG,Array.length_toList];simpa using hb1
  have hnd1:(es1.toList.map fun e=>jG e.2).Nodup:=by
   refine(hperm.map _).nodup_iff.mpr ?_;rw[aE,List.nodup_append];exists hnd,List.nodup_cons.mpr ⟨not_mem_nil,nodup_nil⟩,fun x hx y hy e=>?_;obtain⟨e1,he1,rfl⟩:=List.mem_map.mp hx;have hy:y=z:=by simpa [jG] using hy
   obtain⟨⟨k1,hk1,_⟩,_⟩:=hel e1 he1;obtain⟨tk1,e3⟩:=Value.isStrOf_shape hk1;have h2:(PySem.strKind P w).is z e1.2=true:=by
    rw[e3] at e |-
    have:k1=z:=e.trans hy
    rw[this];exact strKind_is _ _ _ _
   have h3:=List.findIdx?_eq_none_iff.mp hr e1 he1;rw[h2] at h3;cases h3
  refine zwb (hgw _ ?_);have hsz1:es1.size=n+1:=by rw[<- Array.length_toList,hperm.length_eq,aG,Array.length_toList,hn];rfl
  have hend:∀h',Heap.SameBut a s.heap h'->wS P w h' a (fun k'=>S k'||decide (k'=z)) es1.size->Q true { s with heap:=h' }:=by
   intro h' hsb hS';have:=h h' hsb;rw[hSk] at this;rw[hsz1] at hS';exact this hS'
  split
  ·refine zwb ?_
   rw[hashByValue_scannable 8 hsc];refine zwp ?_;refine zcY ?_ ho hex hd hel1 hmem1 hb1' ?_ hnd1 ?_ ?_ ?_
   ·intro b s₁ Q' hq;cases b <;> first|exact zwp hq|exact wpAny_rule hq
   ·split
    ·exact hfits
    ·exact SetTable.fits_plain_off hfits
   ·split <;> (rw[show(jf w=true\/_)=_ from rfl];exact hld.imp id fun e=>by simpa [hled] using e)
   ·rw[aJ (show ¬(plainKind (Value.str z tk)=true) from zft)]
   ·intro h' hsb hS';dsimp only;exact zwp (hend h' hsb hS')
  ·rename_i hpf
   refine zwb (zwp ?_);simp only[↓reduceIte];refine zcY ?_ ho hex hd hel1 hmem1 hb1' hfits hnd1 ?_ ?_ ?_
   ·intro b s₁ Q' hq;cases b <;> first|exact zwp hq|exact wpAny_rule hq
   ·rw[hled];exact hld
   ·simpa using hpf
   ·intro h' hsb hS';dsimp only;exact zwp (hend h' hsb hS')
variable {R:Result->Shared->Prop}{G:Array GenState->Array GenState->Prop}{n:Nat}{Pr:Nat->Value->Prop}{Sg:Nat->Shared->Prop}
theorem jB{P:Program}{w:World}{A:Around}{I:Addr}{fp wr:List Addr}(W:WalksS P w A.in1 I fp wr G n Pr Sg)(a:Addr)(ha:a∉fp)(val:Nat->Str)(hv:∀i v,Pr i v->∃t,v=.str (val i) t)(hb:n+1<scanBound):
  ∀(k i:Nat) (s:Shared) (T:Str->Bool) (c:Nat),n - i=k->i<=n->Sg i s->c<=i->wS P w s.heap a T c->
   (∀s' c',Moved (a::wr) G s s'->c'<=n->wS P w s'.heap a (seen val T i k) c'->R (.ok (.ret .none)) s')->
   codeAny (model P w) A (.builtin "set.update.loop" ⟨[.ref a,.ref I],[]⟩) R s
 | 0,i,s,T,c,hk,hi,hg,hc,hT,hR=>by
  have hw:a∉wr:=fun z=>ha (W.sub _ z);have ei:i=n:=by omega
  subst ei;refine codeAny_builtin PyProof.Rows.F.entry_set_update_loop ?_;rw[Around.under_plainId PyProof.Rows.F.plain_set_update_loop _];show wpAny _ A.in1 (pyNext (.ref I) >>= _) _ _ _;refine zwb (W.done s _ _ hg fun s' hm=>?_);show wpAny _ A.in1 (ret Value.none) _ _ _;refine zwp (hR s' c (hm.mono fun b z=>mem_cons_of_mem _ z) hc ?_);obtain⟨ob,es,ep,t,h1,h2⟩:=hT;exact⟨ob,es,ep,t,hm.heap a _ hw h1,h2⟩
 | k+1,i,s,T,c,hk,hi,hg,hc,hT,hR=>by
  have hw:a∉wr:=fun z=>ha (W.sub _ z);have hlt:i<n:=by omega
  refine codeAny_builtin PyProof.Rows.F.entry_set_update_loop ?_;rw[Around.under_plainId PyProof.Rows.F.plain_set_update_loop _];show wpAny _ A.in1 (pyNext (.ref I) >>= _) _ _ _;refine zwb (W.item i s _ _ hlt hg fun v s' hP hg' hm=>?_);obtain⟨t,rfl⟩:=hv i v hP;have hT':wS P w s'.heap a T c:=by
   obtain⟨ob,es,ep,tb,h1,h2⟩:=hT;exact⟨ob,es,ep,tb,hm.heap a _ hw h1,h2⟩
  show wpAny _ A.in1 (holding [Value.str (val i) t] (setAdd a (.str (val i) t)) >>= _) _ _ s';refine zwb (wpAny_holding ?_);unfold setAdd;refine wpAny_holding ?_;refine zwb ((PySem.strKind P w).pyHash (k:=val i) (strKind_is _ _ _ _) ?_);refine ziO (s:={ s' with toks:=s'.toks+1 }) hT' ∅ fun h' hsb h3=>?_
  refine zwp ⟨plainId_quiet PyProof.Rows.F.plain_set_update_loop _,jB W a ha val hv hb k (i+1) _ _ _ ∅ hlt (W.frame _ s' _ _ hg' (le_succ _) fun b hb' o e=>?_) (by split <;> omega) h3 fun s2 c2 hm2 hc2 h4=>?_⟩
  ·have:b≠a:=fun z=>ha (z ▸ hb')
   rw[hsb.2 b this];exact e
  ·refine hR s2 c2 (Moved.trans W.gtrans ((hm.mono fun b z=>mem_cons_of_mem _ z).then_heap (le_succ _) fun b o hb' e=>?_) hm2) hc2 h4
   have:b≠a:=fun z=>hb' (z ▸ mem_cons_self)
   rw[hsb.2 b this];exact e
theorem zao{E:VSP}(a:Value){Q₁:VSP}
  (h:Q₁ (.ref s.heap.objs.size) { s with heap:=s.heap.push (wv (!jf w)) }) :
  codeAny (model P w) A (.call (.builtin "set.__new__") ⟨[.type "set",a],[]⟩) (wants Q₁ E) s:=by
 refine codeAny_of_tree ?_;show wpAny _ A.in1 (do checkBuiltinCall "set.__new__" ⟨[.type "set",a],[]⟩;again (.builtin "set.__new__" ⟨[.type "set",a],[]⟩)) _ _ s
 refine zwb (wpAny_of_eq (PySem.F.newCall_set_1 a) (zwp ⟨plainId_quiet PySem.F.plain_set_new _,codeAny_builtin PySem.F.entry_set_new ?_⟩));rw[Around.under_plainId PySem.F.plain_set_new _];unfold Builtin.«set.__new__» Builtin.Frozenset.newClass;have hsub:=PySem.sub_set_self;obtain⟨hp,g,d,tk,os⟩:=s;dsimp only
 wp_walk
 refine wpAny_askSetting (zwp ?_);dsimp only;simp only[newObj];refine zwb (wpAny_alloc (zwp ?_));exact zwp h
end
set_option maxHeartbeats 8000000 in
theorem zcX{P:Program}{w:World}{A:Around}{E:VSP}{s:Shared}{l:Addr}{items:Array Value}{zs:List Str}{Q:VSP}
  (hh:A.handled=none) (hl:s.heap.IsList l items) (hv:∀(i:Nat) (v:Value),items[i]?=some v->∃t,v=.str (zs.getD i "") t) (hb:items.size+1<scanBound)
  (h:∀(h':Heap) (tk c:Nat),wS P w h' s.heap.objs.size (seen (fun i=>zs.getD i "") (fun _=>false) 0 items.size) c->(∀b o,b<s.heap.objs.size->s.heap.get? b=some o->h'.get? b=some o)->Q (.ref s.heap.objs.size) { s with heap:=h',toks:=tk }) :
  wpAny (model P w) A (call (.type "set") [.ref l]) Q E s:=by
 obtain⟨mc,mt,mro⟩:=PySem.F.called_set.mro;have q1:=PySem.F.called_set.made;have q2:=PySem.F.called_set.sub;have q3:=PySem.F.called_set.notType;have q4:=PySem.F.called_set.canCreate;have q5:=PySem.F.typeCall_set_1 (.ref l);refine wpAny_call (codeAny_of_tree ?_);show wpAny _ _ (callAny (.type "set") _) _ _ _;refine zwp ⟨Code.quiet_builtin _ (by decide +kernel),codeAny_builtin PySem.F.entry_type_call ?_⟩;rw[Around.under_plain (weight_type_call_type "set" [.ref l] []) rfl]
 repeat (any_goals first|assumption|wp_step)
 refine codeAny_mono (zao (.ref l) (E:=E) (Q₁:=fun obj s₁=>∃led:Bool,(jf w=true\/led=true)/\obj=.ref s.heap.objs.size/\s₁={ s with heap:=s.heap.push (wv led) }) ⟨!jf w,by cases jf w <;> simp,rfl,rfl⟩) fun r s₁ hr=>?_
 rcases r with e|(_|_|_|obj)
 ·exact hr
 ·exact hr.elim
 ·exact hr.elim
 ·exact hr.elim
 ·obtain⟨led,hled,rfl,rfl⟩:=hr
  have hS:(s.heap.push (wv led)).get? s.heap.objs.size=some (wv led):=zgs _ rfl;have hT:Shared.TypeIs { s with heap:=s.heap.push (wv led) } (.ref s.heap.objs.size) "set":=⟨_,hS,rfl⟩
  have q6:=PySem.F.called_set.init.lookup;have q7:=PySem.F.called_set.init.bind (.ref s.heap.objs.size)
  repeat (any_goals first|assumption|wp_step)
  refine codeAny_mono (codeAny_call_builtin (R:=wants (fun r s₂=>r=.none/\∃h' tk c,s₂={ s with heap:=h',toks:=tk }/\wS P w h' s.heap.objs.size (seen (fun i=>zs.getD i "") (fun _=>false) 0 items.size) c/\∀b o,b<s.heap.objs.size->s.heap.get? b=some o->h'.get? b=some o) E) PySem.F.called_set.init.plain PySem.F.entry_set_init (check_set_init_1 hT ?_)) fun r₂ s₂ hr₂=>?_
  ·obtain⟨ol,hol,hcl,nl,hdl⟩:=id hl
   obtain⟨ocls,odict,odata,oslots⟩:=ol;simp only at hcl hdl;subst hcl hdl;have hol':(s.heap.push (wv led)).get? l=_:=zgp (wv led) hol;have t1:=PySem.F.sub_list_set;have t2:=PySem.F.sub_list_frozenset;have t3:(Value.type "list"==Value.type "dict")=false:=by decide
   have hl1:(s.heap.push (wv led)).IsList l items:=⟨_,hol',rfl,nl,rfl⟩;have hlS:l<s.heap.objs.size:=aI hol;unfold Builtin.«set.__init__» noKeywords Builtin.Frozenset.updateFrom;generalize hq:pyIter=pit
   wp_walk
   subst hq;refine wpAny_pyIter_list hl1 (zwb (wpAny_runValue ?_));have hz:(s.heap.push (wv led)).objs.size=s.heap.objs.size+1:=Heap.size_push ..;have n1:l≠(s.heap.push (wv led)).objs.size:=by rw[hz];exact ne_of_lt (lt_succ_of_lt hlS)
   have n2:∀b:Addr,b<s.heap.objs.size->b∉[s.heap.objs.size,(s.heap.push (wv led)).objs.size]:=fun b hb' z=>by
    rw[hz] at z;rcases List.mem_cons.mp z with e|e
    ·exact ne_of_lt hb' e
    ·exact ne_of_lt (lt_succ_of_lt hb') (List.mem_singleton.mp e)
   have n3:s.heap.objs.size∉[(s.heap.push (wv led)).objs.size,l]:=fun z=>by
    rw[hz] at z;rcases List.mem_cons.mp z with e|e
    ·exact ne_of_lt (lt_succ_self _) e
    ·exact ne_of_gt hlS (List.mem_singleton.mp e)
   refine jB ((Walks.list (by simp [hh]) _ l n1 items).toS) s.heap.objs.size n3 (fun i=>zs.getD i "") hv hb items.size 0 _ (fun _=>false) 0 ∅ (zero_le _) ⟨⟨_,zgs _ rfl,rfl,rfl⟩,hl1.push _⟩ (aF _) ?_ ?_
   ·exact⟨_,#[],0,_,zgp _ hS,⟨rfl,rfl,rfl⟩,rfl,fun e he=>by simp at he,fun k=>by simp,by unfold scanBound;decide,by rfl,rfl,by simp,hled,fun _=>rfl⟩
   ·rintro⟨h',g',d',tk',os'⟩ c' hm hc' hS'
    have e1:g'=s.gens:=hm.gens;have e2:d'=s.drawn:=hm.drawn;have e3:os'=s.os:=hm.os;subst e1 e2 e3;show wpAny _ _ _ _ _ _;refine zwp ?_;show wpAny _ _ (ret Value.none) _ _ _;refine zwp ⟨rfl,h',tk',c',rfl,hS',fun b o hb' e=>hm.heap b o (n2 b hb') (zgp _ (zgp _ e))⟩
  ·rcases r₂ with e|(_|_|_|ob2)
   ·exact hr₂
   ·exact hr₂.elim
   ·exact hr₂.elim
   ·exact hr₂.elim
   ·obtain⟨rfl,h',tk,c',rfl,hS',hk'⟩:=hr₂
    repeat (any_goals first|assumption|wp_step)
    exact h _ _ _ hS' hk'
theorem zd7{E:VSP}{n:Nat}{Q:Nat->Shared->Prop}(hn:n≠0)(h:∀(i:Nat) (d:Drawn),i<n->Q i { s with drawn:=d }):wpAny M A (choose src n) Q E s:=
 fun Γ p hΓ=>⟨hn,h _ _ (mod_lt _ (Nat.pos_of_ne_zero hn))⟩
theorem wR{α : Type}:∀(xs:List α) (i:Nat) (hi:i<xs.length),(xs[i]::xs.eraseIdx i).Perm xs
 | [],i,hi=>absurd hi (not_lt_zero _)
 | x::xs,0,_=>List.Perm.refl _
 | x::xs,i+1,hi=>(List.Perm.swap _ _ _).trans (List.Perm.cons x (wR xs i (Nat.lt_of_succ_lt_succ hi)))
theorem ut{M:Model}{A:Around}{E:VSP}{α : Type}:∀(n:Nat) (xs:List α) {s:Shared}{Q:List α->Shared->Prop},xs.length=n->(∀(ys:List α) (d:Drawn),ys.Perm xs->Q ys { s with drawn:=d })->wpAny M A (drawOrder n xs) Q E s
 | 0,xs,s,Q,hl,h=>by
  have:xs=[]:=eq_nil_of_length_eq_zero hl
  subst this;exact zwp (h [] s.drawn (List.Perm.refl _))
 | n+1,[],s,Q,hl,h=>by cases hl
 | n+1,x::xs,s,Q,hl,h=>by
  unfold drawOrder;refine zwb (zd7 (by simp) fun i d hi=>?_)
  rw[aB hi];dsimp only;refine zwb (ut n _ (by rw[List.length_eraseIdx_of_lt hi,hl];rfl) fun ys d' hp=>?_)
  exact zwp (h _ d' ((List.Perm.cons _ hp).trans (wR _ _ hi)))
theorem jE{α : Type}(next:Nat->Nat):∀(f k:Nat) (left:List α) (out:Array α),left.length=f->(pickOrder.go next f k left out).toList.Perm (out.toList++left)
 | 0,k,left,out,hl=>by
  have:left=[]:=eq_nil_of_length_eq_zero hl
  subst this;rw[append_nil];exact List.Perm.refl _
 | f+1,k,left,out,hl=>by
  unfold pickOrder.go;have hi:next k % left.length<left.length:=mod_lt _ ∅
  rw[aB hi];dsimp only;refine(jE next f (k+1) _ _ (by rw[List.length_eraseIdx_of_lt hi,hl];rfl)).trans ?_
  rw[Array.toList_push,append_assoc];exact List.Perm.append_left _ (wR _ _ hi)
theorem zaK{α : Type}(next:Nat->Nat)(xs:Array α):(pickOrder next xs).toList.Perm xs.toList:=by
 have:=jE next xs.size 0 xs.toList #[] rfl
 simpa [pickOrder] using this
namespace FS
theorem zcw:Manifest.owners.lookup (String.ofList ['r','o','t','a','r','e','t','i','_','t','e','s'].reverse)=some Manifest.sig_set_iterator:=by kernel_rfl
theorem ziK:Slot "set_iterator" "__next__" "set_iterator.__next__":=
 .of (owner:="set_iterator") (n:="__next__") (by rw[typeLookup_type,builtinLookup_eq_fast];kernel_rfl) (by decide +kernel) (by decide +kernel) (by decide +kernel)
  (by first|exact .inl (by decide +kernel)|exact .inr (by decide +kernel)) (by rw[isSubtype_type];kernel_rfl)
theorem ziz:entryFor table "set_iterator.__next__"=some Builtin.«set_iterator.__next__»:=entryFor_of_tree (by kernel_rfl)
theorem zjY(a:Value):argsOk "set_iterator.__next__" ⟨[a],[]⟩:=by
 unfold argsOk;rw[signature?_of (id:="set_iterator.__next__") (n:=['_','_','t','x','e','n','_','_']) (o:=['r','o','t','a','r','e','t','i','_','t','e','s']) (by kernel_rfl) zcw];kernel_rfl
theorem ziL:Slot "set_iterator" "__iter__" "set_iterator.__iter__":=
 .of (owner:="set_iterator") (n:="__iter__") (by rw[typeLookup_type,builtinLookup_eq_fast];kernel_rfl) (by decide +kernel) (by decide +kernel) (by decide +kernel)
  (by first|exact .inl (by decide +kernel)|exact .inr (by decide +kernel)) (by rw[isSubtype_type];kernel_rfl)
theorem zjZ(a:Value):argsOk "set_iterator.__iter__" ⟨[a],[]⟩:=by
 unfold argsOk;rw[signature?_of (id:="set_iterator.__iter__") (n:=['_','_','r','e','t','i','_','_']) (o:=['r','o','t','a','r','e','t','i','_','t','e','s']) (by kernel_rfl) zcw];kernel_rfl
theorem ziA:entryFor table "set_iterator.__iter__"=some Builtin.«dict_keyiterator.__iter__»:=
 entryFor_alias (id':="dict_keyiterator.__iter__") (by kernel_rfl) (by first|rfl|decide +kernel|(unfold String.splitOn;simp +decide [String.splitOnAux])) (by decide +kernel) (by kernel_rfl)
theorem zik:entryFor table "set.__iter__"=some Builtin.«frozenset.__iter__»:=
 entryFor_alias (id':="frozenset.__iter__") (by kernel_rfl) (by first|rfl|decide +kernel|(unfold String.splitOn;simp +decide [String.splitOnAux])) (by decide +kernel) (by kernel_rfl)
end FS
def ji(h:Heap)(I:Addr)(f:Value)(i:Nat)(a:Addr)(n ep:Nat):Prop:=∃o,h.get? I=some o/\o.cls=.type "set_iterator"/\o.data=.fields #[f,.int i 0,.ref a,.int n 0,.int ep 0]
theorem ji.typeIs{s:Shared}{I:Addr}{f:Value}{i:Nat}{a:Addr}{n ep:Nat}(x:ji s.heap I f i a n ep):s.TypeIs (.ref I) "set_iterator":=let ⟨o,ho,hc,_⟩:=x;⟨o,ho,hc⟩
theorem ji.at{i:Nat}{n ep:Nat}(x:ji h I f i a n ep)(e:∀o,h.get? I=some o->h'.get? I=some o):ji h' I f i a n ep:=let ⟨o,ho,r⟩:=x;⟨o,e _ ho,r⟩
section
variable {E:VSP}
theorem xy{ep:Nat}{Q:Array (Int×Value)->Shared->Prop}
  (ho:s.heap.get? a=some o) (hd:o.data=.set es ep t) (hf:t.fits es.size=true) (h:Q es s) :
  wpAny (model P w) A (setEntries a) Q E s:=by
 unfold setEntries;exact zwb (wpAny_setState_of ho hd hf (zwp h))
end
end L2
namespace L2
open PySem PySem.Spec PyProof.Rows
section
variable {E:VSP}
theorem j6{h:Heap}{I:Addr}{o:Obj}{vs:Array Value}(k:Nat)(x:Value)(ho:h.get? I=some o)(hd:o.data=.fields vs):
  (h.update I (Obj.mapFields (·.setIfInBounds k x))).get? I=some (Obj.mapFields (·.setIfInBounds k x) o)/\(Obj.mapFields (·.setIfInBounds k x) o).data=.fields (vs.setIfInBounds k x)/\(Obj.mapFields (·.setIfInBounds k x) o).cls=o.cls:=
 ⟨Heap.get?_update_self _ ho (Obj.isFreed_of_fields (Obj.data_mapFields hd _)),Obj.data_mapFields hd _,Obj.cls_mapFields ..⟩
theorem zev{Q:Option Value->Shared->Prop}(hh:A.handled=none)(hQ:∀h',Heap.ExtBut I h0 h'->Q none { s with heap:=h' })(hx:Heap.ExtBut I h0 s.heap):
  wpAny (model P w) A.in1 (do let e <- newExc (.type "StopIteration") [];raiseNew e:Sem Fin) (fun fin s'=>∃v,fin=Fin.done (Flow.ret v)/\wpAny (model P w) A (pure (some v)) Q E s')
   (fun e s'=>wpAny (model P w) A (do let r <- isInstance e (Value.type "StopIteration");if r=true then pure none else throw e) Q E s') s:=by
 refine zwb ?_;simp only[newExc,newTuple];refine zwb (wpAny_newObj_type ?_ (by size_fits))
 refine zwb (m:=firstArgMember _ _) (wpAny_of_eq (a:=Value.none) (by first|rfl|(simp only[firstArgMember];rfl)) ?_)
 refine wpAny_newObj_type ?_ (by size_fits)
 simp only[raiseNew];refine zwb (wpAny_handled ?_);rw[show A.in1.handled=none from hh];refine zwb (zwp (wpAny_throw ?_));refine zwb (wpAny_isInstance (T:="StopIteration") (b:=true) ⟨_,zgs _ rfl,rfl⟩ isSubtype_stop ?_);exact zwp (hQ _ ((hx.push _).push _))
theorem ziM{n ep i:Nat}{sl:Nat->Nat}{Q:Option Value->Shared->Prop}(hn:es.size=n)
  (hit:ji s.heap I (.int (sl i) 0) i a n ep) (ho:s.heap.get? a=some o) (hd:o.data=.set es ep t) (hf:t.fits es.size=true)
  (hN:∀(Q':Option (Value×Nat)->Shared->Prop) (E':VSP),Q' (some (x,sl (i+1))) s->wpAny (model P w) A.in1 (setNext a (sl i) i ep) Q' E' s)
  (hQ:∀h',ji h' I (.int (sl (i+1)) 0) (i+1) a n ep->Heap.SameBut I s.heap h'->Q (some x) { s with heap:=h' }) :
  wpAny (model P w) A (pyNext (.ref I)) Q E s:=by
 obtain⟨ob,hob,hc,hdb⟩:=id hit;unfold pyNext;refine zwb (wpAny_attempt (wpAny_callSpecial?_slot (name:=Str.ofString "__next__") hit.typeIs FS.ziK
  (wpAny_call_entry FS.ziK hit.typeIs FS.ziz ?_ (FS.zjY _))))
 unfold Builtin.«set_iterator.__next__»;show wpAny _ _ (fieldsOf (.ref I) >>= _) _ _ s;refine zwb (wpAny_fieldsOf hob hdb ?_);dsimp only;refine zwb (xy ho hd hf ?_);rw[aJ (by rw[hn];simp)]
 simp only[toNat_natCast];refine zwb (hN _ _ ?_);dsimp only;refine zwb (wpAny_setField hob hdb (by simp) ?_)
 obtain⟨e1,e2,e3⟩:=j6 0 (rawInt (sl (i+1))) hob hdb;refine zwb (wpAny_setField e1 e2 (by simp) ?_)
 obtain⟨e4,e5,e6⟩:=j6 1 (rawInt ((i:Int)+1)) e1 e2;exact zwp ⟨x,rfl,zwp (hQ _ ⟨_,e4,e6.trans (e3.trans hc),by rw[e5];simp [rawInt]⟩ ((Heap.SameBut.update ..).trans (Heap.SameBut.update ..)))⟩
theorem zkK{n ep i:Nat}{sl:Nat->Nat}{Q:Option Value->Shared->Prop}(hh:A.handled=none)(hn:es.size=n)
  (hit:ji s.heap I (.int (sl i) 0) i a n ep) (ho:s.heap.get? a=some o) (hd:o.data=.set es ep t) (hf:t.fits es.size=true)
  (hN:∀(Q':Option (Value×Nat)->Shared->Prop) (E':VSP),Q' none s->wpAny (model P w) A.in1 (setNext a (sl i) i ep) Q' E' s)
  (hQ:∀h',Heap.ExtBut I s.heap h'->Q none { s with heap:=h' }) :
  wpAny (model P w) A (pyNext (.ref I)) Q E s:=by
 obtain⟨ob,hob,hc,hdb⟩:=id hit;unfold pyNext;refine zwb (wpAny_attempt (wpAny_callSpecial?_slot (name:=Str.ofString "__next__") hit.typeIs FS.ziK
  (wpAny_call_entry FS.ziK hit.typeIs FS.ziz ?_ (FS.zjY _))))
 unfold Builtin.«set_iterator.__next__»;show wpAny _ _ (fieldsOf (.ref I) >>= _) _ _ s;refine zwb (wpAny_fieldsOf hob hdb ?_);dsimp only;refine zwb (xy ho hd hf ?_);rw[aJ (by rw[hn];simp)]
 simp only[toNat_natCast];refine zwb (hN _ _ ?_);dsimp only;refine zwb (wpAny_setField hob hdb (by simp) ?_)
 exact zev hh hQ (Heap.SameBut.update ..).extBut
theorem ziQ{n ep i j:Nat}{pn:Nat}{hx:Int}{Q:Option Value->Shared->Prop}(hn:es.size=n)
  (hit:ji s.heap I (.ref tu) i a n ep) (ho:s.heap.get? a=some o) (hd:o.data=.set es ep t) (hf:t.fits es.size=true) (hot:s.heap.get? tu=some ot) (hdt:ot.data=.seq ps pn) (hp:ps[i]?=some (.int j 0)) (hj:es[j]?=some (hx,x))
  (hQ:∀h',ji h' I (.ref tu) (i+1) a n ep->Heap.SameBut I s.heap h'->Q (some x) { s with heap:=h' }) :
  wpAny (model P w) A (pyNext (.ref I)) Q E s:=by
 obtain⟨ob,hob,hc,hdb⟩:=id hit;unfold pyNext;refine zwb (wpAny_attempt (wpAny_callSpecial?_slot (name:=Str.ofString "__next__") hit.typeIs FS.ziK
  (wpAny_call_entry FS.ziK hit.typeIs FS.ziz ?_ (FS.zjY _))))
 unfold Builtin.«set_iterator.__next__»;show wpAny _ _ (fieldsOf (.ref I) >>= _) _ _ s;refine zwb (wpAny_fieldsOf hob hdb ?_);dsimp only;refine zwb (xy ho hd hf ?_);rw[aJ (by rw[hn];simp)]
 refine zwb (wpAny_seqItems hot hdt ?_);simp only[toNat_natCast,hp];unfold setNextDrawn;refine zwb (zwb (wpAny_setState_of ho hd hf ?_));dsimp only;rw[aJ (by simp),hj]
 dsimp only;refine zwp ?_;refine zwb (wpAny_setField hob hdb (by simp) ?_)
 obtain⟨e1,e2,e3⟩:=j6 1 (rawInt ((i:Int)+1)) hob hdb;exact zwp ⟨x,rfl,zwp (hQ _ ⟨_,e1,e3.trans hc,by rw[e2];simp [rawInt]⟩ (Heap.SameBut.update ..))⟩
theorem zkL{n ep i:Nat}{pn:Nat}{Q:Option Value->Shared->Prop}(hh:A.handled=none)(hn:es.size=n)
  (hit:ji s.heap I (.ref tu) i a n ep) (ho:s.heap.get? a=some o) (hd:o.data=.set es ep t) (hf:t.fits es.size=true) (hot:s.heap.get? tu=some ot) (hdt:ot.data=.seq ps pn) (hp:ps[i]?=none)
  (hQ:∀h',Heap.ExtBut I s.heap h'->Q none { s with heap:=h' }) :
  wpAny (model P w) A (pyNext (.ref I)) Q E s:=by
 obtain⟨ob,hob,hc,hdb⟩:=id hit;unfold pyNext;refine zwb (wpAny_attempt (wpAny_callSpecial?_slot (name:=Str.ofString "__next__") hit.typeIs FS.ziK
  (wpAny_call_entry FS.ziK hit.typeIs FS.ziz ?_ (FS.zjY _))))
 unfold Builtin.«set_iterator.__next__»;show wpAny _ _ (fieldsOf (.ref I) >>= _) _ _ s;refine zwb (wpAny_fieldsOf hob hdb ?_);dsimp only;refine zwb (xy ho hd hf ?_);rw[aJ (by rw[hn];simp)]
 refine zwb (wpAny_seqItems hot hdt ?_);simp only[toNat_natCast,hp];refine zwb (wpAny_setField hob hdb (by simp) ?_)
 obtain⟨e1,e2,e3⟩:=j6 0 (rawInt 0) hob hdb;refine zwb (wpAny_setField e1 e2 (by simp) ?_)
 exact zev hh hQ ((Heap.SameBut.update ..).trans (Heap.SameBut.update ..)).extBut
theorem uj{Q:Bool->Shared->Prop}(h:Q (jf w) s):wpAny (model P w) A setsByText Q E s:=by
 unfold setsByText;refine zwb (wpAny_askSetting (zwp ?_));exact h
theorem zfj{ep i:Nat}(ho:s.heap.get? a=some o)(hd:o.data=.set es ep t)(hf:t.fits es.size=true)(hb:jf w=true)(Q:Option (Value×Nat)->Shared->Prop)
  (h:Q (((pickOrder (w.params.setOrder a ep) es)[i]?).map fun e=>(e.2,0)) s):wpAny (model P w) A (setNext a 0 i ep) Q E s:=by
 unfold setNext;refine zwb (wpAny_setState_of ho hd hf ?_);dsimp only;refine zwb (uj ?_);rw[aK hb,aJ (by simp)]
 unfold setWalk;refine zwb (zwb (wpAny_setState_of ho hd hf ?_));dsimp only;refine zwb (uj ?_);rw[aK hb];refine zwb (wpAny_askSetting (zwp ?_));exact zwp h
theorem zfk{ep i sl:Nat}(ho:s.heap.get? a=some o)(hd:o.data=.set es ep t)(hf:t.fits es.size=true)(hb:jf w=false)(hl:t.led=true)(h1:es.size<=1)(Q:Option (Value×Nat)->Shared->Prop)
  (h:Q (match es[SetTable.below t.place sl]?,t.place[SetTable.below t.place sl]? with|some (_,x),some j=>some (x,j+1)|_,_=>none) s):wpAny (model P w) A (setNext a sl i ep) Q E s:=by
 unfold setNext;refine zwb (wpAny_setState_of ho hd hf ?_);dsimp only;refine zwb (uj ?_);rw[aJ (by rw[hb];decide)]
 show wpAny _ _ (if (!t.plain&&decide (es.size>1))=true then _ else _) _ _ _
 rw[aJ (by simp;omega)]
 show wpAny _ _ ((if (!t.led&&!es.isEmpty)=true then unsupported "set:maker-not-led" else pure ()) >>= _) _ _ _
 rw[aJ (by simp [hl])]
 exact zwb (zwp (zwp h))
theorem zew{i:Nat}{n ep:Nat}{Q:VSP}(hit:ji s.heap I f i a n ep)(h:Q (.ref I) s):wpAny (model P w) A (pyIter (.ref I)) Q E s:=by
 refine wpAny_pyIter_slot hit.typeIs FS.ziL (wpAny_call_entry FS.ziL hit.typeIs FS.ziA ?_ (FS.zjZ _));show wpAny _ _ (ret (.ref I)) _ _ s;exact zwp ⟨_,rfl,"set_iterator",_,hit.typeIs,FS.ziK.lookup,h⟩
theorem zb0(hh:A.handled=none)(hne:a≠I){ep:Nat}(hd:o.data=.set es ep t)(hf:t.fits es.size=true)(vs:List Value)(hvs:vs.length=es.size)(sl:Nat->Nat)
  (hN:∀(i:Nat) s (Q':Option (Value×Nat)->Shared->Prop) (E':VSP),i<=vs.length->s.heap.get? a=some o->Q' ((vs[i]?).map fun v=>(v,sl (i+1))) s->wpAny (model P w) A.in1 (setNext a (sl i) i ep) Q' E' s) :
  Walks P w A I [I,a] [I] vs.length (fun i v=>vs[i]?=some v) (fun i h=>i<=vs.length/\ji h I (.int (sl i) 0) i a es.size ep/\h.get? a=some o) where
 sub:=fun b hb=>by simp at hb;simp [hb]
 frame:=fun _ _ _ st hk=>⟨st.1,st.2.1.at fun o e=>hk I (by simp) o e,hk a (by simp) o st.2.2⟩
 item:=fun i s Q E hi st hQ=>by
  refine ziM (x:=vs[i]) rfl st.2.1 st.2.2 hd hf (fun Q' E' q=>hN i s Q' E' (le_of_lt hi) st.2.2 (by rw[aB hi];exact q)) fun h' hit' hs'=>?_
  exact hQ _ h' s.toks (aB hi) ⟨hi,hit',hs'.extBut a o hne st.2.2⟩ fun b o hb e=>hs'.extBut b o (fun h=>hb (by simp [h])) e
 done:=fun s Q E st hQ=>zkK hh rfl st.2.1 st.2.2 hd hf (fun Q' E' q=>hN _ s Q' E' (aF _) st.2.2 (by rw[getElem?_eq_none (aF _)];exact q)) fun h' he'=>hQ h' s.toks fun b o hb e=>he' b o (fun h=>hb (by simp [h])) e
 self:=fun _ _ _ _ st hQ=>zew st.2.1 hQ
theorem zgg(hh:A.handled=none)(hne:a≠I)(hnt:tu≠I){ep pn:Nat}(hd:o.data=.set es ep t)(hf:t.fits es.size=true)(ys:List Nat)(hdt:ot.data=.seq (ys.map fun (i:Nat)=>rawInt i).toArray pn)(hy:∀j∈ys,j<es.size):
  Walks P w A I [I,a,tu] [I] (ys.map fun j=>(es.getD j (0,.none)).2).length (fun i v=>(ys.map fun j=>(es.getD j (0,.none)).2)[i]?=some v) (fun i h=>ji h I (.ref tu) i a es.size ep/\h.get? a=some o/\h.get? tu=some ot) where
 sub:=fun b hb=>by simp at hb;simp [hb]
 frame:=fun _ _ _ st hk=>⟨st.1.at fun o e=>hk I (by simp) o e,hk a (by simp) o st.2.1,hk tu (by simp) ot st.2.2⟩
 item:=fun i s Q E hi st hQ=>by
  have hi':i<ys.length:=by simpa using hi
  have hj:ys[i]<es.size:=hy _ (getElem_mem hi');have e1:es[ys[i]]?=some (es[ys[i]].1,es[ys[i]].2):=Array.getElem?_eq_getElem hj;refine ziQ (x:=es[ys[i]].2) (j:=ys[i]) rfl st.1 st.2.1 hd hf st.2.2 hdt (by simp [hi',rawInt]) e1 fun h' hit' hs'=>?_
  refine hQ _ h' s.toks ?_ ⟨hit',hs'.extBut a o hne st.2.1,hs'.extBut tu ot hnt st.2.2⟩ fun b o hb e=>hs'.extBut b o (fun h=>hb (by simp [h])) e
  rw[getElem?_map,aB hi'];simp [Array.getD,hj]
 done:=fun s Q E st hQ=>zkL hh rfl st.1 st.2.1 hd hf st.2.2 hdt (by simp) fun h' he'=>hQ h' s.toks fun b o hb e=>he' b o (fun h=>hb (by simp [h])) e
 self:=fun _ _ _ _ st hQ=>zew st.1 hQ
theorem zcq{S:Str->Bool}{n:Nat}{Q:VSP}(hh:A'.handled=none)(hS:wS P w s.heap a S n)
  (hQ:∀I fp vs zs (St:Nat->Heap->Prop) h' (d:Drawn),(∀b o,s.heap.get? b=some o->h'.get? b=some o)->(∀b∈fp,b=a\/s.heap.objs.size<=b)->s.heap.objs.size<=I->
   Walks P w A' I fp [I] vs.length (fun i v=>vs[i]?=some v) St->St 0 h'->(∀i h,St i h->∃o,h.get? I=some o/\o.cls=.type "set_iterator")->StrsAre vs zs->zs.Nodup->(∀z,z∈zs ↔ S z=true)->vs.length=n->Q (.ref I) { s with heap:=h',drawn:=d }) :
  wpAny (model P w) A (pyIter (.ref a)) Q E s:=by
 obtain⟨o,es,ep,t,ho,hex,hd,hel,hmem,hb,hf,hn,hnd,hld,hpl⟩:=hS;have hT:s.TypeIs (.ref a) "set":=⟨o,ho,hex.1⟩;have key:∀(l:List (Int×Value)),l.Perm es.toList->∃zs:List Str,StrsAre (l.map (·.2)) zs/\zs.Nodup/\∀z,z∈zs ↔ S z=true:=by
  intro l hp;exists l.map fun e=>jG e.2,?_,(hp.map _).nodup_iff.mpr hnd,fun z=>?_
  ·have:∀(l:List (Int×Value)),(∀e∈l,e∈es.toList)->StrsAre (l.map (·.2)) (l.map fun e=>jG e.2):=by
    intro l;induction l with
    | nil=>intro _;exact .nil
    | cons e r ih=>
     intro h;obtain⟨⟨k,hk,_⟩,_⟩:=hel e (h e mem_cons_self);obtain⟨tk,e2⟩:=Value.isStrOf_shape hk;rw[map_cons,map_cons,e2];exact .cons _ _ (ih fun x hx=>h x (mem_cons_of_mem _ hx))
   exact this l fun e he=>hp.mem_iff.mp he
  ·rw[hmem z]
   constructor
   ·intro h
    obtain⟨e,he,e1⟩:=List.mem_map.mp h;obtain⟨⟨k,hk,_⟩,_⟩:=hel e (hp.mem_iff.mp he);obtain⟨tk,e2⟩:=Value.isStrOf_shape hk;rw[e2] at e1;have e1:k=z:=e1;exact⟨e,hp.mem_iff.mp he,by rw[<- e1];exact hk⟩
   ·rintro⟨e,he,hk⟩
    obtain⟨tk,e2⟩:=Value.isStrOf_shape hk;refine List.mem_map.mpr ⟨e,hp.mem_iff.mpr he,?_⟩;rw[e2];rfl
 have hlt:a<s.heap.objs.size:=aI ho;refine wpAny_pyIter_slot hT PySem.F.slot_set_iter (wpAny_call_entry PySem.F.slot_set_iter hT FS.zik ?_ (PySem.F.args_set_iter_1 _));unfold Builtin.«frozenset.__iter__»;show wpAny _ _ (Builtin.Frozenset.sizeOf a >>= _) _ _ s;unfold Builtin.Frozenset.sizeOf;refine zwb (zwb (xy ho hd hf (zwp ?_)));unfold setDrawn;refine zwb (zwb (wpAny_setState_of ho hd hf ?_));dsimp only;refine zwb (uj (zwp ?_));show wpAny _ _ (if (!jf w&&(!t.plain&&decide (es.size>1)))=true then _ else _) _ _ _
 by_cases hD:(!jf w&&(!t.plain&&decide (es.size>1)))=true
 ·rw[aK hD]
  refine zwb (ut _ _ length_range fun ys d hp=>?_);have hy:∀j∈ys,j<es.size:=fun j hj=>List.mem_range.mp (hp.mem_iff.mp hj);have hyl:ys.length=es.size:=by rw[hp.length_eq,length_range]
  refine zwb (wpAny_newTuple ?_ (by rw[aA,hyl];exact fits_of_scanBound hb))
  have ho1:=fun x:Obj=>zgp x ho;refine zwb (wpAny_setEpoch_of (ho1 _) hd hf ?_);refine zwb (wpAny_newObj_type (zwp ⟨_,rfl,"set_iterator",_,⟨_,zgs _ rfl,rfl⟩,FS.ziK.lookup,?_⟩));have hz:∀x:Obj,(s.heap.push x).objs.size=s.heap.objs.size+1:=fun x=>Heap.size_push ..;obtain⟨zs,k1,k2,k3⟩:=key (ys.map fun j=>es.getD j (0,.none)) (by
   have e1:(List.range es.size).map (fun j=>es.getD j (0,.none))=es.toList:=by
    refine List.ext_getElem (by simp) fun i h1 h2=>?_
    have:i<es.size:=by simpa using h2
    simp [Array.getD,this]
   exact e1 ▸ hp.map _)
  rw[map_map] at k1;refine hQ _ _ _ zs _ _ d (fun b o e=>zgp _ (zgp _ e)) ?_ (by dsimp only;rw[hz];exact le_succ _) (zgg hh (a:=a) (tu:=s.heap.objs.size) (o:=o) (es:=es) (ep:=ep) (t:=t) ?_ ?_ hd hf ys (pn:=0) rfl hy) ⟨⟨_,zgs _ rfl,rfl,rfl⟩,zgp _ (ho1 _),zgp _ (zgs _ rfl)⟩ (fun i h st=>?_) k1 k2 k3 (by rw[aA,hyl,hn])
  ·intro b hb'
   dsimp only at hb';rw[hz] at hb';rcases List.mem_cons.mp hb' with e|hb'
   ·exact .inr (by rw[e];exact le_succ _)
   ·rcases List.mem_cons.mp hb' with e|hb'
    ·exact .inl e
    ·exact .inr (by rw[List.mem_singleton.mp hb'];exact aF _)
  ·dsimp only
   rw[hz];exact ne_of_lt (lt_succ_of_lt hlt)
  ·dsimp only
   rw[hz];exact ne_of_lt (lt_succ_self _)
  ·obtain⟨o',e1,e2,_⟩:=st.1
   exact⟨o',e1,e2⟩
 ·rw[aJ hD]
  refine zwb (zwp ?_);refine zwb (wpAny_setEpoch_of ho hd hf ?_);refine zwb (wpAny_newObj_type (zwp ⟨_,rfl,"set_iterator",_,⟨_,zgs _ rfl,rfl⟩,FS.ziK.lookup,?_⟩));have hne:a≠s.heap.objs.size:=ne_of_lt hlt;have fpk:∀b∈[s.heap.objs.size,a],b=a\/s.heap.objs.size<=b:=by
   intro b hb';rcases List.mem_cons.mp hb' with e|hb'
   ·exact .inr (by rw[e];exact aF _)
   ·exact .inl (List.mem_singleton.mp hb')
  by_cases hbt:jf w=true
  ·obtain⟨zs,k1,k2,k3⟩:=key (pickOrder (w.params.setOrder a ep) es).toList (zaK _ _)
   have hl:((pickOrder (w.params.setOrder a ep) es).toList.map (·.2)).length=es.size:=by rw[aA,(zaK _ _).length_eq];rfl
   refine hQ _ _ _ zs _ _ s.drawn (fun b o e=>zgp _ e) fpk (aF _) (zb0 hh hne hd hf _ hl (fun _=>0) fun i s' Q' E' hi ho' q=>zfj ho' hd hf hbt Q' ?_) ⟨zero_le _,⟨_,zgs _ rfl,rfl,rfl⟩,zgp _ ho⟩ (fun i h st=>?_) k1 k2 k3 (by rw[hl,hn])
   ·rw[getElem?_map] at q
    rw[<- Array.getElem?_toList];cases hq:(pickOrder (w.params.setOrder a ep) es).toList[i]? with
    | none=>rw[hq] at q;exact q
    | some e=>rw[hq] at q;exact q
   ·obtain⟨o',e1,e2,_⟩:=st.2.1
    exact⟨o',e1,e2⟩
  ·have hbf:jf w=false:=by simpa using hbt
   have hled:t.led=true:=hld.resolve_left hbt;have h1:es.size<=1:=by
    rcases lt_or_ge 1 es.size with h|h
    ·exfalso
     refine hD ?_;have hp0:t.plain=false:=by
      cases hp0:t.plain with
      | false=>rfl
      | true=>have:=hpl hp0;omega
     simp [hbf,hp0,h]
    ·exact h
   obtain⟨zs,k1,k2,k3⟩:=key es.toList (List.Perm.refl _);have hps:t.place.size=es.size:=by
    simp only[SetTable.fits,Bool.and_eq_true,beq_iff_eq,decide_eq_true_eq] at hf;exact hf.1
   refine hQ _ _ _ zs _ _ s.drawn (fun b o e=>zgp _ e) fpk (aF _) (zb0 hh hne hd hf (es.toList.map (·.2)) (by simp) (fun i=>if i=0 then 0 else t.place.getD 0 0+1) fun i s' Q' E' hi ho' q=>zfk ho' hd hf hbf hled h1 Q' ?_) ⟨zero_le _,⟨_,zgs _ rfl,rfl,rfl⟩,zgp _ ho⟩ (fun i h st=>?_) k1 k2 k3 (by simp [hn])
   ·clear hQ key hel hmem hnd k1 k2 k3
    obtain⟨mask,place,dm,fi,led,mv,pl⟩:=t;dsimp only at hps q |-;rcases lt_or_ge 0 es.size with h0|h0
    ·have hes:es.size=1:=by omega
     obtain⟨e0,rfl⟩:∃e0,es=#[e0]:=Array.size_eq_one_iff.mp hes;obtain⟨p0,rfl⟩:∃p0,place=#[p0]:=Array.size_eq_one_iff.mp (by rw[hps,hes])
     have hi:i<=1:=by simpa using hi
     rcases lt_or_ge i 1 with h2|h2
     ·have:i=0:=by omega
      subst this;have hbel:SetTable.below #[p0] 0=0:=by
       simp [SetTable.below,SetTable.below.go]
      simpa [hbel] using q
     ·have:i=1:=by omega
      subst this;have hbel:SetTable.below #[p0] (p0+1)=1:=by
       simp [SetTable.below,SetTable.below.go]
      simpa [hbel] using q
    ·have hes:es.size=0:=by omega
     have:es=#[]:=Array.size_eq_zero_iff.mp hes
     subst this;simpa using q
   ·obtain⟨o',e1,e2,_⟩:=st.2.1
    exact⟨o',e1,e2⟩
theorem zfN:typeLookup (.type "list_reverseiterator") "__len__"=pure none:=by rw[typeLookup_type,builtinLookup_eq_fast];kernel_rfl
theorem zh8:typeLookup (.type "list_reverseiterator") "__length_hint__"=pure (some (.builtin "list_reverseiterator.__length_hint__")):=by rw[typeLookup_type,builtinLookup_eq_fast];kernel_rfl
theorem zd2{R:Result->Shared->Prop}(hh:A.handled=none)(hit:s.heap.IsRevIter I l ((items.size:Int) - 1))(hl:s.heap.IsList l items)(hlI:l≠I)(hn:items.size<=sizeLine)(hSI:S≠I)(hSl:S≠l)(res:Value)(c₀:Nat)(hS:s.heap.get? S=some { cls:=.type "list",data:=.seq #[] c₀ })
  (hR:∀h' tk acc' c',(∀b o,b≠S->b≠I->s.heap.get? b=some o->h'.get? b=some o)->h'.get? S=some { cls:=.type "list",dict:=none,data:=.seq acc' c',slots:=#[] }->
   ItemsOf (fun i v=>items[items.size - 1 - i]?=some v) acc' items.size->R (.ok (.ret res)) { s with heap:=h',toks:=tk }) :
  wpAny (model prog w) A.in1 (Builtin.List.listExtendWith (.ref S) (.ref I) res)
   (fun fin s'=>match fin with|.done f=>R (.ok f) s'|.again c'=>c'.quiet=true/\codeAny (model prog w) A c' R s') (fun e s'=>R (.error e) s') s:=by
 have W:=(Walks.listRev (prog:=prog) (w:=w) (A:=A.in1) hh I l hlI items).toS;have hT:s.TypeIs (.ref I) "list_reverseiterator":=hit.typeIs;have hSf:S∉[I,l]:=fun hm=>by
  rcases List.mem_cons.mp hm with e|hm
  ·exact hSI e
  ·exact hSl (List.mem_singleton.mp hm)
 have h1:Builtin.List.listSameRef (.ref S) (.ref I)=false:=by simp [Builtin.List.listSameRef,hSI]
 have hst:(0:Nat)<=items.size/\s.heap.IsRevIter I l ((items.size:Int) - 1 - ((0:Nat):Int))/\s.heap.IsList l items:=⟨zero_le _,by simpa using hit,hl⟩
 unfold Builtin.List.listExtendWith;refine zwb (wpAny_typeOf hT ?_);rw[aJ (by rw[h1];decide)]
 refine zwb (wpAny_pyIter_revIter hit ?_);refine zwb (wpAny_holding ?_);unfold Builtin.List.listLengthHint;refine zwb (wpAny_specialOf hT zfN ?_);show wpAny _ A.in1 (specialOf (Value.ref I) (Str.ofString "__length_hint__") >>= _) _ _ _;refine zwb (wpAny_specialOf hT zh8 ?_);generalize hid:("list_reverseiterator.__length_hint__" : String)=id0
 wp_delta
 rw[show splitId id0=some ("list_reverseiterator","__length_hint__") from by subst hid;decide +kernel]
 subst hid;refine zwb (wpAny_isInstance (b:=true) hT (by rw[isSubtype_type];kernel_rfl) ?_)
 refine zwp ?_;rw[aJ ⋯]
 refine zwp ⟨plainId_quiet F.plain_extend_loop _,codeAny_extend_loopS W hn S hSf res items.size 0 _ #[] c₀ rfl (zero_le _) hst hS (ItemsOf.nil _) fun s' acc' c' hm hS' hacc=>?_⟩;rw[Moved.eq_with hm];refine hR s'.heap s'.toks acc' c' (fun b o hb hbI e=>hm.heap b o (fun hmem=>?_) e) hS' hacc;rcases List.mem_cons.mp hmem with e'|hmem
 ·exact hb e'
 ·exact hbI (List.mem_singleton.mp hmem)
theorem zap{Q:VSP}(hh:A.handled=none)(hit:s.heap.IsRevIter I l ((items.size:Int) - 1))(hl:s.heap.IsList l items)(hlI:l≠I)(hn:items.size<=sizeLine)
  (hQ:∀h' tk acc' c',(∀b o,b≠I->s.heap.get? b=some o->h'.get? b=some o)->
   h'.get? s.heap.objs.size=some { cls:=.type "list",dict:=none,data:=.seq acc' c',slots:=#[] }->ItemsOf (fun i v=>items[items.size - 1 - i]?=some v) acc' items.size->Q (.ref s.heap.objs.size) { s with heap:=h',toks:=tk }) :
  wpAny (model prog w) A (call (.type "list") [.ref I]) Q E s:=by
 have hI:I<s.heap.objs.size:=by obtain⟨o,e,_⟩:=hit;exact aI e
 have hL:l<s.heap.objs.size:=by obtain⟨_,e,_⟩:=hl;exact aI e
 refine callType_codes (Q₁:=fun obj s₁=>obj=.ref s.heap.objs.size/\s₁={ s with heap:=s.heap.push { cls:=.type "list",data:=.seq #[] } }) F.called_list (F.typeCall_list_1 _) F.entry_list_init
  (code_list_new _ ⟨rfl,rfl⟩) fun obj s₁ h₁=>?_
 obtain⟨rfl,rfl⟩:=h₁;have hS:(s.heap.push { cls:=.type "list",data:=.seq #[] }).get? s.heap.objs.size=some { cls:=.type "list",data:=.seq #[] }:=zgs _ rfl;exists ⟨_,hS,rfl⟩,F.args_list_init_2 _ _,?_;have hIS:I≠s.heap.objs.size:=ne_of_lt hI;have hLS:l≠s.heap.objs.size:=ne_of_lt hL;have hbS:∀b o,s.heap.get? b=some o->b≠s.heap.objs.size:=fun b o e=>ne_of_lt (aI e);generalize hS0:s.heap.objs.size=S at hS hIS hLS hbS hQ |-;have hit1:(s.heap.push { cls:=.type "list",data:=.seq #[] }).IsRevIter I l ((items.size:Int) - 1):=hit.at fun o e=>zgp _ e;have hl1:=hl.push { cls:=.type "list",data:=.seq #[] };have old:∀b o,s.heap.get? b=some o->(s.heap.push { cls:=.type "list",data:=.seq #[] }).get? b=some o:=fun b o e=>zgp _ e;generalize s.heap.push { cls:=.type "list",data:=.seq #[] }=hp1 at hS hit1 hl1 old |-;show wpAny _ _ (do let old <- Builtin.List.listItems (.ref S);Builtin.List.listUpdate (.ref S) (fun _=>#[]);letGo old.toList.reverse;Builtin.List.listExtendWith (.ref S) (.ref I) .none) _ _ _
 refine zwb ?_;unfold Builtin.List.listItems;refine zwb (wpAny_seqItems hS rfl (zwp ?_));show wpAny _ _ (updateSeq S (fun _=>#[]) >>= fun _=>letGo (#[]:Array Value).toList.reverse >>= fun _=>Builtin.List.listExtendWith (.ref S) (.ref I) .none) _ _ _;refine zwb (wpAny_updateSeq hS rfl ?_);have hS₂:=Heap.get?_update_self (Obj.mapSeq (fun _=>(#[]:Array Value))) hS rfl;have oth:∀b o,b≠S->hp1.get? b=some o->(hp1.update S (Obj.mapSeq (fun _=>(#[]:Array Value)))).get? b=some o:=
  fun b o hb e=>(Heap.get?_update_other _ _ (Ne.symm hb)).trans e
 refine zwb (wpAny_letGo ?_);refine zd2 (A:=A.in1) hh (hit1.at fun o e=>oth I o hIS e) (hl1.at fun o e=>oth l o hLS e) hlI hn (Ne.symm hIS) (Ne.symm hLS) .none _ hS₂ fun h' tk acc' c' hk hS' hacc=>?_;exact⟨rfl,hQ h' tk acc' c' (fun b o hb e=>hk b o (hbS b o e) hb (oth b o (hbS b o e) (old b o e))) hS' hacc⟩
inductive tLRJ(K:Frag)(Q:VK)(vs:List V)(H1:Hp):Prop|mk(q:Addr)(ys:List V):vs=[.ref q]->SqL K H1 q ys->ys.length<=1000->(∀l,H1 l=none->Q (.ref l) (upd H1 l (.lst ys.reverse)))->tLRJ K Q vs H1
def tLR(K:Frag)(ta:TA):TE:=fun σ H Q=>ta σ H fun vs H1=>tLRJ K Q vs H1
theorem qD{ta:TA}(hc:X.calm=true)(hg:Gl X "list")(hm:X.mg "list"=none)(hg2:Gl X "reversed")(hm2:X.mg "reversed"=none)(ha:PA X [a] ta)(h1:vP a=false:=by rfl):
  PE X (.Call (.Name "list" p) [.Call (.Name "reversed" p2) [a] [] pos2] [] pos) (tLR X.K ta):=by
 and_intros;refine Call_ (wP I hg hm PyProof.Rows.boot_list (PyProof.Rows.callWith_type1 ?_ (yL rfl) rfl));rw[yL (show vP (.Call (.Name "reversed" p2) [a] [] pos2)=false from rfl)];show wpAny _ _ (spliced ((false,eval (.Call (.Name "reversed" p2) [a] [] pos2) X.env)::backTo pos (starEach [] X.env))) _ _ s;refine Calls.spliced_cons ?_;refine Call_ (wP I hg2 hm2 ziw (PyProof.Rows.callWith_type1 (thn (ha pos2 pins s σ H _ I h) fun us s1 ⟨vs,H1,I1,r1,q,ys,e,hS,hn,k⟩=>?_) (yL h1) rfl));subst e;cases r1 with
 | cons r rr=>
  cases rr;cases r;obtain⟨its,rv,hp,hz⟩:=I1.list hS;have hlen:its.length=ys.length:=rv.length.symm;have hq:q<s1.heap.objs.size:=by obtain⟨_,e,_⟩:=hp.isList;exact aI e
  refine call_reversed_list hp.isList (Calls.spliced_nil ?_);have hsz:its.toArray.size=its.length:=size_toArray;have hqn:q≠s1.heap.objs.size:=ne_of_lt hq;have hit:(s1.heap.push (revObj q ((its.toArray.size:Int) - 1))).IsRevIter s1.heap.objs.size q ((its.toArray.size:Int) - 1):=⟨_,zgs _ rfl,rfl,rfl⟩;have hl1:=hp.isList.push (revObj q ((its.toArray.size:Int) - 1));have old:∀b o,s1.heap.get? b=some o->(s1.heap.push (revObj q ((its.toArray.size:Int) - 1))).get? b=some o:=fun b o e=>zgp _ e;have hs:(s1.heap.push (revObj q ((its.toArray.size:Int) - 1))).objs.size=s1.heap.objs.size+1:=Heap.size_push _ _;generalize s1.heap.push (revObj q ((its.toArray.size:Int) - 1))=hp1 at hit hl1 old hs |-;refine zap (s:={ s1 with heap:=hp1 }) (I1.ok.hd hc) hit hl1 hqn (by rw[hsz,hlen];exact Nat.le_trans hn ⋯) fun h' tk acc c' hk he hacc=>?_
  have hrv:acc.toList=its.reverse:=by
   refine ext_getElem? fun i=>?_;have hal:acc.toList.length=its.length:=by rw[Array.length_toList,hacc.1,hsz]
   by_cases hi:i<its.length
   ·have hia:i<acc.toList.length:=by omega
    rw[aB hia,List.getElem?_reverse hi];have h2:=hacc.2 i acc.toList[i] (by rw[<- Array.getElem?_toList];exact aB hia)
    have h3:its[its.length - 1 - i]?=some acc.toList[i]:=by
     rw[hsz] at h2;simpa using h2
    exact h3.symm
   ·rw[getElem?_eq_none ∅,getElem?_eq_none (by rw[length_reverse];omega)]
  exists .ref hp1.objs.size,_,I1.laid (t':=tk) (o:=.lst ys.reverse) (fun b o e=>hk b o (ne_of_lt (aI e)) (old b o e)) (by rw[hs];exact le_succ _) ⟨?_,acc.toList,c',by rw[hrv];exact rv.rev,by simpa using he⟩,rfl,k _ (I1.hok.fresh (by rw[hs];exact le_succ _))
  rw[length_reverse];exact Nat.le_trans hn ⋯
theorem j9{A:Around}{s:Shared}{M:Model}{α : Type}{c:Prop}[Decidable c]{x y:Sem α}{Q : α->Shared->Prop}(hc:c)(h:wpAny M A x Q E s):wpAny M A (if c then x else y) Q E s:=by
 rw[aK hc];exact h
theorem zbW{S:Str->Bool}{n:Nat}{Q:List Value->Shared->Prop}(hh:A.handled=none)(hS:wS P w s.heap a S n)(hn:n<=1000)
  (hQ:∀vs zs h' (d:Drawn) (tk:Nat),s.heap.objs.size<=h'.objs.size->(∀b o,s.heap.get? b=some o->h'.get? b=some o)->StrsAre vs zs->zs.Nodup->(∀z,z∈zs ↔ S z=true)->vs.length=n->Q vs { s with heap:=h',drawn:=d,toks:=tk }) :
  wpAny (model P w) A (collect (.ref a)) Q E s:=by
 obtain⟨o,es,ep,t,ho,hex,hr⟩:=id hS;have hlt:a<s.heap.objs.size:=aI ho;have hSI:s.heap.objs.size≠a:=ne_of_gt hlt;unfold collect;refine zwb (wpAny_runValue (codeAny_builtin PySem.F.entry_proto_collect ?_));rw[Around.under_plainId PySem.F.plain_proto_collect _];show wpAny _ A.in1 (newList [] >>= fun l=>again (.builtin "list.__iadd__" ⟨[l,.ref a],[]⟩)) _ _ s;refine zwb (wpAny_newObj_type ?_);refine zwp ⟨plainId_quiet PySem.F.plain_list_iadd _,codeAny_builtin PySem.F.entry_list_iadd ?_⟩;rw[Around.under_plainId PySem.F.plain_list_iadd _];have hS1:wS P w (s.heap.push { cls:=.type "list",data:=.seq ([]:List Value).toArray }) a S n:=⟨o,es,ep,t,zgp _ ho,hex,hr⟩;have hz1:(s.heap.push { cls:=.type "list",data:=.seq ([]:List Value).toArray }).objs.size=s.heap.objs.size+1:=Heap.size_push ..;have hS₁:(s.heap.push { cls:=.type "list",data:=.seq ([]:List Value).toArray }).get? s.heap.objs.size=some { cls:=.type "list",data:=.seq ([]:List Value).toArray }:=zgs _ rfl;have old:∀b o,s.heap.get? b=some o->(s.heap.push { cls:=.type "list",data:=.seq ([]:List Value).toArray }).get? b=some o:=fun b o e=>zgp _ e;have hbS:∀b o,s.heap.get? b=some o->b≠s.heap.objs.size:=fun b o e=>ne_of_lt (aI e);show wpAny _ A.in1 (Builtin.List.listExtendWith (.ref s.heap.objs.size) (.ref a) (.ref s.heap.objs.size)) _ _ _;generalize s.heap.push { cls:=.type "list",data:=.seq ([]:List Value).toArray }=hp1 at hS1 hz1 hS₁ old |-;have hT:Shared.TypeIs { s with heap:=hp1 } (.ref a) "set":=by
  obtain⟨o,_,_,_,ho,hex,_⟩:=hS1;exact⟨o,ho,hex.1⟩
 unfold Builtin.List.listExtendWith;refine zwb (wpAny_typeOf hT ?_);have h1:Builtin.List.listSameRef (.ref s.heap.objs.size) (.ref a)=false:=by simp [Builtin.List.listSameRef,hSI]
 have h2:(Value.type "set"==Value.type "list")=false:=by decide
 have h3:(Value.type "set"==Value.type "tuple")=false:=by decide
 simp only[h1,h2,h3,Bool.or_false,Bool.false_eq_true,if_false];refine zwb (zcq (s:={ s with heap:=hp1 }) (A':=A.in1) hh hS1 fun I fp vs zs St h2 d k2 kf kI W hst hTI hzs hnd hmem hlen=>?_)
 have hT2:Shared.TypeIs { s with heap:=h2,drawn:=d } (.ref a) "set":=by
  obtain⟨o,_,_,_,ho,hex,_⟩:=hS1;exact⟨o,k2 _ _ ho,hex.1⟩
 refine zwb (wpAny_holding ?_);unfold Builtin.List.listLengthHint;refine zwb (wpAny_specialOf hT2 PySem.F.slot_set_len.lookup ?_);dsimp only;rw[show splitId "set.__len__"=some ("set","__len__") from by decide +kernel]
 show wpAny _ _ (isInstance (.ref a) (.type "set") >>= _) _ _ _;refine zwb (wpAny_isInstance (b:=true) hT2 (by rw[isSubtype_type];kernel_rfl) ?_)
 rw[aJ (show ¬((!true)=true) by decide)]
 refine j9 (by decide +kernel) ?_
 refine zwb (wpAny_typeOf hT2 (zwp ?_));refine j9 (by decide +kernel) ?_
 refine zwb (wpAny_rule ?_);have hS₁':=k2 _ _ hS₁;have hI:I≠s.heap.objs.size:=fun e=>by
  rw[e] at kI;dsimp only at kI;rw[hz1] at kI;exact Nat.not_succ_le_self _ kI
 have hSf:s.heap.objs.size∉fp:=fun hm=>by
  rcases kf _ hm with e|e
  ·exact hSI e
  ·dsimp only at e
   rw[hz1] at e;exact Nat.not_succ_le_self _ e
 refine zwb ?_;show wpAny _ A.in1 (updateSeq s.heap.objs.size (·.push .none) >>= fun _=>updateSeq s.heap.objs.size (·.pop)) _ _ _;refine zwb (wpAny_updateSeq hS₁' rfl ?_);have hS₂:=Heap.get?_update_self (Obj.mapSeq (·.push Value.none)) hS₁' rfl;refine wpAny_updateSeq hS₂ rfl ?_;have hS₃:=Heap.get?_update_self (Obj.mapSeq (·.pop)) hS₂ rfl;have oth:∀b o,b≠s.heap.objs.size->h2.get? b=some o->((h2.update s.heap.objs.size (Obj.mapSeq (·.push Value.none))).update s.heap.objs.size (Obj.mapSeq (·.pop))).get? b=some o:=
  fun b o hb e=>(Heap.get?_update_other _ _ (Ne.symm hb)).trans ((Heap.get?_update_other _ _ (Ne.symm hb)).trans e)
 have hW:=W.toS;refine zwp ⟨plainId_quiet PySem.F.plain_extend_loop _,codeAny_extend_loopS hW (by rw[hlen];exact Nat.le_trans hn ⋯) _ hSf _ vs.length 0 _ _ _ rfl (zero_le _)
  (W.frame 0 _ _ hst fun b hb o e=>oth b o (fun h=>hSf (h ▸ hb)) e) hS₃ (ItemsOf.nil _) fun s' acc' c' hm hS' hacc=>?_⟩
 show wpAny _ A (load s.heap.objs.size >>= _) _ _ s';refine zwb (wpAny_load hS' ?_);have hrv:acc'.toList=vs:=by
  refine ext_getElem? fun i=>?_;have hal:acc'.toList.length=vs.length:=by rw[Array.length_toList,hacc.1]
  by_cases hi:i<vs.length
  ·have hia:i<acc'.toList.length:=by omega
   rw[aB hia];exact(hacc.2 i acc'.toList[i] (by rw[<- Array.getElem?_toList];exact aB hia)).symm
  ·rw[getElem?_eq_none ∅,getElem?_eq_none ∅]
 rw[Moved.eq_with hm];refine zwp ?_;rw[hrv];refine hQ vs zs _ _ _ (le_of_lt (aI hS')) (fun b o e=>?_) hzs hnd hmem hlen;refine hm.heap b o (fun hmem=>?_) (oth b o (hbS b o e) (k2 b o (old b o e)));rcases List.mem_cons.mp hmem with e'|hmem
 ·exact hbS b o e e'
 ·rw[List.mem_singleton.mp hmem] at e
  have:=aI e
  dsimp only at kI;rw[hz1] at kI;exact lt_irrefl _ (lt_trans this kI)
theorem zcc{S:Str->Bool}{n:Nat}{Q:VSP}(hh:A.handled=none)(hS:wS P w s.heap a S n)(hn:n<64)
  (hQ:∀l (out:Array Value) zs h' (d:Drawn) (tk e:Nat),(∀b o,s.heap.get? b=some o->h'.get? b=some o)->s.heap.objs.size<=l->h'.get? l=some (seqObj "list" out e)->StrsAre out.toList zs->zs.Nodup->(∀z,z∈zs ↔ S z=true)->sortedS zs=true->zs.length=n->
   Q (.ref l) { s with heap:=h',drawn:=d,toks:=tk }) :
  wpAny (model P w) A (call (.builtin "sorted") [.ref a]) Q E s:=by
 refine Calls.call_function_entry kind_sorted plain_sorted entry_sorted (args_sorted1 _) ?_;unfold Builtin.«sorted»;refine zwb (m:=checkCount "sorted" 1 1 _) (zwp ?_);refine zwb (zbW hh hS ∅ fun vs zs h1 d tk hsz k1 hzs hnd hmem hlen=>?_)
 have hzl:zs.length=vs.length:=by
  have:=hzs.strs
  rw[<- this,aA]
 refine zwb (wpAny_newList ?_ (by rw[hlen];exact Nat.le_trans (le_of_lt hn) ⋯))
 have hoL:(h1.push (seqObj "list" vs.toArray 0)).get? h1.objs.size=some (seqObj "list" vs.toArray 0):=zgs _ rfl;refine zwb (wpAny_holding (wpAny_call_entry slot_list_sort ⟨_,hoL,rfl⟩ entry_list_sort (list_sort_treeK strKind_oneLt hoL hzs.keysOf (fun v₁ v₂ rest e=>keyKind_strs (by rw[<- e];exact hzs)) ∅ fun st' a1 a2=>⟨_,rfl,?_⟩) (args_list_sort _)))
 obtain⟨ss',b1,b2,b3⟩:=sorted_out_str hzs a1 a2;obtain⟨e,he⟩:=sortedHeap_at (out:=(arrOf st').map (·.2)) hoL;refine zwp ⟨_,rfl,hQ _ _ ss' _ d tk e (fun b o eb=>?_) hsz he b1 (b2.nodup_iff.mpr hnd) (fun z=>(b2.mem_iff).trans (hmem z)) b3 (by rw[b2.length_eq,hzl,hlen])⟩
 have eb1:=k1 b o eb;have hlt:=aI eb1;rw[sortedHeap_old (ne_of_lt hlt) (by rw[size_push'];exact lt_succ_of_lt hlt),Heap.get?_push_ne _ _ _ (ne_of_lt hlt)]
 exact eb1
def zmZ(P:Program)(w:World)(a:Addr)(S:Str->Bool)(n:Nat)(h:Heap):Prop:=wS P w h a S n
abbrev uq(P:Program)(w:World)(a:Addr)(S:Str->Bool)(n:Nat):HO:=.ext (zmZ P w a S n)
theorem zgC{S:Str->Bool}{n:Nat}(e:wS P w h a S n):yT P w H h a (uq P w a S n):=
 ⟨e,let ⟨o,_,_,_,h1,_⟩:=e;⟨o,h1⟩,fun g1 g2 q k=>let ⟨o,es,ep,t,h1,c⟩:=q;⟨o,es,ep,t,k o h1,c⟩⟩
theorem zcf{P:Program}{w:World}{h:Heap}{a:Addr}{zs:List Str}{n:Nat}(hS:wS P w h a (fun z=>decide (z∈zs)) n):n<=zs.length:=by
 obtain⟨o,es,ep,t,ho,hex,hd,hel,hmem,hb,hf,hn,hnd,_⟩:=hS
 have:=yN (es.toList.map fun e=>jG e.2) zs hnd fun z hz=>by
  obtain⟨e,he,e1⟩:=List.mem_map.mp hz;obtain⟨⟨k,hk,_⟩,_⟩:=hel e he
  have:=(hmem k).mpr ⟨e,he,hk⟩
  obtain⟨tk,e2⟩:=Value.isStrOf_shape hk;rw[e2] at e1;have e1:k=z:=e1;rw[<- e1];exact of_decide_eq_true this
 rw[aA,Array.length_toList] at this;omega
theorem Inv.drew(I:Inv X pins σ H s)(d:Drawn):Inv X pins σ H { s with drawn:=d }:=
 ⟨I.ok,I.os,I.bare,I.base,I.loc,I.cell,I.free,I.freeC,I.pin,I.hok,I.len⟩
theorem ui{X:Cx}(hc:X.calm=true):xq X (.type "set") (fun xs H Q=>∃(p:Addr) (zs:List Str),xs=[.ref p]/\SqL X.K H p (zs.map V.str)/\zs.length<=900/\∀(l:Addr) (n:Nat),H l=none->Q (.ref l) (upd H l (uq X.prog X.w l (fun z=>decide (z∈zs)) n))):=by
 intro pins s σ H xs us Q I r h;obtain⟨p,zs,rfl,hS,lz,q⟩:=h;obtain⟨u,rfl,ru⟩:=wt r;cases ru;obtain⟨its,rv,hp,hz⟩:=I.list hS;have hl:its.length=zs.length:=by rw[<- rv.length,aA]
 have hb:its.toArray.size+1<scanBound:=by
  rw[size_toArray,hl];have : 1000<scanBound:=by unfold scanBound;decide
  omega
 refine zcX (I.ok.hd hc) hp.isList (fun i v e=>rv.strs_at i v (by simpa using e)) hb fun h' tk c hS' hk=>?_
 have hsz:its.toArray.size=zs.length:=by rw[size_toArray,hl]
 rw[hsz] at hS';have eS:seen (fun i=>zs.getD i "") (fun _=>false) 0 zs.length=fun z=>decide (z∈zs):=funext (zcg zs);rw[eS] at hS';exists .ref s.heap.objs.size,_,I.laid (t':=tk) (fun b ob e=>hk b ob (aI e) e) (aF _) (zgC hS'),rfl,q _ c (I.hok.fresh (aF _))
theorem vB(hc:X.calm=true):xq X (.builtin "sorted") (fun xs H Q=>∃(a:Addr) (zs:List Str) (n:Nat),xs=[.ref a]/\H a=some (uq X.prog X.w a (fun z=>decide (z∈zs)) n)/\zs.length<64/\∀l ys,H l=none->ys.Nodup->(∀z,z∈ys ↔ z∈zs)->Q (.ref l) (upd H l (.lst ((z8 ys).map V.str)))):=by
 intro pins s σ H xs us Q I r h;obtain⟨a,zs,n,rfl,e,h64,q⟩:=h;obtain⟨u,rfl,ru⟩:=wt r;cases ru;have hS:wS X.prog X.w s.heap a (fun z=>decide (z∈zs)) n:=(I.hok a _ e).1;have hn:=zcf hS;refine zcc (I.ok.hd hc) hS ∅ fun l out ys h' d tk ep k1 hsz he hys hnd hmem hso hl=>?_
 have en:=zcd (List.Perm.refl ys) hso;exists .ref l,_,(I.drew d).laid (t':=tk) (o:=.lst ((z8 ys).map V.str)) k1 hsz ⟨?_,out.toList,ep,?_,by simpa using he⟩,rfl,q l ys (I.hok.fresh hsz) hnd fun z=>?_
 ·rw[aA,<- en,hl]
  have : 1000<=sizeLine:=by decide
  omega
 ·rw[<- en]
  exact StrsAre.vals hys
 ·rw[hmem z]
  exact decide_eq_true_iff
end
end L2
namespace K84
open PySem L2 PyProof.Rows
theorem ziJ(hs:z8 n=n)(nd:n.Nodup)(ny:ys.Nodup)(h:∀z,z∈ys ↔ z∈n):z8 ys=n:=by
 rw[<- hs];exact uO.mpr ((List.perm_ext_iff_of_nodup ny nd).mpr h)
section
variable {P:Program}{K:Frag}{mg:Str->Option Value}{f CF:Addr}{c:C5}
theorem zah(ns:List Int)(lo hi:Option Int):∃ms:List Int,xJ (ns.map V.int) lo hi=ms.map V.int/\ms.length<=ns.length/\∀m∈ms,m∈ns:=by
 exists (ns.drop (HT.sIx ns.length 0 lo)).take (HT.sIx ns.length ns.length hi - HT.sIx ns.length 0 lo),?_,?_,fun m hm=>mem_of_mem_drop (mem_of_mem_take hm)
 ·unfold xJ
  rw[aA,map_take,map_drop]
 ·rw[length_take,length_drop]
  omega
structure znW(mg:Str->Option Value):Prop where
 len:mg "len"=none
 range:mg "range"=none
 set:mg "set"=none
 en:mg "enumerate"=none
 list:mg "list"=none
 isi:mg "isinstance"=none
 bool:mg "bool"=none
 tuple:mg "tuple"=none
inductive qh(K:Frag)(vs:List V)(H:Hp)(Q:VK)(E:XK):Prop|mk(a:Addr)(ns:List Int)(k:Nat):vs=[.ref a,.int k]->SqL K H a (ns.map V.int)->ns.length<=63->(∀(n:Int) (H':Hp),zq H H'->Q (.int n) H')->qh K vs H Q E
def zj8(c k:Int):Int:=(c % 2147483647+97 * k+5) * 48271 % 2147483647 * ((c % 2147483647+97 * k+5) * 48271 % 2147483647) % 2147483629
inductive za7(vs:List V)(H:Hp)(Q:VK)(E:XK):Prop|mk(c k:Int):vs=[.int c,.int k]->(Q (.int (zj8 c k)) H)->za7 vs H Q E
def pnL(a b c q k:Nat):List Nat:=([97+a,97+b,97+c]).take (k % 4)++[97+(q+k) % 26]
def pn(a b c q k:Nat):Str:=⟨(pnL a b c q k).toArray⟩
def zct(a b c q:Nat):List Str:=(List.range 8).map (pn a b c q)++[⟨(pnL a b c q 0++[97,97,97,97,97]).toArray⟩,⟨(pnL a b c q 1++[97,97,97,97,97]).toArray⟩]
def zeC:List Str:=(List.range 26).map fun k=>(⟨#[97+k]⟩:Str)
theorem xU{l:List Nat}(h1 : 1<=l.length)(h2:l.length<=8)(h3:∀c∈l,97<=c/\c<=122):zU ⟨l.toArray⟩=true:=by
 unfold zU;have e:(⟨l.toArray⟩:Str).length=l.length:=by show l.toArray.size=_;simp
 rw[e,aC h1,aC h2,Bool.true_and,Bool.true_and];show l.toArray.toList.all low=true;rw[all_eq_true];intro c hc;have hc':c∈l:=by simpa using hc
 obtain⟨g1,g2⟩:=h3 c hc';unfold low;rw[aC g1,aC g2];rfl
theorem xY(a b c q k:Nat):(pnL a b c q k).length=k % 4+1:=by
 unfold pnL;rw[aG,length_take]
 have:k % 4<4:=mod_lt _ ⋯
 show min (k % 4) 3+1=_;omega
theorem zeD{a b c q k:Nat}(ha:a<26)(hb:b<26)(hc:c<26):∀x∈pnL a b c q k,97<=x/\x<=122:=by
 intro x hx;unfold pnL at hx;rcases List.mem_append.mp hx with hx|hx
 ·have:=mem_of_mem_take hx
  simp only[mem_cons,not_mem_nil,or_false] at this;omega
 ·rw[List.mem_singleton.mp hx]
  have:(q+k) % 26<26:=mod_lt _ ⋯
  omega
theorem wB{l m:List Nat}(h:(⟨l.toArray⟩:Str)=⟨m.toArray⟩):l=m:=by
 have:l.toArray=m.toArray:=congrArg Str.cps h
 simpa using this
theorem zdv{a b c q:Nat}(ha:a<26)(hb:b<26)(hc:c<26):∀z∈zct a b c q,zU z=true:=by
 intro z hz;unfold zct at hz;rcases List.mem_append.mp hz with hz|hz
 ·obtain⟨k,_,rfl⟩:=List.mem_map.mp hz
  refine xU (by rw[xY];omega) (by rw[xY];have:k % 4<4:=mod_lt _ ⋯;omega) (zeD ha hb hc)
 ·have hx:∀k,∀x∈pnL a b c q k++[97,97,97,97,97],97<=x/\x<=122:=fun k x hx=>by
   rcases List.mem_append.mp hx with hx|hx
   ·exact zeD ha hb hc x hx
   ·simp only[mem_cons,not_mem_nil,or_false] at hx
    omega
  simp only[mem_cons,not_mem_nil,or_false] at hz;rcases hz with rfl|rfl
  ·exact xU (by rw[aG];simp) (by rw[aG,xY];decide) (hx 0)
  ·exact xU (by rw[aG];simp) (by rw[aG,xY];decide) (hx 1)
theorem zlf{a b c q j k:Nat}(hj:j<8)(hk:k<8)(e:pn a b c q j=pn a b c q k):j=k:=by
 have h:=congrArg List.getLast? (wB e);unfold pnL at h;rw[List.getLast?_append,List.getLast?_append] at h;simp at h;omega
theorem zhd(a b c q:Nat):(zct a b c q).Nodup:=by
 unfold zct;refine List.nodup_append.mpr ⟨?_,?_,?_⟩
 ·refine List.pairwise_map.mpr (List.Pairwise.imp_of_mem ?_ nodup_range)
  intro x y hx hy ne e;exact ne (zlf (List.mem_range.mp hx) (List.mem_range.mp hy) e)
 ·refine List.nodup_cons.mpr ⟨fun h=>?_,by simp⟩
  have:=congrArg List.length (wB (List.mem_singleton.mp h))
  rw[aG,aG,xY,xY] at this;simp at this
 ·intro x hx y hy e
  obtain⟨k,_,rfl⟩:=List.mem_map.mp hx;have hk:k % 4<4:=mod_lt _ ⋯
  simp only[mem_cons,not_mem_nil,or_false] at hy;rcases hy with rfl|rfl
  ·have:=congrArg List.length (wB e)
   rw[aG,xY,xY] at this;simp at this;omega
  ·have:=congrArg List.length (wB e)
   rw[aG,xY,xY] at this;simp at this;omega
theorem zdw:∀z∈zeC,zU z=true:=by decide +kernel
theorem zhe:zeC.Nodup:=by
 unfold zeC;refine List.pairwise_map.mpr (List.Pairwise.imp_of_mem ?_ nodup_range);intro x y hx hy ne e
 have:=congrArg Str.cps e
 simp at this;exact ne this
theorem zeb:∀m,m<26->(Str.ofString "abcdefghijklmnopqrstuvwxyz").cps.toList[m]?=some (97+m):=by decide +kernel
theorem ul{i:Int}(h0 : 0<=i)(h1:i<26):atI (Str.ofString "abcdefghijklmnopqrstuvwxyz").cps.toList i=some (97+i.toNat):=by
 obtain⟨m,rfl⟩:=eq_ofNat_of_zero_le h0;exact wK (zeb m ∅)
theorem zkI(x y z:Nat):∀n,n<4->Txt.slice ⟨#[x,y,z]⟩ none (some ((n:Nat):Int))=⟨([x,y,z].take n).toArray⟩
 | 0,_=>rfl
 | 1,_=>rfl
 | 2,_=>rfl
 | 3,_=>rfl
 | n+4,h=>absurd h ∅
theorem zkl:zA ["_law_script","_law_k","_law_cells"] ["_law_script","_law_k"] (zh zk3):=fsc
theorem zls(F:Fun K "_law_nth" "_law_nth" zk3 f fd):↥1 f fd ["_law_script","_law_k"] (qh K):=by
 specialize zkl;obtain⟨a,ns,k,rfl,hS,l63,q⟩:=h;refine⟨_,zu (zx (i:=2) zkl.nd rfl (Or.inl rfl) (zk yA (yj yX (pv 0) (yp (pv 1)) (yp (zk yP (pv 1) ze))) (zT (ac ze zc))))
  (zg (zB (zC ye (pv 2) ze (fun _ _=>rfl)))),?_⟩
 obtain⟨ms,em,lm,_⟩:=zah ns (some (k:Int)) (some ((k:Int)+1));exists _,rfl,_,rfl,_,rfl,_,rfl,_,_,rfl,rfl,_,rfl,a,_,rfl,hS,fun p hp=>?_;rw[em]
 injections p hp H1 u1 e1
 exists ux,fun l hl=>?_;have u2:=zd hl (.lst [.int 0]);have big : 1000<=sizeLine:=by decide
 exists p,l,_,_,rfl,rfl,u2 _ _ e1,za,(by rw[aA];show _+1<=_;omega),fun p3 hp3=>?_
 have u3:=zd hp3 (.lst (ms.map V.int++[.int 0]));have s3:=u1.trans (u2.trans u3);cases ms with
 | nil=>exact⟨_,rfl,p3,_,0,.int 0,rfl,rfl,zf za,rfl,q 0 _ s3⟩
 | cons x xs=>exact⟨_,rfl,p3,_,0,.int x,rfl,rfl,zf za,wK (j:=0) rfl,q x _ s3⟩
theorem zgI:zA ["_law_cell","_law_k","_law_first"] ["_law_cell","_law_k"] (zh zgQ):=fsc
theorem zjk(F:Fun K "_law_stirred" "_law_stirred" zgQ f fd):↥1 f fd ["_law_cell","_law_k"] za7:=by
 specialize zgI;obtain⟨c,k,rfl,q⟩:=h;refine⟨_,zu (zx (i:=2) zgI.nd rfl (Or.inl rfl) (zk zW (zk xT (zk yP (zk yP (zk zW (pv 0) ze) (zk xT ze (pv 1))) ze) ze) ze))
  (zg (zB (zk zW (zk xT (pv 2) (pv 2)) ze))),?_⟩
 exists _,rfl,_,_,rfl,rfl,zp2147483647,_,rfl,_,_,rfl,rfl,.inl ⟨⋯,⋯⟩,_,_,rfl,rfl,_,_,rfl,rfl,_,_,rfl,rfl,.inr ⟨⋯,⋯⟩,_,_,rfl,rfl,zp2147483647,?_
 have h1 : 0<=(c % 2147483647+97 * k+5) * 48271 % 2147483647:=emod_nonneg _ ⋯
 have h2:(c % 2147483647+97 * k+5) * 48271 % 2147483647<2147483647:=emod_lt_of_pos _ ⋯
 exact⟨_,rfl,_,rfl,_,_,rfl,rfl,.inl ⟨∅,∅⟩,_,_,rfl,rfl,(by show(0:Int)<2147483629;decide),q⟩
theorem zlJ{k:Nat}(hk:k<5)(h:yn k=true):grp k=0\/grp k=2:=by
 rcases lt5 hk with rfl|rfl|rfl|rfl|rfl <;> first|(exact .inl rfl)|(exact .inr rfl)|(cases h)
theorem ua{g:Nat}(hg:∀r∈xs,r.ok/\grp r.k=g)(h:g % 2=1):nms xs=[]:=by
 unfold nms;rw[List.filter_eq_nil_iff.mpr (fun r hr e=>?_)]
 ·rfl
 ·obtain⟨ho,q⟩:=hg r hr
  rcases zlJ ho.1 e with z|z <;> rw[z] at q <;> rw[<- q] at h <;> cases h
structure FS where
 (P T G B:List Rw) (L:List Str)
def FS.add(S:FS)(k:Nat)(z:Str)(b:Bool):FS:=match k with
 | 0=>{ S with P:=S.P++[⟨0,z,b⟩] }
 | 1=>{ S with P:=S.P++[⟨1,z,b⟩],L:=S.L++[z] }
 | 2=>{ S with T:=[⟨2,z,b⟩] }
 | 3=>{ S with G:=S.G++[⟨3,z,b⟩],L:=S.L++[z] }
 | _=>{ S with B:=[⟨4,z,b⟩] }
structure FM(i:Nat)(S:FS):Prop where
 okP:∀r∈S.P,r.ok/\grp r.k=0
 okT:∀r∈S.T,r.ok/\grp r.k=1
 okG:∀r∈S.G,r.ok/\grp r.k=2
 okB:∀r∈S.B,r.ok/\grp r.k=3
 lT:S.T.length<=1
 lB:S.B.length<=1
 nd:(nms S.P++nms S.G).Nodup
 sn:∀z∈nms S.P++nms S.G,z∈S.L
 ln:S.P.length+S.T.length+S.G.length+S.B.length<=i
 lL:S.L.length<=i
theorem ja{α : Type}{xs:List α}{y : α}{p : α->Prop}(h:∀x∈xs,p x)(hy:p y):∀x∈xs++[y],p x:=fun x hx=>by
 rcases List.mem_append.mp hx with hx|hx
 ·exact h x hx
 ·rw[List.mem_singleton.mp hx];exact hy
theorem FM.zero:FM 0 ⟨[],[],[],[],[]⟩:=by
 refine⟨?_,?_,?_,?_,?_,?_,?_,?_,?_,?_⟩ <;> first|exact(fun _ h=>nomatch h)|exact zero_le _|exact nodup_nil|exact aF _
theorem zhT(h:(a++b).Nodup)(hz:z∉a++b):(a++[z]++b).Nodup:=by
 have p:(a++[z]++b).Perm (z::(a++b)):=by
  rw[append_assoc];exact List.perm_middle
 exact p.nodup_iff.mpr (List.nodup_cons.mpr ⟨hz,h⟩)
theorem FM.add{i:Nat}{k:Nat}(h:FM i S)(hk:k<5)(hz:zU z=true)(hn:yn k=true->z∉S.L):FM (i+1) (S.add k z b):=by
 have ln:=h.ln;have lL:=h.lL;have lT:=h.lT;have lB:=h.lB
 match k,hk with
 | 0,_=>
  have e:nms (S.P++[⟨0,z,b⟩])=nms S.P:=by rw[yv,jZ];simp [yn]
  exact⟨ja h.okP ⟨⟨lt_of_sub_eq_succ rfl,hz⟩,rfl⟩,h.okT,h.okG,h.okB,h.lT,h.lB,by show(nms (S.P++_)++nms S.G).Nodup;rw[e];exact h.nd,by show ∀y∈nms (S.P++_)++nms S.G,y∈S.L;rw[e];exact h.sn,
   by show(S.P++[_]).length+S.T.length+S.G.length+S.B.length<=i+1;rw[aG,length_singleton];omega,le_succ_of_le h.lL⟩
 | 1,_=>
  have e:nms (S.P++[⟨1,z,b⟩])=nms S.P++[z]:=by rw[yv,jZ];simp [yn]
  have nz:z∉nms S.P++nms S.G:=fun m=>hn rfl (h.sn z m);refine⟨ja h.okP ⟨⟨lt_of_sub_eq_succ rfl,hz⟩,rfl⟩,h.okT,h.okG,h.okB,h.lT,h.lB,by show(nms (S.P++_)++nms S.G).Nodup;rw[e];exact zhT h.nd nz,?_,
   by show(S.P++[_]).length+S.T.length+S.G.length+S.B.length<=i+1;rw[aG,length_singleton];omega,by show(S.L++[_]).length<=i+1;rw[aG,length_singleton];omega⟩
  show ∀y∈nms (S.P++_)++nms S.G,y∈S.L++[z];rw[e];intro y hy;rw[mem_append,mem_append] at hy;rcases hy with (hy|hy)|hy
  ·exact mem_append_left _ (h.sn y (mem_append_left _ hy))
  ·exact mem_append_right _ hy
  ·exact mem_append_left _ (h.sn y (mem_append_right _ hy))
 | 2,_=>
  exists h.okP,fun r hr=>?_,h.okG,h.okB,aF _,h.lB,h.nd,h.sn,?_,le_succ_of_le h.lL
  ·rw[List.mem_singleton.mp hr];exact⟨⟨lt_of_sub_eq_succ rfl,hz⟩,rfl⟩
  ·show S.P.length+1+S.G.length+S.B.length<=i+1
   omega
 | 3,_=>
  have e:nms (S.G++[⟨3,z,b⟩])=nms S.G++[z]:=by rw[yv,jZ];simp [yn]
  have nz:z∉nms S.P++nms S.G:=fun m=>hn rfl (h.sn z m);refine⟨h.okP,h.okT,ja h.okG ⟨⟨lt_of_sub_eq_succ rfl,hz⟩,rfl⟩,h.okB,h.lT,h.lB,?_,?_,
   by show S.P.length+S.T.length+(S.G++[_]).length+S.B.length<=i+1;rw[aG,length_singleton];omega,by show(S.L++[_]).length<=i+1;rw[aG,length_singleton];omega⟩
  ·show(nms S.P++nms (S.G++_)).Nodup
   rw[e,<- append_assoc]
   have:=zhT (a:=nms S.P++nms S.G) (b:=[]) (z:=z) (by rw[append_nil];exact h.nd) (by rw[append_nil];exact nz)
   rwa [append_nil] at this
  ·show ∀y∈nms S.P++nms (S.G++_),y∈S.L++[z]
   rw[e];intro y hy;rw[mem_append,mem_append] at hy;rcases hy with hy|hy|hy
   ·exact mem_append_left _ (h.sn y (mem_append_left _ hy))
   ·exact mem_append_left _ (h.sn y (mem_append_right _ hy))
   ·exact mem_append_right _ hy
 | 4,_=>
  exists h.okP,h.okT,h.okG,fun r hr=>?_,h.lT,aF _,h.nd,h.sn,?_,le_succ_of_le h.lL
  ·rw[List.mem_singleton.mp hr];exact⟨⟨lt_of_sub_eq_succ rfl,hz⟩,rfl⟩
  ·show S.P.length+S.T.length+S.G.length+1<=i+1
   omega
def FS.rows(S:FS):List Rw:=S.P++S.T++S.G++S.B
theorem FM.valid{i:Nat}(h:FM i S)(hi:i<=24)(lb:bars.length<=60)(bn:∀z∈bars,zU z=true)(bd:bars.Nodup)(bl:∀z∈bars,z∉S.L):jL S.rows bars:=by
 have en:nms S.rows=nms S.P++nms S.G:=by
  unfold FS.rows;rw[yv,yv,yv,ua h.okT rfl,ua h.okB rfl,append_nil,append_nil]
 exists fun r hr=>?_,?_,lb,?_,bn,?_
 ·unfold FS.rows at hr
  rw[mem_append,mem_append,mem_append] at hr;rcases hr with ((hr|hr)|hr)|hr
  ·exact(h.okP r hr).1
  ·exact(h.okT r hr).1
  ·exact(h.okG r hr).1
  ·exact(h.okB r hr).1
 ·unfold FS.rows
  have:=h.ln
  simp only[aG];omega
 ·unfold FS.rows
  rw[append_assoc,append_assoc];exact zeI (fun r hr=>(h.okP r hr).2) (fun r hr=>(h.okT r hr).2) h.lT (fun r hr=>(h.okG r hr).2) (fun r hr=>(h.okB r hr).2) h.lB
 ·rw[en]
  exact List.nodup_append.mpr ⟨h.nd,bd,fun x hx y hy e=>bl y hy (e ▸ h.sn x hx)⟩
theorem TAt.keep(h:TAt H v r)(hD:∀vs,H D≠some (.tup vs)):TAt (L2.upd H D o) v r:=by
 show L2.upd H D o v=_;rw[L2.zi (fun e=>by subst e;exact hD _ h)]
 exact h
def zas(H:Hp)(l:Addr)(rows:List Rw):Prop:=∃us:List Addr,H l=some (.lst (us.map V.ref))/\Paired (TAt H) us rows
theorem zas.same(h:zas H l rows)(s:zq H H'):zas H' l rows:=let ⟨us,h1,h2⟩:=h;⟨us,s _ _ h1,zr s h2⟩
theorem zas.keep(h:zas H l rows)(ne:l≠D)(hD:∀vs,H D≠some (.tup vs)):zas (upd H D o) l rows:=
 let ⟨us,h1,h2⟩:=h
 ⟨us,by rw[zi ne];exact h1,zO (fun _ _ z=>z.keep hD) h2⟩
theorem zas.snoc(h1:H l=some (.lst (us.map V.ref)))(h2:Paired (TAt H) us rows)(hu:TAt H u r):zas (upd H l (.lst (us.map V.ref++[.ref u]))) l (rows++[r]):=by
 have hD:∀vs,H l≠some (.tup vs):=fun vs e=>by rw[h1] at e;cases e
 exists us++[u],by rw[za,aE];rfl,Paired.snoc (zO (fun _ _ z=>z.keep hD) h2) (hu.keep hD)
theorem xp{z:Str}:∀{zs:List Str},inV (.str z) (zs.map V.str)=decide (z∈zs)
 | []=>by simp [inV]
 | y::ys=>by
  have ih:=xp (z:=z) (zs:=ys);show(eqV (.str y) (.str z)||inV (.str z) (ys.map V.str))=_
  rw[ih]
  have:eqV (.str y) (.str z)=decide (z=y):=by
   show(y==z)=_;rw[Bool.eq_iff_iff,beq_iff_eq,decide_eq_true_eq];exact⟨Eq.symm,Eq.symm⟩
  rw[this];simp
theorem yQ:∀{zs:List Str},(zs.map V.str).all x9=true
 | []=>rfl
 | _::ys=>by
  show(true&&(ys.map V.str).all x9)=true;rw[yQ];rfl
theorem TAt.same(h:TAt H u r)(s:zq H H'):TAt H' u r:=s _ _ h
structure FI(H H':Hp)(lp lt ll:Addr)(S:FS):Prop where
 sm:zq H H'
 hp:zas H' lp S.P
 ht:zas H' lt S.G
 hl:H' ll=some (.lst (S.L.map V.str))
 n1:lp≠lt
 n2:lp≠ll
 n3:lt≠ll
 m1:H lp=none
 m2:H lt=none
 m3:H ll=none
variable {H H' H'':Hp}{r:Rw}{z:Str}
theorem FI.same(h:FI H H' lp lt ll S)(s:zq H' H''):FI H H'' lp lt ll S:=
 ⟨h.sm.trans s,h.hp.same s,h.ht.same s,s _ _ h.hl,h.n1,h.n2,h.n3,h.m1,h.m2,h.m3⟩
theorem FI.smU(h:FI H H' lp lt ll S)(hl:H l=none):zq H (upd H' l o):=fun b u e=>by rw[zi (zj e hl)];exact h.sm _ _ e
theorem FI.addL(h:FI H H' lp lt ll S):FI H (upd H' ll (.lst (S.L.map V.str++[.str z]))) lp lt ll { S with L:=S.L++[z] }:=by
 have hD:∀vs,H' ll≠some (.tup vs):=fun vs e=>by rw[h.hl] at e;cases e
 exact⟨h.smU h.m3,h.hp.keep h.n2 hD,h.ht.keep h.n3 hD,by rw[za,aE];rfl,h.n1,h.n2,h.n3,h.m1,h.m2,h.m3⟩
theorem FI.addP(h:FI H H' lp lt ll S)(h1:H' lp=some (.lst (us.map V.ref)))(h2:Paired (TAt H') us S.P)(hu:TAt H' u r):FI H (upd H' lp (.lst (us.map V.ref++[.ref u]))) lp lt ll { S with P:=S.P++[r] }:=by
 have hD:∀vs,H' lp≠some (.tup vs):=fun vs e=>by rw[h1] at e;cases e
 exact⟨h.smU h.m1,.snoc h1 h2 hu,h.ht.keep h.n1.symm hD,by rw[zi h.n2.symm];exact h.hl,h.n1,h.n2,h.n3,h.m1,h.m2,h.m3⟩
theorem FI.addG(h:FI H H' lp lt ll S)(h1:H' lt=some (.lst (us.map V.ref)))(h2:Paired (TAt H') us S.G)(hu:TAt H' u r):FI H (upd H' lt (.lst (us.map V.ref++[.ref u]))) lp lt ll { S with G:=S.G++[r] }:=by
 have hD:∀vs,H' lt≠some (.tup vs):=fun vs e=>by rw[h1] at e;cases e
 exact⟨h.smU h.m2,h.hp.keep h.n1 hD,.snoc h1 h2 hu,by rw[zi h.n3.symm];exact h.hl,h.n1,h.n2,h.n3,h.m1,h.m2,h.m3⟩
structure VR(rows:List Rw):Prop where
 ok:∀r∈rows,r.ok
 l24:rows.length<=24
 ord:xH 0 rows=true
 nd:(nms rows).Nodup
theorem FM.vr{i:Nat}(h:FM i S)(hi:i<=24):VR S.rows:=by
 have v:=h.valid (bars:=[]) hi (zero_le _) (fun _ h=>nomatch h) nodup_nil (fun _ h=>nomatch h);exact⟨v.ok,v.l24,v.ord,by have:=v.nd;rwa [append_nil] at this⟩
theorem xr(h:r.ok):atI (rv r) 0=some (.str (kw r.k)):=by
 obtain⟨k,z,b⟩:=r;rcases lt5 h.1 with e|e|e|e|e <;> (cases e;rfl)
theorem vY(h:r.ok):atI (rv r) 1=some (.str r.z):=by
 obtain⟨k,z,b⟩:=r;rcases lt5 h.1 with e|e|e|e|e <;> (cases e;rfl)
theorem zh7{k:Nat}(h:k<5):inV (.str (kw k)) [.str "both",.str "tag"]=yn k:=zaT k h
theorem zdV{k:Nat}(h:k<5):inV (.str (kw k)) [.str "seat",.str "both"]=wp k:=zh6 k h
theorem zeN{R:Addr->Rw->Prop}(h:Paired R us rows):((us.zip rows).filter fun p=>yn p.2.k).map (fun p=>V.str p.2.z)=(nms rows).map V.str:=by
 have:=uK h (fun r=>yn r.k) (fun r=>V.str r.z)
 rw[this];unfold nms;rw[map_map];rfl
inductive zbc(vs:List V)(H:Hp)(Q:VK)(E:XK):Prop|mk(la pa:Addr)(n:Int)(us:List Addr)(rows:List Rw)(zs:List Str):vs=[.ref la,.ref pa,.int n]->H la=some (.lst (us.map V.ref))->Paired (TAt H) us rows->VR rows->H pa=some (.lst (zs.map V.str))->zs.Nodup->zs.length<=26->(∀(l:Addr) (bars:List Str) (H':Hp),zq H H'->H l=none->H' l=some (.lst (bars.map V.str))->bars.Nodup->(∀z∈bars,z∈zs)->(∀z∈bars,z∉nms rows)->bars.length<=26->Q (.ref l) H')->zbc vs H Q E
theorem zmw:([Str.ofString "_law_one"]:List Str).Nodup:=by decide +kernel
theorem uS:zA ["_law_row_here","_law_pool_here","_law_number","_law_known","_law_found","_law_name"] ["_law_row_here","_law_pool_here","_law_number"] (zh zg6):=fsc
theorem zhI(F:Fun K "_law_bars" "_law_bars" zg6 f fd):↥1 f fd ["_law_row_here","_law_pool_here","_law_number"] zbc:=by
 specialize uS;obtain⟨la,pa,n,us,rows,zs,rfl,hla,hu,V1,hpa,zn,l26,q⟩:=h;refine⟨_,zu (wD (i:=3) [] ["_law_one"] [none] uS.nd rfl (Or.inl rfl) rfl ⟨rfl,rfl,rfl,rfl⟩ (zM (pv 0)) (zK 0) rfl rfl rfl
   (fun pins fp s H C=>⟨zo (i:=0) zmw rfl (Or.inl rfl) (.inr rfl),yg (zm (r:=rIn K false) yi (zC (r:=xc K) zG (pv 0) ze (fun _ _=>rfl)) (zT (ac zH (ac zH zc))) (by with_unfolding_all rfl)),zC (r:=xc K) zG (pv 0) ze (fun _ _=>rfl)⟩))
  (zu (zx (i:=4) uS.nd rfl (Or.inl rfl) (zT zc))
  (zu (yU PassesOwn.never rfl (zM (pv 1)) (zo (i:=5) uS.nd rfl (Or.inl rfl))
   (zu (zS (yS (yO (zm yI (pv 5) (pv 3) (by with_unfolding_all rfl)) (yB (zm ym (zk zW (pv 2) ze) ze (zF _))))) (zg (zZ (xw PySem.F.plainAttrs_list PySem.F.slot_list_append PySem.F.type_list_append ya (pv 4) (ac (pv 5) zc)))) zD)
   (zg (zx (i:=2) uS.nd rfl (Or.inl rfl) (zk z3 (pv 2) ze)))))
  (zg (zB (pv 4))))),?_⟩
 have l24:=V1.l24;exists _,rfl,la,rfl,⟨_,zf hla⟩,fun D hD=>?_;refine wg (K:=K) TAt (fun r=>yn r.k) (fun _ r=>.str r.z) hD hla hu ∅ (fun i u r H' N S hu' hr' tr sH n1 s1=>?_) (fun H1 s1 hD1=>?_)
 ·have rk:=V1.ok r (aH hr')
  have tu:=sH _ _ tr;exists _,rfl,u,_,0,_,rfl,rfl,zy tu,xr rk,yG,fun l hl=>?_;have s2:=zd hl (.lst [.str "both",.str "tag"]);exists l,_,rfl,.inl (zf za),rfl,rfl,_,rfl,?_;rw[aJ zft,zh7 rk.1];exact⟨fun e=>⟨_,rfl,u,_,1,_,rfl,rfl,zy (s2 _ _ tu),vY rk,n1 _ s2 e⟩,fun e=>s1 _ s2 e⟩
 rw[zeN hu] at hD1;exists wN,fun fo hfo=>?_;dsimp only[zJ]
 injections fo hfo H2 s2 g2
 have s12:=s1.trans s2;have nD:=s2 _ _ hD1;have nfo:H fo=none:=s1.free hfo;have neD:D≠fo:=zj hD1 hfo;refine⟨_,rfl,pa,rfl,⟨_,zf (s12 _ _ hpa)⟩,xf (K:=K) (a:=pa) (xs:=zs.map V.str) (fun i σ H'=>∃(m:Int) (bars:List Str) (v5:Option V),σ=[~~~la,~~~pa,some (.int m),~~~D,~~~fo,v5]/\zq H H'/\H' D=some (.lst ((nms rows).map V.str))/\H' fo=some (.lst (bars.map V.str))/\bars.Nodup/\(∀z∈bars,z∈zs.take i)/\(∀z∈bars,z∉nms rows)/\bars.length<=i)
  ⟨n,[],_,rfl,s12,nD,g2,nodup_nil,(fun _ h=>nomatch h),(fun _ h=>nomatch h),aF _⟩ (fun i σ H' _ ⟨_,_,_,_,sH,_⟩=>zf (sH _ _ hpa)) ?_ ?_⟩
 ·rintro i x σ H' hx ⟨m,bars,v5,rfl,sH,hD',hfo',bn,bz,bk,bl⟩
  obtain⟨z,hz,rfl⟩:=strs_at hx;have hi:i<zs.length:=(List.getElem?_eq_some_iff.mp hz).1;have ez:zs[i]=z:=(List.getElem?_eq_some_iff.mp hz).2;have tk:zs.take (i+1)=zs.take i++[z]:=by rw[take_succ_eq_append_getElem hi,ez]
  have zt:z∉zs.take i:=by
   have:=zn.sublist (take_sublist (i+1) zs)
   rw[tk] at this;exact fun h=>(List.nodup_append.mp this).2.2 z h z (List.mem_singleton.mpr rfl) rfl
  have skip:∃(m':Int) (bars:List Str) (v5:Option V),([~~~la,~~~pa,some (.int (m / 3)),~~~D,~~~fo,some (.str z)]:L2.St)=[~~~la,~~~pa,some (.int m'),~~~D,~~~fo,v5]/\zq H H'/\H' D=some (.lst ((nms rows).map V.str))/\H' fo=some (.lst (bars.map V.str))/\bars.Nodup/\(∀z∈bars,z∈zs.take (i+1))/\(∀z∈bars,z∉nms rows)/\bars.length<=i+1:=
   ⟨_,bars,_,rfl,sH,hD',hfo',bn,fun y hy=>by rw[tk];exact mem_append_left _ (bz y hy),bk,le_succ_of_le bl⟩
  exists _,rfl,_,rfl,D,_,rfl,.inl (zf hD'),rfl,yQ,_,rfl,?_;by_cases hk:z∈nms rows
  ·refine yZ (by rw[aK rfl,xp,aC hk];rfl) ?_
   refine yD ?_;exact⟨_,rfl,_,_,rfl,rfl,⟨⋯,⋯⟩,skip⟩
  refine xA (by rw[aK rfl,xp,aD hk];rfl) ?_
  exists _,rfl,_,_,rfl,rfl,zp3,rfl,_,rfl,?_;refine wQ (fun _=>?_) (fun _=>?_)
  ·exists _,rfl,.inl ⟨rfl,_,zf hfo'⟩,_,rfl,fo,_,_,rfl,rfl,hfo',zY (by rw[aA];omega),?_
   exists _,rfl,_,_,rfl,rfl,⟨⋯,⋯⟩,?_
   refine⟨_,bars++[z],_,rfl,fun b u e=>by rw[zi (zj e nfo)];exact sH _ _ e,by rw[zi neD];exact hD',by rw[za,aE];rfl,?_,?_,?_,by rw[aG];exact succ_le_succ bl⟩
   ·exact List.nodup_append.mpr ⟨bn,by simp,fun x hx y hy e=>zt (by rw[<- List.mem_singleton.mp hy,<- e];exact bz x hx)⟩
   ·rw[tk]
    intro y hy;rcases List.mem_append.mp hy with hy|hy
    ·exact mem_append_left _ (bz y hy)
    ·exact mem_append_right _ hy
   ·intro y hy
    rcases List.mem_append.mp hy with hy|hy
    ·exact bk y hy
    ·rw[List.mem_singleton.mp hy];exact hk
  ·exact⟨_,rfl,_,_,rfl,rfl,⟨⋯,⋯⟩,skip⟩
 ·rintro σ H' ⟨m,bars,v5,rfl,sH,hD',hfo',bn,bz,bk,bl⟩
  rw[aA] at bl;exact⟨_,rfl,q fo bars H' sH nfo hfo' bn (fun z hz=>mem_of_mem_take (bz z hz)) bk ∅⟩
variable {bars:List Str}
theorem zkv(e:rows=S.rows){i:Nat}(M:FM i S)(hPG:S.P.length+S.G.length<=22)(hz:∀z∈nms rows,z∈zs)(bd:bars.Nodup)(bz:∀z∈bars,z∈zs++yC)(bn:∀z∈bars,z∉nms rows):∃D:FD,rows=D.rows/\z6 zs D bars:=by
 have er:S.rows=FD.rows ⟨S.P,S.T,S.G,S.B⟩:=by unfold FS.rows FD.rows;simp
 have g0:∀r∈S.P,r.k=0\/r.k=1:=fun r hr=>by
  obtain⟨⟨h1,_⟩,h2⟩:=M.okP r hr;rcases lt5 h1 with e|e|e|e|e <;> rw[e] at h2 |- <;> first|(exact .inl rfl)|(exact .inr rfl)|(exact absurd h2 ⋯)
 have gk:∀{r:Rw}{g k:Nat},r.ok->grp r.k=g->(∀j,j<5->grp j=g->j=k)->r.k=k:=fun h1 h2 h3=>h3 _ h1.1 h2;have enm:nms S.rows=nms S.P++nms S.G:=by
  unfold FS.rows;rw[yv,yv,yv,ua M.okT rfl,ua M.okB rfl];simp
 rw[e,enm] at hz bn;exists ⟨S.P,S.T,S.G,S.B⟩,e.trans er,fun r hr=>⟨g0 r hr,(M.okP r hr).1.2⟩,fun r hr=>⟨gk (M.okT r hr).1 (M.okT r hr).2 ⋯,(M.okT r hr).1.2⟩,M.lT,fun r hr=>⟨gk (M.okG r hr).1 (M.okG r hr).2 ⋯,(M.okG r hr).1.2⟩,fun r hr=>⟨gk (M.okB r hr).1 (M.okB r hr).2 ⋯,(M.okB r hr).1.2⟩,M.lB,List.nodup_append.mpr ⟨M.nd,bd,fun a ha c hc e=>bn c hc (e ▸ ha)⟩,fun z hz'=>?_,hz,hPG
 rcases List.mem_append.mp hz' with h|h
 ·exact List.mem_append.mpr (.inl (hz z h))
 ·exact bz z h
inductive jT(c:C5)(CF:Addr)(vs:List V)(H:Hp)(Q:VK)(E:XK):Prop|mk(la lb:Addr)(rows:List Rw)(bars:List Str):vs=[.ref la,.ref lb]->xW H la rows->H lb=some (.lst (bars.map V.str))->jL rows bars->(∀(f:Addr) (H':Hp),zq H H'->xG c CF H' f rows bars->Q (.ref f) H')->jT c CF vs H Q E
theorem u7:([Str.ofString "_law_one"]:List Str).Nodup:=by decide +kernel
theorem ziX:zA ["_law_row_here","_law_bars_here"] ["_law_row_here","_law_bars_here"] (zh zg1):=fsc
theorem zhH(F:Fun K "_law_form" "_law_form" zg1 f fd)(hlst:mg "list"=none)(mCF:mg "Form"= ~~~CF)(MF:Mk K CF gF)(GF:↥3 gF eF ["self","parameters","bars"] (zmd c CF))(bF:yc K eF ["self","parameters","bars"] [])(cP:⇑5 "parameter_of" g1 e1 ["told"] (zke K c)):↥6 f fd ["_law_row_here","_law_bars_here"] (jT c CF):=by
 specialize ziX;obtain⟨la,lb,rows,bars,rfl,⟨us,hla,hu⟩,hlb,V1,q⟩:=h;have hr4:yk 4 _:=hr.mono ⋯
 have lu:us.length=rows.length:=hu.length;have l24:=V1.l24;have l60:=V1.l60;refine⟨_,zg (zB (zeF MF GF hr4 rfl mCF bF .nil yt (ac (yY [] ["_law_one"] [none] rfl ⟨rfl,rfl,rfl,rfl⟩ (zM (pv 0)) (zK 0) rfl rfl rfl
   (fun pins fp s H C=>⟨zo (i:=0) u7 rfl (Or.inl rfl) (.inr rfl),yV,cF cP hr (ac (pv 0) zc)⟩)) (ac (cTy y9 hlst PyProof.Rows.boot_list (ac (pv 1) zc)) zc)))),?_⟩
 exists _,rfl,la,rfl,⟨_,zf hla⟩,fun D hD=>?_;refine zeR (K:=K) (bs:=rows) (PAt c) PAt.same PAt.upd (zf hla) (by rw[aA,lu]) ∅ hD (fun i x r H' Qf Qs hx hr' sH qf=>?_) fun ps H1 s1 e1 p1=>?_
 ·obtain⟨u,hu',rfl⟩:=xt hx
  obtain⟨r2,hr2',tr⟩:=yw hu hu';rw[hr'] at hr2';cases hr2';have rk:=V1.ok r (aH hr');exact⟨fun _=>⟨_,rfl,u,r.k,.str r.z,r.b,rfl,rk.1,sH _ _ tr,.inl ⟨r.z,rfl,zcF rk.2⟩,rk.2,fun o dx H5 s5 ho=>qf o H5 s5 ⟨dx,ho⟩⟩,fun e=>Bool.noConfusion e⟩
 exists _,rfl,lb,_,rfl,.inl (zf (s1 _ _ hlb)),fun l2 hl2=>?_;have s2:=zd hl2 (.lst (bars.map V.str));have g2:upd H1 l2 (.lst (bars.map V.str)) l2=some (.lst (bars.map V.str)):=za;have e2:=s2 _ _ e1;have p2:=yM s2 p1;generalize upd H1 l2 (.lst (bars.map V.str))=H2 at s2 g2 e2 p2 |-;have s02:=s1.trans s2;intro x dx hx hdx hne;have smk:zq H2 (upd (upd H2 dx (.own x)) x (.ins CF dx [])):=xD hx hdx;have hx1:upd (upd H2 dx (.own x)) x (.ins CF dx []) x=some (.ins CF dx []):=za;generalize upd (upd H2 dx (.own x)) x (.ins CF dx [])=H5 at smk hx1 |-;exists x,D,dx,.ref l2,ps,rows,bars,rfl,hx1,smk _ _ e2,yM smk p2,.inr ⟨l2,rfl,smk _ _ g2⟩,V1,fun H6 sx F6 L6=>?_;exact⟨rfl,q x H6 (fun b' u e=>sx b' u (smk _ _ (s02 _ _ e)) (zj (s02 _ _ e) hx)) ⟨let ⟨dx,fs,lr,lb,ld,ps,h1,h2,h3,h4,h5,h6,_,_⟩:=F6;⟨dx,fs,lr,lb,ld,ps,h1,h2,h3,h4,h5,h6⟩,∅,∅,V1.ok⟩⟩
end
end K84
namespace L2
open PySem PySem.Spec PyProof.Rows
theorem wS.setOf{S:Str->Bool}{n:Nat}(hS:wS P w h a S n):h.SetOf (PySem.strKind P w) a S n:=by
 obtain⟨o,es,ep,t,h1,h2,h3,h4,h5,h6,h7,h8,_⟩:=hS;exact⟨o,es,ep,t,h1,h2,h3,h4,h5,h6,h7,h8⟩
theorem zlM{zs:List Str}(h:¬zs.Nodup):∃z∈zs,z∈zs.erase z:=by
 induction zs with
 | nil=>exact absurd nodup_nil h
 | cons x xs ih=>
  by_cases hx:x∈xs
  ·exact⟨x,mem_cons_self,by rw[List.erase_cons_head];exact hx⟩
  ·obtain⟨z,h1,h2⟩:=ih fun c=>h (List.nodup_cons.mpr ⟨hx,c⟩)
   exists z,mem_cons_of_mem _ h1,?_
   have:x≠z:=fun e=>hx (by rw[e];exact h1)
   rw[List.erase_cons_tail (by simpa using this)]
   exact mem_cons_of_mem _ h2
theorem zgB{P:Program}{w:World}{h:Heap}{a:Addr}{zs:List Str}{n:Nat}(hS:wS P w h a (fun z=>decide (z∈zs)) n)(hd:¬zs.Nodup):n<zs.length:=by
 obtain⟨z,h1,h2⟩:=zlM hd;have e:(fun y=>decide (y∈zs))=fun y=>decide (y∈zs.erase z):=funext fun y=>by
  refine decide_eq_decide.mpr ⟨fun hy=>?_,fun hy=>List.mem_of_mem_erase hy⟩;by_cases c:y=z
  ·rw[c];exact h2
  ·exact(List.mem_erase_of_ne c).mpr hy
 rw[e] at hS
 have:=zcf hS
 rw[List.length_erase_of_mem h1] at this
 have:=List.length_pos_of_mem h1
 omega
theorem zga:xq X (.builtin "len") (fun xs H Q=>∃(a:Addr) (zs:List Str) (n:Nat),xs=[.ref a]/\H a=some (uq X.prog X.w a (fun z=>decide (z∈zs)) n)/\((decide (n<zs.length)=!decide zs.Nodup)->Q (.int n) H)):=by
 intro pins s σ H xs us Q I r h;obtain⟨a,zs,n,rfl,e,q⟩:=h;obtain⟨u,rfl,ru⟩:=wt r;cases ru;have hS:wS X.prog X.w s.heap a (fun z=>decide (z∈zs)) n:=(I.hok a _ e).1;have hq:decide (n<zs.length)=!decide zs.Nodup:=by
  by_cases c:zs.Nodup
  ·rw[aC c,aD]
   ·rfl
   ·have:=zgD hS.setOf c
    omega
  ·rw[aD c,aC (zgB hS c)]
   rfl
 obtain⟨o,es,ep,t,ho,hx,hd,_,_,hb,hf,hn⟩:=hS.setOf;have h63:(es.size:Int)<2 ^ 63:=by
  have:scanBound<2 ^ 63:=by unfold scanBound;decide
  omega
 refine call_len_set ho hx hd hf h63 ?_;exact⟨.int es.size,H,I.tok _,⟨_,rfl⟩,by rw[hn];exact q hq⟩
end L2
namespace K84
open PySem L2 PyProof.Rows
theorem jV(h:r.k=0\/r.k=1\/r.k=3):atI (rv r) 2=some (.bl r.b):=by
 obtain⟨k,z,b⟩:=r;rcases h with e|e|e <;> (cases e;rfl)
theorem qX{k:Nat}(hk:k<5):∀{rows:List Rw},(∀r∈rows,r.ok)->decide (kw k∈rows.map fun r=>kw r.k)=jd rows k
 | [],_=>rfl
 | r::rows,h=>by
  have ih:=qX hk (rows:=rows) fun r hr=>h r (mem_cons_of_mem _ hr);have e:=uD k hk r.k (h r mem_cons_self).1;have e':decide (kw k=kw r.k)=(r.k==k):=by
   rw[<- e];by_cases z:kw k=kw r.k
   ·rw[aC z,z,aC rfl]
   ·rw[aD z,aD (fun c=>z (V.str.inj c).symm)]
  unfold jd at ih |-;rw[any_cons,<- ih,<- e',map_cons];by_cases a:kw k=kw r.k
  ·rw[a,aC mem_cons_self,aC rfl];rfl
  ·by_cases b:kw k∈rows.map fun r=>kw r.k
   ·rw[aC b,aC (mem_cons_of_mem _ b),Bool.or_true]
   ·rw[aD b,aD a,aD (fun c=>(List.mem_cons.mp c).elim a b)];rfl
structure znT(mg:Str->Option Value):Prop where
 len:mg "len"=none
 set:mg "set"=none
inductive zel(vs:List V)(H:Hp)(Q:VK)(E:XK):Prop|mk(la lb ln:Addr)(many:Nat)(rows:List Rw)(bars names:List Str):vs=[.ref la,.ref lb,.int many,.ref ln]->xW H la rows->(∀r∈rows,r.ok)->rows.length<=24->H lb=some (.lst (bars.map V.str))->H ln=some (.lst (names.map V.str))->names.length<=80->(∀H',zq H H'->Q (.bl (decide names.Nodup&&xC rows bars many names)) H')->zel vs H Q E
section
variable {mg:Str->Option Value}
theorem zdN{K:Frag}{la D:Addr}{us:List Addr}{rows:List Rw}{σ : L2.St}{H:Hp}{Q:VK}{z:Str}(k:Nat)(hk:k<5)(ez:kw k=z)(hla:H la=some (.lst (us.map V.ref)))(hu:Paired (TAt H) us rows)(hok:∀r∈rows,r.ok)(hl:rows.length<=24)(hD:H D=none)
  (q:∀H',zq H H'->H' D=some (.lst (((rows.filter fun r=>r.k==k).map (·.z)).map V.str))->Q (.ref D) H'):LCr (Itl K la) [none] (zJ 0) (zaB (tOp rEq (tOp (xc K) (zal 0) (tC (.int 0))) (tC (.str z)))) (tOp (xc K) (zal 0) (tC (.int 1))) σ H Q D:=by
 refine wg (K:=K) TAt (fun r=>r.k==k) (fun _ r=>.str r.z) hD hla hu ∅ (fun i u r H' N S hu' hr' tr sH n1 s1=>?_) (fun H1 s1 hD1=>q H1 s1 ?_)
 ·have rk:=hok r (aH hr')
  have tu:=sH _ _ tr;exists _,rfl,u,_,0,_,rfl,rfl,zy tu,xr rk,rfl,_,rfl,?_;rw[<- ez,uD k hk r.k rk.1];exact⟨fun e=>⟨_,rfl,u,_,1,_,rfl,rfl,zy tu,vY rk,n1 _ (zq.refl _) e⟩,fun e=>s1 _ (zq.refl _) e⟩
 ·rw[hD1,uK hu (fun r=>r.k==k) (fun r=>V.str r.z),map_map]
  rfl
theorem qQ{K:Frag}{la D:Addr}{us:List Addr}{rows:List Rw}{σ : L2.St}{H:Hp}{Q:VK}{z:Str}(k:Nat)(hk:k<5)(ez:kw k=z)(hla:H la=some (.lst (us.map V.ref)))(hu:Paired (TAt H) us rows)(hok:∀r∈rows,r.ok)(hl:rows.length<=24)(hD:H D=none)
  (q:∀H' vs,zq H H'->H' D=some (.lst (vs.map V.ref))->Paired (TAt H') vs (rows.filter fun r=>r.k==k)->Q (.ref D) H'):LCr (Itl K la) [none] (zJ 0) (zaB (tOp rEq (tOp (xc K) (zal 0) (tC (.int 0))) (tC (.str z)))) (zal 0) σ H Q D:=by
 refine wg (K:=K) TAt (fun r=>r.k==k) (fun u _=>.ref u) hD hla hu ∅ (fun i u r H' N S hu' hr' tr sH n1 s1=>?_) (fun H1 s1 hD1=>?_)
 ·have rk:=hok r (aH hr')
  have tu:=sH _ _ tr;exists _,rfl,u,_,0,_,rfl,rfl,zy tu,xr rk,rfl,_,rfl,?_;rw[<- ez,uD k hk r.k rk.1];exact⟨fun e=>⟨_,rfl,n1 _ (zq.refl _) e⟩,fun e=>s1 _ (zq.refl _) e⟩
 ·obtain⟨vs,ev,p⟩:=vU (zr s1 hu) fun r=>r.k==k
  exact q H1 vs s1 (by rw[hD1,ev]) p
theorem vn:zA ["_law_row_here","_law_bars_here","_law_many","_law_names","_law_one","_law_places","_law_sorts","_law_late","_law_gone","_law_name"] ["_law_row_here","_law_bars_here","_law_many","_law_names"] (zh zbx):=fsc
theorem zhv{P:Program}{w:World}{K:Frag}{base:Heap}{f:Addr}{fd:FuncData}(F:Fun K "_law_takes" "_law_takes" zbx f fd)(U:znT mg):↥1 f fd ["_law_row_here","_law_bars_here","_law_many","_law_names"] zel:=by
 specialize vn;obtain⟨la,lb,ln,many,rows,bars,names,rfl,⟨us,hla,hu⟩,hok,l24,hlb,hln,l30,q⟩:=h;refine zp (wD (i:=5) [] ["_law_one"] [none] vn.nd rfl (Or.inl rfl) rfl ⟨rfl,rfl,rfl,rfl⟩ (zM (pv 0)) (zK 0) rfl rfl rfl
   (fun pins fp s H C=>⟨zo (i:=0) u7 rfl (Or.inl rfl) (.inr rfl),yg (zm (r:=rIn K false) yi (zC (r:=xc K) zG (pv 0) ze (fun _ _=>rfl)) (zT (ac zH (ac zH zc))) (by with_unfolding_all rfl)),pv 0⟩)) ?_
 exists _,rfl,la,rfl,⟨_,zf hla⟩,fun D5 hD5=>?_;refine wg (K:=K) TAt (fun r=>wp r.k) (fun u _=>.ref u) hD5 hla hu ∅ (fun i u r H' N S hu' hr' tr sH n1 s1=>?_) (fun H1 s1 e1=>?_)
 ·have rk:=hok r (aH hr')
  have tu:=sH _ _ tr;exists _,rfl,u,_,0,_,rfl,rfl,zy tu,xr rk,yG,fun l hl=>?_;have s2:=zd hl (.lst [.str "seat",.str "both"]);exists l,_,rfl,.inl (zf za),rfl,rfl,_,rfl,?_;rw[aJ zft,zdV rk.1];exact⟨fun e=>⟨_,rfl,n1 _ s2 e⟩,fun e=>s1 _ s2 e⟩
 obtain⟨vs,ev,p1⟩:=vU (zr s1 hu) fun r=>wp r.k;rw[ev] at e1;have p1:Paired (TAt H1) vs (xR rows):=p1;have okp:∀r∈xR rows,r.ok/\(r.k=0\/r.k=1):=fun r hr=>by
  obtain⟨a,b⟩:=List.mem_filter.mp hr;exists hok r a,?_;unfold wp at b;rcases Bool.or_eq_true_iff.mp b with h|h
  ·exact .inl (by simpa using h)
  ·exact .inr (by simpa using h)
 have lp:(xR rows).length<=24:=Nat.le_trans (length_filter_le _ _) l24;have lv:vs.length=(xR rows).length:=p1.length;clear ev;dsimp only[zJ];refine zp (wD (i:=6) [] ["_law_one"] [none] vn.nd rfl (Or.inl rfl) rfl ⟨rfl,rfl,rfl,rfl⟩ (zM (pv 0)) (zK 0) rfl rfl rfl
   (fun pins fp s H C=>⟨zo (i:=0) u7 rfl (Or.inl rfl) (.inr rfl),yV,zC (r:=xc K) zG (pv 0) ze (fun _ _=>rfl)⟩)) ?_
 exists _,rfl,la,rfl,⟨_,zf (s1 _ _ hla)⟩,fun D6 hD6=>?_;refine wg (K:=K) TAt (fun _=>true) (fun _ r=>.str (kw r.k)) hD6 (s1 _ _ hla) (zr s1 hu) ∅ (fun i u r H' N S hu' hr' tr sH n1 s1=>?_) (fun H2 s2 e2=>?_)
 ·exact⟨fun _=>⟨_,rfl,u,_,0,_,rfl,rfl,zy (sH _ _ tr),xr (hok r (aH hr')),n1 _ (zq.refl _) rfl⟩,fun e=>Bool.noConfusion e⟩
 rw[uK hu (fun _=>true) (fun r=>V.str (kw r.k)),List.filter_eq_self.mpr (fun _ _=>rfl),show rows.map (fun r=>V.str (kw r.k))=(rows.map fun r=>kw r.k).map V.str by rw[map_map];rfl] at e2
 have s12:=s1.trans s2;have e1:=s2 _ _ e1;have p1:=zr s2 p1;dsimp only[zJ];refine zp (zS (yS (vK (zm vL (cB zga U.len PySem.boot_len (ac (cTy (ui rfl) U.set PyProof.Rows.boot_set (ac (pv 3) zc)) zc)) (cB zE U.len PySem.boot_len (ac (pv 3) zc)) (zF _))
    (vo (yS (yO (zm zeK (pv 2) (cB zE U.len PySem.boot_len (ac (pv 5) zc)) (zF _)) (yB (zm yI zH (pv 6) (by with_unfolding_all rfl)))))))) (zg (zB x6)) zD) ?_
 refine yo (fun σ' H'=>σ'=[~~~la,~~~lb,some (.int many),~~~ln,none,~~~D5,~~~D6,none,none,none]/\zq H2 H'/\(!(decide (plN rows<many)&&!jd rows 2))=true/\names.Nodup) ?_ (fun key=>?_);rotate_left
 ·exists _,rfl,ln,_,rfl,zf (s12 _ _ hln),∅,fun l4 n4 hl4=>?_
  have s4:=zd hl4 (uq P w l4 (fun z=>decide (z∈names)) n4);exists l4,names,n4,rfl,za,fun hq=>?_;exists _,rfl,ln,_,rfl,.inl (zf ((s12.trans s4) _ _ hln)),_,_,rfl,rfl,_,rfl,?_;have eq':decide (((n4:Nat):Int)<(((names.map V.str).length:Nat):Int))=!decide names.Nodup:=by
   rw[<- hq,aA];exact decide_eq_decide.mpr Int.ofNat_lt
  by_cases nd:names.Nodup
  rotate_left
  ·refine xA (by rw[eq',aD nd];rfl) ?_
   refine xO ?_
   have:=q _ (s12.trans s4)
   rw[aD nd] at this;exact this
  refine yZ (by rw[eq',aC nd];rfl) ?_
  exists _,rfl,_,rfl,D5,_,rfl,.inl (zf (s4 _ _ e1)),_,_,rfl,rfl,_,rfl,?_;have el:(vs.map V.ref).length=plN rows:=by rw[aA,lv];rfl
  by_cases hm:plN rows<many
  ·refine xA (aC (by rw[el];omega)) ?_
   exists _,rfl,D6,_,rfl,.inl (zf (s4 _ _ e2)),rfl,yQ,_,rfl,?_;rw[aK rfl,xp,show decide (Str.ofString "tail"∈rows.map fun r=>kw r.k)=jd rows 2 from qX (k:=2) ⋯ hok]
   cases h2:jd rows 2 with
   | true=>
    refine yD ?_;exact key _ _ ⟨rfl,s4,by rw[h2];cases decide (plN rows<many) <;> rfl,nd⟩
   | false=>
    refine xO ?_
    have:=q _ (s12.trans s4)
    rw[show xC rows bars many names=false by unfold xC;rw[aC hm,h2];rfl,Bool.and_false] at this
    exact this
  ·refine yZ (aD (by rw[el];omega)) ?_
   refine yD ?_;exact key _ _ ⟨rfl,s4,by rw[aD hm];rfl,nd⟩
 rintro σ3 H3 ⟨rfl,s3,first,nd⟩
 rw[aC nd] at q;simp only[Bool.true_and] at q;have s13:=s12.trans s3;have e1:=s3 _ _ e1;have e2:=s3 _ _ e2;have p1:=zr s3 p1;have hu3:=zr s13 hu;have okd:∀r∈(xR rows).drop many,r.ok:=fun r hr=>(okp r (mem_of_mem_drop hr)).1;have okt:∀r∈(xR rows).take many,r.ok:=fun r hr=>(okp r (mem_of_mem_take hr)).1;have ld:((xR rows).drop many).length<=24:=by rw[length_drop];omega
 have lt:((xR rows).take many).length<=24:=by rw[length_take];omega
 refine vn[7]'(zk yA (yY [] ["_law_one"] [none] rfl ⟨rfl,rfl,rfl,rfl⟩ (zM (yj yX (pv 5) (yp (pv 2)) yR)) (zK 0) rfl rfl rfl
   (fun pins fp s H C=>⟨zo (i:=0) u7 rfl (Or.inl rfl) (.inr rfl),yg (zm ym (zC (r:=xc K) zG (pv 0) ze (fun _ _=>rfl)) zH (zF _)),zC (r:=xc K) zG (pv 0) ze (fun _ _=>rfl)⟩))
   (yY [] ["_law_one"] [none] rfl ⟨rfl,rfl,rfl,rfl⟩ (zM (pv 0)) (zK 0) rfl rfl rfl
   (fun pins fp s H C=>⟨zo (i:=0) u7 rfl (Or.inl rfl) (.inr rfl),yg (zm ym (zC (r:=xc K) zG (pv 0) ze (fun _ _=>rfl)) zH (zF _)),zC (r:=xc K) zG (pv 0) ze (fun _ _=>rfl)⟩)))
 exists _,rfl,_,rfl,_,rfl,D5,_,rfl,zf e1,fun l4 hl4=>?_;rw[show xJ (vs.map V.ref) (some (many:Int)) none=(vs.drop many).map V.ref from xV.trans (map_drop ..).symm]
 injections l4 hl4 H4 s4 g4
 exists l4,rfl,⟨_,zf g4⟩,fun Da hDa=>?_;refine zdN 1 ⋯ rfl g4 (wy (zr s4 p1) many) okd ld hDa (fun H5 s5 ea=>?_)
 have s15:=s13.trans (s4.trans s5);exists _,rfl,la,rfl,⟨_,zf (s15 _ _ hla)⟩,fun Db hDb=>?_;refine zdN 3 ⋯ rfl (s15 _ _ hla) (zr s15 hu) hok l24 hDb (fun H6 s6 eb=>?_)
 exists Da,Db,_,_,rfl,rfl,s6 _ _ ea,eb,z9 (by have h1:=length_filter_le (fun r:Rw=>r.k==1) ((xR rows).drop many);have h2:=length_filter_le (fun r:Rw=>r.k==3) rows;simp only[aA];omega),fun D7 hD7=>?_
 rw[<- aE];have s7:=zd hD7 (.lst ((wH rows many).map V.str));have g7:upd H6 D7 (.lst ((wH rows many).map V.str)) D7=some (.lst ((wH rows many).map V.str)):=za;change zc4 _ _ _ _ (upd H6 D7 (.lst ((wH rows many).map V.str)));generalize upd H6 D7 (.lst ((wH rows many).map V.str))=H7 at s7 g7 |-;have s37:=s4.trans (s5.trans (s6.trans s7));have s17:=s13.trans s37;have e1:=s37 _ _ e1;have e2:=s37 _ _ e2;have p1:=zr s37 p1;refine zp (wD (i:=8) [] ["_law_one"] [none] vn.nd rfl (Or.inl rfl) rfl ⟨rfl,rfl,rfl,rfl⟩ (zM (yj yX (pv 5) yR (yp (pv 2)))) (zK 0) rfl rfl rfl
   (fun pins fp s H C=>⟨zo (i:=0) u7 rfl (Or.inl rfl) (.inr rfl),yg (zm ym (zC (r:=xc K) zG (pv 0) ze (fun _ _=>rfl)) zH (zF _)),zC (r:=xc K) zG (pv 0) ze (fun _ _=>rfl)⟩)) ?_
 exists _,rfl,_,rfl,_,rfl,D5,_,rfl,zf e1,fun l8 hl8=>?_;rw[show xJ (vs.map V.ref) none (some (many:Int))=(vs.take many).map V.ref from vi.trans (map_take ..).symm]
 injections l8 hl8 H8 s8 g8
 exists l8,rfl,⟨_,zf g8⟩,fun D8 hD8=>?_;refine zdN 1 ⋯ rfl g8 (uB (zr s8 p1) many) okt lt hD8 (fun H9 s9 e8=>?_)
 have e8:H9 D8=some (.lst ((je rows many).map V.str)):=e8;have s79:=s8.trans s9;have s19:=s17.trans s79;have e1:=s79 _ _ e1;have e2:=s79 _ _ e2;have g7:=s79 _ _ g7;have p1:=zr s79 p1;clear s37 s17 s79 s8 s9 g8 hl8 hD8 s13 s12 s15 eb ea s4 s5 s6 s7 g4;dsimp only[zJ];have eT:xC rows bars many names=((!(decide (plN rows<many)&&!jd rows 2))&&names.all (fun z=>!jP rows bars many z)&&((xR rows).drop many++tgs rows).all fun r=>!uI names r):=rfl;rw[first,Bool.true_and] at eT
 have eB:∀z,jP rows bars many z=(decide (z∈bars)||decide (z∈je rows many)||(decide (z∉wH rows many)&&!jd rows 4)):=fun _=>rfl
 refine zp (yU PassesOwn.never rfl (zM (pv 3)) (zo (i:=9) vn.nd rfl (Or.inl rfl))
   (zg (zS (yS (vK (zm yi (pv 9) (pv 1) (by with_unfolding_all rfl)) (vK (zm yi (pv 9) (pv 8) (by with_unfolding_all rfl)) (vo (yS (yO (zm yI (pv 9) (pv 7) (by with_unfolding_all rfl)) (yB (zm yI zH (pv 6) (by with_unfolding_all rfl))))))))) (zg (zB x6)) zD))) ?_
 have hln9:=s19 _ _ hln;have hlb9:=s19 _ _ hlb;exists _,rfl,ln,rfl,⟨_,zf hln9⟩,xf (K:=K) (a:=ln) (xs:=names.map V.str) (fun i σ H'=>∃v9,σ=[~~~la,~~~lb,some (.int many),~~~ln,none,~~~D5,~~~D6,~~~D7,~~~D8,v9]/\H'=H9/\(names.take i).all (fun z=>!jP rows bars many z)=true) ⟨_,rfl,rfl,rfl⟩ (fun i σ H' _ ⟨_,_,e,_⟩=>by rw[e];exact zf hln9) ?_ ?_
 ·rintro i x σ H' hx ⟨v9,rfl,rfl,ha⟩
  obtain⟨z,hz,rfl⟩:=strs_at hx;have hi:i<names.length:=(List.getElem?_eq_some_iff.mp hz).1;have ez:names[i]=z:=(List.getElem?_eq_some_iff.mp hz).2;have bad:jP rows bars many z=true->Q (.bl false) H':=fun hb=>by
   have:=q H' s19
   rw[eT,show names.all (fun z=>!jP rows bars many z)=false from List.all_eq_false.mpr ⟨z,aH hz,by rw[hb];decide⟩] at this
   exact this
  have good:jP rows bars many z=false->(names.take (i+1)).all (fun z=>!jP rows bars many z)=true:=fun hb=>by
   rw[take_succ_eq_append_getElem hi,ez,List.all_append,ha,all_cons,hb];rfl
  rw[eB] at bad good;exists _,rfl,_,rfl,lb,_,rfl,.inl (zf hlb9),rfl,yQ,_,rfl,?_;rw[aJ zft,xp];cases h1:decide (z∈bars) with
  | true=>
   rw[h1] at bad;refine xO ?_;refine xO ?_;exact bad rfl
  | false=>
  rw[h1,Bool.false_or] at bad good;refine yD ?_;exists _,rfl,_,rfl,D8,_,rfl,.inl (zf e8),rfl,yQ,_,rfl,?_;rw[aJ zft,xp];cases h2:decide (z∈je rows many) with
  | true=>
   rw[h2] at bad;refine xO ?_;refine xO ?_;exact bad rfl
  | false=>
  rw[h2,Bool.false_or] at bad good;refine yD ?_;exists _,rfl,_,rfl,D7,_,rfl,.inl (zf g7),rfl,yQ,_,rfl,?_;rw[aK rfl,xp];by_cases h3:z∈wH rows many
  ·rw[aC h3]
   rw[aD (not_not_intro h3)] at good;refine yD ?_;refine yD ?_;exact⟨_,rfl,rfl,good rfl⟩
  ·rw[aD h3]
   rw[aC h3,Bool.true_and] at good bad;refine xO ?_;exists _,rfl,D6,_,rfl,.inl (zf e2),rfl,yQ,_,rfl,?_;rw[aK rfl,xp,show decide (Str.ofString "bag"∈rows.map fun r=>kw r.k)=jd rows 4 from qX (k:=4) ⋯ hok]
   cases h4:jd rows 4 with
   | true=>
    rw[h4] at good;refine yD ?_;exact⟨_,rfl,rfl,good rfl⟩
   | false=>
    rw[h4] at bad;refine xO ?_;exact bad rfl
 rintro σ H' ⟨v9,rfl,rfl,ha⟩;rw[aA,take_length] at ha;rw[ha,Bool.true_and] at eT;refine zp (yU PassesOwn.never rfl (zM (zk yA (yj yX (pv 5) (yp (pv 2)) yR) (yY [] ["_law_one"] [none] rfl ⟨rfl,rfl,rfl,rfl⟩ (zM (pv 0)) (zK 0) rfl rfl rfl
   (fun pins fp s H C=>⟨zo (i:=0) u7 rfl (Or.inl rfl) (.inr rfl),yg (zm ym (zC (r:=xc K) zG (pv 0) ze (fun _ _=>rfl)) zH (zF _)),pv 0⟩)))) (zo (i:=4) vn.nd rfl (Or.inl rfl))
   (zg (zS (yS (yO (xx (yz (zC (r:=xc K) zG (pv 4) ze (fun _ _=>rfl)))) (yB (yS (vK (zm ym (zC (r:=xc K) zG (pv 4) ze (fun _ _=>rfl)) zH (zF _)) (vo (zm yI (zC (r:=xc K) zG (pv 4) ze (fun _ _=>rfl)) (pv 3) (by with_unfolding_all rfl)))))))) (zg (zB x6)) zD))) ?_
 exists _,rfl,_,rfl,_,rfl,D5,_,rfl,zf e1,fun l4 hl4=>?_;rw[show xJ (vs.map V.ref) (some (many:Int)) none=(vs.drop many).map V.ref from xV.trans (map_drop ..).symm];have s4:=zd hl4 (.lst ((vs.drop many).map V.ref));have g4:upd H' l4 (.lst ((vs.drop many).map V.ref)) l4=some (.lst ((vs.drop many).map V.ref)):=za;have p4:=wy (zr s4 p1) many;generalize upd H' l4 (.lst ((vs.drop many).map V.ref))=H4 at s4 g4 p4 |-;have s14:=s19.trans s4;exists _,rfl,la,rfl,⟨_,zf (s14 _ _ hla)⟩,fun Db hDb=>?_;refine qQ 3 ⋯ rfl (s14 _ _ hla) (zr s14 hu) hok l24 hDb (fun H6 ts s6 eb pb=>?_)
 have lts:ts.length<=24:=by rw[pb.length];exact Nat.le_trans (length_filter_le _ _) l24
 exists l4,Db,_,_,rfl,rfl,s6 _ _ g4,eb,z9 (by rw[aA,aA,length_drop];omega),fun D9 hD9=>?_
 rw[<- aE];have s7:=zd hD9 (.lst ((vs.drop many++ts).map V.ref));have g9:upd H6 D9 (.lst ((vs.drop many++ts).map V.ref)) D9=some (.lst ((vs.drop many++ts).map V.ref)):=za;have pA:=zr s7 (yu (zr s6 p4) pb);generalize upd H6 D9 (.lst ((vs.drop many++ts).map V.ref))=H7 at s7 g9 pA |-;have s17:=s14.trans (s6.trans s7);have pA:Paired (TAt H7) (vs.drop many++ts) ((xR rows).drop many++tgs rows):=pA;have kA:∀r∈(xR rows).drop many++tgs rows,r.ok/\(r.k=0\/r.k=1\/r.k=3):=fun r hr=>by
  rcases List.mem_append.mp hr with h|h
  ·obtain⟨a,b⟩:=okp r (mem_of_mem_drop h)
   exact⟨a,b.elim .inl fun e=>.inr (.inl e)⟩
  ·obtain⟨a,b⟩:=List.mem_filter.mp h
   exact⟨hok r a,.inr (.inr (by simpa using b))⟩
 have hln7:=s17 _ _ hln;generalize vs.drop many++ts=us2 at g9 pA;generalize (xR rows).drop many++tgs rows=rs at pA kA eT;exists D9,rfl,⟨_,zf g9⟩,xf (K:=K) (a:=D9) (xs:=us2.map V.ref) (fun i σ H'=>∃v4,σ=[~~~la,~~~lb,some (.int many),~~~ln,v4,~~~D5,~~~D6,~~~D7,~~~D8,v9]/\H'=H7/\(rs.take i).all (fun r=>!uI names r)=true) ⟨_,rfl,rfl,rfl⟩ (fun i σ H' _ ⟨_,_,e,_⟩=>by rw[e];exact zf g9) ?_ ?_
 ·rintro i x σ H' hx ⟨v4,rfl,rfl,ha⟩
  obtain⟨u,hu',rfl⟩:=xt hx;obtain⟨r,hr',tr⟩:=yw pA hu';obtain⟨rk,k3⟩:=kA r (aH hr');have hi:i<rs.length:=(List.getElem?_eq_some_iff.mp hr').1;have ez:rs[i]=r:=(List.getElem?_eq_some_iff.mp hr').2;have eR:uI names r=(!r.b&&(r.k==0||decide (r.z∉names))):=rfl
  have bad:uI names r=true->Q (.bl false) H':=fun hb=>by
   have:=q H' s17
   rw[eT,show rs.all (fun r=>!uI names r)=false from List.all_eq_false.mpr ⟨r,aH hr',by rw[hb];decide⟩] at this
   exact this
  have good:uI names r=false->(rs.take (i+1)).all (fun r=>!uI names r)=true:=fun hb=>by
   rw[take_succ_eq_append_getElem hi,ez,List.all_append,ha,all_cons,hb];rfl
  rw[eR] at bad good;exists _,rfl,u,_,2,_,rfl,rfl,zy tr,jV k3,_,rfl,?_;cases hb:r.b with
  | true=>
   rw[hb] at good;refine yD ?_;refine yD ?_;exact⟨_,rfl,rfl,good rfl⟩
  | false=>
  rw[hb] at good bad;refine xO ?_;exists _,rfl,u,_,0,_,rfl,rfl,zy tr,xr rk,rfl,_,rfl,?_;rw[show decide (V.str (kw r.k)=V.str (Str.ofString "seat"))=(r.k==0) from uD 0 ⋯ r.k rk.1]
  cases h0:(r.k==0) with
  | true=>
   rw[h0] at bad;refine xO ?_;refine xO ?_;exact bad rfl
  | false=>
  rw[h0] at good bad;refine yD ?_;exists _,rfl,u,_,1,_,rfl,rfl,zy tr,vY rk,_,rfl,ln,_,rfl,.inl (zf hln7),rfl,yQ,_,rfl,?_;rw[aK rfl,xp];by_cases hn:r.z∈names
  ·rw[aC hn]
   refine yD ?_;exact⟨_,rfl,rfl,good (by rw[aD (not_not_intro hn)];rfl)⟩
  ·rw[aD hn]
   refine xO ?_;exact bad (by rw[aC hn];rfl)
 rintro σ H' ⟨v4,rfl,rfl,ha2⟩;rw[aA,pA.length,take_length] at ha2;rw[ha2] at eT;rw[eT] at q;exact⟨_,zg (zB x6),q _ s17⟩
abbrev strange:Str:=Str.ofString "strange"
theorem zhn{α β : Type}{R : α->β->Prop}{a:List α}{c:List β}(h:Paired R a c):∀i,Paired R (a.eraseIdx i) (c.eraseIdx i):=by
 induction h with
 | nil=>intro i;exact .nil
 | cons r t ih=>
  intro i;cases i with
  | zero=>exact t
  | succ i=>exact .cons r (ih i)
theorem zaM{α β : Type}{R : α->β->Prop}{a:List α}{c:List β}{x : α}{y : β}(h:Paired R a c)(q:R x y):∀i,Paired R (a.set i x) (c.set i y):=by
 induction h with
 | nil=>intro i;exact .nil
 | cons r t ih=>
  intro i;cases i with
  | zero=>exact .cons q t
  | succ i=>exact .cons r (ih i)
theorem jr{α β : Type}{R : α->β->Prop}{a:List α}{c:List β}(h:Paired R a c):Paired R a.reverse c.reverse:=by
 induction h with
 | nil=>exact .nil
 | cons r _ ih=>rw[reverse_cons,reverse_cons];exact Paired.snoc ih r
def repl(l:List Rw)(i:Nat)(rs:List Rw):List Rw:=l.take i++(rs++l.drop (i+1))
theorem zi5{i:Nat}:l.eraseIdx i=repl l i []:=by unfold repl;rw[nil_append];exact List.eraseIdx_eq_take_drop_succ ..
theorem zcm{i:Nat}(h:i<l.length):l.set i r=repl l i [r]:=by unfold repl;rw[List.set_eq_take_append_cons_drop,aK h];rfl
theorem jo{i:Nat}(h:i<l.length):repl (l++m) i rs=repl l i rs++m:=by
 unfold repl;rw[List.take_append_of_le_length ∅,List.drop_append_of_le_length ∅]
 simp
theorem uA{i:Nat}(h:¬i<l.length):repl (l++m) i rs=l++repl m (i - l.length) rs:=by
 unfold repl;rw[List.take_append,List.drop_append,take_of_length_le ∅,drop_of_length_le ∅,show i+1 - l.length=i - l.length+1 by omega]
 simp
structure Rp(r:Rw)(rs:List Rw):Prop where
 len:rs.length<=1
 ok:∀r'∈rs,zU r'.z=true/\((r.k=0\/r.k=1)->r'.k=0\/r'.k=1)/\(r.k=2->r'.k=2)/\(r.k=3->r'.k=3)/\(r.k=4->r'.k=4)
 sub:(nms rs).Sublist (nms [r])
theorem uW{i:Nat}(h:r∈repl l i rs):r∈l\/r∈rs:=by
 unfold repl at h;rcases List.mem_append.mp h with h|h
 ·exact .inl (mem_of_mem_take h)
 ·rcases List.mem_append.mp h with h|h
  ·exact .inr h
  ·exact .inl (mem_of_mem_drop h)
theorem zi6{i:Nat}(h:l[i]?=some r):repl l i [r]=l:=by
 unfold repl;show l.take i++(r::l.drop (i+1))=l;rw[<- zbT h,take_append_drop]
theorem uX{i:Nat}(h:i<l.length)(hr:rs.length<=1):(repl l i rs).length<=l.length:=by
 unfold repl;rw[aG,aG,length_take,length_drop];omega
theorem zcn{i:Nat}(h:l[i]?=some r)(hr:Rp r rs):(nms (repl l i rs)).Sublist (nms l):=by
 have e:nms l=nms (l.take i)++(nms [r]++nms (l.drop (i+1))):=by
  rw[<- yv,<- yv];exact congrArg nms (zi6 h).symm
 rw[e];unfold repl;rw[yv,yv];exact(List.Sublist.refl _).append (hr.sub.append (List.Sublist.refl _))
theorem z6.sub(h:z6 zs D bars)(p:∀r∈D'.P,(r.k=0\/r.k=1)/\zU r.z=true)(t:∀r∈D'.T,r.k=2/\zU r.z=true)(lt:D'.T.length<=1)(g:∀r∈D'.G,r.k=3/\zU r.z=true)(b:∀r∈D'.B,r.k=4/\zU r.z=true)(lb:D'.B.length<=1)
  (sP:(nms D'.P).Sublist (nms D.P)) (sG:(nms D'.G).Sublist (nms D.G)) (sB:bars'.Sublist bars) (lP:D'.P.length<=D.P.length) (lG:D'.G.length<=D.G.length):z6 zs D' bars':=by
 have s:(nms D'.P++nms D'.G++bars').Sublist (nms D.P++nms D.G++bars):=(sP.append sG).append sB;exact⟨p,t,lt,g,b,lb,s.nodup h.nd,fun z hz=>h.zn z (s.subset hz),fun z hz=>h.dz z ((sP.append sG).subset hz),by have:=h.ln;omega⟩
theorem zbS(h:z6 zs D bars){i:Nat}(hi:D.rows[i]?=some r)(hr:Rp r rs):∃D',repl D.rows i rs=FD.rows D'/\z6 zs D' bars:=by
 have rf:∀{l:List Str},l.Sublist l:=List.Sublist.refl _;have il:i<D.rows.length:=(List.getElem?_eq_some_iff.mp hi).1;unfold FD.rows at hi il |-;by_cases c1:i<D.P.length
 ·rw[getElem?_append_left c1] at hi
  have kr:=(h.p r (aH hi)).1;exists ⟨repl D.P i rs,D.T,D.G,D.B⟩,jo c1,h.sub (fun x hx=>?_) h.t h.lt h.g h.b h.lb (zcn hi hr) rf rf (uX c1 hr.len) (aF _);rcases uW hx with hx|hx
  ·exact h.p x hx
  ·obtain⟨a,b,_⟩:=hr.ok x hx;exact⟨b kr,a⟩
 rw[getElem?_append_right ∅] at hi
 rw[uA c1];rw[aG] at il;by_cases c2:i - D.P.length<D.T.length
 ·rw[getElem?_append_left c2] at hi
  have kr:=(h.t r (aH hi)).1;exists ⟨D.P,repl D.T (i - D.P.length) rs,D.G,D.B⟩,by rw[jo c2],h.sub h.p (fun x hx=>?_) (Nat.le_trans (uX c2 hr.len) h.lt) h.g h.b h.lb rf rf rf (aF _) (aF _)
  rcases uW hx with hx|hx
  ·exact h.t x hx
  ·obtain⟨a,_,b,_⟩:=hr.ok x hx;exact⟨b kr,a⟩
 rw[getElem?_append_right ∅] at hi
 rw[uA c2];rw[aG] at il;by_cases c3:i - D.P.length - D.T.length<D.G.length
 ·rw[getElem?_append_left c3] at hi
  have kr:=(h.g r (aH hi)).1;exists ⟨D.P,D.T,repl D.G (i - D.P.length - D.T.length) rs,D.B⟩,by rw[jo c3],h.sub h.p h.t h.lt (fun x hx=>?_) h.b h.lb rf (zcn hi hr) rf (aF _) (uX c3 hr.len)
  rcases uW hx with hx|hx
  ·exact h.g x hx
  ·obtain⟨a,_,_,b,_⟩:=hr.ok x hx;exact⟨b kr,a⟩
 rw[getElem?_append_right ∅] at hi
 rw[uA c3];have kr:=(h.b r (aH hi)).1;have c4:=(List.getElem?_eq_some_iff.mp hi).1;exists ⟨D.P,D.T,D.G,repl D.B (i - D.P.length - D.T.length - D.G.length) rs⟩,rfl,h.sub h.p h.t h.lt h.g (fun x hx=>?_) (Nat.le_trans (uX c4 hr.len) h.lb) rf rf rf (aF _) (aF _);rcases uW hx with hx|hx
 ·exact h.b x hx
 ·obtain⟨a,_,_,_,b⟩:=hr.ok x hx;exact⟨b kr,a⟩
def rl(z:Str)(r:Rw):Rw:=if r.k=1\/r.k=3 then r else ⟨r.k,z,r.b⟩
theorem zg8:(rl z r).k=r.k:=by unfold rl;split <;> rfl
theorem zi4(h:zU r.z=true)(hz:zU z=true):zU (rl z r).z=true:=by unfold rl;split <;> assumption
theorem zdt{z:Str}:∀(l:List Rw),nms (l.map (rl z))=nms l
 | []=>rfl
 | r::l=>by
  have ih:=zdt (z:=z) l;unfold nms at ih |-;rw[map_cons,filter_cons,filter_cons,zg8];cases e:yn r.k with
  | false=>rw[aJ zft,aJ zft,ih]
  | true=>
   rw[aK rfl,aK rfl,map_cons,map_cons,ih]
   have:rl z r=r:=by
    unfold rl;rw[aK];unfold yn at e;rcases Bool.or_eq_true_iff.mp e with h|h
    ·exact .inl (by simpa using h)
    ·exact .inr (by simpa using h)
   rw[this]
theorem zmO(h:z6 zs D bars)(hz:zU z=true):D.rows.map (rl z)=FD.rows ⟨D.P.map (rl z),D.T.map (rl z),D.G.map (rl z),D.B.map (rl z)⟩/\z6 zs ⟨D.P.map (rl z),D.T.map (rl z),D.G.map (rl z),D.B.map (rl z)⟩ bars:=by
 constructor
 ·unfold FD.rows;rw[aE,aE,aE]
 ·refine h.sub (fun r hr=>?_) (fun r hr=>?_) (by show(D.T.map _).length<=1;rw[aA];exact h.lt) (fun r hr=>?_) (fun r hr=>?_) (by show(D.B.map _).length<=1;rw[aA];exact h.lb) (by show(nms (D.P.map _)).Sublist _;rw[zdt];exact List.Sublist.refl _) (by show(nms (D.G.map _)).Sublist _;rw[zdt];exact List.Sublist.refl _) (List.Sublist.refl _) (by show(D.P.map _).length<=_;rw[aA];exact aF _) (by show(D.G.map _).length<=_;rw[aA];exact aF _)
  ·obtain⟨x,hx,rfl⟩:=List.mem_map.mp hr;obtain⟨a,b⟩:=h.p x hx;rw[zg8];exact⟨a,zi4 b hz⟩
  ·obtain⟨x,hx,rfl⟩:=List.mem_map.mp hr;obtain⟨a,b⟩:=h.t x hx;rw[zg8];exact⟨a,zi4 b hz⟩
  ·obtain⟨x,hx,rfl⟩:=List.mem_map.mp hr;obtain⟨a,b⟩:=h.g x hx;rw[zg8];exact⟨a,zi4 b hz⟩
  ·obtain⟨x,hx,rfl⟩:=List.mem_map.mp hr;obtain⟨a,b⟩:=h.b x hx;rw[zg8];exact⟨a,zi4 b hz⟩
theorem zeO(l:List Rw):nms l.reverse=(nms l).reverse:=by unfold nms;rw[List.filter_reverse,map_reverse]
theorem zlL(h:z6 zs D bars):z6 zs ⟨D.P,D.T,D.G.reverse,D.B⟩ bars.reverse:=by
 have pm:(nms D.P++nms D.G.reverse++bars.reverse).Perm (nms D.P++nms D.G++bars):=by
  rw[zeO];exact((List.Perm.refl _).append (reverse_perm _)).append (reverse_perm _)
 exact⟨h.p,h.t,h.lt,fun r hr=>h.g r (List.mem_reverse.mp hr),h.b,h.lb,pm.nodup_iff.mpr h.nd,fun z hz=>h.zn z (pm.mem_iff.mp hz),fun z hz=>h.dz z (by rw[zeO] at hz;exact((List.Perm.refl (nms D.P)).append (reverse_perm (nms D.G))).mem_iff.mp hz),by show D.P.length+D.G.reverse.length<=22;rw[length_reverse];exact h.ln⟩
theorem zjP(h:z6 zs D bars)(l1:bs.length<=1)(hb:∀z∈bs,z∈zs++yC/\z∉nms D.P++nms D.G++bars):z6 zs D (bars++bs):=by
 exists h.p,h.t,h.lt,h.g,h.b,h.lb,?_,fun z hz=>?_,h.dz,h.ln
 ·rw[<- append_assoc]
  refine List.nodup_append.mpr ⟨h.nd,?_,fun x hx y hy e=>(hb y hy).2 (by rw[<- e];exact hx)⟩
  cases bs with
  | nil=>simp
  | cons z bs=>cases bs with
   | nil=>simp
   | cons _ _=>rw[length_cons,length_cons] at l1;omega
 ·rw[<- append_assoc] at hz
  rcases List.mem_append.mp hz with hz|hz
  ·exact h.zn z hz
  ·exact(hb z hz).1
theorem ze1(h:z6 zs D bars)(hT:∀r∈T,r.k=2/\zU r.z=true)(lT:T.length<=1)(hB:∀r∈B,r.k=4/\zU r.z=true)(lB:B.length<=1):z6 zs ⟨D.P,T,D.G,B⟩ bars:=
 ⟨h.p,hT,lT,h.g,hB,lB,h.nd,h.zn,h.dz,h.ln⟩
theorem zjR(h:z6 zs D bars)(s:bs.Sublist bars):z6 zs D bs:=h.sub h.p h.t h.lt h.g h.b h.lb (List.Sublist.refl _) (List.Sublist.refl _) s (aF _) (aF _)
theorem ze2(h:z6 zs D bars):∀r∈D.rows,r.ok:=fun r hr=>by
 unfold FD.rows at hr;rcases List.mem_append.mp hr with hr|hr
 ·obtain⟨e,n⟩:=h.p r hr;exact⟨by rcases e with e|e <;> omega,n⟩
 ·rcases List.mem_append.mp hr with hr|hr
  ·obtain⟨e,n⟩:=h.t r hr;exact⟨∅,n⟩
  ·rcases List.mem_append.mp hr with hr|hr
   ·obtain⟨e,n⟩:=h.g r hr;exact⟨∅,n⟩
   ·obtain⟨e,n⟩:=h.b r hr;exact⟨∅,n⟩
theorem uF(h:z6 zs D bars):D.rows.length<=24:=by
 unfold FD.rows;rw[aG,aG,aG]
 have:=h.ln
 have:=h.lt
 have:=h.lb
 omega
theorem vh(h:z6 zs D bars)(p:Nat->Bool):D.rows.filter (fun r=>p r.k)=(D.P.filter fun r=>p r.k)++((if p 2=true then D.T else [])++((if p 3=true then D.G else [])++(if p 4=true then D.B else []))):=by
 have one:∀{l:List Rw}{k:Nat},(∀r∈l,r.k=k)->l.filter (fun r=>p r.k)=if p k=true then l else []:=fun {l k} hl=>by
  cases e:p k with
  | true=>rw[aK rfl];exact List.filter_eq_self.mpr fun r hr=>by rw[hl r hr];exact e
  | false=>rw[aJ zft];exact List.filter_eq_nil_iff.mpr fun r hr=>by rw[hl r hr,e];exact zft
 unfold FD.rows;rw[filter_append,filter_append,filter_append,one fun r hr=>(h.t r hr).1,one fun r hr=>(h.g r hr).1,one fun r hr=>(h.b r hr).1]
theorem zab(h:z6 zs D bars){p:Nat->Bool}(h0:p 0=false)(h1:p 1=false):(D.P.filter fun r=>p r.k)=[]:=List.filter_eq_nil_iff.mpr fun r hr=>by rcases (h.p r hr).1 with e|e <;> rw[e] <;> simp [h0,h1]
theorem uG(h:z6 zs D bars){p:Nat->Bool}(h0:p 0=true)(h1:p 1=true):(D.P.filter fun r=>p r.k)=D.P:=List.filter_eq_self.mpr fun r hr=>by rcases (h.p r hr).1 with e|e <;> rw[e] <;> assumption
theorem zmS(h:z6 zs D bars):(D.rows.filter fun r=>r.k==3)=D.G:=by
 have e:=vh h fun k=>k==3;have e0:=zab h (p:=fun k=>k==3) rfl rfl;rw[e,e0];simp
theorem zmR(h:z6 zs D bars):(D.rows.filter fun r=>r.k==4)=D.B:=by
 have e:=vh h fun k=>k==4;have e0:=zab h (p:=fun k=>k==4) rfl rfl;rw[e,e0];simp
theorem zmP(h:z6 zs D bars):(D.rows.filter fun r=>!(r.k==4))=D.P++(D.T++D.G):=by
 have e:=vh h fun k=>!(k==4);have e0:=uG h (p:=fun k=>!(k==4)) rfl rfl;rw[e,e0];simp
theorem zmQ(h:z6 zs D bars):(D.rows.filter fun r=>!(r.k==2))=D.P++(D.G++D.B):=by
 have e:=vh h fun k=>!(k==2);have e0:=uG h (p:=fun k=>!(k==2)) rfl rfl;rw[e,e0];simp
theorem zjQ(h:z6 zs D bars):(D.rows.filter fun r=>r.k==0||r.k==1||r.k==2)=D.P++D.T:=by
 have e:=vh h fun k=>k==0||k==1||k==2
 have e0:=uG h (p:=fun k=>k==0||k==1||k==2) rfl rfl
 rw[e,e0];simp
end
end K84
namespace L2
open PySem PySem.Spec PyProof.Rows
inductive znpJ(x:V)(y:V)(H:Hp)(Q:VK):Prop|mk(a b:Addr)(xs:List V):x=.ref a->y=.ref b->H a=some (.lst xs)->H b=some (.lst [])->(Q (.bl (!decide (xs=[]))) H)->znpJ x y H Q
def znp:R2:=fun x y H Q=>znpJ x y H Q
theorem qJ(hu:X.A.units<cLine):OpR X (compareOp .NotEq) znp:=by
 intro pins s σ H x y v u Q I rx ry h;obtain⟨a,b,xs,rfl,rfl,ha,hb,q⟩:=h;cases rx;cases ry;obtain⟨ia,va,pa,_⟩:=I.list (zf ha);obtain⟨ib,vb,pb,_⟩:=I.list (zf hb);cases vb;by_cases e:xs=[]
 ·subst e
  cases va;rw[aC rfl] at q;have t2:=SeqAt.RcNeAt.lists (A:=X.A) (s:=s) (e:=fun _=>true) pa.isList pb.isList rfl hu (fun j h1 h2=>absurd h1 (by simp))
  rw[vT] at t2;exact t2 X.prog X.w X.xe _ ⟨.bl false,H,I,rfl,q⟩
 ·rw[aD e] at q
  have l1:=va.length
  have:ia.length≠0:=fun z=>e (eq_nil_of_length_eq_zero ∅)
  exact SeqAt.RcNeAt.lists_lengths pa.isList pb.isList (by simp;exact fun z=>this (by rw[z];rfl)) hu X.prog X.w X.xe _ ⟨.bl true,H,I,rfl,q⟩
end L2
namespace K84
open PySem L2 PyProof.Rows
structure znS(mg:Str->Option Value):Prop where
 max:mg "max"=none
 len:mg "len"=none
 list:mg "list"=none
 rev:mg "reversed"=none
inductive zb5(vs:List V)(H:Hp)(Q:VK)(E:XK):Prop|mk(la lb pa:Addr)(n:Int)(D:FD)(bars zs:List Str):vs=[.ref la,.ref lb,.int n,.ref pa]->xW H la D.rows->H lb=some (.lst (bars.map V.str))->H pa=some (.lst (zs.map V.str))->0<zs.length->zs.length<=26->(∀z∈zs,zU z=true)->z6 zs D bars->(∀(t la' lb':Addr) (D':FD) (bars':List Str) (H':Hp),zq H H'->H' t=some (.tup [.ref la',.ref lb'])->xW H' la' D'.rows->H' lb'=some (.lst (bars'.map V.str))->z6 zs D' bars'->Q (.ref t) H')->zb5 vs H Q E
def jc(o:Option Rw):List V:=match o with
 | some r=>rv r
 | none=>[.str "none",.str "",.bl false]
def TG(H:Hp)(la pa kn hx:Addr)(n way:Int)(at0:Nat)(zs:List Str)(σ : L2.St)(H':Hp):Prop:=∃(lm' lb':Addr) (D':FD) (bars':List Str) (v9 v10 v11:Option V),σ=[~~~la,~~~lb',some (.int n),~~~pa,some (.int way),some (.int at0),~~~lm',~~~kn,~~~hx,v9,v10,v11]/\zq H H'/\xW H' lm' D'.rows/\H' lb'=some (.lst (bars'.map V.str))/\z6 zs D' bars'
theorem uV(s:zq H0 H')(n:H0 l=none):zq H0 (upd H' l o):=fun b u e=>by rw[zi (zj e n)];exact s b u e
theorem uL(h:Paired (TAt H) us rows)(e:H l=some (.lst ys)):Paired (TAt (upd H l o)) us rows:=zO (fun _ _ z=>TAt.upd z e) h
theorem zlH:∀k:Nat,k<5->inV (.str (kw k)) [.str "seat",.str "tail",.str "bag"]=!(k==1||k==3):=by decide +kernel
theorem zlG:∀k:Nat,k<5->inV (.str (kw k)) [.str "seat",.str "both",.str "tail"]=(k==0||k==1||k==2):=by decide +kernel
theorem znF:([Str.ofString "_law_one",Str.ofString "_law_label"]:List Str).Nodup:=by decide +kernel
theorem zmC:([Str.ofString "_law_name",Str.ofString "_law_bars_here",Str.ofString "_law_known"]:List Str).Nodup:=by decide +kernel
theorem zml(rk:r.ok)(hk:¬(r.k=1\/r.k=3))(z:Str):∃ys:List V,xJ (rv r) none (some 1)=[.str (kw r.k)]/\xJ (rv r) (some 2) none=ys/\¬(HT.sIx (rv r).length 0 none=0/\HT.sIx (rv r).length (rv r).length (some 1)=(rv r).length)/\¬(HT.sIx (rv r).length 0 (some 2)=0/\HT.sIx (rv r).length (rv r).length none=(rv r).length)/\[.str (kw r.k),.str z]++ys=rv (rl z r)/\ys.length<=1:=by
 unfold rl;rw[aJ hk];obtain⟨k,z',b⟩:=r;rcases lt5 rk.1 with e|e|e|e|e
 ·cases e;exact⟨[.bl b],rfl,rfl,(fun h=>absurd h.2 (by show ¬(1=3);decide)),(fun h=>absurd h.1 (by show ¬(2=0);decide)),rfl,aF _⟩
 ·exact absurd (.inl e) hk
 ·cases e;exact⟨[],rfl,rfl,(fun h=>absurd h.2 (by show ¬(1=2);decide)),(fun h=>absurd h.1 (by show ¬(2=0);decide)),rfl,zero_le _⟩
 ·exact absurd (.inr e) hk
 ·cases e;exact⟨[],rfl,rfl,(fun h=>absurd h.2 (by show ¬(1=2);decide)),(fun h=>absurd h.1 (by show ¬(2=0);decide)),rfl,zero_le _⟩
theorem zkr(w:Int):inV (.int w) [.int 2,.int 3]=decide (w=2\/w=3):=by
 show(((2:Int)==w)||(((3:Int)==w)||false))=_
 rw[Bool.eq_iff_iff,Bool.or_false,Bool.or_eq_true,beq_iff_eq,beq_iff_eq,decide_eq_true_iff];exact⟨fun h=>h.elim (fun e=>.inl e.symm) fun e=>.inr e.symm,fun h=>h.elim (fun e=>.inl e.symm) fun e=>.inr e.symm⟩
theorem zmJ(hok:∀r,o=some r->r.ok)(h:(jc o).length=3):o=none\/∃r,o=some r/\(r.k=0\/r.k=1\/r.k=3):=by
 cases o with
 | none=>exact .inl rfl
 | some r=>
  refine .inr ⟨r,rfl,?_⟩;have rk:=hok r rfl;obtain⟨k,z,b⟩:=r;rcases lt5 rk.1 with e|e|e|e|e
  ·exact .inl e
  ·exact .inr (.inl e)
  ·cases e;exact absurd (show 2=3 from h) ⋯
  ·exact .inr (.inr e)
  ·cases e;exact absurd (show 2=3 from h) ⋯
theorem zif(h:r.k=0\/r.k=1\/r.k=3):xJ (rv r) none (some 2)=[.str (kw r.k),.str r.z]/\¬(HT.sIx (rv r).length 0 none=0/\HT.sIx (rv r).length (rv r).length (some 2)=(rv r).length)/\rv ⟨r.k,r.z,!r.b⟩=[.str (kw r.k),.str r.z,.bl (!r.b)]:=by
 obtain⟨k,z,b⟩:=r;rcases h with e|e|e <;> (cases e;exact⟨rfl,(fun h=>absurd h.2 (by show ¬(2=3);decide)),rfl⟩)
theorem zjN(rk:r.ok):Rp r [⟨r.k,r.z,!r.b⟩]:=by
 exists aF _,fun r' hr'=>?_,?_
 ·rw[List.mem_singleton.mp hr']
  exact⟨rk.2,id,id,id,id⟩
 ·have:nms [(⟨r.k,r.z,!r.b⟩:Rw)]=nms [r]:=by
   unfold nms;rw[filter_cons,filter_cons];cases e:yn r.k <;> simp
  rw[this];exact List.Sublist.refl _
theorem ziP(rk:r.ok)(hk:r.k=1):Rp r [⟨0,r.z,r.b⟩]:=by
 exists aF _,fun r' hr'=>?_,List.nil_sublist _;rw[List.mem_singleton.mp hr'];exact⟨rk.2,fun _=>.inl rfl,fun e=>by omega,fun e=>by omega,fun e=>by omega⟩
theorem zjC:Rp r []:=⟨zero_le _,fun _ h=>(nomatch h),List.nil_sublist _⟩
theorem zdI{n k:Nat}(h:k<n):ixN n (k:Int)=some k:=by
 unfold ixN;rw[aK ∅,aK ∅]
 rfl
theorem zjE{n k:Nat}(h:k<n):seqIndex? (k:Int) n=some k:=(zbQ (zdI h)).1
theorem zgF(h:r.k=1):xJ (rv r) (some 1) none=[.str r.z,.bl r.b]/\¬(HT.sIx (rv r).length 0 (some 1)=0/\HT.sIx (rv r).length (rv r).length none=(rv r).length):=by
 obtain⟨k,z,b⟩:=r;cases h;exact⟨rfl,(fun h=>absurd h.1 (by show ¬(1=0);decide))⟩
theorem zmK(hok:∀r,o=some r->r.ok):∃z:Str,atI (jc o) 0=some (.str z)/\decide (V.str z=V.str "both")=decide (∃r,o=some r/\r.k=1):=by
 cases o with
 | none=>
  exists "none",rfl,?_;rw[aD (p:=∃r,(none:Option Rw)=some r/\r.k=1) (by rintro⟨r,e,_⟩;cases e)]
  exact(by decide +kernel:decide (V.str (Str.ofString "none")=V.str (Str.ofString "both"))=false)
 | some r=>
  have rk:=hok r rfl;exists kw r.k,xr rk,?_;rw[show decide (V.str (kw r.k)=V.str "both")=(r.k==1) from uD 1 ⋯ r.k rk.1]
  by_cases e:r.k=1
  ·rw[aC ⟨r,rfl,e⟩,e,beq_self_eq_true]
  ·rw[aD (by rintro⟨r',e',k⟩;cases e';exact e k)];exact beq_false_of_ne e
section
variable {K:Frag}{mg:Str->Option Value}{f:Addr}
theorem zh0{Q:VK}(k:Nat)(hk:k<5)(ez:kw k=z)(hla:H la=some (.lst (us.map V.ref)))(hu:Paired (TAt H) us rows)(hok:∀r∈rows,r.ok)(hl:rows.length<=24)(hD:H D=none)
  (q:∀H' vs,zq H H'->H' D=some (.lst (vs.map V.ref))->Paired (TAt H') vs (rows.filter fun r=>!(r.k==k))->Q (.ref D) H'):LCr (Itl K la) [none] (zJ 0) (zaB (tOp rNe (tOp (xc K) (zal 0) (tC (.int 0))) (tC (.str z)))) (zal 0) σ H Q D:=by
 refine wg (K:=K) TAt (fun r=>!(r.k==k)) (fun u _=>.ref u) hD hla hu ∅ (fun i u r H' N S hu' hr' tr sH n1 s1=>?_) (fun H1 s1 hD1=>?_)
 ·have rk:=hok r (aH hr')
  have tu:=sH _ _ tr;exists _,rfl,u,_,0,_,rfl,rfl,zy tu,xr rk,rfl,_,rfl,?_;rw[<- ez,uD k hk r.k rk.1];exact⟨fun e=>⟨_,rfl,n1 _ (zq.refl _) e⟩,fun e=>s1 _ (zq.refl _) e⟩
 ·obtain⟨vs,ev,p⟩:=vU (zr s1 hu) fun r=>!(r.k==k)
  exact q H1 vs s1 (by rw[hD1,ev]) p
theorem yr:zA ["_law_row_here","_law_bars_here","_law_number","_law_pool_here","_law_way","_law_at","_law_made","_law_known","_law_here","_law_label","_law_tags","_law_many"] ["_law_row_here","_law_bars_here","_law_number","_law_pool_here"] (zh zbm):=fsc
theorem zfB(F:Fun K "_law_turned" "_law_turned" zbm f fd)(U:znS mg):↥1 f fd ["_law_row_here","_law_bars_here","_law_number","_law_pool_here"] zb5:=by
 specialize yr;obtain⟨la,lb,pa,n,D,bars,zs,rfl,⟨us,hla,hu⟩,hlb,hpa,z0,z4,hzn,fd,q⟩:=h;have hU:=hr.units;have hok:=ze2 fd;have l24:=uF fd;have lu:us.length=D.rows.length:=hu.length;have lb4:bars.length<=60:=by
  have nb:bars.Nodup:=(List.nodup_append.mp fd.nd).2.1
  have:=yN bars (zs++yC) nb fun z hz=>fd.zn z (List.mem_append.mpr (.inr hz))
  rw[aG,show yC.length=0 from rfl] at this;omega
 have pick:∀(x:Int),∃j,x % (zs.length:Int)=((j:Nat):Int)/\∃h:j<zs.length,atI (zs.map V.str) (x % (zs.length:Int))=some (.str zs[j]):=fun x=>by
  have d0 : 0<=x % (zs.length:Int):=emod_nonneg _ ∅
  have d1:x % (zs.length:Int)<(zs.length:Int):=emod_lt_of_pos _ ∅
  obtain⟨j,hj⟩:=eq_ofNat_of_zero_le d0;have hjl:j<zs.length:=by omega
  exact⟨j,hj,hjl,by rw[hj];exact wK (by rw[getElem?_map,aB hjl];rfl)⟩
 have lz:((zs.map V.str).length:Int)=(zs.length:Int):=by rw[aA]
 refine yr[4]'(zk zW (pv 2) ze);exists _,rfl,_,_,rfl,rfl,(by show(0:Int)<10;decide),?_
 generalize n % 10=way;dsimp only[zJ];refine yr[5]'(zk zW (zk z3 (pv 2) ze) (cB (jz rfl) U.max boot_max (ac (cB zE U.len PySem.boot_len (ac (pv 0) zc)) (ac ze zc))));exists _,rfl,_,_,rfl,rfl,⟨⋯,⋯⟩,_,rfl,la,_,rfl,.inl (zf hla),_,_,rfl,_,_,rfl,rfl,?_,?_
 ·show(0:Int)<if (1:Int)>_ then 1 else _
  split <;> omega
 rw[aA,lu];have em:(if (1:Int)>((D.rows.length:Nat):Int) then (1:Int) else ((D.rows.length:Nat):Int))=((max D.rows.length 1:Nat):Int):=by split <;> omega
 rw[em];obtain⟨at0,ea,al⟩:∃at0:Nat,n / 10 % ((max D.rows.length 1:Nat):Int)=(at0:Int)/\at0<max D.rows.length 1:=by
  have d0 : 0<=n / 10 % ((max D.rows.length 1:Nat):Int):=emod_nonneg _ ∅
  have d1:n / 10 % ((max D.rows.length 1:Nat):Int)<((max D.rows.length 1:Nat):Int):=emod_lt_of_pos _ ∅
  obtain⟨j,hj⟩:=eq_ofNat_of_zero_le d0;exact⟨j,hj,∅⟩
 rw[ea];dsimp only[zJ];refine yr[6]'(cTy y9 U.list PyProof.Rows.boot_list (ac (pv 0) zc));exists _,rfl,la,_,rfl,.inl (zf hla),fun lm hlm=>?_
 injections lm hlm H1 s1 g1
 dsimp only[zJ];refine zp (zx (i:=7) yr.nd rfl (Or.inr rfl) (yY [] ["_law_one"] [none] rfl ⟨rfl,rfl,rfl,rfl⟩ (zM (pv 0)) (zK 0) rfl rfl rfl
   (fun pins fp s H C=>⟨zo (i:=0) u7 rfl (Or.inl rfl) (.inr rfl),yg (zm (r:=rIn K false) yi (zC (r:=xc K) zG (pv 0) ze (fun _ _=>rfl)) (zT (ac zH (ac zH zc))) (by with_unfolding_all rfl)),zC (r:=xc K) zG (pv 0) ze (fun _ _=>rfl)⟩))) ?_
 exists _,rfl,la,rfl,⟨_,zf (s1 _ _ hla)⟩,fun kn hkn=>?_;refine wg (K:=K) TAt (fun r=>yn r.k) (fun _ r=>.str r.z) hkn (s1 _ _ hla) (zr s1 hu) ∅ (fun i u r H' N S hu' hr' tr sH n1 s1=>?_) (fun H2 s2 hk2=>?_)
 ·have rk:=hok r (aH hr')
  have tu:=sH _ _ tr;exists _,rfl,u,_,0,_,rfl,rfl,zy tu,xr rk,yG,fun l hl=>?_;have s2:=zd hl (.lst [.str "both",.str "tag"]);exists l,_,rfl,.inl (zf za),rfl,rfl,_,rfl,?_;rw[aJ zft,zh7 rk.1];exact⟨fun e=>⟨_,rfl,u,_,1,_,rfl,rfl,zy (s2 _ _ tu),vY rk,n1 _ s2 e⟩,fun e=>s1 _ s2 e⟩
 rw[zeN hu] at hk2;have s12:=s1.trans s2;have g1:=s2 _ _ g1;dsimp only[zJ];refine yr[8]'(z7 (ac zH (ac zH (ac x6 zc))));exists uP,fun he hhe=>?_;have s3:=zd hhe (.tup (jc none));have g3:upd H2 he (.tup (jc none)) he=some (.tup (jc none)):=za;change zc4 _ _ _ _ (upd H2 he (.tup (jc none)));generalize upd H2 he (.tup (jc none))=H3 at s3 g3 |-;have s13:=s12.trans s3;have g1:=s3 _ _ g1;have hk2:=s3 _ _ hk2;refine zp (zS (zm (qJ (lt_of_le_of_lt (le_add_right _ 64) hU)) (pv 0) (zT zc) (zF _)) (zg (zx (i:=8) yr.nd rfl (Or.inl rfl) (zC ye (pv 0) (pv 5) (fun _ _=>rfl)))) zD) ?_;refine yo (fun σ' H'=>∃hx:Addr,σ'=[~~~la,~~~lb,some (.int n),~~~pa,some (.int way),some (.int (at0:Nat)),~~~lm,~~~kn,~~~hx,none,none,none]/\zq H3 H'/\H' hx=some (.tup (jc D.rows[at0]?))) ?_ (fun key=>?_);rotate_left
 ·exists _,rfl,wN,fun l hl=>?_
  have s4:=zd hl (.lst []);exists la,l,_,rfl,rfl,(s13.trans s4) _ _ hla,za,_,rfl,?_;by_cases e:us=[]
  ·refine yZ (by rw[e];rfl) ?_
   have er:D.rows=[]:=eq_nil_of_length_eq_zero (by rw[<- lu,e];rfl)
   refine key _ _ ⟨he,rfl,s4,?_⟩;rw[er];exact s4 _ _ g3
  ·refine xA (by rw[aD (fun z=>e (List.map_eq_nil_iff.mp z))];rfl) ?_
   have l0 : 0<us.length:=List.length_pos_iff.mpr e;have hat:at0<us.length:=by rw[lu] at l0 |-;omega
   obtain⟨r,hr',tr⟩:=yw (zr s13 hu) (aB hat);exists _,rfl,_,rfl,la,_,_,.ref us[at0],rfl,rfl,zf ((s13.trans s4) _ _ hla),wK (by rw[getElem?_map,aB hat];rfl),?_
   refine key _ _ ⟨_,rfl,s4,?_⟩;rw[hr'];exact s4 _ _ tr
 rintro σ4 H4 ⟨hx,rfl,s4,h4⟩;have s14:=s13.trans s4;have g1:=s4 _ _ g1;have hk2:=s4 _ _ hk2;have hla4:=s14 _ _ hla;have hu4:=zr s14 hu;have hlb4:=s14 _ _ hlb;have hpa4:=s14 _ _ hpa;clear s1 s2 s3 s4 s12 s13 g3;have s4r:zq H4 H4:=zq.refl _;refine zp (zS (zm ym (pv 4) ze (zF _)) (zu (zx (i:=9) yr.nd rfl (Or.inr rfl) (zC ye (pv 3) (zk zW (zk z3 (pv 2) ze) (cB zE U.len PySem.boot_len (ac (pv 3) zc))) (fun _ _=>rfl)))
  (zg (wD (i:=6) ["_law_label"] ["_law_one","_law_label"] [none,some 9] yr.nd rfl (Or.inl rfl) rfl ⟨rfl,rfl,rfl,rfl⟩ (zM (pv 0)) (zK 0) rfl rfl rfl
   (fun pins fp s H C=>⟨zo (i:=0) znF rfl (Or.inl rfl) (.inr rfl),yV,qE (zm (r:=rIn K false) yi (zC (r:=xc K) zG (pv 0) ze (fun _ _=>rfl)) (zT (ac zH (ac zH (ac zH zc)))) (by with_unfolding_all rfl))
    (zk (r:=zcp K) jY (zk (r:=zcp K) jY (yj (r:=zha K) zbg (pv 0) yR (yp ze)) (z7 (ac (pv 1) zc))) (yj (r:=zha K) zbg (pv 0) (yp ze) yR)) (pv 0)⟩)))) zD) ?_
 refine yo (fun σ' H'=>(σ'=[~~~la,~~~lb,some (.int n),~~~pa,some (.int way),some (.int (at0:Nat)),~~~lm,~~~kn,~~~hx,none,none,none]/\zq H4 H')\/(way∈[(0:Int)]/\TG H la pa kn hx n way at0 zs σ' H')) ?_ (fun key=>?_);rotate_left
 ·exists _,rfl,rfl,_,rfl,?_
  by_cases hw:way=0
  rotate_left
  ·refine yZ (aD (fun c=>hw (V.int.inj c))) ?_
   exact key _ _ (.inl ⟨rfl,s4r⟩)
  refine xA (aC (by rw[hw])) ?_
  obtain⟨j,hj,hjl,hat⟩:=pick (n / 300);exists _,rfl,_,rfl,_,_,rfl,rfl,⟨⋯,⋯⟩,_,rfl,pa,_,rfl,.inl (zf hpa4),_,_,rfl,rfl,(by rw[lz];omega),pa,_,_,.str zs[j],rfl,rfl,zf hpa4,(by rw[lz];exact hat),?_
  have hz:=hzn _ (getElem_mem hjl);generalize zs[j]=z at hz |-;dsimp only[zJ];exists _,rfl,la,rfl,⟨_,zf hla4⟩,fun D5 hD5=>?_;refine zeR (K:=K) (bs:=D.rows.map (rl z)) TAt (fun h s=>s _ _ h) TAt.upd (zf hla4) (by rw[aA,aA,lu]) (by rw[aA];omega) hD5 (fun i x r2 H5 Qf Qs hx' hr2 s5 qf=>?_) (fun vs H6 s6 e6 p6=>?_)
  ·obtain⟨u,hu',rfl⟩:=xt hx'
   obtain⟨r,hr',tr⟩:=yw hu4 hu';rw[getElem?_map,hr'] at hr2;cases hr2;have rk:=hok r (aH hr');have tu:=s5 _ _ tr;exists fun _=>?_,fun e=>Bool.noConfusion e;exists _,rfl,u,_,0,_,rfl,rfl,zy tu,xr rk,uP,fun l hl=>?_;have s7:=zd hl (.lst [.str "seat",.str "tail",.str "bag"]);exists l,_,rfl,.inl (zf za),rfl,rfl,_,rfl,?_;rw[aJ zft,zlH r.k rk.1];have tu7:TAt (upd H5 l (.lst [.str "seat",.str "tail",.str "bag"])) u r:=s7 _ _ tu;generalize upd H5 l (.lst [.str "seat",.str "tail",.str "bag"])=H7 at s7 tu7;by_cases hk:r.k=1\/r.k=3
   ·refine yZ (by rcases hk with e|e <;> rw[e] <;> rfl) ?_
    exact⟨_,rfl,qf u H7 s7 (by unfold rl;rw[aK hk];exact tu7)⟩
   ·refine xA (by rw[show(r.k==1)=false from beq_false_of_ne (fun e=>hk (.inl e)),show(r.k==3)=false from beq_false_of_ne (fun e=>hk (.inr e))];rfl) ?_
    obtain⟨ys,c1,c2,f1,f2,er,ly⟩:=zml rk hk z;exists _,rfl,_,rfl,u,_,rfl,zy tu7,f1,fun p1 hp1=>?_;rw[c1];have s8:=zd hp1 (.tup [.str (kw r.k)]);have g8:upd H7 p1 (.tup [.str (kw r.k)]) p1=some (.tup [.str (kw r.k)]):=za;have tu8:=s8 _ _ tu7;generalize upd H7 p1 (.tup [.str (kw r.k)])=H8 at s8 g8 tu8 |-;exists _,rfl,ux,fun p2 hp2=>?_;have s9:=zd hp2 (.tup [.str z]);exists p1,p2,_,_,rfl,rfl,zy (s9 _ _ g8),zy za,(fun e=>by cases e),yG,(fun e=>by cases e),fun _ p3 hp3=>?_
    have s10:=zd hp3 (.tup [.str (kw r.k),.str z]);have tu10:=(s9.trans s10) _ _ tu8;change tSl _ _ _ _ _ (upd (upd H8 p2 (.tup [.str z])) p3 (.tup [.str (kw r.k),.str z])) _;have g10:upd (upd H8 p2 (.tup [.str z])) p3 (.tup [.str (kw r.k),.str z]) p3=some (.tup [.str (kw r.k),.str z]):=za;generalize upd (upd H8 p2 (.tup [.str z])) p3 (.tup [.str (kw r.k),.str z])=H10 at s10 tu10 g10 |-;exists _,rfl,_,rfl,u,_,rfl,zy tu10,f2,fun p4 hp4=>?_;rw[c2];have s11:=zd hp4 (.tup ys);have g11:=s11 _ _ g10;have sA:=s7.trans (s8.trans (s9.trans (s10.trans s11)));exists p3,p4,_,_,rfl,rfl,zy g11,zy za,(fun e=>by cases e),z9 (by show 2+ys.length<=1000;omega),fun e=>?_,fun e p5 hp5=>?_
    ·refine qf p3 _ sA ?_
     have e0:rv (rl z r)=[.str (kw r.k),.str z]:=by rw[<- er,e];rfl
     show _=some (HO.tup (rv (rl z r)));rw[e0];exact g11
    ·refine qf p5 _ (sA.trans (zd hp5 _)) ?_
     show upd _ p5 _ p5=some (.tup (rv (rl z r)));rw[<- er];exact za
  ·dsimp only[zJ]
   obtain⟨er,fd'⟩:=zmO fd hz;refine key _ _ (.inr ⟨by rw[hw];exact List.mem_singleton.mpr rfl,D5,lb,_,bars,_,_,_,rfl,s14.trans s6,⟨vs,e6,by rw[<- er];exact p6⟩,s6 _ _ hlb4,fd'⟩)
 rintro σ5 H5 J5;refine zp (zS (zm ym (pv 4) ze (zF _)) (zu (wD (i:=10) [] ["_law_one"] [none] yr.nd rfl (Or.inl rfl) rfl ⟨rfl,rfl,rfl,rfl⟩ (zM (pv 0)) (zK 0) rfl rfl rfl
   (fun pins fp s H C=>⟨zo (i:=0) u7 rfl (Or.inl rfl) (.inr rfl),yg (zm ym (zC (r:=xc K) zG (pv 0) ze (fun _ _=>rfl)) zH (zF _)),pv 0⟩))
  (zu (zx (i:=6) yr.nd rfl (Or.inl rfl) (zk yA (yY [] ["_law_one"] [none] rfl ⟨rfl,rfl,rfl,rfl⟩ (zM (pv 0)) (zK 0) rfl rfl rfl
   (fun pins fp s H C=>⟨zo (i:=0) u7 rfl (Or.inl rfl) (.inr rfl),yg (zm (r:=rIn K false) yi (zC (r:=xc K) zG (pv 0) ze (fun _ _=>rfl)) (zT (ac zH (ac zH (ac zH zc)))) (by with_unfolding_all rfl)),pv 0⟩)) (qD rfl rfl U.list rfl U.rev (ac (pv 10) zc))))
  (zu (zx (i:=6) yr.nd rfl (Or.inl rfl) (zk yA (pv 6) (yY [] ["_law_one"] [none] rfl ⟨rfl,rfl,rfl,rfl⟩ (zM (pv 0)) (zK 0) rfl rfl rfl
   (fun pins fp s H C=>⟨zo (i:=0) u7 rfl (Or.inl rfl) (.inr rfl),yg (zm ym (zC (r:=xc K) zG (pv 0) ze (fun _ _=>rfl)) zH (zF _)),pv 0⟩))))
  (zg (zx (i:=1) yr.nd rfl (Or.inr rfl) (qD rfl rfl U.list rfl U.rev (ac (pv 1) zc))))))) zD) ?_
 refine yo (fun σ' H'=>(σ'=[~~~la,~~~lb,some (.int n),~~~pa,some (.int way),some (.int (at0:Nat)),~~~lm,~~~kn,~~~hx,none,none,none]/\zq H4 H')\/(way∈[1,0]/\TG H la pa kn hx n way at0 zs σ' H')) ?_ (fun key=>?_);rotate_left
 ·rcases J5 with ⟨rfl,s5⟩|⟨hw,lm',lb',D',bars',v9,v10,v11,rfl,g⟩
  rotate_left
  ·exists _,rfl,rfl,_,rfl,?_
   refine yZ (aD (fun c=>by rw[V.int.inj c] at hw;revert hw;decide)) ?_
   exact key _ _ (.inr ⟨mem_cons_of_mem _ hw,lm',lb',D',bars',v9,v10,v11,rfl,g⟩)
  exists _,rfl,rfl,_,rfl,?_;by_cases hw:way=1
  rotate_left
  ·refine yZ (aD (fun c=>hw (V.int.inj c))) ?_
   exact key _ _ (.inl ⟨rfl,s5⟩)
  refine xA (aC (by rw[hw])) ?_
  exists _,rfl,la,rfl,⟨_,zf (s5 _ _ hla4)⟩,fun D6 hD6=>?_;refine qQ 3 ⋯ rfl (s5 _ _ hla4) (zr s5 hu4) hok l24 hD6 (fun H6 ts s6 e6 p6=>?_)
  have s46:=s5.trans s6;dsimp only[zJ];exists _,rfl,la,rfl,⟨_,zf (s46 _ _ hla4)⟩,fun D7 hD7=>?_;refine wg (K:=K) TAt (fun r=>r.k==0||r.k==1||r.k==2) (fun u _=>.ref u) hD7 (s46 _ _ hla4) (zr s46 hu4) ∅ (fun i u r H' N S hu' hr' tr sH n1 s1=>?_) (fun H7 s7 e7=>?_)
  ·have rk:=hok r (aH hr')
   have tu:=sH _ _ tr;exists _,rfl,u,_,0,_,rfl,rfl,zy tu,xr rk,uP,fun l hl=>?_;have s2:=zd hl (.lst [.str "seat",.str "both",.str "tail"]);exists l,_,rfl,.inl (zf za),rfl,rfl,_,rfl,?_;rw[aJ zft,zlG r.k rk.1];exact⟨fun e=>⟨_,rfl,n1 _ s2 e⟩,fun e=>s1 _ s2 e⟩
  have s47:=s46.trans s7;obtain⟨as,ev,p7⟩:=vU (zr s47 hu4) fun r=>r.k==0||r.k==1||r.k==2
  rw[ev] at e7;have p6:=zr s7 p6;have lts:ts.length<=24:=by rw[p6.length];exact Nat.le_trans (length_filter_le _ _) l24
  have las:as.length<=24:=by rw[p7.length];exact Nat.le_trans (length_filter_le _ _) l24
  exists _,rfl,D6,_,rfl,zf (s7 _ _ e6),by rw[aA];omega,fun l8 hl8=>?_
  rw[<- map_reverse];have s8:=zd hl8 (.lst (ts.reverse.map V.ref));exists D7,l8,_,_,rfl,rfl,s8 _ _ e7,za,z9 (by rw[aA,aA,length_reverse];omega),fun l9 hl9=>?_
  rw[<- aE];have s9:=zd hl9 (.lst ((as++ts.reverse).map V.ref));have p9:=zr (s8.trans s9) (yu p7 (jr p6));have g9:upd (upd H7 l8 (.lst (ts.reverse.map V.ref))) l9 (.lst ((as++ts.reverse).map V.ref)) l9=some (.lst ((as++ts.reverse).map V.ref)):=za;have s49:=s47.trans (s8.trans s9);dsimp only[zJ];generalize upd (upd H7 l8 (.lst (ts.reverse.map V.ref))) l9 (.lst ((as++ts.reverse).map V.ref))=H9 at s9 p9 g9 s49 |-;exists _,rfl,_,rfl,la,rfl,⟨_,zf (s49 _ _ hla4)⟩,fun D10 hD10=>?_;refine qQ 4 ⋯ rfl (s49 _ _ hla4) (zr s49 hu4) hok l24 hD10 (fun H10 bs s10 e10 p10=>?_)
  have lbs:bs.length<=24:=by rw[p10.length];exact Nat.le_trans (length_filter_le _ _) l24
  exists l9,D10,_,_,rfl,rfl,s10 _ _ g9,e10,z9 (by rw[aA,aA,aG,length_reverse];omega),fun l11 hl11=>?_
  rw[<- aE];have s11:=zd hl11 (.lst ((as++ts.reverse++bs).map V.ref));have p11:=zr s11 (yu (zr s10 p9) p10);have g11:upd H10 l11 (.lst ((as++ts.reverse++bs).map V.ref)) l11=some (.lst ((as++ts.reverse++bs).map V.ref)):=za;have s411:=s49.trans (s10.trans s11);dsimp only[zJ];generalize upd H10 l11 (.lst ((as++ts.reverse++bs).map V.ref))=H11 at s11 p11 g11 s411 |-;exists _,rfl,lb,_,rfl,zf (s411 _ _ hlb4),by rw[aA];omega,fun l12 hl12=>?_
  rw[<- map_reverse];have s12:=zd hl12 (.lst (bars.reverse.map V.str));dsimp only[zJ];refine key _ _ (.inr ⟨by rw[hw];exact mem_cons_self,l11,l12,⟨D.P,D.T,D.G.reverse,D.B⟩,bars.reverse,_,_,_,rfl,s14.trans (s411.trans s12),⟨_,s12 _ _ g11,?_⟩,za,zlL fd⟩)
  have p11:=zr s12 p11;rw[zjQ fd,zmS fd,zmR fd] at p11;rw[show FD.rows ⟨D.P,D.T,D.G.reverse,D.B⟩=D.P++D.T++D.G.reverse++D.B by unfold FD.rows;simp]
  exact p11
 have hat:us≠[]->at0<D.rows.length/\∃r,D.rows[at0]?=some r/\r.ok:=fun e=>by
  have l0 : 0<us.length:=List.length_pos_iff.mpr e;have h0:at0<D.rows.length:=by rw[lu] at l0;omega
  exact⟨h0,_,aB h0,hok _ (getElem_mem h0)⟩
 rintro σ6 H6 J6;refine zp (zS (yS (yO (zm (r:=rIn K false) yi (pv 4) (zT (ac ze (ac ze zc))) (by with_unfolding_all rfl)) (yO (zm ym (cB zE U.len PySem.boot_len (ac (pv 8) zc)) ze (zF _)) (yB (zm (qJ (lt_of_le_of_lt (le_add_right _ 64) hU)) (pv 0) (zT zc) (zF _))))))
  (zg (vt (zk (r:=zcp K) jY (yj (r:=zha K) zbg (pv 8) yR (yp ze)) (z7 (ac (zdy (zC (r:=xc K) zG (pv 8) ze (fun _ _=>rfl))) zc))) (zhj (pv 6) (pv 5) zce))) zD) ?_
 refine yo (fun σ' H'=>(σ'=[~~~la,~~~lb,some (.int n),~~~pa,some (.int way),some (.int (at0:Nat)),~~~lm,~~~kn,~~~hx,none,none,none]/\zq H4 H')\/(way∈[2,3,1,0]/\TG H la pa kn hx n way at0 zs σ' H')) ?_ (fun key=>?_);rotate_left
 ·rcases J6 with ⟨rfl,s6⟩|⟨hw,lm',lb',D',bars',v9,v10,v11,rfl,g1',g2',g3',g4'⟩
  rotate_left
  ·exists _,rfl,yG,fun l hl=>?_
   have s7:=zd hl (.lst [.int 2,.int 3]);exists l,_,rfl,.inl (zf za),rfl,rfl,_,rfl,?_;rw[aJ zft,zkr];refine yZ (aD (fun c=>by rcases c with c|c <;> (rw[c] at hw;revert hw;decide))) ?_
   refine yD ?_;exact key _ _ (.inr ⟨mem_cons_of_mem _ (mem_cons_of_mem _ hw),lm',lb',D',bars',v9,v10,v11,rfl,g1'.trans s7,g2'.same s7,s7 _ _ g3',g4'⟩)
  exists _,rfl,yG,fun l hl=>?_;have s7:=zd hl (.lst [.int 2,.int 3]);exists l,_,rfl,.inl (zf za),rfl,rfl,_,rfl,?_;have s47:=s6.trans s7;generalize upd H6 l (.lst [.int 2,.int 3])=H7 at s7 s47 |-;rw[aJ zft,zkr];by_cases hw:way=2\/way=3
  rotate_left
  ·refine yZ (aD hw) ?_
   refine yD ?_;exact key _ _ (.inl ⟨rfl,s47⟩)
  refine xA (aC hw) ?_;exists _,rfl,hx,_,rfl,.inr (zy (s47 _ _ h4)),rfl,_,rfl,?_;by_cases h3:(jc D.rows[at0]?).length=3
  rotate_left
  ·refine yZ (aD (fun c=>h3 (by have:=V.int.inj c;omega))) ?_
   refine yD ?_;exact key _ _ (.inl ⟨rfl,s47⟩)
  refine xA (aC (by rw[h3];rfl)) ?_
  exists _,rfl,wN,fun l2 hl2=>?_;have s8:=zd hl2 (.lst []);have s48:=s47.trans s8;exists la,l2,_,rfl,rfl,s48 _ _ hla4,za,_,rfl,?_;generalize upd H7 l2 (.lst [])=H8 at s8 s48 |-;by_cases eu:us=[]
  ·refine yZ (by rw[eu];rfl) ?_
   exact key _ _ (.inl ⟨rfl,s48⟩)
  refine xA (by rw[aD (fun z=>eu (List.map_eq_nil_iff.mp z))];rfl) ?_
  obtain⟨hal,r,er,rk⟩:=hat eu;have hk3:r.k=0\/r.k=1\/r.k=3:=by
   rcases zmJ (fun r' e=>by rw[er] at e;cases e;exact rk) h3 with e|⟨r',e,k⟩
   ·rw[er] at e;cases e
   ·rw[er] at e;cases e;exact k
  have h8:H8 hx=some (.tup (rv r)):=by have:=s48 _ _ h4;rw[er] at this;exact this
  obtain⟨c1,c2,c3⟩:=zif hk3;exists _,rfl,_,rfl,hx,_,rfl,zy h8,c2,fun p1 hp1=>?_;rw[c1];have s9:=zd hp1 (.tup [.str (kw r.k),.str r.z]);have g9:upd H8 p1 (.tup [.str (kw r.k),.str r.z]) p1=some (.tup [.str (kw r.k),.str r.z]):=za;have h9:=s9 _ _ h8;have s49:=s48.trans s9;generalize upd H8 p1 (.tup [.str (kw r.k),.str r.z])=H9 at s9 g9 h9 s49 |-;exists _,rfl,hx,_,2,_,rfl,rfl,zy h9,jV hk3,_,rfl,ux,fun p2 hp2=>?_;have s10:=zd hp2 (.tup [.bl (!r.b)]);exists p1,p2,_,_,rfl,rfl,zy (s10 _ _ g9),zy za,(fun e=>by cases e),uP,(fun e=>by cases e),fun _ p3 hp3=>?_
  have s11:=zd hp3 (.tup [.str (kw r.k),.str r.z,.bl (!r.b)]);have s411:=s49.trans (s10.trans s11);have t3:TAt (upd (upd H9 p2 (.tup [.bl (!r.b)])) p3 (.tup [.str (kw r.k),.str r.z,.bl (!r.b)])) p3 ⟨r.k,r.z,!r.b⟩:=by
   show upd _ p3 _ p3=some (.tup (rv ⟨r.k,r.z,!r.b⟩));rw[c3];exact za
  exists _,rfl,_,rfl,lm,_,_,at0,rfl,rfl,s411 _ _ g1,zdI (by rw[aA,lu];exact hal),?_
  rw[show([.str (kw r.k),.str r.z]++[.bl (!r.b)]:List V)=[.str (kw r.k),.str r.z,.bl (!r.b)] from rfl];generalize upd (upd H9 p2 (.tup [.bl (!r.b)])) p3 (.tup [.str (kw r.k),.str r.z,.bl (!r.b)])=H11 at s11 s411 t3 |-;have e1:=s411 _ _ g1;obtain⟨D',eD,fD⟩:=zbS fd er (zjN rk);rw[<- map_set (f:=V.ref)];refine key _ _ (.inr ⟨by rcases hw with e|e <;> rw[e] <;> decide,lm,lb,D',bars,_,_,_,rfl,uV (s14.trans s411) hlm,⟨us.set at0 p3,za,?_⟩,by rw[zi (zj hlb hlm)];exact s411 _ _ hlb4,fD⟩)
  rw[<- eD,<- zcm hal];exact uL (zaM (zr s411 hu4) t3 at0) e1
 rintro σ7 H7 JJ;refine zp (zS (yS (yO (zm ym (pv 4) ze (zF _)) (yB (zm (qJ (lt_of_le_of_lt (le_add_right _ 64) hU)) (pv 0) (zT zc) (zF _)))))
  (zg (zZ (xw PySem.F.plainAttrs_list PySem.F.slot_list_pop PySem.F.type_list_pop zhV (pv 6) (ac (pv 5) zc)))) zD) ?_
 refine yo (fun σ' H'=>(σ'=[~~~la,~~~lb,some (.int n),~~~pa,some (.int way),some (.int (at0:Nat)),~~~lm,~~~kn,~~~hx,none,none,none]/\zq H4 H')\/(way∈[4,2,3,1,0]/\TG H la pa kn hx n way at0 zs σ' H')) ?_ (fun key=>?_);rotate_left
 ·rcases JJ with ⟨rfl,s5⟩|⟨hw,lm',lb',D',bars',v9,v10,v11,rfl,g⟩
  rotate_left
  ·exists _,rfl,rfl,_,rfl,?_
   refine yZ (aD (fun c=>by rw[V.int.inj c] at hw;revert hw;decide)) ?_
   refine yD ?_;exact key _ _ (.inr ⟨mem_cons_of_mem _ hw,lm',lb',D',bars',v9,v10,v11,rfl,g⟩)
  exists _,rfl,rfl,_,rfl,?_;by_cases hw:way=4
  rotate_left
  ·refine yZ (aD (fun c=>hw (V.int.inj c))) ?_
   refine yD ?_;exact key _ _ (.inl ⟨rfl,s5⟩)
  refine xA (aC (by rw[hw])) ?_
  exists _,rfl,wN,fun l2 hl2=>?_;have s8:=zd hl2 (.lst []);have s48:=s5.trans s8;exists la,l2,_,rfl,rfl,s48 _ _ hla4,za,_,rfl,?_;generalize upd H7 l2 (.lst [])=H8 at s8 s48 |-;by_cases eu:us=[]
  ·refine yZ (by rw[eu];rfl) ?_
   exact key _ _ (.inl ⟨rfl,s48⟩)
  refine xA (by rw[aD (fun z=>eu (List.map_eq_nil_iff.mp z))];rfl) ?_
  obtain⟨hal,r,er,rk⟩:=hat eu;have hal':at0<us.length:=by rw[lu];exact hal
  have e1:=s48 _ _ g1;exists _,rfl,.inl ⟨rfl,_,zf e1⟩,_,rfl,lm,_,_,at0,.ref us[at0],rfl,rfl,e1,∅,∅,zjE (by rw[aA];exact hal'),by rw[getElem?_map,aB hal'];rfl,?_
  obtain⟨D',eD,fD⟩:=zbS fd er zjC;have em:(us.map V.ref).eraseIdx at0=(us.eraseIdx at0).map V.ref:=by rw[List.eraseIdx_eq_take_drop_succ,List.eraseIdx_eq_take_drop_succ,aE,map_take,map_drop]
  rw[em];refine key _ _ (.inr ⟨by rw[hw];decide,lm,lb,D',bars,_,_,_,rfl,uV (s14.trans s48) hlm,⟨us.eraseIdx at0,za,?_⟩,by rw[zi (zj hlb hlm)];exact s48 _ _ hlb4,fD⟩)
  rw[<- eD,<- zi5];exact uL (zhn (zr s48 hu4) at0) e1
 rintro σ7 H7 JJ;refine zp (zS (yS (yO (zm ym (pv 4) ze (zF _)) (yB (zm ym (zC (r:=xc K) zG (pv 8) ze (fun _ _=>rfl)) zH (zF _)))))
  (zg (vt (zk (r:=zcp K) jY (z7 (ac zH zc)) (yj (r:=zha K) zbg (pv 8) (yp ze) yR)) (zhj (pv 6) (pv 5) zce))) zD) ?_
 refine yo (fun σ' H'=>(σ'=[~~~la,~~~lb,some (.int n),~~~pa,some (.int way),some (.int (at0:Nat)),~~~lm,~~~kn,~~~hx,none,none,none]/\zq H4 H')\/(way∈[5,4,2,3,1,0]/\TG H la pa kn hx n way at0 zs σ' H')) ?_ (fun key=>?_);rotate_left
 ·rcases JJ with ⟨rfl,s5⟩|⟨hw,lm',lb',D',bars',v9,v10,v11,rfl,g⟩
  rotate_left
  ·exists _,rfl,rfl,_,rfl,?_
   refine yZ (aD (fun c=>by rw[V.int.inj c] at hw;revert hw;decide)) ?_
   refine yD ?_;exact key _ _ (.inr ⟨mem_cons_of_mem _ hw,lm',lb',D',bars',v9,v10,v11,rfl,g⟩)
  exists _,rfl,rfl,_,rfl,?_;by_cases hw:way=5
  rotate_left
  ·refine yZ (aD (fun c=>hw (V.int.inj c))) ?_
   refine yD ?_;exact key _ _ (.inl ⟨rfl,s5⟩)
  refine xA (aC (by rw[hw])) ?_
  have okh:∀r,D.rows[at0]?=some r->r.ok:=fun r e=>hok r (aH e);obtain⟨z0',ez0,ed⟩:=zmK okh;exists _,rfl,hx,_,0,_,rfl,rfl,zy (s5 _ _ h4),ez0,rfl,_,rfl,?_;rw[show decide (V.str z0'=V.str (Str.ofString "both"))=_ from ed];by_cases hb:∃r,D.rows[at0]?=some r/\r.k=1
  rotate_left
  ·refine yZ (aD hb) ?_
   exact key _ _ (.inl ⟨rfl,s5⟩)
  refine xA (aC hb) ?_;obtain⟨r,er,k1⟩:=hb;have rk:=okh r er;have hal:at0<D.rows.length:=(List.getElem?_eq_some_iff.mp er).1;exists ux,fun p1 hp1=>?_;have s9:=zd hp1 (.tup [.str "seat"]);have g9:upd H7 p1 (.tup [.str "seat"]) p1=some (.tup [.str "seat"]):=za;have s49:=s5.trans s9;generalize upd H7 p1 (.tup [.str "seat"])=H9 at s9 g9 s49 |-;have h9:H9 hx=some (.tup (rv r)):=by have:=s49 _ _ h4;rw[er] at this;exact this
  obtain⟨c1,c2⟩:=zgF k1;exists _,rfl,_,rfl,hx,_,rfl,zy h9,c2,fun p2 hp2=>?_;rw[c1];have s10:=zd hp2 (.tup [.str r.z,.bl r.b]);exists p1,p2,_,_,rfl,rfl,zy (s10 _ _ g9),zy za,(fun e=>by cases e),uP,(fun e=>by cases e),fun _ p3 hp3=>?_
  have s11:=zd hp3 (.tup [.str "seat",.str r.z,.bl r.b]);have s411:=s49.trans (s10.trans s11);have t3:TAt (upd (upd H9 p2 (.tup [.str r.z,.bl r.b])) p3 (.tup [.str "seat",.str r.z,.bl r.b])) p3 ⟨0,r.z,r.b⟩:=za;exists _,rfl,_,rfl,lm,_,_,at0,rfl,rfl,s411 _ _ g1,zdI (by rw[aA,lu];exact hal),?_
  rw[show([.str (Str.ofString "seat")]++[.str r.z,.bl r.b]:List V)=[.str (Str.ofString "seat"),.str r.z,.bl r.b] from rfl];generalize upd (upd H9 p2 (.tup [.str r.z,.bl r.b])) p3 (.tup [.str "seat",.str r.z,.bl r.b])=H11 at s11 s411 t3 |-;have e1:=s411 _ _ g1;obtain⟨D',eD,fD⟩:=zbS fd er (ziP rk k1);rw[<- map_set (f:=V.ref)];refine key _ _ (.inr ⟨by rw[hw];decide,lm,lb,D',bars,_,_,_,rfl,uV (s14.trans s411) hlm,⟨us.set at0 p3,za,?_⟩,by rw[zi (zj hlb hlm)];exact s411 _ _ hlb4,fD⟩)
  rw[<- eD,<- zcm hal];exact uL (zaM (zr s411 hu4) t3 at0) e1
 rintro σ7 H7 JJ;refine zp (zS (zm ym (pv 4) ze (zF _)) (zg (zx (i:=1) yr.nd rfl (Or.inr rfl) (yj yX (pv 1) (yp ze) yR))) zD) ?_;refine yo (fun σ' H'=>(σ'=[~~~la,~~~lb,some (.int n),~~~pa,some (.int way),some (.int (at0:Nat)),~~~lm,~~~kn,~~~hx,none,none,none]/\zq H4 H')\/(way∈[6,5,4,2,3,1,0]/\TG H la pa kn hx n way at0 zs σ' H')) ?_ (fun key=>?_);rotate_left
 ·rcases JJ with ⟨rfl,s5⟩|⟨hw,lm',lb',D',bars',v9,v10,v11,rfl,g⟩
  rotate_left
  ·exists _,rfl,rfl,_,rfl,?_
   refine yZ (aD (fun c=>by rw[V.int.inj c] at hw;revert hw;decide)) ?_
   exact key _ _ (.inr ⟨mem_cons_of_mem _ hw,lm',lb',D',bars',v9,v10,v11,rfl,g⟩)
  exists _,rfl,rfl,_,rfl,?_;by_cases hw:way=6
  rotate_left
  ·refine yZ (aD (fun c=>hw (V.int.inj c))) ?_
   exact key _ _ (.inl ⟨rfl,s5⟩)
  refine xA (aC (by rw[hw])) ?_
  exists _,rfl,_,rfl,lb,_,rfl,zf (s5 _ _ hlb4),fun l8 hl8=>?_;rw[show xJ (bars.map V.str) (some 1) none=(bars.drop 1).map V.str from (xV (n:=1)).trans (map_drop ..).symm];have s8:=zd hl8 (.lst ((bars.drop 1).map V.str));have s48:=s5.trans s8;dsimp only[zJ];exact key _ _ (.inr ⟨by rw[hw];decide,lm,l8,D,bars.drop 1,_,_,_,rfl,s14.trans s48,⟨us,s48 _ _ g1,zr s48 hu4⟩,za,zjR fd (List.drop_sublist 1 bars)⟩)
 rintro σ7 H7 JJ;refine zp (zS (zm ym (pv 4) ze (zF _)) (zg (zx (i:=1) yr.nd rfl (Or.inr rfl) (zk yA (pv 1) (yj yX (yY ["_law_known","_law_bars_here"] ["_law_name","_law_bars_here","_law_known"] [none,some 1,some 7] rfl ⟨rfl,rfl,rfl,rfl⟩ (zM (pv 3)) (zK 0) rfl rfl rfl
   (fun pins fp s H C=>⟨zo (i:=0) zmC rfl (Or.inl rfl) (.inr rfl),yg (zm (r:=rIn K true) yI (pv 0) (zk yA (pv 2) (pv 1)) (by with_unfolding_all rfl)),pv 0⟩)) yR (yp ze))))) zD) ?_
 refine yo (fun σ' H'=>(σ'=[~~~la,~~~lb,some (.int n),~~~pa,some (.int way),some (.int (at0:Nat)),~~~lm,~~~kn,~~~hx,none,none,none]/\zq H4 H')\/(way∈[7,6,5,4,2,3,1,0]/\TG H la pa kn hx n way at0 zs σ' H')) ?_ (fun key=>?_);rotate_left
 ·rcases JJ with ⟨rfl,s5⟩|⟨hw,lm',lb',D',bars',v9,v10,v11,rfl,g⟩
  rotate_left
  ·exists _,rfl,rfl,_,rfl,?_
   refine yZ (aD (fun c=>by rw[V.int.inj c] at hw;revert hw;decide)) ?_
   exact key _ _ (.inr ⟨mem_cons_of_mem _ hw,lm',lb',D',bars',v9,v10,v11,rfl,g⟩)
  exists _,rfl,rfl,_,rfl,?_;by_cases hw:way=7
  rotate_left
  ·refine yZ (aD (fun c=>hw (V.int.inj c))) ?_
   exact key _ _ (.inl ⟨rfl,s5⟩)
  refine xA (aC (by rw[hw])) ?_
  have nl:(nms D.rows).length<=24:=Nat.le_trans (j0 _) l24;exists _,rfl,_,rfl,pa,rfl,⟨_,zf (s5 _ _ hpa4)⟩,fun D8 hD8=>?_;refine vA (K:=K) (xs:=zs.map V.str) zs (fun z=>decide (z∉nms D.rows++bars)) V.str hD8 (zf (s5 _ _ hpa4)) (by rw[aA]) (by rw[aA];omega) (fun i x z H' N S hx' hz sH n1 s1=>?_) (fun H8 s8 e8=>?_)
  ·obtain⟨z',hz',rfl⟩:=strs_at hx'
   rw[hz] at hz';cases hz';have sA:=s5.trans sH;exists _,rfl,_,rfl,_,rfl,kn,lb,_,_,rfl,rfl,sA _ _ hk2,sA _ _ hlb4,z9 (by rw[aA,aA];omega),fun l hl=>?_
   rw[<- aE];exists l,_,rfl,.inl (zf za),rfl,yQ,_,rfl,?_;rw[aK rfl,xp,<- decide_not];exact⟨fun e=>⟨_,rfl,n1 _ (zd hl _) e⟩,fun e=>s1 _ (zd hl _) e⟩
  have e8:H8 D8=some (.lst ((zs.filter fun z=>decide (z∉nms D.rows++bars)).map V.str)):=e8;exists _,rfl,D8,_,rfl,zf e8,fun l9 hl9=>?_;rw[show xJ ((zs.filter fun z=>decide (z∉nms D.rows++bars)).map V.str) none (some 1)=((zs.filter fun z=>decide (z∉nms D.rows++bars)).take 1).map V.str from (vi (n:=1)).trans (map_take ..).symm];have hb:∀z∈(zs.filter fun z=>decide (z∉nms D.rows++bars)).take 1,z∈zs++yC/\z∉nms D.P++nms D.G++bars:=fun z hz=>by
   obtain⟨a,b⟩:=List.mem_filter.mp (mem_of_mem_take hz);have enm:nms D.rows=nms D.P++nms D.G:=by have:=vg fd (m:=0) (zero_le _);simpa using this
   rw[<- enm];exact⟨List.mem_append.mpr (.inl a),of_decide_eq_true b⟩
  have l1:((zs.filter fun z=>decide (z∉nms D.rows++bars)).take 1).length<=1:=by rw[length_take];omega
  generalize (zs.filter fun z=>decide (z∉nms D.rows++bars)).take 1=bs at hb l1;have s9:=zd hl9 (.lst (bs.map V.str));have s49:=s5.trans (s8.trans s9);exists lb,l9,_,_,rfl,rfl,s49 _ _ hlb4,za,z9 (by rw[aA,aA];omega),fun l10 hl10=>?_
  rw[<- aE];have s10:=zd hl10 (.lst ((bars++bs).map V.str));have s410:=s49.trans s10;dsimp only[zJ];exact key _ _ (.inr ⟨by rw[hw];decide,lm,l10,D,bars++bs,_,_,_,rfl,s14.trans s410,⟨us,s410 _ _ g1,zr s410 hu4⟩,za,zjP fd l1 hb⟩)
 rintro σ7 H7 JJ;refine zp (zS (zm ym (pv 4) ze (zF _)) (zu (wD (i:=6) [] ["_law_one"] [none] yr.nd rfl (Or.inl rfl) rfl ⟨rfl,rfl,rfl,rfl⟩ (zM (pv 0)) (zK 0) rfl rfl rfl
   (fun pins fp s H C=>⟨zo (i:=0) u7 rfl (Or.inl rfl) (.inr rfl),yg (zm qK (zC (r:=xc K) zG (pv 0) ze (fun _ _=>rfl)) zH (zF _)),pv 0⟩))
  (zg (zS (zm ym (cB zE U.len PySem.boot_len (ac (pv 6) zc)) (cB zE U.len PySem.boot_len (ac (pv 0) zc)) (zF _)) (zg (zZ (xw PySem.F.plainAttrs_list PySem.F.slot_list_append PySem.F.type_list_append ya (pv 6) (ac (z7 (ac zH (ac (zC ye (pv 3) (zk zW (zk z3 (pv 2) ze) (cB zE U.len PySem.boot_len (ac (pv 3) zc))) (fun _ _=>rfl)) zc))) zc)))) zD))) zD) ?_
 refine yo (fun σ' H'=>(σ'=[~~~la,~~~lb,some (.int n),~~~pa,some (.int way),some (.int (at0:Nat)),~~~lm,~~~kn,~~~hx,none,none,none]/\zq H4 H')\/(way∈[8,7,6,5,4,2,3,1,0]/\TG H la pa kn hx n way at0 zs σ' H')) ?_ (fun key=>?_);rotate_left
 ·rcases JJ with ⟨rfl,s5⟩|⟨hw,lm',lb',D',bars',v9,v10,v11,rfl,g⟩
  rotate_left
  ·exists _,rfl,rfl,_,rfl,?_
   refine yZ (aD (fun c=>by rw[V.int.inj c] at hw;revert hw;decide)) ?_
   exact key _ _ (.inr ⟨mem_cons_of_mem _ hw,lm',lb',D',bars',v9,v10,v11,rfl,g⟩)
  exists _,rfl,rfl,_,rfl,?_;by_cases hw:way=8
  rotate_left
  ·refine yZ (aD (fun c=>hw (V.int.inj c))) ?_
   exact key _ _ (.inl ⟨rfl,s5⟩)
  refine xA (aC (by rw[hw])) ?_
  exists _,rfl,la,rfl,⟨_,zf (s5 _ _ hla4)⟩,fun D8 hD8=>?_;refine zh0 4 ⋯ rfl (s5 _ _ hla4) (zr s5 hu4) hok l24 hD8 (fun H8 vs s8 e8 p8=>?_)
  have s48:=s5.trans s8;have nD8:H D8=none:=(s14.trans s5).free hD8;rw[zmP fd] at p8;have er:D.rows.length=(D.P++(D.T++D.G)).length+D.B.length:=by unfold FD.rows;simp only[aG];omega
  have lv:vs.length=(D.P++(D.T++D.G)).length:=p8.length;dsimp only[zJ];exists _,rfl,D8,_,rfl,.inl (zf e8),_,rfl,la,_,rfl,.inl (zf (s48 _ _ hla4)),rfl,_,rfl,?_;by_cases hB:D.B.length=0
  rotate_left
  ·refine yZ (aD (fun c=>hB (by have:=V.int.inj c;rw[aA,aA] at this;omega))) ?_
   refine key _ _ (.inr ⟨by rw[hw];decide,D8,lb,⟨D.P,D.T,D.G,[]⟩,bars,_,_,_,rfl,s14.trans s48,⟨vs,e8,?_⟩,s48 _ _ hlb4,ze1 fd fd.t fd.lt (fun _ h=>(nomatch h)) (zero_le _)⟩)
   rw[show FD.rows ⟨D.P,D.T,D.G,[]⟩=D.P++(D.T++D.G) by unfold FD.rows;simp]
   exact p8
  ·refine xA (aC (by rw[aA,aA,lv,lu,er,hB];rfl)) ?_
   obtain⟨j,hj,hjl,hat⟩:=pick (n / 10);have hpa8:=s48 _ _ hpa4;exists _,rfl,.inl ⟨rfl,_,zf e8⟩,_,rfl,_,rfl,_,_,rfl,rfl,⟨⋯,⋯⟩,_,rfl,pa,_,rfl,.inl (zf hpa8),_,_,rfl,rfl,(by rw[lz];omega),pa,_,_,.str zs[j],rfl,rfl,zf hpa8,(by rw[lz];exact hat),yG,fun p9 hp9=>?_
   have hz:=hzn _ (getElem_mem hjl);generalize zs[j]=z at hz |-;have s9:=zd hp9 (.tup [.str "bag",.str z]);have t9:TAt (upd H8 p9 (.tup [.str "bag",.str z])) p9 ⟨4,z,false⟩:=za;have s49:=s48.trans s9;exists D8,_,_,rfl,rfl,s9 _ _ e8,zY (by rw[aA,lv];omega),?_
   rw[show vs.map V.ref++[V.ref p9]=(vs++[p9]).map V.ref by rw[aE];rfl]
   refine key _ _ (.inr ⟨by rw[hw];decide,D8,lb,⟨D.P,D.T,D.G,[⟨4,z,false⟩]⟩,bars,_,_,_,rfl,uV (s14.trans s49) nD8,⟨vs++[p9],za,?_⟩,by rw[zi (zj hlb nD8)];exact s49 _ _ hlb4,ze1 fd fd.t fd.lt (fun r h=>by rw[List.mem_singleton.mp h];exact⟨rfl,hz⟩) (aF _)⟩)
   rw[show FD.rows ⟨D.P,D.T,D.G,[⟨4,z,false⟩]⟩=(D.P++(D.T++D.G))++[⟨4,z,false⟩] by unfold FD.rows;simp]
   exact uL (yu (zr s9 p8) (.cons t9 .nil)) (s9 _ _ e8)
 rintro σ7 H7 JJ;refine zp (zS (zm ym (pv 4) ze (zF _)) (zu (wD (i:=6) [] ["_law_one"] [none] yr.nd rfl (Or.inl rfl) rfl ⟨rfl,rfl,rfl,rfl⟩ (zM (pv 0)) (zK 0) rfl rfl rfl
   (fun pins fp s H C=>⟨zo (i:=0) u7 rfl (Or.inl rfl) (.inr rfl),yg (zm qK (zC (r:=xc K) zG (pv 0) ze (fun _ _=>rfl)) zH (zF _)),pv 0⟩))
  (zg (zS (zm ym (cB zE U.len PySem.boot_len (ac (pv 6) zc)) (cB zE U.len PySem.boot_len (ac (pv 0) zc)) (zF _)) (zu (zx (i:=11) yr.nd rfl (Or.inl rfl) (cB zE U.len PySem.boot_len (ac (yY [] ["_law_one"] [none] rfl ⟨rfl,rfl,rfl,rfl⟩ (zM (pv 0)) (zK 0) rfl rfl rfl
   (fun pins fp s H C=>⟨zo (i:=0) u7 rfl (Or.inl rfl) (.inr rfl),yg (zm (r:=rIn K false) yi (zC (r:=xc K) zG (pv 0) ze (fun _ _=>rfl)) (zT (ac zH (ac zH zc))) (by with_unfolding_all rfl)),pv 0⟩)) zc)))
   (zg (zx (i:=6) yr.nd rfl (Or.inl rfl) (zk yA (zk yA (yj yX (pv 0) yR (yp (pv 11))) (zT (ac (z7 (ac zH (ac (zC ye (pv 3) (zk zW (zk z3 (pv 2) ze) (cB zE U.len PySem.boot_len (ac (pv 3) zc))) (fun _ _=>rfl)) zc))) zc))) (yj yX (pv 0) (yp (pv 11)) yR))))) zD))) zD) ?_
 refine yo (fun σ' H'=>(σ'=[~~~la,~~~lb,some (.int n),~~~pa,some (.int way),some (.int (at0:Nat)),~~~lm,~~~kn,~~~hx,none,none,none]/\zq H4 H')\/(way∈[9,8,7,6,5,4,2,3,1,0]/\TG H la pa kn hx n way at0 zs σ' H')) ?_ (fun key=>?_);rotate_left
 ·rcases JJ with ⟨rfl,s5⟩|⟨hw,lm',lb',D',bars',v9,v10,v11,rfl,g⟩
  rotate_left
  ·exists _,rfl,rfl,_,rfl,?_
   refine yZ (aD (fun c=>by rw[V.int.inj c] at hw;revert hw;decide)) ?_
   exact key _ _ (.inr ⟨mem_cons_of_mem _ hw,lm',lb',D',bars',v9,v10,v11,rfl,g⟩)
  exists _,rfl,rfl,_,rfl,?_;by_cases hw:way=9
  rotate_left
  ·refine yZ (aD (fun c=>hw (V.int.inj c))) ?_
   exact key _ _ (.inl ⟨rfl,s5⟩)
  refine xA (aC (by rw[hw])) ?_
  exists _,rfl,la,rfl,⟨_,zf (s5 _ _ hla4)⟩,fun D8 hD8=>?_;refine zh0 2 ⋯ rfl (s5 _ _ hla4) (zr s5 hu4) hok l24 hD8 (fun H8 vs s8 e8 p8=>?_)
  have s48:=s5.trans s8;rw[zmQ fd] at p8;have er:D.rows.length=(D.P++(D.G++D.B)).length+D.T.length:=by unfold FD.rows;simp only[aG];omega
  have lv:vs.length=(D.P++(D.G++D.B)).length:=p8.length;dsimp only[zJ];exists _,rfl,D8,_,rfl,.inl (zf e8),_,rfl,la,_,rfl,.inl (zf (s48 _ _ hla4)),rfl,_,rfl,?_;by_cases hT:D.T.length=0
  rotate_left
  ·refine yZ (aD (fun c=>hT (by have:=V.int.inj c;rw[aA,aA] at this;omega))) ?_
   refine key _ _ (.inr ⟨by rw[hw];decide,D8,lb,⟨D.P,[],D.G,D.B⟩,bars,_,_,_,rfl,s14.trans s48,⟨vs,e8,?_⟩,s48 _ _ hlb4,ze1 fd (fun _ h=>(nomatch h)) (zero_le _) fd.b fd.lb⟩)
   rw[show FD.rows ⟨D.P,[],D.G,D.B⟩=D.P++(D.G++D.B) by unfold FD.rows;simp]
   exact p8
  ·refine xA (aC (by rw[aA,aA,lv,lu,er,hT];rfl)) ?_
   exists _,rfl,la,rfl,⟨_,zf (s48 _ _ hla4)⟩,fun D9 hD9=>?_;refine wg (K:=K) TAt (fun r=>wp r.k) (fun u _=>.ref u) hD9 (s48 _ _ hla4) (zr s48 hu4) ∅ (fun i u r H' N S hu' hr' tr sH n1 s1=>?_) (fun H9 s9 e9=>?_)
   ·have rk:=hok r (aH hr')
    have tu:=sH _ _ tr;exists _,rfl,u,_,0,_,rfl,rfl,zy tu,xr rk,yG,fun l hl=>?_;have s2:=zd hl (.lst [.str "seat",.str "both"]);exists l,_,rfl,.inl (zf za),rfl,rfl,_,rfl,?_;rw[aJ zft,zdV rk.1];exact⟨fun e=>⟨_,rfl,n1 _ s2 e⟩,fun e=>s1 _ s2 e⟩
   have s49:=s48.trans s9;obtain⟨as,ev,p9⟩:=vU (zr s49 hu4) fun r=>wp r.k;rw[ev] at e9;have p9:Paired (TAt H9) as (xR D.rows):=p9;rw[wf fd] at p9;exists D9,_,rfl,.inl (zf e9),?_;rw[aA,p9.length];dsimp only[zJ];exists _,rfl,_,rfl,_,rfl,la,_,rfl,zf (s49 _ _ hla4),fun l10 hl10=>?_;rw[show xJ (us.map V.ref) none (some ((D.P.length:Nat):Int))=(us.take D.P.length).map V.ref from vi.trans (map_take ..).symm];have s10:=zd hl10 (.lst ((us.take D.P.length).map V.ref));have g10:upd H9 l10 (.lst ((us.take D.P.length).map V.ref)) l10=some (.lst ((us.take D.P.length).map V.ref)):=za;have s410:=s49.trans s10;generalize upd H9 l10 (.lst ((us.take D.P.length).map V.ref))=H10 at s10 g10 s410 |-;obtain⟨j,hj,hjl,hat⟩:=pick (n / 10);have hpa8:=s410 _ _ hpa4;exists _,rfl,_,rfl,_,_,rfl,rfl,⟨⋯,⋯⟩,_,rfl,pa,_,rfl,.inl (zf hpa8),_,_,rfl,rfl,(by rw[lz];omega),pa,_,_,.str zs[j],rfl,rfl,zf hpa8,(by rw[lz];exact hat),yG,fun p11 hp11=>?_
   have hz:=hzn _ (getElem_mem hjl);generalize zs[j]=z at hz |-;have s11:=zd hp11 (.tup [.str "tail",.str z]);have t11:TAt (upd H10 p11 (.tup [.str "tail",.str z])) p11 ⟨2,z,false⟩:=za;have s411:=s410.trans s11;have g11:=s11 _ _ g10;exists ux,fun l12 hl12=>?_;have s12:=zd hl12 (.lst [.ref p11]);have t12:=s12 _ _ t11;exists l10,l12,_,_,rfl,rfl,s12 _ _ g11,za,z9 (by rw[aA,length_take];show _+1<=1000;omega),fun l13 hl13=>?_
   rw[show(us.take D.P.length).map V.ref++[V.ref p11]=(us.take D.P.length++[p11]).map V.ref by rw[aE];rfl]
   have s13:=zd hl13 (.lst ((us.take D.P.length++[p11]).map V.ref));have s413:=s411.trans (s12.trans s13);have t13:TAt _ p11 ⟨2,z,false⟩:=s13 _ _ t12;exists _,rfl,_,rfl,_,rfl,la,_,rfl,zf (s413 _ _ hla4),fun l14 hl14=>?_;rw[show xJ (us.map V.ref) (some ((D.P.length:Nat):Int)) none=(us.drop D.P.length).map V.ref from xV.trans (map_drop ..).symm];have s14':=zd hl14 (.lst ((us.drop D.P.length).map V.ref));exists l13,l14,_,_,rfl,rfl,s14' _ _ za,za,z9 (by rw[aA,aA,aG,length_take,length_drop];show _+1+_<=1000;omega),fun l15 hl15=>?_
   rw[<- aE];have s15:=zd hl15 (.lst ((us.take D.P.length++[p11]++us.drop D.P.length).map V.ref));have s1315:=s14'.trans s15;have s415:=s413.trans s1315;dsimp only[zJ];refine key _ _ (.inr ⟨by rw[hw];decide,l15,lb,⟨D.P,[⟨2,z,false⟩],D.G,D.B⟩,bars,_,_,_,rfl,s14.trans s415,⟨_,za,?_⟩,s415 _ _ hlb4,ze1 fd (fun r h=>by rw[List.mem_singleton.mp h];exact⟨rfl,hz⟩) (aF _) fd.b fd.lb⟩)
   have hT0:D.T=[]:=eq_nil_of_length_eq_zero hT;have pp:=zr s415 hu4;have pt:=uB pp D.P.length;have pd:=wy pp D.P.length;have et:D.rows.take D.P.length=D.P:=by unfold FD.rows;rw[List.take_append_of_le_length (aF _),take_length]
   have ed:D.rows.drop D.P.length=D.G++D.B:=by unfold FD.rows;rw[List.drop_append_of_le_length (aF _),List.drop_length,hT0];rfl
   rw[et] at pt;rw[ed] at pd;rw[show FD.rows ⟨D.P,[⟨2,z,false⟩],D.G,D.B⟩=(D.P++[⟨2,z,false⟩])++(D.G++D.B) by unfold FD.rows;simp]
   exact yu (yu pt (.cons (s1315 _ _ t13) .nil)) pd
 rintro σ7 H7 JJ;exists _,zg (zB (z7 (ac (pv 6) (ac (pv 1) zc)))),?_;rcases JJ with ⟨rfl,s5⟩|⟨hw,lm',lb',D',bars',v9,v10,v11,rfl,a1,a2,a3,a4⟩
 ·exists _,rfl,_,rfl,yG,fun t ht=>?_
  have s6:=zd ht (.tup [.ref lm,.ref lb]);have s46:=s5.trans s6;exact q t lm lb D bars _ (s14.trans s46) za ⟨us,s46 _ _ g1,zr s46 hu4⟩ (s46 _ _ hlb4) fd
 ·exists _,rfl,_,rfl,yG,fun t ht=>?_
  have s6:=zd ht (.tup [.ref lm',.ref lb']);exact q t lm' lb' D' bars' _ (a1.trans s6) za (a2.same s6) (s6 _ _ a3) a4
def may(b:Bool)(X:List Str)(z:Str):Bool:=decide (z∈X) != b
theorem zlz:(if b=true then decide (z∉X) else decide (z∈X))=may b X z:=by
 unfold may;cases b <;> by_cases h:z∈X <;> simp [h]
theorem zbJ(h:z∉X):may b X z=b:=by unfold may;rw[aD h];cases b <;> rfl
theorem xZ:acc (some (n,b,X)) names=true ↔ (∀z∈n,z∈names)/\∀z∈names,may b X z=true:=by
 unfold acc;rw[Bool.and_eq_true,all_eq_true,all_eq_true];refine and_congr (forall_congr' fun z=>forall_congr' fun _=>decide_eq_true_iff) (forall_congr' fun z=>forall_congr' fun _=>?_);rw[zlz]
theorem zj2(h:∀z,z∈a ↔ z∈c):acc x a=acc x c:=by
 cases x with
 | none=>rfl
 | some r=>
  obtain⟨n,b,X⟩:=r;rw[Bool.eq_iff_iff,xZ,xZ];exact⟨fun⟨p,q⟩=>⟨fun z hz=>(h z).mp (p z hz),fun z hz=>q z ((h z).mpr hz)⟩,fun⟨p,q⟩=>⟨fun z hz=>(h z).mpr (p z hz),fun z hz=>q z ((h z).mp hz)⟩⟩
def wk(st:Str)(x y:TR):Option (List Str):=match y with
 | none=>none
 | some (n',b',X')=>match x with
  | none=>some n'
  | some (n,b,X)=>if acc (some (n,b,X)) n'=true then ((X++X'++[st]).find? fun z=>may b' X' z&&!may b X z).map fun z=>z8 (n'++[z]) else some n'
variable {zs:List Str}{x y:TR}{st:Str}
theorem qH(hst:∀n b X n' b' X',x=some (n,b,X)->y=some (n',b',X')->st∉X++X')(h:wk st x y=none)(ns:List Str)(hy:acc y ns=true):acc x ns=true:=by
 cases ey:y with
 | none=>rw[ey] at hy;cases hy
 | some r'=>
  obtain⟨n',b',X'⟩:=r';cases ex:x with
  | none=>rw[ex,ey] at h;cases h
  | some r=>
   obtain⟨n,b,X⟩:=r;have hs:=hst n b X n' b' X' ex ey;rw[ex,ey] at h;rw[ey] at hy;unfold wk at h;dsimp only at h;by_cases a:acc (some (n,b,X)) n'=true
   ·rw[aK a,map_eq_none_iff,List.find?_eq_none] at h
    rw[xZ] at a hy |-;exists fun z hz=>hy.1 z (a.1 z hz),fun z hz=>?_;have hy2:=hy.2 z hz;by_cases hm:may b X z=true
    ·exact hm
    exfalso;by_cases hk:z∈X++X'
    ·exact h z (List.mem_append.mpr (.inl hk)) (by rw[hy2,Bool.eq_false_iff.mpr hm];rfl)
    ·have n1:z∉X:=fun c=>hk (List.mem_append.mpr (.inl c))
     have n2:z∉X':=fun c=>hk (List.mem_append.mpr (.inr c));have s1:st∉X:=fun c=>hs (List.mem_append.mpr (.inl c));have s2:st∉X':=fun c=>hs (List.mem_append.mpr (.inr c));rw[zbJ n1] at hm;rw[zbJ n2] at hy2;exact h st (by simp) (by rw[zbJ s1,zbJ s2,hy2,Bool.eq_false_iff.mpr hm];rfl)
   ·rw[aJ a] at h;cases h
structure zlW(x y:TR)(ns:List Str):Prop where
 ay:acc y ns=true
 ax:acc x ns=false
 nd:ns.Nodup
 so:z8 ns=ns
 mi:∀ns',ns'.Nodup->acc y ns'=true->acc x ns'=false->ns.length<=ns'.length
theorem za5(py:wT zs n' b' X')(hx:acc x n'=false):zlW x (some (n',b',X')) n':=
 ⟨zcZ py,hx,py.dn,py.sn,fun ns' nd h _=>yN n' ns' py.dn (xZ.mp h).1⟩
theorem zgd(py:wT zs n' b' X')(a:acc (some (n,b,X)) n'=true)(h1:may b' X' z=true)(h2:may b X z=false):z∉n'/\zlW (some (n,b,X)) (some (n',b',X')) (z8 (n'++[z])):=by
 have a2:=xZ.mp a;have hz:z∉n':=fun c=>by have:=a2.2 z c;rw[h2] at this;cases this
 have mm:∀w,w∈z8 (n'++[z]) ↔ w∈n'\/w=z:=fun w=>by rw[(zP _).mem_iff,mem_append,List.mem_singleton]
 have nd:(n'++[z]).Nodup:=List.nodup_append.mpr ⟨py.dn,by simp,fun p hp q hq e=>hz (by rw[<- List.mem_singleton.mp hq,<- e];exact hp)⟩
 exists hz,xZ.mpr ⟨fun w hw=>(mm w).mpr (.inl hw),fun w hw=>?_⟩,?_,(zP _).nodup_iff.mpr nd,uO.mpr (zP _),fun ns' nd' hy hx=>?_
 ·rcases (mm w).mp hw with hw|hw
  ·exact(xZ.mp (zcZ py)).2 w hw
  ·rw[hw];exact h1
 ·refine Bool.eq_false_iff.mpr fun c=>?_
  have:=(xZ.mp c).2 z ((mm z).mpr (.inr rfl))
  rw[h2] at this;cases this
 ·rw[(zP _).length_eq]
  have sub:=(xZ.mp hy).1;by_cases hw:∃w,w∈ns'/\w∉n'
  ·obtain⟨w,w1,w2⟩:=hw
   have:=yN (n'++[w]) ns' (List.nodup_append.mpr ⟨py.dn,by simp,fun p hp q hq e=>w2 (by rw[<- List.mem_singleton.mp hq,<- e];exact hp)⟩) (fun p hp=>by
    rcases List.mem_append.mp hp with hp|hp
    ·exact sub p hp
    ·rw[List.mem_singleton.mp hp];exact w1)
   rw[aG] at this |-;exact this
  ·exfalso
   have:acc (some (n,b,X)) ns'=acc (some (n,b,X)) n':=zj2 fun w=>⟨fun h=>Classical.byContradiction fun c=>hw ⟨w,h,c⟩,sub w⟩
   rw[this,a] at hx;cases hx
theorem qG(py:∀n b X,y=some (n,b,X)->wT zs n b X)(h:wk st x y=some ns):zlW x y ns:=by
 cases ey:y with
 | none=>rw[ey] at h;cases h
 | some r'=>
  obtain⟨n',b',X'⟩:=r';have P:=py _ _ _ ey;rw[ey] at h;cases ex:x with
  | none=>
   rw[ex] at h;cases h;exact za5 P rfl
  | some r=>
   obtain⟨n,b,X⟩:=r;rw[ex] at h;unfold wk at h;dsimp only at h;by_cases a:acc (some (n,b,X)) n'=true
   ·rw[aK a] at h
    obtain⟨z,hz,rfl⟩:=Option.map_eq_some_iff.mp h
    have:=List.find?_some hz
    rw[Bool.and_eq_true,Bool.not_eq_true'] at this;exact(zgd P a this.1 this.2).2
   ·rw[aJ a] at h
    cases h;exact za5 P (Bool.eq_false_iff.mpr a)
variable {D D':FD}{bars bars':List Str}
theorem zkm{M m:Nat}(h1:D.P.length+2<=M)(hm:M - 1<=m):sF D bars m=sF D bars (M - 1):=by
 unfold sF;rw[aJ (show ¬m<=D.P.length by omega),aJ (show ¬M - 1<=D.P.length by omega)]
def uw(D:FD)(bars:List Str)(D':FD)(bars':List Str)(m:Nat)(ns:List Str):Prop:=acc (sF D' bars' m) ns=true/\acc (sF D bars m) ns=false
def uJ(D:FD)(bars:List Str)(D':FD)(bars':List Str):Option (Nat×List Str)->Prop
 | none=>∀m ns,ns.Nodup->¬uw D bars D' bars' m ns
 | some (m,ns)=>uw D bars D' bars' m ns/\m<max D.P.length D'.P.length+2/\ns.Nodup/\z8 ns=ns/\∀m' ns',ns'.Nodup->uw D bars D' bars' m' ns'->m+ns.length<=m'+ns'.length
def Odd(st:Str)(x y:TR):Prop:=∀n b X n' b' X',x=some (n,b,X)->y=some (n',b',X')->st∉X++X'
theorem zaL{M:Nat}(h1:D.P.length+2<=M)(h2:D'.P.length+2<=M){m:Nat}(h:uw D bars D' bars' m ns):uw D bars D' bars' (min m (M - 1)) ns:=by
 rcases lt_or_ge m M with c|c
 ·rw[min_eq_left ∅];exact h
 ·rw[min_eq_right ∅]
  unfold uw at h |-;rw[<- zkm (bars:=bars) h1 (show M - 1<=m by omega),<- zkm (bars:=bars') h2 (show M - 1<=m by omega)]
  exact h
theorem zfx{M:Nat}(h1:D.P.length+2<=M)(h2:D'.P.length+2<=M)(st:Nat->Str)(ho:∀m,m<M->Odd (st m) (sF D bars m) (sF D' bars' m))(h:∀m,m<M->wk (st m) (sF D bars m) (sF D' bars' m)=none):uJ D bars D' bars' none:=fun m ns nd hp=>by
 obtain⟨a,b⟩:=zaL h1 h2 hp
 have:=qH (ho (min m (M - 1)) ∅) (h (min m (M - 1)) ∅) ns a
 rw[b] at this;cases this
theorem zfw(hy':z6 zs D' bars'){M:Nat}(eM:M=max D.P.length D'.P.length+2)(st:Nat->Str)(ho:∀m,m<M->Odd (st m) (sF D bars m) (sF D' bars' m)){m:Nat}(hm:m<M)(h:wk (st m) (sF D bars m) (sF D' bars' m)=some ns)
  (hb:∀m',m'<M->∀ns',wk (st m') (sF D bars m') (sF D' bars' m')=some ns'->m+ns.length<=m'+ns'.length):uJ D bars D' bars' (some (m,ns)):=by
 have B:=qG (fun n b X e=>ve hy' e) h;exists ⟨B.ay,B.ax⟩,∅,B.nd,B.so,fun m' ns' nd hp=>?_
 have hp2:=zaL (M:=M) ∅ ∅ hp
 have hlt:min m' (M - 1)<M:=by omega
 cases e:wk (st (min m' (M - 1))) (sF D bars (min m' (M - 1))) (sF D' bars' (min m' (M - 1))) with
 | none=>
  have:=qH (ho _ hlt) e ns' hp2.1
  rw[hp2.2] at this;cases this
 | some ns2=>
  have B2:=qG (fun n b X e=>ve hy' e) e;have h3:=B2.mi ns' nd hp2.1 hp2.2;have h4:=hb _ hlt ns2 e;omega
structure RT(K:Frag)(H:Hp)(t l0 l2:Addr)(n:List Str)(b:Bool)(X:List Str):Prop where
 at_:SqT K H t [.ref l0,.bl b,.ref l2]
 h0:H l0=some (.lst (n.map V.str))
 h2:H l2=some (.lst (X.map V.str))
theorem RT.same(h:RT K H t l0 l2 n b X)(s:zq H H'):RT K H' t l0 l2 n b X:=⟨s.sqT h.at_,s _ _ h.h0,s _ _ h.h2⟩
theorem zkn{ok:Addr->Prop}(h:zR K ok H 2 v (xL (some (n,b,X)))):∃t l0 l2,v=.ref t/\ok l0/\RT K H t l0 l2 n b X:=by
 obtain⟨t,l0,l2,e,h1,o0,_,h2,h3⟩:=ziD (m:=0) h;exact⟨t,l0,l2,e,o0,h1,h2,h3⟩
inductive zda(K:Frag)(vs:List V)(H:Hp)(Q:VK)(E:XK):Prop|mk(t l0 l2:Addr)(n X:List Str)(b:Bool)(z:Str):vs=[.ref t,.str z]->RT K H t l0 l2 n b X->(Q (.bl (may b X z)) H)->zda K vs H Q E
inductive zb7(K:Frag)(vs:List V)(H:Hp)(Q:VK)(E:XK):Prop|mk(t l0 l2 ln:Addr)(n X names:List Str)(b:Bool):vs=[.ref t,.ref ln]->RT K H t l0 l2 n b X->H ln=some (.lst (names.map V.str))->n.length<=100->names.length<=100->(∀H',zq H H'->Q (.bl (acc (some (n,b,X)) names)) H')->zb7 K vs H Q E
theorem zaa(h:z6 zs D bars)(l4:zs.length<=26):bars.length+(nms D.rows).length<64/\bars.length<=60:=by
 have enm:nms D.rows=nms D.P++nms D.G:=by have:=vg h (m:=0) (zero_le _);simpa using this
 have:=yN _ (zs++yC) h.nd h.zn
 rw[aG,aG,aG,show yC.length=0 from rfl] at this;rw[enm,aG];omega
inductive zep(K:Frag)(c:C5)(CF:Addr)(vs:List V)(H:Hp)(Q:VK)(E:XK):Prop|mk(f:Addr)(many:Nat)(D:FD)(bars zs:List Str):vs=[.ref f,.int (many:Nat)]->xG c CF H f D.rows bars->z6 zs D bars->zs.length<=26->(∀(v:V) (H':Hp),zq H H'->zR K (fun a=>H a=none) H' 2 v (xL (sF D bars many))->Q v H')->zep K c CF vs H Q E
theorem zbk:zA ["row","name","needed","has_bag","names"] ["row","name"] (zh zk4):=fsc
theorem zjr(F:Fun K "may_have" "may_have" zk4 f fd):↥1 f fd ["row","name"] (zda K):=by
 specialize zbk;obtain⟨t,l0,l2,n,X,b,z,rfl,R,q⟩:=h;refine zp (vt (pv 0) (y6 rfl (zN (zo (i:=2) zbk.nd rfl (Or.inl rfl)) (zN (zo (i:=3) zbk.nd rfl (Or.inl rfl)) (zN (zo (i:=4) zbk.nd rfl (Or.inl rfl)) yH))))) ?_;exists _,rfl,t,_,rfl,R.at_,rfl,_,_,rfl,_,_,rfl,_,_,rfl,rfl,?_;dsimp only[zJ];exists _,zg (zB (xB qK (xB yi (pv 1) (pv 4) (by with_unfolding_all rfl)) (pv 3) (zF _))),?_
 exists _,rfl,_,rfl,l2,_,rfl,.inl (zf R.h2),rfl,yQ,?_;rw[aJ zft,xp];exists _,rfl,rfl,?_;have e:(!decide (V.bl (decide (z∈X))=V.bl b))=may b X z:=by
  unfold may;by_cases h:z∈X <;> cases b <;> simp [h]
 rw[e];exact q
theorem zmB:([Str.ofString "name",Str.ofString "names"]:List Str).Nodup:=by decide +kernel
theorem zmA:([Str.ofString "name",Str.ofString "row"]:List Str).Nodup:=by decide +kernel
theorem zgG:zA ["row","names"] ["row","names"] (zh zbv):=fsc
theorem zfD(F:Fun K "takes" "takes" zbv f fd)(hal:mg "all"=none)(cM:⇑1 "may_have" g1 e1 ["row","name"] (zda K)):↥2 f fd ["row","names"] (zb7 K):=by
 specialize zgG;obtain⟨t,l0,l2,ln,n,X,names,b,rfl,R,hln,ln1,ln2,q⟩:=h;refine⟨_,zg (zB (zbG (cB (jA rfl) hal boot_all (ac (yY ["names"] ["name","names"] [none,some 1] rfl ⟨rfl,rfl,rfl,rfl⟩ (zM (zC zG (pv 0) ze (fun _ _=>rfl))) (zK 0) rfl rfl rfl
  (fun pins fp s H C=>⟨zo (i:=0) zmB rfl (Or.inl rfl) (.inr rfl),yV,xB (r:=rIn K false) yi (pv 0) (pv 1) (by with_unfolding_all rfl)⟩)) zc))
  (zbE (cB (jA rfl) hal boot_all (ac (yY ["row"] ["name","row"] [none,some 0] rfl ⟨rfl,rfl,rfl,rfl⟩ (zM (pv 1)) (zK 0) rfl rfl rfl
  (fun pins fp s H C=>⟨zo (i:=0) zmA rfl (Or.inl rfl) (.inr rfl),yV,cF cM hr (ac (pv 1) (ac (pv 0) zc))⟩)) zc))))),?_⟩
 exists _,rfl,t,_,0,.ref l0,rfl,rfl,R.at_,rfl,l0,rfl,⟨_,zf R.h0⟩,fun D1 hD1=>?_;refine vA (K:=K) (xs:=n.map V.str) n (fun _=>true) (fun z=>.bl (decide (z∈names))) hD1 (zf R.h0) (by rw[aA]) (by rw[aA];omega) (fun i x y H' N S hx hy sH n1 s1=>?_) (fun H1 s1 e1=>?_)
 ·obtain⟨y',hy',rfl⟩:=strs_at hx
  rw[hy] at hy';cases hy';refine⟨fun _=>?_,fun e=>by cases e⟩
  exists _,rfl,_,rfl,ln,_,rfl,.inl (zf (sH _ _ hln)),rfl,yQ,?_;rw[aJ zft,xp];exact n1 _ (zq.refl _) rfl
 have e1:H1 D1=some (.lst ((n.map fun z=>decide (z∈names)).map V.bl)):=by rw[e1,List.filter_eq_self.mpr (fun _ _=>rfl),map_map];rfl
 exists D1,_,rfl,zf e1,_,rfl,?_;rw[show((n.map fun z=>decide (z∈names)).all id)=n.all (fun z=>decide (z∈names)) by rw[all_map];rfl]
 have R1:=R.same s1;have ac2:acc (some (n,b,X)) names=(n.all (fun z=>decide (z∈names))&&names.all (may b X)):=by
  rw[Bool.eq_iff_iff,xZ,Bool.and_eq_true,all_eq_true,all_eq_true];exact and_congr (forall_congr' fun z=>forall_congr' fun _=>decide_eq_true_iff.symm) Iff.rfl
 rw[ac2] at q;cases hA:n.all (fun z=>decide (z∈names)) with
 | false=>
  rw[hA] at q;refine yD ?_;exact q _ s1
 | true=>
  rw[hA] at q;refine xO ?_;exists _,rfl,ln,rfl,⟨_,zf (s1 _ _ hln)⟩,fun D2 hD2=>?_;refine vA (K:=K) (xs:=names.map V.str) names (fun _=>true) (fun z=>.bl (may b X z)) hD2 (zf (s1 _ _ hln)) (by rw[aA]) (by rw[aA];omega) (fun i x y H' N S hx hy sH n1 s1=>?_) (fun H2 s2 e2=>?_)
  ·obtain⟨y',hy',rfl⟩:=strs_at hx
   rw[hy] at hy';cases hy';refine⟨fun _=>?_,fun e=>by cases e⟩
   exact⟨_,rfl,_,rfl,t,l0,l2,n,X,b,y,rfl,R1.same sH,n1 _ (zq.refl _) rfl⟩
  have e2:H2 D2=some (.lst ((names.map fun z=>may b X z).map V.bl)):=by rw[e2,List.filter_eq_self.mpr (fun _ _=>rfl),map_map];rfl
  exists D2,_,rfl,zf e2,?_;rw[show((names.map fun z=>may b X z).all id)=names.all (may b X) by rw[all_map];rfl]
  exact q _ (s1.trans s2)
theorem ziS:zA ["form","many"] ["form","many"] (zh zdg):=fsc
theorem zhA(F:Fun K "row_at" "row_at" zdg f fd)(FK:FC K CF)(cR:⇑3 "row_of" g1 e1 ["form","many"] (za8 K c CF))(mP:xv K CF "places" gP)(GP:↥1 gP eP ["self"] (wu c CF))(bP:yc K eP ["self"] [])(mT:xv K CF "tail" gT)(GT:↥1 gT eT ["self"] (vm c CF 2))(bT:yc K eT ["self"] []):↥4 f fd ["form","many"] (zep K c CF):=by
 specialize ziS;obtain⟨f,many,D,bars,zs,rfl,hF,fd,l4,q⟩:=h;have hr1:yk 1 _:=hr.mono ⋯
 have l24:=uF fd;obtain⟨l64,l60⟩:=zaa fd l4;obtain⟨dx,fs,lr,lb',ld,ps,h1,h2,_⟩:=id hF.at_;have epl:=xu fd;refine zp (zS (zm zeJ (pv 1) (yy (pv 0) FK.cl mP GP hr1 bP .nil yt) (zF _)) (zg (zB (cF cR hr (ac (pv 0) (ac (pv 1) zc))))) zD) ?_;exists _,rfl,_,rfl,f,dx,fs,rfl,h1,h2.no _ (by decide +kernel),f,D.rows,bars,rfl,hF.at_,_,_,rfl,rfl,_,rfl,?_
 unfold sF at q;rw[epl];by_cases hm:many<=D.P.length
 ·refine dT (by show((many:Nat):Int)<=((D.P.length:Nat):Int);omega) ?_
  rw[aK hm] at q;exact⟨_,rfl,_,rfl,f,many,D.rows,bars,rfl,hF,l24,l60,l64,q⟩
 refine dF (by show ¬((many:Nat):Int)<=((D.P.length:Nat):Int);omega) ?_
 rw[aJ hm] at q;exists _,zg (zB (qE (wb (vz (yy (pv 0) FK.cl mT GT hr1 bT .nil yt))) qC (cF cR hr (ac (pv 0) (ac (yy (pv 0) FK.cl mP GP hr1 bP .nil yt) zc))))),?_;exists _,rfl,f,dx,fs,rfl,h1,h2.no _ (by decide +kernel),f,D.rows,bars,rfl,hF.at_,_,rfl,?_
 have et:=xS fd;cases ht:D.tl with
 | false=>
  rw[ht] at et q;refine dT (xh.mpr et) ?_;exact q .non H (zq.refl _) .non
 | true=>
  rw[ht] at et q;refine dF (fun h=>by rw[xh.mp h] at et;cases et) ?_
  exists _,rfl,_,rfl,f,dx,fs,rfl,h1,h2.no _ (by decide +kernel),f,D.rows,bars,rfl,hF.at_,?_
  rw[epl];exact⟨f,D.P.length,D.rows,bars,rfl,hF,l24,l60,l64,q⟩
def vM(k:Nat):Str:=if k<26 then ⟨#[97+k]⟩ else ⟨#[97+k / 26,97+k % 26]⟩
theorem zfM{k:Nat}(h:k<676):zU (vM k)=true:=by
 unfold vM;split
 ·exact xU (l:=[97+k]) (by simp) (by simp) (fun c hc=>by rw[List.mem_singleton.mp hc];omega)
 ·refine xU (l:=[97+k / 26,97+k % 26]) (by simp) (by simp) (fun c hc=>?_)
  have:=mod_lt k (show 26>0 by decide)
  have h2:k / 26<26:=by omega
  rcases List.mem_cons.mp hc with e|hc
  ·omega
  ·rw[List.mem_singleton.mp hc];omega
theorem zcB{j k:Nat}(h:vM j=vM k):j=k:=by
 unfold vM at h;split at h <;> split at h
 ·have:=wB (l:=[97+j]) (m:=[97+k]) h
  have:=List.cons.inj this
  omega
 ·have:=wB (l:=[97+j]) (m:=[97+k / 26,97+k % 26]) h
  simp at this
 ·have:=wB (l:=[97+j / 26,97+j % 26]) (m:=[97+k]) h
  simp at this
 ·have:=wB (l:=[97+j / 26,97+j % 26]) (m:=[97+k / 26,97+k % 26]) h
  have h1:=List.cons.inj this;have h2:=List.cons.inj h1.2;have e1:=Nat.div_add_mod j 26;have e2:=Nat.div_add_mod k 26;have a1:j / 26=k / 26:=by omega
  have a2:j % 26=k % 26:=by omega
  rw[<- e1,<- e2,a1,a2]
inductive zgu(vs:List V)(H:Hp)(Q:VK)(E:XK):Prop|mk(k:Nat):vs=[.int (k:Nat)]->k<676->(∀H',zq H H'->Q (.str (vM k)) H')->zgu vs H Q E
inductive zkc(vs:List V)(H:Hp)(Q:VK)(E:XK):Prop|mk(l:Addr)(xs:List Str):vs=[.ref l]->H l=some (.lst (xs.map V.str))->xs.length<=200->(∀(st:Str) (H':Hp),zq H H'->zU st=true->st∉xs->Q (.str st) H')->zkc vs H Q E
inductive zkb(K:Frag)(vs:List V)(H:Hp)(Q:VK)(E:XK):Prop|mk(t l0 l2 t' l0' l2':Addr)(n X n' X':List Str)(b b':Bool):vs=[.ref t,.ref t']->RT K H t l0 l2 n b X->RT K H t' l0' l2' n' b' X'->X.length<=64->X'.length<=64->(∀(st:Str) (l:Addr) (H':Hp),zq H H'->zU st=true->st∉X++X'->H' l=some (.lst ((X++X'++[st]).map V.str))->Q (.ref l) H')->zkb K vs H Q E
theorem uz:zA ["number","rest","at","name"] ["number"] (zh jn):=fsc
theorem zjq(F:Fun K "numbered_name" "numbered_name" jn f fd)(T:zlQ K mg)(hdm:mg "divmod"=none):↥1 f fd ["number"] zgu:=by
 specialize uz;obtain⟨k,rfl,hk,q⟩:=h;obtain⟨tL,hL⟩:=T.letters;have l26:(letters.length:Int)=26:=by decide +kernel
 have lsz:letters.length<=sizeLine:=by decide +kernel
 have lat:∀j,j<26->letters.cps.toList[j]?=some (97+j):=zeb;refine zp (vt (cB jK hdm boot_divmod (ac (pv 0) (ac (cB vC T.len PySem.boot_len (ac (xN (v:=.str letters) rfl hL ⟨_,rfl⟩) zc)) zc))) (y6 rfl (zN (zo (i:=1) uz.nd rfl (Or.inl rfl)) (zN (zo (i:=2) uz.nd rfl (Or.inl rfl)) yH)))) ?_;exists _,rfl,letters,rfl,lsz,_,_,rfl,by rw[l26];exact⟨⋯,⋯⟩,fun p1 hp1=>?_
 rw[l26];have s1:=zd hp1 (.tup [.int ((k:Int) / 26),.int ((k:Int) % 26)]);exists p1,_,rfl,zy za,rfl,_,_,rfl,_,_,rfl,rfl,?_;generalize upd H p1 (.tup [.int ((k:Int) / 26),.int ((k:Int) % 26)])=H1 at s1 |-;dsimp only[zJ];have e1:(k:Int) / 26=((k / 26:Nat):Int):=by omega
 have e2:(k:Int) % 26=((k % 26:Nat):Int):=by omega
 rw[e1,e2];refine uz[3]'(zC vO (xN (v:=.str letters) rfl hL ⟨_,rfl⟩) (pv 2) (fun _ _=>rfl));exists _,rfl,letters,_,97+k % 26,rfl,rfl,lsz,wK (lat _ (mod_lt _ ⋯)),?_
 dsimp only[zJ];refine zp (qA PassesOwn.never (zhb (pv 1) (fun _=>rfl)) (zu (vt (cB jK hdm boot_divmod (ac (pv 1) (ac (cB vC T.len PySem.boot_len (ac (xN (v:=.str letters) rfl hL ⟨_,rfl⟩) zc)) zc))) (y6 rfl (zN (zo (i:=1) uz.nd rfl (Or.inl rfl)) (zN (zo (i:=2) uz.nd rfl (Or.inl rfl)) yH))))
  (zg (zx (i:=3) uz.nd rfl (Or.inl rfl) (zk xE (zC vO (xN (v:=.str letters) rfl hL ⟨_,rfl⟩) (pv 2) (fun _ _=>rfl)) (pv 3)))))) ?_
 exists fun mm σ H'=>∃v2 z,σ=[some (.int (k:Nat)),some (.int (mm:Nat)),v2,some (.str z)]/\zq H H'/\((mm=k / 26/\z=⟨#[97+k % 26]⟩)\/(mm=0/\z=vM k)),⟨k / 26,_,_,rfl,s1,.inl ⟨rfl,rfl⟩⟩,?_;rintro mm σ H2 ⟨v2,z,rfl,s2,hz⟩;exists _,rfl,_,rfl,?_;by_cases h0:mm=0
 ·subst h0
  refine yD ?_;have ez:z=vM k:=by
   rcases hz with ⟨a,b⟩|⟨_,b⟩
   ·rw[b]
    unfold vM;rw[aK ∅,Nat.mod_eq_of_lt ∅]
   ·exact b
  rw[ez];exact⟨_,zg (zB (pv 3)),_,rfl,q _ s2⟩
 ·refine xA (by rw[bne_iff_ne];omega) ?_
  obtain⟨em,ez⟩:mm=k / 26/\z=⟨#[97+k % 26]⟩:=hz.resolve_right fun c=>h0 c.1;exists fun σ' H'=>∃v2 z,σ'=[some (.int (k:Nat)),some (.int ((0:Nat):Int)),v2,some (.str z)]/\zq H H'/\((0=k / 26/\z=⟨#[97+k % 26]⟩)\/((0:Nat)=0/\z=vM k)),fun σ' H' w=>⟨0,∅,w⟩,?_
  exists _,rfl,letters,rfl,lsz,_,_,rfl,by rw[l26];exact⟨⋯,⋯⟩,fun p2 hp2=>?_
  rw[l26];have f1:((mm:Nat):Int) / 26=((0:Nat):Int):=by omega
  have f2:((mm:Nat):Int) % 26=((mm:Nat):Int):=by omega
  rw[f1,f2];have s3:=zd hp2 (.tup [.int ((0:Nat):Int),.int ((mm:Nat):Int)]);exists p2,_,rfl,zy za,rfl,_,_,rfl,_,_,rfl,rfl,?_;generalize upd H2 p2 (.tup [.int ((0:Nat):Int),.int ((mm:Nat):Int)])=H3 at s3 |-;exists _,rfl,letters,_,97+mm,rfl,rfl,lsz,wK (lat _ ∅),_,rfl,_,_,rfl,rfl,z9 (by rw[ez];show 1+1<=1000;decide),?_
  exists _,_,rfl,s2.trans s3,.inr ⟨rfl,?_⟩;rw[ez];unfold vM;rw[aJ ∅,em]
  rfl
theorem zgH:zA ["known","number"] ["known"] (zh qr):=fsc
theorem zdD(F:Fun K "strange_name" "strange_name" qr f fd)(cN:⇑1 "numbered_name" g1 e1 ["number"] zgu):↥2 f fd ["known"] zkc:=by
 specialize zgH;obtain⟨l,xs,rfl,hl,l2,q⟩:=h;refine zgH[1]'ze;refine zp (qA PassesOwn.never (zm yi (cF cN hr (ac (pv 1) zc)) (pv 0) (by with_unfolding_all rfl)) (zg (zle (i:=1) zgH.nd rfl (Or.inl rfl) ze zlF))) ?_
 exists fun mm σ H'=>∃(k:Nat),σ=[~~~l,some (.int (k:Nat))]/\mm+k=201/\zq H H'/\∀j,j<k->vM j∈xs,⟨201,0,rfl,rfl,zq.refl _,fun j hj=>absurd hj (not_lt_zero _)⟩,?_;rintro mm σ H2 ⟨k,rfl,hm,s2,hj⟩;have hkl:k<=200:=by
  have nd:((List.range k).map vM).Nodup:=List.Pairwise.map _ (fun a b h e=>h (zcB e)) nodup_range
  have:=yN ((List.range k).map vM) xs nd (fun z hz=>by
   obtain⟨j,hj',rfl⟩:=List.mem_map.mp hz;exact hj j (List.mem_range.mp hj'))
  rw[aA,length_range] at this;omega
 exists _,rfl,k,rfl,∅,fun H3 s3=>?_
 have hl3:=(s2.trans s3) _ _ hl;exists _,rfl,l,_,rfl,.inl (zf hl3),rfl,yQ,_,rfl,?_;rw[aJ zft,xp];by_cases hin:vM k∈xs
 ·refine dT hin ?_
  exists fun σ' H'=>∃(k':Nat),σ'=[~~~l,some (.int (k':Nat))]/\(mm - 1)+k'=201/\zq H H'/\∀j,j<k'->vM j∈xs,fun σ' H' w=>⟨mm - 1,∅,w⟩,?_
  exists _,rfl,_,_,rfl,rfl,?_;exists k+1,(by show[some (V.ref l),some (V.int (((k:Nat):Int)+1))]=_;rw[show((k:Nat):Int)+1=((k+1:Nat):Int) by omega]),∅,s2.trans s3,fun j hj'=>?_
  rcases lt_or_ge j k with c|c
  ·exact hj j c
  ·have:j=k:=by omega
   rw[this];exact hin
 ·refine dF hin ?_
  exists _,zg (zB (cF cN hr (ac (pv 1) zc))),_,rfl,k,rfl,∅,fun H4 s4=>?_
  exact q _ _ (s2.trans (s3.trans s4)) (zfM ∅) hin
theorem zkj:zA ["one_row","other_row","known"] ["one_row","other_row"] (zh zkY):=fsc
theorem zlo(F:Fun K "names_to_try" "names_to_try" zkY f fd)(cS:⇑2 "strange_name" g1 e1 ["known"] zkc):↥3 f fd ["one_row","other_row"] (zkb K):=by
 specialize zkj;obtain⟨t,l0,l2,t',l0',l2',n,X,n',X',b,b',rfl,R,R',lX,lX',q⟩:=h;refine zkj[2]'(zk yA (zC zG (pv 0) ze (fun _ _=>rfl)) (zC zG (pv 1) ze (fun _ _=>rfl)));exists _,rfl,t,_,2,.ref l2,rfl,rfl,R.at_,rfl,_,rfl,t',_,2,.ref l2',rfl,rfl,R'.at_,rfl,l2,l2',_,_,rfl,rfl,R.h2,R'.h2,z9 (by rw[aA,aA];omega),fun lk hlk=>?_
 rw[<- aE]
 injections lk hlk H1 s1 g1
 dsimp only[zJ];exists _,zg (zB (zk yA (pv 2) (zT (ac (cF cS hr (ac (pv 2) zc)) zc)))),?_;exists _,rfl,_,rfl,lk,X++X',rfl,g1,by rw[aG];omega,fun st H2 s2 hn hs=>⟨ux,fun l3 hl3=>?_⟩
 have s3:=zd hl3 (.lst [.str st]);exists lk,l3,_,_,rfl,rfl,(s2.trans s3) _ _ g1,za,z9 (by rw[aA,aG];show _+1<=1000;omega),fun l4 hl4=>?_
 have s4:=zd hl4 (.lst ((X++X').map V.str++[.str st]));exact q st l4 _ (s1.trans (s2.trans (s3.trans s4))) hn hs (by rw[za,aE (l₁:=X++X')];rfl)
end
end K84
namespace L2
open PySem PySem.Spec PyProof.Rows
section
variable {E:VSP}{l I S:Addr}{vs:List Value}
theorem zfQ(a v d:Value):argsOk "min" ⟨[a],[(Str.ofString "key",v),(Str.ofString "default",d)]⟩:=by unfold argsOk;kernel_rfl
theorem qa:∀{us:List Addr}{its:List Value},zV (us.map V.ref) its->its=us.map Value.ref
 | [],_,.nil=>rfl
 | u::us,_,.cons r t=>by
  rw[map_cons,<- qa t];have r:_=Value.ref u:=r;rw[r]
variable {us:List Addr}{kf:Nat->Int}
def zkx(X:Cx)(σ : St)(H:Hp)(q:Addr)(us:List Addr)(kf:Nat->Int):Prop:=∀(i:Nat) u,us[i]?=some u->∀(pins':PnL) s,Inv X pins' σ H s->wpAny (model X.prog X.w) X.A.in1 (call (.ref q) [.ref u]) (EP X pins' σ (fun v H'=>v=.int (kf i)/\H'=H)) (fun _ _=>False) s
theorem ub(I0:Inv X pins σ H s)(hS:SqL X.K H l (us.map V.ref)):s.heap.IsList l (us.map Value.ref).toArray:=by
 obtain⟨its,rv,hpl,_⟩:=I0.list hS;rw[qa rv] at hpl;exact hpl.isList
theorem zfP{R:Result->Shared->Prop}(hc:X.calm=true)(hS:SqL X.K H l (us.map V.ref))(fI:xQ X pins H I)(fS:xQ X pins H S)(hlI:l≠I)(hSI:S≠I)(turn:zkx X σ H q us kf)
  (hR:∀(i:Nat) u s',us[i]?=some u->(∀j,j<us.length->kf i<=kf j)->Inv X pins σ H s'->R (.ok (.ret (.ref u))) s') :
  ∀(r j i:Nat) s vb tb (c:Nat),us.length - (j+1)=r->j+1<=us.length->Inv X pins σ H s->s.heap.get? S=some (seqObj "list" #[.ref vb,.int (kf i) tb] c)->s.heap.IsListIter I l (j+1)->us[i]?=some vb->i<=j->(∀j',j'<=j->kf i<=kf j')->
   codeAny (model X.prog X.w) X.A (.builtin "min.loop" ⟨[.ref I,.ref q,.ref S],[(Str.ofString "default",.none)]⟩) R s:=by
 have hname:(toString "min"++toString ".loop" : String)="min.loop":=by decide
 have fp:∀b∈[I,S],xQ X pins H b:=fun b hb=>by
  rcases List.mem_cons.mp hb with e|hb
  ·rw[e];exact fI
  ·rw[List.mem_singleton.mp hb];exact fS
 intro r;induction r with
 | zero=>
  intro j i s vb tb c hr hj I0 nS hit hvb hij hbest;have W:=Walks.list (prog:=X.prog) (w:=X.w) (A:=X.A.in1) (I0.ok.hd hc) I l hlI (us.map Value.ref).toArray;have hsz:(us.map Value.ref).toArray.size=us.length:=by rw[size_toArray,aA]
  have hin:j+1=us.length:=by omega
  refine codeAny_builtin PySem.F.entry_min_loop ?_;rw[Around.under_plainId PySem.F.plain_min_loop _];show wpAny _ X.A.in1 (seqItems? (.ref S) >>= _) _ _ _;refine zwb (wpAny_seqItems nS rfl ?_);show wpAny _ X.A.in1 (tryCatch (pyNext (.ref I)) _ >>= _) _ _ _;refine zwb (wpAny_tryCatch (W.done _ _ _ ⟨by rw[hsz,<- hin];exact hit,ub I0 hS⟩ fun h' tk' hk'=>?_))
  have I1:Inv X pins σ H { s with heap:=h',toks:=tk' }:=I0.turnedL (ch:=[I,S]) fp fun b o hb e=>hk' b o (fun z=>hb (by rw[List.mem_singleton.mp z];exact mem_cons_self)) e
  have hS':=hk' S _ (by simpa using hSI) nS
  show wpAny _ X.A.in1 (updateSeq S (fun _=>#[]) >>= _) _ _ _;refine zwb ?_;refine wpAny_updateSeq hS' rfl (zwb (wpAny_letGo (zwp ?_)));refine hR i vb _ hvb (fun j' hj'=>hbest j' ∅) ?_
  exact I1.turnedL (ch:=[I,S]) fp fun b o hb e=>(Heap.get?_update_other _ _ (fun z=>hb (by rw[<- z];simp))).trans e
 | succ r ih=>
  intro j i s vb tb c hr hj I0 nS hit hvb hij hbest;have W:=Walks.list (prog:=X.prog) (w:=X.w) (A:=X.A.in1) (I0.ok.hd hc) I l hlI (us.map Value.ref).toArray;have hsz:(us.map Value.ref).toArray.size=us.length:=by rw[size_toArray,aA]
  have hlt:j+1<us.length:=by omega
  refine codeAny_builtin PySem.F.entry_min_loop ?_;rw[Around.under_plainId PySem.F.plain_min_loop _];show wpAny _ X.A.in1 (seqItems? (.ref S) >>= _) _ _ _;refine zwb (wpAny_seqItems nS rfl ?_);show wpAny _ X.A.in1 (tryCatch (pyNext (.ref I)) _ >>= _) _ _ _;refine zwb (wpAny_tryCatch (W.item (j+1) _ _ _ (by rw[hsz];exact hlt) ⟨hit,ub I0 hS⟩ fun v h' tk' hP hst' hk'=>?_))
  obtain⟨u,hu,rfl⟩:∃u,us[j+1]?=some u/\v=.ref u:=by
   have hv:(us.map Value.ref)[j+1]?=some v:=by simpa using hP
   rw[getElem?_map] at hv;obtain⟨u,h1,h2⟩:=Option.map_eq_some_iff.mp hv;exact⟨u,h1,h2.symm⟩
  have I1:Inv X pins σ H { s with heap:=h',toks:=tk' }:=I0.turnedL (ch:=[I,S]) fp fun b o hb e=>hk' b o (fun z=>hb (by rw[List.mem_singleton.mp z];exact mem_cons_self)) e
  have nS1:=hk' S _ (by simpa using hSI) nS
  obtain⟨oI,hoI,hoc,hod⟩:=id hst'.1;have I1p:Inv X (pins++vw [I,S] h') σ H { s with heap:=h',toks:=tk' }:=I1.pinned fp fun b hb=>by
   rcases List.mem_cons.mp hb with e|hb
   ·rw[e];exact⟨oI,hoI,fun v q=>by rw[hod] at q;cases q⟩
   ·rw[List.mem_singleton.mp hb];exact⟨_,nS1,fun v q=>by cases q⟩
  show wpAny _ X.A.in1 (tryCatch (holding [.ref u] (call (.ref q) [.ref u])) _ >>= _) _ _ _;refine zwb (wpAny_tryCatch (wpAny_holding (wpAny_mono (turn (j+1) u hu _ _ I1p) (fun x s2 he=>?_) fun _ _ hF=>hF.elim)));obtain⟨v2,H2,I2p,rv2,rfl,rfl⟩:=he;obtain⟨t2,rfl⟩:=rv2;have I2:=I2p.unpinned;have nS2:=(I2p.pin (S,_) (mem_append_right _ (mem_append_right _ (yF (by simp) nS1)))).1
  have nI2:=(I2p.pin (I,_) (mem_append_right _ (mem_append_right _ (yF (by simp) hoI)))).1
  dsimp only at nS2 nI2;show wpAny _ X.A.in1 (tryCatch (holding [.ref u,.int (kf (j+1)) t2] (richCompare .Lt (.int (kf (j+1)) t2) (.int (kf i) tb) >>= _)) _ >>= _) _ _ _;refine zwb (wpAny_tryCatch (wpAny_holding (zwb (CmpOf.ints_lt (prog:=X.prog) (w:=X.w) (A:=X.A.in1) (P:=fun i v=>∃t,v=.int (kf i) t) kf (fun i v h=>h) (j+1) i _ _ _ _ _ ⟨t2,rfl⟩ ⟨tb,rfl⟩ ?_))));refine zwb (wpAny_holding (wpAny_truthy_bool ?_));refine zwb (wpAny_letGo (zwp ?_));by_cases hb':kf (j+1)<kf i
  ·obtain⟨c2,hc2⟩:∃c2,(s2.heap.update S (Obj.mapSeq fun _=>#[.ref u,.int (kf (j+1)) t2])).get? S=some (seqObj "list" #[.ref u,.int (kf (j+1)) t2] c2):=⟨_,get?_update_seq nS2 fun _=>#[.ref u,.int (kf (j+1)) t2]⟩
   simp only[hb',decide_true,if_true];refine zwb ?_;refine wpAny_updateSeq nS2 rfl (zwb (wpAny_letGo ?_));rw[hname];refine zwp ⟨plainId_quiet PySem.F.plain_min_loop _,ih (j+1) (j+1) _ u t2 c2 ∅ hlt (I2.turnedL (ch:=[I,S]) fp fun b o hb e=>(Heap.get?_update_other _ _ (fun z=>hb (by rw[<- z];simp))).trans e) hc2 ⟨oI,(Heap.get?_update_other _ _ hSI).trans nI2,hoc,hod⟩ hu (aF _) fun j' hj'=>?_⟩
   by_cases e:j'=j+1
   ·subst e;omega
   ·have hb1:=hbest j' ∅
    omega
  ·simp only[hb',decide_false,Bool.false_eq_true,if_false]
   refine zwb (wpAny_letGo ?_);rw[hname];refine zwp ⟨plainId_quiet PySem.F.plain_min_loop _,ih (j+1) i _ vb tb c ∅ hlt I2 nS2 ⟨oI,nI2,hoc,hod⟩ hvb ∅ fun j' hj'=>?_⟩
   by_cases e:j'=j+1
   ·subst e;omega
   ·exact hbest j' ∅
theorem zf9{Q:VSP}{E:VSP}(hc:X.calm=true)(I0:Inv X pins σ H s)(hS:SqL X.K H l (us.map V.ref))(turn:zkx X σ H q us kf)
  (hQ0:us=[]->∀s',Inv X pins σ H s'->Q .none s')
  (hQ:∀(i:Nat) u s',us[i]?=some u->(∀j,j<us.length->kf i<=kf j)->Inv X pins σ H s'->Q (.ref u) s') :
  ↑X (call (.builtin "min") [.ref l] [(Str.ofString "key",.ref q),(Str.ofString "default",.none)]) Q E s:=by
 have hname:(toString "min"++toString ".loop" : String)="min.loop":=by decide
 have hl:=ub I0 hS;obtain⟨ol,hol,_⟩:=id hl;have hll:l<s.heap.objs.size:=aI hol;refine kmb_tree PySem.F.kind_min PySem.F.plain_min PySem.F.entry_min (zfQ _ _ _) ?_;show wpAny _ X.A.in1 (Builtin.Builtins.bindParams "min" ["key","default"] 0 ⟨[],[(Str.ofString "key",.ref q),(Str.ofString "default",.none)]⟩ >>= _) _ _ s;refine zwb (wpAny_of_eq (show Builtin.Builtins.bindParams "min" ["key","default"] 0 ⟨[],[(Str.ofString "key",.ref q),(Str.ofString "default",.none)]⟩=pure [~~~q,some .none] from rfl) ?_);refine zwb (zwp ?_);refine zwb (wpAny_pyIter_list hl ?_);refine zwb (wpAny_newList ?_ (zero_le _));rw[hname];have hSz:(s.heap.push { cls:=.type "list_iterator",data:=.fields #[.ref l,.int 0 0] }).objs.size=s.heap.objs.size+1:=size_push' ..;have hlI:l≠s.heap.objs.size:=ne_of_lt hll;have hSI:(s.heap.push { cls:=.type "list_iterator",data:=.fields #[.ref l,.int 0 0] }).objs.size≠s.heap.objs.size:=by rw[hSz];exact ne_of_gt (lt_succ_self _)
 refine zwp ⟨plainId_quiet PySem.F.plain_min_loop _,?_⟩;have gI:((s.heap.push { cls:=.type "list_iterator",data:=.fields #[.ref l,.int 0 0] }).push (seqObj "list" #[] 0)).get? s.heap.objs.size=some { cls:=.type "list_iterator",data:=.fields #[.ref l,.int 0 0] }:=
  zgp _ (zgs _ rfl)
 have gS:((s.heap.push { cls:=.type "list_iterator",data:=.fields #[.ref l,.int 0 0] }).push (seqObj "list" #[] 0)).get? (s.heap.push { cls:=.type "list_iterator",data:=.fields #[.ref l,.int 0 0] }).objs.size=some (seqObj "list" #[] 0):=zgs _ rfl;have old:∀b o,s.heap.get? b=some o->((s.heap.push { cls:=.type "list_iterator",data:=.fields #[.ref l,.int 0 0] }).push (seqObj "list" #[] 0)).get? b=some o:=fun b o e=>zgp _ (zgp _ e);have fI:xQ X pins H s.heap.objs.size:=I0.fpOk (aF _) (I0.hok.fresh (aF _));have fS:xQ X pins H (s.heap.push { cls:=.type "list_iterator",data:=.fields #[.ref l,.int 0 0] }).objs.size:=I0.fpOk (by rw[hSz];exact le_succ _) (I0.hok.fresh (by rw[hSz];exact le_succ _))
 generalize (s.heap.push { cls:=.type "list_iterator",data:=.fields #[.ref l,.int 0 0] }).push (seqObj "list" #[] 0)=hp at gI gS old |-;generalize (s.heap.push { cls:=.type "list_iterator",data:=.fields #[.ref l,.int 0 0] }).objs.size=S at hSI gS fS |-;generalize s.heap.objs.size=I at hlI hSI gI fI |-;have I1:Inv X pins σ H { s with heap:=hp }:=I0.kept (t':=s.toks) old
 have fp:∀b∈[I,S],xQ X pins H b:=fun b hb=>by
  rcases List.mem_cons.mp hb with e|hb
  ·rw[e];exact fI
  ·rw[List.mem_singleton.mp hb];exact fS
 have W:=Walks.list (prog:=X.prog) (w:=X.w) (A:=X.A.in1) (I0.ok.hd hc) I l hlI (us.map Value.ref).toArray;have hsz:(us.map Value.ref).toArray.size=us.length:=by rw[size_toArray,aA]
 have hl1:hp.IsList l (us.map Value.ref).toArray:=ub I1 hS;refine codeAny_builtin PySem.F.entry_min_loop ?_;rw[Around.under_plainId PySem.F.plain_min_loop _];show wpAny _ X.A.in1 (seqItems? (.ref _) >>= _) _ _ _;refine zwb (wpAny_seqItems gS rfl ?_);show wpAny _ X.A.in1 (tryCatch (pyNext (.ref I)) _ >>= _) _ _ _;rcases Nat.eq_zero_or_pos us.length with h0|hne
 ·have e0:us=[]:=List.length_eq_zero_iff.mp h0
  refine zwb (wpAny_tryCatch (W.done _ _ _ ⟨by rw[hsz,h0];exact⟨_,gI,rfl,rfl⟩,hl1⟩ fun h' tk' hk'=>?_))
  show wpAny _ X.A.in1 (rule _ >>= _) _ _ _;refine zwb (wpAny_rule (zwp ?_));have I2:Inv X pins σ H { s with heap:=h',toks:=tk' }:=Inv.turnedL (s:={ s with heap:=hp }) (ch:=[I,S]) I1 fp fun b o hb e=>hk' b o (fun z=>hb (by rw[List.mem_singleton.mp z];exact mem_cons_self)) e
  exact hQ0 e0 _ I2
 refine zwb (wpAny_tryCatch (W.item 0 _ _ _ (by rw[hsz];exact hne) ⟨⟨_,gI,rfl,rfl⟩,hl1⟩ fun v h' tk' hP hst' hk'=>?_))
 obtain⟨u,hu,rfl⟩:∃u,us[0]?=some u/\v=.ref u:=by
  have hv:(us.map Value.ref)[0]?=some v:=by simpa using hP
  rw[getElem?_map] at hv;obtain⟨u,h1,h2⟩:=Option.map_eq_some_iff.mp hv;exact⟨u,h1,h2.symm⟩
 have I2:Inv X pins σ H { s with heap:=h',toks:=tk' }:=Inv.turnedL (s:={ s with heap:=hp }) (ch:=[I,S]) I1 fp fun b o hb e=>hk' b o (fun z=>hb (by rw[List.mem_singleton.mp z];exact mem_cons_self)) e
 have nS1:=hk' S _ (by simpa using hSI) gS
 obtain⟨oI,hoI,hoc,hod⟩:=id hst'.1;have I1p:Inv X (pins++vw [I,S] h') σ H { s with heap:=h',toks:=tk' }:=I2.pinned fp fun b hb=>by
  rcases List.mem_cons.mp hb with e|hb
  ·rw[e];exact⟨oI,hoI,fun v q=>by rw[hod] at q;cases q⟩
  ·rw[List.mem_singleton.mp hb];exact⟨_,nS1,fun v q=>by cases q⟩
 show wpAny _ X.A.in1 (tryCatch (holding [.ref u] (call (.ref q) [.ref u])) _ >>= _) _ _ _;refine zwb (wpAny_tryCatch (wpAny_holding (wpAny_mono (turn 0 u hu _ _ I1p) (fun x s2 he=>?_) fun _ _ hF=>hF.elim)));obtain⟨v2,H2,I2p,rv2,rfl,rfl⟩:=he;obtain⟨t2,rfl⟩:=rv2;have I3:=I2p.unpinned;have nS2:=(I2p.pin (S,_) (mem_append_right _ (mem_append_right _ (yF (by simp) nS1)))).1
 have nI2:=(I2p.pin (I,_) (mem_append_right _ (mem_append_right _ (yF (by simp) hoI)))).1
 dsimp only at nS2 nI2;obtain⟨c2,hc2⟩:∃c2,(s2.heap.update S (Obj.mapSeq fun _=>#[.ref u,.int (kf 0) t2])).get? S=some (seqObj "list" #[.ref u,.int (kf 0) t2] c2):=⟨_,get?_update_seq nS2 fun _=>#[.ref u,.int (kf 0) t2]⟩;show wpAny _ X.A.in1 (updateSeq S (fun _=>#[.ref u,.int (kf 0) t2]) >>= _) _ _ _;refine zwb ?_;refine wpAny_updateSeq nS2 rfl ?_;rw[hname];refine zwp ⟨plainId_quiet PySem.F.plain_min_loop _,zfP hc hS fI fS hlI hSI turn (fun i u s' hu hb k=>hQ i u s' hu hb k) _ 0 0 _ u t2 c2 rfl hne (I3.turnedL (ch:=[I,S]) fp fun b o hb e=>(Heap.get?_update_other _ _ (fun z=>hb (by rw[<- z];simp))).trans e) hc2 ⟨oI,(Heap.get?_update_other _ _ hSI).trans nI2,hoc,hod⟩ hu (aF _) fun j' hj'=>?_⟩
 have e:j'=0:=by omega
 subst e;exact Int.le_refl _
inductive ziHJ(K:Frag)(sp:Sp)(Q:VK)(vs:List V)(H1:Hp):Prop|mk(l:Addr)(us:List Addr)(kf:Nat->Int):vs=[.ref l]->SqL K H1 l (us.map V.ref)->(∀(i:Nat) (u:Addr),us[i]?=some u->sp [.ref u] H1 (fun v H'=>v=.int (kf i)/\H'=H1) E0)->(us=[]->Q .non H1)->(∀(i:Nat) (u:Addr),us[i]?=some u->(∀j,j<us.length->kf i<=kf j)->Q (.ref u) H1)->ziHJ K sp Q vs H1
def ziH(K:Frag)(sp:Sp)(ta:TA):TE:=fun σ H Q=>ta σ H fun vs H1=>ziHJ K sp Q vs H1
theorem zfs{ta:TA}{j3:Nat}{k:Nat}{sp:Sp}(hc:X.calm=true)(hg:Gl X "min")(hm:X.mg "min"=none)(c:zI X.prog X.w X.K X.mg X.base k x q fd [pr] sp)(hr:yk (k+1) X.A)(hgx:Gl X x)(ha:PA X [a] ta)(h1:vP a=false:=by rfl)(hdb:(x==("__debug__" : Str))=false:=by decide):
  PE X (.Call (.Name "min" p) [a] [⟨some "key",.Name x p2,kp⟩,⟨some "default",.Constant .none j3 p3,kp2⟩] pos) (ziH X.K sp ta):=by
 and_intros;refine wpAny_Call_Name_kw (wP I hg hm boot_min ?_);refine callWith_kw (env:=X.env) (id:="min") (e:=a) (rest:=[]) (thn (ha pos pins s σ H _ I h) fun us s1 ⟨vs,H1,I1,r1,l,uss,kf,e,hS,hk,q0,q1⟩=>?_) (by rw[yL h1];rfl) (by rw[yL h1];rfl) rfl rfl
 subst e;cases r1 with
 | cons r rr=>
  cases rr;cases r;refine kws_cons (uc I1 hgx c.mg (kws_cons (Constant_none (kws_nil ?_))) hdb);refine zf9 (us:=uss) (kf:=kf) hc I1 hS (fun i u hu pins' s' I'=>?_) (fun e s' I'=>⟨.non,H1,I',rfl,q0 e⟩) (fun i u s' hu hb I'=>⟨.ref u,H1,I',rfl,q1 i u hu hb⟩);have hsp:=hk i u hu;refine wpAny_call (codeAny_mono (c.ok.run X.A.in1 X.stack s' H1 ⟨[.ref u],[]⟩ [.ref u] [.ref u] _ E0 hr.in1 I'.env0.in1 (c.bd s' [.ref u] I'.kIn rfl) (.cons rfl .nil) hsp) fun r s'' hq=>?_);cases r with
  | error e=>exact hq.elim
  | ok fl=>
   cases fl with
   | ret u=>exact I'.after hq
   | next=>exact False.elim hq
   | brk=>exact False.elim hq
   | cont=>exact False.elim hq
end
end L2
namespace K84
open PySem L2 PyProof.Rows
def zn0(ok:Addr->Prop)(H:Hp)(v:V):Option (List Str)->Prop
 | none=>v=.non
 | some ns=>∃l,v=.ref l/\ok l/\H l=some (.lst (ns.map V.str))/\(∀z∈ns,zU z=true)/\ns.length<=60
structure ziy(x:TR):Prop where
 ln:∀n b X,x=some (n,b,X)->n.length<=56/\X.length<=56
 nn:∀n b X,x=some (n,b,X)->(∀z∈n,zU z=true)/\∀z∈X,zU z=true
theorem wJ:∀z∈yC,zU z=true:=by decide +kernel
theorem zeB(h:z6 zs D bars)(l4:zs.length<=26)(hz:∀z∈zs,zU z=true)(m:Nat):ziy (sF D bars m):=by
 have all:∀z∈zs++yC,zU z=true:=fun z h=>(List.mem_append.mp h).elim (hz z) (wJ z);exists fun n b X e=>?_,fun n b X e=>?_
 ·have p:=ve h e
  have l1:=yN n _ p.dn p.zn;have l2:=yN X _ p.dX p.zX;rw[aG,show yC.length=0 from rfl] at l1 l2;omega
 ·have p:=ve h e
  exact⟨fun z hz=>all z (p.zn z hz),fun z hz=>all z (p.zX z hz)⟩
inductive zmb(K:Frag)(vs:List V)(H:Hp)(Q:VK)(E:XK):Prop|mk(vx vy:V)(x y:TR)(okx oky:Addr->Prop):vs=[vx,vy]->zR K okx H 2 vx (xL x)->zR K oky H 2 vy (xL y)->ziy x->ziy y->(∀(st:Str) (v:V) (H':Hp),zq H H'->Odd st x y->zn0 (fun l=>H l=none\/oky l) H' v (wk st x y)->Q v H')->zmb K vs H Q E
section
variable {mg:Str->Option Value}{f CF:Addr}{c:C5}{m:MA}
theorem zkO:zA ["one_row","other_row","needed","name"] ["one_row","other_row"] (zh zbw):=fsc
theorem zmr{P:Program}{w:World}{K:Frag}{base:Heap}{fd:FuncData}{g1 g2 g3:Addr}{e1 e2 e3:FuncData}(F:Fun K "parting_names" "parting_names" zbw f fd)(hso:mg "sorted"=none)(cT:⇑2 "takes" g1 e1 ["row","names"] (zb7 K))(cN:⇑3 "names_to_try" g2 e2 ["one_row","other_row"] (zkb K))(cM:⇑1 "may_have" g3 e3 ["row","name"] (zda K)):↥4 f fd ["one_row","other_row"] (zmb K):=by
 specialize zkO;obtain⟨vx,vy,x,y,okx,oky,rfl,sx,sy,rx,ry,q⟩:=h;have hr1:yk 1 _:=hr.mono ⋯
 have hr2:yk 2 _:=hr.mono ⋯
 refine zp (zS (wb (vz (pv 1))) (zg (zB qC)) zD) ?_;cases y with
 | none=>
  rw[zcj sy];exists _,rfl,_,rfl,?_;refine xA (by simp) ?_
  exact q "" .non H (zq.refl _) (fun n b X n' b' X' _ e=>by cases e) rfl
 | some ry'=>
  obtain⟨n',b',X'⟩:=ry';obtain⟨t',l0',l2',rfl,ok',R'⟩:=zkn sy;obtain⟨ly1,ly2⟩:=ry.ln _ _ _ rfl;obtain⟨ny1,ny2⟩:=ry.nn _ _ _ rfl;exists _,rfl,_,rfl,?_;refine yZ (by simp) ?_
  refine zkO[2]'(zC zG (pv 1) ze (fun _ _=>rfl));exists _,rfl,t',_,0,.ref l0',rfl,rfl,R'.at_,rfl,?_;dsimp only[zJ];refine zp (zS (yS (vK (wb (vz (pv 0))) (vo (xx (yz (cF cT hr2 (ac (pv 0) (ac (pv 2) zc)))))))) (zg (zB (pv 2))) zD) ?_;cases x with
  | none=>
   rw[zcj sx];exists _,rfl,_,rfl,?_;refine xA (by simp) ?_
   exact⟨_,rfl,q "" _ H (zq.refl _) (fun n b X n' b' X' e _=>by cases e) ⟨l0',rfl,.inr ok',R'.h0,ny1,∅⟩⟩
  | some rx'=>
   obtain⟨n,b,X⟩:=rx';obtain⟨t,l0,l2,rfl,ok0,R⟩:=zkn sx;obtain⟨lx1,lx2⟩:=rx.ln _ _ _ rfl;obtain⟨nx1,nx2⟩:=rx.nn _ _ _ rfl;exists _,rfl,_,rfl,?_;refine yZ (by simp) ?_
   exists _,rfl,_,rfl,t,l0,l2,l0',n,X,n',b,rfl,R,R'.h0,∅,∅,fun H1 s1=>?_
   exists _,rfl,?_;have R1:=R.same s1;have R1':=R'.same s1;cases ha:acc (some (n,b,X)) n' with
   | false=>
    refine xO ?_;exists _,rfl,?_;obtain⟨st,hst⟩:∃st:Str,st∉X++X':=by
     refine Classical.byContradiction fun c=>?_;have hall:∀z:Str,z∈X++X':=fun z=>Classical.byContradiction fun d=>c ⟨z,d⟩;have nd:((List.range 200).map vM).Nodup:=List.Pairwise.map _ (fun a b h e=>h (zcB e)) nodup_range
     have:=yN _ (X++X') nd fun z _=>hall z
     rw[aA,length_range,aG] at this;omega
    refine q st _ H1 s1 (fun _ _ _ _ _ _ e e'=>by cases e;cases e';exact hst) ?_
    unfold wk;dsimp only;rw[ha,aJ zft];exact⟨l0',rfl,.inr ok',R1'.h0,ny1,∅⟩
   | true=>
    refine yD ?_;refine zp (yU PassesOwn.never rfl (zM (cF cN hr (ac (pv 0) (ac (pv 1) zc)))) (zo (i:=3) zkO.nd rfl (Or.inl rfl)) y4) ?_;exists _,rfl,_,rfl,t,l0,l2,t',l0',l2',n,X,n',X',b,b',rfl,R1,R1',∅,∅,fun st lt H2 s2 hn hst hlt=>?_
    have odd:Odd st (some (n,b,X)) (some (n',b',X')):=fun _ _ _ _ _ _ e e'=>by cases e;cases e';exact hst
    have q2:=q st;unfold wk at q2;dsimp only at q2;rw[ha,aK rfl] at q2;have nall:∀z∈X++X'++[st],zU z=true:=fun z hz=>by
     rcases List.mem_append.mp hz with hz|hz
     ·exact(List.mem_append.mp hz).elim (nx2 z) (ny2 z)
     ·rw[List.mem_singleton.mp hz];exact hn
    have lL:(X++X'++[st]).length<=200:=by rw[aG,aG];show _+1<=200;omega
    generalize X++X'++[st]=L at hlt q2 nall lL;exists lt,rfl,⟨_,zf hlt⟩,xf (K:=K) (a:=lt) (xs:=L.map V.str) (fun i σ H'=>∃(v3:Option V),σ=[~~~t,~~~t',~~~l0',v3]/\zq H2 H'/\∀j z,j<i->L[j]?=some z->(may b' X' z&&!may b X z)=false) ⟨_,rfl,zq.refl _,fun j z hj=>absurd hj (not_lt_zero _)⟩ (fun i σ H' _ ⟨_,_,sH,_⟩=>zf (sH _ _ hlt)) ?_ ?_
    ·rintro i v σ H3 hv ⟨v3,rfl,s3,hno⟩
     obtain⟨z,hz,rfl⟩:=strs_at hv;have s23:=s2.trans s3;have R3:=R1.same s23;have R3':=R1'.same s23;exists _,zg (zS (yS (yO (yz (cF cM hr1 (ac (pv 1) (ac (pv 3) zc)))) (yB (xx (yz (cF cM hr1 (ac (pv 0) (ac (pv 3) zc)))))))) (zg (zB (cB wo hso boot_sorted (ac (zk yA (pv 2) (zT (ac (pv 3) zc))) zc)))) zD),?_;exists _,rfl,_,rfl,t',l0',l2',n',X',b',z,rfl,R3',_,rfl,?_;have go:(may b' X' z&&!may b X z)=false->∃(v3:Option V),[some (V.ref t),~~~t',~~~l0',some (.str z)]=[~~~t,~~~t',~~~l0',v3]/\zq H2 H3/\∀j z,j<i+1->L[j]?=some z->(may b' X' z&&!may b X z)=false:=fun hz0=>by
      exists _,rfl,s3,fun j y hj hy=>?_;rcases lt_or_ge j i with d|d
      ·exact hno j y d hy
      ·have:j=i:=by omega
       subst this;rw[hz] at hy;cases hy;exact hz0
     cases m1:may b' X' z with
     | false=>
      refine yD ?_;exact go (by rw[m1];rfl)
     | true=>
      refine xO ?_;exists _,rfl,_,rfl,t,l0,l2,n,X,b,z,rfl,R3,_,rfl,?_;cases m2:may b X z with
      | true=>
       refine yD ?_;exact go (by rw[m1,m2];rfl)
      | false=>
       refine xO ?_;exists _,rfl,_,rfl,ux,fun l5 hl5=>?_;have s5:=zd hl5 (.lst [.str z]);exists l0',l5,_,_,rfl,rfl,s5 _ _ R3'.h0,za,z9 (by rw[aA];show _+1<=1000;omega),fun l6 hl6=>?_
       have s6:=zd hl6 (.lst (n'.map V.str++[.str z]));have e6:n'.map V.str++[.str z]=(n'++[z]).map V.str:=by rw[aE];rfl
       rw[e6] at s6 |-;exists l6,_,rfl,zf za,by rw[aG];show _+1<64;omega,fun l7 hl7=>?_
       have s7:=zd hl7 (.lst ((z8 (n'++[z])).map V.str));have hf:L.find? (fun z=>may b' X' z&&!may b X z)=some z:=by
        rw[List.find?_eq_some_iff_getElem];exists by rw[m1,m2];rfl,i,(List.getElem?_eq_some_iff.mp hz).1,(List.getElem?_eq_some_iff.mp hz).2,fun j hj=>?_
        have hjl:j<L.length:=lt_trans hj (List.getElem?_eq_some_iff.mp hz).1;rw[hno j _ hj (aB hjl)];rfl
       have sA:=s1.trans (s23.trans (s5.trans (s6.trans s7)));refine q2 _ _ sA odd ?_;rw[hf];refine⟨l7,rfl,.inl ((s1.trans (s23.trans (s5.trans s6))).free hl7),za,fun y hy=>?_,by rw[(zP _).length_eq,aG];show _+1<=60;omega⟩
       rcases List.mem_append.mp ((zP _).mem_iff.mp hy) with hy|hy
       ·exact ny1 y hy
       ·rw[List.mem_singleton.mp hy];exact nall z (aH hz)
    ·rintro σ H3 ⟨v3,rfl,s3,hno⟩
     exists _,zg (zB qC),?_;have hf:L.find? (fun z=>may b' X' z&&!may b X z)=none:=by
      rw[List.find?_eq_none];intro z hz c;obtain⟨j,hj⟩:=getElem?_of_mem hz
      have:=hno j z (by rw[aA];exact(List.getElem?_eq_some_iff.mp hj).1) hj
      rw[this] at c;cases c
     refine q2 _ _ (s1.trans (s2.trans s3)) odd ?_;rw[hf];rfl
inductive zb6(vs:List V)(H:Hp)(Q:VK)(E:XK):Prop|mk(t l:Addr)(m:Nat)(ns:List Str):vs=[.ref t]->H t=some (.tup [.int (m:Nat),.ref l])->H l=some (.lst (ns.map V.str))->(Q (.int ((m+ns.length:Nat):Int)) H)->zb6 vs H Q E
def PV(H0 H:Hp)(v:V):Option (Nat×List Str)->Prop
 | none=>v=.non
 | some (m,ns)=>∃t l,v=.ref t/\H0 l=none/\H t=some (.tup [.int (m:Nat),.ref l])/\H l=some (.lst (ns.map V.str))/\(∀z∈ns,zU z=true)/\ns.length<=60
inductive jl(c:C5)(CF:Addr)(vs:List V)(H:Hp)(Q:VK)(E:XK):Prop|mk(f g:Addr)(D D':FD)(bars bars' zs:List Str):vs=[.ref f,.ref g]->xG c CF H f D.rows bars->xG c CF H g D'.rows bars'->z6 zs D bars->z6 zs D' bars'->zs.length<=26->(∀z∈zs,zU z=true)->(∀(o:Option (Nat×List Str)) (v:V) (H':Hp),zq H H'->uJ D bars D' bars' o->PV H H' v o->Q v H')->jl c CF vs H Q E
inductive qg(c:C5)(CF:Addr)(vs:List V)(H:Hp)(Q:VK)(E:XK):Prop|mk(f g:Addr)(D D':FD)(bars bars' zs:List Str):vs=[.ref f,.ref g]->xG c CF H f D.rows bars->xG c CF H g D'.rows bars'->z6 zs D bars->z6 zs D' bars'->zs.length<=26->(∀z∈zs,zU z=true)->(∀(o:Option (Nat×List Str)) (H':Hp),zq H H'->uJ D bars D' bars' o->Q (.bl o.isNone) H')->qg c CF vs H Q E
def EAt(H0:Hp)(lf:Addr)(H:Hp)(u:Addr)(e:Nat×List Str):Prop:=u≠lf/\∃l,H u=some (.tup [.int (e.1:Nat),.ref l])/\H0 l=none/\l≠lf/\H l=some (.lst (e.2.map V.str))/\(∀z∈e.2,zU z=true)/\e.2.length<=60
theorem EAt.same(h:EAt H0 lf H u e)(s:zq H H'):EAt H0 lf H' u e:=let ⟨h0,l,h1,h2,h3,h4,h5⟩:=h;⟨h0,l,s _ _ h1,h2,h3,s _ _ h4,h5⟩
theorem EAt.put(h:EAt H0 lf H u e):EAt H0 lf (upd H lf o) u e:=let ⟨h0,l,h1,h2,h3,h4,h5⟩:=h;⟨h0,l,by rw[zi h0];exact h1,h2,h3,by rw[zi h3];exact h4,h5⟩
structure znU(mg:Str->Option Value):Prop where
 range:mg "range"=none
 max:mg "max"=none
 min:mg "min"=none
theorem qm:zA ["parted","many","names"] ["parted"] (zh zbn):=fsc
theorem zfC{P:Program}{w:World}{K:Frag}{base:Heap}{fd:FuncData}(F:Fun K "things_in" "things_in" zbn f fd)(hln:mg "len"=none):↥1 f fd ["parted"] zb6:=by
 specialize qm;obtain⟨t,l,m,ns,rfl,ht,hl,q⟩:=h;refine zp (vt (pv 0) (y6 rfl (zN (zo (i:=1) qm.nd rfl (Or.inl rfl)) (zN (zo (i:=2) qm.nd rfl (Or.inl rfl)) yH)))) ?_;exists _,rfl,t,_,rfl,zy ht,rfl,_,_,rfl,_,_,rfl,rfl,?_;dsimp only[zJ];exists _,zg (zB (zk yP (pv 1) (cB zE hln PySem.boot_len (ac (pv 2) zc)))),?_;exists _,rfl,_,rfl,l,_,rfl,.inl (zf hl),_,_,rfl,rfl,?_;rw[aA,show((m:Nat):Int)+((ns.length:Nat):Int)=((m+ns.length:Nat):Int) by omega]
 exact q
theorem vX:zA ["one","other","found","many","names"] ["one","other"] (zh qt):=fsc
theorem zdE{P:Program}{w:World}{K:Frag}{base:Heap}{fd:FuncData}{g1 g2 g3 gP:Addr}{e1 e2 e3 eP:FuncData}(F:Fun K "parting" "parting" qt f fd)(U:znU mg)(FK:FC K CF)(cR:⇑4 "row_at" g1 e1 ["form","many"] (zep K c CF))(cN:⇑4 "parting_names" g2 e2 ["one_row","other_row"] (zmb K))(cT:⇑1 "things_in" g3 e3 ["parted"] zb6)(mP:xv K CF "places" gP)(GP:↥1 gP eP ["self"] (wu c CF))(bP:yc K eP ["self"] []):↥5 f fd ["one","other"] (jl c CF):=by
 specialize vX;obtain⟨f,g,D,D',bars,bars',zs,rfl,hF,hG,fd,fd',l4,hz,q⟩:=h;have hr1:yk 1 _:=hr.mono ⋯
 have hr2:yk 2 _:=hr.mono ⋯
 have l24:=uF fd;have l24':=uF fd';have pl:=xu fd;have pl':=xu fd';have lp:D.P.length<=24:=by have:=fd.ln;omega
 have lp':D'.P.length<=24:=by have:=fd'.ln;omega
 obtain⟨dx,fs,lr,lb,ld,ps,h1,h2,_⟩:=id hF.at_;obtain⟨dx',fs',lr',lb',ld',ps',h1',h2',_⟩:=id hG.at_;refine vX[2]'(zT zc);exists wN,fun lf hlf=>?_;have s0:=zd hlf (.lst []);have g0:upd H lf (.lst []) lf=some (.lst (([]:List Addr).map V.ref)):=za;generalize upd H lf (.lst [])=H0 at s0 g0 |-;dsimp only[zJ];refine zp (yU PassesOwn.never rfl (wq rfl U.range (ac (zk yP (cB (jz rfl) U.max boot_max (ac (yy (pv 0) FK.cl mP GP hr1 bP .nil yt) (ac (yy (pv 1) FK.cl mP GP hr1 bP .nil yt) zc))) ze) zc)) (zo (i:=3) vX.nd rfl (Or.inl rfl)) y4) ?_;exists _,rfl,f,dx,fs,rfl,s0 _ _ h1,h2.no _ (by decide +kernel),f,D.rows,bars,rfl,(hF.same s0).at_,_,rfl,g,dx',fs',rfl,s0 _ _ h1',h2'.no _ (by decide +kernel),g,D'.rows,bars',rfl,(hG.same s0).at_,_,_,rfl,_,_,rfl,rfl,?_
 rw[pl,pl'];obtain⟨M,eM,hM⟩:∃M:Nat,M=max D.P.length D'.P.length+2/\(if ((D'.P.length:Nat):Int)>((D.P.length:Nat):Int) then ((D'.P.length:Nat):Int) else ((D.P.length:Nat):Int))+2=((M:Nat):Int):=⟨_,rfl,by split <;> omega⟩
 rw[hM];have M26:M<=26:=by omega
 exists (M:Nat),rfl,∅,∅,?_
 rw[show(((M:Nat):Int)).toNat=M by omega]
 refine uf (n:=M) (fun i σ H'=>∃(v3 v4:Option V) (us:List Addr) (ms:List (Nat×List Str)) (st:Nat->Str),σ=[~~~f,~~~g,~~~lf,v3,v4]/\zq H H'/\H' lf=some (.lst (us.map V.ref))/\Paired (EAt H lf H') us ms/\us.length<=i/\(∀j,j<i->Odd (st j) (sF D bars j) (sF D' bars' j))/\(∀j ns,j<i->wk (st j) (sF D bars j) (sF D' bars' j)=some ns->(j,ns)∈ms)/\∀e∈ms,e.1<i/\wk (st e.1) (sF D bars e.1) (sF D' bars' e.1)=some e.2)
  ⟨_,_,[],[],fun _=>"",rfl,s0,g0,.nil,aF _,(fun j hj=>absurd hj (not_lt_zero _)),(fun j _ hj=>absurd hj (not_lt_zero _)),(fun e he=>nomatch he)⟩ ?_ ?_
 ·rintro i σ H2 hi ⟨v3,v4,us,ms,st,rfl,s2,hl2,hp2,lu,ho,hin,hof⟩
  rw[Int.zero_add];refine vX[4]'(cF cN hr (ac (cF cR hr (ac (pv 0) (ac (pv 3) zc))) (ac (cF cR hr (ac (pv 1) (ac (pv 3) zc))) zc)));exists _,rfl,_,rfl,f,i,D,bars,zs,rfl,hF.same s2,fd,l4,fun vx H3 s3 sx=>?_;exists _,rfl,_,rfl,g,i,D',bars',zs,rfl,hG.same (s2.trans s3),fd',l4,fun vy H4 s4 sy=>?_;exists vx,vy,_,_,_,_,rfl,sx.same s4,sy,zeB fd l4 hz i,zeB fd' l4 hz i,fun sti v H5 s5 oi pr=>?_;have s25:=s3.trans (s4.trans s5);have hl5:=s25 _ _ hl2;have hp5:=zO (fun _ _ z=>EAt.same z s25) hp2;have sA:=s2.trans s25;dsimp only[zJ];have st':∀j,j<i+1->(fun k=>if k=i then sti else st k) j=if j=i then sti else st j:=fun _ _=>rfl
  have ho':∀j,j<i+1->Odd ((fun k=>if k=i then sti else st k) j) (sF D bars j) (sF D' bars' j):=fun j hj=>by
   dsimp only;by_cases e:j=i
   ·subst e;rw[aK rfl];exact oi
   ·rw[aJ e];exact ho j ∅
  have old:∀e∈ms,e.1<i+1/\wk ((fun k=>if k=i then sti else st k) e.1) (sF D bars e.1) (sF D' bars' e.1)=some e.2:=fun e he=>by
   obtain⟨h1,h2⟩:=hof e he;dsimp only;rw[aJ ∅]
   exact⟨∅,h2⟩
  exists _,zg (zS (wb (jX (pv 4))) (zg (zZ (xw PySem.F.plainAttrs_list PySem.F.slot_list_append PySem.F.type_list_append ya (pv 2) (ac (z7 (ac (pv 3) (ac (pv 4) zc))) zc)))) zD),?_;cases ep:wk sti (sF D bars i) (sF D' bars' i) with
  | none=>
   rw[ep] at pr;have pr:v=.non:=pr;subst pr;exists _,rfl,_,rfl,?_;refine yZ (by simp) ?_
   exists _,_,us,ms,fun k=>if k=i then sti else st k,rfl,sA,hl5,hp5,∅,ho',fun j ns hj hn=>?_,old
   dsimp only at hn;by_cases e:j=i
   ·subst e;rw[aK rfl,ep] at hn;cases hn
   ·rw[aJ e] at hn;exact hin j ns ∅ hn
  | some ns=>
   rw[ep] at pr;obtain⟨l,rfl,okl,hl,hnn,lns⟩:=pr;exists _,rfl,_,rfl,?_;refine xA (by simp) ?_
   exists _,rfl,.inl ⟨rfl,_,zf hl5⟩,_,rfl,_,rfl,yG,fun tu htu=>?_;have s6:=zd htu (.tup [.int (i:Nat),.ref l]);exists lf,_,_,rfl,rfl,s6 _ _ hl5,(by rw[aA];exact zY ∅),?_
   have nl:H l=none:=by
    rcases okl with h|h
    ·exact(s2.trans (s3.trans s4)).free h
    ·exact(s2.trans s3).free h
   have nlf:l≠lf:=fun e=>by
    rcases okl with h|h
    ·rw[e,(s3.trans s4) _ _ hl2] at h;cases h
    ·rw[e,s3 _ _ hl2] at h;cases h
   have ntu:tu≠lf:=fun e=>by rw[e,hl5] at htu;cases htu
   have gtu:upd H5 tu (.tup [.int (i:Nat),.ref l]) tu=some (.tup [.int (i:Nat),.ref l]):=za;have hl6:=s6 _ _ hl;have sB:=sA.trans s6;have hp6:=zO (fun _ _ z=>EAt.same z s6) hp5;generalize upd H5 tu (.tup [.int (i:Nat),.ref l])=H6 at s6 gtu hl6 sB hp6 |-;exists _,_,us++[tu],ms++[(i,ns)],fun k=>if k=i then sti else st k,rfl,fun b u e=>by rw[zi (zj e hlf)];exact sB b u e,by rw[za,aE];rfl,Paired.snoc (zO (fun _ _ z=>EAt.put z) hp6) ⟨ntu,l,by rw[zi ntu];exact gtu,nl,nlf,by rw[zi nlf];exact hl6,hnn,lns⟩,by rw[aG];show _+1<=_;omega,ho',fun j ns' hj hn=>?_,fun e he=>?_
   ·dsimp only at hn
    by_cases e:j=i
    ·subst e
     rw[aK rfl,ep] at hn;cases hn;exact List.mem_append.mpr (.inr (List.mem_singleton.mpr rfl))
    ·rw[aJ e] at hn
     exact List.mem_append.mpr (.inl (hin j ns' ∅ hn))
   ·rcases List.mem_append.mp he with he|he
    ·exact old e he
    ·rw[List.mem_singleton.mp he]
     dsimp only;rw[aK rfl];exact⟨lt_succ_self _,ep⟩
 ·rintro σ H2 ⟨v3,v4,us,ms,st,rfl,s2,hl2,hp2,lu,ho,hin,hof⟩
  exists _,zg (zB (zfs rfl rfl U.min cT hr2 rfl (ac (pv 2) zc))),?_;exists _,rfl,lf,us,fun i=>(((ms.getD i (0,[])).1+(ms.getD i (0,[])).2.length:Nat):Int),rfl,zf hl2,fun i u hu=>?_,fun e0=>?_,fun i u hu hb=>?_
  ·obtain⟨e,he,_,l,h1,_,_,h4,_⟩:=yw hp2 hu
   exists u,l,e.1,e.2,rfl,h1,h4,?_;try dsimp only
   rw[getD_eq_getElem?_getD,he];exact⟨rfl,rfl⟩
  ·have em:ms=[]:=by
    have:=hp2.length
    rw[e0] at this;exact List.length_eq_zero_iff.mp this.symm
   refine q none _ _ s2 (zfx (M:=M) ∅ ∅ st ho fun m hm=>?_) rfl
   cases ep:wk (st m) (sF D bars m) (sF D' bars' m) with
   | none=>rfl
   | some ns=>
    have:=hin m ns hm ep
    rw[em] at this;cases this
  ·obtain⟨e,he,_,l,h1,h2,_,h4,h5,h6⟩:=yw hp2 hu
   have hme:=aH he;obtain⟨a1,a2⟩:=hof e hme;refine q (some (e.1,e.2)) _ _ s2 (zfw fd' eM st ho a1 a2 fun m' hm' ns' hp'=>?_) ⟨u,l,rfl,h2,h1,h4,h5,h6⟩;obtain⟨j,hj⟩:=getElem?_of_mem (hin m' ns' hm' hp');have hjl:j<us.length:=by rw[hp2.length];exact(List.getElem?_eq_some_iff.mp hj).1
   have:=hb j hjl
   try dsimp only at this
   rw[getD_eq_getElem?_getD,getD_eq_getElem?_getD,he,hj] at this
   have:((e.1+e.2.length:Nat):Int)<=((m'+ns'.length:Nat):Int):=this
   omega
theorem zgJ:zA ["one","other"] ["one","other"] (zh zbp):=fsc
theorem zfF{P:Program}{w:World}{K:Frag}{base:Heap}{fd:FuncData}{g1:Addr}{e1:FuncData}(F:Fun K "stands_for" "stands_for" zbp f fd)(cP:⇑5 "parting" g1 e1 ["one","other"] (jl c CF)):↥6 f fd ["one","other"] (qg c CF):=by
 specialize zgJ;obtain⟨f,g,D,D',bars,bars',zs,rfl,hF,hG,fd,fd',l4,hz,q⟩:=h;exists _,zg (zB (zdz (vz (cF cP hr (ac (pv 0) (ac (pv 1) zc)))))),?_;exists _,rfl,_,rfl,f,g,D,D',bars,bars',zs,rfl,hF,hG,fd,fd',l4,hz,fun o v H1 s1 po pv=>?_
 have:=q o H1 s1 po
 cases o with
 | none=>
  have pv:v=.non:=pv;subst pv;exact this
 | some e=>
  obtain⟨t,l,rfl,_⟩:=pv;exact this
structure FA(H:Hp)(t la lb:Addr)(D:FD)(bars:List Str):Prop where
 ht:H t=some (.tup [.ref la,.ref lb])
 hr:xW H la D.rows
 hb:H lb=some (.lst (bars.map V.str))
theorem FA.same(h:FA H t la lb D bars)(s:zq H H'):FA H' t la lb D bars:=⟨s _ _ h.ht,h.hr.same s,s _ _ h.hb⟩
variable {Pr:Nat->List Str->Prop}{most i j:Nat}
theorem zaz{many:Nat}(V1:jL rows bars){l:Nat}(hl:rows[l]?=some r)(hb:yn r.k=true)(he:r.z=z)(hn:l<plN rows/\l<many)(h:y3 rows bars many z=none):False:=by
 have nd:(nms rows).Nodup:=(List.nodup_append.mp V1.nd).1;have h1:=zae hb rows 0 l [] hl nd;rw[he] at h1;have hd:y3.lastD' z rows=some l:=by
  unfold y3.lastD';rw[h1];show some _=some _
  congr 1
  omega
 unfold y3 at h;rw[hd] at h;split at h
 ·cases h
 ·dsimp only at h
  rw[aK hn] at h;cases h
theorem zd1(h:z6 zs D bars)(V1:jL D.rows bars){many:Nat}(hm:u9 D.rows bars many names=[]):xC D.rows bars many names=true:=by
 unfold u9 at hm;rw[append_eq_nil_iff,append_eq_nil_iff,append_eq_nil_iff,ze8,zcx,zei,jt] at hm;obtain⟨⟨⟨nd,ov⟩,un⟩,lk⟩:=hm;have lenP:plN D.rows=D.P.length:=xu h;have er:D.rows=D.P++(D.T++(D.G++D.B)):=rfl;have atP:∀{i:Nat}{r:Rw},D.P[i]?=some r->D.rows[i]?=some r:=fun {i r} hi=>by
  rw[er,getElem?_append_left (List.getElem?_eq_some_iff.mp hi).1];exact hi
 unfold xC;rw[Bool.and_eq_true,Bool.and_eq_true,all_eq_true,all_eq_true];exists ⟨?_,fun z hz=>?_⟩,fun r hr=>?_
 ·rw[qY h]
  rcases ov with ov|ov
  ·rw[xS h] at ov
   rw[ov];simp
  ·rw[aD ∅]
   rfl
 ·have u:=un z hz
  unfold jP;rw[Bool.not_eq_true',Bool.or_eq_false_iff,Bool.or_eq_false_iff];have nb:z∉bars:=fun c=>by unfold y3 at u;rw[aK c] at u;cases u
  exists ⟨aD nb,aD fun c=>?_⟩,?_
  ·unfold je at c
   rw[wf h] at c;obtain⟨r,hr,e⟩:=List.mem_map.mp c;obtain⟨hr,k⟩:=List.mem_filter.mp hr;obtain⟨l,hl⟩:=getElem?_of_mem hr;rw[List.getElem?_take] at hl;split at hl
   next hlm=>
    have k1:r.k=1:=by simpa using k
    exact zaz V1 (atP hl) (by rw[k1];rfl) e ⟨by rw[lenP];exact(List.getElem?_eq_some_iff.mp hl).1,hlm⟩ u
   ·cases hl
  ·cases hg:jd D.rows 4 with
   | true=>simp
   | false=>
    rw[Bool.not_false,Bool.and_true];refine aD fun c=>?_;have hbag:(zQ 4 0 D.rows).isSome=false:=by rw[vS h,<- zdW h];exact hg
    have hk:z∈nms D.rows:=Classical.byContradiction fun hk=>by
     rw[zgi nb hk,hbag,aJ zft] at u;cases u
    obtain⟨l,r,hl,hbn,he⟩:=zhR hk;have hlt:¬(l<plN D.rows/\l<many):=fun q=>zaz V1 hl hbn he q u;refine c ?_;unfold wH;rw[wf h,zaA h];rw[lenP] at hlt;by_cases hp:l<D.P.length
    ·rw[er,getElem?_append_left hp] at hl
     refine List.mem_append.mpr (.inl (List.mem_map.mpr ⟨r,List.mem_filter.mpr ⟨aH (i:=l - many) ?_,?_⟩,he⟩))
     ·rw[getElem?_drop,show many+(l - many)=l by omega]
      exact hl
     ·rcases (h.p r (aH hl)).1 with e|e
      ·rw[e] at hbn;cases hbn
      ·rw[e];rfl
    ·rw[er,getElem?_append_right ∅] at hl
     have mem:=aH hl;rcases List.mem_append.mp mem with mm|mm
     ·rw[(h.t r mm).1] at hbn;cases hbn
     ·rcases List.mem_append.mp mm with mm|mm
      ·exact List.mem_append.mpr (.inr (List.mem_map.mpr ⟨r,mm,he⟩))
      ·rw[(h.b r mm).1] at hbn;cases hbn
 ·rw[wf h,zaA h] at hr
  have key:∀i,D.rows[i]?=some r->¬(wp r.k=true/\i<many)->(r.k=0\/r.k=1\/r.k=3)->(!uI names r)=true:=fun i hi hn hk=>by
   have:=lk i r hi
   rw[zeU,j5,Nat.zero_add] at this;unfold uI;have hfr:fr r.k r.b=r.b:=by rcases hk with e|e|e <;> rw[e] <;> rfl
   rw[hfr] at this;cases hb:r.b with
   | true=>rfl
   | false=>
    rw[hb] at this;have n1:(wp r.k&&decide (i<many))=false:=Bool.eq_false_iff.mpr fun c=>hn (by rw[Bool.and_eq_true,decide_eq_true_iff] at c;exact c)
    rw[n1] at this
    have:(yn r.k&&decide (r.z∈names))=true:=by
     cases e:(yn r.k&&decide (r.z∈names)) with
     | true=>rfl
     | false=>rw[e] at this;cases this
    rw[Bool.and_eq_true,decide_eq_true_iff] at this;have k0:(r.k==0)=false:=by
     rcases hk with e|e|e <;> rw[e] at this |-
     ·cases this.1
     ·rfl
     ·rfl
    rw[k0,aD (not_not_intro this.2)];rfl
  rcases List.mem_append.mp hr with hr|hr
  ·obtain⟨j,hj⟩:=getElem?_of_mem hr
   rw[getElem?_drop] at hj;exact key (many+j) (atP hj) (fun c=>by omega) (by rcases (h.p r (aH hj)).1 with e|e;exact .inl e;exact .inr (.inl e))
  ·have k3:=(h.g r hr).1
   have hm:r∈D.rows:=by rw[er];exact mem_append_right _ (mem_append_right _ (mem_append_left _ hr))
   obtain⟨j,hj⟩:=getElem?_of_mem hm;exact key j hj (fun c=>by rw[k3] at c;cases c.1) (.inr (.inr k3))
structure zmW(mg:Str->Option Value):Prop where
 isi:mg "isinstance"=none
 tuple:mg "tuple"=none
 list:mg "list"=none
 int:mg "int"=none
 bool:mg "bool"=none
 len:mg "len"=none
 all:mg "all"=none
 sorted:mg "sorted"=none
 set:mg "set"=none
 range:mg "range"=none
theorem zmy:([Str.ofString "_law_name"]:List Str).Nodup:=by decide +kernel
end
end K84
namespace L2
open PySem PySem.Spec PyProof.Rows
theorem zhr:OpR X (binaryOp .FloorDiv) (rI (fun _ j=>0<j/\j<=2 * 10 ^ 60) fun i j=>.int (i / j)):=opI fun i j _ _ _ _ _ hc q=>by
 have h1:(0:Int)<j:=hc.1;have h2:j<=2 * 10 ^ 60:=hc.2;refine floordiv_int ∅ (by rw[Int.fdiv_eq_ediv_of_nonneg i ∅];exact q) (.inl (PyProof.noPylong_of_log2 ?_))
 rw[Nat.log2_lt ∅]
 have e:j.natAbs<=2 * 10 ^ 60:=by omega
 have:(2 * 10 ^ 60:Nat)<2 ^ 9000:=by decide +kernel
 omega
end L2
namespace K84
open PySem L2 PyProof.Rows
theorem ud{ts:List Int}{i:Nat}{x:V}(h:(ts.map V.int)[i]?=some x):∃t,ts[i]?=some t/\x=.int t:=by
 rw[getElem?_map] at h;cases e:ts[i]? with
 | none=>rw[e] at h;cases h
 | some it=>rw[e] at h;exact⟨it,rfl,(Option.some.inj h).symm⟩
inductive qe(vs:List V)(H:Hp)(Q:VK)(E:XK):Prop|mk(c k:Int):vs=[.int c,.int k]->(∀n:Int,Q (.int n) H)->qe vs H Q E
inductive uN(vs:List V)(H:Hp)(Q:VK)(E:XK):Prop|mk(c:Int)(m:Nat)(b:Int):vs=[.int c,.int (m:Nat),.int b]->m<=30->0<b->b<=2 * 10 ^ 60->(∀(l:Addr) (ns:List Int) (H':Hp),zq H H'->H l=none->H' l=some (.lst (ns.map V.int))->ns.length<=m->Q (.ref l) H')->uN vs H Q E
def zfS(r:Int):Nat:=97+(r % 26).toNat
theorem zeQ(r:Int): 97<=zfS r/\zfS r<=122:=by
 have:=emod_nonneg r (show(26:Int)≠0 by decide)
 have:=emod_lt_of_pos r (show(0:Int)<26 by decide)
 unfold zfS;omega
def zg9:Nat->Int->Int
 | 0,r=>r
 | k+1,r=>zg9 k r / 26
def zaw(c:Nat):Nat->Int->List Nat
 | 0,_=>[c]
 | k+1,r=>zaw c k r++[zfS (zg9 k r)]
theorem vV{c:Nat}{r:Int}:∀k,(zaw c k r).length=k+1
 | 0=>rfl
 | k+1=>by
  show(zaw c k r++[_]).length=_;rw[aG,vV k];rfl
theorem zbZ{c:Nat}{r:Int}(h : 97<=c/\c<=122):∀k,∀x∈zaw c k r,97<=x/\x<=122
 | 0,x,hx=>by rw[List.mem_singleton.mp hx];exact h
 | k+1,x,hx=>by
  rcases List.mem_append.mp hx with hx|hx
  ·exact zbZ h k x hx
  ·rw[List.mem_singleton.mp hx];exact zeQ _
def zeg(n:Int):Str:=⟨(zaw (zfS (n / 8)) (n % 8).toNat (n / 208)).toArray⟩
theorem zc3(n:Int):zU (zeg n)=true:=by
 have:=emod_nonneg n (show(8:Int)≠0 by decide)
 have:=emod_lt_of_pos n (show(0:Int)<8 by decide)
 exact xU (by rw[vV];omega) (by rw[vV];omega) (zbZ (zeQ _) _)
inductive zj9(vs:List V)(H:Hp)(Q:VK)(E:XK):Prop|mk(n:Int):vs=[.int n]->(Q (.str (zeg n)) H)->zj9 vs H Q E
theorem zgq(l:List Nat)(c:Nat):(⟨l.toArray⟩:Str)++(⟨#[c]⟩:Str)=⟨(l++[c]).toArray⟩:=by
 show(⟨l.toArray++#[c]⟩:Str)=_
 congr 1
 apply Array.ext'
 simp
section
variable {P:Program}{K:Frag}{mg:Str->Option Value}
theorem uQ:zA ["_law_cell","_law_k","_law_first","_law_other","_law_great"] ["_law_cell","_law_k"] (zh zbo):=fsc
theorem zfE(F:Fun K "_law_strewn" "_law_strewn" zbo f fd):↥1 f fd ["_law_cell","_law_k"] qe:=by
 specialize uQ;obtain⟨c,k,rfl,q⟩:=h;refine uQ[2]'(zk zW (zk xT (zk yP (zk yP (zk zW (pv 0) ze) (zk xT ze (pv 1))) ze) ze) ze);exists _,rfl,_,_,rfl,rfl,zp2147483647,_,rfl,_,_,rfl,rfl,.inl ⟨⋯,⋯⟩,_,_,rfl,rfl,_,_,rfl,rfl,_,_,rfl,rfl,.inr ⟨⋯,⋯⟩,_,_,rfl,rfl,zp2147483647,?_
 have h1 : 0<=(c % 2147483647+97 * k+5) * 48271 % 2147483647:=emod_nonneg _ ⋯
 have h2:(c % 2147483647+97 * k+5) * 48271 % 2147483647<2147483647:=emod_lt_of_pos _ ⋯
 generalize (c % 2147483647+97 * k+5) * 48271 % 2147483647=x at h1 h2 |-;dsimp only[zJ];refine uQ[3]'(zk zW (zk yP (zk yP (zk xT (pv 2) (pv 2)) (zk xT ze (pv 1))) ze) ze);exists _,rfl,_,rfl,_,_,rfl,rfl,.inl ⟨∅,∅⟩,_,rfl,_,_,rfl,rfl,.inl ⟨⋯,⋯⟩,_,_,rfl,rfl,_,_,rfl,rfl,_,_,rfl,rfl,(by show(0:Int)<2147483629;decide),?_
 have y1 : 0<=(x * x+31 * k+7) % 2147483629:=emod_nonneg _ ⋯
 have y2:(x * x+31 * k+7) % 2147483629<2147483629:=emod_lt_of_pos _ ⋯
 generalize (x * x+31 * k+7) % 2147483629=y at y1 y2 |-;dsimp only[zJ];refine uQ[4]'(zk yP (zk xT (pv 2) ze) (pv 3));exists _,rfl,_,_,rfl,rfl,.inr ⟨⋯,⋯⟩,_,rfl,_,_,rfl,rfl,?_
 obtain⟨g,eg,g1,g2⟩:∃g,x * 2147483629+y=g/\0<=g/\g<2 ^ 64:=⟨_,rfl,∅,∅⟩
 rw[eg];dsimp only[zJ];exists _,zg (zB (zk yP (zk z3 (zk xT (zk xT (pv 4) (pv 4)) (pv 4)) ze) (pv 3))),?_;exact⟨_,rfl,_,rfl,_,_,rfl,rfl,.inl ⟨∅,∅⟩,_,rfl,_,_,rfl,rfl,.inr ⟨∅,∅⟩,_,_,rfl,rfl,⟨⋯,⋯⟩,_,rfl,_,_,rfl,rfl,q _⟩
theorem w6:zA ["_law_cell","_law_most","_law_base","_law_many","_law_rest","_law_found","_law_k"] ["_law_cell","_law_most","_law_base"] (zh zbA):=fsc
theorem zfK(F:Fun K "_law_digits" "_law_digits" zbA f fd)(hrg:mg "range"=none)(cS:⇑1 "_law_strewn" g1 e1 ["_law_cell","_law_k"] qe):↥2 f fd ["_law_cell","_law_most","_law_base"] uN:=by
 specialize w6;obtain⟨c,m,b,rfl,m30,b0,b1,q⟩:=h;refine w6[3]'(zk zW (pv 0) (zk yP (pv 1) ze));exists _,rfl,_,rfl,_,_,rfl,rfl,_,_,rfl,rfl,(by show(0:Int)<((m:Nat):Int)+1;omega),?_
 have n0 : 0<=c % (((m:Nat):Int)+1):=emod_nonneg _ ∅
 have n1:c % (((m:Nat):Int)+1)<((m:Nat):Int)+1:=emod_lt_of_pos _ ∅
 obtain⟨N,eN⟩:=eq_ofNat_of_zero_le n0;rw[eN];dsimp only[zJ];refine w6[4]'(zk z3 (pv 0) (zk yP (pv 1) ze));exists _,rfl,_,rfl,_,_,rfl,rfl,_,_,rfl,rfl,⟨∅,∅⟩,?_
 generalize c / (((m:Nat):Int)+1)=r0;dsimp only[zJ];refine w6[5]'(zT zc);exists wN,fun lf hlf=>?_;have s1:=zd hlf (.lst []);have g1:upd H lf (.lst []) lf=some (.lst (([]:List Int).map V.int)):=za;generalize upd H lf (.lst [])=H1 at s1 g1 |-;dsimp only[zJ];refine zp (yU PassesOwn.never rfl (wq rfl hrg (ac (pv 3) zc)) (zo (i:=6) w6.nd rfl (Or.inl rfl)) y4) ?_;exists _,rfl,(N:Int),rfl,∅,∅,?_
 refine uf (n:=(N:Int).toNat) (fun i σ H'=>∃(r:Int) (ns:List Int) (v6:Option V),σ=[some (.int c),some (.int (m:Nat)),some (.int b),some (.int N),some (.int r),~~~lf,v6]/\zq H H'/\H' lf=some (.lst (ns.map V.int))/\ns.length<=i) ⟨r0,[],_,rfl,s1,g1,aF _⟩ ?_ ?_
 ·rintro i σ H2 hi ⟨r,ns,v6,rfl,s2,hl2,ln⟩
  have add:∀x:Int,zq H (upd H2 lf (.lst (ns.map V.int++[.int x])))/\upd H2 lf (.lst (ns.map V.int++[.int x])) lf=some (.lst ((ns++[x]).map V.int))/\(ns++[x]).length<=i+1:=fun x=>⟨xm s2 hlf _,by rw[za,aE];rfl,by rw[aG];exact succ_le_succ ln⟩
  rw[Int.zero_add];dsimp only[zJ];refine⟨_,zg (zS (zm ym (pv 4) ze (zF _)) (zg (zZ (xw PySem.F.plainAttrs_list PySem.F.slot_list_append PySem.F.type_list_append ya (pv 5) (ac (zk zW (cF cS hr (ac (pv 0) (ac (pv 6) zc))) (pv 2)) zc))))
   (zu (zZ (xw PySem.F.plainAttrs_list PySem.F.slot_list_append PySem.F.type_list_append ya (pv 5) (ac (zk zW (pv 4) (pv 2)) zc))) (zg (zx (i:=4) w6.nd rfl (Or.inl rfl) (zk zhr (pv 4) (pv 2)))))),?_⟩
  exists _,rfl,rfl,_,rfl,?_;have sz:(ns.map V.int).length<sizeLine:=zY (by rw[aA];omega)
  refine wQ (fun _=>?_) (fun _=>?_)
  ·exists _,rfl,.inl ⟨rfl,_,zf hl2⟩,_,rfl,_,rfl,c,i,rfl,fun n=>?_
   exists _,rfl,_,_,rfl,rfl,b0,lf,_,_,rfl,rfl,hl2,sz,?_;exact⟨_,ns++[n % b],_,rfl,add _⟩
  ·exists _,rfl,.inl ⟨rfl,_,zf hl2⟩,_,rfl,_,rfl,_,_,rfl,rfl,b0,lf,_,_,rfl,rfl,hl2,sz,?_
   exact⟨_,rfl,_,rfl,_,_,rfl,rfl,⟨b0,b1⟩,_,ns++[r % b],_,rfl,add _⟩
 ·rintro σ H2 ⟨r,ns,v6,rfl,s2,hl2,ln⟩
  exact⟨_,zg (zB (pv 5)),_,rfl,q lf ns H2 s2 hlf hl2 ∅⟩
theorem zaE:zA ["_law_number","_law_word_here","_law_rest","_law_k"] ["_law_number"] (zh zgO):=fsc
theorem zlm(F:Fun K "_law_word" "_law_word" zgO f fd)(hrg:mg "range"=none):↥1 f fd ["_law_number"] zj9:=by
 specialize zaE;obtain⟨n,rfl,q⟩:=h;have l26:(Str.ofString "abcdefghijklmnopqrstuvwxyz").length<=sizeLine:=by decide +kernel
 have m0:∀x:Int,0<=x % 26:=fun x=>emod_nonneg _ ⋯
 have m1:∀x:Int,x % 26<26:=fun x=>emod_lt_of_pos _ ⋯
 refine zaE[1]'(zC vO zH (zk zW (zk z3 (pv 0) ze) ze) (fun _ _=>rfl));exists _,rfl,_,_,rfl,rfl,⟨⋯,⋯⟩,_,_,rfl,rfl,zp26,_,_,_,rfl,rfl,l26,ul (m0 _) (m1 _),?_
 dsimp only[zJ];refine zaE[2]'(zk z3 (pv 0) ze);exists _,rfl,_,_,rfl,rfl,⟨⋯,⋯⟩,?_
 dsimp only[zJ];refine zp (yU PassesOwn.never rfl (wq rfl hrg (ac (zk zW (pv 0) ze) zc)) (zo (i:=3) zaE.nd rfl (Or.inl rfl)) y4) ?_;have k0 : 0<=n % 8:=emod_nonneg _ ⋯
 have k1:n % 8<8:=emod_lt_of_pos _ ⋯
 exists _,rfl,_,_,rfl,rfl,zp8,n % 8,rfl,∅,∅,?_
 refine uf (n:=(n % 8).toNat) (fun i σ H'=>∃v3,σ=[some (.int n),some (.str ⟨(zaw (zfS (n / 8)) i (n / 208)).toArray⟩),some (.int (zg9 i (n / 208))),v3]/\H=H') ⟨_,rfl,rfl⟩ ?_ ?_
 ·rintro i σ H2 hi ⟨v3,rfl,rfl⟩
  dsimp only[zJ];exists _,zu (zx (i:=1) zaE.nd rfl (Or.inl rfl) (zk xE (pv 1) (zC vO zH (zk zW (pv 2) ze) (fun _ _=>rfl)))) (zg (zx (i:=2) zaE.nd rfl (Or.inl rfl) (zk z3 (pv 2) ze))),?_;exists _,rfl,_,rfl,_,_,rfl,rfl,zp26,_,_,_,rfl,rfl,l26,ul (m0 _) (m1 _),_,_,rfl,rfl,(by show(List.toArray _).size+1<=sizeLine;rw[size_toArray,vV];exact z9 ∅),?_
  exists _,rfl,_,_,rfl,rfl,⟨⋯,⋯⟩,some (.int (0+(i:Nat))),?_,rfl
  rw[zgq];rfl
 ·rintro σ H2 ⟨v3,rfl,rfl⟩
  exact⟨_,zg (zB (pv 1)),_,rfl,q⟩
theorem zji(hu:X.A.units+64<cLine):OpR X (compareOp .Eq) (fun x y H Q=>∃a c xs,x=.ref a/\y=.ref c/\H a=some (.lst xs)/\H c=some (.lst [])/\Q (.bl xs.isEmpty) H):=by
 intro pins s σ H x y v u Q I rx ry h;obtain⟨a,c,xs,rfl,rfl,ha,hc,q⟩:=h;cases xs with
 | nil=>exact zdC hu pins s σ H _ _ v u Q I rx ry ⟨a,c,0,.lst [],fun _=>True,fun _=>True,rfl,rfl,⋯,zR.lst True.intro ha .nil,zR.lst True.intro hc .nil,q⟩
 | cons z zs=>exact zcz ∅ pins s σ H _ _ v u Q I rx ry ⟨a,c,_,_,rfl,rfl,ha,hc,by simp,q⟩
structure PL(zs:List Str):Prop where
 nd:zs.Nodup
 nm:∀z∈zs,zU z=true
 pos : 0<zs.length
 le:zs.length<=26
inductive zgr(vs:List V)(H:Hp)(Q:VK)(E:XK):Prop|mk(c:Int):vs=[.int c]->(∀(r:Addr) (zs:List Str) (H':Hp),zq H H'->H r=none->H' r=some (.lst (zs.map V.str))->PL zs->Q (.ref r) H')->zgr vs H Q E
structure znV(mg:Str->Option Value):Prop where
 range:mg "range"=none
 int:mg "int"=none
theorem zmv:([Str.ofString "_law_sign"]:List Str).Nodup:=by decide +kernel
theorem zmu:([Str.ofString "_law_k",Str.ofString "_law_cell",Str.ofString "_law_letters",Str.ofString "_law_stem"]:List Str).Nodup:=by decide +kernel
theorem uy:zA ["_law_cell","_law_letters","_law_pool_here","_law_number","_law_stem"] ["_law_cell"] (zh zgT):=fsc
theorem zjn(F:Fun K "_law_pool" "_law_pool" zgT f fd)(U:znV mg)(cD:⇑2 "_law_digits" g1 e1 ["_law_cell","_law_most","_law_base"] uN)(cW:⇑1 "_law_word" g2 e2 ["_law_number"] zj9):↥3 f fd ["_law_cell"] zgr:=by
 specialize uy;obtain⟨cc,rfl,q⟩:=h;have hU:=hr.units;have hr1:yk 1 _:=hr.mono ⋯
 refine zp (zx (i:=1) uy.nd rfl (Or.inr rfl) zH) ?_;refine zp (zS (zm ym (zk zW (pv 0) ze) ze (zF _)) y4 zD) ?_;refine yo (fun σ' H'=>σ'=[some (.int cc),some (.str "abcdefghijklmnopqrstuvwxyz"),none,none,none]/\H'=H) ?_ (fun key=>?_);rotate_left
 ·exists _,rfl,_,_,rfl,rfl,zp2,rfl,_,rfl,?_
  refine wQ (fun _=>?_) (fun _=>?_);rotate_left
  ·exact key _ _ ⟨rfl,rfl⟩
  refine uy[2]'(zT zc);exists wN,fun lf hlf=>?_;have s1:=zd hlf (.lst []);have g1:upd H lf (.lst []) lf=some (.lst (([]:List Str).map V.str)):=za;generalize upd H lf (.lst [])=H1 at s1 g1 |-;dsimp only[zJ];refine zp (yU PassesOwn.never rfl (zM (cF cD hr (ac (zk z3 (pv 0) ze) (ac ze (ac (zk xT ze (zk zhq ze ze)) zc))))) (zo (i:=3) uy.nd rfl (Or.inl rfl)) y4) ?_;exists _,rfl,_,_,rfl,rfl,⟨⋯,⋯⟩,_,_,rfl,rfl,⟨⋯,⋯,⋯⟩,_,_,rfl,rfl,.inl ⟨⋯,⋯⟩,_,24,_,rfl,⋯,⋯,⋯,fun ld ds H2 s2 nld hld lds=>?_
  exists ld,rfl,⟨_,zf hld⟩,xf (K:=K) (a:=ld) (xs:=ds.map V.int) (fun i σ H'=>∃v3 zs,σ=[some (.int cc),some (.str "abcdefghijklmnopqrstuvwxyz"),~~~lf,v3,none]/\zq H H'/\H' ld=some (.lst (ds.map V.int))/\H' lf=some (.lst (zs.map V.str))/\zs.Nodup/\(∀z∈zs,zU z=true)/\zs.length<=i) ⟨_,[],rfl,s1.trans s2,hld,s2 _ _ g1,nodup_nil,(fun _ h=>nomatch h),aF _⟩ (fun i σ H' _ ⟨_,_,_,_,e,_⟩=>zf e) ?_ ?_
  ·rintro i x σ H3 hx ⟨v3,zs,rfl,s3,hd3,hl3,zn,zb,zl⟩
   obtain⟨n,hn,rfl⟩:=ud hx;have hi:i<ds.length:=(List.getElem?_eq_some_iff.mp hn).1;dsimp only[zJ];exists _,zg (zS (zm yI (cF cW hr1 (ac (pv 3) zc)) (pv 2) (by with_unfolding_all rfl)) (zg (zZ (xw PySem.F.plainAttrs_list PySem.F.slot_list_append PySem.F.type_list_append ya (pv 2) (ac (cF cW hr1 (ac (pv 3) zc)) zc)))) zD),?_
   exists _,rfl,n,rfl,_,rfl,lf,_,rfl,.inl (zf hl3),rfl,yQ,_,rfl,?_;by_cases hz:zeg n∈zs
   ·refine yZ (by rw[aK rfl,xp,aC hz];rfl) ?_
    exact⟨_,zs,rfl,s3,hd3,hl3,zn,zb,le_succ_of_le zl⟩
   refine xA (by rw[aK rfl,xp,aD hz];rfl) ?_
   exists _,rfl,.inl ⟨rfl,_,zf hl3⟩,_,rfl,n,rfl,lf,_,_,rfl,rfl,hl3,zY (by rw[aA];omega),?_
   refine⟨_,zs++[zeg n],rfl,xm s3 hlf _,by rw[zi (Ne.symm (zj g1 nld))];exact hd3,by rw[za,aE];rfl,List.nodup_append.mpr ⟨zn,by simp,fun x hx y hy e=>hz (by rw[<- List.mem_singleton.mp hy,<- e];exact hx)⟩,fun z h=>?_,by rw[aG];exact succ_le_succ zl⟩
   rcases List.mem_append.mp h with h|h
   ·exact zb z h
   ·rw[List.mem_singleton.mp h];exact zc3 n
  ·rintro σ H3 ⟨v3,zs,rfl,s3,hd3,hl3,zn,zb,zl⟩
   rw[aA] at zl;exists _,zg (zB (zC ye (zT (ac (pv 2) (ac (zT (ac zH zc)) zc))) (cTy zgb U.int PyProof.Rows.boot_int (ac (xB (zji hU) (pv 2) (zT zc) (zF _)) zc)) (fun _ _=>rfl))),?_;exists _,rfl,ux,fun la hla=>?_
   injections la hla H4 s4 g4
   exists yG,fun lb hlb=>?_
   injections lb hlb H5 s5 g5
   exists _,rfl,wN,fun le hle=>?_
   injections le hle H6 s6 g6
   have s36:=s4.trans (s5.trans s6);cases zs with
   | nil=>exact⟨lf,le,_,rfl,rfl,s36 _ _ hl3,g6,.inr ⟨_,rfl,lb,_,_,.ref la,rfl,rfl,zf (s6 _ _ g5),rfl,q la ["a"] _ (s3.trans s36) (s3.free hla) ((s5.trans s6) _ _ g4) ⟨by decide +kernel,by decide +kernel,⋯,⋯⟩⟩⟩
   | cons z zs=>exact⟨lf,le,_,rfl,rfl,s36 _ _ hl3,g6,.inr ⟨_,rfl,lb,_,_,.ref lf,rfl,rfl,zf (s6 _ _ g5),rfl,q lf _ _ (s3.trans s36) hlf (s36 _ _ hl3) ⟨zn,zb,succ_pos _,∅⟩⟩⟩
 rintro σ0 H0 ⟨rfl,rfl⟩;refine zp (zx (i:=0) uy.nd rfl (Or.inr rfl) (zk z3 (pv 0) ze)) ?_;exists _,rfl,_,_,rfl,rfl,⟨⋯,⋯⟩,?_
 generalize cc / 2=cc;dsimp only[zJ];refine⟨_,zu (zS (zm ym (zk zW (zk z3 (pv 0) ze) ze) ze (zF _)) (zg (zB (yY [] ["_law_sign"] [none] rfl ⟨rfl,rfl,rfl,rfl⟩ (zhg (pv 1)) (zK 0) rfl rfl rfl
   (fun pins fp s H C=>⟨zo (i:=0) zmv rfl (Or.inl rfl) (.inr rfl),yV,pv 0⟩)))) zD)
  (zu (zx (i:=4) uy.nd rfl (Or.inr rfl) (zk xE (zk xE (zC vO (pv 1) (zk zW (pv 0) ze) (fun _ _=>rfl)) (zC vO (pv 1) (zk zW (zk z3 (pv 0) ze) ze) (fun _ _=>rfl))) (zC vO (pv 1) (zk zW (zk z3 (pv 0) ze) ze) (fun _ _=>rfl))))
  (zu (wD (i:=2) ["_law_stem","_law_letters","_law_cell"] ["_law_k","_law_cell","_law_letters","_law_stem"] [none,some 0,some 1,some 4] uy.nd rfl (Or.inl rfl) rfl ⟨rfl,rfl,rfl,rfl⟩ (wq rfl U.range (ac ze zc)) (zK 0) rfl rfl rfl
   (fun pins fp s H C=>⟨zo (i:=0) zmu rfl (Or.inl rfl) (.inr rfl),yV,zk xE (yj zkJ (pv 3) yR (yp (zk zW (pv 0) ze))) (zC vO (pv 2) (zk zW (zk yP (zk z3 (pv 1) ze) (pv 0)) ze) (fun _ _=>rfl))⟩))
  (zg (zB (zk yA (pv 2) (zT (ac (zk xE (zC ye (pv 2) ze (fun _ _=>rfl)) zH) (ac (zk xE (zC ye (pv 2) ze (fun _ _=>rfl)) zH) zc))))))))
  ,?_⟩
 exists _,rfl,_,_,rfl,rfl,⟨⋯,⋯⟩,_,_,rfl,rfl,zp8,rfl,_,rfl,?_
 have l26:(Str.ofString "abcdefghijklmnopqrstuvwxyz").cps.toList.length=26:=by decide +kernel
 refine wQ (fun _=>?_) (fun _=>?_)
 ·exists _,rfl,_,rfl,fun D hD=>?_
  exists fun i m ys H'=>i<=26/\m=26 - i/\ys=((List.range i).map fun k=>(⟨#[97+k]⟩:Str)).map V.str/\H'=upd H0 D (.lst ys),⟨_,zero_le _,rfl,rfl,rfl⟩,?_;rintro i m ys H' ⟨hi,rfl,rfl,rfl⟩;have sz:(Str.ofString "abcdefghijklmnopqrstuvwxyz").cps.size=26:=by decide +kernel
  by_cases he:i=26
  ·subst he
   refine .inl ⟨by show(Str.ofString "abcdefghijklmnopqrstuvwxyz").cps.size<=26;rw[sz];exact aF _,?_⟩
   exact q D zeC _ (zd hD _) hD za ⟨zhe,zdw,⋯,⋯⟩
  ·refine .inr ⟨by show i<(Str.ofString "abcdefghijklmnopqrstuvwxyz").cps.size;rw[sz];omega,?_⟩
   rintro x H' ⟨rfl,ch,hc,rfl⟩;exists fun _=>?_,fun e=>Bool.noConfusion e;have hc':(Str.ofString "abcdefghijklmnopqrstuvwxyz").cps.toList[i]?=some ch:=by simpa using hc
   rw[zeb i ∅] at hc'
   cases hc';exists _,rfl,za,?_,26 - (i+1),∅,∅,rfl,?_,?_
   ·rw[aA,aA,length_range]
    exact zY ∅
   ·rw[range_succ,aE,aE]
    rfl
   ·rw[jR]
 have x0 : 0<=cc % 26:=emod_nonneg _ ⋯
 have x1:cc % 26<26:=emod_lt_of_pos _ ⋯
 have y0 : 0<=cc / 26 % 26:=emod_nonneg _ ⋯
 have y1:cc / 26 % 26<26:=emod_lt_of_pos _ ⋯
 have z0 : 0<=cc / 676 % 26:=emod_nonneg _ ⋯
 have z1:cc / 676 % 26<26:=emod_lt_of_pos _ ⋯
 have big : 1000<=sizeLine:=by decide
 have l26':(Str.ofString "abcdefghijklmnopqrstuvwxyz").length<=sizeLine:=by decide +kernel
 exists _,rfl,_,rfl,_,_,rfl,rfl,zp26,_,_,_,rfl,rfl,l26',ul x0 x1,_,rfl,_,rfl,_,_,rfl,rfl,⟨⋯,⋯⟩,_,_,rfl,rfl,zp26,_,_,_,rfl,rfl,l26',ul y0 y1,_,_,rfl,rfl,(by show 1+1<=sizeLine;decide),_,rfl,_,rfl,_,_,rfl,rfl,⟨⋯,⋯⟩,_,_,rfl,rfl,zp26,_,_,_,rfl,rfl,l26',ul z0 z1,_,_,rfl,rfl,(by show 2+1<=sizeLine;decide),?_
 obtain⟨a,ea,ha⟩:∃a,a=(cc % 26).toNat/\a<26:=⟨_,rfl,∅⟩
 obtain⟨b,eb,hb⟩:∃b,b=(cc / 26 % 26).toNat/\b<26:=⟨_,rfl,∅⟩
 obtain⟨c,ec,hc⟩:∃c,c=(cc / 676 % 26).toNat/\c<26:=⟨_,rfl,∅⟩
 rw[<- ea,<- eb,<- ec];obtain⟨qq,eq⟩:∃qq,qq=(cc / 17576 % 26).toNat:=⟨_,rfl⟩;have q0 : 0<=cc / 17576 % 26:=emod_nonneg _ ⋯
 have st:((⟨#[97+a]⟩:Str)++(⟨#[97+b]⟩:Str))++(⟨#[97+c]⟩:Str)=⟨#[97+a,97+b,97+c]⟩:=rfl;rw[st];exists 8,rfl,⋯,⋯,fun D hD=>?_
 refine qR (n:=8) (fun i ys H'=>zq H0 H'/\H' D=some (.lst ys)/\ys=((List.range i).map (pn a b c qq)).map V.str) ⟨zd hD _,za,rfl⟩ ?_ ?_
 ·rintro i ys H' hi ⟨sH,hDy,ey⟩
  exists fun _=>?_,fun e=>Bool.noConfusion e;have w0 : 0<=(cc / 17576+((0:Int)+(i:Int))) % 26:=emod_nonneg _ ⋯
  have w1:(cc / 17576+((0:Int)+(i:Int))) % 26<26:=emod_lt_of_pos _ ⋯
  have ew:((cc / 17576+((0:Int)+(i:Int))) % 26).toNat=(qq+i) % 26:=by omega
  have e4:((0:Int)+(i:Int)) % 4=((i % 4:Nat):Int):=by omega
  exists _,rfl,_,rfl,_,_,rfl,rfl,(by show(0:Int)<4;decide),_,rfl,_,rfl,uP,_,rfl,_,rfl,_,_,rfl,rfl,⟨⋯,⋯⟩,_,rfl,_,_,rfl,rfl,_,_,rfl,rfl,zp26,_,_,_,rfl,rfl,l26',ul w0 w1,?_
  rw[ew,e4,zkI _ _ _ _ (mod_lt _ ⋯)]
  have hl:(⟨(([97+a,97+b,97+c]:List Nat).take (i % 4)).toArray⟩:Str).length<=3:=by
   show(List.toArray _).size<=3;rw[size_toArray,length_take];show min _ 3<=3;omega
  exists _,_,rfl,rfl,Nat.le_trans (show _+1<=1000 by omega) big,?_
  refine lcN.mk hi ⋯ hDy (by rw[ey,aA,aA,length_range];exact aF _) ⟨fun b' u e=>by rw[zi (zj e hD)];exact sH _ _ e,za,?_⟩
  rw[ey,range_succ,aE,aE];show _++[V.str _]=_++[V.str (pn a b c qq i)]
  congr 3
  unfold pn pnL;show(⟨List.toArray _++#[97+(qq+i) % 26]⟩:Str)=_
  congr 1
  apply Array.ext'
  simp
 ·rintro ys H1 ⟨s1,hDy,ey⟩
  subst ey;have e0:atI (((List.range 8).map (pn a b c qq)).map V.str) 0=some (.str (pn a b c qq 0)):=rfl;have e1:atI (((List.range 8).map (pn a b c qq)).map V.str) 1=some (.str (pn a b c qq 1)):=rfl;exists _,rfl,_,rfl,D,_,0,_,rfl,rfl,zf hDy,e0,_,_,rfl,rfl,(by show 1+5<=sizeLine;decide),_,rfl,D,_,1,_,rfl,rfl,zf hDy,e1,_,_,rfl,rfl,(by show 2+5<=sizeLine;decide),yG,fun l2 hl2=>?_
  have s2:=zd hl2 (.lst [.str (pn a b c qq 0++"aaaaa"),.str (pn a b c qq 1++"aaaaa")]);exists D,l2,_,_,rfl,rfl,s2 _ _ hDy,za,zme,fun r hr'=>?_;have s3:=zd hr' (.lst (((List.range 8).map (pn a b c qq)).map V.str++[.str (pn a b c qq 0++"aaaaa"),.str (pn a b c qq 1++"aaaaa")]));refine q r (zct a b c qq) _ (s1.trans (s2.trans s3)) (s1.free (s2.free hr')) ?_ ⟨zhd a b c qq,zdv ha hb hc,by show 0<10;decide,by show 10<=26;decide⟩
  rw[za];rfl
inductive zkd(K:Frag)(vs:List V)(H:Hp)(Q:VK)(E:XK):Prop|mk(a pa:Addr)(cs:List Int)(zs:List Str)(ends:Int):vs=[.ref a,.ref pa,.int ends]->SqL K H a (cs.map V.int)->cs.length<=22->H pa=some (.lst (zs.map V.str))->PL zs->(∀(la:Addr) (us:List Addr) (rows:List Rw) (H':Hp),zq H H'->H la=none->H' la=some (.lst (us.map V.ref))->Paired (TAt H') us rows->VR rows->(∀z∈nms rows,z∈zs)->(∃S:FS,rows=S.rows/\FM 24 S/\S.P.length+S.G.length<=22)->Q (.ref la) H')->zkd K vs H Q E
theorem jC:zA ["_law_numbers","_law_pool_here","_law_ends","_law_places","_law_tags","_law_used","_law_number","_law_name","_law_free","_law_tail"] ["_law_numbers","_law_pool_here","_law_ends"] (zh zk1):=fsc
theorem zlq(F:Fun K "_law_row" "_law_row" zk1 f fd)(hln:mg "len"=none):↥1 f fd ["_law_numbers","_law_pool_here","_law_ends"] (zkd K):=by
 specialize jC;obtain⟨a,pa,cs,zs,ends,rfl,hS,l22,hpa,pz,q⟩:=h;have z0:=pz.pos;have z26:=pz.le;have hzn:=pz.nm;refine jC[3]'(zT zc);exists wN,fun lp hlp=>?_;dsimp only[zJ]
 injections lp hlp H1 s1 g1
 refine jC[4]'(zT zc);exists wN,fun lt hlt=>?_;dsimp only[zJ]
 injections lt hlt H2 s2 g2
 refine jC[5]'(zT zc);exists wN,fun ll hll=>?_;dsimp only[zJ]
 injections ll hll H3 s3 g3
 have I0:FI H H3 lp lt ll ⟨[],[],[],[],[]⟩:=⟨s1.trans (s2.trans s3),⟨[],s3 _ _ (s2 _ _ g1),.nil⟩,⟨[],s3 _ _ g2,.nil⟩,g3,zj g1 hlt,zj (s2 _ _ g1) hll,zj g2 hll,hlp,s1.free hlt,(s1.trans s2).free hll⟩;have pick:∀(x:Int),∃j,x % (zs.length:Int)=((j:Nat):Int)/\∃h:j<zs.length,atI (zs.map V.str) (x % (zs.length:Int))=some (.str zs[j]):=fun x=>by
  have d0 : 0<=x % (zs.length:Int):=emod_nonneg _ ∅
  have d1:x % (zs.length:Int)<(zs.length:Int):=emod_lt_of_pos _ ∅
  obtain⟨j,hj⟩:=eq_ofNat_of_zero_le d0;have hjl:j<zs.length:=by omega
  exact⟨j,hj,hjl,by rw[hj];exact wK (by rw[getElem?_map,aB hjl];rfl)⟩
 have lz:((zs.map V.str).length:Int)=(zs.length:Int):=by rw[aA]
 refine zp (yU PassesOwn.never rfl (zM (pv 0)) (zo (i:=6) jC.nd rfl (Or.inl rfl)) y4) ?_;refine⟨_,rfl,a,rfl,⟨_,I0.sm.seq hS⟩,xf (K:=K) (a:=a) (xs:=cs.map V.int) (fun i σ H'=>∃(S:FS) (v6 v7 v8 v9:Option V),σ=[~~~a,~~~pa,some (.int ends),~~~lp,~~~lt,~~~ll,v6,v7,v8,v9]/\FI H H' lp lt ll S/\FM i S/\S.T=[]/\S.B=[]/\∀y∈S.L,y∈zs)
  ⟨⟨[],[],[],[],[]⟩,_,_,_,_,rfl,I0,FM.zero,rfl,rfl,(fun y h=>nomatch h)⟩ (fun i σ H' _ ⟨_,_,_,_,_,_,h,_⟩=>h.sm.seq hS) ?_ ?_⟩
 ·rintro i x σ H5 hx ⟨S,v6,v7,v8,v9,rfl,I5,M4,eT,eB,pL⟩
  obtain⟨mm,hn,rfl⟩:=ud hx;have hi:i<cs.length:=(List.getElem?_eq_some_iff.mp hn).1;obtain⟨j,hj,hjl,hat⟩:=pick (mm / 16);have hpa5:=I5.sm _ _ hpa;dsimp only[zJ];refine jC[7]'(zC ye (pv 1) (zk zW (zk z3 (pv 6) ze) (cB zE hln PySem.boot_len (ac (pv 1) zc))) (fun _ _=>rfl));exists _,rfl,_,rfl,_,_,rfl,rfl,⟨⋯,⋯⟩,_,rfl,pa,_,rfl,.inl (zf hpa5),_,_,rfl,rfl,(by rw[lz];omega),pa,_,_,.str zs[j],rfl,rfl,zf hpa5,(by rw[lz];exact hat),?_
  have hz:=hzn _ (getElem_mem hjl);have hzz:=getElem_mem hjl;generalize zs[j]=z at hz hzz |-;dsimp only[zJ];refine jC[8]'(xB ym (zk zW (zk z3 (zk z3 (pv 6) ze) (cB zE hln PySem.boot_len (ac (pv 1) zc))) ze) ze (zF _));exists _,rfl,_,_,rfl,rfl,⟨⋯,⋯⟩,_,rfl,pa,_,rfl,.inl (zf hpa5),_,_,rfl,rfl,⟨by rw[lz];omega,by rw[lz];omega⟩,_,_,rfl,rfl,zp2,rfl,?_
  dsimp only[zJ];generalize decide (_=V.int 1)=fb;exists _,zg (zS (zm vL (zk zW (pv 6) ze) ze (zF _)) (zg (zZ (xw PySem.F.plainAttrs_list PySem.F.slot_list_append PySem.F.type_list_append ya (pv 3) (ac (z7 (ac zH (ac (pv 7) (ac (pv 8) zc)))) zc)))) (zg (zS (yS (yO (zm vL (zk zW (pv 6) ze) ze (zF _)) (yB (zm yI (pv 7) (pv 5) (by with_unfolding_all rfl))))) (zu (zZ (xw PySem.F.plainAttrs_list PySem.F.slot_list_append PySem.F.type_list_append ya (pv 5) (ac (pv 7) zc))) (zg (zS (zm vL (zk zW (pv 6) ze) ze (zF _)) (zg (zZ (xw PySem.F.plainAttrs_list PySem.F.slot_list_append PySem.F.type_list_append ya (pv 3) (ac (z7 (ac zH (ac (pv 7) (ac (pv 8) zc)))) zc)))) (zg (zZ (xw PySem.F.plainAttrs_list PySem.F.slot_list_append PySem.F.type_list_append ya (pv 4) (ac (z7 (ac zH (ac (pv 7) (ac (pv 8) zc)))) zc))))))) zD))),?_
  have lP:S.P.length<=24:=by have:=M4.ln;omega
  have lG:S.G.length<=24:=by have:=M4.ln;omega
  have lL:=M4.lL;exists _,rfl,_,_,rfl,rfl,zp16,_,_,rfl,rfl,_,rfl,?_;have fin:∀{k:Nat}{H':Hp},FI H H' lp lt ll (S.add k z fb)->k<5->k≠2->k≠4->(yn k=true->z∉S.L)->∃(S:FS) (v6 v7 v8 v9':Option V),([~~~a,~~~pa,some (.int ends),~~~lp,~~~lt,~~~ll,some (.int mm),some (.str z),some (.bl fb),v9]:L2.St)=[~~~a,~~~pa,some (.int ends),~~~lp,~~~lt,~~~ll,v6,v7,v8,v9']/\FI H H' lp lt ll S/\FM (i+1) S/\S.T=[]/\S.B=[]/\∀y∈S.L,y∈zs:=fun {k H'} I hk h2 h4 hn=>by
   exists S.add k z fb,_,_,_,_,rfl,I,M4.add hk hz hn,?_,?_,?_;rotate_left 2
   ·have two:∀y∈S.L++[z],y∈zs:=ja pL hzz
    rcases lt5 hk with rfl|rfl|rfl|rfl|rfl
    ·exact pL
    ·exact two
    ·exact pL
    ·exact two
    ·exact pL
   ·rcases lt5 hk with rfl|rfl|rfl|rfl|rfl
    ·exact eT
    ·exact eT
    ·exact absurd rfl h2
    ·exact eT
    ·exact absurd rfl h4
   ·rcases lt5 hk with rfl|rfl|rfl|rfl|rfl
    ·exact eB
    ·exact eB
    ·exact absurd rfl h2
    ·exact eB
    ·exact absurd rfl h4
  by_cases c1:mm % 16<4
  ·refine dT (by exact c1) ?_
   obtain⟨us,h1,h2⟩:=I5.hp;have hlu:us.length<=24:=by rw[h2.length];exact lP
   exists _,rfl,.inl ⟨rfl,_,zf h1⟩,_,rfl,_,rfl,uP,fun u hu=>?_;have s7:=zd hu (.tup [.str "seat",.str z,.bl fb]);have tu:TAt (upd H5 u (.tup [.str "seat",.str z,.bl fb])) u ⟨0,z,fb⟩:=za;exists lp,_,_,rfl,rfl,s7 _ _ h1,zY (by rw[aA];omega),?_
   exact fin (k:=0) ((I5.same s7).addP (s7 _ _ h1) (zr s7 h2) tu) ⋯ ⋯ ⋯ (fun e=>by cases e)
  refine dF (by exact c1) ?_
  exists _,rfl,_,_,rfl,rfl,zp16,_,_,rfl,rfl,_,rfl,?_;have skip:∃(S:FS) (v6 v7 v8 v9':Option V),([~~~a,~~~pa,some (.int ends),~~~lp,~~~lt,~~~ll,some (.int mm),some (.str z),some (.bl fb),v9]:L2.St)=[~~~a,~~~pa,some (.int ends),~~~lp,~~~lt,~~~ll,v6,v7,v8,v9']/\FI H H5 lp lt ll S/\FM (i+1) S/\S.T=[]/\S.B=[]/\∀y∈S.L,y∈zs:=
   ⟨S,_,_,_,_,rfl,I5,⟨M4.okP,M4.okT,M4.okG,M4.okB,M4.lT,M4.lB,M4.nd,M4.sn,le_succ_of_le M4.ln,le_succ_of_le M4.lL⟩,eT,eB,pL⟩
  by_cases c2:mm % 16<14
  rotate_left
  ·refine dF (by exact c2) ?_
   refine yD ?_;exact skip
  refine dT (by exact c2) ?_
  exists _,rfl,_,rfl,ll,_,rfl,.inl (zf I5.hl),rfl,yQ,_,rfl,?_;by_cases hz1:z∈S.L
  ·refine yZ (by rw[aK rfl,xp,aC hz1];rfl) ?_
   exact skip
  refine xA (by rw[aK rfl,xp,aD hz1];rfl) ?_
  exists _,rfl,.inl ⟨rfl,_,zf I5.hl⟩,_,rfl,ll,_,_,rfl,rfl,I5.hl,zY (by rw[aA];omega),?_
  have I6:=I5.addL (z:=z);dsimp only[zj5];generalize upd H5 ll (.lst (S.L.map V.str++[.str z]))=H6 at I6 |-;exists _,rfl,_,_,rfl,rfl,zp16,_,_,rfl,rfl,_,rfl,?_;by_cases c3:mm % 16<10
  ·refine dT (by exact c3) ?_
   obtain⟨us,h1,h2⟩:=I6.hp;have hlu:us.length<=24:=by rw[h2.length];exact lP
   exists _,rfl,.inl ⟨rfl,_,zf h1⟩,_,rfl,_,rfl,uP,fun u hu=>?_;have s7:=zd hu (.tup [.str "both",.str z,.bl fb]);have tu:TAt (upd H6 u (.tup [.str "both",.str z,.bl fb])) u ⟨1,z,fb⟩:=za;exists lp,_,_,rfl,rfl,s7 _ _ h1,zY (by rw[aA];omega),?_
   exact fin (k:=1) ((I6.same s7).addP (s7 _ _ h1) (zr s7 h2) tu) ⋯ ⋯ ⋯ (fun _=>hz1)
  ·refine dF (by exact c3) ?_
   obtain⟨us,h1,h2⟩:=I6.ht;have hlu:us.length<=24:=by rw[h2.length];exact lG
   exists _,rfl,.inl ⟨rfl,_,zf h1⟩,_,rfl,_,rfl,uP,fun u hu=>?_;have s7:=zd hu (.tup [.str "tag",.str z,.bl fb]);have tu:TAt (upd H6 u (.tup [.str "tag",.str z,.bl fb])) u ⟨3,z,fb⟩:=za;exists lt,_,_,rfl,rfl,s7 _ _ h1,zY (by rw[aA];omega),?_
   exact fin (k:=3) ((I6.same s7).addG (s7 _ _ h1) (zr s7 h2) tu) ⋯ ⋯ ⋯ (fun _=>hz1)
 ·rintro σ H4 ⟨S,v6,v7,v8,v9,rfl,I4,M4,eT,eB,pL⟩
  have hlen:=l22;rw[aA] at M4;have one:∀{T:List Rw}{k:Nat}{z:Str},T=[⟨k,z,true⟩]\/T=[]->T.length<=1:=fun h=>by rcases h with rfl|rfl <;> simp
  have lP:=M4.ln;obtain⟨j,hj,hjl,hat⟩:=pick (ends / 4);have hpa4:=I4.sm _ _ hpa;refine jC[9]'(zk zhp (zT (ac (z7 (ac zH (ac (zC ye (pv 1) (zk zW (zk z3 (pv 2) ze) (cB zE hln PySem.boot_len (ac (pv 1) zc))) (fun _ _=>rfl)) zc))) zc)) (zk zW (pv 2) ze));exists _,rfl,_,rfl,_,_,rfl,rfl,⟨⋯,⋯⟩,_,rfl,pa,_,rfl,.inl (zf hpa4),_,_,rfl,rfl,(by rw[lz];omega),pa,_,_,.str zs[j],rfl,rfl,zf hpa4,(by rw[lz];exact hat),yG,fun u1 hu1=>?_
  have hz1:=hzn _ (getElem_mem hjl);generalize zs[j]=z1 at hz1 |-;have s5:=zd hu1 (.tup [.str "tail",.str z1]);have tu1:TAt (upd H4 u1 (.tup [.str "tail",.str z1])) u1 ⟨2,z1,true⟩:=za;have I5:=I4.same s5;generalize upd H4 u1 (.tup [.str "tail",.str z1])=H5 at s5 tu1 I5 |-;exists ux,fun l1 hl1=>?_;have s6:=zd hl1 (.lst [.ref u1]);have g6:upd H5 l1 (.lst [.ref u1]) l1=some (.lst [.ref u1]):=za;have I6:=I5.same s6;have tu1:=tu1.same s6;generalize upd H5 l1 (.lst [.ref u1])=H6 at s6 g6 I6 tu1 |-;have b0 : 0<=ends % 2:=emod_nonneg _ ⋯
  have b1:ends % 2<2:=emod_lt_of_pos _ ⋯
  exists _,rfl,_,_,rfl,rfl,zp2,l1,ends % 2,_,rfl,rfl,g6,∅,∅,(by show 1 * _<=sizeLine;exact z9 ∅),fun p1 hp1=>?_
  obtain⟨usT,T1,eT1,hT1,hTT⟩:∃us T,(List.replicate (ends % 2).toNat [V.ref u1]).flatten=us.map V.ref/\Paired (TAt H6) us T/\(T=[⟨2,z1,true⟩]\/T=[]):=by
   by_cases hb:ends % 2=1
   ·rw[hb];exact⟨[u1],_,rfl,.cons tu1 .nil,.inl rfl⟩
   ·rw[show ends % 2=0 by omega];exact⟨[],_,rfl,.nil,.inr rfl⟩
  rw[eT1];have s7:=zd hp1 (.lst (usT.map V.ref));have g7:upd H6 p1 (.lst (usT.map V.ref)) p1=some (.lst (usT.map V.ref)):=za;have I7:=I6.same s7;have hT1:=zr s7 hT1;dsimp only[zJ];generalize upd H6 p1 (.lst (usT.map V.ref))=H7 at s7 g7 I7 hT1 |-;have M7:FM (cs.length+1) { S with T:=T1 }:=by
   rcases hTT with rfl|rfl
   ·exact M4.add (k:=2) (b:=true) ⋯ hz1 (fun e=>by cases e)
   ·rw[show({ S with T:=[] }:FS)=S by cases S;cases eT;rfl]
    exact⟨M4.okP,M4.okT,M4.okG,M4.okB,M4.lT,M4.lB,M4.nd,M4.sn,le_succ_of_le M4.ln,le_succ_of_le M4.lL⟩
  obtain⟨us1,h11,h12⟩:=I7.hp;obtain⟨us3,h31,h32⟩:=I7.ht;have lT1:usT.length<=1:=by rw[hT1.length];exact one hTT
  have l1':us1.length=S.P.length:=h12.length;have l3':us3.length=S.G.length:=h32.length;exists _,zg (zB (zk yA (zk yA (zk yA (pv 3) (pv 9)) (pv 4)) (zk zhp (zT (ac (z7 (ac zH (ac (zC ye (pv 1) (zk zW (zk z3 (zk z3 (pv 2) ze) (cB zE hln PySem.boot_len (ac (pv 1) zc))) (cB zE hln PySem.boot_len (ac (pv 1) zc))) (fun _ _=>rfl)) zc))) zc)) (zk zW (zk z3 (pv 2) ze) ze)))),?_;exists _,rfl,_,rfl,lp,p1,_,_,rfl,rfl,h11,g7,z9 (by rw[aA,aA];omega),fun x1 hx1=>?_
  rw[<- aE]
  injections x1 hx1 H8 s8 g8
  exists _,rfl,x1,lt,_,_,rfl,rfl,g8,s8 _ _ h31,z9 (by rw[aA,aA,aG];omega),fun x2 hx2=>?_
  rw[<- aE]
  injections x2 hx2 H9 s9 g9
  have I9:=I7.same (s8.trans s9);obtain⟨j2,hj2,hjl2,hat2⟩:=pick (ends / 4 / (zs.length:Int));have hpa9:=I9.sm _ _ hpa;exists _,rfl,_,rfl,_,_,rfl,rfl,⟨⋯,⋯⟩,_,rfl,pa,_,rfl,.inl (zf hpa9),_,_,rfl,rfl,⟨by rw[lz];omega,by rw[lz];omega⟩,_,rfl,pa,_,rfl,.inl (zf hpa9),_,_,rfl,rfl,(by rw[lz];omega),pa,_,_,.str zs[j2],rfl,rfl,zf hpa9,(by rw[lz];exact hat2),yG,fun u2 hu2=>?_
  have hz2:=hzn _ (getElem_mem hjl2);generalize zs[j2]=z2 at hz2 |-;have s10:=zd hu2 (.tup [.str "bag",.str z2]);have tu2:TAt (upd H9 u2 (.tup [.str "bag",.str z2])) u2 ⟨4,z2,true⟩:=za;generalize upd H9 u2 (.tup [.str "bag",.str z2])=H10 at s10 tu2 |-;exists ux,fun l2 hl2=>?_;have s11:=zd hl2 (.lst [.ref u2]);have g11:upd H10 l2 (.lst [.ref u2]) l2=some (.lst [.ref u2]):=za;have tu2:=tu2.same s11;generalize upd H10 l2 (.lst [.ref u2])=H11 at s11 g11 tu2 |-;have c0 : 0<=ends / 2 % 2:=emod_nonneg _ ⋯
  have c1:ends / 2 % 2<2:=emod_lt_of_pos _ ⋯
  exists _,rfl,_,_,rfl,rfl,⟨⋯,⋯⟩,_,_,rfl,rfl,zp2,l2,ends / 2 % 2,_,rfl,rfl,g11,∅,∅,(by show 1 * _<=sizeLine;exact z9 ∅),fun p2 hp2=>?_
  obtain⟨usB,B1,eB1,hB1,hBB⟩:∃us B,(List.replicate (ends / 2 % 2).toNat [V.ref u2]).flatten=us.map V.ref/\Paired (TAt H11) us B/\(B=[⟨4,z2,true⟩]\/B=[]):=by
   by_cases hb:ends / 2 % 2=1
   ·rw[hb];exact⟨[u2],_,rfl,.cons tu2 .nil,.inl rfl⟩
   ·rw[show ends / 2 % 2=0 by omega];exact⟨[],_,rfl,.nil,.inr rfl⟩
  rw[eB1];have s12:=zd hp2 (.lst (usB.map V.ref));have g12:upd H11 p2 (.lst (usB.map V.ref)) p2=some (.lst (usB.map V.ref)):=za;have hB1:=zr s12 hB1;generalize upd H11 p2 (.lst (usB.map V.ref))=H12 at s12 g12 hB1 |-;have s912:zq H9 H12:=s10.trans (s11.trans s12);have lB1:usB.length<=1:=by rw[hB1.length];exact one hBB
  exists x2,p2,_,_,rfl,rfl,s912 _ _ g9,g12,z9 (by rw[aA,aA,aG,aG];omega),fun x3 hx3=>?_
  rw[<- aE];have s13:=zd hx3 (.lst ((us1++usT++us3++usB).map V.ref));have M13:FM (cs.length+1+1) { S with T:=T1,B:=B1 }:=by
   rcases hBB with rfl|rfl
   ·exact M7.add (k:=4) (b:=true) ⋯ hz2 (fun e=>by cases e)
   ·rw[show({ S with T:=T1,B:=[] }:FS)={ S with T:=T1 } by cases S;cases eB;rfl]
    exact⟨M7.okP,M7.okT,M7.okG,M7.okB,M7.lT,M7.lB,M7.nd,M7.sn,le_succ_of_le M7.ln,le_succ_of_le M7.lL⟩
  have s713:=(s8.trans s9).trans (s912.trans s13);refine q x3 _ _ _ (I7.sm.trans s713) (I7.sm.free ((s8.trans s9).free (s912.free hx3))) za ?_ (FM.vr M13 ∅) (fun z hz=>pL z (M13.sn z (by
   have n1:nms T1=[]:=ua M13.okT rfl;have n2:nms B1=[]:=ua M13.okB rfl;unfold FS.rows at hz;rw[yv,yv,yv] at hz;dsimp only at hz;rw[n1,n2,append_nil,append_nil] at hz;exact hz))) ⟨_,rfl,⟨M13.okP,M13.okT,M13.okG,M13.okB,M13.lT,M13.lB,M13.nd,M13.sn,Nat.le_trans M13.ln ∅,Nat.le_trans M13.lL ∅⟩,by show S.P.length+S.G.length<=22;omega⟩
  exact yu (yu (yu (zr s713 h12) (zr s713 hT1)) (zr s713 h32)) (zr s13 hB1)
theorem zis(ns:List Int)(a b:Nat):∃ms:List Int,xJ (ns.map V.int) (some (a:Int)) (some (b:Int))=ms.map V.int/\ms.length<=b - a:=by
 exists (ns.drop (min a ns.length)).take (min b ns.length - min a ns.length),?_,?_
 ·unfold xJ
  rw[HT.zm5,HT.zm5,aA,map_take,map_drop]
 ·rw[length_take,length_drop]
  omega
def zj3(H:Hp)(zs:List Str)(Q:VK):Prop:=∀la us rows H',zq H H'->H la=none->H' la=some (.lst (us.map V.ref))->Paired (TAt H') us rows->VR rows->(∀z∈nms rows,z∈zs)->(∃S:FS,rows=S.rows/\FM 24 S/\S.P.length+S.G.length<=22)->Q (.ref la) H'
theorem zj3.of{Q:VK}(h:zj3 H zs Q)(s:zq H H1):zj3 H1 zs Q:=fun la us rows H' s' n e p v z S=>h la us rows H' (s.trans s') (s.free n) e p v z S
inductive zc9(K:Frag)(vs:List V)(H:Hp)(Q:VK)(E:XK):Prop|mk(sa pa:Addr)(ns:List Int)(k:Nat)(zs:List Str)(ends:Int):vs=[.ref sa,.int (k:Nat),.ref pa,.int ends]->SqL K H sa (ns.map V.int)->ns.length<=63->(k=4\/k=5)->H pa=some (.lst (zs.map V.str))->PL zs->(zj3 H zs Q)->zc9 K vs H Q E
inductive za9(vs:List V)(H:Hp)(Q:VK)(E:XK):Prop|mk(t la lb t' la' lb' ln:Addr)(m:Nat)(D D':FD)(bars bars' zs ns:List Str):vs=[.ref t,.ref t',.int (m:Nat),.ref ln]->FA H t la lb D bars->FA H t' la' lb' D' bars'->z6 zs D bars->z6 zs D' bars'->H ln=some (.lst (ns.map V.str))->ns.length<=80->(∀(b:Bool) (H':Hp),zq H H'->(b=true ↔ ns.Nodup/\uw D bars D' bars' m ns)->Q (.bl b) H')->za9 vs H Q E
theorem zmD:([Str.ofString "_law_j",Str.ofString "_law_cell"]:List Str).Nodup:=by decide +kernel
theorem zgK:zA ["_law_script","_law_k","_law_pool_here","_law_ends","_law_cells"] ["_law_script","_law_k","_law_pool_here","_law_ends"] (zh zbs):=fsc
theorem zjm(F:Fun K "_law_row_at" "_law_row_at" zbs f fd)(hen:mg "enumerate"=none)(cN:⇑1 "_law_nth" g1 e1 ["_law_script","_law_k"] (qh K))(cR:⇑1 "_law_row" g2 e2 ["_law_numbers","_law_pool_here","_law_ends"] (zkd K))(cD:⇑2 "_law_digits" g3 e3 ["_law_cell","_law_most","_law_base"] uN)(cS:⇑1 "_law_stirred" g4 e4 ["_law_cell","_law_k"] za7):↥3 f fd ["_law_script","_law_k","_law_pool_here","_law_ends"] (zc9 K):=by
 specialize zgK;obtain⟨sa,pa,ns,k,zs,ends,rfl,hS,h63,hk,hpa,pz,q⟩:=h;have hr1:yk 1 _:=hr.mono ⋯
 refine zp (zS (zm ym (zk zW (cF cN hr1 (ac (pv 0) (ac ze zc))) ze) ze (zF _)) (zg (zB (cF cR hr1 (ac (cF cD hr (ac (cF cN hr1 (ac (pv 0) (ac (pv 1) zc))) (ac ze (ac ze zc)))) (ac (pv 2) (ac (pv 3) zc)))))) zD) ?_;exists _,rfl,sa,ns,1,rfl,hS,h63,fun c1 H1 s1=>?_;exists _,_,rfl,rfl,zp2,rfl,_,rfl,?_;refine wQ (fun _=>?_) (fun _=>?_)
 ·exists _,rfl,_,rfl,sa,ns,k,rfl,s1.seq hS,h63,fun c2 H2 s2=>?_
  exists c2,22,768,rfl,⋯,⋯,⋯,fun ld ds H3 s3 nld hld lds=>?_
  have s03:=s1.trans (s2.trans s3);exact⟨_,rfl,_,rfl,ld,pa,ds,zs,ends,rfl,zf hld,lds,s03 _ _ hpa,pz,q.of s03⟩
 obtain⟨a,b,ea,eb,hab⟩:∃a b:Nat,4+20 * (((k:Nat):Int) - 4)=((a:Nat):Int)/\24+20 * (((k:Nat):Int) - 4)=((b:Nat):Int)/\b - a<=20:=by
  rcases hk with rfl|rfl
  ·exact⟨4,24,rfl,rfl,⋯⟩
  ·exact⟨24,44,rfl,rfl,⋯⟩
 refine zgK[4]'(yj yX (pv 0) (yp (zk yP ze (zk xT ze (zk zdB (pv 1) ze)))) (yp (zk yP ze (zk xT ze (zk zdB (pv 1) ze)))));exists _,rfl,_,rfl,_,_,rfl,rfl,_,_,rfl,rfl,.inl ⟨⋯,⋯⟩,_,_,rfl,rfl,_,rfl,_,rfl,_,_,rfl,rfl,_,_,rfl,rfl,.inl ⟨⋯,⋯⟩,_,_,rfl,rfl,_,rfl,sa,_,rfl,s1.seq hS,fun ca hca=>?_
 obtain⟨cs,ec,lc⟩:=zis ns a b;rw[ea,eb,ec];have s2:=zd hca (.lst (cs.map V.int));have g2:upd H1 ca (.lst (cs.map V.int)) ca=some (.lst (cs.map V.int)):=za;have s02:=s1.trans s2;generalize upd H1 ca (.lst (cs.map V.int))=H2 at s2 g2 s02 |-;dsimp only[zJ];refine⟨_,zg (zB (cF cR hr1 (ac (yY [] ["_law_j","_law_cell"] [none,none] rfl ⟨rfl,rfl,rfl,rfl⟩ (wE rfl hen (ac (pv 4) zc)) (ue (K:=K) (n:=2) 0 1) rfl rfl rfl
   (fun pins fp s H C=>⟨y6 rfl (zN (zo (i:=0) zmD rfl (Or.inl rfl) (.inr rfl)) (zN (zo (i:=1) zmD rfl (Or.inl rfl) (.inr rfl)) yH)),yV,cF cS hr1 (ac (pv 1) (ac (pv 0) zc))⟩)) (ac (pv 2) (ac (pv 3) zc))))),?_⟩
 exists _,rfl,ca,rfl,⟨_,zf g2⟩,fun D hD=>?_;refine zeS (K:=K) (xs:=cs.map V.int) (fun i ys H'=>zq H2 H'/\H' D=some (.lst ys)/\∃ms:List Int,ys=ms.map V.int/\ms.length=i) ⟨zd hD _,za,[],rfl,rfl⟩ (fun i ys H' h=>h.1.seq (zf g2)) ?_ ?_
 ·rintro i x p ys H' hi hx ⟨sH,hDy,ms,ey,el⟩ hpn
  obtain⟨n,hn,rfl⟩:=ud hx;have sp:=zd hpn (.tup [.int (i:Nat),.int n]);exists p,_,rfl,zy za,rfl,_,_,rfl,_,_,rfl,rfl,?_;have sA:=sH.trans sp;have hDy:=sp _ _ hDy;generalize upd H' p (.tup [.int (i:Nat),.int n])=H3 at sp hDy sA |-;rw[aA] at hi;exists fun _=>⟨_,rfl,_,rfl,n,_,rfl,?_⟩,fun z=>absurd z ⋯
  exact lcN.mk (by rw[aA];exact hi) (by rw[aA];exact z9 ∅) hDy (by rw[ey,aA];omega) ⟨xm sA hD _,za,ms++[_],by rw[ey,aE];rfl,by rw[aG,el];rfl⟩
 ·rintro ys H3 ⟨sH,hDy,ms,ey,el⟩
  rw[aA] at el;have s03:=s02.trans sH;exact⟨_,rfl,_,rfl,D,pa,ms,zs,ends,rfl,zf (by rw[hDy,ey]),∅,s03 _ _ hpa,pz,q.of s03⟩
theorem ziU:zA ["_law_one","_law_other","_law_many","_law_names"] ["_law_one","_law_other","_law_many","_law_names"] (zh zdk):=fsc
theorem zhE(F:Fun K "_law_parts" "_law_parts" zdk f fd)(cT:⇑1 "_law_takes" g1 e1 ["_law_row_here","_law_bars_here","_law_many","_law_names"] zel):↥2 f fd ["_law_one","_law_other","_law_many","_law_names"] za9:=by
 specialize ziU;obtain⟨t,la,lb,t',la',lb',ln,m,D,D',bars,bars',zs,ns,rfl,fa,fa',fd,fd',hln,l80,q⟩:=h;exists _,zg (zB (zbG (cF cT hr (ac (zC zG (pv 1) ze (fun _ _=>rfl)) (ac (zC zG (pv 1) ze (fun _ _=>rfl)) (ac (pv 2) (ac (pv 3) zc))))) (zbE (zdy (cF cT hr (ac (zC zG (pv 0) ze (fun _ _=>rfl)) (ac (zC zG (pv 0) ze (fun _ _=>rfl)) (ac (pv 2) (ac (pv 3) zc))))))))),?_;exists _,rfl,t',_,0,.ref la',rfl,rfl,zy fa'.ht,rfl,_,rfl,t',_,1,.ref lb',rfl,rfl,zy fa'.ht,rfl,_,rfl,_,rfl,la',lb',ln,m,D'.rows,bars',ns,rfl,fa'.hr,ze2 fd',uF fd',fa'.hb,hln,l80,fun H1 s1=>?_;exists _,rfl,?_;rw[vW fd'];by_cases c1:(decide ns.Nodup&&acc (sF D' bars' m) ns)=true
 rotate_left
 ·refine yZ (Bool.eq_false_iff.mpr c1) ?_
  have:=q false H1 s1 ⟨fun e=>Bool.noConfusion e,fun⟨a,b⟩=>absurd (by rw[aC a,b.1];rfl) c1⟩
  exact this
 refine xA c1 ?_;obtain⟨c1,c2⟩:=Bool.and_eq_true_iff.mp c1;have nd:=of_decide_eq_true c1;have fa:=fa.same s1;exists _,rfl,t,_,0,.ref la,rfl,rfl,zy fa.ht,rfl,_,rfl,t,_,1,.ref lb,rfl,rfl,zy fa.ht,rfl,_,rfl,_,rfl,la,lb,ln,m,D.rows,bars,ns,rfl,fa.hr,ze2 fd,uF fd,fa.hb,s1 _ _ hln,l80,fun H2 s2=>?_;rw[vW fd,c1,Bool.true_and];exists _,rfl,q _ _ (s1.trans s2) ⟨fun e=>⟨nd,c2,by simpa using e⟩,fun⟨_,_,e⟩=>by rw[e];rfl⟩
structure SA(H:Hp)(t l:Addr)(m:Nat)(ns:List Str):Prop where
 ht:H t=some (.tup [.int (m:Nat),.ref l])
 hl:H l=some (.lst (ns.map V.str))
 lm:m<=60
 ln:ns.length<=60
theorem SA.same{m:Nat}(h:SA H t l m ns)(s:zq H H'):SA H' t l m ns:=⟨s _ _ h.ht,s _ _ h.hl,h.lm,h.ln⟩
def ShQ(H:Hp)(Q:VK):Prop:=∀t l (m:Nat) ns H',zq H H'->H l=none->SA H' t l m ns->Q (.ref t) H'
inductive zca(vs:List V)(H:Hp)(Q:VK)(E:XK):Prop|mk(la pa:Addr)(n:Int)(D:FD)(bars zs:List Str):vs=[.ref la,.int n,.ref pa]->xW H la D.rows->z6 zs D bars->H pa=some (.lst (zs.map V.str))->PL zs->(ShQ H Q)->zca vs H Q E
inductive zet(vs:List V)(H:Hp)(Q:VK)(E:XK):Prop|mk(pa:Addr)(c:Int)(zs:List Str):vs=[.int c,.ref pa]->H pa=some (.lst (zs.map V.str))->PL zs->(ShQ H Q)->zet vs H Q E
structure zmV(mg:Str->Option Value):Prop where
 len:mg "len"=none
 set:mg "set"=none
 sorted:mg "sorted"=none
theorem jk{zs:List Str}(x:Int)(h : 0<zs.length):∃z∈zs,atI (zs.map V.str) (x % (((zs.map V.str).length:Nat):Int))=some (.str z):=by
 rw[aA];have d0 : 0<=x % (zs.length:Int):=emod_nonneg _ ∅
 have d1:x % (zs.length:Int)<(zs.length:Int):=emod_lt_of_pos _ ∅
 obtain⟨j,hj⟩:=eq_ofNat_of_zero_le d0;have hjl:j<zs.length:=by omega
 exact⟨zs[j],getElem_mem hjl,by rw[hj];exact wK (by rw[getElem?_map,aB hjl];rfl)⟩
theorem zlA{Q:VK}(hla:H la=some (.lst (us.map V.ref)))(hu:Paired (TAt H) us rows)(hok:∀r∈rows,r.ok)(hl:rows.length<=24)(hD:H D=none)
  (q:∀H' vs,zq H H'->H' D=some (.lst (vs.map V.ref))->Paired (TAt H') vs (xR rows)->Q (.ref D) H'):LCr (Itl K la) [none] (zJ 0) (zaB (tOp (rIn K false) (tOp (xc K) (zal 0) (tC (.int 0))) (zl3 (zej (tC (.str "seat")) (zej (tC (.str "both")) ziG))))) (zal 0) σ H Q D:=by
 refine wg (K:=K) TAt (fun r=>wp r.k) (fun u _=>.ref u) hD hla hu ∅ (fun i u r H' N S hu' hr' tr sH n1 s1=>?_) (fun H1 s1 e1=>?_)
 ·have rk:=hok r (aH hr')
  have tu:=sH _ _ tr;exists _,rfl,u,_,0,_,rfl,rfl,zy tu,xr rk,yG,fun l hl=>?_;have s2:=zd hl (.lst [.str "seat",.str "both"]);exists l,_,rfl,.inl (zf za),rfl,rfl,_,rfl,?_;rw[aJ zft,zdV rk.1];exact⟨fun e=>⟨_,rfl,n1 _ s2 e⟩,fun e=>s1 _ s2 e⟩
 ·obtain⟨vs,ev,p⟩:=vU (zr s1 hu) fun r=>wp r.k
  exact q H1 vs s1 (by rw[e1,ev]) p
theorem zhU:([Str.ofString "_law_one"]:List Str).Nodup:=by decide +kernel
theorem xl:zA ["_law_row_here","_law_number","_law_pool_here","_law_places","_law_many","_law_late","_law_names","_law_spare","_law_way","_law_more"] ["_law_row_here","_law_number","_law_pool_here"] (zh zby):=fsc
theorem zfI{w:World}{base:Heap}{f:Addr}{fd:FuncData}(F:Fun K "_law_shape" "_law_shape" zby f fd)(U:zmV mg):↥1 f fd ["_law_row_here","_law_number","_law_pool_here"] zca:=by
 specialize xl;obtain⟨la,pa,n,D,bars,zs,rfl,⟨us,hla,hu⟩,fd,hpa,pz,q⟩:=h;have hU:=hr.units;have hU0:_<cLine:=lt_of_le_of_lt (le_add_right _ 64) hU;have hok:=ze2 fd;have l24:=uF fd;have pl:=pz.le;generalize D.rows=rows at hu hok l24;refine zp (wD (i:=3) [] ["_law_one"] [none] xl.nd rfl (Or.inl rfl) rfl ⟨rfl,rfl,rfl,rfl⟩ (zM (pv 0)) (zK 0) rfl rfl rfl
   (fun pins fp s H C=>⟨zo (i:=0) zhU rfl (Or.inl rfl) (.inr rfl),yg (zm (r:=rIn K false) yi (zC (r:=xc K) zG (pv 0) ze (fun _ _=>rfl)) (zT (ac zH (ac zH zc))) (by with_unfolding_all rfl)),pv 0⟩)) ?_
 exists _,rfl,la,rfl,⟨_,zf hla⟩,fun D3 hD3=>?_;refine zlA hla hu hok l24 hD3 fun H1 vs s1 e1 p1=>?_;have lp:(xR rows).length<=24:=Nat.le_trans (length_filter_le _ _) l24;have lv:vs.length=(xR rows).length:=p1.length;dsimp only[zJ];refine xl[4]'(zk zW (pv 1) (zk yP (cB zE U.len PySem.boot_len (ac (pv 3) zc)) ze));have elv:(((vs.map V.ref).length:Nat):Int)=(vs.length:Nat):=by rw[aA]
 exists _,rfl,_,rfl,D3,_,rfl,.inl (zf e1),_,_,rfl,rfl,_,_,rfl,rfl,(by rw[elv];show(0:Int)<_+3;omega),?_
 rw[elv];have n0 : 0<=n % (((vs.length:Nat):Int)+3):=emod_nonneg _ ∅
 have n1:n % (((vs.length:Nat):Int)+3)<((vs.length:Nat):Int)+3:=emod_lt_of_pos _ ∅
 obtain⟨many,em⟩:=eq_ofNat_of_zero_le n0;rw[em];have lmany:many<=60:=by omega
 clear n0 n1 em;dsimp only[zJ];refine xl[5]'(zk yA (yY [] ["_law_one"] [none] rfl ⟨rfl,rfl,rfl,rfl⟩ (zM (yj yX (pv 3) (yp (pv 4)) yR)) (zK 0) rfl rfl rfl
   (fun pins fp s H C=>⟨zo (i:=0) zhU rfl (Or.inl rfl) (.inr rfl),yg (zm ym (zC (r:=xc K) zG (pv 0) ze (fun _ _=>rfl)) zH (zF _)),pv 0⟩))
   (yY [] ["_law_one"] [none] rfl ⟨rfl,rfl,rfl,rfl⟩ (zM (pv 0)) (zK 0) rfl rfl rfl
   (fun pins fp s H C=>⟨zo (i:=0) zhU rfl (Or.inl rfl) (.inr rfl),yg (zm ym (zC (r:=xc K) zG (pv 0) ze (fun _ _=>rfl)) zH (zF _)),pv 0⟩)))
 exists _,rfl,_,rfl,_,rfl,D3,_,rfl,zf e1,fun l4 hl4=>?_;rw[show xJ (vs.map V.ref) (some (many:Int)) none=(vs.drop many).map V.ref from xV.trans (map_drop ..).symm]
 injections l4 hl4 H4 s4 g4
 exists l4,rfl,⟨_,zf g4⟩,fun Da hDa=>?_;refine qQ 1 ⋯ rfl g4 (wy (zr s4 p1) many) (fun r hr=>hok r (List.mem_filter.mp (mem_of_mem_drop hr)).1) (by rw[length_drop];omega) hDa (fun H5 va s5 ea pa'=>?_)
 have s15:=s1.trans (s4.trans s5);exists _,rfl,la,rfl,⟨_,zf (s15 _ _ hla)⟩,fun Db hDb=>?_;refine qQ 3 ⋯ rfl (s15 _ _ hla) (zr s15 hu) hok l24 hDb (fun H6 vb s6 eb pb=>?_)
 have lva:va.length<=24:=by rw[pa'.length];exact Nat.le_trans (length_filter_le _ _) (by rw[length_drop];omega)
 have lvb:vb.length<=24:=by rw[pb.length];exact Nat.le_trans (length_filter_le _ _) l24
 exists Da,Db,_,_,rfl,rfl,s6 _ _ ea,eb,z9 (by rw[aA,aA];omega),fun D5 hD5=>?_
 rw[<- aE];have s7:=zd hD5 (.lst ((va++vb).map V.ref));have g7:upd H6 D5 (.lst ((va++vb).map V.ref)) D5=some (.lst ((va++vb).map V.ref)):=za;have p7:=zr s7 (yu (zr s6 pa') pb);have s07:=s15.trans (s6.trans s7);generalize upd H6 D5 (.lst ((va++vb).map V.ref))=H7 at s7 g7 p7 s07 |-;have lL:(va++vb).length<=48:=by rw[aG];omega
 have kL:∀r∈(((xR rows).drop many).filter fun r=>r.k==1)++(rows.filter fun r=>r.k==3),r.ok/\(r.k=0\/r.k=1\/r.k=3):=fun r hr=>by
  rcases List.mem_append.mp hr with h|h
  ·obtain⟨a,b⟩:=List.mem_filter.mp h
   exact⟨hok r (List.mem_filter.mp (mem_of_mem_drop a)).1,.inr (.inl (by simpa using b))⟩
  ·obtain⟨a,b⟩:=List.mem_filter.mp h
   exact⟨hok r a,.inr (.inr (by simpa using b))⟩
 generalize (((xR rows).drop many).filter fun r=>r.k==1)++(rows.filter fun r=>r.k==3)=L at p7 kL;generalize va++vb=vl at g7 p7 lL;have lLL:L.length<=48:=by rw[<- p7.length];exact lL
 clear s15 s6 s7 s5 s4 ea eb g4 hDa hDb hl4 pa' pb lva lvb;dsimp only[zJ];refine xl[6]'(cB (vB rfl) U.sorted boot_sorted (ac (cTy (ui rfl) U.set PyProof.Rows.boot_set (ac (yY [] ["_law_one"] [none] rfl ⟨rfl,rfl,rfl,rfl⟩ (zM (pv 5)) (zK 0) rfl rfl rfl
   (fun pins fp s H C=>⟨zo (i:=0) zhU rfl (Or.inl rfl) (.inr rfl),yg (xx (yz (zC (r:=xc K) zG (pv 0) ze (fun _ _=>rfl)))),zC (r:=xc K) zG (pv 0) ze (fun _ _=>rfl)⟩)) zc)) zc))
 exists _,rfl,D5,rfl,⟨_,zf g7⟩,fun D6 hD6=>?_;refine wg (K:=K) TAt (fun r=>!r.b) (fun _ r=>.str r.z) hD6 g7 p7 ∅ (fun i u r H' N S hu' hr' tr sH n1 s1=>?_) (fun H8 s8 e8=>?_)
 ·have⟨rk,k3⟩:=kL r (aH hr')
  have tu:=sH _ _ tr;exists _,rfl,u,_,2,_,rfl,rfl,zy tu,jV k3,_,rfl,?_;exact⟨fun e=>⟨_,rfl,u,_,1,_,rfl,rfl,zy tu,vY rk,n1 _ (zq.refl _) e⟩,fun e=>s1 _ (zq.refl _) e⟩
 rw[uK p7 (fun r=>!r.b) (fun r=>V.str r.z),show(L.filter fun r=>!r.b).map (fun r=>V.str r.z)=((L.filter fun r=>!r.b).map (·.z)).map V.str by rw[map_map];rfl] at e8
 have l8:((L.filter fun r=>!r.b).map (·.z)).length<=48:=by rw[aA];exact Nat.le_trans (length_filter_le _ _) lLL
 generalize (L.filter fun r=>!r.b).map (·.z)=ms at e8 l8;exists D6,ms,rfl,zf e8,∅,fun ls k hls=>?_
 have s9:=zd hls (uq P w ls (fun z=>decide (z∈ms)) k);exists ls,ms,k,rfl,za,∅,fun ln ys hln ny hy=>?_
 have s10:=zd hln (.lst ((z8 ys).map V.str));have g10:=za (H:=upd H8 ls (uq P w ls (fun z=>decide (z∈ms)) k)) (a:=ln) (o:=.lst ((z8 ys).map V.str));have s710:=s8.trans (s9.trans s10);have l10:(z8 ys).length<=48:=by
  rw[(zP ys).length_eq];exact Nat.le_trans (yN ys ms ny fun z h=>(hy z).mp h) l8
 dsimp only[zJ];refine(fun (key:∀(ln:Addr) (nn:List Str) (H10:Hp),zq H7 H10->H10 ln=some (.lst (nn.map V.str))->nn.length<=48->H ln=none->zc4 _ _ _ [~~~la,some (.int n),~~~pa,~~~D3,some (.int (many:Nat)),~~~D5,~~~ln,none,none,none] H10)=>key ln _ _ s710 g10 l10 (s07.free ((s8.trans s9).free hln))) ?_;clear s8 s9 s10 hy ny hls hln g10 l10 s710 e8 hD6 l8;intro ln nn H10 s710 g10 l10 nln;have s010:=s07.trans s710;have g7:=s710 _ _ g7;have p7:=zr s710 p7;refine xl[7]'(cB (vB rfl) U.sorted boot_sorted (ac (cTy (ui rfl) U.set PyProof.Rows.boot_set (ac (yY [] ["_law_one"] [none] rfl ⟨rfl,rfl,rfl,rfl⟩ (zM (pv 5)) (zK 0) rfl rfl rfl
   (fun pins fp s H C=>⟨zo (i:=0) zhU rfl (Or.inl rfl) (.inr rfl),yg (yz (zC (r:=xc K) zG (pv 0) ze (fun _ _=>rfl))),zC (r:=xc K) zG (pv 0) ze (fun _ _=>rfl)⟩)) zc)) zc))
 exists _,rfl,D5,rfl,⟨_,zf g7⟩,fun D7 hD7=>?_;refine wg (K:=K) TAt (fun r=>r.b) (fun _ r=>.str r.z) hD7 g7 p7 ∅ (fun i u r H' N S hu' hr' tr sH n1 s1=>?_) (fun H11 s11 e11=>?_)
 ·have⟨rk,k3⟩:=kL r (aH hr')
  have tu:=sH _ _ tr;exists _,rfl,u,_,2,_,rfl,rfl,zy tu,jV k3,_,rfl,?_;exact⟨fun e=>⟨_,rfl,u,_,1,_,rfl,rfl,zy tu,vY rk,n1 _ (zq.refl _) e⟩,fun e=>s1 _ (zq.refl _) e⟩
 rw[uK p7 (fun r=>r.b) (fun r=>V.str r.z),show(L.filter fun r=>r.b).map (fun r=>V.str r.z)=((L.filter fun r=>r.b).map (·.z)).map V.str by rw[map_map];rfl] at e11
 have l11:((L.filter fun r=>r.b).map (·.z)).length<=48:=by rw[aA];exact Nat.le_trans (length_filter_le _ _) lLL
 generalize (L.filter fun r=>r.b).map (·.z)=ms2 at e11 l11;exists D7,ms2,rfl,zf e11,∅,fun ls2 k2 hls2=>?_
 have s12:=zd hls2 (uq P w ls2 (fun z=>decide (z∈ms2)) k2);exists ls2,ms2,k2,rfl,za,∅,fun lsp ys2 hlsp ny2 hy2=>?_
 have s13:=zd hlsp (.lst ((z8 ys2).map V.str));have g13:=za (H:=upd H11 ls2 (uq P w ls2 (fun z=>decide (z∈ms2)) k2)) (a:=lsp) (o:=.lst ((z8 ys2).map V.str));have s1013:=s11.trans (s12.trans s13);dsimp only[zJ];refine(fun (key:∀(lsp:Addr) (sp:List Str) (H13:Hp),zq H10 H13->H13 lsp=some (.lst (sp.map V.str))->zc4 _ _ _ [~~~la,some (.int n),~~~pa,~~~D3,some (.int (many:Nat)),~~~D5,~~~ln,~~~lsp,none,none] H13)=>key lsp _ _ s1013 g13) ?_;clear s11 s12 s13 hy2 ny2 hls2 hlsp e11 l11 g13 s1013 hD7;intro lsp sp H13 s1013 g13;have g10:=s1013 _ _ g10;have s013:=s010.trans s1013;clear s1013 s010 s710 g7 p7 kL lL lLL;refine xl[8]'(zk zW (zk z3 (pv 1) ze) ze);exists _,rfl,_,_,rfl,rfl,⟨⋯,⋯⟩,_,_,rfl,rfl,zp8,?_
 generalize n / 64 % 8=way;dsimp only[zJ];refine zp (zS (yS (yO (zm ym (pv 8) ze (zF _)) (yB (zm (qJ hU0) (pv 6) (zT zc) (zF _))))) (zg (zx (i:=6) xl.nd rfl (Or.inl rfl) (yj yX (pv 6) (yp ze) yR))) zD) ?_;refine yo (fun σ' H'=>∃(ln:Addr) (nn:List Str),σ'=[~~~la,some (.int n),~~~pa,~~~D3,some (.int (many:Nat)),~~~D5,~~~ln,~~~lsp,some (.int way),none]/\zq H H'/\H ln=none/\H' ln=some (.lst (nn.map V.str))/\H' lsp=some (.lst (sp.map V.str))/\nn.length<=48) ?_ (fun key=>?_);rotate_left
 ·exists _,rfl,rfl,_,rfl,?_
  refine wQ (fun _=>?_) (fun _=>?_);rotate_left
  ·exact key _ _ ⟨ln,nn,rfl,s013,nln,g10,g13,l10⟩
  exists _,rfl,wN,fun le hle=>?_;have s14:=zd hle (.lst []);exists ln,le,_,rfl,rfl,s14 _ _ g10,za,_,rfl,?_;refine wQ (fun _=>?_) (fun _=>?_);rotate_left
  ·exact key _ _ ⟨ln,nn,rfl,s013.trans s14,nln,s14 _ _ g10,s14 _ _ g13,l10⟩
  exists _,rfl,_,rfl,ln,_,rfl,zf (s14 _ _ g10),fun l2 hl2=>?_;rw[show xJ (nn.map V.str) (some 1) none=(nn.drop 1).map V.str from (xV (n:=1)).trans (map_drop ..).symm];have s15:=zd hl2 (.lst ((nn.drop 1).map V.str));have s1415:=s14.trans s15;exact key _ _ ⟨l2,nn.drop 1,rfl,s013.trans s1415,(s013.trans s14).free hl2,za,s1415 _ _ g13,by rw[length_drop];omega⟩
 clear g13 g10 l10 nln;rintro σ H14 ⟨ln,nn,rfl,s014,nln,g10,g13,l10⟩;refine zp (zS (yS (yO (zm yi (pv 8) (zT (ac ze (ac ze (ac ze zc)))) (by with_unfolding_all rfl)) (yB (zm (qJ hU0) (pv 7) (zT zc) (zF _))))) (zg (zx (i:=6) xl.nd rfl (Or.inl rfl) (zk yA (pv 6) (zT (ac (zC ye (pv 7) (zk zW (zk z3 (pv 1) ze) (cB zE U.len PySem.boot_len (ac (pv 7) zc))) (fun _ _=>rfl)) zc))))) zD) ?_
 refine yo (fun σ' H'=>∃(ln:Addr) (nn:List Str),σ'=[~~~la,some (.int n),~~~pa,~~~D3,some (.int (many:Nat)),~~~D5,~~~ln,~~~lsp,some (.int way),none]/\zq H H'/\H ln=none/\H' ln=some (.lst (nn.map V.str))/\nn.length<=49) ?_ (fun key=>?_);rotate_left
 ·exists _,rfl,uP,fun lw hlw=>?_
  have s15:=zd hlw (.lst [.int 1,.int 2,.int 3]);exists lw,_,rfl,.inl (zf za),rfl,rfl,_,rfl,?_;have g10:=s15 _ _ g10;have g13:=s15 _ _ g13;have s015:=s014.trans s15;generalize upd H14 lw (.lst [.int 1,.int 2,.int 3])=H15 at s15 g10 g13 s015 |-;refine wQ (fun _=>?_) (fun _=>?_);rotate_left
  ·exact key _ _ ⟨ln,nn,rfl,s015,nln,g10,le_succ_of_le l10⟩
  exists _,rfl,wN,fun le hle=>?_;have s16:=zd hle (.lst []);exists lsp,le,_,rfl,rfl,s16 _ _ g13,za,_,rfl,?_;by_cases hn:sp.map V.str=[]
  ·refine yZ (by rw[aC hn];rfl) ?_
   exact key _ _ ⟨ln,nn,rfl,s015.trans s16,nln,s16 _ _ g10,le_succ_of_le l10⟩
  refine xA (by rw[aD hn];rfl) ?_
  have z0 : 0<sp.length:=by
   rcases Nat.eq_zero_or_pos sp.length with h|h
   ·exact absurd (by rw[eq_nil_of_length_eq_zero h];rfl) hn
   ·exact h
  have g10:=s16 _ _ g10;have g13:=s16 _ _ g13;have s016:=s015.trans s16;generalize upd H15 le (.lst [])=H16 at s16 g10 g13 s016 |-;obtain⟨z,hz,hat⟩:=jk (n / 512) z0;exists _,rfl,_,rfl,_,rfl,_,_,rfl,rfl,⟨⋯,⋯⟩,_,rfl,lsp,_,rfl,.inl (zf g13),_,_,rfl,rfl,(by rw[aA];show(0:Int)<_;omega),lsp,_,_,.str z,rfl,rfl,zf g13,hat,ux,fun l17 hl17=>?_
  have s17:=zd hl17 (.lst [.str z]);exists ln,l17,_,_,rfl,rfl,s17 _ _ g10,za,z9 (by rw[aA];show _+1<=_;omega),fun l18 hl18=>?_
  have s18:=zd hl18 (.lst (nn.map V.str++[.str z]));exact key _ _ ⟨l18,nn++[z],rfl,s016.trans (s17.trans s18),(s016.trans s17).free hl18,by rw[za,aE];rfl,by rw[aG];exact succ_le_succ l10⟩
 clear g13 g10 l10 nln;rintro σ H15 ⟨ln,nn,rfl,s015,nln,g10,l10⟩;refine xl[9]'(zC ye (zk yA (pv 2) (zT (ac zH zc))) (zk zW (zk z3 (pv 1) ze) (zk yP (cB zE U.len PySem.boot_len (ac (pv 2) zc)) ze)) (fun _ _=>rfl));exists _,rfl,ux,fun l16 hl16=>?_;have s16:=zd hl16 (.lst [.str "strange"]);exists pa,l16,_,_,rfl,rfl,(s015.trans s16) _ _ hpa,za,z9 (by rw[aA];show _+1<=_;omega),fun l17 hl17=>?_
 have s17:=zd hl17 (.lst (zs.map V.str++[.str "strange"]));have g17:upd (upd H15 l16 (.lst [.str "strange"])) l17 (.lst (zs.map V.str++[.str "strange"])) l17=some (.lst ((zs++[Str.ofString "strange"]).map V.str)):=by rw[za,aE];rfl
 have s1617:=s16.trans s17;have s017:=s015.trans s1617;have g10:=s1617 _ _ g10;generalize upd (upd H15 l16 (.lst [.str "strange"])) l17 (.lst (zs.map V.str++[.str "strange"]))=H17 at g17 s017 g10 |-;obtain⟨z,hz,hat⟩:=jk (zs:=zs++[Str.ofString "strange"]) (n / 512) (by rw[aG];exact succ_pos _)
 have elz:((((zs++[Str.ofString "strange"]).map V.str).length:Nat):Int)=(((zs.map V.str).length:Nat):Int)+1:=by rw[aA,aA,aG];rfl
 rw[elz] at hat;exists _,rfl,_,_,rfl,rfl,⟨⋯,⋯⟩,_,rfl,pa,_,rfl,.inl (zf (s017 _ _ hpa)),_,_,rfl,rfl,_,_,rfl,rfl,(by show(0:Int)<_+1;omega),l17,_,_,.str z,rfl,rfl,zf g17,hat,?_
 dsimp only[zJ];refine zp (zS (yS (yO (zm yi (pv 8) (zT (ac ze (ac ze (ac ze zc)))) (by with_unfolding_all rfl)) (yB (zm yI (pv 9) (pv 6) (by with_unfolding_all rfl))))) (zg (zx (i:=6) xl.nd rfl (Or.inl rfl) (zk yA (pv 6) (zT (ac (pv 9) zc))))) zD) ?_
 refine yo (fun σ' H'=>∃(ln:Addr) (nn:List Str),σ'=[~~~la,some (.int n),~~~pa,~~~D3,some (.int (many:Nat)),~~~D5,~~~ln,~~~lsp,some (.int way),some (.str z)]/\zq H H'/\H ln=none/\H' ln=some (.lst (nn.map V.str))/\nn.length<=50) ?_ (fun key=>?_);rotate_left
 ·exists _,rfl,uP,fun lw hlw=>?_
  have s18:=zd hlw (.lst [.int 3,.int 4,.int 5]);exists lw,_,rfl,.inl (zf za),rfl,rfl,_,rfl,?_;have g10:=s18 _ _ g10;have s018:=s017.trans s18;generalize upd H17 lw (.lst [.int 3,.int 4,.int 5])=H18 at s18 g10 s018 |-;refine wQ (fun _=>?_) (fun _=>?_);rotate_left
  ·exact key _ _ ⟨ln,nn,rfl,s018,nln,g10,le_succ_of_le l10⟩
  exists _,rfl,_,rfl,ln,_,rfl,.inl (zf g10),rfl,yQ,_,rfl,?_;refine wQ (fun _=>?_) (fun _=>?_);rotate_left
  ·exact key _ _ ⟨ln,nn,rfl,s018,nln,g10,le_succ_of_le l10⟩
  exists _,rfl,_,rfl,ux,fun l19 hl19=>?_;have s19:=zd hl19 (.lst [.str z]);exists ln,l19,_,_,rfl,rfl,s19 _ _ g10,za,z9 (by rw[aA];show _+1<=_;omega),fun l20 hl20=>?_
  have s20:=zd hl20 (.lst (nn.map V.str++[.str z]));exact key _ _ ⟨l20,nn++[z],rfl,s018.trans (s19.trans s20),(s018.trans s19).free hl20,by rw[za,aE];rfl,by rw[aG];exact succ_le_succ l10⟩
 clear g10 l10 nln;rintro σ H18 ⟨ln,nn,rfl,s018,nln,g10,l10⟩;exists _,zg (zB (z7 (ac (pv 4) (ac (pv 6) zc)))),?_;exists _,rfl,_,rfl,yG,fun t ht=>?_;have s19:=zd ht (.tup [.int (many:Nat),.ref ln]);exact q t ln many nn _ (s018.trans s19) nln ⟨za,s19 _ _ g10,lmany,∅⟩
theorem zaq(e:X.K=K):xq X (.builtin "len") (fun xs H Q=>∃p ys,xs=[V.ref p]/\(SqL K H p ys\/SqT K H p ys)/\Q (.int ys.length) H):=by subst e;exact zE
inductive zgx(vs:List V)(H:Hp)(Q:VK)(E:XK):Prop|mk(c:Int):vs=[.int c]->(∀n:Int,Q (.int n) H)->zgx vs H Q E
def FAQ(H:Hp)(zs:List Str)(Q:VK):Prop:=∀t la lb (D:FD) bars H',zq H H'->FA H' t la lb D bars->z6 zs D bars->Q (.ref t) H'
inductive zb9(K:Frag)(vs:List V)(H:Hp)(Q:VK)(E:XK):Prop|mk(sa t la lb pa:Addr)(ns:List Int)(D:FD)(bars zs:List Str):vs=[.ref sa,.ref t,.ref pa]->SqL K H sa (ns.map V.int)->ns.length<=63->FA H t la lb D bars->z6 zs D bars->H pa=some (.lst (zs.map V.str))->PL zs->(FAQ H zs Q)->zb9 K vs H Q E
def ShL(H:Hp)(us:List Addr):Prop:=∀u∈us,∃(l:Addr) (m:Nat) (ns:List Str),SA H u l m ns
inductive zb8(K:Frag)(vs:List V)(H:Hp)(Q:VK)(E:XK):Prop|mk(sa t la lb t' la' lb' pa:Addr)(ns:List Int)(D D':FD)(bars bars' zs:List Str):vs=[.ref sa,.ref t,.ref t',.ref pa]->SqL K H sa (ns.map V.int)->ns.length<=63->FA H t la lb D bars->FA H t' la' lb' D' bars'->z6 zs D bars->z6 zs D' bars'->H pa=some (.lst (zs.map V.str))->PL zs->(∀(l:Addr) (us:List Addr) (H':Hp),zq H H'->H' l=some (.lst (us.map V.ref))->us.length<=300->ShL H' us->Q (.ref l) H')->zb8 K vs H Q E
structure GS(H0 H:Hp)(lf:Addr)(us:List Addr):Prop where
 sm:zq H0 H
 hl:H lf=some (.lst (us.map V.ref))
 at_:∀u∈us,∃(l:Addr) (m:Nat) (ns:List Str),SA H u l m ns/\l≠lf
theorem GS.same(h:GS H0 H lf us)(s:zq H H'):GS H0 H' lf us:=⟨h.sm.trans s,s _ _ h.hl,fun u hu=>let ⟨l,m,ns,a,b⟩:=h.at_ u hu;⟨l,m,ns,a.same s,b⟩⟩
theorem GS.add{m:Nat}(h:GS H0 H lf us)(nl:H0 lf=none)(s:zq H H')(n:H l=none)(a:SA H' t l m ns):GS H0 (upd H' lf (.lst (us.map V.ref++[.ref t]))) lf (us++[t]):=by
 have h':=h.same s;have put:∀{u l:Addr}{m:Nat}{ns:List Str},SA H' u l m ns->l≠lf->SA (upd H' lf (.lst (us.map V.ref++[.ref t]))) u l m ns:=fun {u l m ns} a hl=>⟨by rw[zi (fun e=>by have:=a.ht;rw[e,h'.hl] at this;cases this)];exact a.ht,by rw[zi hl];exact a.hl,a.lm,a.ln⟩
 exists xm h'.sm nl _,by rw[za,aE];rfl,fun u hu=>?_
 rcases List.mem_append.mp hu with hu|hu
 ·obtain⟨l,m,ns,a,b⟩:=h'.at_ u hu
  exact⟨l,m,ns,put a b,b⟩
 ·rw[List.mem_singleton.mp hu]
  have:l≠lf:=fun e=>by rw[e,h.hl] at n;cases n
  exact⟨l,m,ns,put a this,this⟩
theorem znJ:([Str.ofString "_law_digit",Str.ofString "_law_some"]:List Str).Nodup:=by decide +kernel
theorem zbl:zA ["_law_cell","_law_pool_here","_law_some","_law_names"] ["_law_cell","_law_pool_here"] (zh zdn):=fsc
theorem zhL(F:Fun K "_law_free_shape" "_law_free_shape" zdn f fd)(hln:mg "len"=none)(cD:⇑2 "_law_digits" g1 e1 ["_law_cell","_law_most","_law_base"] uN):↥3 f fd ["_law_cell","_law_pool_here"] zet:=by
 specialize zbl;obtain⟨pa,c,zs,rfl,hpa,pz,q⟩:=h;have pl:=pz.le;refine zp (zx (i:=2) zbl.nd rfl (Or.inr rfl) (zk yA (pv 1) (zT (ac zH (ac zH zc))))) ?_;exists _,rfl,yG,fun l1 hl1=>?_;have s1:=zd hl1 (.lst [.str "strange",.str "zz"]);exists pa,l1,_,_,rfl,rfl,s1 _ _ hpa,za,z9 (by rw[aA];show _+2<=_;omega),fun l2 hl2=>?_
 have s2:=zd hl2 (.lst (zs.map V.str++[.str "strange",.str "zz"]));have g2:upd (upd H l1 (.lst [.str "strange",.str "zz"])) l2 (.lst (zs.map V.str++[.str "strange",.str "zz"])) l2=some (.lst ((zs++[Str.ofString "strange",Str.ofString "zz"]).map V.str)):=by rw[za,aE];rfl
 have s02:=s1.trans s2;generalize upd (upd H l1 (.lst [.str "strange",.str "zz"])) l2 (.lst (zs.map V.str++[.str "strange",.str "zz"]))=H2 at g2 s02 |-;have ys0 : 0<(zs++[Str.ofString "strange",Str.ofString "zz"]).length:=by rw[aG];exact succ_pos _
 generalize zs++[Str.ofString "strange",Str.ofString "zz"]=ys at g2 ys0;dsimp only[zJ];refine zp (wD (i:=3) ["_law_some"] ["_law_digit","_law_some"] [none,some 2] zbl.nd rfl (Or.inl rfl) rfl ⟨rfl,rfl,rfl,rfl⟩ (zM (cF cD hr (ac (zk z3 (pv 0) ze) (ac ze (ac ze zc))))) (zK 0) rfl rfl rfl
  (fun pins fp s H C=>⟨zo (i:=0) znJ rfl (Or.inl rfl) (.inr rfl),yV,zC (r:=zmo K) ye (pv 1) (zk zW (pv 0) (cB (zaq (K:=K) rfl) hln PySem.boot_len (ac (pv 1) zc))) (fun _ _=>rfl)⟩)) ?_
 exists _,rfl,_,_,rfl,rfl,⟨⋯,⋯⟩,_,12,28,rfl,⋯,⋯,⋯,fun ld ds H3 s3 nld hld lds=>?_
 exists ld,rfl,⟨_,zf hld⟩,fun D hD=>?_;have g3:=s3 _ _ g2;refine wG (K:=K) (xs:=ds.map V.int) (fun i xs H'=>zq H3 H'/\H' D=some (.lst xs)/\∃cs:List Str,xs=cs.map V.str/\cs.length=i) ⟨zd hD _,za,[],rfl,rfl⟩ (fun i xs H' h=>h.1.seq (zf hld)) ?_ ?_
 ·rintro i x xs H' hi hx ⟨sH,hDy,cs,ey,el⟩
  obtain⟨k,hk,rfl⟩:=ud hx;rw[aA] at hi;obtain⟨z,hz,hat⟩:=jk (zs:=ys) k ys0;have g4:=sH _ _ g3;exists fun _=>⟨_,rfl,_,rfl,_,rfl,l2,_,rfl,.inl (zf g4),_,_,rfl,rfl,(by rw[aA];show(0:Int)<_;omega),l2,_,_,.str z,rfl,rfl,zf g4,hat,?_⟩,fun z=>absurd z ⋯
  exact lcN.mk (by rw[aA];exact hi) (by rw[aA];exact z9 ∅) hDy (by rw[ey,aA];omega) ⟨xm sH hD _,za,cs++[z],by rw[ey,aE];rfl,by rw[aG,el];rfl⟩
 ·rintro xs H4 ⟨sH,hDy,cs,ey,el⟩
  rw[aA] at el;dsimp only[zJ];exists _,zg (zB (z7 (ac (zk zW (pv 0) ze) (ac (pv 3) zc)))),?_;have n0 : 0<=c % 24:=emod_nonneg _ ⋯
  have n1:c % 24<24:=emod_lt_of_pos _ ⋯
  obtain⟨m,em⟩:=eq_ofNat_of_zero_le n0;exists _,rfl,_,_,rfl,rfl,(by show(0:Int)<24;decide),_,rfl,yG,fun t ht=>?_
  rw[em];have s5:=zd ht (.tup [.int (m:Nat),.ref D]);exact q t D m cs _ (s02.trans (s3.trans (sH.trans s5))) (s02.free (s3.free hD)) ⟨za,s5 _ _ (by rw[hDy,ey]),∅,∅⟩
theorem zkQ:zA ["_law_cell"] ["_law_cell"] (zh zgW):=fsc
theorem zjt(F:Fun K "_law_load" "_law_load" zgW f fd)(cS:⇑1 "_law_strewn" g1 e1 ["_law_cell","_law_k"] qe):↥2 f fd ["_law_cell"] zgx:=by
 specialize zkQ;obtain⟨c,rfl,q⟩:=h;refine zp (zS (yS (yO (zm zeJ ze (pv 0) (zF _)) (yB (zm vL (pv 0) (zk zhq ze ze) (zF _))))) (zg (zB (cF cS hr (ac (pv 0) (ac ze zc))))) zD) ?_;refine yo (fun σ' H'=>σ'=[some (.int c)]/\H'=H) ?_ (fun key=>?_);rotate_left
 ·exists _,rfl,_,_,rfl,rfl,_,rfl,?_
  refine wQ (fun _=>?_) (fun _=>?_);rotate_left
  ·exact key _ _ ⟨rfl,rfl⟩
  exists _,rfl,_,_,rfl,rfl,⟨⋯,⋯,⋯⟩,_,_,rfl,rfl,_,rfl,?_
  refine wQ (fun _=>?_) (fun _=>?_);rotate_left
  ·exact key _ _ ⟨rfl,rfl⟩
  exact⟨_,rfl,c,9,rfl,q⟩
 rintro σ _ ⟨rfl,rfl⟩;exact⟨_,zg (zB (zk z3 (pv 0) ze)),_,rfl,_,_,rfl,rfl,⟨⋯,⋯⟩,q _⟩
theorem w4:zA ["_law_script","_law_one","_law_pool_here","_law_turns","_law_row_here","_law_other","_law_k"] ["_law_script","_law_one","_law_pool_here"] (zh zbr):=fsc
theorem zfH(F:Fun K "_law_second" "_law_second" zbr f fd)(hrg:mg "range"=none)(cN:⇑1 "_law_nth" f1 e1 ["_law_script","_law_k"] (qh K))(cR:⇑3 "_law_row_at" f2 e2 ["_law_script","_law_k","_law_pool_here","_law_ends"] (zc9 K))(cB':⇑1 "_law_bars" f3 e3 ["_law_row_here","_law_pool_here","_law_number"] zbc)
  (cSt:⇑1 "_law_stirred" f4 e4 ["_law_cell","_law_k"] za7) (cTu:⇑1 "_law_turned" f5 e5 ["_law_row_here","_law_bars_here","_law_number","_law_pool_here"] zb5):↥4 f fd ["_law_script","_law_one","_law_pool_here"] (zb9 K):=by
 specialize w4;obtain⟨sa,t,la,lb,pa,ns,D,bars,zs,rfl,hS,h63,fa,fD,hpa,pz,q⟩:=h;have hr1:yk 1 _:=hr.mono ⋯
 have hr3:yk 3 _:=hr.mono ⋯
 refine w4[3]'(cF cN hr1 (ac (pv 0) (ac ze zc)));exists _,rfl,sa,ns,3,rfl,hS,h63,fun c3 H1 s1=>?_;dsimp only[zJ];refine zp (zS (yS (yO (zm ym (zk zW (cF cN hr1 (ac (pv 0) (ac ze zc))) ze) ze (zF _)) (yB (zm ym (zk zW (pv 3) ze) ze (zF _)))))
  (zu (zx (i:=4) w4.nd rfl (Or.inl rfl) (cF cR hr3 (ac (pv 0) (ac ze (ac (pv 2) (ac (zk z3 (pv 3) ze) zc)))))) (zg (zB (z7 (ac (pv 4) (ac (cF cB' hr1 (ac (pv 4) (ac (pv 2) (ac (cF cN hr1 (ac (pv 0) (ac ze zc))) zc)))) zc)))))) zD) ?_
 refine yo (fun σ' H'=>σ'=[~~~sa,~~~t,~~~pa,some (.int c3),none,none,none]/\zq H H') ?_ (fun key=>?_);rotate_left
 ·exists _,rfl,sa,ns,1,rfl,s1.seq hS,h63,fun c1 H2 s2=>?_
  have s02:=s1.trans s2;exists _,_,rfl,rfl,zp2,rfl,_,rfl,?_;refine wQ (fun _=>?_) (fun _=>?_);rotate_left
  ·exact key _ _ ⟨rfl,s02⟩
  exists _,rfl,_,_,rfl,rfl,zp2,rfl,_,rfl,?_;refine wQ (fun _=>?_) (fun _=>?_);rotate_left
  ·exact key _ _ ⟨rfl,s02⟩
  exists _,rfl,_,rfl,_,rfl,_,_,rfl,rfl,⟨⋯,⋯⟩,sa,pa,ns,5,zs,_,rfl,s02.seq hS,h63,.inr rfl,s02 _ _ hpa,pz,fun la2 us rows H3 s3 nla hla hu VRr nz ⟨S,eS,MS,lPG⟩=>?_
  have s03:=s02.trans s3;exists _,rfl,_,rfl,_,rfl,_,rfl,sa,ns,6,rfl,s03.seq hS,h63,fun c6 H4 s4=>?_;exists la2,pa,c6,us,rows,zs,rfl,s4 _ _ hla,zr s4 hu,VRr,(s03.trans s4) _ _ hpa,pz.nd,pz.le,fun lb2 bars2 H5 s5 nlb hlb bn bz bk bl=>?_;exists yG,fun t2 ht=>?_;have s6:=zd ht (.tup [.ref la2,.ref lb2]);have s36:=s4.trans (s5.trans s6);obtain⟨D2,eD,fD2⟩:=zkv (zs:=zs) (bars:=bars2) eS MS lPG nz bn (fun z hz=>List.mem_append.mpr (.inl (bz z hz))) bk;have hR:xW (upd H5 t2 (.tup [.ref la2,.ref lb2])) la2 rows:=⟨us,s36 _ _ hla,zr s36 hu⟩;rw[eD] at hR;exact q t2 la2 lb2 D2 bars2 _ (s03.trans s36) ⟨za,hR,s6 _ _ hlb⟩ fD2
 clear s1;rintro σ H1 ⟨rfl,s1⟩;refine w4[5]'(pv 1);exists _,rfl,?_;dsimp only[zJ];refine zp (yU PassesOwn.never rfl (wq rfl hrg (ac (zk yP ze (zk zW (zk z3 (pv 3) ze) ze)) zc)) (zo (i:=6) w4.nd rfl (Or.inl rfl)) y4) ?_;exists _,rfl,_,_,rfl,rfl,⟨⋯,⋯⟩,_,_,rfl,rfl,(by show(0:Int)<4;decide),_,_,rfl,rfl,1+c3 / 2 % 4,rfl,?_,?_,?_
 ·have:=emod_nonneg (c3 / 2) (show(4:Int)≠0 by decide);omega
 ·have:=emod_lt_of_pos (c3 / 2) (show(0:Int)<4 by decide);omega
 generalize (1+c3 / 2 % 4).toNat=N;refine uf (n:=N) (fun i σ H'=>∃(t' la' lb':Addr) (D':FD) (bars':List Str) (v6:Option V),σ=[~~~sa,~~~t,~~~pa,some (.int c3),none,~~~t',v6]/\zq H H'/\FA H' t' la' lb' D' bars'/\z6 zs D' bars') ⟨t,la,lb,D,bars,_,rfl,s1,fa.same s1,fD⟩ ?_ ?_
 ·rintro i σ H12 hi ⟨t',la',lb',D',bars',v6,rfl,s12,fa',fD'⟩
  rw[Int.zero_add];dsimp only[zJ];exists _,zg (zx (i:=5) w4.nd rfl (Or.inl rfl) (cF cTu hr1 (ac (zC zG (pv 5) ze (fun _ _=>rfl)) (ac (zC zG (pv 5) ze (fun _ _=>rfl)) (ac (cF cSt hr1 (ac (zk z3 (pv 3) ze) (ac (pv 6) zc))) (ac (pv 2) zc)))))),?_;exists _,rfl,t',_,0,_,rfl,rfl,zy fa'.ht,rfl,_,rfl,t',_,1,_,rfl,rfl,zy fa'.ht,rfl,_,rfl,_,_,rfl,rfl,⟨⋯,⋯⟩,_,rfl,_,_,rfl,?_
  exists _,rfl,la',lb',pa,_,D',bars',zs,rfl,fa'.hr,fa'.hb,s12 _ _ hpa,pz.pos,pz.le,pz.nm,fD',fun t2 la2 lb2 D2 bars2 H13 s13 ht2 hR2 hlb2 fD2=>?_;exact⟨t2,la2,lb2,D2,bars2,_,rfl,s12.trans s13,⟨ht2,hR2,hlb2⟩,fD2⟩
 rintro σ H12 ⟨t',la',lb',D',bars',v6,rfl,s12,fa',fD'⟩;exact⟨_,zg (zB (pv 5)),_,rfl,q t' la' lb' D' bars' _ s12 fa' fD'⟩
theorem wZ:zA ["_law_script","_law_one","_law_other","_law_pool_here","_law_shapes_here","_law_k","_law_cell","_law_number"] ["_law_script","_law_one","_law_other","_law_pool_here"] (zh zbq):=fsc
theorem zfG(F:Fun K "_law_shapes" "_law_shapes" zbq f fd)(hen:mg "enumerate"=none)(cN:⇑1 "_law_nth" f1 e1 ["_law_script","_law_k"] (qh K))(cSt:⇑1 "_law_stirred" f2 e2 ["_law_cell","_law_k"] za7)(cSh:⇑1 "_law_shape" f3 e3 ["_law_row_here","_law_number","_law_pool_here"] zca)
  (cFr:⇑3 "_law_free_shape" f4 e4 ["_law_cell","_law_pool_here"] zet) (cL:⇑2 "_law_load" f5 e5 ["_law_cell"] zgx):↥4 f fd ["_law_script","_law_one","_law_other","_law_pool_here"] (zb8 K):=by
 specialize wZ;obtain⟨sa,t,la,lb,t',la',lb',pa,ns,D,D',bars,bars',zs,rfl,hS,h63,fa,fa',fD,fD',hpa,pz,q⟩:=h;have hr1:yk 1 _:=hr.mono ⋯
 have hr2:yk 2 _:=hr.mono ⋯
 have two:∀(x:Int) H l,FA H t la lb D bars->FA H t' la' lb' D' bars'->0<=x->x<2->H l=some (.lst [.ref la,.ref la'])->∃(lx:Addr) (Dx:FD) (bx:List Str),atI [V.ref la,.ref la'] x=some (.ref lx)/\xW H lx Dx.rows/\z6 zs Dx bx:=fun x H l g g' x0 x1 _=>by
  have:x=0\/x=1:=by omega
  rcases this with rfl|rfl
  ·exact⟨la,D,bars,rfl,g.hr,fD⟩
  ·exact⟨la',D',bars',rfl,g'.hr,fD'⟩
 refine wZ[4]'(zT zc);exists wN,fun lf hlf=>?_;have G1:GS H (upd H lf (.lst [])) lf []:=⟨zd hlf _,za,fun _ h=>nomatch h⟩;generalize upd H lf (.lst [])=H1 at G1 |-;dsimp only[zJ];refine zp (zS (zm ym (zk zW (cF cN hr1 (ac (pv 0) (ac ze zc))) ze) ze (zF _)) (zg (yU PassesOwn.never rfl (wE rfl hen (ac (yj yX (pv 0) yR (yp ze)) zc)) (y6 rfl (zN (zo (i:=5) wZ.nd rfl (Or.inl rfl)) (zN (zo (i:=6) wZ.nd rfl (Or.inl rfl)) yH))) y4)) zD) ?_;refine yo (fun σ' H'=>∃us v5 v6 v7,σ'=[~~~sa,~~~t,~~~t',~~~pa,~~~lf,v5,v6,v7]/\GS H H' lf us/\us.length<=63) ?_ (fun key=>?_);rotate_left
 ·exists _,rfl,sa,ns,1,rfl,G1.sm.seq hS,h63,fun c1 H2 s2=>?_
  have G2:=G1.same s2;exists _,_,rfl,rfl,zp2,rfl,_,rfl,?_;refine wQ (fun _=>?_) (fun _=>?_);rotate_left
  ·exact key _ _ ⟨[],_,_,_,rfl,G2,zero_le _⟩
  exists _,rfl,_,rfl,sa,_,rfl,G2.sm.seq hS,fun ca hca=>?_;obtain⟨cs,ec,lc,_⟩:=zah ns none (some 63);rw[ec];have s3:=zd hca (.lst (cs.map V.int));have g3:upd H2 ca (.lst (cs.map V.int)) ca=some (.lst (cs.map V.int)):=za;have G3:=G2.same s3;generalize upd H2 ca (.lst (cs.map V.int))=H3 at s3 g3 G3 |-;have nca:ca≠lf:=fun e=>by rw[e,G2.hl] at hca;cases hca
  exists ca,rfl,⟨_,zf g3⟩,vQ (K:=K) (a:=ca) (xs:=cs.map V.int) (fun i σ H'=>∃us v5 v6 v7,σ=[~~~sa,~~~t,~~~t',~~~pa,~~~lf,v5,v6,v7]/\GS H H' lf us/\us.length<=i/\H' ca=some (.lst (cs.map V.int))) ⟨[],_,_,_,rfl,G3,zero_le _,g3⟩ (fun i σ H' _ ⟨_,_,_,_,_,_,_,e⟩=>zf e) ?_ ?_
  ·rintro i x p σ H4 hx ⟨us,v5,v6,v7,rfl,G4,lu,hc4⟩ hpn
   obtain⟨n,hn,rfl⟩:=ud hx;have hi:i<cs.length:=(List.getElem?_eq_some_iff.mp hn).1;have sp:=zd hpn (.tup [.int (i:Nat),.int n]);exists p,_,rfl,zy za,rfl,_,_,rfl,_,_,rfl,rfl,?_;have G5:=G4.same sp;have hc5:=sp _ _ hc4;generalize upd H4 p (.tup [.int (i:Nat),.int n])=H5 at sp G5 hc5 |-;dsimp only[zJ];refine wZ[7]'(cF cSt hr1 (ac (pv 6) (ac (zk yP (pv 5) ze) zc)));exists _,rfl,_,rfl,_,_,rfl,rfl,n,_,rfl,?_;generalize zj8 n _=mm;dsimp only[zJ];exists _,zg (zZ (xw PySem.F.plainAttrs_list PySem.F.slot_list_append PySem.F.type_list_append ya (pv 4) (ac (cF cSh hr1 (ac (zC ye (zT (ac (zC zG (pv 1) ze (fun _ _=>rfl)) (ac (zC zG (pv 2) ze (fun _ _=>rfl)) zc))) (zk zW (pv 7) ze) (fun _ _=>rfl)) (ac (zk z3 (pv 7) ze) (ac (pv 3) zc)))) zc))),?_;have ga:=fa.same G5.sm;have ga':=fa'.same G5.sm;exists _,rfl,.inl ⟨rfl,_,zf G5.hl⟩,_,rfl,t,_,0,.ref la,rfl,rfl,zy ga.ht,rfl,_,rfl,t',_,0,.ref la',rfl,rfl,zy ga'.ht,rfl,yG,fun l2 hl2=>?_;have s6:=zd hl2 (.lst [.ref la,.ref la']);have g6:upd H5 l2 (.lst [.ref la,.ref la']) l2=some (.lst [.ref la,.ref la']):=za;have G6:=G5.same s6;have hc6:=s6 _ _ hc5;generalize upd H5 l2 (.lst [.ref la,.ref la'])=H6 at s6 g6 G6 hc6 |-;have m0 : 0<=mm % 2:=emod_nonneg _ ⋯
   have m1:mm % 2<2:=emod_lt_of_pos _ ⋯
   obtain⟨lx,Dx,bx,hat,hR,fx⟩:=two (mm % 2) H6 l2 (fa.same G6.sm) (fa'.same G6.sm) m0 m1 g6;exists _,rfl,_,_,rfl,rfl,zp2,l2,_,_,.ref lx,rfl,rfl,zf g6,hat,_,rfl,_,_,rfl,rfl,⟨⋯,⋯⟩,_,rfl,?_
   exists lx,pa,_,Dx,bx,zs,rfl,hR,fx,G6.sm _ _ hpa,pz,fun tt l m nn H7 s7 nl a7=>?_;have G7:=G6.same s7;exists lf,_,_,rfl,rfl,G7.hl,zY (by rw[aA];omega),?_
   refine⟨us++[tt],_,_,_,rfl,G6.add hlf s7 nl a7,by rw[aG];exact succ_le_succ lu,by rw[zi nca];exact s7 _ _ hc6⟩
  ·rintro σ H4 ⟨us,v5,v6,v7,rfl,G4,lu,_⟩
   rw[aA] at lu;exact key _ _ ⟨us,_,_,_,rfl,G4,∅⟩
 clear G1;rintro σ H1 ⟨us,v5,v6,v7,rfl,G1,lu1⟩;refine zp (yU PassesOwn.never rfl (zM (yj yX (pv 0) (yp ze) (yp ze))) (zo (i:=6) wZ.nd rfl (Or.inl rfl)) y4) ?_;exists _,rfl,_,rfl,_,rfl,sa,_,rfl,G1.sm.seq hS,fun ca hca=>?_;obtain⟨cs,ec,lc,_⟩:=zah ns (some 10) (some 63);rw[ec];have s3:=zd hca (.lst (cs.map V.int));have g3:upd H1 ca (.lst (cs.map V.int)) ca=some (.lst (cs.map V.int)):=za;have G3:=G1.same s3;generalize upd H1 ca (.lst (cs.map V.int))=H3 at s3 g3 G3 |-;have nca:ca≠lf:=fun e=>by rw[e,G1.hl] at hca;cases hca
 exists ca,rfl,⟨_,zf g3⟩,xf (K:=K) (a:=ca) (xs:=cs.map V.int) (fun i σ H'=>∃us v6,σ=[~~~sa,~~~t,~~~t',~~~pa,~~~lf,v5,v6,v7]/\GS H H' lf us/\us.length<=63+2 * i/\H' ca=some (.lst (cs.map V.int))) ⟨us,_,rfl,G3,lu1,g3⟩ (fun i σ H' _ ⟨_,_,_,_,_,e⟩=>zf e) ?_ ?_
 ·rintro i x σ H4 hx ⟨us,v6,rfl,G4,lu,hc4⟩
  obtain⟨n,hn,rfl⟩:=ud hx;have hi:i<cs.length:=(List.getElem?_eq_some_iff.mp hn).1;dsimp only[zJ];refine zp (zZ (xw PySem.F.plainAttrs_list PySem.F.slot_list_append PySem.F.type_list_append ya (pv 4) (ac (cF cFr hr (ac (zk z3 (pv 6) ze) (ac (pv 3) zc))) zc))) ?_;exists _,rfl,.inl ⟨rfl,_,zf G4.hl⟩,_,rfl,_,_,rfl,rfl,⟨⋯,⋯⟩,_,rfl,pa,_,zs,rfl,G4.sm _ _ hpa,pz,fun tt l m nn H5 s5 nl a5=>?_
  have G5:=G4.same s5;exists lf,_,_,rfl,rfl,G5.hl,zY (by rw[aA];omega),?_
  have G6:=G4.add hlf s5 nl a5;have hc6:upd H5 lf (.lst (us.map V.ref++[.ref tt])) ca=some (.lst (cs.map V.int)):=by rw[zi nca];exact s5 _ _ hc4
  generalize upd H5 lf (.lst (us.map V.ref++[.ref tt]))=H6 at G6 hc6 |-;have lu6:(us++[tt]).length<=63+2 * i+1:=by rw[aG];exact succ_le_succ lu
  generalize us++[tt]=us at G6 lu6;exists _,zg (zS (zm vL (zk zW (pv 6) ze) ze (zF _)) (zg (zZ (xw PySem.F.plainAttrs_list PySem.F.slot_list_append PySem.F.type_list_append ya (pv 4) (ac (cF cSh hr1 (ac (zC ye (zT (ac (zC zG (pv 1) ze (fun _ _=>rfl)) (ac (zC zG (pv 2) ze (fun _ _=>rfl)) zc))) (zk zW (pv 6) ze) (fun _ _=>rfl)) (ac (cF cL hr2 (ac (pv 6) zc)) (ac (pv 3) zc)))) zc)))) zD),?_;exists _,rfl,_,_,rfl,rfl,zp3,_,_,rfl,rfl,_,rfl,?_;by_cases hm:n % 3<2
  rotate_left
  ·refine dF hm ?_
   exact⟨us,_,rfl,G6,∅,hc6⟩
  refine dT hm ?_;have ga:=fa.same G6.sm;have ga':=fa'.same G6.sm;exists _,rfl,.inl ⟨rfl,_,zf G6.hl⟩,_,rfl,t,_,0,.ref la,rfl,rfl,zy ga.ht,rfl,_,rfl,t',_,0,.ref la',rfl,rfl,zy ga'.ht,rfl,yG,fun l2 hl2=>?_;have s7:=zd hl2 (.lst [.ref la,.ref la']);have g7:upd H6 l2 (.lst [.ref la,.ref la']) l2=some (.lst [.ref la,.ref la']):=za;have G7:=G6.same s7;have hc7:=s7 _ _ hc6;generalize upd H6 l2 (.lst [.ref la,.ref la'])=H7 at s7 g7 G7 hc7 |-;obtain⟨lx,Dx,bx,hat,hR,fx⟩:=two (n % 3) H7 l2 (fa.same G7.sm) (fa'.same G7.sm) (emod_nonneg _ ⋯) hm g7
  exists _,rfl,_,_,rfl,rfl,zp3,l2,_,_,.ref lx,rfl,rfl,zf g7,hat,_,rfl,n,rfl,fun ld=>?_;exists _,rfl,lx,pa,_,Dx,bx,zs,rfl,hR,fx,G7.sm _ _ hpa,pz,fun tt l m nn H8 s8 nl a8=>?_;have G8:=G7.same s8;exists lf,_,_,rfl,rfl,G8.hl,zY (by rw[aA];omega),?_
  exact⟨us++[tt],_,rfl,G7.add hlf s8 nl a8,by rw[aG];show _+1<=_;omega,by rw[zi nca];exact s8 _ _ hc7⟩
 ·rintro σ H4 ⟨us,v6,rfl,G4,lu,_⟩
  rw[aA] at lu;exact⟨_,zg (zB (pv 4)),_,rfl,q lf us H4 G4.sm G4.hl ∅ fun u hu=>let ⟨l,m,ns,a,_⟩:=G4.at_ u hu;⟨l,m,ns,a⟩⟩
inductive zki(c:C5)(CF:Addr)(vs:List V)(H:Hp)(Q:VK)(E:XK):Prop|mk(tp l t la lb t' la' lb':Addr)(m:Nat)(ns:List Str)(D D':FD)(bars bars' zs:List Str):vs=[.ref tp,.ref t,.ref t']->H tp=some (.tup [.int (m:Nat),.ref l])->H l=some (.lst (ns.map V.str))->(∀z∈ns,zU z=true)->ns.length<=60->ns.Nodup->z8 ns=ns->m<=60->FA H t la lb D bars->FA H t' la' lb' D' bars'->z6 zs D bars->z6 zs D' bars'->zs.length<=26->(∀z∈zs,zU z=true)->uw D bars D' bars' m ns->(∀H',zq H H'->Q (.bl true) H')->zki c CF vs H Q E
theorem zey:zA ["_law_found","_law_one","_law_other","_law_many","_law_names","_law_call"] ["_law_found","_law_one","_law_other"] (zh zk8):=fsc
theorem zlw(F:Fun K "_law_is_parting" "_law_is_parting" zk8 f fd)(U:zmW mg)(cF':⇑6 "fits" g2 e2 ["form","call"] (zgA K c CF))(cM:⇑6 "_law_form" g3 e3 ["_law_row_here","_law_bars_here"] (jT c CF))(cPa:⇑2 "_law_parts" g4 e4 ["_law_one","_law_other","_law_many","_law_names"] za9):↥7 f fd ["_law_found","_law_one","_law_other"] (zki c CF):=by
 specialize zey;obtain⟨tp,l,t,la,lb,t',la',lb',m,ns,D,D',bars,bars',zs,rfl,htp,hl,nn,lns,nd,so,lm,fa,fa',fd,fd',l4,hz,hp,q⟩:=h;have hr2:yk 2 _:=hr.mono ⋯
 have hU:=hr.units;have all:∀z∈zs++yC,zU z=true:=fun z h=>(List.mem_append.mp h).elim (hz z) (wJ z);obtain⟨_,l60⟩:=zaa fd l4;obtain⟨_,l60'⟩:=zaa fd' l4;have V1:=fd.valid all l60;have V1':=fd'.valid all l60';have t1:xC D'.rows bars' m ns=true:=by rw[vW fd'];exact hp.1
 have t2:xC D.rows bars m ns=false:=by rw[vW fd];exact hp.2
 refine zp (zS (yS (vK (xx (yz (cB vR U.isi boot_isinstance (ac (pv 0) (ac (zbF (v:=.ty "tuple") rfl U.tuple PyProof.Rows.boot_tuple rfl) zc))))) (vK (zm qK (cB zE U.len PySem.boot_len (ac (pv 0) zc)) ze (zF _)) (vo (xx (yz (cB vR U.isi boot_isinstance (ac (zC zG (pv 0) ze (fun _ _=>rfl)) (ac (zbF (v:=.ty "list") rfl U.list PyProof.Rows.boot_list rfl) zc))))))))) (zg (zB x6)) zD) ?_;exists _,rfl,_,_,_,_,rfl,.tup htp,qT K,_,rfl,?_;refine yD ?_;exists _,rfl,tp,_,rfl,.inr (zy htp),rfl,_,rfl,?_;refine yZ (by rfl) ?_
 exists _,rfl,tp,_,1,.ref l,rfl,rfl,zy htp,rfl,_,_,_,_,rfl,.lst hl,zbO K,_,rfl,?_;refine yD ?_;refine zp (vt (pv 0) (y6 rfl (zN (zo (i:=3) zey.nd rfl (Or.inl rfl)) (zN (zo (i:=4) zey.nd rfl (Or.inl rfl)) yH)))) ?_;exists _,rfl,tp,_,rfl,zy htp,rfl,_,_,rfl,_,_,rfl,rfl,?_;dsimp only[zJ];refine zey[5]'(zT (ac (z7 (ac zH (ac (cTy (zd9 rfl) U.list PyProof.Rows.boot_list (ac (cTy ziu U.range PyProof.Rows.boot_range (ac (pv 3) zc)) zc)) zc))) (ac (z7 (ac zH (ac (yY [] ["_law_name"] [none] rfl ⟨rfl,rfl,rfl,rfl⟩ (zM (pv 4)) (zK 0) rfl rfl rfl
   (fun pins fp s H C=>⟨zo (i:=0) zmy rfl (Or.inl rfl) (.inr rfl),yV,z7 (ac (pv 0) (ac ze zc))⟩)) zc))) zc)))
 exists _,rfl,m,rfl,fun pr1 hpr1=>?_;have sC:=zd hpr1 (.rng 0 (m:Nat));exists pr1,m,rfl,za,∅,fun lr hlr=>?_
 have sD:=zd hlr (.lst ((yJ m).map V.int));have gD:upd (upd H pr1 (.rng 0 (m:Nat))) lr (.lst ((yJ m).map V.int)) lr=some (.lst ((yJ m).map V.int)):=za;have sBD:=sC.trans sD;exists yG,fun t1' ht1=>?_;have sE:=zd ht1 (.tup [.str (Str.ofString "row"),.ref lr]);have sBE:=sBD.trans sE;have gE:=sE _ _ gD;have gT:upd (upd (upd H pr1 (.rng 0 (m:Nat))) lr (.lst ((yJ m).map V.int))) t1' (.tup [.str (Str.ofString "row"),.ref lr]) t1'=some (.tup [.str (Str.ofString "row"),.ref lr]):=za;generalize upd (upd (upd H pr1 (.rng 0 (m:Nat))) lr (.lst ((yJ m).map V.int))) t1' (.tup [.str (Str.ofString "row"),.ref lr])=HE at sE sBE gE gT |-;exists _,rfl,l,rfl,⟨_,zf (sBE _ _ hl)⟩,fun Dd hDd=>?_;refine zhZ (K:=K) (m:=1) (fun i=>wF (ns.getD i "",0)) hDd (zf (sBE _ _ hl)) (by rw[aA];omega) (fun i x H' Qf Qs hx sH qf=>?_) (fun ws HF sF' eF pF=>?_)
 ·obtain⟨z,hz,rfl⟩:=strs_at hx
  exists fun _=>?_,fun e=>Bool.noConfusion e;exists _,rfl,yG,fun p hp=>?_;refine qf _ _ (zd hp _) ?_;show zR K _ _ 1 _ (.tup [.str (ns.getD i ""),.int 0]);rw[getD_eq_getElem?_getD,hz];exact zR.tup (zy za) (.cons .str (.cons .int .nil))
 have epd:(List.range (ns.map V.str).length).map (fun i=>wF (ns.getD i "",0))=(ns.map fun z=>(z,(0:Int))).map wF:=by
  rw[aA,map_map];refine List.ext_getElem (by simp) fun i h1 h2=>?_
  simp at h1 h2;simp [h1]
 rw[epd] at pF;exists yG,fun t2' ht2=>?_;have sG:=zd ht2 (.tup [.str (Str.ofString "book"),.ref Dd]);have gG:upd HF t2' (.tup [.str (Str.ofString "book"),.ref Dd]) t2'=some (.tup [.str (Str.ofString "book"),.ref Dd]):=za;have sEG:=sF'.trans sG;have eF:=sG _ _ eF;have gT:=sEG _ _ gT;have gE:=sEG _ _ gE;have pF:=zO (fun _ _ z=>z.same sG) pF;have sBG:=sBE.trans sEG;generalize upd HF t2' (.tup [.str (Str.ofString "book"),.ref Dd])=HG at sG gG sEG eF gT gE pF sBG |-;exists yG,fun lc hlc=>?_;have sH:=zd hlc (.lst [.ref t1',.ref t2']);have gH:upd HG lc (.lst [.ref t1',.ref t2']) lc=some (.lst [.ref t1',.ref t2']):=za;have gG:=sH _ _ gG;have eF:=sH _ _ eF;have gT:=sH _ _ gT;have gE:=sH _ _ gE;have pF:=zO (fun _ _ z=>z.same sH) pF;have sBH:=sBG.trans sH;generalize upd HG lc (.lst [.ref t1',.ref t2'])=HH at sH gH gG eF gT gE pF sBH |-;have lint:(yJ m).length=m:=by unfold yJ;rw[aA,length_range]
 have c1:xz [.row (yJ m),.book (ns.map fun z=>(z,(0:Int)))]=yJ m:=by simp [xz,itT]
 have c2:xI [.row (yJ m),.book (ns.map fun z=>(z,(0:Int)))]=ns.map fun z=>(z,(0:Int)):=by simp [xI,itP]
 have c3:y7 [.row (yJ m),.book (ns.map fun z=>(z,(0:Int)))]=ns:=by unfold y7;rw[c2,map_map];show ns.map id=ns;exact List.map_id ns
 have cok:zef K HH lc [.row (yJ m),.book (ns.map fun z=>(z,(0:Int)))]:=by
  refine⟨⟨_,zf gH,.cons (zR.tup (zy gT) (.cons .str (.cons (zR.lst trivial gE ?_) .nil))) (.cons (zR.tup (zy gG) (.cons .str (.cons (zR.lst trivial eF ?_) .nil))) .nil)⟩,by rw[c1,lint];omega,by rw[c2,aA];omega⟩
  ·exact zaS _
  ·exact zO (fun _ _ z=>zeA (fun _ _ _=>trivial) z) pF
 have m1:(qP D'.rows bars' [.row (yJ m),.book (ns.map fun z=>(z,(0:Int)))]).isEmpty=true:=by
  unfold qP;rw[c1,c3,lint,zc7 fd' V1' nd t1];rfl
 have m2:(qP D.rows bars [.row (yJ m),.book (ns.map fun z=>(z,(0:Int)))]).isEmpty=false:=by
  unfold qP;rw[c1,c3,lint];cases e:u9 D.rows bars m ns with
  | nil=>rw[zd1 fd V1 e] at t2;cases t2
  | cons a b=>rfl
 generalize [vE.row (yJ m),.book (ns.map fun z=>(z,(0:Int)))]=ct at cok m1 m2;have fa4:=fa.same sBH;have fa4':=fa'.same sBH;have hl4:=sBH _ _ hl;clear sH gH gG eF gT gE pF sBG sEG sF' sBE sBD sC sD sE c1 c2 c3 lint;dsimp only[zJ];refine zp (zS (yS (vK (yz (cF cF' hr (ac (cF cM hr (ac (zC zG (pv 1) ze (fun _ _=>rfl)) (ac (zC zG (pv 1) ze (fun _ _=>rfl)) zc))) (ac (pv 5) zc)))) (vo (xx (yz (cF cF' hr (ac (cF cM hr (ac (zC zG (pv 2) ze (fun _ _=>rfl)) (ac (zC zG (pv 2) ze (fun _ _=>rfl)) zc))) (ac (pv 5) zc)))))))) (zg (zB x6)) zD) ?_;exists _,rfl,t,_,0,.ref la,rfl,rfl,zy fa4.ht,rfl,_,rfl,t,_,1,.ref lb,rfl,rfl,zy fa4.ht,rfl,la,lb,D.rows,bars,rfl,fa4.hr,fa4.hb,V1,fun fo H5 s5 hfo=>?_;obtain⟨⟨cxs,cx1,cx2⟩,ct1,ct2⟩:=cok;exists _,rfl,fo,lc,D.rows,bars,ct,rfl,hfo,⟨⟨cxs,s5.seq cx1,zO (fun _ _ z=>z.same s5) cx2⟩,ct1,ct2⟩,fun H6 s6=>?_;rw[m2];exists _,rfl,?_;refine yD ?_;have s46:=s5.trans s6;have fa6':=fa4'.same s46;exists _,rfl,t',_,0,.ref la',rfl,rfl,zy fa6'.ht,rfl,_,rfl,t',_,1,.ref lb',rfl,rfl,zy fa6'.ht,rfl,la',lb',D'.rows,bars',rfl,fa6'.hr,fa6'.hb,V1',fun fo' H7 s7 hfo'=>?_;have s47:=s46.trans s7;exists _,rfl,fo',lc,D'.rows,bars',ct,rfl,hfo',⟨⟨cxs,s47.seq cx1,zO (fun _ _ z=>z.same s47) cx2⟩,ct1,ct2⟩,fun H8 s8=>?_;rw[m1];exists _,rfl,?_;refine yD ?_;have s48:=s47.trans s8;have hl8:=s48 _ _ hl4;have s08:=sBH.trans s48;exists _,zg (zB (zbG (xB (zdC hU) (pv 4) (cB (vB rfl) U.sorted boot_sorted (ac (cTy (ui rfl) U.set PyProof.Rows.boot_set (ac (pv 4) zc)) zc)) (zF _)) (zbE (cF cPa hr2 (ac (pv 1) (ac (pv 2) (ac (pv 3) (ac (pv 4) zc)))))))),?_;exists _,rfl,_,rfl,l,ns,rfl,zf hl8,∅,fun ls k hls=>?_
 have s9:=zd hls (uq P w ls (fun z=>decide (z∈ns)) k);exists ls,ns,k,rfl,za,∅,fun l2 ys hl2 ny hy=>?_
 rw[ziJ so nd ny hy];have s10:=zd hl2 (.lst (ns.map V.str));have s90:=s9.trans s10;exists l,l2,0,.lst (ns.map Dt.str),fun _=>True,fun _=>True,rfl,rfl,⋯,zR.lst trivial (s90 _ _ hl8) (wX _),zR.lst trivial za (wX _),?_
 exists _,rfl,?_;refine xO ?_;have s010:=s08.trans s90;exists _,rfl,_,rfl,_,rfl,_,rfl,t,la,lb,t',la',lb',l,m,D,D',bars,bars',zs,ns,rfl,fa.same s010,fa'.same s010,fd,fd',s90 _ _ hl8,∅,fun b H11 s11 hb=>?_
 rw[hb.mpr ⟨nd,hp⟩];exact q _ (s010.trans s11)
end
end K84
namespace L2
open PySem PySem.Spec PyProof.Rows
theorem zhh{X:Cx}{tg l:Expr}{tl:TE}{K:Frag}(e:X.K=K)(hl:PE X l tl):PI X tg l (zks K tl):=by subst e;exact zM hl
def vj:Obj:={ cls:=.type "cell",data:=.cell none }
def cHp(h:Heap):List (Str×NameKind)->Heap
 | []=>h
 | (_,k)::r=>if (k==NameKind.cell)=true then cHp (h.push vj) r else cHp h r
theorem qN{M:Model}{A:Around}{E:VSP}{Q:List (Str×Addr)->Shared->Prop}:∀(names:List (Str×NameKind)) (cs:List (Str×Addr)) (s:Shared),Q (cellsFrom s.heap.objs.size names cs) { s with heap:=cHp s.heap names }->
  wpAny M A (forIn names cs fun x cells=>if (x.2==NameKind.cell)=true then do let a <- alloc vj;pure (ForInStep.yield ((x.1,a)::cells)) else pure (ForInStep.yield cells)) Q E s
 | [],cs,s,h=>by
  rw[List.forIn_nil];exact zwp h
 | (x,k)::r,cs,s,h=>by
  rw[List.forIn_cons];unfold cellsFrom cHp at h;dsimp only;by_cases c:(k==NameKind.cell)=true
  ·rw[aK c] at h |-
   rw[aK c] at h;refine zwb (zwb (wpAny_alloc (zwp (qN r _ _ ?_))));have e:(s.heap.push vj).objs.size=s.heap.objs.size+1:=Heap.size_push ..;dsimp only;rw[e];exact h
  ·rw[aJ c] at h |-
   rw[aJ c] at h;exact zwb (zwp (qN r _ _ h))
theorem zhS{E:VSP}{Q:Env->Shared->Prop}
  (h:Q (newEnv sc s.heap.objs.size g (cellsFrom (s.heap.objs.size+1) sc.names cl) qual none .none (some o) b) { s with heap:=cHp (s.heap.push { cls:=.type "dict",data:=.dict #[] }) sc.names }) :
  wpAny M A (newFunctionEnv sc g cl [] qual none .none (some o) b) Q E s:=by
 unfold newFunctionEnv;refine zwb (wpAny_alloc ?_);have e:(s.heap.push { cls:=.type "dict",data:=.dict #[] }).objs.size=s.heap.objs.size+1:=Heap.size_push ..;refine zwb (qN _ _ _ ?_);refine zwb (zwp ?_);rw[<- e] at h;exact zwp h
abbrev xP(X:Cx)(pins:PnL)(sc:Scope)(cw:Str)(fr Nc:List Str)(fp:List Addr)(s:Shared)(H:Hp)(C:Addr):Cx:=
 { prog:=X.prog,w:=X.w,K:=X.K,mg:=X.mg,base:=X.base,A:=X.A,N:=Nc,s₀:=s,H₀:=H,env:=compEnvC sc ((cw,C+1)::clB X.env fr) C X.env,outer:=X.stack,stack:=X.stack,ex:=fp,fn:=fun x=>x==cw,calm:=X.calm,pn:=X.pn++pins,xe:=fun _ _=>False }
structure wV(env:Env)(sc:Scope)(cw:Str)(fr:List Str):Prop where
 kind:sc.kind=.function
 clos:closureFor sc env=pure (clB env fr)
 cells:(fr.all fun n=>(env.cells.lookup n).isSome)=true
 names:(sc.names.all fun y=>(y.2 != .cell||y.1==cw)&&(y.2 != .free||fr.contains y.1)&&(y.2 != .local||sc.names.lookup y.1==some .local))=true
 own:sc.names.lookup cw=some .cell
 cf:∀n cl,cellsFrom n sc.names cl=(cw,n)::cl
 ch:∀h,cHp h sc.names=h.push vj
theorem cN1{n c C:Nat}(h:c<n)(hC:n<=C):c≠C+1:=by omega
theorem cN0{n c D:Nat}(h:c<n)(hD:n<=D):c≠D:=by omega
section
theorem wV.sub(B:wV env sc cw fr)(h:((cw,C+1)::clB env fr).lookup x=some c):(x=cw/\c=C+1)\/env.cells.lookup x=some c:=by
 rw[lookup_cons] at h;cases e:x==cw with
 | true=>rw[e] at h;exact .inl ⟨by simpa using e,(Option.some.inj h).symm⟩
 | false=>
  rw[e] at h;obtain⟨h1,h2⟩:=zai h;obtain⟨d,hd⟩:=Option.isSome_iff_exists.mp (List.all_eq_true.mp B.cells x h1);rw[hd] at h2;exact .inr (by rw[hd,h2];rfl)
theorem wV.free(B:wV env sc cw fr)(h:(relabel sc env).names.lookup x=some k)(hk:k=.cell\/k=.free):x=cw\/x∈fr:=by
 obtain⟨k0,h1,h2⟩:=wC h;have h3:=List.all_eq_true.mp B.names _ h1;simp only[Bool.and_eq_true,Bool.or_eq_true,bne_iff_ne,ne_eq,contains_iff_mem,beq_iff_eq] at h3;rcases h3.1.1 with z|z
 ·refine .inr ?_
  have h4:k0=.free:=by
   rcases h2 with h2|⟨h2,_⟩
   ·subst h2
    exact hk.elim (fun e=>absurd e z) id
   ·exact h2
  exact h3.1.2.elim (fun e=>absurd h4 e) id
 ·exact .inl z
theorem zit(I:Inv X pins σ H s)(B:wV X.env sc cw fr)(hf:∀b∈fp,xQ X pins H b)(ho:∀b∈fp,∃o,s.heap.get? b=some o)(hC:s.heap.objs.size<=C):(xP X pins sc cw fr Nc fp s H C).Ok:=by
 have old:∀{x c},X.env.cells.lookup x=some c->c<s.heap.objs.size:=fun h=>let ⟨_,hv⟩:=I.cell _ _ h;hv.lt;exact {
 mod:=I.ok.mod
 kind:=B.kind
 glob:=I.ok.glob
 blt:=I.ok.blt
 above:=hC
 inj:=fun x y c h1 h2=>by
  rcases B.sub h1 with ⟨e1,d1⟩|k1 <;> rcases B.sub h2 with ⟨e2,d2⟩|k2
  ·rw[e1,e2]
  ·exact absurd d1 (cN1 (old k2) hC)
  ·exact absurd d2 (cN1 (old k1) hC)
  ·exact I.ok.inj x y c k1 k2
 has:=fun x h=>by
  have hx:x=cw\/x∈fr:=by
   rcases h with h|h
   ·exact B.free h (.inl rfl)
   ·exact B.free h (.inr rfl)
  show ∃c,((cw,C+1)::clB X.env fr).lookup x=some c;rw[lookup_cons];cases e:x==cw with
  | true=>exact⟨_,rfl⟩
  | false=>exact⟨_,jy (hx.resolve_left (by simpa using e))⟩
 cab:=fun x c h1 h2=>by
  have e:x=cw:=by simpa using h1
  have h2:List.lookup x ((cw,C+1)::clB X.env fr)=some c:=h2;rw[lookup_cons,e,beq_self_eq_true] at h2;cases h2;exact le_succ_of_le hC
 hd:=I.ok.hd
 frames:=I.ok.frames
 stk:=.inl rfl
 exf:=fun b hb=>by
  obtain⟨o,e⟩:=ho b hb;have lt:=aI e;exists fun z=>?_,fun x c h=>?_
  ·exact cN0 lt hC z
  ·rcases B.sub h with ⟨_,d⟩|h
   ·rw[d];exact fun e=>cN1 lt hC e.symm
   ·exact(hf b hb).2.2.2.2.1 x c h
 bs:=I.bs
 bsz:=Nat.le_trans I.ok.bsz I.sz
 noex:=fun b o e hb=>by
  rcases (hf b hb).2.2.2.1 with z|z
  ·exact I.ok.noex b o e z
  ·exact absurd (lt_of_lt_of_le (aI (I.ok.bs b o e).1) z) (lt_irrefl _)
 exfs:=fun b hb h=>by
  rcases List.mem_cons.mp (I.stkSub b h) with z|z
  ·exact(hf b hb).2.1 z
  ·exact(hf b hb).2.2.1 z
 funs:=I.stack
 frf:=I.stkFree }
theorem zcV{m:Str->Option Value}{t' n0:Nat}(I:Inv X pins σ H s)(B:wV X.env sc cw fr)(hf:∀b∈fp,xQ X pins H b)(ho:∀b∈fp,∃o,s.heap.get? b=some o)
  (hC:s.heap.objs.size<=C) (hD:s.heap.objs.size<=D) (hDC:D<C) (keep:∀b o,s.heap.get? b=some o->h'.get? b=some o) (hl:h'.get? D=some { cls:=.type "list",data:=.seq ([]:List Value).toArray n0 }) (hn:h'.Ns C m) (hw:h'.get? (C+1)=some vj)
  (hcap:wz X.N Nc caps X.env sc fr=true) (hlen:caps.length=Nc.length) :
  Inv (xP X pins sc cw fr Nc fp s H C) [] (yW caps σ) (upd H D (.lst [])) { s with heap:=h',toks:=t' }:=by
 have hk:X.env.scope.kind=.function:=I.ok.kind;have fresh:∀a,s.heap.objs.size<=a->H a=none:=fun a ha=>I.hok.fresh ha;have old:∀{x c},X.env.cells.lookup x=some c->c<s.heap.objs.size:=fun h=>let ⟨_,hv⟩:=I.cell _ _ h;hv.lt;exists zit I B hf ho hC,rfl,I.bare,Un.laid keep hD (fresh D hD),⟨m,hn,fun i x v e1 e2 e3=>?_⟩,fun x c h=>?_,?_,fun x c h=>?_,fun p hp=>?_,?_,?_
 ·have e2':(caps[i]?).map (fun o=>match o with|none=>none|some j=>(σ[j]?).join)=some (some v):=by
   have:(yW caps σ)[i]?=some (some v):=e2
   unfold yW at this;rw[getElem?_map] at this;exact this
  cases hc:caps[i]? with
  | none=>rw[hc] at e2';cases e2'
  | some o=>
   rw[hc] at e2';cases o with
   | none=>simp at e2'
   | some j=>
    have e4:(σ[j]?).join=some v:=by simpa using e2'
    have e5 : σ[j]?=some (some v):=by
     cases q : σ[j]? with
     | none=>rw[q] at e4;cases e4
     | some w'=>rw[q] at e4;simp at e4;rw[e4]
    have e6:(Nc.zip caps)[i]?=some (x,some j):=by
     rw[List.getElem?_zip_eq_some];exact⟨e1,hc⟩
    have e7:=List.all_eq_true.mp hcap _ (aH e6);simp only[Bool.and_eq_true,beq_iff_eq,contains_iff_mem] at e7;obtain⟨⟨⟨a1,a2⟩,a3⟩,a4⟩:=e7;have nw:(x==cw)=false:=by
     cases q:x==cw with
     | false=>rfl
     | true=>
      have q':x=cw:=by simpa using q
      rw[q',B.own] at a3;cases a3
    obtain⟨m0,hn0,hl0⟩:=I.loc;obtain⟨u,r,l⟩:=hl0 j x v a1 e5 (.inr (.inl a2));exists u,r,.inr ⟨.inl (wm hk a3 a2),_,(show List.lookup x ((cw,C+1)::clB X.env fr)=_ by rw[lookup_cons,nw];exact jy a4),?_⟩
    rcases l with ⟨z,_⟩|⟨_,c,ec,hcell⟩
    ·rw[a2] at z;cases z
    ·have:(X.env.cells.lookup x).getD 0=c:=by rw[ec];rfl
     rw[this];exact hcell.keeps keep
 ·rcases B.sub h with ⟨_,rfl⟩|h
  ·exact⟨none,_,hw,rfl⟩
  ·obtain⟨v,hv⟩:=I.cell x c h
   exact⟨v,hv.keeps keep⟩
 ·show upd H D (.lst []) C=none
  rw[zi (ne_of_gt hDC)];exact fresh C hC
 ·rcases B.sub h with ⟨_,rfl⟩|h
  ·rw[zi (fun e=>cN1 (lt_succ_self D) hDC e.symm)]
   exact fresh _ (le_succ_of_le hC)
  ·rw[zi (cN0 (old h) hD)];exact I.freeC x c h
 ·have hp':p∈X.pn++pins:=by simpa using hp
  obtain⟨e,n,ne,nf,d⟩:=I.pin p hp';have hlt:=I.pin_lt hp';exists keep _ _ e,?_,?_,fun z=>?_,d
  ·rw[zi (cN0 hlt hD)];exact n
  ·exact cN0 hlt hC
  ·rcases List.mem_cons.mp (I.stkSub p.1 z) with q|q
   ·exact ne q
   ·exact nf q
 ·exact I.hok.laid keep hD ⟨zero_le _,[],n0,.nil,hl⟩
 ·show(yW caps σ).length=Nc.length
  unfold yW;rw[aA,hlen]
theorem zd6{t2:Nat}(I:Inv X pins σ H s)(J:Inv (xP X pins sc cw fr Nc fp s H C) pl σ' H' s')(J2:Inv X pins σ2 H' s')(hs:Heap.SameBut C s'.heap h2):Inv X pins σ2 H' { s' with heap:=h2,toks:=t2 }:=by
 have hC:s.heap.objs.size<=C:=J.ok.above;refine J2.turned (it:=C) (fun b o hb e=>(hs.2 b hb).trans e) J.free ?_ (.inr (Nat.le_trans I.sz hC)) (fun x c h z=>?_) fun p hp z=>?_
 ·intro z
  have:=I.lt
  rw[<- z] at this;exact absurd (lt_of_lt_of_le this hC) (lt_irrefl _)
 ·obtain⟨v,hv⟩:=I.cell x c h
  have:=hv.lt
  rw[z] at this;exact absurd (lt_of_lt_of_le this hC) (lt_irrefl _)
 ·have:=I.pin_lt hp
  rw[z] at this;exact absurd (lt_of_lt_of_le this hC) (lt_irrefl _)
variable {g:TG}{tt:TT}{te:TE}{E:VSP}
theorem zf6{tn:Nat->Heap->Prop}{J:It}{Q:VK}{RR:Value->Addr->Result->Shared->Prop}
  (hc:X.calm=true) (B:wV X.env sc cw fr) (go:zat g ow) (how:(ow.all fun i=>caps[i]?==some none)=true) (hcap:wz X.N Nc caps X.env sc fr=true) (hlen:caps.length=Nc.length)
  (Ex:Addr->Addr->Value->Shared->Prop) (hb:∀D C,PG ((xP X pins sc cw fr Nc fp s H2 C).wish (Ex D C)) tg g/\PIf ((xP X pins sc cw fr Nc fp s H2 C).wish (Ex D C)) ifs tt/\PE ((xP X pins sc cw fr Nc fp s H2 C).wish (Ex D C)) elt te)
  (I2:Inv X pins σ H2 s) (T:zar X.prog X.w X.K tg J fp it tn) (st2:tn 0 s.heap) (f2:∀b∈fp,xQ X pins H2 b) (h:∀D,H2 D=none->LCr J caps g tt te σ H2 Q D)
  (hE:∀D C e s',Ex D C e s'->notedBy (model X.prog X.w) X.A (compEnvC sc ((cw,C+1)::clB X.env fr) C X.env) (fun x s3=>RR (.ref D) C (.error x) s3) e s')
  (fin:∀D C (σ':St) H' s',Inv (xP X pins sc cw fr Nc fp s H2 C) [] σ' H' s'->Q (.ref D) H'->RR (.ref D) C (.ok .next) s') :
  ↑X (newList []) (fun acc s₃=>↑X (newFunctionEnv sc X.env.globals (clB X.env fr) [] X.env.qual none .none (some X.env)) (fun cenv s₄=>
   codeAny (model X.prog X.w) X.A (.compStart (.ListComp elt [⟨tg,iter,ifs,0⟩] sc pos) 0 (.ref it) acc { cenv with scope:=relabel sc X.env }) (RR acc cenv.locals) s₄) E s₃) E s:=by
 refine wpAny_newObj_type (zhS ?_);dsimp only;rw[B.cf,B.ch];generalize hH2:s.heap.push { cls:=.type "list",dict:=none,data:=.seq ([]:List Value).toArray }=H3;have hCs:H3.objs.size=s.heap.objs.size+1:=by rw[<- hH2,Heap.size_push]
 have hDC:s.heap.objs.size<H3.objs.size:=by rw[hCs];exact lt_succ_self _
 have hC:s.heap.objs.size<=H3.objs.size:=le_of_lt hDC;have k1:∀b o,H3.get? b=some o->((H3.push { cls:=.type "dict",data:=.dict #[] }).push vj).get? b=some o:=fun b o e=>zgp _ (zgp _ e);have hns₁:((H3.push { cls:=.type "dict",data:=.dict #[] }).push vj).Ns H3.objs.size fun _=>none:=⟨{ cls:=.type "dict",data:=.dict #[] },#[],_,zgp _ (zgs _ rfl),rfl,(by intro x hx;simp at hx),fun _=>rfl⟩
 have hw:((H3.push { cls:=.type "dict",data:=.dict #[] }).push vj).get? (H3.objs.size+1)=some vj:=by
  have e:=zgs (o:=vj) (H3.push { cls:=.type "dict",data:=.dict #[] }) rfl
  rwa [Heap.size_push] at e
 have old:∀b o,s.heap.get? b=some o->((H3.push { cls:=.type "dict",data:=.dict #[] }).push vj).get? b=some o:=fun b o e=>k1 b o (hH2 ▸ zgp _ e);have hD:((H3.push { cls:=.type "dict",data:=.dict #[] }).push vj).get? s.heap.objs.size=some { cls:=.type "list",data:=.seq ([]:List Value).toArray }:=k1 _ _ (hH2 ▸ zgs _ rfl);generalize (H3.push { cls:=.type "dict",data:=.dict #[] }).push vj=h₁ at k1 hns₁ hw old hD |-;have ho:∀b∈fp,∃o,s.heap.get? b=some o:=fun b hb'=>let ⟨o,e,_⟩:=T.obj 0 _ st2 b hb';⟨o,e⟩
 let CC:Cx:=xP X pins sc cw fr Nc fp s H2 H3.objs.size
 let xb:Value->Shared->Prop:=Ex s.heap.objs.size H3.objs.size
 have I4:∀t',Inv (CC.wish xb) [] (yW caps σ) (upd H2 s.heap.objs.size (.lst [])) { s with heap:=h₁,toks:=t' }:=fun t'=>
  (zcV I2 B f2 ho hC (aF _) hDC old hD hns₁ hw hcap hlen).wish xb
 have ok:=(I4 0).ok;obtain⟨hbg,hbt,hbe⟩:=hb s.heap.objs.size H3.objs.size;obtain⟨W,⟨m0,w0⟩,turn⟩:=h s.heap.objs.size (I2.hok.fresh (aF _));have stat:∀{H':Hp},(∀b∈fp,H' b=none)->∀b∈fp,xQ (CC.wish xb) [] H' b:=fun hn b hb'=>
  ⟨hn b hb',(ok.exf b hb').1,ok.exfs b hb',.inl hb',(ok.exf b hb').2,fun p hp=>(f2 b hb').2.2.2.2.2 p (by have hp':p∈(X.pn++pins)++[]:=hp;simpa using hp')⟩
 have hfp0:∀b∈fp,upd H2 s.heap.objs.size (.lst []) b=none:=fun b hb'=>by
  obtain⟨o,e⟩:=ho b hb';rw[zi (ne_of_lt (aI e))];exact(f2 b hb').1
 have loop:∀s₃:Shared,s₃={ s with heap:=h₁,toks:=s.toks+([]:List (Str×Value)).length }->
   codeAny (model X.prog X.w) X.A (.compLoop (.ListComp elt [⟨tg,iter,ifs,0⟩] sc pos) 0 (.ref it) (.ref s.heap.objs.size) (compEnvC sc ((cw,H3.objs.size+1)::clB X.env fr) H3.objs.size X.env)) (RR (.ref s.heap.objs.size) H3.objs.size) s₃:=by
  rintro s₃ rfl;refine uu xb (hE _ _) (fun n s'=>∃i σ' H' ys,Inv (CC.wish xb) [] σ' H' s'/\tn i s'.heap/\(∀b∈fp,H' b=none)/\W i n ys H'/\
   (∀(k:Nat) v,(yW caps σ)[k]?=some (some v)->σ'[k]?=some (some v))) ?_ m0
   ⟨0,_,_,[],I4 _,T.keep _ _ _ st2 (fun b _ o e=>old b o e),hfp0,w0,fun _ _ e=>e⟩
  rintro n s3 ⟨i,σ3,H4,ys,I3,st3,fr3,w3,wk3⟩;have I3':Inv (CC.wish xb) [] (yW caps σ) H4 s3:=I3.weak (by rw[I3.len];exact(I4 0).len) wk3
  rcases turn i n ys H4 w3 with ⟨stop,qn⟩|⟨gg,step⟩
  ·refine thn (T.done (CC.wish xb) rfl rfl rfl hc i [] s3 _ H4 xb I3' (stat fr3) st3 stop) fun r s4 ⟨hr,I4'⟩=>?_
   subst hr;exact fin _ _ _ _ _ I4'.unwish qn
  ·refine thn (T.item (CC.wish xb) rfl rfl rfl hc i [] s3 _ H4 xb I3' (stat fr3) st3 gg) fun r s4 ⟨u,hr,h4⟩=>?_
   subst hr;refine thn h4 fun _ s5 ⟨x,H5,I5,r5,y5,st5,fr5⟩=>?_;have I5':=I5.pinned (stat fr5) (T.obj _ _ st5);refine thn (hbg _ s5 _ H5 x u _ I5' r5 (go _ _ _ _ (step x H5 y5))) fun _ s6 ⟨σ6,H6,I6,q6,l6,k6⟩=>?_;have wk6:∀(k:Nat) v,(yW caps σ)[k]?=some (some v)->σ6[k]?=some (some v):=fun k v e=>by
    rw[k6 k fun hk=>?_]
    ·exact e
    ·have h1:=List.all_eq_true.mp how k hk
     have h2:caps[k]?=some none:=by simpa using h1
     unfold yW at e;rw[getElem?_map,h2] at e;cases e
   refine thn (hbt _ s6 σ6 H6 _ I6 q6) fun ok s7 ⟨H7,I7,q7⟩=>?_;have again:∀{H8:Hp}{s8:Shared}{ys':List V},Inv (CC.wish xb) ([]++vw fp s5.heap) σ6 H8 s8->(∃m',m'<n/\W (i+1) m' ys' H8)->
     ∃m,m<n/\∃i σ' H' ys,Inv (CC.wish xb) [] σ' H' s8/\tn i s8.heap/\(∀b∈fp,H' b=none)/\W i m ys H'/\(∀(k:Nat) v,(yW caps σ)[k]?=some (some v)->σ'[k]?=some (some v)):=fun {H8 s8 ys'} I8 ⟨m',hm,w8⟩=>by
    exists m',hm,i+1,σ6,H8,ys',I8.unpinned,T.keep _ _ _ st5 fun b hb' o e=>(I8.pin (b,o) (mem_append_right _ (mem_append_right _ (yF hb' e)))).1,fun b hb'=>?_,w8,wk6;obtain⟨o,e,d⟩:=T.obj _ _ st5 b hb';exact(I8.pin (b,o) (mem_append_right _ (mem_append_right _ (yF hb' e)))).2.1
   cases ok with
   | false=>
    rw[aJ zft];exact again I7 (q7.2 rfl)
   | true=>
    rw[aK rfl];refine thn (hbe _ s7 σ6 H7 _ I7 (q7.1 rfl)) fun uv s8 ⟨v,H8,I8,r8,hD8,hz,q8⟩=>?_;refine thn (ya (X:=CC.wish xb) _ s8 σ6 H8 (.ref s.heap.objs.size) [v] _ [uv] (fun _ H'=>H'=upd H8 s.heap.objs.size (.lst (ys++[v]))) I8 rfl (.cons r8 .nil) ⟨_,ys,v,rfl,rfl,hD8,hz,rfl⟩) fun _ s9 ⟨_,H9,I9,_,e9⟩=>?_;subst e9;exact again I9 q8
 exact codeAny_compStart_list (loop _ rfl) (T.self _ 0 _ _ _ (T.keep _ _ _ st2 (fun b _ o e=>old b o e)) (loop _ rfl))
theorem wV.loc(B:wV env sc cw fr):∀x∈sc.names,x.2=.local->sc.names.lookup x.1=some .local:=fun y hy e=>by
 have h3:=List.all_eq_true.mp B.names _ hy;simp only[Bool.and_eq_true,Bool.or_eq_true,bne_iff_ne,ne_eq,beq_iff_eq] at h3;rcases h3.2 with z|z
 ·exact absurd e z
 ·exact z
theorem zlh{wi:TI}(cw:Str)(fr Nc:List Str)(caps:List (Option Nat))(hc:X.calm=true)(B:wV X.env sc cw fr)(hi:PI X tg iter wi)(go:zat g ow)(how:(ow.all fun i=>caps[i]?==some none)=true)
  (hcap:wz X.N Nc caps X.env sc fr=true) (hlen:caps.length=Nc.length)
  (hb:∀(pins:PnL) fp s H C,PG (xP X pins sc cw fr Nc fp s H C) tg g/\PIf (xP X pins sc cw fr Nc fp s H C) ifs tt/\PE (xP X pins sc cw fr Nc fp s H C) elt te)
  (hs:∀x,foldedSetIterable iter X.env x=pure x:=by intro _;rfl):PE X (.ListComp elt [⟨tg,iter,ifs,0⟩] sc pos) (tLC wi caps g tt te):=by
 and_intros;rw[eval_ListComp];refine wpAny_comprehension_free (use:=none) rfl hs B.clos B.kind B.loc (thn (hi pins s σ H _ I h) fun v s1 h1=>thn h1 fun itv s2 h2=>?_);obtain⟨it,fp,tn,J,H2,e,I2,T,st2,f2,q⟩:=h2;subst e;refine zf6 (RR:=fun acc C=>compPost (model X.prog X.w) X.A X.xe none (EP X pins σ Q) acc C) hc B go how hcap hlen (fun _ _ _ _=>False) (fun _ C=>hb pins fp s2 H2 C) I2 T st2 f2 q (fun _ _ _ _ z=>z.elim) ?_;intro D C σ' H' s' J' qq;obtain⟨m,hn,_⟩:=J'.loc;exact⟨m,hn,fun h' hs'=>⟨.ref D,H',zd6 I2 J' (I2.call' J'.os J'.base J'.hok J'.bare fun b hb=>⟨(f2 b hb).2.2.2.1,(f2 b hb).2.1,(f2 b hb).2.2.2.2.1,(f2 b hb).2.2.2.2.2⟩) hs',rfl,qq⟩⟩
end
end L2
namespace K84
open PySem L2 PyProof.Rows
theorem zcv(h:uJ D bars D' bars' o)(h':uJ D bars D' bars' o'):o.isNone=o'.isNone:=by
 match o,o',h,h' with
 | none,none,_,_=>rfl
 | some _,some _,_,_=>rfl
 | none,some (m,ns),h,h'=>exact absurd h'.1 (h m ns h'.2.2.1)
 | some (m,ns),none,h,h'=>exact absurd h.1 (h' m ns h.2.2.1)
structure znX(mg:Str->Option Value):Prop where
 len:mg "len"=none
 max:mg "max"=none
inductive zeq(vs:List V)(H:Hp)(Q:VK)(E:XK):Prop|mk(t la lb t' la' lb' l:Addr)(us:List Addr)(D D':FD)(bars bars' zs:List Str):vs=[.ref t,.ref t',.ref l]->FA H t la lb D bars->FA H t' la' lb' D' bars'->z6 zs D bars->z6 zs D' bars'->zs.length<=26->(∀z∈zs,zU z=true)->H l=some (.lst (us.map V.ref))->us.length<=300->ShL H us->(∀H',zq H H'->Q (.bl true) H')->zeq vs H Q E
theorem znG:([Str.ofString "_law_other_name",Str.ofString "_law_name"]:List Str).Nodup:=by decide +kernel
theorem znH:([Str.ofString "_law_name",Str.ofString "_law_many",Str.ofString "_law_names"]:List Str).Nodup:=by decide +kernel
section
variable {K:Frag}{mg:Str->Option Value}{f CF:Addr}{c:C5}
theorem xK:zA ["_law_one","_law_other","_law_shapes_here","_law_forms","_law_found","_law_least","_law_many","_law_names","_law_some","_law_fewer","_law_left"] ["_law_one","_law_other","_law_shapes_here"] (zh zdh):=fsc
theorem zhB(F:Fun K "_law_right" "_law_right" zdh f fd)(U:znX mg)(cM:⇑6 "_law_form" g2 e2 ["_law_row_here","_law_bars_here"] (jT c CF))(cS:⇑6 "stands_for" g3 e3 ["one","other"] (qg c CF))(cP:⇑5 "parting" g4 e4 ["one","other"] (jl c CF))(cI:⇑7 "_law_is_parting" g5 e5 ["_law_found","_law_one","_law_other"] (zki c CF))(cPa:⇑2 "_law_parts" g6 e6 ["_law_one","_law_other","_law_many","_law_names"] za9):↥8 f fd ["_law_one","_law_other","_law_shapes_here"] zeq:=by
 specialize xK;obtain⟨t,la,lb,t',la',lb',l,us,D,D',bars,bars',zs,rfl,fa,fa',fd,fd',l4,hz,hl,lus,hsh,q⟩:=h;have hr2:yk 2 _:=hr.mono ⋯
 have hr5:yk 5 _:=hr.mono ⋯
 have hr6:yk 6 _:=hr.mono ⋯
 have all:∀z∈zs++yC,zU z=true:=fun z h=>(List.mem_append.mp h).elim (hz z) (wJ z);obtain⟨_,l60⟩:=zaa fd l4;obtain⟨_,l60'⟩:=zaa fd' l4;have V1:=fd.valid all l60;have V1':=fd'.valid all l60';have pl24:D.P.length<=24:=by have:=fd.ln;omega
 have pl24':D'.P.length<=24:=by have:=fd'.ln;omega
 refine xK[3]'(zT (ac (cF cM hr6 (ac (zC zG (pv 0) ze (fun _ _=>rfl)) (ac (zC zG (pv 0) ze (fun _ _=>rfl)) zc))) (ac (cF cM hr6 (ac (zC zG (pv 1) ze (fun _ _=>rfl)) (ac (zC zG (pv 1) ze (fun _ _=>rfl)) zc))) zc)));exists _,rfl,t,_,0,.ref la,rfl,rfl,zy fa.ht,rfl,_,rfl,t,_,1,.ref lb,rfl,rfl,zy fa.ht,rfl,la,lb,D.rows,bars,rfl,fa.hr,fa.hb,V1,fun fo H2 s2 hfo=>?_;have fa2':=fa'.same s2;exists _,rfl,t',_,0,.ref la',rfl,rfl,zy fa2'.ht,rfl,_,rfl,t',_,1,.ref lb',rfl,rfl,zy fa2'.ht,rfl,la',lb',D'.rows,bars',rfl,fa2'.hr,fa2'.hb,V1',fun fo' H3 s3 hfo'=>?_;exists yG,fun lf hlf=>?_;have s4:=zd hlf (.lst [.ref fo,.ref fo']);have g4:upd H3 lf (.lst [.ref fo,.ref fo']) lf=some (.lst [.ref fo,.ref fo']):=za;have hfo:=hfo.same (s3.trans s4);have hfo':=hfo'.same s4;have s04:=s2.trans (s3.trans s4);generalize upd H3 lf (.lst [.ref fo,.ref fo'])=H4 at s4 g4 hfo hfo' s04 |-;clear s2 s3 s4 fa2' hlf;dsimp only[zJ];refine xK[4]'(cF cP hr5 (ac (zC ye (pv 3) ze (fun _ _=>rfl)) (ac (zC ye (pv 3) ze (fun _ _=>rfl)) zc)));exists _,rfl,lf,_,0,.ref fo,rfl,rfl,zf g4,rfl,_,rfl,lf,_,1,.ref fo',rfl,rfl,zf g4,rfl,fo,fo',D,D',bars,bars',zs,rfl,hfo,hfo',fd,fd',l4,hz,fun po2 vf H6 s6 pok2 pvf=>?_;dsimp only[zJ];refine zp (zS (zm qK (cF cS hr6 (ac (zC ye (pv 3) ze (fun _ _=>rfl)) (ac (zC ye (pv 3) ze (fun _ _=>rfl)) zc))) (zdz (vz (pv 4))) (zF _)) (zg (zB x6)) zD) ?_;exists _,rfl,lf,_,0,.ref fo,rfl,rfl,zf (s6 _ _ g4),rfl,_,rfl,lf,_,1,.ref fo',rfl,rfl,zf (s6 _ _ g4),rfl,fo,fo',D,D',bars,bars',zs,rfl,hfo.same s6,hfo'.same s6,fd,fd',l4,hz,fun po H7 s7 pok=>?_;have s07:=s04.trans (s6.trans s7);have en:=zcv pok pok2;have hv:decide (vf=V.non)=po2.isNone:=by
  match po2,pvf with
  | none,e=>rw[show vf=.non from e];rfl
  | some (m,ns),⟨t,l,e,_⟩=>rw[e];rfl
 exists _,rfl,rfl,_,rfl,?_;refine yZ (by rw[hv,en];cases po2 <;> rfl) ?_
 refine xK[5]'ze;refine zp (zS (wb (jX (pv 4))) y4 zD) ?_;refine yo (fun σ' H'=>∃L:Nat,σ'=[~~~t,~~~t',~~~l,~~~lf,some vf,some (.int (L:Nat)),none,none,none,none,none]/\zq H H'/\∀m ns,ns.Nodup->uw D bars D' bars' m ns->L<=m+ns.length) ?_ (fun key=>?_);rotate_left
 ·cases po2 with
  | none=>
   have pvf:vf=.non:=pvf;subst pvf;exists _,rfl,_,rfl,?_;refine yZ (by rfl) ?_
   exact key _ _ ⟨1000,rfl,s07,fun m ns nd hp=>absurd hp (pok2 m ns nd)⟩
  | some e=>
   obtain⟨m,ns⟩:=e;obtain⟨tp,ll,rfl,nl,htp,hll,nn,lns⟩:=pvf;obtain⟨hparts,hm,nd,so,hmin⟩:=pok2;exists _,rfl,_,rfl,?_;refine xA (by rfl) ?_
   refine zp (zS (xx (yz (cF cI hr (ac (pv 4) (ac (pv 0) (ac (pv 1) zc)))))) (zg (zB x6)) zD) ?_;exists _,rfl,_,rfl,_,rfl,tp,ll,t,la,lb,t',la',lb',m,ns,D,D',bars,bars',zs,rfl,s7 _ _ htp,s7 _ _ hll,nn,lns,nd,so,∅,fa.same s07,fa'.same s07,fd,fd',l4,hz,hparts,fun H8 s8=>?_
   exists _,rfl,?_;refine yD ?_;have htp:=s8 _ _ (s7 _ _ htp);have hll:=s8 _ _ (s7 _ _ hll);exists _,zg (zx (i:=5) xK.nd rfl (Or.inl rfl) (zk yP (zC zG (pv 4) ze (fun _ _=>rfl)) (cB zE U.len PySem.boot_len (ac (zC zG (pv 4) ze (fun _ _=>rfl)) zc)))),?_;exists _,rfl,tp,_,0,.int (m:Nat),rfl,rfl,zy htp,rfl,_,rfl,tp,_,1,.ref ll,rfl,rfl,zy htp,rfl,ll,_,rfl,.inl (zf hll),_,_,rfl,rfl,?_;rw[aA];exact key _ _ ⟨m+ns.length,rfl,s07.trans s8,hmin⟩
 clear hv pvf pok2 pok en s07 s7 s6 s04 g4 hfo hfo';rintro σ H1 ⟨L,rfl,s01,hL⟩;have hl1:=s01 _ _ hl;refine zp (yU PassesOwn.never rfl (zM (pv 2)) (y6 rfl (zN (zo (i:=6) xK.nd rfl (Or.inr rfl)) (zN (zo (i:=7) xK.nd rfl (Or.inr rfl)) yH))) y4) ?_;exists _,rfl,l,rfl,⟨_,zf hl1⟩,xf (K:=K) (a:=l) (xs:=us.map V.ref) (fun i σ H'=>∃v6 v7 v8 v9 v10,σ=[~~~t,~~~t',~~~l,~~~lf,some vf,some (.int (L:Nat)),v6,v7,v8,v9,v10]/\zq H H') ⟨_,_,_,_,_,rfl,s01⟩ (fun i σ H' _ ⟨_,_,_,_,_,_,e⟩=>zf (e _ _ hl)) ?_ ?_;rotate_left
 ·rintro σ H2 ⟨v6,v7,v8,v9,v10,rfl,s2⟩
  exact⟨_,zg (zB x6),q _ s2⟩
 clear s01 hl1;rintro i x σ H1 hx ⟨v6,v7,v8,v9,v10,rfl,s1⟩;obtain⟨u,hu,rfl⟩:∃u,u∈us/\x=.ref u:=by
  rw[getElem?_map] at hx;cases e:us[i]? with
  | none=>rw[e] at hx;cases hx
  | some u=>rw[e] at hx;exact⟨u,aH e,(Option.some.inj hx).symm⟩
 obtain⟨ln,m,ns,sa⟩:=hsh u hu;have sa1:=sa.same s1;exists u,_,rfl,zy sa1.ht,rfl,_,_,rfl,_,_,rfl,rfl,?_;dsimp only[zJ];refine xK[8]'(zT (ac (z7 (ac (pv 6) (ac (pv 7) zc))) (ac (z7 (ac (cB (jz rfl) U.max boot_max (ac ze (ac (zk zdB (pv 6) ze) zc))) (ac (pv 7) zc))) zc)));exists _,rfl,_,rfl,yG,fun t1 ht1=>?_;have a2:SA (upd H1 t1 (.tup [.int (m:Nat),.ref ln])) t1 ln m ns:=⟨za,zd ht1 _ _ _ sa1.hl,sa1.lm,sa1.ln⟩;have s2:=s1.trans (zd ht1 (.tup [.int (m:Nat),.ref ln]));generalize upd H1 t1 (.tup [.int (m:Nat),.ref ln])=H2 at a2 s2 |-;exists _,rfl,_,_,rfl,rfl,_,_,rfl,_,rfl,yG,fun t2 ht2=>?_;rw[show(if ((m:Nat):Int) - 1>0 then ((m:Nat):Int) - 1 else 0)=((m - 1:Nat):Int) by split <;> omega] at *
 have s3':=zd ht2 (.tup [.int ((m - 1:Nat):Int),.ref ln]);have a3:SA (upd H2 t2 (.tup [.int ((m - 1:Nat):Int),.ref ln])) t2 ln (m - 1) ns:=⟨za,s3' _ _ a2.hl,by have:=a2.lm;omega,a2.ln⟩
 have a2:=a2.same s3';have s3:=s2.trans s3';generalize upd H2 t2 (.tup [.int ((m - 1:Nat):Int),.ref ln])=H3 at a2 a3 s3 |-;exists yG,fun ls hls=>?_;have s4':=zd hls (.lst [.ref t1,.ref t2]);have g4:upd H3 ls (.lst [.ref t1,.ref t2]) ls=some (.lst [.ref t1,.ref t2]):=za;have a2:=a2.same s4';have a3:=a3.same s4';have s4:=s3.trans s4';generalize upd H3 ls (.lst [.ref t1,.ref t2])=H4 at g4 a2 a3 s4 |-;clear s3' s4' s3 s2 ht1 ht2 hls;dsimp only[zJ];refine xK[8]'(zk yA (pv 8) (zlh "_law_name" ["_law_names","_law_many"] ["_law_name","_law_many","_law_names"] [none,some 6,some 7] rfl ⟨rfl,rfl,rfl,rfl,rfl,fun _ _=>rfl,fun _=>rfl⟩ (zM (yj yX (pv 7) yR (yp ze))) (zK 0) rfl rfl rfl
   (fun pins fp s H C=>⟨zo (i:=0) znH rfl (Or.inr rfl) (.inl rfl),yV,z7 (ac (pv 1) (ac (yY ["_law_name"] ["_law_other_name","_law_name"] [none,some 0] rfl ⟨rfl,rfl,rfl,rfl⟩ (zhh (K:=K) rfl (pv 2)) (zK 0) rfl rfl rfl
    (fun pins fp s H C=>⟨zo (i:=0) znG rfl (Or.inl rfl) (.inr rfl),yg (zm qK (pv 0) (pv 1) (zF _)),pv 0⟩)) zc))⟩)))
 exists _,rfl,_,rfl,_,rfl,ln,_,rfl,zf a2.hl,fun lc hlc=>?_;rw[show xJ (ns.map V.str) none (some 3)=(ns.take 3).map V.str from (vi (n:=3)).trans (map_take ..).symm]
 injections lc hlc H5 s5 g5
 exists lc,rfl,⟨_,zf g5⟩,fun D1 hD1=>?_;have lns:ns.length<=60:=sa.ln;have lt3:((ns.take 3).map V.str).length<=3:=by rw[aA,length_take];omega
 refine wG (K:=K) (xs:=(ns.take 3).map V.str) (fun i ys H'=>∃vs:List Addr,ys=vs.map V.ref/\vs.length<=i/\zq H5 H'/\H' D1=some (.lst ys)/\∀v∈vs,∃(lw:Addr) (mw:Nat) (nw:List Str),SA H' v lw mw nw/\lw≠D1) ⟨[],rfl,aF _,zd hD1 _,za,fun _ h=>nomatch h⟩ (fun i ys H' ⟨_,_,_,sH,_⟩=>zf (sH _ _ g5)) ?_ ?_
 ·rintro i x ys H' hi hx ⟨vs,rfl,lvs,sH,hDy,hvs⟩
  obtain⟨z,hz',rfl⟩:=strs_at hx;have hln:H' ln=some (.lst (ns.map V.str)):=sH _ _ (s5 _ _ a2.hl);exists fun _=>?_,fun e=>Bool.noConfusion e;exists _,rfl,_,rfl,ln,rfl,⟨_,zf hln⟩,fun Do hDo=>?_;refine vA (K:=K) (xs:=ns.map V.str) ns (fun y=>!decide (y=z)) V.str hDo (zf hln) (by rw[aA]) (by rw[aA];omega) (fun i x y H' N S hx' hy sH n1 s1=>?_) (fun HK sK eK=>?_)
  ·obtain⟨y',hy',rfl⟩:=strs_at hx'
   rw[hy] at hy';cases hy';exists _,rfl,_,rfl,rfl,_,rfl,?_;have e:(!decide (V.str y=V.str z))=!decide (y=z):=by
    by_cases c:y=z
    ·rw[aC c,aC (by rw[c])]
    ·rw[aD c,aD (fun k=>c (V.str.inj k))]
   rw[e];exact⟨fun e=>⟨_,rfl,n1 _ (zq.refl _) e⟩,fun e=>s1 _ (zq.refl _) e⟩
  have eK:HK Do=some (.lst ((ns.filter fun y=>!decide (y=z)).map V.str)):=eK;have lq:(ns.filter fun y=>!decide (y=z)).length<=60:=Nat.le_trans (length_filter_le ..) lns;generalize ns.filter (fun y=>!decide (y=z))=nw at eK lq;exists yG,fun tw htw=>?_;have s6:=zd htw (.tup [.int (m:Nat),.ref Do]);have g6:upd HK tw (.tup [.int (m:Nat),.ref Do]) tw=some (.tup [.int (m:Nat),.ref Do]):=za;have g7:=s6 _ _ eK;have sL:=sK.trans s6;generalize upd HK tw (.tup [.int (m:Nat),.ref Do])=HL at s6 g6 g7 sL |-;have nDo:Do≠D1:=fun e=>by rw[e,hDy] at hDo;cases hDo
  have ntw:tw≠D1:=fun e=>by rw[e,sK _ _ hDy] at htw;cases htw
  have put:∀{v lw:Addr}{mw:Nat}{nw:List Str},SA HL v lw mw nw->lw≠D1->SA (upd HL D1 (.lst (vs.map V.ref++[.ref tw]))) v lw mw nw:=fun {v lw mw nw} a hl=>⟨by rw[zi (fun e=>by have:=a.ht;rw[e,sL _ _ hDy] at this;cases this)];exact a.ht,by rw[zi hl];exact a.hl,a.lm,a.ln⟩
  refine lcN.mk hi (z9 ∅) (sL _ _ hDy) (by rw[aA];exact lvs) ⟨vs++[tw],by rw[aE];rfl,by rw[aG];exact succ_le_succ lvs,xm (sH.trans sL) hD1 _,za,fun v hv=>?_⟩
  rcases List.mem_append.mp hv with hv|hv
  ·obtain⟨lw,mw,nw,a,b⟩:=hvs v hv
   exact⟨lw,mw,nw,put (a.same sL) b,b⟩
  ·rw[List.mem_singleton.mp hv]
   exact⟨Do,m,nw,put ⟨g6,g7,sa.lm,lq⟩ nDo,nDo⟩
 rintro ys H6 ⟨vs,rfl,lvs,s6,hD6,hvs⟩;have s46:=s5.trans s6;have lvs3:vs.length<=3:=by omega
 exists ls,D1,_,_,rfl,rfl,s46 _ _ g4,hD6,z9 (by rw[aA];show 2+vs.length<=1000;omega),fun lw hlw=>?_
 have s7':=zd hlw (.lst ([.ref t1,.ref t2]++vs.map V.ref));have g7:upd H6 lw (.lst ([.ref t1,.ref t2]++vs.map V.ref)) lw=some (.lst (([t1,t2]++vs).map V.ref)):=by rw[za,aE];rfl
 have s7:=s4.trans (s46.trans s7');have sh7:ShL (upd H6 lw (.lst ([.ref t1,.ref t2]++vs.map V.ref))) ([t1,t2]++vs):=fun u hu=>by
  rcases List.mem_append.mp hu with hu|hu
  ·rcases List.mem_cons.mp hu with rfl|hu
   ·exact⟨_,_,_,a2.same (s46.trans s7')⟩
   ·rw[List.mem_singleton.mp hu]
    exact⟨_,_,_,a3.same (s46.trans s7')⟩
  ·obtain⟨lx,mx,nx,a,_⟩:=hvs u hu
   exact⟨_,_,_,a.same s7'⟩
 generalize upd H6 lw (.lst ([.ref t1,.ref t2]++vs.map V.ref))=H7 at s7' g7 s7 sh7 |-;generalize [t1,t2]++vs=ws at g7 sh7;clear s7' s46 s6 s5 hvs hD6 g5 g4 a2 a3 s4 hlc hD1 hlw;dsimp only[zJ];exists _,zg (yU PassesOwn.never rfl (zM (pv 8)) (y6 rfl (zN (zo (i:=9) xK.nd rfl (Or.inl rfl)) (zN (zo (i:=10) xK.nd rfl (Or.inl rfl)) yH))) y4),?_;exists _,rfl,lw,rfl,⟨_,zf g7⟩,xf (K:=K) (a:=lw) (xs:=ws.map V.ref) (fun i σ H'=>∃v9 v10,σ=[~~~t,~~~t',~~~l,~~~lf,some vf,some (.int (L:Nat)),some (.int (m:Nat)),~~~ln,~~~lw,v9,v10]/\zq H7 H') ⟨_,_,rfl,zq.refl _⟩ (fun i σ H' _ ⟨_,_,_,e⟩=>zf (e _ _ g7)) ?_ ?_;rotate_left
 ·rintro σ H8 ⟨v9,v10,rfl,s8⟩
  exact⟨_,_,_,_,_,rfl,s7.trans s8⟩
 rintro j x σ H8 hx ⟨v9,v10,rfl,s8⟩;obtain⟨u2,hu2,rfl⟩:∃u,u∈ws/\x=.ref u:=by
  rw[getElem?_map] at hx;cases e:ws[j]? with
  | none=>rw[e] at hx;cases hx
  | some u=>rw[e] at hx;exact⟨u,aH e,(Option.some.inj hx).symm⟩
 obtain⟨l2,m2,n2,sb⟩:=sh7 u2 hu2;have sb8:=sb.same s8;have s08:=s7.trans s8;exists u2,_,rfl,zy sb8.ht,rfl,_,_,rfl,_,_,rfl,rfl,?_;dsimp only[zJ];exists _,zg (zS (yS (yO (zm vL (zk yP (pv 9) (cB zE U.len PySem.boot_len (ac (pv 10) zc))) (pv 5) (zF _)) (yB (yz (cF cPa hr2 (ac (pv 0) (ac (pv 1) (ac (pv 9) (ac (pv 10) zc))))))))) (zg (zB x6)) zD),?_;exists _,rfl,_,rfl,l2,_,rfl,.inl (zf sb8.hl),_,_,rfl,rfl,_,rfl,?_;rw[aA];exists _,_,rfl,rfl,_,rfl,?_;have fa8:=fa.same s08;have fa8':=fa'.same s08;by_cases lt:m2+n2.length<L
 ·have e:decide (((m2:Nat):Int)+((n2.length:Nat):Int)<((L:Nat):Int))=true:=aC ∅
  rw[e];refine xO ?_;exists _,rfl,_,rfl,_,rfl,_,rfl,t,la,lb,t',la',lb',l2,m2,D,D',bars,bars',zs,n2,rfl,fa8,fa8',fd,fd',sb8.hl,by have:=sb.ln;omega,fun b H9 s9 hb=>?_
  have eb:b=false:=by
   cases b with
   | false=>rfl
   | true=>
    obtain⟨nd,hp⟩:=hb.mp rfl
    have:=hL m2 n2 nd hp
    omega
  subst eb;exists _,rfl,?_;exact⟨_,_,rfl,s8.trans s9⟩
 ·have e:decide (((m2:Nat):Int)+((n2.length:Nat):Int)<((L:Nat):Int))=false:=aD ∅
  rw[e];exact⟨_,_,rfl,s8⟩
def zb4(t:List TR×Bool):Dt:=.tup [.lst (t.1.map xL),.bl t.2]
theorem xM{α : Type}(g : α->Dt):∀l:List α,wO (l.map g)=l.map fun x=>pyD (g x)
 | []=>by simp [wO]
 | x::l=>by rw[map_cons,wO,xM g l,map_cons]
theorem uH{α : Type}[DecidableEq α](g : α->PyData)(h:∀x y,PyData.eqv (g x) (g y)=decide (x=y)):∀l l':List α,PyData.eqvAll (l.map g) (l'.map g)=decide (l=l')
 | [],[]=>by simp [PyData.eqvAll]
 | [],_::_=>by simp [PyData.eqvAll]
 | _::_,[]=>by simp [PyData.eqvAll]
 | x::l,y::l'=>by
  rw[map_cons,map_cons,PyData.eqvAll,h,uH g h l l',Bool.eq_iff_iff];simp [List.cons.injEq]
theorem zcP(a b:List Str):PyData.eqv (.list (wO (a.map Dt.str))) (.list (wO (b.map Dt.str)))=decide (a=b):=by
 rw[PyData.eqv,xM,xM];exact uH _ (fun x y=>by
  show PyData.eqv (pyD (.str x)) (pyD (.str y))=_;rw[pyD,pyD,PyData.eqv];by_cases e:x=y
  ·rw[aC e,e];exact beq_self_eq_true y
  ·rw[aD e];exact beq_eq_false_iff_ne.mpr e) a b
theorem ze3(x y:TR):PyData.eqv (pyD (xL x)) (pyD (xL y))=decide (x=y):=by
 cases x with
 | none=>
  cases y with
  | none=>simp [xL,pyD,PyData.eqv]
  | some y=>obtain⟨a,b,c⟩:=y;simp [xL,pyD,PyData.eqv]
 | some x=>
  obtain⟨a,b,c⟩:=x;cases y with
  | none=>simp [xL,pyD,PyData.eqv]
  | some y=>
   obtain⟨a',b',c'⟩:=y;simp only[xL,pyD,wO,PyData.eqv,PyData.eqvAll];rw[show PyData.eqvAll (wO (a.map Dt.str)) (wO (a'.map Dt.str))=decide (a=a') from (by have:=zcP a a';rwa [PyData.eqv] at this),show PyData.eqvAll (wO (c.map Dt.str)) (wO (c'.map Dt.str))=decide (c=c') from (by have:=zcP c c';rwa [PyData.eqv] at this),Bool.eq_iff_iff]
   simp
theorem zjS(x y:List TR×Bool):PyData.eqv (pyD (zb4 x)) (pyD (zb4 y))=decide (x=y):=by
 obtain⟨a,b⟩:=x;obtain⟨a',b'⟩:=y;simp only[zb4,pyD,wO,PyData.eqv,PyData.eqvAll];rw[xM,xM,uH _ ze3,Bool.eq_iff_iff];simp
def okS(z:Str):Prop:=PyData.strOk z=true
theorem zdH(h:zU z=true):okS z:=by
 obtain⟨_,_,h⟩:=js.mp h;unfold okS PyData.strOk;rw[<- Array.all_toList,all_eq_true];intro c hc
 have:=h c hc
 simp;omega
def okR:TR->Prop
 | none=>True
 | some (a,_,c)=>(∀z∈a,okS z)/\∀z∈c,okS z
theorem zbL{α : Type}(g : α->PyData):∀l:List α,(∀x∈l,(g x).canLay0=true)->PyData.canLayAll0 (l.map g)=true
 | [],_=>by simp [PyData.canLayAll0]
 | x::l,h=>by
  rw[map_cons,PyData.canLayAll0,h x mem_cons_self,zbL g l fun y hy=>h y (mem_cons_of_mem _ hy)];rfl
theorem zcI(a:List Str)(h:∀z∈a,okS z):PyData.canLayAll0 (wO (a.map Dt.str))=true:=by
 rw[xM];exact zbL _ a fun z hz=>by rw[pyD,PyData.canLay0];exact h z hz
theorem zbK(h:okR x):(pyD (xL x)).canLay0=true:=by
 cases x with
 | none=>simp [xL,pyD,PyData.canLay0]
 | some x=>
  obtain⟨a,b,c⟩:=x;simp only[xL,pyD,wO,PyData.canLay0,PyData.canLayAll0,zcI a h.1,zcI c h.2];rfl
theorem zeT(h:∀r∈x.1,okR r):(pyD (zb4 x)).canLay0=true:=by
 simp only[zb4,pyD,wO,PyData.canLay0,PyData.canLayAll0];rw[xM,zbL _ x.1 fun r hr=>zbK (h r hr)];rfl
theorem zbU{α : Type}{n:Nat}(g : α->PyData)(h:∀x,(g x).depth<=n):∀l:List α,PyData.depthAll (l.map g)<=n
 | []=>by simp [PyData.depthAll]
 | x::l=>by
  rw[map_cons,PyData.depthAll];exact Nat.max_le.mpr ⟨h x,zbU g h l⟩
theorem zcR(a:List Str):PyData.depthAll (wO (a.map Dt.str))<=0:=by
 rw[xM];exact zbU _ (fun z=>by rw[pyD,PyData.depth];exact aF _) a
theorem ze4(x:TR):(pyD (xL x)).depth<=2:=by
 cases x with
 | none=>simp [xL,pyD,PyData.depth]
 | some x=>
  obtain⟨a,b,c⟩:=x;have h1:=zcR a;have h2:=zcR c;simp only[xL,pyD,wO,PyData.depth,PyData.depthAll];omega
theorem zjT(x:List TR×Bool):(pyD (zb4 x)).depth<=20:=by
 have h:=zbU (fun r=>pyD (xL r)) ze4 x.1;rw[<- xM] at h;simp only[zb4,pyD,wO,PyData.depth,PyData.depthAll];omega
def wc:List TR->List TR
 | []=>[]
 | [x]=>[x]
 | x::y::l=>if x=y then wc (y::l) else x::y::l
def wA(rows:List Rw)(bars:List Str):List TR×Bool:=
 let rs:=(List.range (plN rows+1)).map (xn rows bars)
 if (zQ 2 0 rows).isSome=true then ((wc rs.reverse).reverse,true) else (rs,false)
theorem zmU:atI (vl++[vy,vx]) (-1)=some vx/\atI (vl++[vy,vx]) (-2)=some vy:=by
 have e1:ixN (vl++[vy,vx]).length (-1)=some (vl.length+1):=by
  unfold ixN;rw[aG,aJ ⋯,aK (by show -((vl.length+2:Nat):Int)<=-1;omega)]
  congr 1
  show(-1+((vl.length+2:Nat):Int)).toNat=_;omega
 have e2:ixN (vl++[vy,vx]).length (-2)=some vl.length:=by
  unfold ixN;rw[aG,aJ ⋯,aK (by show -((vl.length+2:Nat):Int)<=-2;omega)]
  congr 1
  show(-2+((vl.length+2:Nat):Int)).toNat=_;omega
 unfold atI;rw[e1,e2];constructor
 ·show(vl++[vy,vx])[vl.length+1]?=_
  rw[getElem?_append_right ∅]
  simp
 ·show(vl++[vy,vx])[vl.length]?=_
  rw[getElem?_append_right ∅]
  simp
theorem zeM{many:Nat}(hok:∀r∈rows,r.ok)(hb:∀z∈bars,zU z=true):okR (xn rows bars many):=by
 have nmok:∀rs,(∀r∈rs,r∈rows)->∀z∈nms rs,okS z:=fun rs h z hz=>by
  obtain⟨r,hr,rfl⟩:=List.mem_map.mp hz;exact zdH (hok r (h r (List.mem_filter.mp hr).1)).2
 unfold xn;split
 ·exact True.intro
 ·exists fun z hz=>?_,fun z hz=>?_
  ·obtain⟨r,hr,rfl⟩:=List.mem_map.mp ((zP _).mem_iff.mp hz)
   exact zdH (hok r (mem_of_mem_drop (List.mem_filter.mp hr).1)).2
  ·split at hz
   ·rcases List.mem_append.mp ((zP _).mem_iff.mp hz) with h|h
    ·exact zdH (hb z h)
    ·exact nmok _ (fun r hr=>mem_of_mem_take hr) z h
   ·exact nmok _ (fun r hr=>mem_of_mem_drop hr) z ((zP _).mem_iff.mp hz)
theorem zcr:∀{l:List TR}{x:TR},x∈wc l->x∈l
 | [],_,h=>h
 | [_],_,h=>h
 | a::b::l,x,h=>by
  unfold wc at h;split at h
  ·exact mem_cons_of_mem _ (zcr h)
  ·exact h
theorem zeL(hok:∀r∈rows,r.ok)(hb:∀z∈bars,zU z=true):∀r∈(wA rows bars).1,okR r:=by
 intro r hr;unfold wA at hr
 have:r∈(List.range (plN rows+1)).map (xn rows bars):=by
  split at hr
  ·exact List.mem_reverse.mp (zcr (List.mem_reverse.mp hr))
  ·exact hr
 obtain⟨i,_,rfl⟩:=List.mem_map.mp this;exact zeM hok hb
inductive zem(K:Frag)(c:C5)(CF:Addr)(vs:List V)(H:Hp)(Q:VK)(E:XK):Prop|mk(f:Addr)(rows:List Rw)(bars:List Str):vs=[.ref f]->xG c CF H f rows bars->rows.length<=24->bars.length<=30->(∀z∈bars,zU z=true)->(∀(v:V) (H':Hp),zq H H'->zR K (fun a=>H a=none) H' 4 v (zb4 (wA rows bars))->Q v H')->zem K c CF vs H Q E
inductive zeo(c:C5)(CF:Addr)(vs:List V)(H:Hp)(Q:VK)(E:XK):Prop|mk(f g:Addr)(rows rows':List Rw)(bars bars':List Str):vs=[.ref f,.ref g]->xG c CF H f rows bars->rows.length<=24->bars.length<=30->(∀z∈bars,zU z=true)->xG c CF H g rows' bars'->rows'.length<=24->bars'.length<=30->(∀z∈bars',zU z=true)->(∀(H':Hp),zq H H'->Q (.bl (decide (wA rows bars=wA rows' bars'))) H')->zeo c CF vs H Q E
theorem znI:([Str.ofString "many",Str.ofString "form"]:List Str).Nodup:=by decide +kernel
theorem zbi:zA ["form","rows","goes_on"] ["form"] (zh zdd):=fsc
theorem zhw(F:Fun K "table" "table" zdd f fd)(U:zlP mg)(FK:FC K CF)(cR:⇑3 "row_of" g1 e1 ["form","many"] (za8 K c CF))(mP:xv K CF "places" gP)(GP:↥1 gP eP ["self"] (wu c CF))(bP:yc K eP ["self"] [])(mT:xv K CF "tail" gT)(GT:↥1 gT eT ["self"] (vm c CF 2))(bT:yc K eT ["self"] []):↥4 f fd ["form"] (zem K c CF):=by
 specialize zbi;obtain⟨f,rows,bars,rfl,hF,l24,l30,hbn,q⟩:=h;have hr1:yk 1 _:=hr.mono ⋯
 have hU:=hr.units;obtain⟨dx,fs,lr,lb',ld,pps,h1,h2,h3,h4,h5,h6⟩:=id hF.at_;have lpl:plN rows<=24:=Nat.le_trans (length_filter_le _ _) l24;refine zp (wD (i:=1) ["form"] ["many","form"] [none,some 0] zbi.nd rfl (Or.inl rfl) rfl ⟨rfl,rfl,rfl,rfl⟩ (wq rfl U.range (ac (zk yP (yy (pv 0) FK.cl mP GP hr1 bP .nil yt) ze) zc)) (zK 0) rfl rfl rfl
   (fun pins fp s H C=>⟨zo (i:=0) znI rfl (Or.inl rfl) (.inr rfl),yV,cF cR hr (ac (pv 1) (ac (pv 0) zc))⟩)) ?_
 exists _,rfl,f,dx,fs,rfl,h1,h2.no _ (by decide +kernel),f,rows,bars,rfl,hF.at_,_,_,rfl,rfl,((plN rows:Nat):Int)+1,rfl,∅,∅,fun D hD=>?_
 rw[show(((plN rows:Nat):Int)+1).toNat=plN rows+1 by omega]
 refine zhY (K:=K) (m:=2) (fun i=>xL (xn rows bars i)) hD ∅ (fun i H' Qf Qs hi sH qf=>?_) (fun vs H1 s1 hD1 hvs=>?_)
 ·exists fun _=>?_,fun e=>Bool.noConfusion e
  exact⟨_,rfl,_,rfl,f,i,rows,bars,(by rw[Int.zero_add];rfl),hF.same sH,l24,∅,by have:=j0 rows;omega,qf⟩
 rw[show(List.range (plN rows+1)).map (fun i=>xL (xn rows bars i))=((List.range (plN rows+1)).map (xn rows bars)).map xL by rw[map_map];rfl] at hvs
 have etab:wA rows bars=if (zQ 2 0 rows).isSome=true then ((wc ((List.range (plN rows+1)).map (xn rows bars)).reverse).reverse,true) else ((List.range (plN rows+1)).map (xn rows bars),false):=rfl
 have okrs:∀r∈(List.range (plN rows+1)).map (xn rows bars),okR r:=fun r hr=>by
  obtain⟨i,_,rfl⟩:=List.mem_map.mp hr;exact zeM hF.ok hbn
 have lrs:((List.range (plN rows+1)).map (xn rows bars)).length<=25:=by rw[aA,length_range];omega
 generalize wA rows bars=R at q etab;generalize (List.range (plN rows+1)).map (xn rows bars)=rs at hvs etab okrs lrs;dsimp only[zJ];refine zbi[2]'(zdz (jX (yy (pv 0) FK.cl mT GT hr1 bT .nil yt)));exists _,rfl,f,dx,fs,rfl,s1 _ _ h1,h2.no _ (by decide +kernel),f,rows,bars,rfl,(hF.same s1).at_,?_
 have eg:(!decide (wn (zQ 2 0 rows)=.non))=(zQ 2 0 rows).isSome:=by
  cases e:(zQ 2 0 rows).isSome with
  | true=>rw[aD (fun h=>by rw[xh.mp h] at e;cases e)];rfl
  | false=>rw[aC (xh.mpr e)];rfl
 dsimp only[zJ];rw[eg];clear eg;generalize (zQ 2 0 rows).isSome=g at etab |-;refine zp (qA PassesOwn.never (yS (yO (yz (pv 2)) (yO (zm zeK (cB zE U.len PySem.boot_len (ac (pv 1) zc)) ze (zF _)) (yB (zm (zht hU) (zC ye (pv 1) (zkp zgl ze) (fun _ _=>rfl)) (zC ye (pv 1) (zkp zgl ze) (fun _ _=>rfl)) (zF _)))))) (zg (zZ (zlj PySem.F.plainAttrs_list PySem.F.slot_list_pop PySem.F.type_list_pop zly (pv 1))))) ?_;refine yo (fun σ' H'=>∃(vs:List V) (cur:List TR),σ'=[~~~f,~~~D,some (.bl g)]/\zq H H'/\H' D=some (.lst vs)/\Paired (zR K (fun a=>a≠D/\H a=none) H' 2) vs (cur.map xL)/\R=(cur,g)) ?_ (fun key=>?_);rotate_left
 ·exists fun k σ H'=>∃(vs:List V) (cur:List TR),k=cur.length/\σ=[~~~f,~~~D,some (.bl g)]/\zq H H'/\H' D=some (.lst vs)/\Paired (zR K (fun a=>a≠D/\H a=none) H' 2) vs (cur.map xL)/\(∀r∈cur,okR r)/\cur.length<=25/\(g=true->wc cur.reverse=wc rs.reverse)/\(g=false->cur=rs),⟨_,vs,rs,rfl,rfl,s1,hD1,hvs,okrs,lrs,fun _=>rfl,fun _=>rfl⟩,?_
  rintro k σ H2 ⟨vs2,cur,rfl,rfl,s2,hD2,hvs2,ok2,l2,p1,p2⟩;have lv:vs2.length=cur.length:=by rw[hvs2.length,aA]
  exists _,rfl,_,rfl,?_;cases g with
  | false=>
   refine yD ?_;refine yD ?_;exact key _ _ ⟨vs2,cur,rfl,s2,hD2,hvs2,by rw[etab,aJ zft,p2 rfl]⟩
  | true=>
   rw[aK rfl] at etab;refine xO ?_;exists _,rfl,D,_,rfl,.inl (zf hD2),_,_,rfl,rfl,_,rfl,?_;by_cases hl : 1<cur.length
   rotate_left
   ·refine dF (by show ¬(1:Int)<(vs2.length:Nat);omega) ?_
    refine yD ?_
    have:wc cur.reverse=cur.reverse:=by
     cases cur with
     | nil=>rfl
     | cons x l=>cases l with
      | nil=>rfl
      | cons y l=>rw[length_cons,length_cons] at hl;omega
    exact key _ _ ⟨vs2,cur,rfl,s2,hD2,hvs2,by rw[etab,<- p1 rfl,this,reverse_reverse]⟩
   refine dT (by show(1:Int)<(vs2.length:Nat);omega) ?_
   obtain⟨x,y,l,ec⟩:∃x y l,cur.reverse=x::y::l:=by
    have:cur.reverse.length=cur.length:=length_reverse
    cases e:cur.reverse with
    | nil=>rw[e] at this;rw[<- this] at hl;cases hl
    | cons x l=>cases l with
     | nil=>rw[e] at this;rw[<- this] at hl;exact absurd hl (lt_irrefl 1)
     | cons y l=>exact⟨x,y,l,rfl⟩
   have ec':cur=l.reverse++[y,x]:=by
    have:=congrArg List.reverse ec
    rw[reverse_reverse] at this;rw[this];simp
   have hrv:=jr hvs2;rw[<- map_reverse,ec,map_cons,map_cons] at hrv;obtain⟨vx,vy,vl,ev,hx,hy,hl'⟩:∃vx vy vl,vs2.reverse=vx::vy::vl/\zR K (fun a=>a≠D/\H a=none) H2 2 vx (xL x)/\zR K (fun a=>a≠D/\H a=none) H2 2 vy (xL y)/\Paired (zR K (fun a=>a≠D/\H a=none) H2 2) vl (l.map xL):=by
    generalize vs2.reverse=zs at hrv;cases hrv with
    | cons hx t=>cases t with
     | cons hy t=>exact⟨_,_,_,rfl,hx,hy,t⟩
   have ev':vs2=vl.reverse++[vy,vx]:=by
    have:=congrArg List.reverse ev
    rw[reverse_reverse] at this;rw[this];simp
   obtain⟨a1,a2⟩:=zmU (vl:=vl.reverse) (vy:=vy) (vx:=vx);rw[<- ev'] at a1 a2;exists _,rfl,_,rfl,D,_,_,vx,rfl,rfl,zf hD2,a1,_,rfl,_,rfl,D,_,_,vy,rfl,rfl,zf hD2,a2,2,_,_,_,_,hx,hy,zbK (ok2 x (by rw[ec'];simp)),zbK (ok2 y (by rw[ec'];simp)),Nat.le_trans (ze4 x) ⋯,_,rfl,?_
   rw[ze3];by_cases exy:x=y
   ·refine dT exy ?_
    have ep:wc cur.reverse=wc (l.reverse++[y]).reverse:=by
     rw[ec,List.reverse_append,reverse_reverse];show(if x=y then wc (y::l) else x::y::l)=wc (y::l)
     rw[aK exy]
    exists fun σ' H'=>∃vs,σ'=[~~~f,~~~D,some (.bl true)]/\zq H H'/\H' D=some (.lst vs)/\Paired (zR K (fun a=>a≠D/\H a=none) H' 2) vs ((l.reverse++[y]).map xL),fun σ' H' ⟨vs,e1,e2,e3,e4⟩=>⟨_,by rw[ec',aG,aG];exact lt_succ_self _,vs,l.reverse++[y],rfl,e1,e2,e3,e4,fun r hr=>ok2 r (by rw[ec'];rcases List.mem_append.mp hr with h|h <;> simp at h |- <;> simp [h]),(by rw[ec',aG] at l2;rw[aG];simp at l2 |-;omega),fun _=>by rw[<- ep];exact p1 rfl,fun h=>by cases h⟩,?_
    exists _,rfl,.inl ⟨rfl,_,zf hD2⟩,D,_,vx,rfl,rfl,hD2,(by rw[ev'];simp),?_
    exists vl.reverse++[vy],rfl,zfp s2 hD,by rw[za,ev'];simp,?_
    have:=Paired.snoc (jr hl') hy
    rw[<- map_reverse,<- List.map_singleton,<- aE] at this;exact zO (fun _ _ z=>vd hD2 (fun b o=>⟨o,o.1⟩) z) this
   ·refine dF exy ?_
    have:wc cur.reverse=cur.reverse:=by
     rw[ec];show(if x=y then wc (y::l) else x::y::l)=_
     rw[aJ exy]
    exact key _ _ ⟨vs2,cur,rfl,s2,hD2,hvs2,by rw[etab,<- p1 rfl,this,reverse_reverse]⟩
 rintro σ3 H3 ⟨vs3,cur,rfl,s3,hD3,hvs3,eR⟩;exists _,zg (zB (z7 (ac (pv 1) (ac (pv 2) zc)))),?_;exists _,rfl,_,rfl,yG,fun t ht=>?_;have s4:=zd ht (.tup [.ref D,.bl g]);refine q _ _ (s3.trans s4) ?_;rw[eR];exact zR.tup (zy za) (.cons (zR.lst hD (s4 _ _ hD3) (zO (fun _ _ z=>(zeA (fun _ o _=>o.2) z).same s4) hvs3)) (.cons zR.bl .nil))
theorem ziR:zA ["one","other"] ["one","other"] (zh zgS):=fsc
theorem zhy(F:Fun K "same_calls" "same_calls" zgS f fd)(cT:⇑4 "table" g1 e1 ["form"] (zem K c CF)):↥5 f fd ["one","other"] (zeo c CF):=by
 specialize ziR;obtain⟨f,g,rows,rows',bars,bars',rfl,hF,a1,a2,a3,hG,b1,b2,b3,q⟩:=h;have hU:=hr.units;exists _,zg (zB (xB (zht hU) (cF cT hr (ac (pv 0) zc)) (cF cT hr (ac (pv 1) zc)) (zF _))),?_;exists _,rfl,f,rows,bars,rfl,hF,a1,a2,a3,fun v H1 s1 h1=>?_;exists _,rfl,g,rows',bars',rfl,hG.same s1,b1,b2,b3,fun v' H2 s2 h2=>?_;exists 4,_,_,_,_,h1.same s2,h2,zeT (zeL hF.ok a3),zeT (zeL hG.ok b3),zjT _,?_;rw[zjS];exact q _ (s1.trans s2)
def ext(l:List TR)(i:Nat):TR:=(l[min i (l.length - 1)]?).getD none
def zgE(t:List TR×Bool)(i:Nat):TR:=if i<t.1.length then (t.1[i]?).getD none else if t.2=true then ext t.1 i else none
def zm4(l:List TR):Prop:=l≠[]/\∀a x y,l≠a++[x,y]\/x≠y
theorem zbD:∀{l:List TR},l≠[]->wc l≠[]
 | [],h=>absurd rfl h
 | [x],_=>by simp [wc]
 | x::y::l,_=>by
  unfold wc;split
  ·exact zbD (by simp)
  ·simp
theorem jq:∀(l:List TR),∀x y a,wc l=x::y::a->x≠y
 | [],x,y,a,h=>by cases h
 | [z],x,y,a,h=>by cases h
 | u::v::l,x,y,a,h=>by
  unfold wc at h;split at h
  ·exact jq (v::l) x y a h
  next e=>cases h;exact e
theorem zih(h:l≠[])(e:l.getLast h=x):∀i,ext (l++[x]) i=ext l i:=fun i=>by
 have hl : 0<l.length:=List.length_pos_iff.mpr h;have el:l[l.length - 1]?=some x:=by rw[<- e,List.getLast_eq_getElem,aB]
 unfold ext;rw[aG,length_singleton,Nat.add_sub_cancel];by_cases hi:i<l.length
 ·rw[min_eq_left ∅,min_eq_left ∅,getElem?_append_left hi]
 ·rw[min_eq_right ∅,min_eq_right ∅,getElem?_append_right (aF _),Nat.sub_self,el]
  rfl
theorem zcs:∀(l:List TR) (i:Nat),ext (wc l).reverse i=ext l.reverse i
 | [],_=>rfl
 | [_],_=>rfl
 | u::v::l,i=>by
  unfold wc;split
  next e=>
   rw[zcs (v::l) i];rw[reverse_cons (a:=u)];refine(zih (by simp) ?_ i).symm
   rw[e];simp
  ·rfl
theorem zfh(ha:a≠[])(hb:b≠[])(ta:∀x y c,a.reverse=x::y::c->x≠y)(tb:∀x y c,b.reverse=x::y::c->x≠y)(h:∀i,ext a i=ext b i):a=b:=by
 have half:∀{a b:List TR},a≠[]->b≠[]->(∀x y c,b.reverse=x::y::c->x≠y)->(∀i,ext a i=ext b i)->b.length<=a.length:=fun {a b} ha hb tb h=>by
  have la:=List.length_pos_iff.mpr ha;have lb:=List.length_pos_iff.mpr hb;rcases lt_or_ge a.length b.length with hl|hl
  ·exfalso
   have h1:=h (b.length - 1);have h2:=h (b.length - 2);unfold ext at h1 h2;rw[min_eq_right ∅,min_eq_left ∅] at h1
   rw[min_eq_right ∅,min_eq_left ∅] at h2
   rw[h1,aB ∅,aB ∅] at h2
   have hr:b.reverse=b[b.length - 1]::b[b.length - 2]::b.reverse.drop 2:=by
    have l2 : 2<=b.reverse.length:=by rw[length_reverse];omega
    refine ext_getElem? fun i=>?_;rcases i with _|_|i
    ·rw[aB ∅,List.getElem_reverse];simp
    ·rw[aB ∅,List.getElem_reverse];simp
     congr 1
    ·rw[List.getElem?_cons_succ,List.getElem?_cons_succ,getElem?_drop,Nat.add_comm 2 i]
   exact tb _ _ _ hr h2
  ·exact hl
 have l1:=half ha hb tb h;have l2:=half hb ha ta fun i=>(h i).symm;refine ext_getElem? fun i=>?_;by_cases hi:i<a.length
 ·have:=h i
  unfold ext at this;rw[min_eq_left ∅,min_eq_left ∅,aB hi,aB ∅] at this
  rw[aB hi,aB ∅]
  exact congrArg some this
 ·rw[getElem?_eq_none ∅,getElem?_eq_none ∅]
theorem jS(h:z6 zs D bars):∀i,zgE (wA D.rows bars) i=sF D bars i:=fun i=>by
 have hl:((List.range (plN D.rows+1)).map (xn D.rows bars)).length=D.P.length+1:=by rw[aA,length_range,xu h]
 have at_:∀j,j<=D.P.length->(((List.range (plN D.rows+1)).map (xn D.rows bars))[j]?).getD none=xn D.rows bars j:=fun j hj=>by
  rw[getElem?_map,xu h,getElem?_range ∅]
  rfl
 unfold zgE wA sF;rw[xS h];dsimp only;generalize (List.range (plN D.rows+1)).map (xn D.rows bars)=rs at hl at_;cases ht:D.tl with
 | false=>
  rw[aJ zft];dsimp only;rw[hl];by_cases hi:i<=D.P.length
  ·rw[aK ∅,aK hi,at_ i hi]
  ·rw[aJ ∅,aJ hi,aJ zft,aJ zft]
 | true=>
  rw[aK rfl];dsimp only;have e:(if i<(wc rs.reverse).reverse.length then ((wc rs.reverse).reverse[i]?).getD none else if true=true then ext (wc rs.reverse).reverse i else none)=ext (wc rs.reverse).reverse i:=by
   split
   next hi=>
    unfold ext;rw[min_eq_left ∅]
   ·rw[aK rfl]
  rw[e,zcs,reverse_reverse];unfold ext;rw[hl,Nat.add_sub_cancel];by_cases hi:i<=D.P.length
  ·rw[aK hi,min_eq_left hi,at_ i hi]
  ·rw[aJ hi,aK rfl,min_eq_right ∅,at_ _ (aF _)]
theorem ziE(h:z6 zs D bars)(h':z6 zs D' bars'):wA D.rows bars=wA D'.rows bars' ↔ ∀i,sF D bars i=sF D' bars' i:=by
 constructor
 ·intro e i
  rw[<- jS h,<- jS h',e]
 ·intro e
  have big:∀{E:FD}{bs:List Str},z6 zs E bs->∀i,E.P.length<i->((sF E bs i≠none) ↔ E.tl=true):=fun {E bs} hE i hi=>by
   unfold sF;rw[aJ ∅]
   cases E.tl with
   | true=>exact⟨fun _=>rfl,fun _=>by rw[aK rfl];exact zcl hE⟩
   | false=>exact⟨fun h=>by rw[aJ zft] at h;exact absurd rfl h,fun h=>by cases h⟩
  have et:D.tl=D'.tl:=by
   have a:=big h (D.P.length+D'.P.length+1) ∅
   have b:=big h' (D.P.length+D'.P.length+1) ∅
   rw[e] at a;exact Bool.eq_iff_iff.mpr (a.symm.trans b)
  have eq:∀i,zgE (wA D.rows bars) i=zgE (wA D'.rows bars') i:=fun i=>by rw[jS h,jS h',e]
  unfold wA at eq |-;rw[xS h,xS h',<- et] at eq |-;dsimp only at eq |-;have n1:(List.range (plN D.rows+1)).map (xn D.rows bars)≠[]:=by simp
  have n2:(List.range (plN D'.rows+1)).map (xn D'.rows bars')≠[]:=by simp
  have l1:((List.range (plN D.rows+1)).map (xn D.rows bars)).length=D.P.length+1:=by rw[aA,length_range,xu h]
  have l2:((List.range (plN D'.rows+1)).map (xn D'.rows bars')).length=D'.P.length+1:=by rw[aA,length_range,xu h']
  have la:∀j,(((List.range (plN D.rows+1)).map (xn D.rows bars))[j]?)=if j<=D.P.length then some (xn D.rows bars j) else none:=fun j=>by
   split
   ·rw[getElem?_map,xu h,getElem?_range ∅];rfl
   ·exact getElem?_eq_none ∅
  have lb:∀j,(((List.range (plN D'.rows+1)).map (xn D'.rows bars'))[j]?)=if j<=D'.P.length then some (xn D'.rows bars' j) else none:=fun j=>by
   split
   ·rw[getElem?_map,xu h',getElem?_range ∅];rfl
   ·exact getElem?_eq_none ∅
  cases ht:D.tl with
  | true=>
   rw[ht,aK rfl,aK rfl] at eq;rw[aK rfl,aK rfl]
   congr 1
   refine zfh (by simpa using zbD (by simpa using n1)) (by simpa using zbD (by simpa using n2)) (fun x y c e=>?_) (fun x y c e=>?_) fun i=>?_
   ·rw[reverse_reverse] at e;exact jq _ x y c e
   ·rw[reverse_reverse] at e;exact jq _ x y c e
   ·have:=eq i
    have sx:∀l:List TR,(if i<l.length then (l[i]?).getD none else if true=true then ext l i else none)=ext l i:=fun l=>by
     split
     next hi=>unfold ext;rw[min_eq_left ∅]
     ·rw[aK rfl]
    unfold zgE at this
    rwa [sx,sx] at this
  | false=>
   rw[aJ zft,aJ zft]
   congr 1
   have ht':D'.tl=false:=by rw[<- et,ht]
   have lenle:∀{E E':FD}{bs bs':List Str},z6 zs E bs->z6 zs E' bs'->E.tl=false->(∀i,sF E bs i=sF E' bs' i)->E'.P.length<=E.P.length:=fun {E E' bs bs'} hE hE' t e=>by
    rcases lt_or_ge E.P.length E'.P.length with hl|hl
    ·have:=e E'.P.length
     unfold sF at this;rw[aJ ∅,t,aJ zft,aK (aF _)] at this
     exact absurd this.symm (zcl hE')
    ·exact hl
   have e1:=lenle h h' ht e;have e2:=lenle h' h ht' fun i=>(e i).symm;refine ext_getElem? fun j=>?_;rw[la,lb];by_cases hj:j<=D.P.length
   ·rw[aK hj,aK ∅]
    have:=e j
    unfold sF at this;rw[aK hj,aK ∅] at this
    rw[this]
   ·rw[aJ hj,aJ ∅]
theorem j7{zs n:List Str}{b:Bool}{X:List Str}(p:Str->Bool)(names:List Str)(hm:∀z,z∈names ↔ z∈zs/\p z=true):acc (some (n,b,X)) names=true ↔ (∀z∈n,z∈zs/\p z=true)/\∀z,z∈zs->p z=true->(if b=true then z∉X else z∈X):=by
 unfold acc;rw[Bool.and_eq_true,all_eq_true,all_eq_true];constructor
 ·rintro⟨h1,h2⟩
  exists fun z hz=>(hm z).mp (of_decide_eq_true (h1 z hz)),fun z hz hp=>?_
  have:=h2 z ((hm z).mpr ⟨hz,hp⟩)
  split at this
  next e=>rw[aK e];exact of_decide_eq_true this
  next e=>rw[aJ e];exact of_decide_eq_true this
 ·rintro⟨h1,h2⟩
  exists fun z hz=>aC ((hm z).mpr (h1 z hz)),fun z hz=>?_;obtain⟨a,c⟩:=(hm z).mp hz
  have:=h2 z a c
  split at this
  next e=>rw[aK e];exact aC this
  next e=>rw[aJ e];exact aC this
theorem zi3{zs:List Str}{st:Str}(hst:st∉zs){x y:TR}(hx:∀n b X,x=some (n,b,X)->wT zs n b X)(hy:∀n b X,y=some (n,b,X)->wT zs n b X)(h:∀p:Str->Bool,∃names,(∀z,z∈names ↔ z∈zs++[st]/\p z=true)/\acc x names=acc y names):x=y:=by
 have need:∀{u:TR}{n b X},u=some (n,b,X)->wT zs n b X->∀names,(∀z,z∈names ↔ z∈zs++[st]/\decide (z∈n)=true)->acc u names=true:=fun {u n b X} e P names hm=>by
  rw[e,j7 (zs:=zs++[st]) (fun z=>decide (z∈n)) names hm];exists fun z hz=>⟨List.mem_append.mpr (.inl (P.zn z hz)),aC hz⟩,fun z _ hz=>?_
  have:=P.in_ z (of_decide_eq_true hz)
  cases b with
  | true=>rw[aK rfl,this];exact fun e=>by cases e
  | false=>rw[aJ zft,this]
 cases ex:x with
 | none=>
  cases ey:y with
  | none=>rfl
  | some v=>
   obtain⟨n,b,X⟩:=v;obtain⟨names,hm,e⟩:=h fun z=>decide (z∈n);rw[need ey (hy _ _ _ ey) names hm,ex] at e;cases e
 | some u=>
  obtain⟨n,b,X⟩:=u;have P:=hx _ _ _ ex;cases ey:y with
  | none=>
   obtain⟨names,hm,e⟩:=h fun z=>decide (z∈n);rw[need ex P names hm,ey] at e;cases e
  | some v=>
   obtain⟨n',b',X'⟩:=v;have P':=hy _ _ _ ey;have e1:n=n':=by
    refine qj P.sn P'.sn P.dn P'.dn fun z=>⟨fun hz=>?_,fun hz=>?_⟩
    ·obtain⟨names,hm,e⟩:=h fun z=>decide (z∈n')
     rw[need ey P' names hm,ex,j7 _ names hm] at e;exact of_decide_eq_true (e.1 z hz).2
    ·obtain⟨names,hm,e⟩:=h fun z=>decide (z∈n)
     rw[need ex P names hm,ey,eq_comm,j7 _ names hm] at e;exact of_decide_eq_true (e.1 z hz).2
   subst e1;have one:∀(w:Str),w∈zs++[st]->w∉n->((if b=true then w∉X else w∈X) ↔ (if b'=true then w∉X' else w∈X')):=fun w hw hn=>by
    obtain⟨names,hm,e⟩:=h fun z=>decide (z∈n)||decide (z=w)
    have key:∀{b:Bool}{X:List Str},wT zs n b X->(acc (some (n,b,X)) names=true ↔ (if b=true then w∉X else w∈X)):=fun {b X} P=>by
     rw[j7 _ names hm];constructor
     ·rintro⟨_,h2⟩
      exact h2 w hw (by simp)
     ·intro hc
      exists fun z hz=>⟨List.mem_append.mpr (.inl (P.zn z hz)),by simp [hz]⟩,fun z hz hp=>?_
      rcases Bool.or_eq_true_iff.mp hp with h|h
      ·have:=P.in_ z (of_decide_eq_true h)
       cases b with
       | true=>rw[aK rfl,this];exact fun e=>by cases e
       | false=>rw[aJ zft,this]
      ·rw[of_decide_eq_true h];exact hc
    rw[ex,ey] at e;rw[<- key P,<- key P',e]
   have e2:b=b':=by
    have hs:st∉n:=fun h=>hst (P.zn _ h)
    have:=one st (by simp) hs
    have a1:st∉X:=fun h=>hst (P.zX _ h);have a2:st∉X':=fun h=>hst (P'.zX _ h);cases b <;> cases b' <;> simp [a1,a2] at this <;> rfl
   subst e2;have e3:X=X':=by
    refine qj P.sX P'.sX P.dX P'.dX fun z=>?_;by_cases hz:z∈zs
    ·by_cases hn:z∈n
     ·rw[P.in_ z hn,P'.in_ z hn]
     ·have:=one z (List.mem_append.mpr (.inl hz)) hn
      cases b with
      | true=>rw[aK rfl,aK rfl] at this;exact Decidable.not_iff_not.mp this
      | false=>rw[aJ zft,aJ zft] at this;exact this
    ·exact⟨fun h=>absurd (P.zX _ h) hz,fun h=>absurd (P'.zX _ h) hz⟩
   rw[e3]
def zed(D:FD)(bars:List Str)(D':FD)(bars':List Str):Prop:=∀m ns,ns.Nodup->¬uw D bars D' bars' m ns
theorem qF(h:uJ D bars D' bars' o):o.isNone=true ↔ zed D bars D' bars':=by
 match o,h with
 | none,h=>exact⟨fun _=>h,fun _=>rfl⟩
 | some (m,ns),h=>exact⟨fun e=>Bool.noConfusion e,fun n=>absurd h.1 (n m ns h.2.2.1)⟩
theorem ziv(nd:zs.Nodup)(hz:∀z∈zs,zU z=true)(h:z6 zs D bars)(h':z6 zs D' bars'):(zed D bars D' bars'/\zed D' bars' D bars) ↔ wA D.rows bars=wA D'.rows bars':=by
 have hst:("A" : Str)∉zs++yC:=fun c=>by
  rcases List.mem_append.mp c with c|c
  ·have:=hz _ c
   revert this;decide +kernel
  ·cases c
 rw[ziE h h'];constructor
 ·rintro⟨n1,n2⟩ i
  refine zi3 hst (fun n b X e=>ve h e) (fun n b X e=>ve h' e) fun p=>⟨((zs++yC)++[("A" : Str)]).filter p,fun z=>List.mem_filter,?_⟩;have ndl:(((zs++yC)++[("A" : Str)]).filter p).Nodup:=(List.nodup_append.mpr ⟨(show(zs++[]).Nodup by rw[append_nil];exact nd),by simp,fun x hx y hy e=>hst (by rw[<- List.mem_singleton.mp hy,<- e];exact hx)⟩).filter p
  cases e1:acc (sF D bars i) (((zs++yC)++[("A" : Str)]).filter p) with
  | true=>
   cases e2:acc (sF D' bars' i) (((zs++yC)++[("A" : Str)]).filter p) with
   | true=>rfl
   | false=>exact absurd ⟨e1,e2⟩ (n2 i _ ndl)
  | false=>
   cases e2:acc (sF D' bars' i) (((zs++yC)++[("A" : Str)]).filter p) with
   | false=>rfl
   | true=>exact absurd ⟨e2,e1⟩ (n1 i _ ndl)
 ·intro e
  exists fun m ns _ hp=>?_,fun m ns _ hp=>?_
  ·have:=hp.1;rw[<- e m,hp.2] at this;cases this
  ·have:=hp.1;rw[e m,hp.2] at this;cases this
inductive zbb(K:Frag)(vs:List V)(H:Hp)(Q:VK)(E:XK):Prop|mk(a:Addr)(ns:List Int):vs=[.ref a]->SqL K H a (ns.map V.int)->ns.length<=63->(∀H',Q (.bl true) H')->zbb K vs H Q E
theorem jD:zA ["_law_script","_law_pool_here","_law_row_here","_law_one","_law_other","_law_shapes_here","_law_forms","_law_both"] ["_law_script"] (zh zk6):=fsc
theorem zlv(F:Fun K "law" "law" zk6 f fd)(cN:⇑1 "_law_nth" f1 e1 ["_law_script","_law_k"] (qh K))(cPo:⇑3 "_law_pool" f2 e2 ["_law_cell"] zgr)(cR:⇑3 "_law_row_at" f3 e3 ["_law_script","_law_k","_law_pool_here","_law_ends"] (zc9 K))(cB':⇑1 "_law_bars" f4 e4 ["_law_row_here","_law_pool_here","_law_number"] zbc)(cSe:⇑4 "_law_second" f5 e5 ["_law_script","_law_one","_law_pool_here"] (zb9 K))(cSh:⇑4 "_law_shapes" f6 e6 ["_law_script","_law_one","_law_other","_law_pool_here"] (zb8 K))(cRi:⇑8 "_law_right" f7 e7 ["_law_one","_law_other","_law_shapes_here"] zeq)(cM:⇑6 "_law_form" f8 e8 ["_law_row_here","_law_bars_here"] (jT c CF))(cS:⇑6 "stands_for" f9 e9 ["one","other"] (qg c CF))(cSa:⇑5 "same_calls" g1 h1 ["one","other"] (zeo c CF)):↥9 f fd ["_law_script"] (zbb K):=by
 specialize jD;obtain⟨sa,ns,rfl,hS,h63,q⟩:=h;have hr1:yk 1 _:=hr.mono ⋯
 have hr3:yk 3 _:=hr.mono ⋯
 have hr4:yk 4 _:=hr.mono ⋯
 have hr5:yk 5 _:=hr.mono ⋯
 have hr6:yk 6 _:=hr.mono ⋯
 refine jD[1]'(cF cPo hr3 (ac (cF cN hr1 (ac (pv 0) (ac ze zc))) zc));exists _,rfl,sa,ns,1,rfl,hS,h63,fun c0 H1 s1=>⟨c0,rfl,fun pa zs H2 s2 npa hpa pz=>?_⟩;have s02:=s1.trans s2;dsimp only[zJ];refine jD[2]'(cF cR hr3 (ac (pv 0) (ac ze (ac (pv 1) (ac (cF cN hr1 (ac (pv 0) (ac ze zc))) zc)))));exists _,rfl,_,rfl,_,rfl,sa,ns,0,rfl,s02.seq hS,h63,fun en H3 s3=>?_;exists sa,pa,ns,4,zs,en,rfl,(s02.trans s3).seq hS,h63,.inl rfl,s3 _ _ hpa,pz,fun la us rows H4 s4 nla hla hu VRr nz ⟨S,eS,MS,lPG⟩=>?_;have s04:=s02.trans (s3.trans s4);have hpa4:=(s3.trans s4) _ _ hpa;dsimp only[zJ];refine jD[3]'(z7 (ac (pv 2) (ac (cF cB' hr1 (ac (pv 2) (ac (pv 1) (ac (cF cN hr1 (ac (pv 0) (ac ze zc))) zc)))) zc)));exists _,rfl,_,rfl,_,rfl,_,rfl,sa,ns,2,rfl,s04.seq hS,h63,fun c2 H5 s5=>?_;exists la,pa,c2,us,rows,zs,rfl,s5 _ _ hla,zr s5 hu,VRr,s5 _ _ hpa4,pz.nd,pz.le,fun lb bars H6 s6 nlb hlb bn bz bk bl=>?_;exists yG,fun t ht=>?_;have s7:=zd ht (.tup [.ref la,.ref lb]);have s47:=s5.trans (s6.trans s7);obtain⟨D,eD,fD⟩:=zkv (zs:=zs) (bars:=bars) eS MS lPG nz bn (fun z hz=>List.mem_append.mpr (.inl (bz z hz))) bk;have hR:xW (upd H6 t (.tup [.ref la,.ref lb])) la rows:=⟨us,s47 _ _ hla,zr s47 hu⟩;rw[eD] at hR;have fa:FA (upd H6 t (.tup [.ref la,.ref lb])) t la lb D bars:=⟨za,hR,s7 _ _ hlb⟩;have s07:=s04.trans s47;have hpa7:=s47 _ _ hpa4;generalize upd H6 t (.tup [.ref la,.ref lb])=H7 at fa s07 hpa7 |-;clear s47 s7 s6 s5 s4 s3 s02 s04 hla hu hlb ht;dsimp only[zJ];refine jD[4]'(cF cSe hr4 (ac (pv 0) (ac (pv 3) (ac (pv 1) zc))));exists _,rfl,_,rfl,_,rfl,sa,t,la,lb,pa,ns,D,bars,zs,rfl,s07.seq hS,h63,fa,fD,hpa7,pz,fun t' la' lb' D' bars' H8 s8 fa' fD'=>?_;have fa8:=fa.same s8;have s08:=s07.trans s8;dsimp only[zJ];refine jD[5]'(cF cSh hr4 (ac (pv 0) (ac (pv 3) (ac (pv 4) (ac (pv 1) zc)))));exists _,rfl,_,rfl,_,rfl,_,rfl,sa,t,la,lb,t',la',lb',pa,ns,D,D',bars,bars',zs,rfl,s08.seq hS,h63,fa8,fa',fD,fD',s8 _ _ hpa7,pz,fun l ws H9 s9 hl lw hsh=>?_;have fa9:=fa8.same s9;have fa9':=fa'.same s9;dsimp only[zJ];refine zp (zS (yS (vK (xx (yz (cF cRi hr (ac (pv 3) (ac (pv 4) (ac (pv 5) zc)))))) (vo (xx (yz (cF cRi hr (ac (pv 4) (ac (pv 3) (ac (pv 5) zc)))))))))  (zg (zB x6)) zD) ?_;exists _,rfl,_,rfl,_,rfl,t,la,lb,t',la',lb',l,ws,D,D',bars,bars',zs,rfl,fa9,fa9',fD,fD',pz.le,pz.nm,hl,lw,hsh,fun H10 s10=>?_;exists _,rfl,?_;refine yD ?_;have hsh10:ShL H10 ws:=fun u hu=>let ⟨a,b,c,d⟩:=hsh u hu;⟨a,b,c,d.same s10⟩;exists _,rfl,_,rfl,_,rfl,t',la',lb',t,la,lb,l,ws,D',D,bars',bars,zs,rfl,fa9'.same s10,fa9.same s10,fD',fD,pz.le,pz.nm,s10 _ _ hl,lw,hsh10,fun H11 s11=>?_;exists _,rfl,?_;refine yD ?_;have s9b:=s10.trans s11;have fa:=fa9.same s9b;have fa':=fa9'.same s9b;clear fa9 fa9' fa8 s9b s10 s11 hsh hsh10 hl s9 s08 s8 s07 hpa7 hpa4 hpa s1 s2;have all:∀z∈zs++yC,zU z=true:=fun z h=>(List.mem_append.mp h).elim (pz.nm z) (wJ z);obtain⟨_,l60⟩:=zaa fD pz.le;obtain⟨_,l60'⟩:=zaa fD' pz.le;have V1:=fD.valid all l60;have V1':=fD'.valid all l60';refine jD[6]'(zT (ac (cF cM hr6 (ac (zC zG (pv 3) ze (fun _ _=>rfl)) (ac (zC zG (pv 3) ze (fun _ _=>rfl)) zc))) (ac (cF cM hr6 (ac (zC zG (pv 4) ze (fun _ _=>rfl)) (ac (zC zG (pv 4) ze (fun _ _=>rfl)) zc))) zc)));exists _,rfl,t,_,0,.ref la,rfl,rfl,zy fa.ht,rfl,_,rfl,t,_,1,.ref lb,rfl,rfl,zy fa.ht,rfl,la,lb,D.rows,bars,rfl,fa.hr,fa.hb,V1,fun fo H12 s2 hfo=>?_;have fa2':=fa'.same s2;exists _,rfl,t',_,0,.ref la',rfl,rfl,zy fa2'.ht,rfl,_,rfl,t',_,1,.ref lb',rfl,rfl,zy fa2'.ht,rfl,la',lb',D'.rows,bars',rfl,fa2'.hr,fa2'.hb,V1',fun fo' H13 s3 hfo'=>?_;exists yG,fun lf hlf=>?_;have s4:=zd hlf (.lst [.ref fo,.ref fo']);have g4:upd H13 lf (.lst [.ref fo,.ref fo']) lf=some (.lst [.ref fo,.ref fo']):=za;have hfo:=hfo.same (s3.trans s4);have hfo':=hfo'.same s4;generalize upd H13 lf (.lst [.ref fo,.ref fo'])=H14 at s4 g4 hfo hfo' |-;clear s2 s3 s4 fa2' hlf;have bi:=ziv pz.nd pz.nm fD fD';dsimp only[zJ];refine jD[7]'(zbG (cF cS hr6 (ac (zC ye (pv 6) ze (fun _ _=>rfl)) (ac (zC ye (pv 6) ze (fun _ _=>rfl)) zc))) (zbE (cF cS hr6 (ac (zC ye (pv 6) ze (fun _ _=>rfl)) (ac (zC ye (pv 6) ze (fun _ _=>rfl)) zc)))));dsimp only[zJ];refine yo (fun σ' H'=>σ'=[~~~sa,~~~pa,~~~la,~~~t,~~~t',~~~l,~~~lf,some (.bl (decide (wA D.rows bars=wA D'.rows bars')))]/\zq H14 H') ?_ (fun key=>?_);rotate_left
 ·exists _,rfl,lf,_,0,.ref fo,rfl,rfl,zf g4,rfl,_,rfl,lf,_,1,.ref fo',rfl,rfl,zf g4,rfl,fo,fo',D,D',bars,bars',zs,rfl,hfo,hfo',fD,fD',pz.le,pz.nm,fun po H15 s5 pok=>?_
  have k1:=qF pok;have g5:=s5 _ _ g4;exists _,rfl,?_;refine wQ (fun e1=>?_) (fun e1=>?_)
  ·exists _,rfl,lf,_,1,.ref fo',rfl,rfl,zf g5,rfl,_,rfl,lf,_,0,.ref fo,rfl,rfl,zf g5,rfl,fo',fo,D',D,bars',bars,zs,rfl,hfo'.same s5,hfo.same s5,fD',fD,pz.le,pz.nm,fun po2 H16 s6 pok2=>?_
   have k2:=qF pok2;have e:po2.isNone=decide (wA D.rows bars=wA D'.rows bars'):=by
    rw[Bool.eq_iff_iff,decide_eq_true_iff,<- bi,k2];exact⟨fun h=>⟨k1.mp e1,h⟩,fun h=>h.2⟩
   rw[e];exact key _ _ ⟨rfl,s5.trans s6⟩
  ·have e:false=decide (wA D.rows bars=wA D'.rows bars'):=(aD fun h=>e1 (k1.mpr (bi.mpr h).1)).symm
   rw[e];exact key _ _ ⟨rfl,s5⟩
 rintro σ H15 ⟨rfl,s5⟩;have g5:=s5 _ _ g4;have ble:∀{E:FD}{bs:List Str},z6 zs E bs->bs.length<=30:=fun {E bs} h=>by
  have:=yN bs (zs++yC) (List.nodup_append.mp h.nd).2.1 fun z hz=>h.zn z (List.mem_append.mpr (.inr hz))
  rw[aG,show yC.length=0 from rfl] at this
  have:=pz.le
  omega
 have nm:∀{E:FD}{bs:List Str},z6 zs E bs->∀z∈bs,zU z=true:=fun h z hz=>all z (h.zn z (List.mem_append.mpr (.inr hz)));exists _,zg (zB (xB ym (cF cSa hr5 (ac (zC ye (pv 6) ze (fun _ _=>rfl)) (ac (zC ye (pv 6) ze (fun _ _=>rfl)) zc))) (pv 7) (zF _))),?_;exists _,rfl,lf,_,0,.ref fo,rfl,rfl,zf g5,rfl,_,rfl,lf,_,1,.ref fo',rfl,rfl,zf g5,rfl,fo,fo',D.rows,D'.rows,bars,bars',rfl,hfo.same s5,V1.l24,ble fD,nm fD,hfo'.same s5,V1'.l24,ble fD',nm fD',fun H17 s7=>?_;exists _,rfl,rfl,?_;rw[aC rfl];exact q _
end
end K84
namespace L2
open PySem PySem.Spec PyProof.Rows
section
variable {P:Program}{w:World}{K:Frag}{mg:Str->Option Value}{base h:Heap}{x q p p2 p3 p4 p5:Str}{st:Stmt}{f C T:Addr}{fd:FuncData}{sp:Sp}{k n:Nat}
structure TB(P:Program)(w:World)(K:Frag)(mg:Str->Option Value)(base:Heap):Prop where
 mgo:∀{x:Str}{v:Value},nsIn K mainGlobals x=some (some v)->mg x=some v
structure GD(K:Frag)(x:Str)(st:Stmt)(f:Addr)(fd:FuncData):Prop where
 a:nsIn K mainGlobals x=some (~~~f)
 F:Fun K x x st f fd
structure MD(K:Frag)(C:Addr)(x q:Str)(st:Stmt)(f:Addr)(fd:FuncData):Prop where
 m:xv K C x f
 F:Fun K x q st f fd
structure DD(K:Frag)(C:Addr)(x q:Str)(st:Stmt)(f:Addr)(fd:FuncData)(ds:List Value):Prop where
 m:xv K C x f
 F:zau K x q st f fd ds
structure CD(K:Frag)(x:Str)(C:Addr):Prop where
 a:nsIn K mainGlobals x=some (~~~C)
 c:Cls K C
 ms:makesIn K C=true
 kc:keepIn K (.ref C)=true
theorem zn8{oc:Value}{od an:Option Addr}{osl:Array (Option Value)}{kV doc pm cdv ct:Value}(a:nsIn K mainGlobals x=some (~~~f))(l:K.lookup f=some ⟨oc,od,.func (fnOf x x (yq st) (yh st) (zh st) .none kV doc pm an cdv ct),osl⟩)
  (c:codeIn K cdv x=true) (k:keepIn K (.ref f)=true):GD K x st f (fnOf x x (yq st) (yh st) (zh st) .none kV doc pm an cdv ct):=⟨a,zid l c k⟩
theorem zn7{oc:Value}{od an:Option Addr}{osl:Array (Option Value)}{kV doc pm cdv ct:Value}(a:findIn K (.ref C) x=some (~~~f))(i:isFn K (.ref f)=true)(l:K.lookup f=some ⟨oc,od,.func (fnOf x q (yq st) (yh st) (zh st) .none kV doc pm an cdv ct),osl⟩)
  (c:codeIn K cdv q=true) (k:keepIn K (.ref f)=true):MD K C x q st f (fnOf x q (yq st) (yh st) (zh st) .none kV doc pm an cdv ct):=⟨⟨a,i,k⟩,zid l c k⟩
theorem zn9{oc oT:Value}{od an dT:Option Addr}{osl sT:Array (Option Value)}{kV doc pm cdv ct d:Value}(a:findIn K (.ref C) x=some (~~~f))(i:isFn K (.ref f)=true)(l:K.lookup f=some ⟨oc,od,.func (fnOf x q (yq st) (yh st) (zh st) (.ref T) kV doc pm an cdv ct),osl⟩)
  (c:codeIn K cdv q=true) (k:keepIn K (.ref f)=true) (t:K.lookup T=some ⟨oT,dT,.seq #[d] n,sT⟩):DD K C x q st f (fnOf x q (yq st) (yh st) (zh st) (.ref T) kV doc pm an cdv ct) [d]:=⟨⟨a,i,k⟩,zjL (items:=[d]) l c k t rfl⟩
theorem zoa(a:nsIn K mainGlobals x=some (~~~C))(pg:plainGet K C Str.empty=true)(hd:hasDictIn K C=true)(po:plainOver K C=true)(sa:findIn K (.ref C) "__setattr__"=some (some (.builtin "object.__setattr__")))(mk:makesIn K C=true)(kc:keepIn K (.ref C)=true):CD K x C:=⟨a,⟨pg,hd,po,sa⟩,mk,kc⟩
theorem Fun.b1(F:Fun K x q st f fd)(h:∀kV doc pm an cdv ct u,bindArgs (fnOf x q (yq st) (yh st) (zh st) .none kV doc pm an cdv ct) ⟨[u],[]⟩=pure [(p,u)]:=by intros;rfl):yc K fd [p] []:=
 F.binds fun _ _ _ _ _ _ us hl=>match us,hl with|[_],_=>h _ _ _ _ _ _ _
theorem Fun.b2(F:Fun K x q st f fd)(h:∀kV doc pm an cdv ct u u2,bindArgs (fnOf x q (yq st) (yh st) (zh st) .none kV doc pm an cdv ct) ⟨[u,u2],[]⟩=pure [(p,u),(p2,u2)]:=by intros;rfl):yc K fd [p,p2] []:=
 F.binds fun _ _ _ _ _ _ us hl=>match us,hl with|[_,_],_=>h _ _ _ _ _ _ _ _
theorem Fun.b3(F:Fun K x q st f fd)(h:∀kV doc pm an cdv ct u u2 u3,bindArgs (fnOf x q (yq st) (yh st) (zh st) .none kV doc pm an cdv ct) ⟨[u,u2,u3],[]⟩=pure [(p,u),(p2,u2),(p3,u3)]:=by intros;rfl):yc K fd [p,p2,p3] []:=
 F.binds fun _ _ _ _ _ _ us hl=>match us,hl with|[_,_,_],_=>h _ _ _ _ _ _ _ _ _
theorem Fun.b4(F:Fun K x q st f fd)(h:∀kV doc pm an cdv ct u u2 u3 u4,bindArgs (fnOf x q (yq st) (yh st) (zh st) .none kV doc pm an cdv ct) ⟨[u,u2,u3,u4],[]⟩=pure [(p,u),(p2,u2),(p3,u3),(p4,u4)]:=by intros;rfl):yc K fd [p,p2,p3,p4] []:=
 F.binds fun _ _ _ _ _ _ us hl=>match us,hl with|[_,_,_,_],_=>h _ _ _ _ _ _ _ _ _ _
theorem GD.c1(g:GD K x st f fd)(B:TB P w K mg base)(ok:zL P w K mg base CX0 k f fd [p] sp)(h:∀kV doc pm an cdv ct u,bindArgs (fnOf x x (yq st) (yh st) (zh st) .none kV doc pm an cdv ct) ⟨[u],[]⟩=pure [(p,u)]:=by intros;rfl):zI P w K mg base k x f fd [p] sp:=⟨ok,B.mgo g.a,g.F.kp,g.F.b1 h⟩
theorem GD.c2(g:GD K x st f fd)(B:TB P w K mg base)(ok:zL P w K mg base CX0 k f fd [p,p2] sp)(h:∀kV doc pm an cdv ct u u2,bindArgs (fnOf x x (yq st) (yh st) (zh st) .none kV doc pm an cdv ct) ⟨[u,u2],[]⟩=pure [(p,u),(p2,u2)]:=by intros;rfl):zI P w K mg base k x f fd [p,p2] sp:=⟨ok,B.mgo g.a,g.F.kp,g.F.b2 h⟩
theorem GD.c3(g:GD K x st f fd)(B:TB P w K mg base)(ok:zL P w K mg base CX0 k f fd [p,p2,p3] sp)(h:∀kV doc pm an cdv ct u u2 u3,bindArgs (fnOf x x (yq st) (yh st) (zh st) .none kV doc pm an cdv ct) ⟨[u,u2,u3],[]⟩=pure [(p,u),(p2,u2),(p3,u3)]:=by intros;rfl):zI P w K mg base k x f fd [p,p2,p3] sp:=⟨ok,B.mgo g.a,g.F.kp,g.F.b3 h⟩
theorem GD.c4(g:GD K x st f fd)(B:TB P w K mg base)(ok:zL P w K mg base CX0 k f fd [p,p2,p3,p4] sp)(h:∀kV doc pm an cdv ct u u2 u3 u4,bindArgs (fnOf x x (yq st) (yh st) (zh st) .none kV doc pm an cdv ct) ⟨[u,u2,u3,u4],[]⟩=pure [(p,u),(p2,u2),(p3,u3),(p4,u4)]:=by intros;rfl):zI P w K mg base k x f fd [p,p2,p3,p4] sp:=⟨ok,B.mgo g.a,g.F.kp,g.F.b4 h⟩
theorem GD.law(g:GD K x st f fd)(h:∀kV doc pm an cdv ct u,bindArgs (fnOf x x (yq st) (yh st) (zh st) .none kV doc pm an cdv ct) ⟨[u],[]⟩=pure [(p,u)]:=by intros;rfl):∀s v,BindsTo s fd ⟨[v],[]⟩ [(p,v)]:=by
 obtain⟨oc,od,kV,doc,pm,an,cdv,ct,osl,rfl,lk,hcd⟩:=g.F.ex;exact fun s v=>.of_eq (h kV doc pm an cdv ct v)
theorem DD.b0(D:DD K C x q st f fd [d])(h:∀T kV doc pm an cdv ct u u2 u3,∃k:Option (Array Value)->Sem (List (Str×Value)),bindArgs (fnOf x q (yq st) (yh st) (zh st) (.ref T) kV doc pm an cdv ct) ⟨[u,u2,u3],[]⟩=seqItems? (.ref T) >>= k/\k (some [d].toArray)=pure [(p,u),(p2,u2),(p3,u3)]:=by exact fun _ _ _ _ _ _ _ _ _ _=>⟨_,rfl,rfl⟩):yc K fd [p,p2,p3] []:=
 fun _ us KX hl=>match us,hl with|[_,_,_],_=>D.F.bindsTo (fun _ _ _ _ _ _ _=>h _ _ _ _ _ _ _ _ _ _) KX
end
end L2
def PySem.W.Fast.tw4680607753691023611:Unit:=()
def PySem.W.Fast.tw3901200703174092781:Unit:=()
def PySem.W.Fast.tw848474046388680682:Unit:=()
def PySem.W.Fast.tw13249637750790598902:Unit:=()
def PySem.W.Fast.tw15588870681022349500:Unit:=()
def PySem.W.Fast.tw11094130410978518519:Unit:=()
def PySem.W.Fast.tw17354583969032575587:Unit:=()
def PySem.W.Fast.tw13578079412490220790:Unit:=()
def PySem.W.Fast.tw7391913662359757882:Unit:=()
def PySem.W.Fast.tw16941523049012359766:Unit:=()
def PySem.W.Fast.tw17100186936007630075:Unit:=()
def PySem.W.Fast.tw4682853558396216104:Unit:=()
def PySem.W.Fast.tw15469286588333419149:Unit:=()
def PySem.W.Fast.tw7807125931376090470:Unit:=()
def PySem.W.Fast.tw4201884684267162474:Unit:=()
def PySem.W.Fast.tw9516555991439697609:Unit:=()
def PySem.W.Fast.tw14294828618641395455:Unit:=()
def PySem.W.Fast.tw4799503225585688146:Unit:=()
def PySem.W.Fast.tw12695946123444386087:Unit:=()
def PySem.W.Fast.tw1610402019300455817:Unit:=()
def PySem.W.Fast.tw18176066994046900967:Unit:=()
def PySem.W.Fast.tw6313627642812442033:Unit:=()
def PySem.W.Fast.tw7473708848917850317:Unit:=()
def PySem.W.Fast.tw9967117123767440729:Unit:=()
def PySem.W.Fast.tw8359196940093745080:Unit:=()
def PySem.W.Fast.tw7407019361534041887:Unit:=()
def PySem.W.Fast.tw11072010572975766467:Unit:=()
def PySem.W.Fast.tw14213334123925394907:Unit:=()
def PySem.W.Fast.tw17510520122376605453:Unit:=()
def PySem.W.Fast.tw15996972567072935442:Unit:=()
def PySem.W.Fast.tw13584542364871254015:Unit:=()
def PySem.W.Fast.tw15790061005227700388:Unit:=()
def PySem.W.Fast.tw4670035865472194932:Unit:=()
def PySem.W.Fast.tw11567933015910252945:Unit:=()
def PySem.W.Fast.tw5921185102531529249:Unit:=()
def PySem.W.Fast.tw17389597371678351839:Unit:=()
def PySem.W.Fast.tw6606121426926630118:Unit:=()
def PySem.W.Fast.tw17704378270350343095:Unit:=()
def PySem.W.Fast.tw1987035057917693471:Unit:=()
def PySem.W.Fast.tw12583086258473389826:Unit:=()
def PySem.W.Fast.tw4409290308337609561:Unit:=()
def PySem.W.Fast.tw1875980110136019216:Unit:=()
def PySem.W.Fast.tw16941764065601963233:Unit:=()
def PySem.W.Fast.tw14730913397072577231:Unit:=()
def PySem.W.Fast.tw16915592171528830034:Unit:=()
def PySem.W.Fast.tw9419367989375529980:Unit:=()
def PySem.W.Fast.tw10467923095496757588:Unit:=()
def PySem.W.Fast.tw15458069244023766725:Unit:=()
def PySem.W.Fast.tw4175086805553447817:Unit:=()
def PySem.W.Fast.tw2796392341015988122:Unit:=()
def PySem.W.Fast.tw7980370602231441272:Unit:=()
def PySem.W.Fast.tw14109254736991286714:Unit:=()
def PySem.W.Fast.tw6707735101195680718:Unit:=()
def PySem.W.Fast.tw2891569291944452617:Unit:=()
def PySem.W.Fast.tw10975629676988074357:Unit:=()
def PySem.W.Fast.tw17955887297504735902:Unit:=()
def PySem.W.Fast.tw10228209897182579196:Unit:=()
def PySem.W.Fast.tw10064606326389170832:Unit:=()
def PySem.W.Fast.tw16254014344299562179:Unit:=()
def PySem.W.Fast.tw5389973061459337040:Unit:=()
def PySem.W.Fast.tw10703213957211073564:Unit:=()
def PySem.W.Fast.tw7617892133996439610:Unit:=()
def PySem.W.Fast.tw254633443336326609:Unit:=()
def PySem.W.Fast.tw4836780214504298496:Unit:=()
def PySem.W.Fast.tw8744677314356917900:Unit:=()
def PySem.W.Fast.tw10140010632441448223:Unit:=()
def PySem.W.Fast.tw17863391126862041230:Unit:=()
def PySem.W.Fast.tw1673725746322233436:Unit:=()
def PySem.W.Fast.tw11063212195653310551:Unit:=()
def PySem.W.Fast.tw13856938257529489388:Unit:=()
def PySem.W.Fast.tw14861699767481631892:Unit:=()
def PySem.W.Fast.tw7077958991422092494:Unit:=()
def PySem.W.Fast.tw2531411304809424636:Unit:=()
def PySem.W.Fast.tw14939310816241243210:Unit:=()
def PySem.W.Fast.tw10332168354454805563:Unit:=()
def PySem.W.Fast.tw13502487836330688490:Unit:=()
namespace K84
open PySem L2 PyProof.Rows
theorem zjH{w:World}{K:Frag}{Gr:Addr}{es:Array DictEntry}{n:Nat}{t0 t1 t2 t3 t4:Tok}(hl:K.lookup Gr=some ⟨.type "dict",none,.dict es n,#[]⟩)(hk:KeysLit w.params es.toList)(h0:nsIn K Gr "seat"=some (some (.int 0 t0)))(h1:nsIn K Gr "both"=some (some (.int 0 t1)))(h2:nsIn K Gr "tail"=some (some (.int 1 t2)))
  (h3:nsIn K Gr "tag"=some (some (.int 2 t3))) (h4:nsIn K Gr "bag"=some (some (.int 3 t4))):zlU w K Gr zjJ:=by
 exists ⟨es,n,hl,hk⟩,fun x v h=>?_;unfold zjJ at h;by_cases e0:x="seat"
 ·subst e0;rw[lookup_cons_self] at h;cases h;exact⟨_,h0,_,rfl⟩
 rw[lookup_cons,beq_eq_false_iff_ne.mpr e0] at h;by_cases e1:x="both"
 ·subst e1;rw[lookup_cons_self] at h;cases h;exact⟨_,h1,_,rfl⟩
 rw[lookup_cons,beq_eq_false_iff_ne.mpr e1] at h;by_cases e2:x="tail"
 ·subst e2;rw[lookup_cons_self] at h;cases h;exact⟨_,h2,_,rfl⟩
 rw[lookup_cons,beq_eq_false_iff_ne.mpr e2] at h;by_cases e3:x="tag"
 ·subst e3;rw[lookup_cons_self] at h;cases h;exact⟨_,h3,_,rfl⟩
 rw[lookup_cons,beq_eq_false_iff_ne.mpr e3] at h;by_cases e4:x="bag"
 ·subst e4;rw[lookup_cons_self] at h;cases h;exact⟨_,h4,_,rfl⟩
 rw[lookup_cons,beq_eq_false_iff_ne.mpr e4] at h;cases h
theorem znQ{l:PySem.W.OpenLaw}{w:World}{K:Frag}{h:Heap}{mg:Str->Option Value}{fa D C0 C1 C2 C3 C4 FM f1 f2 f3 f4 f5 f6 f7 f8 f9 f10 f11 f12 f13 f14 f15 f16 f17 f18 f19 f20 f21 f22 f23 f24 f25 f26 f27 f28 f29 f30 f31 f32 f33 f34 f35 f36 f37 f38 f39 f40 f41 f42 f43 f44 f45 f46 f47 f48 f49 f50 f51 f52 f53 f54 f55 f56 f57 f58 f59 f60 f61 f62 f63 f64 f65 f66 f67 f68 f69 f70 f71 f72:Addr}{e1 e2 e3 e4 e5 e6 e7 e8 e9 e10 e11 e12 e13 e14 e15 e16 e17 e18 e19 e20 e21 e22 e23 e24 e25 e26 e27 e28 e29 e30 e31 e32 e33 e34 e35 e36 e37 e38 e39 e40 e41 e42 e43 e44 e45 e46 e47 e48 e49 e50 e51 e52 e53 e54 e55 e56 e57 e58 e59 e60 e61 e62 e63 e64 e65 e66 e67 e68 e69 e70 e71 e72:FuncData}{tP tB tO sg Gr:Addr}{tL tN tMP tMB ktP0 ktP1 ktB0 ktB1 ktO0 ktO1 ktO2 ksg0 ksg1 kG0 kG1 kG2 kG3 kG4:Tok}{odtP odtB odtO odsg:Option Addr}{ntP ntB ntO nsg nG:Nat}{sltP sltB sltO slsg:Array (Option Value)}{esG:Array DictEntry}(X:K.In h)(G:h.Ns mainGlobals mg)(hfa:mg "law"= ~~~fa)
  (cD:CD K "Parameter" D)
  (cC0:CD K "Seat" C0)
  (nC0:findIn K (.ref C0) "word"=some none/\findIn K (.ref C0) "name"=some none/\findIn K (.ref C0) "may_lack"=some none)
  (cC1:CD K "Both" C1)
  (nC1:findIn K (.ref C1) "word"=some none/\findIn K (.ref C1) "name"=some none/\findIn K (.ref C1) "may_lack"=some none)
  (cC2:CD K "Tail" C2)
  (nC2:findIn K (.ref C2) "word"=some none/\findIn K (.ref C2) "name"=some none/\findIn K (.ref C2) "may_lack"=some none)
  (cC3:CD K "Tag" C3)
  (nC3:findIn K (.ref C3) "word"=some none/\findIn K (.ref C3) "name"=some none/\findIn K (.ref C3) "may_lack"=some none)
  (cC4:CD K "Bag" C4)
  (nC4:findIn K (.ref C4) "word"=some none/\findIn K (.ref C4) "name"=some none/\findIn K (.ref C4) "may_lack"=some none)
  (cFM:CD K "Form" FM)
  (nFM:findIn K (.ref FM) "row"=some none/\findIn K (.ref FM) "bar_names"=some none/\findIn K (.ref FM) "place_count"=some none/\findIn K (.ref FM) "tail_number"=some none/\findIn K (.ref FM) "bag_number"=some none/\findIn K (.ref FM) "doors"=some none)
  (g1:GD K "is_name" sIs f1 e1)
  (g2:MD K D "__init__" "Parameter.__init__" zdl f2 e2)
  (g3:MD K D "free" "Parameter.free" zg0 f3 e3)
  (g4:MD K D "by_place" "Parameter.by_place" qw f4 e4)
  (g5:MD K D "by_name" "Parameter.by_name" zbB f5 e5)
  (g6:MD K D "takes_one" "Parameter.takes_one" zkZ f6 e6)
  (g7:MD K D "told" "Parameter.told" zmi f7 e7)
  (g8:DD K C0 "__init__" "Seat.__init__" zgR f8 e8 [Value.bool false])
  (g9:DD K C1 "__init__" "Both.__init__" zg5 f9 e9 [Value.bool false])
  (g10:MD K C2 "__init__" "Tail.__init__" zgP f10 e10)
  (g11:DD K C3 "__init__" "Tag.__init__" zk0 f11 e11 [Value.bool false])
  (g12:MD K C4 "__init__" "Bag.__init__" zla f12 e12)
  (g13:DD K FM "__init__" "Form.__init__" zdq f13 e13 [Value.none])
  (g14:MD K FM "keep" "Form.keep" zgZ f14 e14)
  (g15:MD K FM "parameters" "Form.parameters" zdp f15 e15)
  (g16:MD K FM "bars" "Form.bars" zdr f16 e16)
  (g17:MD K FM "places" "Form.places" qv f17 e17)
  (g18:MD K FM "tail" "Form.tail" zdo f18 e18)
  (g19:MD K FM "bag" "Form.bag" zg4 f19 e19)
  (g20:MD K FM "number_of" "Form.number_of" zg3 f20 e20)
  (g21:MD K FM "told" "Form.told" zk9 f21 e21)
  (g22:GD K "parameter_of" zk2 f22 e22)
  (g23:GD K "refuse_too_many" zdi f23 e23)
  (g24:GD K "refuse_bad_order" zbu f24 e24)
  (g25:GD K "refuse_bars_without_name" zdj f25 e25)
  (g26:GD K "refuse_twice" zbt f26 e26)
  (g27:GD K "number_of_word" zgV f27 e27)
  (g28:GD K "table" zdd f28 e28)
  (g29:GD K "same_calls" zgS f29 e29)
  (g30:GD K "row_of" zdf f30 e30)
  (g31:GD K "door_names" zds f31 e31)
  (g32:GD K "stands_for" zbp f32 e32)
  (g33:GD K "parting" qt f33 e33)
  (g34:GD K "things_in" zbn f34 e34)
  (g35:GD K "row_at" zdg f35 e35)
  (g36:GD K "parting_names" zbw f36 e36)
  (g37:GD K "takes" zbv f37 e37)
  (g38:GD K "may_have" zk4 f38 e38)
  (g39:GD K "names_to_try" zkY f39 e39)
  (g40:GD K "strange_name" qr f40 e40)
  (g41:GD K "numbered_name" jn f41 e41)
  (g42:GD K "laid" zgX f42 e42)
  (g43:GD K "misfits" qu f43 e43)
  (g44:GD K "fits" zg2 f44 e44)
  (g45:GD K "shape" zde f45 e45)
  (g46:GD K "first_numbers" zbz f46 e46)
  (g47:GD K "misfits_of" zk5 f47 e47)
  (g48:GD K "overs" zdm f48 e48)
  (g49:GD K "unwelcomes" zkX f49 e49)
  (g50:GD K "lackings" zgY f50 e50)
  (g51:GD K "one_entry" zgU f51 e51)
  (g52:GD K "_law_nth" zk3 f52 e52)
  (g53:GD K "_law_stirred" zgQ f53 e53)
  (g54:GD K "_law_strewn" zbo f54 e54)
  (g55:GD K "_law_digits" zbA f55 e55)
  (g56:GD K "_law_word" zgO f56 e56)
  (g57:GD K "_law_pool" zgT f57 e57)
  (g58:GD K "_law_row" zk1 f58 e58)
  (g59:GD K "_law_bars" zg6 f59 e59)
  (g60:GD K "_law_form" zg1 f60 e60)
  (g61:GD K "_law_row_at" zbs f61 e61)
  (g62:GD K "_law_takes" zbx f62 e62)
  (g63:GD K "_law_turned" zbm f63 e63)
  (g64:GD K "_law_shape" zby f64 e64)
  (g65:GD K "_law_free_shape" zdn f65 e65)
  (g66:GD K "_law_parts" zdk f66 e66)
  (g67:GD K "_law_is_parting" zk8 f67 e67)
  (g68:GD K "_law_right" zdh f68 e68)
  (g69:GD K "_law_second" zbr f69 e69)
  (g70:GD K "_law_load" zgW f70 e70)
  (g71:GD K "_law_shapes" zbq f71 e71)
  (g72:GD K "law" zk6 f72 e72)
  (zisinstance:nsIn K mainGlobals "isinstance"=some none)
  (zstr:nsIn K mainGlobals "str"=some none)
  (zbool:nsIn K mainGlobals "bool"=some none)
  (zlen:nsIn K mainGlobals "len"=some none)
  (zall:nsIn K mainGlobals "all"=some none)
  (zrange:nsIn K mainGlobals "range"=some none)
  (zlist:nsIn K mainGlobals "list"=some none)
  (zenumerate:nsIn K mainGlobals "enumerate"=some none)
  (zset:nsIn K mainGlobals "set"=some none)
  (zany:nsIn K mainGlobals "any"=some none)
  (zsorted:nsIn K mainGlobals "sorted"=some none)
  (zmin:nsIn K mainGlobals "min"=some none)
  (zmax:nsIn K mainGlobals "max"=some none)
  (ztuple:nsIn K mainGlobals "tuple"=some none)
  (zint:nsIn K mainGlobals "int"=some none)
  (zdivmod:nsIn K mainGlobals "divmod"=some none)
  (zreversed:nsIn K mainGlobals "reversed"=some none)
  (gL:nsIn K mainGlobals "LETTERS"=some (some (.str letters tL)))
  (gN:nsIn K mainGlobals "LONGEST"=some (some (.int 8 tN)))
  (gMP:nsIn K mainGlobals "MOST_PARAMETERS"=some (some (.int 24 tMP)))
  (gMB:nsIn K mainGlobals "MOST_BARS"=some (some (.int 60 tMB)))
  (ytP:nsIn K mainGlobals "BY_PLACE"=some (~~~tP))
  (utP:K.lookup tP=some ⟨.type "tuple",odtP,.seq #[.str "seat" ktP0,.str "both" ktP1] ntP,sltP⟩)
  (ytB:nsIn K mainGlobals "BY_NAME"=some (~~~tB))
  (utB:K.lookup tB=some ⟨.type "tuple",odtB,.seq #[.str "both" ktB0,.str "tag" ktB1] ntB,sltB⟩)
  (ytO:nsIn K mainGlobals "OF_ONE_THING"=some (~~~tO))
  (utO:K.lookup tO=some ⟨.type "tuple",odtO,.seq #[.str "seat" ktO0,.str "both" ktO1,.str "tag" ktO2] ntO,sltO⟩)
  (ysg:nsIn K mainGlobals "SINGLE_GROUPS"=some (~~~sg))
  (usg:K.lookup sg=some ⟨.type "tuple",odsg,.seq #[.int 1 ksg0,.int 3 ksg1] nsg,slsg⟩)
  (yGr:nsIn K mainGlobals "GROUPS"=some (~~~Gr))
  (lGr:K.lookup Gr=some ⟨.type "dict",none,.dict esG nG,#[]⟩)
  (kGr:KeysLit w.params esG.toList)
  (eG0:nsIn K Gr "seat"=some (some (.int 0 kG0)))
  (eG1:nsIn K Gr "both"=some (some (.int 0 kG1)))
  (eG2:nsIn K Gr "tail"=some (some (.int 1 kG2)))
  (eG3:nsIn K Gr "tag"=some (some (.int 2 kG3)))
  (eG4:nsIn K Gr "bag"=some (some (.int 3 kG4)))
  (dga:zak K D "__init__" f2)
  (h0:findIn K (.ref C0) "free"=some (~~~f3)/\findIn K (.ref C0) "by_place"=some (~~~f4)/\findIn K (.ref C0) "by_name"=some (~~~f5)/\findIn K (.ref C0) "takes_one"=some (~~~f6)/\findIn K (.ref C0) "told"=some (~~~f7))
  (h1:findIn K (.ref C1) "free"=some (~~~f3)/\findIn K (.ref C1) "by_place"=some (~~~f4)/\findIn K (.ref C1) "by_name"=some (~~~f5)/\findIn K (.ref C1) "takes_one"=some (~~~f6)/\findIn K (.ref C1) "told"=some (~~~f7))
  (h2:findIn K (.ref C2) "free"=some (~~~f3)/\findIn K (.ref C2) "by_place"=some (~~~f4)/\findIn K (.ref C2) "by_name"=some (~~~f5)/\findIn K (.ref C2) "takes_one"=some (~~~f6)/\findIn K (.ref C2) "told"=some (~~~f7))
  (h3:findIn K (.ref C3) "free"=some (~~~f3)/\findIn K (.ref C3) "by_place"=some (~~~f4)/\findIn K (.ref C3) "by_name"=some (~~~f5)/\findIn K (.ref C3) "takes_one"=some (~~~f6)/\findIn K (.ref C3) "told"=some (~~~f7))
  (h4:findIn K (.ref C4) "free"=some (~~~f3)/\findIn K (.ref C4) "by_place"=some (~~~f4)/\findIn K (.ref C4) "by_name"=some (~~~f5)/\findIn K (.ref C4) "takes_one"=some (~~~f6)/\findIn K (.ref C4) "told"=some (~~~f7))
  : ∃fd:FuncData,(∀(s:Shared) (v:Value),BindsTo s fd ⟨[v],[]⟩ [("_law_script",v)])/\∀base:Heap,K.In base->base.Ns mainGlobals mg->zL l.prog w K mg base CX0 9 fa fd ["_law_script"] (zbb K):=by
 have e:=hfa.symm.trans (mg_of X G g72.a);cases e;have no:∀{x:Str},nsIn K mainGlobals x=some none->mg x=none:=fun z=>PySem.W.mg_none_of X G z;have T:zlQ K mg:=⟨no zisinstance,no zstr,no zbool,no zlen,no zall,no zrange,⟨tL,mg_of X G gL⟩,⟨tN,mg_of X G gN⟩,jM K,zdS K,zcN K,zcL K,zbN K,zcM K,zdR K,zbP K⟩;have Wd:Wds K mg tP tB tO:=⟨mg_of X G ytP,mg_of X G ytB,mg_of X G ytO,fun H=>.inr ⟨_,_,_,utP,rfl,rfl,yG,.cons ⟨_,rfl⟩ (.cons ⟨_,rfl⟩ (.nil))⟩,fun H=>.inr ⟨_,_,_,utB,rfl,rfl,yG,.cons ⟨_,rfl⟩ (.cons ⟨_,rfl⟩ (.nil))⟩,fun H=>.inr ⟨_,_,_,utO,rfl,rfl,uP,.cons ⟨_,rfl⟩ (.cons ⟨_,rfl⟩ (.cons ⟨_,rfl⟩ (.nil)))⟩⟩;have TF:zc0 w K mg Gr sg:=⟨no zlen,no zenumerate,no zlist,no zset,⟨tMP,mg_of X G gMP⟩,⟨tMB,mg_of X G gMB⟩,mg_of X G yGr,zjH lGr kGr eG0 eG1 eG2 eG3 eG4,mg_of X G ysg,fun H=>.inr ⟨_,_,_,usg,rfl,rfl,yG,.cons ⟨_,rfl⟩ (.cons ⟨_,rfl⟩ .nil)⟩⟩;have pc0:PC K ⟨f3,f4,f5,f6,f7⟩ C0:=⟨cC0.c,nC0.1,nC0.2.1,nC0.2.2,⟨h0.1,g3.m.fn,g3.F.kp⟩,⟨h0.2.1,g4.m.fn,g4.F.kp⟩,⟨h0.2.2.1,g5.m.fn,g5.F.kp⟩,⟨h0.2.2.2.1,g6.m.fn,g6.F.kp⟩,⟨h0.2.2.2.2,g7.m.fn,g7.F.kp⟩⟩;have pc1:PC K ⟨f3,f4,f5,f6,f7⟩ C1:=⟨cC1.c,nC1.1,nC1.2.1,nC1.2.2,⟨h1.1,g3.m.fn,g3.F.kp⟩,⟨h1.2.1,g4.m.fn,g4.F.kp⟩,⟨h1.2.2.1,g5.m.fn,g5.F.kp⟩,⟨h1.2.2.2.1,g6.m.fn,g6.F.kp⟩,⟨h1.2.2.2.2,g7.m.fn,g7.F.kp⟩⟩;have pc2:PC K ⟨f3,f4,f5,f6,f7⟩ C2:=⟨cC2.c,nC2.1,nC2.2.1,nC2.2.2,⟨h2.1,g3.m.fn,g3.F.kp⟩,⟨h2.2.1,g4.m.fn,g4.F.kp⟩,⟨h2.2.2.1,g5.m.fn,g5.F.kp⟩,⟨h2.2.2.2.1,g6.m.fn,g6.F.kp⟩,⟨h2.2.2.2.2,g7.m.fn,g7.F.kp⟩⟩;have pc3:PC K ⟨f3,f4,f5,f6,f7⟩ C3:=⟨cC3.c,nC3.1,nC3.2.1,nC3.2.2,⟨h3.1,g3.m.fn,g3.F.kp⟩,⟨h3.2.1,g4.m.fn,g4.F.kp⟩,⟨h3.2.2.1,g5.m.fn,g5.F.kp⟩,⟨h3.2.2.2.1,g6.m.fn,g6.F.kp⟩,⟨h3.2.2.2.2,g7.m.fn,g7.F.kp⟩⟩;have pc4:PC K ⟨f3,f4,f5,f6,f7⟩ C4:=⟨cC4.c,nC4.1,nC4.2.1,nC4.2.2,⟨h4.1,g3.m.fn,g3.F.kp⟩,⟨h4.2.1,g4.m.fn,g4.F.kp⟩,⟨h4.2.2.1,g5.m.fn,g5.F.kp⟩,⟨h4.2.2.2.1,g6.m.fn,g6.F.kp⟩,⟨h4.2.2.2.2,g7.m.fn,g7.F.kp⟩⟩;have PP:Pcs K ⟨f3,f4,f5,f6,f7⟩ ⟨C0,C1,C2,C3,C4⟩:=fun k hk=>by
  rcases lt5 hk with rfl|rfl|rfl|rfl|rfl
  ·exact pc0
  ·exact pc1
  ·exact pc2
  ·exact pc3
  ·exact pc4
 have FK:FC K FM:=⟨cFM.c,nFM.1,nFM.2.1,nFM.2.2.1,nFM.2.2.2.1,nFM.2.2.2.2.1,nFM.2.2.2.2.2⟩;have UL:znW mg:=⟨no zlen,no zrange,no zset,no zenumerate,no zlist,no zisinstance,no zbool,no ztuple⟩;have UR:zlP mg:=⟨no zany,no zsorted,no zrange,no zlen⟩;have US:zmV mg:=⟨no zlen,no zset,no zsorted⟩;have UI:zmW mg:=⟨no zisinstance,no ztuple,no zlist,no zint,no zbool,no zlen,no zall,no zsorted,no zset,no zrange⟩;exists _,g72.law,fun base KB GB=>?_;have B:TB l.prog w K mg base:=⟨fun e=>mg_of X G e⟩;have cI:=g1.c1 B (zms g1.F T);have GP:zL l.prog w K mg base CX0 2 f2 _ ["self","word","name","may_lack"] (spP K ⟨f3,f4,f5,f6,f7⟩):=zhD g2.F cI;have mD:=mg_of X G cD.a;have UC:zky l.prog w K mg base ⟨C0,C1,C2,C3,C4⟩ f8 f9 f10 f11 f12 _ _ _ _ _:=⟨⟨⟨cC0.ms,g8.m.at_,g8.m.fn,cC0.kc⟩,zjl g8.F pc0 dga mD GP g2.F.b4,mg_of X G cC0.a,g8.b0⟩,⟨⟨cC1.ms,g9.m.at_,g9.m.fn,cC1.kc⟩,zjA g9.F pc1 dga mD GP g2.F.b4,mg_of X G cC1.a,g9.b0⟩,⟨⟨cC2.ms,g10.m.at_,g10.m.fn,cC2.kc⟩,zjj g10.F pc2 dga mD GP g2.F.b4,mg_of X G cC2.a,g10.F.b2⟩,⟨⟨cC3.ms,g11.m.at_,g11.m.fn,cC3.kc⟩,zlp g11.F pc3 dga mD GP g2.F.b4,mg_of X G cC3.a,g11.b0⟩,⟨⟨cC4.ms,g12.m.at_,g12.m.fn,cC4.kc⟩,zlx g12.F pc4 dga mD GP g2.F.b4,mg_of X G cC4.a,g12.F.b2⟩⟩;have GF:zL l.prog w K mg base CX0 1 f3 _ ["self"] (zbd K ⟨f3,f4,f5,f6,f7⟩):=zjw g3.F;have GQ:zL l.prog w K mg base CX0 1 f4 _ ["self"] (qi K ⟨f3,f4,f5,f6,f7⟩ bpL):=zcA g4.F Wd;have GN:zL l.prog w K mg base CX0 1 f5 _ ["self"] (qi K ⟨f3,f4,f5,f6,f7⟩ bnL):=zdG g5.F Wd;have cM1:=g23.c2 B (zjs g23.F TF);have cM2:=g24.c1 B (zhG g24.F TF PP);have cM3:=g25.c1 B (zhC g25.F cI);have cM4:=g26.c2 B (zhu g26.F TF PP GN g5.F.b1);have cW:=g27.c2 B (zjp g27.F TF PP);have GK:=zjv g14.F TF PP FK cW GQ g4.F.b1 GN g5.F.b1;have GI:=zhN g13.F FK g14.m cM1 cM2 cM3 cM4 GK (g14.F.b3);have Gpa:zL l.prog w K mg base CX0 1 f15 _ ["self"] (zba ⟨C0,C1,C2,C3,C4⟩ FM):=zhM g15.F TF FK;have Gba:zL l.prog w K mg base CX0 1 f16 _ ["self"] (zbe ⟨C0,C1,C2,C3,C4⟩ FM):=zhO g16.F TF FK;have Gpl:zL l.prog w K mg base CX0 1 f17 _ ["self"] (wu ⟨C0,C1,C2,C3,C4⟩ FM):=zdF g17.F FK;have Gta:zL l.prog w K mg base CX0 1 f18 _ ["self"] (vm ⟨C0,C1,C2,C3,C4⟩ FM 2):=zhK g18.F FK;have Gbg:zL l.prog w K mg base CX0 1 f19 _ ["self"] (vm ⟨C0,C1,C2,C3,C4⟩ FM 4):=zjz g19.F FK;have Gnu:zL l.prog w K mg base CX0 1 f20 _ ["self","name"] (zgv ⟨C0,C1,C2,C3,C4⟩ FM):=zjx g20.F FK;have cL:=g42.c1 B (zju g42.F);have cSh:=g45.c1 B (zhx g45.F (no zlen) cL);have cFn:=g46.c1 B (zfJ g46.F (no zenumerate));have cOv:=g48.c2 B (zhF g48.F (no zrange) FK g18.m Gta (g18.F.b1) g17.m Gpl (g17.F.b1));have cUn:=g49.c3 B (zln g49.F (no zset) FK g16.m Gba (g16.F.b1) g20.m Gnu (g20.F.b2) g19.m Gbg (g19.F.b1) g17.m Gpl (g17.F.b1));have cEn:=g51.c4 B (zjo g51.F PP GQ g4.F.b1 GN g5.F.b1);have cLa:=g50.c3 B (zhJ g50.F (no zenumerate) PP FK g15.m Gpa (g15.F.b1) GF g3.F.b1 cEn);have cMo:=g47.c3 B (zlt g47.F (no zenumerate) cFn cOv cUn cLa);have cMi:=g43.c2 B (zlu g43.F cSh cMo);have cFi:=g44.c2 B (zjy g44.F cMi);have cPf:=g22.c1 B (zlr g22.F UC);have cDo:=g31.c1 B (zhP g31.F PP GN g5.F.b1);have cRo:=g30.c2 B (zhz g30.F UR PP FK cDo g15.m Gpa (g15.F.b1) g16.m Gba (g16.F.b1) g19.m Gbg (g19.F.b1) GF g3.F.b1 GN g5.F.b1);have cRA:=g35.c2 B (zhA g35.F FK cRo g17.m Gpl (g17.F.b1) g18.m Gta (g18.F.b1));have cMH:=g38.c2 B (zjr g38.F);have cTR:=g37.c2 B (zfD g37.F (no zall) cMH);have cNb:=g41.c1 B (zjq g41.F T (no zdivmod));have cSg:=g40.c1 B (zdD g40.F cNb);have cTy:=g39.c2 B (zlo g39.F cSg);have cPN:=g36.c2 B (zmr g36.F (no zsorted) cTR cTy cMH);have cTi:=g34.c1 B (zfC g34.F (no zlen));have cPg:=g33.c2 B (zdE g33.F ⟨no zrange,no zmax,no zmin⟩ FK cRA cPN cTi g17.m Gpl (g17.F.b1));have cSd:=g32.c2 B (zfF g32.F cPg);have cTb:=g28.c1 B (zhw g28.F UR FK cRo g17.m Gpl (g17.F.b1) g18.m Gta (g18.F.b1));have cSa:=g29.c2 B (zhy g29.F cTb);have cN:=g52.c2 B (zls g52.F);have cSt:=g53.c2 B (zjk g53.F);have cSw:=g54.c2 B (zfE g54.F);have cDg:=g55.c3 B (zfK g55.F (no zrange) cSw);have cWd:=g56.c1 B (zlm g56.F (no zrange));have cPo:=g57.c1 B (zjn g57.F ⟨no zrange,no zint⟩ cDg cWd);have cR:=g58.c3 B (zlq g58.F (no zlen));have cB:=g59.c3 B (zhI g59.F);have cFo:=g60.c2 B (zhH g60.F (no zlist) (mg_of X G cFM.a) ⟨cFM.ms,g13.m.at_,g13.m.fn,cFM.kc⟩ GI g13.b0 cPf);have cRw:=g61.c4 B (zjm g61.F (no zenumerate) cN cR cDg cSt);have cTk:=g62.c4 B (zhv g62.F ⟨no zlen,no zset⟩);have cTu:=g63.c4 B (zfB g63.F ⟨no zmax,no zlen,no zlist,no zreversed⟩);have cLs:=g64.c3 B (zfI g64.F US);have cFr:=g65.c2 B (zhL g65.F (no zlen) cDg);have cPa:=g66.c4 B (zhE g66.F cTk);have cIP:=g67.c3 B (zlw g67.F UI cFi cFo cPa);have cRi:=g68.c3 B (zhB g68.F ⟨no zlen,no zmax⟩ cFo cSd cPg cIP cPa);have cSe:=g69.c3 B (zfH g69.F (no zrange) cN cRw cB cSt cTu);have cLd:=g70.c1 B (zjt g70.F cSw);have cSs:=g71.c4 B (zfG g71.F (no zenumerate) cN cSt cLs cFr cLd);exact zlv g72.F cN cPo cRw cB cSe cSs cRi cFo cSd cSa
theorem zob{l:PySem.W.OpenLaw}{q:Program}{loose:List Str}{XP:(Str->Option Value)->Heap->Prop}{YP:World->Heap->Prop}{d:DefRec}{K:Params->Frag}(hn:l.most=some 63)(hdf:d.params.defaults=[])
  (hY:∀(w:World) (h:Heap),YP w h->(K w.params).In h)
  (F:∀(w:World) (mg:Str->Option Value) (fa:Addr) (h:Heap),(K w.params).In h->h.Ns mainGlobals mg->mg d.name=some (.ref fa)->
   ∃fd:FuncData,(∀(s:Shared) (u:Value),BindsTo s fd ⟨[u],[]⟩ [("_law_script",u)])/\∀base:Heap,(K w.params).In base->base.Ns mainGlobals mg->zL l.prog w (K w.params) mg base CX0 9 fa fd ["_law_script"] (zbb (K w.params))) :
  PySem.W.WalkO q loose XP YP l.row.toRowW d [] (fun f vs=>PySem.call f vs):=
 L2.zlX (n:=63) (k:=9) (x:="_law_script") (CX:=fun _=>CX0) (sp:=fun w=>zbb (K w.params)) hn ⋯ hdf ⟨rfl,⋯,⋯,rfl⟩ hY F (fun _ _ a ns hl hb _ hS=>⟨a,ns,rfl,hS,hl,fun _=>rfl⟩) fun _ _ _ _ _ z=>z
end K84
end
open PySem PySem.W PyProof.Rows
set_option maxRecDepth 100000 in
set_option maxHeartbeats 0 in
theorem PySem.Challenge.cw_callbinds_k84_whole_parting_great_forms_holds : PySem.Challenge.rw_callbinds_k84_whole_parting_great_forms.Holds := by
 w_on; o_law; k_head; (case hw => w_witness2)
 k_fill
 refine K84.zob (l := PySem.Challenge.rw_callbinds_k84_whole_parting_great_forms) rfl rfl (fun w h Y => PySem.W.kIn_of Y) ?F
 case F =>
  intro w mg fa h KX G hmg
  refine' K84.znQ KX G hmg ?cD ?cC0 ?nC0 ?cC1 ?nC1 ?cC2 ?nC2 ?cC3 ?nC3 ?cC4 ?nC4 ?cFM ?nFM ?g1 ?g2 ?g3 ?g4 ?g5 ?g6 ?g7 ?g8 ?g9 ?g10 ?g11 ?g12 ?g13 ?g14 ?g15 ?g16 ?g17 ?g18 ?g19 ?g20 ?g21 ?g22 ?g23 ?g24 ?g25 ?g26 ?g27 ?g28 ?g29 ?g30 ?g31 ?g32 ?g33 ?g34 ?g35 ?g36 ?g37 ?g38 ?g39 ?g40 ?g41 ?g42 ?g43 ?g44 ?g45 ?g46 ?g47 ?g48 ?g49 ?g50 ?g51 ?g52 ?g53 ?g54 ?g55 ?g56 ?g57 ?g58 ?g59 ?g60 ?g61 ?g62 ?g63 ?g64 ?g65 ?g66 ?g67 ?g68 ?g69 ?g70 ?g71 ?g72 ?zisinstance ?zstr ?zbool ?zlen ?zall ?zrange ?zlist ?zenumerate ?zset ?zany ?zsorted ?zmin ?zmax ?ztuple ?zint ?zdivmod ?zreversed ?gL ?gN ?gMP ?gMB ?ytP ?utP ?ytB ?utB ?ytO ?utO ?ysg ?usg ?yGr ?lGr ?kGr ?eG0 ?eG1 ?eG2 ?eG3 ?eG4 ?dga ?h0 ?h1 ?h2 ?h3 ?h4
  (case cD | cC0 => apply L2.zoa <;> k_is)
  (case nC0 => exact ⟨by k_is, by k_is, by k_is⟩)
  (case cC1 => apply L2.zoa <;> k_is)
  (case nC1 => exact ⟨by k_is, by k_is, by k_is⟩)
  (case cC2 => apply L2.zoa <;> k_is)
  (case nC2 => exact ⟨by k_is, by k_is, by k_is⟩)
  (case cC3 => apply L2.zoa <;> k_is)
  (case nC3 => exact ⟨by k_is, by k_is, by k_is⟩)
  (case cC4 => apply L2.zoa <;> k_is)
  (case nC4 => exact ⟨by k_is, by k_is, by k_is⟩)
  (case cFM => apply L2.zoa <;> k_is)
  (case nFM => exact ⟨by k_is, by k_is, by k_is, by k_is, by k_is, by k_is⟩)
  (case g1 => apply L2.zn8 <;> k_is)
  (case g2 | g3 | g4 | g5 | g6 | g7 => apply L2.zn7 <;> k_is)
  (case g8 | g9 => apply L2.zn9 <;> k_is)
  (case g10 => apply L2.zn7 <;> k_is)
  (case g11 => apply L2.zn9 <;> k_is)
  (case g12 => apply L2.zn7 <;> k_is)
  (case g13 => apply L2.zn9 <;> k_is)
  (case g14 | g15 | g16 | g17 | g18 | g19 | g20 | g21 => apply L2.zn7 <;> k_is)
  (case g22 | g23 | g24 | g25 | g26 | g27 | g28 | g29 | g30 | g31 | g32 | g33 | g34 | g35 | g36 | g37 | g38 | g39 | g40 | g41 | g42 | g43 | g44 | g45 | g46 | g47 | g48 | g49 | g50 | g51 | g52 | g53 | g54 | g55 | g56 | g57 | g58 | g59 | g60 | g61 | g62 | g63 | g64 | g65 | g66 | g67 | g68 | g69 | g70 | g71 | g72 => apply L2.zn8 <;> k_is)
  (case zisinstance | zstr | zbool | zlen | zall | zrange | zlist | zenumerate | zset | zany | zsorted | zmin | zmax | ztuple | zint | zdivmod | zreversed | gL | gN | gMP | gMB | ytP | utP | ytB | utB | ytO | utO | ysg | usg | yGr | lGr => k_is)
  (case kGr => k_keys)
  (case eG0 | eG1 | eG2 | eG3 | eG4 => k_is)
  (case dga => exact ⟨by k_is, by k_is, by k_is, by k_is⟩)
  (case h0 | h1 | h2 | h3 | h4 => exact ⟨by k_is, by k_is, by k_is, by k_is, by k_is⟩)
#print axioms PySem.Challenge.cw_callbinds_k84_whole_parting_great_forms_holds
