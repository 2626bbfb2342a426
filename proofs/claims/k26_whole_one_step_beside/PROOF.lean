import PyProof.Rows.All
import Wide.All
import OpenK.AllK
import Wide.FinOn
import Lean
import PyProof.EqAt
import PyProof.EqKinds
import PyProof.TupleCall
import KE.KTryMore
import PyProof.ExcAttrAll.ValueError
import KE.KRevIter
import PyProof.SetNew
import PyProof.SetRoads
import PyProof.Rows.SetObj
import PyProof.DictCompW
import PyProof.DictItems
import PyProof.Rows.SetFrom
import PyProof.ListRange
import PyProof.Rows.Range3
import KE.IntBitsLaws
import PyProof.AttrMissHeap
import PyProof.FactsAll.bool_1
import KE.KDictOf
import PyProof.WalkInts
import PyProof.P3Eq
import PyProof.Rows.SortStr
import PyProof.Rows.SortWalk
import PyProof.ReprRoads
import KE.RegKIsAll
import KE.RegKTryMore
import PySem.Challenge.RW_callbinds_k26_whole_one_step_beside
set_option Elab.async false
set_option linter.all false
set_option maxRecDepth 100000
set_option maxHeartbeats 4000000
open Nat (lt_of_lt_of_le lt_irrefl ne_of_lt le_trans le_of_lt ne_of_gt zero_le le_of_eq lt_succ_self le_succ lt_succ_of_lt lt_of_sub_eq_succ le_succ_of_le min_eq_left min_eq_right)
open List (filterMap_cons mem_cons_self mem_cons_of_mem mem_append_left getElem?_set_self getElem?_set_ne mem_append_right size_toArray length_cons map_cons length_map append_nil of_mem_zip length_take getElem?_map mem_of_getElem? length_append length_drop all_cons any_cons length_singleton find?_cons cons_append length_nil map_nil lookup_cons length_set getElem?_eq_getElem getD_eq_getElem?_getD all_eq_true getElem_mem take_of_length_le map_map all_map take_add_one map_append take_succ_eq_append_getElem filter_append length_filter_le take_length mem_append getElem?_eq_none mem_of_mem_drop mem_of_mem_take map_take map_drop flatten_append take_append_drop nil_append append_assoc length_range range_succ any_append getElem?_range contains_cons lookup_cons_self filter_cons filter_nil filter_sublist drop_zero take_nil drop_of_length_le drop_nil eq_nil_of_length_eq_zero zip_cons_cons mem_map append_eq_nil_iff getElem?_zipIdx length_zipIdx)
open Int (toNat_natCast emod_nonneg emod_lt_of_pos eq_ofNat_of_zero_le)
open Option (getD_none map_some isSome_map)
open PySem.W (instObj methodObj hideAll hideAll_none lookIn plainGet plainGet_of plainOver takerIn makesIn emptyDict kitOne kia_one callWith_K methodCall_KW cellsFrom_some fnOf codeIn codeRec_of KeysLit nsIn exmOne kitAny mg_of Frag findIn specialIn keepIn isFn hasDictIn clsIn mroIn instIn Looks)
local macro_rules|`(term|⋯)=>`(Or.inl rfl)
local macro_rules|`(term|nofun)=>`(fun _ _=>rfl)
local macro_rules|`(tactic|and_intros)=>`(tactic|(simp only[length_map,length_append,length_take,length_drop,length_singleton,length_cons,length_nil];omega))
local macro_rules|`(tactic|symm)=>`(tactic|decide +kernel)
local macro_rules|`(tactic|exists $xs,*)=>`(tactic|refine ⟨$xs,*⟩)
namespace L2
open PySem PySem.Spec PyProof.Rows
theorem zp2:(0:Int)<2:=by decide
theorem zp8:(0:Int)<8:=by decide
theorem zp4:(0:Int)<4:=by decide
theorem zp3:(0:Int)<3:=by decide
abbrev aA:=@List.length_map
abbrev aB:=@List.getElem?_eq_getElem
abbrev aC:=@decide_eq_true
abbrev aD:=@decide_eq_false
abbrev aE:=@List.map_append
abbrev aF:=@Nat.le_refl
abbrev aG:=@List.length_append
abbrev aH:=@List.mem_of_getElem?
abbrev aI:=@PySem.Heap.lt_size
abbrev aJ:=@if_neg
abbrev aK:=@if_pos
abbrev PnL:=List (Addr×Obj)
abbrev VSP:=Value->Shared->Prop
theorem xK : 0<=sizeLine:=by decide
theorem ja : 1<=sizeLine:=by decide
theorem z6 : 2<=sizeLine:=by decide
theorem qZ : 3<=sizeLine:=by decide
theorem zmp : 4<=sizeLine:=by decide
theorem zmo : 5<=sizeLine:=by decide
theorem zlp : 6<=sizeLine:=by decide
theorem zmn : 8<=sizeLine:=by decide
theorem zmm : 9<=sizeLine:=by decide
abbrev zwb:=@wpAny_bind
abbrev zwp:=@wpAny_pure
abbrev zft:=@Bool.false_ne_true
abbrev zgp:=@Heap.get?_push_of_some
abbrev zgs:=@Heap.get?_push_size
abbrev Key:=Sum Int Str
def qC:Key->Value->Bool
 | .inl k,v=>Value.isInt k v
 | .inr x,v=>Value.isStrOf x v
def zmN(w:World):Key->Int
 | .inl k=>hashInt k
 | .inr x=>hashStr w x
theorem yA:∀{k:Key}{v:Value},qC k v=true->(∃i t,k=Sum.inl i/\v=Value.int i t)\/(∃x t,k=Sum.inr x/\v=Value.str x t)
 | .inl i,v,h=>by
  obtain⟨t,e⟩:=Value.isInt_shape (k:=i) (v:=v) h;exact .inl ⟨i,t,rfl,e⟩
 | .inr x,v,h=>by
  obtain⟨t,e⟩:=Value.isStrOf_shape (x:=x) (v:=v) h;exact .inr ⟨x,t,rfl,e⟩
theorem zfa(i:Int)(t:Tok):qC (.inl i) (.int i t)=true:=by simp [qC,Value.isInt]
theorem ze9(x:Str)(t:Tok):qC (.inr x) (.str x t)=true:=by simp [qC,Value.isStrOf]
theorem zkI(a b:Int):decide ((Sum.inl a:Key)=Sum.inl b)=(a==b):=by
 by_cases e:a=b
 ·subst e;simp
 ·have h:¬(Sum.inl a:Key)=Sum.inl b:=fun q=>e (Sum.inl.inj q)
  rw[aD h];exact(beq_eq_false_iff_ne.mpr e).symm
theorem zhh(a b:Str):decide ((Sum.inr a:Key)=Sum.inr b)=decide (a=b):=by
 by_cases e:a=b
 ·subst e;simp
 ·have h:¬(Sum.inr a:Key)=Sum.inr b:=fun q=>e (Sum.inr.inj q)
  rw[aD h,aD e]
theorem zkH(a:Int)(b:Str):decide ((Sum.inl a:Key)=Sum.inr b)=false:=aD (fun q=>nomatch q)
theorem zkG(a:Str)(b:Int):decide ((Sum.inr a:Key)=Sum.inl b)=false:=aD (fun q=>nomatch q)
def yl(prog:Program)(w:World):PySem.KeyKind prog w Key where
 is:=qC
 hash:=zmN w
 inj:=fun v a b ha hb=>by
  rcases yA ha with ⟨i,t,rfl,rfl⟩|⟨x,t,rfl,rfl⟩
  ·rcases yA hb with ⟨j,u,rfl,e⟩|⟨y,u,rfl,e⟩
   ·injection e with e1 _;rw[e1]
   ·exact nomatch e
  ·rcases yA hb with ⟨j,u,rfl,e⟩|⟨y,u,rfl,e⟩
   ·exact nomatch e
   ·injection e with e1 _;rw[e1]
 byValue:=fun k v h=>by
  rcases yA h with ⟨i,t,rfl,rfl⟩|⟨x,t,rfl,rfl⟩ <;> rfl
 pyHash:=fun hv h=>by
  rcases yA hv with ⟨i,t,rfl,rfl⟩|⟨x,t,rfl,rfl⟩
  ·exact wpAny_pyHash_int h
  ·exact wpAny_pyHash_str h
 eqBool:=fun hu hv h=>by
  rcases yA hu with ⟨i,t,rfl,rfl⟩|⟨x,t,rfl,rfl⟩
  ·rcases yA hv with ⟨j,u,rfl,rfl⟩|⟨y,u,rfl,rfl⟩
   ·rw[zkI] at h;exact wpAny_eqBool_int h
   ·rw[zkH] at h;exact SeqAt.EqAt.int_str i t y u _ _ _ _ h
  ·rcases yA hv with ⟨j,u,rfl,rfl⟩|⟨y,u,rfl,rfl⟩
   ·rw[zkG] at h;exact SeqAt.EqAt.str_int x t j u _ _ _ _ h
   ·rw[zhh] at h;exact wpAny_eqBool_str h
 «strs»:=fun k x t v h=>by
  rcases yA h with ⟨i,u,rfl,e⟩|⟨y,u,rfl,e⟩
  ·exact nomatch e
  ·injection e with e1 _
   subst e1;cases v <;> rfl
theorem zb9(prog:Program)(w:World)(i:Int)(t:Tok):(yl prog w).is (.inl i) (.int i t)=true:=zfa i t
theorem zb8(prog:Program)(w:World)(x:Str)(t:Tok):(yl prog w).is (.inr x) (.str x t)=true:=ze9 x t
inductive V where
 | non|bl (b:Bool)|int (i:Int)|str (x:Str)|byt (b:Array UInt8)|flt (b:UInt64)|ref (a:Addr)|ty (n:String)
 deriving DecidableEq
def zW:V->Value->Prop
 | .non,u=>u=Value.none
 | .bl b,u=>u=Value.bool b
 | .int i,u=>∃t,u=Value.int i t
 | .str x,u=>∃t,u=Value.str x t
 | .byt b,u=>∃t,u=Value.bytes b t
 | .flt b,u=>∃t,u=Value.float b t
 | .ref a,u=>u=Value.ref a
 | .ty n,u=>u=Value.type n
abbrev zV:List V->List Value->Prop:=Paired zW
theorem zV.length{xs:List V}{us:List Value}(r:zV xs us):xs.length=us.length:=Paired.length r
theorem zV.get:∀{xs:List V}{us:List Value}{i:Nat}{x:V},zV xs us->xs[i]?=some x->∃u,us[i]?=some u/\zW x u
 | _,_,_,_,.nil,e=>by simp at e
 | _,_,0,_,.cons r _,e=>by simp at e;subst e;exact⟨_,rfl,r⟩
 | _,_,i+1,x,.cons _ t,e=>by
  obtain⟨u,h1,h2⟩:=zV.get (i:=i) (x:=x) t (by simpa using e)
  exact⟨u,by simpa using h1,h2⟩
theorem zV.append:∀{xs ys:List V}{us ws:List Value},zV xs us->zV ys ws->zV (xs++ys) (us++ws)
 | _,_,_,_,.nil,s=>s
 | _,_,_,_,.cons r t,s=>.cons r (zV.append t s)
theorem zV.take:∀{xs:List V}{us:List Value}(n:Nat),zV xs us->zV (xs.take n) (us.take n)
 | _,_,0,_=>.nil
 | _,_,_+1,.nil=>.nil
 | _,_,n+1,.cons r t=>.cons r (zV.take n t)
theorem zV.drop:∀{xs:List V}{us:List Value}(n:Nat),zV xs us->zV (xs.drop n) (us.drop n)
 | _,_,0,r=>r
 | _,_,_+1,.nil=>.nil
 | _,_,n+1,.cons _ t=>zV.drop n t
def uE:Option V->Option Value->Prop
 | some v,some u=>zW v u
 | none,none=>True
 | _,_=>False
def KV{κ : Type}:List (κ×V)->List (κ×Value)->Prop:=Paired fun (p : κ×V) (q : κ×Value)=>p.1=q.1/\zW p.2 q.2
def kV:Key->V
 | .inl i=>.int i
 | .inr x=>.str x
inductive HO where
 | lst (xs:List V)
 | tup (xs:List V)
 | dK (kvs:List (Key×V))|dT (kvs:List (List Key×V))
 | set (S:Int->Bool) (n:Nat)
 | ins (C dx:Addr) (fs:List (Str×V))
 | own (x:Addr)
 | xd (fs:List (Str×V))
 | met (f x:Addr)
 | rng (lo hi:Int)
 | frz (o:Obj) (u:HO)
 | tbl (ps:Array Value)
 | ext (φ : Heap->Prop)
abbrev Hp:=Addr->Option HO
def upd(H:Hp)(a:Addr)(o:HO):Hp:=fun b=>if b=a then some o else H b
theorem za{H:Hp}{a:Addr}{o:HO}:upd H a o a=some o:=by unfold upd;rw[aK rfl]
theorem zi{H:Hp}{a b:Addr}{o:HO}(h:b≠a):upd H a o b=H b:=by unfold upd;rw[aJ h]
theorem zaU{H:Hp}{a:Addr}{o u:HO}:upd (upd H a o) a u=upd H a u:=by
 funext b;unfold upd;split <;> rfl
theorem wo{H:Hp}{a b:Addr}{o u:HO}(h:H a=some o)(h':H b=some u)(d:o≠u):a≠b:=by
 intro e;subst e;rw[h] at h';exact d (Option.some.inj h')
theorem zd{H:Hp}{a b:Addr}{o:HO}(h:H a=some o)(h':H b=none):a≠b:=by
 intro e;subst e;rw[h] at h';cases h'
section
variable (P:Program) (w:World)
def yB(H:Hp)(h:Heap)(a:Addr):HO->Prop
 | .lst xs=>xs.length<=sizeLine/\∃(its:List Value) (n:Nat),zV xs its/\h.get? a=some { cls:=.type "list",data:=.seq its.toArray n }
 | .tup xs=>xs.length<=sizeLine/\∃its:List Value,zV xs its/\IsTup h a its.toArray
 | .dK kvs=>kvs.length<=sizeLine/\(a==sysModules)=false/\∃vs,KV kvs vs/\h.DictOf (yl P w) a vs
 | .dT kvs=>kvs.length<=sizeLine/\(a==sysModules)=false/\∃xs:List (List Key×Addr×Value),
   Paired (fun (p:List Key×V) (q:List Key×Addr×Value)=>p.1=q.1/\H q.2.1=some (.tup (p.1.map kV))/\zW p.2 q.2.2) kvs xs/\
   ∃o es ep,h.get? a=some o/\o.ExactDict/\o.data=.dict es ep/\es.toList=xs.map (entryOfKey (tupleKind (yl P w)))/\(xs.map (·.1)).Nodup
 | .set S n=>h.SetOf (intKind P w) a S n
 | .ins C dx fs=>H dx=some (.own a)/\fs.length<=1000/\dx≠a/\h.get? a=some (instObj C dx)/\
   ∃mA,h.Ns1 dx mA/\(∀f,uE (fs.lookup f) (mA f))/\PySem.Within mA (fs.map (·.1))
 | .own _=>∃o,h.get? a=some o
 | .xd fs=>∃mA,h.Ns1 a mA/\∀f,uE (fs.lookup f) (mA f)
 | .rng lo hi=>∃t u v,h.get? a=some { cls:=.type "range",data:=.fields #[.int lo t,.int hi u,.int 1 v] }
 | .frz o u=>h.get? a=some o/\yB H h a u
 | .tbl ps=>h.get? a=some { cls:=.none,data:=.fields ps }
 | .met f x=>h.get? a=some (methodObj (.ref f) (.ref x))
 | .ext φ=>φ h/\(∃o,h.get? a=some o)/\∀h1 h2:Heap,φ h1->(∀o,h1.get? a=some o->h2.get? a=some o)->φ h2
def HOk(H:Hp)(h:Heap):Prop:=∀a o,H a=some o->yB P w H h a o
end
section
variable {P:Program}{w:World}{H H':Hp}{h h':Heap}{a:Addr}{o:HO}
theorem yB.lt(x:yB P w H h a o):a<h.objs.size:=by
 cases o with
 | lst xs=>obtain⟨_,_,_,_,e⟩:=x;exact aI e
 | tup xs=>obtain⟨_,_,_,p⟩:=x;exact p.lt
 | dK kvs=>obtain⟨_,_,_,_,o,_,_,e,_⟩:=x;exact aI e
 | dT kvs=>obtain⟨_,_,_,_,o,_,_,e,_⟩:=x;exact aI e
 | set S n=>obtain⟨o,_,_,_,e,_⟩:=x;exact aI e
 | ins C dx fs=>obtain⟨_,_,_,e,_⟩:=x;exact aI e
 | own y=>obtain⟨_,e⟩:=x;exact aI e
 | xd fs=>obtain⟨_,⟨_,_,_,e,_⟩,_⟩:=x;exact aI e
 | rng lo hi=>obtain⟨_,_,_,e⟩:=x;exact aI e
 | frz ob u=>obtain⟨e,_⟩:=x;exact aI e
 | tbl ps=>exact aI (show h.get? a=some _ from x)
 | met f y=>exact aI (show h.get? a=some _ from x)
 | ext φ=>obtain⟨_,⟨_,e⟩,_⟩:=x;exact aI e
theorem wL{α β : Type}{F G : α->β->Prop}:∀{l₁:List α}{l₂:List β},Paired F l₁ l₂->(∀a b,F a b->G a b)->Paired G l₁ l₂
 | _,_,.nil,_=>.nil
 | _,_,.cons r t,f=>.cons (f _ _ r) (wL t f)
theorem zr{α β : Type}{F G : α->β->Prop}(f:∀a b,F a b->G a b){l₁:List α}{l₂:List β}(r:Paired F l₁ l₂):Paired G l₁ l₂:=wL r f
theorem yB.stay(x:yB P w H h a o)(k:∀b u,(b=a\/H b=some (.own a))->h.get? b=some u->h'.get? b=some u)
  (ho:∀b,H b=some (.own a)->H' b=some (.own a)) (ht:∀b xs,H b=some (.tup xs)->H' b=some (.tup xs)):yB P w H' h' a o:=by
 induction o with
 | lst xs=>obtain⟨z,its,n,r,e⟩:=x;exact⟨z,its,n,r,k _ _ (.inl rfl) e⟩
 | tup xs=>obtain⟨z,its,r,ob,e,c⟩:=x;exact⟨z,its,r,ob,k _ _ (.inl rfl) e,c⟩
 | dK kvs=>obtain⟨z,y,vs,r,ob,es,ep,e,c⟩:=x;exact⟨z,y,vs,r,ob,es,ep,k _ _ (.inl rfl) e,c⟩
 | dT kvs=>
  obtain⟨z,y,xs,r,ob,es,ep,e,c⟩:=x;exact⟨z,y,xs,wL r fun p q z=>⟨z.1,ht _ _ z.2.1,z.2.2⟩,ob,es,ep,k _ _ (.inl rfl) e,c⟩
 | set S n=>obtain⟨ob,es,ep,t,e,c⟩:=x;exact⟨ob,es,ep,t,k _ _ (.inl rfl) e,c⟩
 | ins C dx fs=>
  obtain⟨d,z,ne,e,mA,⟨od,es,ep,e2,c⟩,r⟩:=x;exact⟨ho _ d,z,ne,k _ _ (.inl rfl) e,mA,⟨od,es,ep,k _ _ (.inr d) e2,c⟩,r⟩
 | own y=>obtain⟨ob,e⟩:=x;exact⟨ob,k _ _ (.inl rfl) e⟩
 | xd fs=>obtain⟨mA,⟨od,es,ep,e,c⟩,r⟩:=x;exact⟨mA,⟨od,es,ep,k _ _ (.inl rfl) e,c⟩,r⟩
 | rng lo hi=>obtain⟨t,u,v,e⟩:=x;exact⟨t,u,v,k _ _ (.inl rfl) e⟩
 | frz ob u ih=>obtain⟨e,q⟩:=x;exact⟨k _ _ (.inl rfl) e,ih q⟩
 | tbl ps=>
  have e:h.get? a=some { cls:=.none,data:=.fields ps }:=x;show h'.get? a=some { cls:=.none,data:=.fields ps };exact k a _ (.inl rfl) e
 | met f y=>
  have e:h.get? a=some (methodObj (.ref f) (.ref y)):=x;show h'.get? a=some (methodObj (.ref f) (.ref y));exact k a _ (.inl rfl) e
 | ext φ=>obtain⟨p,⟨o,e⟩,st⟩:=x;exact⟨st _ _ p fun o q=>k _ _ (.inl rfl) q,⟨o,k _ _ (.inl rfl) e⟩,st⟩
theorem HOk.lt(x:HOk P w H h)(e:H a=some o):a<h.objs.size:=(x a o e).lt
theorem HOk.fresh(x:HOk P w H h)(e:h.objs.size<=a):H a=none:=by
 cases q:H a with
 | none=>rfl
 | some u=>exact absurd (lt_of_lt_of_le (x.lt q) e) (lt_irrefl _)
theorem HOk.kept(x:HOk P w H h)(k:∀b u,h.get? b=some u->h'.get? b=some u):HOk P w H h':=fun a o e=>
 (x a o e).stay (fun b u _ q=>k b u q) (fun _ q=>q) fun _ _ q=>q
theorem HOk.laid(x:HOk P w H h)(k:∀b u,h.get? b=some u->h'.get? b=some u)(hp:h.objs.size<=a)(new:yB P w (upd H a o) h' a o):HOk P w (upd H a o) h':=fun b u e=>by
 have hn:=x.fresh hp;by_cases hb:b=a
 ·subst hb;rw[za] at e;cases e;exact new
 ·rw[zi hb] at e
  exact(x b u e).stay (fun c v _ q=>k c v q) (fun c q=>by rw[zi (zd q hn)];exact q) fun c xs q=>by rw[zi (zd q hn)];exact q
def Rd(H:Hp)(a:Addr)(u:HO):Prop:=H a=some u\/∃o,H a=some (.frz o u)
theorem Rd.ok{P:Program}{w:World}{H:Hp}{h:Heap}{a:Addr}{u:HO}(r:Rd H a u)(x:HOk P w H h):yB P w H h a u:=by
 rcases r with r|⟨o,r⟩
 ·exact x a u r
 ·obtain⟨_,q⟩:=x a _ r
  exact q
def Mut:Option HO->Prop
 | some (.lst _)=>True
 | some (.dK _)=>True
 | some (.dT _)=>True
 | some (.set _ _)=>True
 | some (.ins _ _ _)=>True
 | some (.ext _)=>True
 | _=>False
variable {x e:Addr}{o':HO}
theorem HOk.write(ok:HOk P w H h)(mu:Mut (H x))(he:e=x\/H e=some (.own x))(k:∀b u,b≠e->h.get? b=some u->h'.get? b=some u)(heo:∃u,h'.get? e=some u)
  (new:yB P w (upd H x o') h' x o'):HOk P w (upd H x o') h':=fun b u q=>by
 have nown:∀c y,H c=some (.own y)->c≠x:=fun c y r z=>by subst z;rw[r] at mu;exact mu
 have ntup:∀c xs,H c=some (.tup xs)->c≠x:=fun c xs r z=>by subst z;rw[r] at mu;exact mu
 by_cases hb:b=x
 ·subst hb;rw[za] at q;cases q;exact new
 ·rw[zi hb] at q
  by_cases hbe:b=e
  ·have q':H b=some (.own x):=by
    rcases he with z|z
    ·exact absurd (hbe.trans z) hb
    ·rw[hbe];exact z
   rw[q] at q';cases q';obtain⟨v,hv⟩:=heo;exact⟨v,by rw[hbe];exact hv⟩
  ·refine(ok b u q).stay (fun c v hc r=>k c v ?_ r) (fun c r=>by rw[zi (nown c b r)];exact r) fun c xs r=>by rw[zi (ntup c xs r)];exact r
   rcases hc with rfl|hc
   ·exact hbe
   ·rintro rfl
    rcases he with z|z
    ·exact nown c b hc z
    ·rw[hc] at z;cases z;exact hb rfl
structure Un(fs ex:List Addr)(H H':Hp)(h h':Heap):Prop where
 keep:∀b o,h.get? b=some o->H b=none->b∉fs->b∉ex->h'.get? b=some o
 slot:∀b o,h.get? b=some o->H b=none->b∈fs->b∉ex->∃sl,h'.get? b=some { o with slots:=sl }
 free:∀b o,h.get? b=some o->H b=none->b∉ex->H' b=none
 there:∀b o,h.get? b=some o->b∉ex->∃o',h'.get? b=some o'
 tups:∀b xs,H b=some (.tup xs)->H' b=some (.tup xs)
 frzs:∀b o u,H b=some (.frz o u)->H' b=some (.frz o u)
 tbls:∀b ps,H b=some (.tbl ps)->∃more,H' b=some (.tbl (ps++more))
variable {fs fs' ex ex':List Addr}{H1 H2:Hp}{h1 h2:Heap}
theorem Un.any(u:Un fs ex H H1 h h1){b:Addr}{ob:Obj}(q:h.get? b=some ob)(n:H b=none)(hx:b∉ex):∃sl,h1.get? b=some { ob with slots:=sl }:=by
 by_cases hb:b∈fs
 ·exact u.slot b ob q n hb hx
 ·exact⟨ob.slots,u.keep b ob q n hb hx⟩
theorem Un.kept(k:∀b u,h.get? b=some u->h'.get? b=some u):Un fs ex H H h h':=
 ⟨fun b ob q _ _ _=>k b ob q,fun b ob q _ _ _=>⟨ob.slots,k b ob q⟩,fun _ _ _ n _=>n,fun b ob q _=>⟨ob,k b ob q⟩,fun _ _ q=>q,fun _ _ _ q=>q,fun _ ps q=>⟨#[],by rw[q];simp⟩⟩
theorem Un.refl:Un fs ex H H h h:=Un.kept fun _ _ q=>q
theorem Un.laid(k:∀b u,h.get? b=some u->h'.get? b=some u)(hp:h.objs.size<=a)(hn:H a=none):Un fs ex H (upd H a o) h h' where
 keep:=fun b u q _ _ _=>k b u q
 slot:=fun b u q _ _ _=>⟨u.slots,k b u q⟩
 free:=fun b u q n _=>by rw[zi (ne_of_lt (lt_of_lt_of_le (aI q) hp))];exact n
 there:=fun b u q _=>⟨u,k b u q⟩
 tups:=fun b xs q=>by rw[zi (zd q hn)];exact q
 frzs:=fun b u xs q=>by rw[zi (zd q hn)];exact q
 tbls:=fun b ps q=>⟨#[],by rw[zi (zd q hn),q];simp⟩
theorem Un.write(mu:Mut (H x))(he:e=x\/H e=some (.own x))(k:∀b u,b≠e->h.get? b=some u->h'.get? b=some u)(heo:∃u,h'.get? e=some u):Un fs ex H (upd H x o) h h':=by
 have hx:∀b,H b=none->b≠x:=fun b n z=>by subst z;rw[n] at mu;exact mu
 have hb:∀b,H b=none->b≠e:=fun b n z=>by
  subst z;rcases he with r|r
  ·exact hx b n r
  ·rw[n] at r;cases r
 have hm:∀b u,H b=some u->¬Mut (some u)->b≠x:=fun b u q nm z=>by subst z;rw[q] at mu;exact nm mu
 refine⟨fun b u q n _ _=>k b u (hb b n) q,fun b u q n _ _=>⟨u.slots,k b u (hb b n) q⟩,fun b u q n _=>by rw[zi (hx b n)];exact n,fun b u q _=>?_,
  fun b xs q=>by rw[zi (hm b _ q fun z=>z)];exact q,fun b u xs q=>by rw[zi (hm b _ q fun z=>z)];exact q,fun b ps q=>⟨#[],by rw[zi (hm b _ q fun z=>z),q];simp⟩⟩
 by_cases hbe:b=e
 ·subst hbe;exact heo
 ·exact⟨u,k b u hbe q⟩
def trk(h:Heap)(H:Hp):List Addr:=(List.range h.objs.size).filter fun a=>(H a).isSome
def zbr(h:Heap)(H:Hp):Heap:=hideAll h (trk h H)
theorem zfc(h:Heap)(H:Hp):(zbr h H).objs.size=h.objs.size:=PySem.W.hideAll_size _ _
theorem zhl{h:Heap}{H:Hp}{b:Addr}{o:Obj}(e:h.get? b=some o)(n:H b=none):(zbr h H).get? b=some o:=
 PySem.W.hideAll_get _ e fun hm=>by
  have q:(H b).isSome=true:=(List.mem_filter.mp hm).2;rw[n] at q;simp at q
theorem ziM{h:Heap}{H:Hp}{b:Addr}{o:Obj}(e:(zbr h H).get? b=some o):h.get? b=some o/\H b=none:=by
 have e':h.get? b=some o:=PySem.W.of_hideAll (trk h H) e;exists e',?_;cases q:H b with
 | none=>rfl
 | some x=>
  have hm:b∈trk h H:=List.mem_filter.mpr ⟨List.mem_range.mpr (aI e'),by simp [q]⟩
  have z:(zbr h H).get? b=none:=hideAll_none (trk h H) hm;rw[z] at e;cases e
def zjg(g h:Heap)(L:Addr):List (Addr×Obj):=(List.range h.objs.size).filterMap fun a=>if a=L\/(g.get? a).isSome=true then none else (h.get? a).map fun o=>(a,o)
def wE(g h:Heap)(L d:Addr):List (Addr×Obj):=(zjg g h L).filter fun p=>decide (p.1≠d)
structure Mod(K:Frag)(mg:Str->Option Value)(base:Heap):Prop where
 kin:K.In base
 glob:base.Ns mainGlobals mg
 blt:∃mb,base.Ns builtinsNs mb/\∀x:Str,x≠"__name__"->mb x=bootBuiltins x
 nolimit:base.NoLimit
structure Cx where
 prog:Program
 w:World
 K:Frag
 mg:Str->Option Value
 base:Heap
 A:Around
 N:List Str
 s₀:Shared
 H₀:Hp
 env:Env
 outer:List Env
 stack:List Env
 ex:List Addr
 fn:Str->Bool
 calm:Bool
 pn:List (Addr×Obj)
 xe:Value->Shared->Prop
def frs(l:List Env):List Addr:=l.filterMap (·.frame)
end
abbrev Cx.fs(X:Cx):List Addr:=frs X.outer
def Vis(sc:Scope)(x:Str):Prop:=sc.names.lookup x=some .local\/sc.names.lookup x=some .cell\/sc.names.lookup x=some .free
def Loc(sc:Scope)(x:Str):Prop:=sc.names.lookup x=some .local\/sc.names.lookup x=some .cell
def zmV(env:Env)(h:Heap)(m:Str->Option Value)(x:Str)(u:Value):Prop:=
 (env.kindOf x=some .local/\m x=some u)\/((env.kindOf x=some .cell\/env.kindOf x=some .free)/\∃c,env.cells.lookup x=some c/\h.IsCell c (some u))
structure Cx.Ok(X:Cx):Prop where
 mod:Mod X.K X.mg X.base
 kind:X.env.scope.kind=.function
 glob:X.env.globals=mainGlobals
 blt:X.env.builtins=builtinsNs
 above:X.s₀.heap.objs.size<=X.env.locals
 inj:∀x y c,X.env.cells.lookup x=some c->X.env.cells.lookup y=some c->x=y
 has:∀x,(X.env.kindOf x=some .cell\/X.env.kindOf x=some .free)->∃c,X.env.cells.lookup x=some c
 cab:∀x c,X.fn x=true->X.env.cells.lookup x=some c->X.s₀.heap.objs.size<=c
 hd:X.calm=true->X.A.handled=none
 frames:X.A.frames=some X.stack
 stk:X.stack=X.outer\/(X.stack=X.env::X.outer/\X.env.frame=some X.env.locals)
 exf:∀b∈X.ex,b≠X.env.locals/\∀x c,X.env.cells.lookup x=some c->c≠b
 bs:∀b o,X.base.get? b=some o->X.s₀.heap.get? b=some o/\X.H₀ b=none
 bsz:X.base.objs.size<=X.s₀.heap.objs.size
 noex:∀b o,X.base.get? b=some o->b∉X.ex
 exfs:∀b∈X.ex,b∉X.fs
 funs:X.s₀.heap.FunFrames X.base X.outer
 frf:∀b∈X.fs,X.H₀ b=none
structure Inv(X:Cx)(pins:PnL)(σ : List (Option V))(H:Hp)(s:Shared):Prop where
 ok:X.Ok
 os:s.os=X.s₀.os
 bare:AllBare s.gens
 base:Un X.fs X.ex X.H₀ H X.s₀.heap s.heap
 loc:∃m,s.heap.Ns X.env.locals m/\∀(i:Nat) (x:Str) (v:V),X.N[i]?=some x->σ[i]?=some (some v)->Vis X.env.scope x->∃u,zW v u/\zmV X.env s.heap m x u
 cell:∀x c,X.env.cells.lookup x=some c->∃v,s.heap.IsCell c v
 free:H X.env.locals=none
 freeC:∀x c,X.env.cells.lookup x=some c->H c=none
 pin:∀p∈X.pn++pins,s.heap.get? p.1=some p.2/\H p.1=none/\p.1≠X.env.locals/\p.1∉X.fs/\∀v,p.2.data≠.cell v
 hok:HOk X.prog X.w H s.heap
 len : σ.length=X.N.length
section
variable {X:Cx}{pins:PnL}{σ:List (Option V)}{H H':Hp}{s:Shared}{h':Heap}
theorem Cx.Ok.nofr(ok:X.Ok){b:Addr}{o:Obj}(e:X.base.get? b=some o):b∉X.fs:=fun hb=>by
 have:=(ok.funs.mem hb).1
 rw[e] at this;cases this
theorem Inv.bs(I:Inv X pins σ H s):∀b o,X.base.get? b=some o->s.heap.get? b=some o/\H b=none:=fun b o e=>
 ⟨I.base.keep b o (I.ok.bs b o e).1 (I.ok.bs b o e).2 (I.ok.nofr e) (I.ok.noex b o e),I.base.free b o (I.ok.bs b o e).1 (I.ok.bs b o e).2 (I.ok.noex b o e)⟩
theorem Inv.bk(I:Inv X pins σ H s):∀b o,X.base.get? b=some o->s.heap.get? b=some o:=fun b o e=>(I.bs b o e).1
theorem Inv.mod(I:Inv X pins σ H s):Mod X.K X.mg X.base:=I.ok.mod
theorem Inv.kIn(I:Inv X pins σ H s):X.K.In s.heap:=I.ok.mod.kin.keeps I.bk
theorem Inv.lt(I:Inv X pins σ H s):X.env.locals<s.heap.objs.size:=let ⟨_,hn,_⟩:=I.loc;hn.lt
theorem Inv.sz(I:Inv X pins σ H s):X.s₀.heap.objs.size<=s.heap.objs.size:=le_trans I.ok.above (le_of_lt I.lt)
theorem Inv.nofs(I:Inv X pins σ H s){a:Addr}(h:s.heap.objs.size<=a):a∉X.fs:=fun hb=>by
 obtain⟨_,o,ho,_⟩:=I.ok.funs.mem hb;exact absurd (lt_of_lt_of_le (aI ho) (le_trans I.sz h)) (lt_irrefl _)
theorem Inv.cne(I:Inv X pins σ H s):∀x c,X.env.cells.lookup x=some c->c≠X.env.locals:=fun x c e z=>by
 obtain⟨v,o,ho,hd⟩:=I.cell x c e;obtain⟨m,⟨o',es,ep,ho',hd',_⟩,_⟩:=I.loc;rw[z,ho'] at ho;cases ho;rw[hd'] at hd;cases hd
theorem Inv.funs(I:Inv X pins σ H s):s.heap.FunFrames X.base X.outer:=by
 have all:∀(l:List Env),(∀b∈frs l,b∈X.fs)->X.s₀.heap.FunFrames X.base l->s.heap.FunFrames X.base l:=by
  intro l;induction l with
  | nil=>intro _ _;trivial
  | cons env r ih=>
   intro hs hl;obtain⟨hk,⟨L,o,hf,hn,ho,hd⟩,hr⟩:=hl;have hL:L∈X.fs:=hs L (by unfold frs;rw[filterMap_cons,hf];exact mem_cons_self)
   obtain⟨sl,e⟩:=I.base.slot L o ho (I.ok.frf L hL) hL fun z=>I.ok.exfs L z hL;exact⟨hk,⟨L,_,hf,hn,e,hd⟩,ih (fun b hb=>hs b (by unfold frs;rw[filterMap_cons,hf];exact mem_cons_of_mem _ hb)) hr⟩
 exact all X.outer (fun _ hb=>hb) I.ok.funs
theorem Inv.stack(I:Inv X pins σ H s):s.heap.FunFrames X.base X.stack:=by
 rcases I.ok.stk with e|⟨e,hf⟩
 ·rw[e];exact I.funs
 ·rw[e]
  obtain⟨m,hn,_⟩:=I.loc;refine .cons (by rw[I.ok.kind];decide) hf hn ?_ I.funs
  exact Heap.get?_none_of_le (le_trans I.ok.bsz I.ok.above)
theorem Inv.stkSub(I:Inv X pins σ H s):∀b∈frs X.stack,b∈X.env.locals::X.fs:=fun b hb=>by
 rcases I.ok.stk with e|⟨e,hf⟩
 ·rw[e] at hb;exact mem_cons_of_mem _ hb
 ·rw[e] at hb
  unfold frs at hb;rw[filterMap_cons,hf] at hb;exact hb
theorem Inv.stkFree(I:Inv X pins σ H s):∀b∈frs X.stack,H b=none:=fun b hb=>by
 rcases List.mem_cons.mp (I.stkSub b hb) with e|hb
 ·rw[e];exact I.free
 ·obtain⟨_,o,ho,_⟩:=I.ok.funs.mem hb
  exact I.base.free b o ho (I.ok.frf b hb) fun z=>I.ok.exfs b z hb
theorem Inv.step{g':Array GenState}{t':Nat}{d':Drawn}{ch:List Addr}(I:Inv X pins σ H s)
  (hch:∀b∈ch,(b∈X.ex\/X.s₀.heap.objs.size<=b)/\b≠X.env.locals/\(∀x c,X.env.cells.lookup x=some c->c≠b)/\∀p∈X.pn++pins,p.1≠b)
  (keep:∀b o,b≠X.env.locals->b∉X.fs->b∉ch->s.heap.get? b=some o->H b=none->h'.get? b=some o)
  (slot:∀b o,b≠X.env.locals->b∈X.fs->b∉ch->s.heap.get? b=some o->H b=none->∃sl,h'.get? b=some { o with slots:=sl }) (free:∀b o,b∉ch->s.heap.get? b=some o->H b=none->H' b=none)
  (there:∀b o,b∉ch->s.heap.get? b=some o->∃o',h'.get? b=some o')
  (tups:∀b xs,H b=some (.tup xs)->H' b=some (.tup xs)) (frzs:∀b o u,H b=some (.frz o u)->H' b=some (.frz o u)) (tbls:∀b ps,H b=some (.tbl ps)->∃more,H' b=some (.tbl (ps++more)))
  (ns:∀m,s.heap.Ns X.env.locals m->h'.Ns X.env.locals m) (hok:HOk X.prog X.w H' h') (hg:AllBare g') :
  Inv X pins σ H' { s with heap:=h',gens:=g',drawn:=d',toks:=t' }:=by
 have neL:∀b o,X.s₀.heap.get? b=some o->b≠X.env.locals:=fun b o e=>ne_of_lt (lt_of_lt_of_le (aI e) I.ok.above);have neC:∀b o,X.s₀.heap.get? b=some o->b∉X.ex->b∉ch:=fun b o e hx hb=>by
  rcases (hch b hb).1 with z|z
  ·exact hx z
  ·exact absurd (lt_of_lt_of_le (aI e) z) (lt_irrefl _)
 have cellK:∀x c,X.env.cells.lookup x=some c->∀v,s.heap.IsCell c v->h'.IsCell c v:=fun x c e v ⟨o,ho,hd⟩=>by
  have nch:c∉ch:=fun z=>(hch c z).2.2.1 x c e rfl;by_cases hc:c∈X.fs
  ·obtain⟨sl,q⟩:=slot c o (I.cne x c e) hc nch ho (I.freeC x c e)
   exact⟨_,q,hd⟩
  ·exact⟨o,keep c o (I.cne x c e) hc nch ho (I.freeC x c e),hd⟩
 exists I.ok,I.os,hg,⟨fun b o e n hb hx=>?_,fun b o e n hb hx=>?_,fun b o e n hx=>?_,fun b o e hx=>?_,fun b xs e=>tups b xs (I.base.tups b xs e),fun b o xs e=>frzs b o xs (I.base.frzs b o xs e),fun b ps e=>?_⟩,?_,fun x c e=>?_,?_,fun x c e=>?_,fun p hp=>?_,hok,I.len
 ·exact keep b o (neL b o e) hb (neC b o e hx) (I.base.keep b o e n hb hx) (I.base.free b o e n hx)
 ·obtain⟨sl,e1⟩:=I.base.slot b o e n hb hx
  obtain⟨sl',e2⟩:=slot b _ (neL b o e) hb (neC b o e hx) e1 (I.base.free b o e n hx);exact⟨sl',e2⟩
 ·obtain⟨o',e1⟩:=I.base.there b o e hx
  exact free b o' (neC b o e hx) e1 (I.base.free b o e n hx)
 ·obtain⟨o',e1⟩:=I.base.there b o e hx
  exact there b o' (neC b o e hx) e1
 ·obtain⟨m1,e1⟩:=I.base.tbls b ps e
  obtain⟨m2,e2⟩:=tbls b _ e1;exact⟨m1++m2,by rw[e2,Array.append_assoc]⟩
 ·obtain⟨m,hn,hl⟩:=I.loc
  exists m,ns m hn,fun i x v e1 e2 e3=>?_;obtain⟨u,r,l⟩:=hl i x v e1 e2 e3;exists u,r,?_;rcases l with l|⟨k,c,e,z⟩
  ·exact .inl l
  ·exact .inr ⟨k,c,e,cellK x c e _ z⟩
 ·obtain⟨v,z⟩:=I.cell x c e
  exact⟨v,cellK x c e v z⟩
 ·obtain⟨m,⟨o,_,_,ho,_⟩,_⟩:=I.loc
  exact free _ o (fun z=>(hch _ z).2.1 rfl) ho I.free
 ·obtain⟨v,o,ho,hd⟩:=I.cell x c e
  exact free c o (fun z=>(hch c z).2.2.1 x c e rfl) ho (I.freeC x c e)
 ·obtain⟨e,n,ne,nf,d⟩:=I.pin p hp
  have nch:p.1∉ch:=fun z=>(hch p.1 z).2.2.2 p hp rfl;exact⟨keep p.1 p.2 ne nf nch e n,free p.1 p.2 nch e n,ne,nf,d⟩
theorem Inv.un{t':Nat}(I:Inv X pins σ H s)(u:Un X.fs [] H H' s.heap h')(hok:HOk X.prog X.w H' h'):Inv X pins σ H' { s with heap:=h',toks:=t' }:=by
 obtain⟨m,⟨o,es,ep,ho,r⟩,_⟩:=id I.loc;obtain⟨sl,hL⟩:=u.any ho I.free (by simp)
 exact I.step (g':=s.gens) (d':=s.drawn) (ch:=[]) (fun _ z=>nomatch z) (fun b o _ hb _ e n=>u.keep b o e n hb (by simp)) (fun b o _ hb _ e n=>u.slot b o e n hb (by simp)) (fun b o _ e n=>u.free b o e n (by simp)) (fun b o _ e=>u.there b o e (by simp)) u.tups u.frzs u.tbls (fun m' hm=>by
  obtain⟨o',es',ep',ho',r'⟩:=hm;rw[ho] at ho';cases ho';exact⟨_,es',ep',hL,r'⟩) hok I.bare
theorem Inv.call{g':Array GenState}{t':Nat}{d':Drawn}{ch:List Addr}(I:Inv X pins σ H s)(u:Un (frs X.stack) ch H H' s.heap h')(hok:HOk X.prog X.w H' h')(hg:AllBare g')
  (hch:∀b∈ch,(b∈X.ex\/X.s₀.heap.objs.size<=b)/\b≠X.env.locals/\(∀x c,X.env.cells.lookup x=some c->c≠b)/\∀p∈X.pn++pins,p.1≠b) :
  Inv X pins σ H' { s with heap:=h',gens:=g',drawn:=d',toks:=t' }:=by
 obtain⟨m,⟨o,es,ep,ho,r⟩,_⟩:=id I.loc;obtain⟨sl,hL⟩:=u.any ho I.free fun z=>(hch _ z).2.1 rfl;exact I.step (ch:=ch) hch (fun b o hL hb hc e n=>u.keep b o e n (fun z=>(List.mem_cons.mp (I.stkSub b z)).elim hL hb) hc) (fun b o _ _ hc e n=>u.any e n hc) (fun b o hc e n=>u.free b o e n hc) (fun b o hc e=>u.there b o e hc) u.tups u.frzs u.tbls (fun m' hm=>by
  obtain⟨o',es',ep',ho',r'⟩:=hm;rw[ho] at ho';cases ho';exact⟨_,es',ep',hL,r'⟩) hok hg
theorem Inv.turned{t':Nat}{it:Addr}(I:Inv X pins σ H s)(k:∀b o,b≠it->s.heap.get? b=some o->h'.get? b=some o)(hn:H it=none)(hL:it≠X.env.locals)
  (h1:it∈X.ex\/X.s₀.heap.objs.size<=it) (h2:∀x c,X.env.cells.lookup x=some c->c≠it) (h3:∀p∈X.pn++pins,p.1≠it):Inv X pins σ H { s with heap:=h',toks:=t' }:=by
 have nit:∀b u,H b=some u->b≠it:=fun b u e z=>by rw[z,hn] at e;cases e
 refine I.step (g':=s.gens) (d':=s.drawn) (ch:=[it]) (fun b hb=>?_) (fun b o _ _ hc e _=>k b o (fun z=>hc (by simp [z])) e) (fun b o _ _ hc e _=>⟨o.slots,k b o (fun z=>hc (by simp [z])) e⟩) (fun _ _ _ _ n=>n)
  (fun b o hc e=>⟨o,k b o (fun z=>hc (by simp [z])) e⟩) (fun _ _ e=>e) (fun _ _ _ e=>e) (fun b ps e=>⟨#[],by rw[e];simp⟩) (fun m hm=>?_) (fun b u e=>?_) I.bare
 ·have e:b=it:=by simpa using hb
  subst e;exact⟨h1,hL,h2,h3⟩
 ·obtain⟨o,es,ep,ho,r⟩:=hm
  exact⟨o,es,ep,k _ o (Ne.symm hL) ho,r⟩
 ·refine(I.hok b u e).stay (fun c v hc q=>k c v ?_ q) (fun _ q=>q) fun _ _ q=>q
  rcases hc with z|z
  ·rw[z];exact nit b u e
  ·exact nit c _ z
theorem Inv.tok(I:Inv X pins σ H s)(t:Nat):Inv X pins σ H { s with toks:=t }:=I.un (h':=s.heap) (t':=t) Un.refl I.hok
theorem Inv.kept{t':Nat}(I:Inv X pins σ H s)(k:∀b u,s.heap.get? b=some u->h'.get? b=some u):Inv X pins σ H { s with heap:=h',toks:=t' }:=I.un (Un.kept k) (I.hok.kept k)
theorem Inv.laid{a:Addr}{o:HO}{t':Nat}(I:Inv X pins σ H s)(k:∀b u,s.heap.get? b=some u->h'.get? b=some u)(hp:s.heap.objs.size<=a)(new:yB X.prog X.w (upd H a o) h' a o):
  Inv X pins σ (upd H a o) { s with heap:=h',toks:=t' }:=I.un (Un.laid k hp (I.hok.fresh hp)) (I.hok.laid k hp new)
theorem Inv.write{x e:Addr}{o:HO}{t':Nat}(I:Inv X pins σ H s)(mu:Mut (H x))(he:e=x\/H e=some (.own x))(k:∀b u,b≠e->s.heap.get? b=some u->h'.get? b=some u)(heo:∃u,h'.get? e=some u)
  (new:yB X.prog X.w (upd H x o) h' x o):Inv X pins σ (upd H x o) { s with heap:=h',toks:=t' }:=I.un (Un.write mu he k heo) (I.hok.write mu he k heo new)
theorem Inv.weak{σ':List (Option V)}(I:Inv X pins σ H s)(hl : σ'.length=σ.length)(w:∀(i:Nat) v,σ'[i]?=some (some v)->σ[i]?=some (some v)):Inv X pins σ' H s:=
 ⟨I.ok,I.os,I.bare,I.base,let ⟨m,hn,hl'⟩:=I.loc;⟨m,hn,fun i x v e1 e2 e3=>hl' i x v e1 (w i v e2) e3⟩,I.cell,I.free,I.freeC,I.pin,I.hok,hl.trans I.len⟩
theorem Inv.pins_of{pins':PnL}(I:Inv X pins σ H s)(h:∀p∈pins',s.heap.get? p.1=some p.2/\H p.1=none/\p.1≠X.env.locals/\p.1∉X.fs/\∀v,p.2.data≠.cell v):Inv X pins' σ H s:=
 ⟨I.ok,I.os,I.bare,I.base,I.loc,I.cell,I.free,I.freeC,fun p hp=>(List.mem_append.mp hp).elim (fun z=>I.pin p (mem_append_left _ z)) (h p),I.hok,I.len⟩
theorem qu{N:List Str}(hN:N.Nodup){i j:Nat}{x:Str}(a:N[i]?=some x)(b:N[j]?=some x):i=j:=by
 obtain⟨h1,e1⟩:=List.getElem?_eq_some_iff.mp a;obtain⟨h2,e2⟩:=List.getElem?_eq_some_iff.mp b;exact(List.getElem_inj hN).mp (e1.trans e2.symm)
theorem zal{M:Model}{A:Around}{E:VSP}{i:Nat}{x:Str}{v:V}{u:Value}{Q:Unit->Shared->Prop}(I:Inv X pins σ H s)(hN:X.N.Nodup)(hi:X.N[i]?=some x)(hx:Loc X.env.scope x)(r:zW v u)
  (h:∀s',Inv X pins (σ.set i (some v)) H s'->(∃a,Heap.SameBut a s.heap s'.heap/\(a=X.env.locals\/X.env.cells.lookup x=some a))->Q () s') (hf:X.fn x=true\/X.env.scope.names.lookup x=some .local:=by first|exact .inl rfl|exact .inr rfl|assumption):wpAny M A (storeName X.env x u) Q E s:=by
 obtain⟨m,hn,hl⟩:=id I.loc;have hcls:(X.env.scope.kind==.class||(X.env.scope.kind==.module&&X.env.locals != X.env.globals))=false:=by rw[I.ok.kind];rfl
 have hiσ : i<σ.length:=by rw[I.len];exact(List.getElem?_eq_some_iff.mp hi).1
 have cne:=I.cne;have tracked:∀{a:Addr}{h':Heap},(∃o,s.heap.get? a=some o/\H a=none)->Heap.SameBut a s.heap h'->HOk X.prog X.w H h':=fun {a h'} ha hs b ob e=>by
  obtain⟨_,_,hfree⟩:=ha;refine(I.hok b ob e).stay (fun c w' hc q=>(hs.2 c ?_).trans q) (fun _ q=>q) fun _ _ q=>q;rintro rfl;rcases hc with rfl|hc
  ·rw[hfree] at e;cases e
  ·rw[hfree] at hc;cases hc
 rcases hx with hk|hk
 ·refine wpAny_storeName_local hk hn (fun h' hn' hs=>?_) hcls
  obtain⟨oL,_,_,hoL,_⟩:=id hn;refine h _ ⟨I.ok,I.os,I.bare,⟨fun b o e n hb hx=>?_,fun b o e n hb hx=>?_,I.base.free,fun b o e hx=>?_,I.base.tups,I.base.frzs,I.base.tbls⟩,⟨_,hn',fun j y v' e1 e2 e3=>?_⟩,fun y c e=>?_,I.free,I.freeC,fun p hp=>?_,tracked ⟨oL,hoL,I.free⟩ hs,by simpa using I.len⟩ ⟨_,hs,.inl rfl⟩
  ·exact(hs.2 b (ne_of_lt (lt_of_lt_of_le (aI e) I.ok.above))).trans (I.base.keep b o e n hb hx)
  ·obtain⟨sl,e1⟩:=I.base.slot b o e n hb hx
   exact⟨sl,(hs.2 b (ne_of_lt (lt_of_lt_of_le (aI e) I.ok.above))).trans e1⟩
  ·obtain⟨o',e1⟩:=I.base.there b o e hx
   exact⟨o',(hs.2 b (ne_of_lt (lt_of_lt_of_le (aI e) I.ok.above))).trans e1⟩
  ·by_cases hj:j=i
   ·subst hj
    rw[hi] at e1;cases e1;rw[getElem?_set_self hiσ] at e2;cases e2;exact⟨u,r,.inl ⟨hk,by simp⟩⟩
   ·rw[getElem?_set_ne (Ne.symm hj)] at e2
    obtain⟨u',r',q⟩:=hl j y v' e1 e2 e3;exists u',r',?_;rcases q with ⟨k,e⟩|⟨k,c,e,z⟩
    ·refine .inl ⟨k,?_⟩
     have:y≠x:=fun e=>hj (qu hN e1 (e ▸ hi))
     simp [this,e]
    ·exact .inr ⟨k,c,e,z.sameBut hs (cne y c e)⟩
  ·obtain⟨w',z⟩:=I.cell y c e
   exact⟨w',z.sameBut hs (cne y c e)⟩
  ·obtain⟨e,n,ne,nf,d⟩:=I.pin p hp
   exact⟨(hs.2 p.1 ne).trans e,n,ne,nf,d⟩
 ·have hfn:X.fn x=true:=by
   rcases hf with z|z
   ·exact z
   ·rw[z] at hk;cases hk
  obtain⟨c,hc⟩:=I.ok.has x (.inl hk);obtain⟨w',z⟩:=I.cell x c hc;refine wpAny_storeName_cell I.ok.kind hk hc z (fun h' hc' hs=>?_);obtain⟨oc,hoc,hocd⟩:=id z;refine h { s with heap:=h' } ⟨I.ok,I.os,I.bare,⟨fun b o e n hb hx=>?_,fun b o e n hb hx=>?_,I.base.free,fun b o e hx=>?_,I.base.tups,I.base.frzs,I.base.tbls⟩,⟨m,hn.sameBut hs (Ne.symm (cne x c hc)),fun j y v' e1 e2 e3=>?_⟩,fun y c' e=>?_,I.free,I.freeC,fun p hp=>?_,tracked ⟨oc,hoc,I.freeC x c hc⟩ hs,by simpa using I.len⟩ ⟨c,hs,.inr hc⟩
  ·exact(hs.2 b (ne_of_lt (lt_of_lt_of_le (aI e) (I.ok.cab x c hfn hc)))).trans (I.base.keep b o e n hb hx)
  ·obtain⟨sl,e1⟩:=I.base.slot b o e n hb hx
   exact⟨sl,(hs.2 b (ne_of_lt (lt_of_lt_of_le (aI e) (I.ok.cab x c hfn hc)))).trans e1⟩
  ·obtain⟨o',e1⟩:=I.base.there b o e hx
   exact⟨o',(hs.2 b (ne_of_lt (lt_of_lt_of_le (aI e) (I.ok.cab x c hfn hc)))).trans e1⟩
  ·by_cases hj:j=i
   ·subst hj
    rw[hi] at e1;cases e1;rw[getElem?_set_self hiσ] at e2;cases e2;exact⟨u,r,.inr ⟨.inl hk,c,hc,hc'⟩⟩
   ·rw[getElem?_set_ne (Ne.symm hj)] at e2
    obtain⟨u',r',q⟩:=hl j y v' e1 e2 e3;exists u',r',?_;rcases q with q|⟨k,c',e,z'⟩
    ·exact .inl q
    ·refine .inr ⟨k,c',e,z'.sameBut hs ?_⟩
     rintro rfl;exact hj (qu hN e1 (I.ok.inj _ _ _ e hc ▸ hi))
  ·by_cases hcc:c'=c
   ·subst hcc;exact⟨_,hc'⟩
   ·obtain⟨w2,z2⟩:=I.cell y c' e
    exact⟨w2,z2.sameBut hs hcc⟩
  ·obtain⟨e,n,ne,nf,d⟩:=I.pin p hp
   exists (hs.2 p.1 ?_).trans e,n,ne,nf,d;intro q;rw[q,hoc] at e;have q':oc=p.2:=Option.some.inj e;exact d w' (by rw[<- q'];exact hocd)
theorem wy{M:Model}{A:Around}{E:VSP}{i:Nat}{x:Str}{v:V}{u:Value}{Q:Unit->Shared->Prop}(I:Inv X pins σ H s)(hN:X.N.Nodup)(hi:X.N[i]?=some x)(hx:Loc X.env.scope x)(r:zW v u)
  (h:∀s',Inv X pins (σ.set i (some v)) H s'->Q () s') (hf:X.fn x=true\/X.env.scope.names.lookup x=some .local:=by first|exact .inl rfl|exact .inr rfl|assumption):wpAny M A (storeName X.env x u) Q E s:=
 zal I hN hi hx r (fun s' I' _=>h s' I') hf
theorem Inv.call'{s':Shared}{ch:List Addr}(I:Inv X pins σ H s)(ho:s'.os=s.os)(u:Un (frs X.stack) ch H H' s.heap s'.heap)(hok:HOk X.prog X.w H' s'.heap)(hg:AllBare s'.gens)
  (hch:∀b∈ch,(b∈X.ex\/X.s₀.heap.objs.size<=b)/\b≠X.env.locals/\(∀x c,X.env.cells.lookup x=some c->c≠b)/\∀p∈X.pn++pins,p.1≠b):Inv X pins σ H' s':=by
 obtain⟨h',g',d',t',o'⟩:=s';have e:o'=s.os:=ho;subst e;exact I.call (g':=g') (t':=t') (d':=d') u hok hg hch
abbrev XK:=Value->Option Addr->Hp->Prop
abbrev St:=List (Option V)
abbrev VK:=V->Hp->Prop
abbrev TE:=St->Hp->VK->Prop
abbrev TT:=St->Hp->(Bool->Hp->Prop)->Prop
abbrev TA:=St->Hp->(List V->Hp->Prop)->Prop
structure vc where
 nx:St->Hp->Prop
 rt:VK
 bk:St->Hp->Prop:=fun _ _=>False
 ct:St->Hp->Prop:=fun _ _=>False
abbrev TS:=vc->St->Hp->Prop
def EP(X:Cx)(pins:PnL)(σ : St)(Q:VK)(u:Value)(s':Shared):Prop:=∃v H',Inv X pins σ H' s'/\zW v u/\Q v H'
def TP(X:Cx)(pins:PnL)(σ : St)(Q:Bool->Hp->Prop)(b:Bool)(s':Shared):Prop:=∃H',Inv X pins σ H' s'/\Q b H'
def AP(X:Cx)(pins:PnL)(σ : St)(Q:List V->Hp->Prop)(us:List Value)(s':Shared):Prop:=∃vs H',Inv X pins σ H' s'/\zV vs us/\Q vs H'
def SP(X:Cx)(pins:PnL)(D:vc)(f:Flow)(s':Shared):Prop:=
 match f with
 | .next=>∃σ' H',Inv X pins σ' H' s'/\D.nx σ' H'
 | .brk=>∃σ' H',Inv X pins σ' H' s'/\D.bk σ' H'
 | .cont=>∃σ' H',Inv X pins σ' H' s'/\D.ct σ' H'
 | .ret u=>∃v σ' H',Inv X pins σ' H' s'/\zW v u/\D.rt v H'
structure PE(X:Cx)(e:Expr)(t:TE):Prop where
 run:∀(pins:PnL) (s:Shared) (σ : St) (H:Hp) (Q:VK),Inv X pins σ H s->t σ H Q->wpAny (model X.prog X.w) X.A (eval e X.env) (EP X pins σ Q) X.xe s
instance {X:Cx}{e:Expr}{t:TE}:CoeFun (PE X e t) (fun _=>∀(pins:PnL) (s:Shared) (σ : St) (H:Hp) (Q:VK),Inv X pins σ H s->t σ H Q->wpAny (model X.prog X.w) X.A (eval e X.env) (EP X pins σ Q) X.xe s):=⟨PE.run⟩
structure PT(X:Cx)(e:Expr)(t:TT):Prop where
 run:∀(pins:PnL) (s:Shared) (σ : St) (H:Hp) (Q:Bool->Hp->Prop),Inv X pins σ H s->t σ H Q->wpAny (model X.prog X.w) X.A (isTrue e X.env (eval e X.env)) (TP X pins σ Q) X.xe s
instance {X:Cx}{e:Expr}{t:TT}:CoeFun (PT X e t) (fun _=>∀(pins:PnL) (s:Shared) (σ : St) (H:Hp) (Q:Bool->Hp->Prop),Inv X pins σ H s->t σ H Q->wpAny (model X.prog X.w) X.A (isTrue e X.env (eval e X.env)) (TP X pins σ Q) X.xe s):=⟨PT.run⟩
structure PW(X:Cx)(e:Expr)(t:TT):Prop where
 run:∀(whole:Sem Value) (pins:PnL) (s:Shared) (σ : St) (H:Hp) (Q:Bool->Hp->Prop),Inv X pins σ H s->t σ H Q->wpAny (model X.prog X.w) X.A (isTrue e X.env whole) (TP X pins σ Q) X.xe s
instance {X:Cx}{e:Expr}{t:TT}:CoeFun (PW X e t) (fun _=>∀(whole:Sem Value) (pins:PnL) (s:Shared) (σ : St) (H:Hp) (Q:Bool->Hp->Prop),Inv X pins σ H s->t σ H Q->wpAny (model X.prog X.w) X.A (isTrue e X.env whole) (TP X pins σ Q) X.xe s):=⟨PW.run⟩
theorem yV{X:Cx}{e:Expr}{t:TT}(h:PW X e t):PT X e t:=⟨h _⟩
structure PA(X:Cx)(es:List Expr)(t:TA):Prop where
 run:∀(pos:Pos) (pins:PnL) (s:Shared) (σ : St) (H:Hp) (Q:List V->Hp->Prop),Inv X pins σ H s->t σ H Q->wpAny (model X.prog X.w) X.A (spliced (backTo pos (starEach es X.env))) (AP X pins σ Q) X.xe s
instance {X:Cx}{es:List Expr}{t:TA}:CoeFun (PA X es t) (fun _=>∀(pos:Pos) (pins:PnL) (s:Shared) (σ : St) (H:Hp) (Q:List V->Hp->Prop),Inv X pins σ H s->t σ H Q->wpAny (model X.prog X.w) X.A (spliced (backTo pos (starEach es X.env))) (AP X pins σ Q) X.xe s):=⟨PA.run⟩
structure PS(X:Cx)(st:Stmt)(t:TS):Prop where
 run:∀(pins:PnL) (s:Shared) (σ : St) (H:Hp) (D:vc),Inv X pins σ H s->t D σ H->wpAny (model X.prog X.w) X.A (exec st X.env) (SP X pins D) X.xe s
instance {X:Cx}{st:Stmt}{t:TS}:CoeFun (PS X st t) (fun _=>∀(pins:PnL) (s:Shared) (σ : St) (H:Hp) (D:vc),Inv X pins σ H s->t D σ H->wpAny (model X.prog X.w) X.A (exec st X.env) (SP X pins D) X.xe s):=⟨PS.run⟩
structure PSs(X:Cx)(st:List Stmt)(t:TS):Prop where
 run:∀(pins:PnL) (s:Shared) (σ : St) (H:Hp) (D:vc),Inv X pins σ H s->t D σ H->wpAny (model X.prog X.w) X.A (execs st X.env) (SP X pins D) X.xe s
instance {X:Cx}{st:List Stmt}{t:TS}:CoeFun (PSs X st t) (fun _=>∀(pins:PnL) (s:Shared) (σ : St) (H:Hp) (D:vc),Inv X pins σ H s->t D σ H->wpAny (model X.prog X.w) X.A (execs st X.env) (SP X pins D) X.xe s):=⟨PSs.run⟩
theorem thn{α : Type}{t:Sem α}{Q Q' : α->Shared->Prop}{M:Model}{A:Around}{E:VSP}{s:Shared}(h:wpAny M A t Q E s)(hQ:∀a s,Q a s->Q' a s):wpAny M A t Q' E s:=wpAny_mono h hQ fun _ _ x=>x
inductive zmX(i:Nat)(σ : St)(H:Hp)(Q:VK):Prop where
 | mk (v:V) (e : σ[i]?=some (some v)) (q:Q v H)
def zjO(i:Nat):TE:=fun σ H Q=>zmX i σ H Q
def tC(v:V):TE:=fun _ H Q=>Q v H
theorem zkm{i:Nat}{x:Str}{pos:Pos}(hN:X.N[i]?=some x)(hv:Vis X.env.scope x)(hd:(x==("__debug__" : Str))=false:=by decide)(hcd:(x==("__classdict__" : Str))=false:=by decide):PE X (.Name x pos) (zjO i):=by
 exists ?_;intro pins s σ H Q I h;obtain⟨v,e,h⟩:=h;obtain⟨m,hn,hl⟩:=I.loc;obtain⟨u,r,l⟩:=hl i x v hN e hv;have fin:EP X pins σ Q u s:=⟨v,H,I,r,h⟩;rcases l with ⟨hk,hm⟩|⟨hk,c,hc,hcell⟩
 ·exact wpAny_Name (wpAny_loadName_local I.ok.kind hk hn hm fin) hd
 ·rcases hk with hk|hk
  ·exact wpAny_Name (wpAny_loadName_cell I.ok.kind hk hc hcell fin) hd
  ·exact wpAny_Name (wpAny_loadName_free I.ok.kind hk hc hcell fin hcd) hd
theorem zg{i j pos}:PE X (.Constant (.int i) j pos) (tC (.int i)):=⟨fun _ _ _ H _ I h=>wpAny_Constant_int ⟨.int i,H,I.tok _,⟨_,rfl⟩,h⟩⟩
theorem zeg{b j pos}:PE X (.Constant (.bool b) j pos) (tC (.bl b)):=⟨fun _ _ _ H _ I h=>Constant_bool ⟨.bl b,H,I,rfl,h⟩⟩
theorem zdd{j pos}:PE X (.Constant .none j pos) (tC .non):=⟨fun _ _ _ H _ I h=>Constant_none ⟨.non,H,I,rfl,h⟩⟩
theorem zm{x j pos}:PE X (.Constant (.str x) j pos) (tC (.str x)):=⟨fun _ _ _ H _ I h=>Calls.Constant_str ⟨.str x,H,I.tok _,⟨_,rfl⟩,h⟩⟩
def Gl(X:Cx)(x:Str):Prop:=X.env.kindOf x=some .globalImplicit
theorem wa{E:VSP}{pins:PnL}{s:Shared}{σ : St}{H:Hp}{x:Str}{u:Value}{pos:Pos}{Q:VSP}(I:Inv X pins σ H s)(hg:Gl X x)(hm:X.mg x=some u)(h:Q u s)
  (hd:(x==("__debug__" : Str))=false:=by decide):wpAny (model X.prog X.w) X.A (eval (.Name x pos) X.env) Q E s:=
 Calls.Name_function_global I.ok.kind hg (Calls.loadGlobal_global (by rw[I.ok.glob];exact I.mod.glob.keeps I.bk) hm h) hd
theorem vP{E:VSP}{pins:PnL}{s:Shared}{σ : St}{H:Hp}{x:Str}{u:Value}{pos:Pos}{Q:VSP}(I:Inv X pins σ H s)(hg:Gl X x)(hm:X.mg x=none)(hv:bootBuiltins x=some u)(h:Q u s)
  (hn:x≠"__name__":=by decide) (hd:(x==("__debug__" : Str))=false:=by decide):wpAny (model X.prog X.w) X.A (eval (.Name x pos) X.env) Q E s:=by
 obtain⟨mb,h1,h2⟩:=I.mod.blt;exact Calls.Name_function_global I.ok.kind hg (Calls.loadGlobal_builtin (by rw[I.ok.glob];exact I.mod.glob.keeps I.bk) hm (by rw[I.ok.blt];exact h1.keeps I.bk) ((h2 x hn).trans hv) h) hd
theorem yk{x:Str}{v:V}{u:Value}{pos:Pos}(hg:Gl X x)(hm:X.mg x=some u)(r:zW v u)(hd:(x==("__debug__" : Str))=false:=by decide):PE X (.Name x pos) (tC v):=⟨fun _ _ _ H _ I h=>wa I hg hm ⟨v,H,I,r,h⟩ hd⟩
theorem uL{x:Str}{v:V}{u:Value}{pos:Pos}(hg:Gl X x)(hm:X.mg x=none)(hv:bootBuiltins x=some u)(r:zW v u)(hn:x≠"__name__":=by decide)(hd:(x==("__debug__" : Str))=false:=by decide):PE X (.Name x pos) (tC v):=⟨fun _ _ _ H _ I h=>vP I hg hm hv ⟨v,H,I,r,h⟩ hn hd⟩
variable {a b:Expr}{ta tb:TE}{pos:Pos}
structure PC(X:Cx)(op:CmpOp)(a b:Expr)(t:TE):Prop where
 run:∀(pins:PnL) (s:Shared) (σ : St) (H:Hp) (Q:VK),Inv X pins σ H s->t σ H Q->
  wpAny (model X.prog X.w) X.A (eval a X.env) (fun v s₁=>wpAny (model X.prog X.w) X.A (eval b X.env) (fun u s₂=>wpAny (model X.prog X.w) X.A (compareOp op v u) (EP X pins σ Q) X.xe s₂) X.xe s₁) X.xe s
instance {X:Cx}{op:CmpOp}{a b:Expr}{t:TE}:CoeFun (PC X op a b t) (fun _=>∀(pins:PnL) (s:Shared) (σ : St) (H:Hp) (Q:VK),Inv X pins σ H s->t σ H Q->
  wpAny (model X.prog X.w) X.A (eval a X.env) (fun v s₁=>wpAny (model X.prog X.w) X.A (eval b X.env) (fun u s₂=>wpAny (model X.prog X.w) X.A (compareOp op v u) (EP X pins σ Q) X.xe s₂) X.xe s₁) X.xe s):=⟨PC.run⟩
theorem zg5(b:Expr){op:CmpOp}(h:op≠.In)(h2:op≠.NotIn):behindInMarks op b=false:=by
 have e1:(op==CmpOp.In)=false:=by cases op <;> first|rfl|exact absurd rfl h
 have e2:(op==CmpOp.NotIn)=false:=by cases op <;> first|rfl|exact absurd rfl h2
 cases b <;> simp [behindInMarks,e1,e2]
def zmf(ta:TE):TE:=fun σ H Q=>ta σ H fun x H1=>Q (.bl (decide (x=.non))) H1
def zlc(ta:TE):TE:=fun σ H Q=>ta σ H fun x H1=>Q (.bl (!decide (x=.non))) H1
theorem zW.none_iff{x:V}{v:Value}(r:zW x v):(v==Value.none)=decide (x=.non):=by
 cases x with
 | non=>cases r;rfl
 | bl _=>cases r;rfl
 | int _=>obtain⟨t,rfl⟩:=r;rfl
 | str _=>obtain⟨t,rfl⟩:=r;rfl
 | byt _=>obtain⟨t,rfl⟩:=r;rfl
 | flt _=>obtain⟨t,rfl⟩:=r;rfl
 | ref _=>cases r;rfl
 | ty _=>cases r;rfl
theorem zbj{j pos'}(ha:PE X a ta):PC X .Is a (.Constant .none j pos') (zmf ta):=by
 exists ?_;intro pins s σ H Q I h;refine thn (ha pins s σ H _ I h) fun v s1 ⟨x,H1,I1,r1,q1⟩=>?_;exact Constant_none (is_none_gen ⟨.bl _,H1,I1,by rw[r1.none_iff];rfl,q1⟩)
theorem zin{j pos'}(ha:PE X a ta):PC X .IsNot a (.Constant .none j pos') (zlc ta):=by
 exists ?_;intro pins s σ H Q I h;refine thn (ha pins s σ H _ I h) fun v s1 ⟨x,H1,I1,r1,q1⟩=>?_;exact Constant_none (isnot_none_gen ⟨.bl _,H1,I1,by rw[r1.none_iff];rfl,q1⟩)
def tB(t:TE):TT:=fun σ H Q=>t σ H fun x H1=>∃c,x=.bl c/\Q c H1
theorem vk{op:CmpOp}{t:TE}(h:PC X op a b t)(h1:behindInMarks op b=false:=by first|exact zg5 _ (by decide) (by decide)|rfl):PT X (.Compare a [op] [b] pos) (tB t):=by
 exists ?_;intro pins s σ H Q I hw;refine wpAny_isTrue_Compare1 (thn (h pins s σ H _ I hw) fun v s1 h1=>thn h1 fun u s2 h2=>thn h2 fun c s3 ⟨x,H1,I1,r1,q1⟩=>?_) h1;obtain⟨d,rfl,q⟩:=q1;cases r1;exact wpAny_truthy_bool ⟨H1,I1,q⟩
theorem yY{e:Expr}{t:TE}(h:PE X e t)(he:∀whole,isTrue e X.env whole=(do let v <- whole;standAt e.pos;holding [v] (truthy v)):=by intro _;rfl):PT X e (tB t):=by
 exists ?_;intro pins s σ H Q I hw;refine isTrue_plain (thn (h pins s σ H _ I hw) fun v s1 ⟨x,H1,I1,r1,q1⟩=>?_) (he _);obtain⟨d,rfl,q⟩:=q1;cases r1;exact wpAny_truthy_bool ⟨H1,I1,q⟩
variable {tA tB':TT}{wE:List Expr}
def zml(t u:TT):TT:=fun σ H Q=>t σ H fun c H1=>if c=true then u σ H1 Q else Q false H1
def tOr(t u:TT):TT:=fun σ H Q=>t σ H fun c H1=>if c=true then Q true H1 else u σ H1 Q
def zmd(t:TT):TT:=fun σ H Q=>t σ H fun c H1=>Q (!c) H1
theorem yy(ha:PT X a tA):PW X (.BoolOp .And [a] pos) tA:=by
 exists ?_;intro wh pins s σ H Q I h;refine isTrue_and (thn (ha pins s σ H Q I h) fun c s1 e=>?_);cases c with
 | true=>exact isTrue_and_nil e
 | false=>exact e
theorem vi(ha:PT X a tA):PW X (.BoolOp .Or [a] pos) tA:=by
 exists ?_;intro wh pins s σ H Q I h;refine isTrue_or (thn (ha pins s σ H Q I h) fun c s1 e=>?_);cases c with
 | false=>exact isTrue_or_nil e
 | true=>exact e
theorem yX(ha:PT X a tA)(hb:PW X (.BoolOp .And (b::wE) pos) tB'):PW X (.BoolOp .And (a::b::wE) pos) (zml tA tB'):=by
 exists ?_;intro wh pins s σ H Q I h;refine isTrue_and (thn (ha pins s σ H _ I h) fun c s1 ⟨H1,I1,q1⟩=>?_);cases c with
 | true=>exact hb wh pins s1 σ H1 Q I1 q1
 | false=>exact⟨H1,I1,q1⟩
theorem vB(ha:PT X a tA)(hb:PW X (.BoolOp .Or (b::wE) pos) tB'):PW X (.BoolOp .Or (a::b::wE) pos) (tOr tA tB'):=by
 exists ?_;intro wh pins s σ H Q I h;refine isTrue_or (thn (ha pins s σ H _ I h) fun c s1 ⟨H1,I1,q1⟩=>?_);cases c with
 | true=>exact⟨H1,I1,q1⟩
 | false=>exact hb wh pins s1 σ H1 Q I1 q1
theorem xT(ha:PT X a tA):PT X (.UnaryOp .Not a pos) (zmd tA):=by
 exists ?_;intro pins s σ H Q I h;exact isTrue_not (ha pins s σ H (fun c H1=>Q (!c) H1) I h)
def zli(ta tb:TE):TE:=fun σ H Q=>ta σ H fun x H1=>∃c,x=.bl c/\if c=true then tb σ H1 Q else Q (.bl false) H1
def zlb(ta:TE):TE:=fun σ H Q=>ta σ H fun x H1=>∃c,x=.bl c/\Q (.bl (!c)) H1
theorem zdc{op}{t:TE}(h:PE X a t):PE X (.BoolOp op [a] pos) t:=⟨fun pins s σ H Q I hw=>BoolOp_one (h pins s σ H Q I hw)⟩
theorem zgC(ha:PE X a ta)(hb:PE X (.BoolOp .And (b::wE) pos) tb):PE X (.BoolOp .And (a::b::wE) pos) (zli ta tb):=by
 exists ?_;intro pins s σ H Q I h;refine BoolOp_and (thn (ha pins s σ H _ I h) fun v s1 ⟨x,H1,I1,r1,q1⟩=>?_);obtain⟨c,rfl,q1⟩:=q1;cases r1;refine wpAny_truthy_bool ?_;cases c with
 | true=>exact hb pins s1 σ H1 Q I1 q1
 | false=>exact⟨.bl false,H1,I1,rfl,q1⟩
theorem zko(ha:PE X a ta):PE X (.UnaryOp .Not a pos) (zlb ta):=by
 exists ?_;intro pins s σ H Q I h;refine UnaryOp_ (thn (ha pins s σ H _ I h) fun v s1 ⟨x,H1,I1,r1,q1⟩=>?_);obtain⟨c,rfl,q1⟩:=q1;cases r1;exact not_of (wpAny_truthy_bool ⟨.bl (!c),H1,I1,rfl,q1⟩)
def tIf(t:TT)(ta tb:TE):TE:=fun σ H Q=>t σ H fun c H1=>if c=true then ta σ H1 Q else tb σ H1 Q
theorem zbX{c:Expr}(hc:PT X c tA)(ha:PE X a ta)(hb:PE X b tb):PE X (.IfExp c a b pos) (tIf tA ta tb):=by
 exists ?_;intro pins s σ H Q I h;refine wpAny_IfExp (thn (hc pins s σ H _ I h) fun d s1 ⟨H1,I1,q1⟩=>?_);cases d with
 | true=>exact ha pins s1 σ H1 Q I1 q1
 | false=>exact hb pins s1 σ H1 Q I1 q1
def SqL(K:Frag)(H:Hp)(a:Addr)(xs:List V):Prop:=
 Rd H a (.lst xs)\/
  ∃(o:Obj) (its:Array Value) (n:Nat),K.lookup a=some o/\o.cls=.type "list"/\o.dict=none/\o.data=.seq its n/\its.size<=sizeLine/\zV xs its.toList
def SqT(K:Frag)(H:Hp)(a:Addr)(xs:List V):Prop:=
 Rd H a (.tup xs)\/
  ∃(o:Obj) (its:Array Value) (n:Nat),K.lookup a=some o/\o.cls=.type "tuple"/\o.data=.seq its n/\its.size<=sizeLine/\zV xs its.toList
def zmS:Value->Option V
 | .none=>some .non
 | .bool b=>some (.bl b)
 | .int i _=>some (.int i)
 | .str x _=>some (.str x)
 | .bytes b _=>some (.byt b)
 | .float b _=>some (.flt b)
 | .ref a=>some (.ref a)
 | .type n=>some (.ty n)
 | _=>none
theorem zW.abs{x:V}{u:Value}(r:zW x u):zmS u=some x:=by
 cases x with
 | non=>cases r;rfl
 | bl _=>cases r;rfl
 | int _=>obtain⟨t,rfl⟩:=r;rfl
 | str _=>obtain⟨t,rfl⟩:=r;rfl
 | byt _=>obtain⟨t,rfl⟩:=r;rfl
 | flt _=>obtain⟨t,rfl⟩:=r;rfl
 | ref _=>cases r;rfl
 | ty _=>cases r;rfl
theorem zW.inj{x y:V}{u:Value}(r:zW x u)(q:zW y u):x=y:=Option.some.inj (r.abs.symm.trans q.abs)
theorem zV.inj:∀{xs ys:List V}{us:List Value},zV xs us->zV ys us->xs=ys
 | _,_,_,.nil,.nil=>rfl
 | _,_,_,.cons r t,.cons r' t'=>by rw[r.inj r',zV.inj t t']
end
section
variable {X:Cx}{pins:PnL}{σ:St}{H:Hp}{s:Shared}{a:Addr}{xs ys:List V}
theorem ze{K:Frag}(h:H a=some (.lst xs)):SqL K H a xs:=.inl (.inl h)
theorem zq{K:Frag}(h:H a=some (.tup xs)):SqT K H a xs:=.inl (.inl h)
theorem Inv.list(I:Inv X pins σ H s)(h:SqL X.K H a xs):∃its:List Value,zV xs its/\PlainL s.heap a its.toArray/\xs.length<=sizeLine:=by
 rcases h with h|⟨o,its,n,hk,hc,hd,hs,hz,r⟩
 ·obtain⟨z,its,n,r,e⟩:=h.ok I.hok
  exact⟨its,r,⟨_,n,e,rfl,rfl,rfl⟩,z⟩
 ·exists its.toList,r,⟨o,n,I.kIn a o hk,hc,hd,by simpa using hs⟩,?_
  have e:=r.length;simp only[Array.length_toList] at e;omega
theorem Inv.tuple(I:Inv X pins σ H s)(h:SqT X.K H a xs):∃its:List Value,zV xs its/\IsTup s.heap a its.toArray/\xs.length<=sizeLine:=by
 rcases h with h|⟨o,its,n,hk,hc,hs,hz,r⟩
 ·obtain⟨z,its,r,p⟩:=h.ok I.hok
  exact⟨its,r,p,z⟩
 ·exists its.toList,r,⟨o,I.kIn a o hk,hc,n,by simpa using hs⟩,?_
  have e:=r.length;simp only[Array.length_toList] at e;omega
theorem Inv.list_inj(I:Inv X pins σ H s)(h:SqL X.K H a xs)(h':SqL X.K H a ys):xs=ys:=by
 obtain⟨its,r,⟨o,n,e,_,_,d⟩,_⟩:=I.list h;obtain⟨its',r',⟨o',n',e',_,_,d'⟩,_⟩:=I.list h';rw[e] at e';cases e';rw[d] at d';injection d' with d1 _
 have:its=its':=by simpa using congrArg Array.toList d1
 subst this;exact r.inj r'
abbrev Cx.wish(X:Cx)(E:VSP):Cx:={ X with xe:=E }
abbrev Cx.nox(X:Cx):Cx:=X.wish fun _ _=>False
theorem Cx.Ok.wish{X:Cx}(ok:X.Ok)(E:VSP):(X.wish E).Ok:=
 ⟨ok.mod,ok.kind,ok.glob,ok.blt,ok.above,ok.inj,ok.has,ok.cab,ok.hd,ok.frames,ok.stk,ok.exf,ok.bs,ok.bsz,ok.noex,ok.exfs,ok.funs,ok.frf⟩
theorem Cx.Ok.unwish{X:Cx}{E:VSP}(ok:(X.wish E).Ok):X.Ok:=
 ⟨ok.mod,ok.kind,ok.glob,ok.blt,ok.above,ok.inj,ok.has,ok.cab,ok.hd,ok.frames,ok.stk,ok.exf,ok.bs,ok.bsz,ok.noex,ok.exfs,ok.funs,ok.frf⟩
variable {E:VSP}
theorem Inv.wish(I:Inv X pins σ H s)(E:VSP):Inv (X.wish E) pins σ H s:=⟨I.ok.wish E,I.os,I.bare,I.base,I.loc,I.cell,I.free,I.freeC,I.pin,I.hok,I.len⟩
theorem Inv.unwish(I:Inv (X.wish E) pins σ H s):Inv X pins σ H s:=⟨I.ok.unwish,I.os,I.bare,I.base,I.loc,I.cell,I.free,I.freeC,I.pin,I.hok,I.len⟩
theorem SP.unwish{D:vc}{f:Flow}{s':Shared}(h:SP (X.wish E) pins D f s'):SP X pins D f s':=by
 cases f with
 | next=>obtain⟨σ',H',I,q⟩:=h;exact⟨σ',H',I.unwish,q⟩
 | brk=>obtain⟨σ',H',I,q⟩:=h;exact⟨σ',H',I.unwish,q⟩
 | cont=>obtain⟨σ',H',I,q⟩:=h;exact⟨σ',H',I.unwish,q⟩
 | ret u=>obtain⟨v,σ',H',I,r,q⟩:=h;exact⟨v,σ',H',I.unwish,r,q⟩
theorem PSs.nox{st:List Stmt}{t:TS}(h:PSs X.nox st t):PSs X st t:=⟨fun pins s σ H D I hw=>
 wpAny_mono (h pins s σ H D (I.wish _) hw) (fun _ _ q=>q.unwish) fun _ _ z=>False.elim z⟩
variable {st:Stmt}{wE:List Stmt}{t u:TS}{e:Expr}{te:TE}{pos:Pos}
def uG:TS:=fun D σ H=>D.nx σ H
def wx(t u:TS):TS:=fun D σ H=>t { D with nx:=u D } σ H
theorem zv:PSs X [] uG:=⟨fun _ _ σ H _ I h=>wpAny_execs_nil ⟨σ,H,I,h⟩⟩
theorem zh(h1:PS X st t)(h2:PSs X wE u):PSs X (st::wE) (wx t u):=by
 exists ?_;intro pins s σ H D I h;refine wpAny_execs_cons (thn (h1 pins s σ H { D with nx:=u D } I h) fun f s1 q=>?_)
 cases f with
 | next=>
  obtain⟨σ',H',I',q⟩:=q;exact h2 pins s1 σ' H' D I' q
 | ret v=>exact q
 | brk=>exact q
 | cont=>exact q
theorem zf(h1:PS X st t):PSs X [st] t:=by
 exists ?_;intro pins s σ H D I h;refine wpAny_execs_cons (thn (h1 pins s σ H D I h) fun f s1 q=>?_);cases f with
 | next=>exact wpAny_execs_nil q
 | ret v=>exact q
 | brk=>exact q
 | cont=>exact q
def zlh:TS:=fun D σ H=>D.ct σ H
theorem zbT:PS X (.Continue pos) zlh:=⟨fun _ _ σ H _ I h=>wpAny_Continue ⟨σ,H,I,h⟩⟩
theorem Inv.quiet{pins:PnL}{σ : St}{H:Hp}{s:Shared}(I:Inv X pins σ H s):interactive X.env=false:=by simp [interactive,I.ok.kind]
def zle(te:TE):TS:=fun D σ H=>te σ H fun _ H1=>D.nx σ H1
theorem zP(he:PE X e te)(hs:swapsWith e none pos.line X.env=pure false:=by rfl):PS X (.Expr e pos) (zle te):=by
 exists ?_;intro pins s σ H D I h;exact wpAny_Expr_any (thn (he pins s σ H _ I h) fun v s1 ⟨x,H1,I1,r1,q1⟩=>⟨σ,H1,I1,q1⟩) I.quiet hs
def zma(te:TE):TS:=fun D σ H=>te σ H D.rt
theorem zA(he:PE X e te):PS X (.Return (some e) pos) (zma te):=by
 exists ?_;intro pins s σ H D I h;exact wpAny_Return_some (thn (he pins s σ H _ I h) fun v s1 ⟨x,H1,I1,r1,q1⟩=>⟨x,σ,H1,I1,r1,q1⟩)
def zmg(c:TT)(t u:TS):TS:=fun D σ H=>c σ H fun b H1=>if b=true then t D σ H1 else u D σ H1
theorem zH{c:Expr}{a b:List Stmt}{tc:TT}(hc:PT X c tc)(ha:PSs X a t)(hb:PSs X b u):PS X (.If c a b pos) (zmg tc t u):=by
 exists ?_;intro pins s σ H D I h;refine wpAny_If (thn (hc pins s σ H _ I h) fun d s1 ⟨H1,I1,q1⟩=>?_);cases d with
 | true=>exact ha pins s1 σ H1 D I1 q1
 | false=>exact hb pins s1 σ H1 D I1 q1
abbrev TG:=V->St->Hp->(St->Hp->Prop)->Prop
abbrev TGs:=List V->St->Hp->(St->Hp->Prop)->Prop
structure PG(X:Cx)(target:Expr)(t:TG):Prop where
 run:∀(pins:PnL) (s:Shared) (σ : St) (H:Hp) (v:V) (u:Value) (Q:St->Hp->Prop),Inv X pins σ H s->zW v u->t v σ H Q->
  wpAny (model X.prog X.w) X.A (assign target X.env u) (fun _ s'=>∃σ' H',Inv X pins σ' H' s'/\Q σ' H') X.xe s
instance {X:Cx}{target:Expr}{t:TG}:CoeFun (PG X target t) (fun _=>∀(pins:PnL) (s:Shared) (σ : St) (H:Hp) (v:V) (u:Value) (Q:St->Hp->Prop),Inv X pins σ H s->zW v u->t v σ H Q->
  wpAny (model X.prog X.w) X.A (assign target X.env u) (fun _ s'=>∃σ' H',Inv X pins σ' H' s'/\Q σ' H') X.xe s):=⟨PG.run⟩
structure PGs(X:Cx)(ts:List Expr)(t:TGs):Prop where
 run:∀(pins:PnL) (s:Shared) (σ : St) (H:Hp) (vs:List V) (us:List Value) (Q:St->Hp->Prop),Inv X pins σ H s->zV vs us->t vs σ H Q->
  wpAny (model X.prog X.w) X.A (assignInOrder ((assignEach ts X.env).map (·.2)) us) (fun _ s'=>∃σ' H',Inv X pins σ' H' s'/\Q σ' H') X.xe s
instance {X:Cx}{ts:List Expr}{t:TGs}:CoeFun (PGs X ts t) (fun _=>∀(pins:PnL) (s:Shared) (σ : St) (H:Hp) (vs:List V) (us:List Value) (Q:St->Hp->Prop),Inv X pins σ H s->zV vs us->t vs σ H Q->
  wpAny (model X.prog X.w) X.A (assignInOrder ((assignEach ts X.env).map (·.2)) us) (fun _ s'=>∃σ' H',Inv X pins σ' H' s'/\Q σ' H') X.xe s):=⟨PGs.run⟩
def zZ(i:Nat):TG:=fun v σ H Q=>Q (σ.set i (some v)) H
theorem zp{i:Nat}{x:Str}(hN:X.N.Nodup)(hi:X.N[i]?=some x)(hx:Loc X.env.scope x)(hf:X.fn x=true\/X.env.scope.names.lookup x=some .local:=by first|exact .inl rfl|exact .inr rfl|assumption):PG X (.Name x pos) (zZ i):=by
 exists ?_;intro pins s σ H v u Q I r h;exact wpAny_assign_Name (wy I hN hi hx r (fun s' I'=>⟨_,H,I',h⟩) hf)
def zkR:TGs:=fun vs σ H Q=>vs=[]/\Q σ H
def zcm(t:TG)(u:TGs):TGs:=fun vs σ H Q=>∃v r,vs=v::r/\t v σ H fun σ' H'=>u r σ' H' Q
theorem yg:PGs X [] zkR:=by
 exists ?_;intro pins s σ H vs us Q I r h;obtain⟨e,h⟩:=h;subst e;cases r;exact assignInOrder_nil ⟨σ,H,I,h⟩
theorem zy{e:Expr}{es:List Expr}{t:TG}{u:TGs}(h1:PG X e t)(h2:PGs X es u)
  (hs:(assignEach (e::es) X.env).map (·.2)=assign e X.env::(assignEach es X.env).map (·.2):=by rfl):PGs X (e::es) (zcm t u):=by
 exists ?_;intro pins s σ H vs us Q I r h;obtain⟨v,vr,e1,h⟩:=h;subst e1;cases r with
 | cons r rr=>
  rw[hs];refine assignInOrder_cons (thn (h1 pins s σ H _ _ _ I r h) fun _ s1 ⟨σ1,H1,I1,q1⟩=>?_);exact h2 pins s1 σ1 H1 _ _ Q I1 rr q1
inductive zl0J(K:Frag)(n:Nat)(t:TGs)(v:V)(σ:St)(H:Hp)(Q:St->Hp->Prop):Prop|mk(a xs:_):v=.ref a->SqT K H a xs->xs.length=n->(t xs σ H Q)->zl0J K n t v σ H Q
def zl0(K:Frag)(n:Nat)(t:TGs):TG:=fun v σ H Q=>zl0J K n t v σ H Q
theorem yz{es:List Expr}{k:Nat}{t:TGs}{n:Nat}(hc:X.calm=true)(h:PGs X es t)
  (hn:(assignEach es X.env).length=n:=by rfl) (hst:(assignEach es X.env).findIdx? (·.1)=none:=by rfl):PG X (.Tuple es k pos) (zl0 X.K n t):=by
 exists ?_;intro pins s σ H v u Q I r hw;obtain⟨a,xs,e1,hq,hl,hw⟩:=hw;subst e1;cases r;obtain⟨its,rv,ht,hz⟩:=I.tuple hq;refine assign_Tuple_tuple (I.ok.hd hc) ht (by simp [hn,<- hl,rv.length]) hst fun h' hx=>?_
 have I1:Inv X pins σ H { s with heap:=h' }:=I.kept (t':=s.toks) fun b o e=>hx b o (ne_of_lt (aI e)) e
 exact h pins _ σ H xs _ Q I1 (by simpa using rv) hw
def zhQ(te:TE)(g:TG):TS:=fun D σ H=>te σ H fun x H1=>g x σ H1 D.nx
theorem ut{tg e:Expr}{te:TE}{g:TG}(he:PE X e te)(hg:PG X tg g)(hs:swapsWithSole [tg] e pos.line X.env=pure false:=by rfl)(hw:swappedStores [tg] e X.env=pure none:=by rfl)
  (h1:(assignEach [tg] X.env).map (·.2)=[assign tg X.env]:=by rfl):PS X (.Assign [tg] e pos) (zhQ te g):=by
 exists ?_;intro pins s σ H D I h;refine wpAny_Assign_stores (thn (he pins s σ H _ I h) fun v s1 ⟨x,H1,I1,r1,q1⟩=>?_) hs hw;rw[h1];exact thn (hg pins s1 σ H1 x v _ I1 r1 q1) fun _ s2 q=>q
theorem zu{i:Nat}{x:Str}{e:Expr}{te:TE}{pos':Pos}(hN:X.N.Nodup)(hi:X.N[i]?=some x)(hx:Loc X.env.scope x)(he:PE X e te)(hs:swapsWith e (some (.Name x pos')) pos.line X.env=pure false:=by rfl)(hf:X.fn x=true\/X.env.scope.names.lookup x=some .local:=by first|exact .inl rfl|exact .inr rfl|assumption):
  PS X (.Assign [.Name x pos'] e pos) (zhQ te (zZ i)):=by
 exists ?_;intro pins s σ H D I h;refine wpAny_Assign_Name (thn (he pins s σ H _ I h) fun v s1 ⟨y,H1,I1,r1,q1⟩=>?_) hs;exact wy I1 hN hi hx r1 (fun s2 I2=>⟨_,H1,I2,q1⟩) hf
def zmb(i j:Nat)(ta:TA):TS:=fun D σ H=>ta σ H fun vs H1=>∃v w,vs=[v,w]/\D.nx ((σ.set i (some v)).set j (some w)) H1
theorem zki{i j:Nat}{x y:Str}{a b:Expr}{ta:TA}{px py pt:Pos}{kt k2 pt2}(hc:X.calm=true)(hN:X.N.Nodup)(hi:X.N[i]?=some x)(hj:X.N[j]?=some y)(hij:i≠j)
  (hx:X.env.scope.names.lookup x=some .local) (hy:X.env.scope.names.lookup y=some .local) (ha:PA X [a,b] ta)
  (hw:swappedStores [.Tuple [.Name x px,.Name y py] kt pt] (.Tuple [a,b] k2 pt2) X.env=pure (some [x,y]))
  (hs:swapsWithSole [.Tuple [.Name x px,.Name y py] kt pt] (.Tuple [a,b] k2 pt2) pos.line X.env=pure false:=by rfl) :
  PS X (.Assign [.Tuple [.Name x px,.Name y py] kt pt] (.Tuple [a,b] k2 pt2) pos) (zmb i j ta):=by
 exists ?_;intro pins s σ H D I h;rw[exec_Assign_arm];refine zwb (wpAny_standAt ?_);rw[hs];refine zwb (zwp ?_);rw[aJ (by decide)]
 refine zwb (Tuple_ (thn (ha _ pins s σ H _ I h) fun us s1 ⟨vs,H1,I1,r1,q1⟩=>?_));obtain⟨v,w,e1,q1⟩:=q1;subst e1;obtain⟨u1,u2,rfl,rv,rw'⟩:∃u1 u2,us=[u1,u2]/\zW v u1/\zW w u2:=by
  cases r1 with
  | cons p q=>
   cases q with
   | cons p' q'=>
    cases q';exact⟨_,_,rfl,p,p'⟩
 refine wpAny_newObj_type ?_ z6;have I2:Inv X pins σ H1 { s1 with heap:=s1.heap.push { cls:=.type "tuple",data:=.seq [u1,u2].toArray } }:=I1.kept (t':=s1.toks) fun b o e=>zgp _ e
 rw[hw];refine zwb (zwp ?_);show wpAny (model X.prog X.w) X.A (do rule "assign.swapped-stores";let items <- unpackItems (.ref s1.heap.objs.size) 2 none;assignInOrder [fun v=>bindName X.env y v,fun v=>bindName X.env x v] items.reverse;pure Flow.next) _ _ _
 refine zwb (wpAny_rule (zwb (unpackItems_tuple (items:=#[u1,u2]) (I.ok.hd hc) (IsTup.new s1.heap _) fun h' hx'=>?_)));have I3:=I2.kept (h':=h') (t':=s1.toks) fun b o e=>hx' b o (ne_of_lt (aI e)) e;show wpAny _ _ (assignInOrder [fun v=>bindName X.env y v,fun v=>bindName X.env x v] [u2,u1] >>= fun _=>pure Flow.next) _ _ _;refine zwb (assignInOrder_cons (wpAny_bindName (wy I3 hN hj (.inl hy) rw' (fun s2 I4=>?_) (.inr hy))));refine assignInOrder_cons (wpAny_bindName (wy I4 hN hi (.inl hx) rv (fun s3 I5=>assignInOrder_nil (zwp ?_)) (.inr hx)));rw[List.set_comm _ _ (Ne.symm hij)] at I5;exact⟨_,H1,I5,q1⟩
def zjN(c:TT)(tb:TS):TS:=fun D σ H=>∃W:Nat->St->Hp->Prop,(∃m,W m σ H)/\∀m σ H,W m σ H->
 c σ H fun b H1=>if b=true then ∃N:St->Hp->Prop,(∀σ' H',N σ' H'->∃m',m'<m/\W m' σ' H')/\tb { D with nx:=N,ct:=N,bk:=D.nx } σ H1 else D.nx σ H1
theorem zgt{c:Expr}{body:List Stmt}{tc:TT}{tb:TS}(hp:PassesOwn (model X.prog X.w) X.A X.env X.xe)(hc:PT X c tc)(hb:PSs X body tb):PS X (.While c body [] pos) (zjN tc tb):=by
 exists ?_;intro pins s σ H D I h;obtain⟨W,⟨m0,w0⟩,turn⟩:=h;refine wpAny_While (codeAny_whileLoop (fun n s'=>∃σ' H',Inv X pins σ' H' s'/\W n σ' H') ?_ m0 ⟨σ,H,I,w0⟩);rintro n s1 ⟨σ1,H1,I1,w1⟩;refine wpAny_passesOwn hp (thn (hc pins s1 σ1 H1 _ I1 (turn n σ1 H1 w1)) fun b s2 ⟨H2,I2,q2⟩=>?_);cases b with
 | true=>
  obtain⟨N,hN,q2⟩:=q2;rw[aK rfl];refine wpAny_passesOwn hp (thn (hb pins s2 σ1 H2 _ I2 q2) fun f s3 q3=>?_);cases f with
  | next=>
   obtain⟨σ3,H3,I3,n3⟩:=q3;obtain⟨m',hm,w3⟩:=hN σ3 H3 n3;exact⟨m',hm,σ3,H3,I3,w3⟩
  | cont=>
   obtain⟨σ3,H3,I3,n3⟩:=q3;obtain⟨m',hm,w3⟩:=hN σ3 H3 n3;exact⟨m',hm,σ3,H3,I3,w3⟩
  | brk=>exact q3
  | ret v=>exact q3
 | false=>
  rw[aJ zft];exact wpAny_execs_nil ⟨σ1,H2,I2,q2⟩
structure It where
 go:Nat->Hp->Prop
 yld:Nat->Hp->V->Hp->Prop
 stop:Nat->Hp->Prop
def wQ(X:Cx)(pins:PnL)(H:Hp)(b:Addr):Prop:=
 H b=none/\b≠X.env.locals/\b∉X.fs/\(b∈X.ex\/X.s₀.heap.objs.size<=b)/\(∀x c,X.env.cells.lookup x=some c->c≠b)/\∀p∈X.pn++pins,p.1≠b
theorem Inv.fpOk{X:Cx}{pins:PnL}{σ : St}{H H':Hp}{s:Shared}{b:Addr}(I:Inv X pins σ H s)(hb:s.heap.objs.size<=b)(hn:H' b=none):wQ X pins H' b:=by
 exists hn,ne_of_gt (lt_of_lt_of_le I.lt hb),I.nofs hb,.inr (le_trans I.sz hb),fun x c e z=>?_,fun p hp z=>?_
 ·obtain⟨v,q⟩:=I.cell x c e
  exact absurd (lt_of_lt_of_le q.lt (by rw[z];exact hb)) (lt_irrefl _)
 ·exact absurd (lt_of_lt_of_le (aI (I.pin p hp).1) (by rw[z];exact hb)) (lt_irrefl _)
structure zae(P:Program)(w:World)(K:Frag)(tg:Expr)(J:It)(fp:List Addr)(it:Addr)(tn:Nat->Heap->Prop):Prop where
 mem:it∈fp
 obj:∀i h,tn i h->∀b∈fp,∃o,h.get? b=some o/\∀v,o.data≠.cell v
 keep:∀i h h',tn i h->(∀b∈fp,∀o,h.get? b=some o->h'.get? b=some o)->tn i h'
 item:∀(X:Cx),X.prog=P->X.w=w->X.K=K->X.calm=true->∀(i:Nat) (pins:PnL) (s:Shared) (σ : St) (H:Hp) (E:VSP),Inv X pins σ H s->(∀b∈fp,wQ X pins H b)->tn i s.heap->J.go i H->
  wpAny (model P w) X.A (pyNext (.ref it)) (fun r s1=>∃u,r=some u/\
   wpAny (model P w) X.A (letOwnedTupleGo tg (.ref it) u) (fun _ s2=>∃x H',Inv X pins σ H' s2/\zW x u/\J.yld i H x H'/\tn (i+1) s2.heap/\∀b∈fp,H' b=none) E s1) E s
 done:∀(X:Cx),X.prog=P->X.w=w->X.K=K->X.calm=true->∀(i:Nat) (pins:PnL) (s:Shared) (σ : St) (H:Hp) (E:VSP),Inv X pins σ H s->(∀b∈fp,wQ X pins H b)->tn i s.heap->J.stop i H->
  wpAny (model P w) X.A (pyNext (.ref it)) (fun r s1=>r=none/\Inv X pins σ H s1) E s
 self:∀(A:Around) (i:Nat) (s:Shared) (Q:VSP) (E:VSP),tn i s.heap->Q (.ref it) s->wpAny (model P w) A (pyIter (.ref it)) Q E s
abbrev TI:=St->Hp->(It->Hp->Prop)->Prop
def PIE(X:Cx)(pins:PnL)(σ : St)(tg:Expr)(R:It->Hp->Prop)(itv:Value)(s2:Shared):Prop:=
 ∃(it:Addr) (fp:List Addr) (tn:Nat->Heap->Prop) (J:It) (H':Hp),itv=.ref it/\Inv X pins σ H' s2/\zae X.prog X.w X.K tg J fp it tn/\tn 0 s2.heap/\(∀b∈fp,wQ X pins H' b)/\R J H'
structure PI(X:Cx)(tg iter:Expr)(wi:TI):Prop where
 run:∀(pins:PnL) (s:Shared) (σ : St) (H:Hp) (R:It->Hp->Prop),Inv X pins σ H s->wi σ H R->
  wpAny (model X.prog X.w) X.A (eval iter X.env) (fun v s1=>wpAny (model X.prog X.w) X.A (pyIter v) (PIE X pins σ tg R) X.xe s1) X.xe s
instance {X:Cx}{tg iter:Expr}{wi:TI}:CoeFun (PI X tg iter wi) (fun _=>∀(pins:PnL) (s:Shared) (σ : St) (H:Hp) (R:It->Hp->Prop),Inv X pins σ H s->wi σ H R->
  wpAny (model X.prog X.w) X.A (eval iter X.env) (fun v s1=>wpAny (model X.prog X.w) X.A (pyIter v) (PIE X pins σ tg R) X.xe s1) X.xe s):=⟨PI.run⟩
theorem zcl{M:Model}{A:Around}{E:VSP}{s:Shared}{tg:Expr}{it:Addr}{u:Value}{o:Obj}{n:String}{vs:Array Value}{Q:Unit->Shared->Prop}(ho:s.heap.get? it=some o)(hc:o.cls=.type n)(hd:o.data=.fields vs)
  (hn:["enumerate","zip","dict_itemiterator","dict_reverseitemiterator","odict_iterator","itertools.zip_longest","itertools.pairwise"].contains n=false) (hQ:Q () s):wpAny M A (letOwnedTupleGo tg (.ref it) u) Q E s:=by
 unfold letOwnedTupleGo;cases tg <;> first
  | exact zwp hQ
  | (cases u <;> first
    | exact zwp hQ
    | (refine zwb (wpAny_load ho ?_)
       rw[hc,hd];show wpAny M A (if (["enumerate","zip","dict_itemiterator","dict_reverseitemiterator","odict_iterator","itertools.zip_longest","itertools.pairwise"].contains n&&vs[0]?==some (rawInt _))=true then _ else _) Q E s
       rw[aJ (by intro h;rw[hn,Bool.false_and] at h;cases h)]
       exact zwp hQ))
def Itl(K:Frag)(a:Addr):It:=
 ⟨fun i H=>∃xs x,SqL K H a xs/\xs[i]?=some x,fun i H x H'=>H'=H/\∀xs,SqL K H a xs->xs[i]?=some x,fun i H=>∃xs,SqL K H a xs/\xs.length<=i⟩
def Itr(lo:Int)(n:Nat):It:=⟨fun i _=>i<n,fun i H x H'=>H'=H/\x=.int (lo+i),fun i _=>n<=i⟩
theorem zeF{P:Program}{w:World}{K:Frag}{tg:Expr}(a it:Addr):zae P w K tg (Itl K a) [it] it (fun i h=>h.IsListIter it a i) where
 mem:=by simp
 obj:=fun i h st b hb=>by
  have e:b=it:=by simpa using hb
  subst e;obtain⟨o,e,c,d⟩:=st;exact⟨o,e,fun v z=>by rw[d] at z;cases z⟩
 keep:=fun i h h' st k=>st.at fun o e=>k it (by simp) o e
 item:=by
  intro X hP hw hK hc i pins s σ H E I hf st hg;subst hP hw hK;obtain⟨xs,x,hq,hx⟩:=hg;obtain⟨its,rv,p,hz⟩:=I.list hq;obtain⟨u,hu,ru⟩:=rv.get hx;obtain⟨f0,f1,f2,f3,f4,f5⟩:=hf it (by simp)
  refine wpAny_pyNext_list_item st p.isList (x:=u) (by simpa using hu) fun h' st' sb=>?_
  have I1:Inv X pins σ H { s with heap:=h' }:=I.turned (t':=s.toks) (fun b o hb e=>(sb.2 b hb).trans e) f0 f1 f3 f4 f5
  obtain⟨o,e,c,d⟩:=id st';exact⟨u,rfl,zcl (s:={ s with heap:=h' }) e c d (by decide) ⟨x,H,I1,ru,⟨rfl,fun ys hy=>by rw[I.list_inj hy hq];exact hx⟩,st',fun b hb=>(hf b hb).1⟩⟩
 done:=by
  intro X hP hw hK hc i pins s σ H E I hf st hg;subst hP hw hK;obtain⟨xs,hq,hx⟩:=hg;obtain⟨its,rv,p,hz⟩:=I.list hq;obtain⟨f0,f1,f2,f3,f4,f5⟩:=hf it (by simp)
  have hl:=rv.length;exact wpAny_pyNext_list_end (I.ok.hd hc) st p.isList (by simp;omega) fun h' eb=>⟨rfl,I.turned (t':=s.toks) (fun b o hb e=>eb b o hb e) f0 f1 f3 f4 f5⟩
 self:=fun _ _ _ _ _ st h=>wpAny_pyIter_listiter st h
theorem zcA{P:Program}{w:World}{K:Frag}{tg:Expr}(it:Addr)(lo:Int)(n:Nat):zae P w K tg (Itr lo n) [it] it (fun i h=>IsRangeIter h it (lo+(i:Nat) * 1) ((n:Int) - (i:Nat)) 1) where
 mem:=by simp
 obj:=fun i h st b hb=>by
  have e:b=it:=by simpa using hb
  subst e;exact⟨_,st,fun v z=>by
   have z':Data.fields _=Data.cell v:=z;cases z'⟩
 keep:=fun i h h' st k=>k it (by simp) _ st
 item:=by
  intro X hP hw hK hc i pins s σ H E I hf st hg;subst hP hw hK;obtain⟨f0,f1,f2,f3,f4,f5⟩:=hf it (by simp)
  have W:=Walks.range (prog:=X.prog) (w:=X.w) (I.ok.hd hc) it lo 1 n;refine W.item i s _ _ hg st fun v h' tk hv st' kk=>?_;obtain⟨t,rfl⟩:=hv;have I1:Inv X pins σ H { s with heap:=h',toks:=tk }:=I.turned (fun b o hb e=>kk b o (by simpa using hb) e) f0 f1 f3 f4 f5
  exists _,rfl,zcl (s:={ s with heap:=h',toks:=tk }) (n:="range_iterator") st' rfl rfl (by decide) ⟨.int (lo+i),H,I1,⟨t,?_⟩,⟨rfl,rfl⟩,st',fun b hb=>(hf b hb).1⟩
  rw[Int.mul_one]
 done:=by
  intro X hP hw hK hc i pins s σ H E I hf st hg;subst hP hw hK;obtain⟨f0,f1,f2,f3,f4,f5⟩:=hf it (by simp)
  exact wpAny_pyNext_range_end (I.ok.hd hc) st (by have:n<=i:=hg;omega) fun h' eb=>⟨rfl,I.turned (t':=s.toks) (fun b o hb e=>eb b o hb e) f0 f1 f3 f4 f5⟩
 self:=fun _ _ _ _ _ st h=>wpAny_pyIter_rangeiter st h
variable {tg:Expr}
inductive zlYJ(K:Frag)(R:It->Hp->Prop)(x:V)(H1:Hp):Prop|mk(a:_):x=.ref a->(∃xs,SqL K H1 a xs)->(R (Itl K a) H1)->zlYJ K R x H1
def zlY(K:Frag)(tl:TE):TI:=fun σ H R=>tl σ H fun x H1=>zlYJ K R x H1
theorem yw{l:Expr}{tl:TE}(hl:PE X l tl):PI X tg l (zlY X.K tl):=by
 exists ?_;intro pins s σ H R I h;refine thn (hl pins s σ H _ I h) fun v s1 ⟨x,H1,I1,r1,q1⟩=>?_;obtain⟨a,e,⟨xs,hq⟩,q⟩:=q1;subst e;cases r1;obtain⟨its,rv,p,hz⟩:=I1.list hq;refine wpAny_pyIter_list p.isList ?_;exists s1.heap.objs.size,[s1.heap.objs.size],_,_,H1,rfl,I1.kept (t':=s1.toks) fun b o e=>zgp _ e,zeF a _,⟨_,zgs _ rfl,rfl,rfl⟩,fun b hb=>?_,q;have e:b=s1.heap.objs.size:=by simpa using hb
 subst e;exact I1.fpOk (aF _) (I1.hok.fresh (aF _))
theorem zbQ{pins:PnL}{σ : St}{H:Hp}{s:Shared}{R:It->Hp->Prop}{E:VSP}{lo hi:Int}{t u v:Tok}{tk:Nat}(I:Inv X pins σ H s)(h1 : -(2 ^ 62)<=lo)(h2:lo<2 ^ 62)(h3 : -(2 ^ 62)<=hi)(h4:hi<2 ^ 62)
  (q:R (Itr lo (hi - lo).toNat) H):wpAny (model X.prog X.w) X.A (pyIter (.ref s.heap.objs.size)) (PIE X pins σ tg R) E { s with heap:=s.heap.push { cls:=.type "range",data:=.fields #[.int lo t,.int hi u,.int 1 v] },toks:=tk }:=by
 refine wpAny_pyIter_range (IsRange.new ..) (small_one h1 h2 h3 h4) ?_;have I1:Inv X pins σ H { s with heap:=s.heap.push { cls:=.type "range",data:=.fields #[.int lo t,.int hi u,.int 1 v] },toks:=tk }:=I.kept fun b o e=>zgp _ e
 refine⟨(s.heap.push { cls:=.type "range",data:=.fields #[.int lo t,.int hi u,.int 1 v] }).objs.size,[(s.heap.push { cls:=.type "range",data:=.fields #[.int lo t,.int hi u,.int 1 v] }).objs.size],_,_,H,rfl,
  I1.kept (t':=tk) fun b o e=>zgp _ e,zcA _ lo (hi - lo).toNat,?_,fun b hb=>?_,q⟩
 ·have e1:lo+((0:Nat):Int) * 1=lo:=by simp
  have e2:(((hi - lo).toNat:Nat):Int) - ((0:Nat):Int)=Builtin.Range.rangeSize lo hi 1:=by rw[rangeSize_one];split <;> omega
  show IsRangeIter _ _ (lo+((0:Nat):Int) * 1) ((((hi - lo).toNat:Nat):Int) - ((0:Nat):Int)) 1;rw[e1,e2];exact zgs _ rfl
 ·have e:b=(s.heap.push { cls:=.type "range",data:=.fields #[.int lo t,.int hi u,.int 1 v] }).objs.size:=by simpa using hb
  subst e;exact I1.fpOk (aF _) (I1.hok.fresh (aF _))
inductive zlXJ(R:It->Hp->Prop)(vs:List V)(H1:Hp):Prop|mk(j:Int):vs=[.int j]->-(2 ^ 62)<=j->j<2 ^ 62->(R (Itr 0 j.toNat) H1)->zlXJ R vs H1
def zlX(ta:TA):TI:=fun σ H R=>ta σ H fun vs H1=>zlXJ R vs H1
inductive zlWJ(R:It->Hp->Prop)(vs:List V)(H1:Hp):Prop|mk(i j:Int):vs=[.int i,.int j]->(-(2 ^ 62)<=i/\i<2 ^ 62/\-(2 ^ 62)<=j/\j<2 ^ 62)->(R (Itr i (j - i).toNat) H1)->zlWJ R vs H1
def zlW(ta:TA):TI:=fun σ H R=>ta σ H fun vs H1=>zlWJ R vs H1
theorem wV{a:Expr}{ta:TA}{p pos:Pos}(hg:Gl X "range")(hm:X.mg "range"=none)(ha:PA X [a] ta)(hs:starEach [a] X.env=[(false,eval a X.env)]:=by rfl):PI X tg (.Call (.Name "range" p) [a] [] pos) (zlX ta):=by
 exists ?_;intro pins s σ H R I h;refine Call_ (vP I hg hm boot_range (PyProof.Rows.callWith_type1 (thn (ha pos pins s σ H _ I h) fun us s1 ⟨vs,H1,I1,r1,q1⟩=>?_) hs rfl));obtain⟨j,e,q1,q2,q⟩:=q1;subst e;cases r1 with
 | cons r rr=>
  cases rr;obtain⟨t,rfl⟩:=r;exact call_range_1 (zbQ I1 (by omega) (by omega) q1 q2 (by simpa using q))
theorem zeQ{a b:Expr}{ta:TA}{p pos:Pos}(hg:Gl X "range")(hm:X.mg "range"=none)(ha:PA X [a,b] ta)(hs:starEach [a,b] X.env=[(false,eval a X.env),(false,eval b X.env)]:=by rfl)(hs2:starEach [b] X.env=[(false,eval b X.env)]:=by rfl):
  PI X tg (.Call (.Name "range" p) [a,b] [] pos) (zlW ta):=by
 exists ?_;intro pins s σ H R I h;refine Call_ (vP I hg hm boot_range (PyProof.Rows.callWith_type1 (thn (ha pos pins s σ H _ I h) fun us s1 ⟨vs,H1,I1,r1,q1⟩=>?_) (by rw[hs,hs2]) (by rw[hs2];rfl)))
 obtain⟨i,j,e,⟨q1,q2,q3,q4⟩,q⟩:=q1;subst e;cases r1 with
 | cons r rr=>
  cases rr with
  | cons r' rr=>
   cases rr;obtain⟨t,rfl⟩:=r;obtain⟨t',rfl⟩:=r';exact call_range_2 (zbQ I1 q1 q2 q3 q4 q)
def zmi(wi:TI)(g:TG)(tb:TS):TS:=fun D σ H=>wi σ H fun J H1=>∃W:Nat->Nat->St->Hp->Prop,(∃m,W 0 m σ H1)/\∀i m σ H,W i m σ H->
 (J.stop i H/\D.nx σ H)\/(J.go i H/\∃N:St->Hp->Prop,(∀σ' H',N σ' H'->∃m',m'<m/\W (i+1) m' σ' H')/\∀x H',J.yld i H x H'->g x σ H' fun σ2 H2=>tb { D with nx:=N,ct:=N,bk:=D.nx } σ2 H2)
def uw(fp:List Addr)(h:Heap):List (Addr×Obj):=fp.filterMap fun b=>(h.get? b).map fun o=>(b,o)
theorem xn{fp:List Addr}{h:Heap}{b:Addr}{o:Obj}(hb:b∈fp)(e:h.get? b=some o):(b,o)∈uw fp h:=List.mem_filterMap.mpr ⟨b,hb,by rw[e];rfl⟩
theorem ze3{fp:List Addr}{h:Heap}{p:Addr×Obj}(hp:p∈uw fp h):p.1∈fp/\h.get? p.1=some p.2:=by
 obtain⟨b,hb,e⟩:=List.mem_filterMap.mp hp;cases q:h.get? b with
 | none=>rw[q] at e;cases e
 | some o=>
  rw[q] at e;have e':(b,o)=p:=Option.some.inj e;subst e';exact⟨hb,q⟩
theorem Inv.pinned{pins:PnL}{σ : St}{H:Hp}{s:Shared}{fp:List Addr}(I:Inv X pins σ H s)(hf:∀b∈fp,wQ X pins H b)(ho:∀b∈fp,∃o,s.heap.get? b=some o/\∀v,o.data≠.cell v):Inv X (pins++uw fp s.heap) σ H s:=
 I.pins_of fun p hp=>(List.mem_append.mp hp).elim (fun z=>I.pin p (mem_append_right _ z)) fun z=>by
  obtain⟨hb,e⟩:=ze3 z;obtain⟨f0,f1,f2,_⟩:=hf p.1 hb;obtain⟨o,e',d⟩:=ho p.1 hb;rw[e] at e';cases e';exact⟨e,f0,f1,f2,d⟩
theorem Inv.unpinned{pins pl:PnL}{σ : St}{H:Hp}{s:Shared}(I:Inv X (pins++pl) σ H s):Inv X pins σ H s:=I.pins_of fun p hp=>I.pin p (mem_append_right _ (mem_append_left _ hp))
theorem xk{iter:Expr}{body:List Stmt}{wi:TI}{g:TG}{tb:TS}{pos:Pos}(hp:PassesOwn (model X.prog X.w) X.A X.env X.xe)(hc:X.calm=true)(hi:PI X tg iter wi)(hg:PG X tg g)(hb:PSs X body tb)
  (hs:∀x,foldedSetIterable iter X.env x=pure x:=by intro _;rfl):PS X (.For tg iter body [] pos) (zmi wi g tb):=by
 exists ?_;intro pins s σ H D I h;refine wpAny_For (thn (hi pins s σ H _ I h) fun v s1 h1=>thn h1 fun itv s2 h2=>?_) hs;obtain⟨it,fp,tn,J,H2,e,I2,T,st2,f2,W,⟨m0,w0⟩,turn⟩:=h2;subst e;have stat:∀{H':Hp},(∀b∈fp,H' b=none)->∀b∈fp,wQ X pins H' b:=fun hn b hb=>⟨hn b hb,(f2 b hb).2⟩;refine codeAny_forLoop_any (fun n s'=>∃i σ' H',Inv X pins σ' H' s'/\tn i s'.heap/\(∀b∈fp,H' b=none)/\W i n σ' H') ?_ m0 ⟨0,σ,H2,I2,st2,fun b hb=>(f2 b hb).1,w0⟩;rintro n s3 ⟨i,σ3,H3,I3,st3,fr3,w3⟩;rcases turn i n σ3 H3 w3 with ⟨stop,qn⟩|⟨go,N,hN,step⟩
 ·refine wpAny_passesOwn hp (thn (T.done X rfl rfl rfl hc i pins s3 σ3 H3 X.xe I3 (stat fr3) st3 stop) fun r s4 ⟨hr,I4⟩=>?_)
  subst hr;exact wpAny_execs_nil ⟨σ3,H3,I4,qn⟩
 ·refine wpAny_passesOwn hp (thn (T.item X rfl rfl rfl hc i pins s3 σ3 H3 X.xe I3 (stat fr3) st3 go) fun r s4 ⟨u,hr,h4⟩=>?_)
  subst hr;refine wpAny_passesOwn hp (thn h4 fun _ s5 ⟨x,H5,I5,r5,y5,st5,fr5⟩=>?_);have I5':=I5.pinned (stat fr5) (T.obj _ _ st5);refine wpAny_passesOwn hp (thn (hg _ s5 σ3 H5 x u _ I5' r5 (step x H5 y5)) fun _ s6 ⟨σ6,H6,I6,q6⟩=>?_);refine wpAny_passesOwn hp (thn (hb _ s6 σ6 H6 _ I6 q6) fun f s7 q7=>?_);have again:∀{σ7:St}{H7:Hp},Inv X (pins++uw fp s5.heap) σ7 H7 s7->N σ7 H7->∃m,m<n/\∃i σ' H',Inv X pins σ' H' s7/\tn i s7.heap/\(∀b∈fp,H' b=none)/\W i m σ' H':=fun {σ7 H7} I7 n7=>by
   obtain⟨m',hm,w7⟩:=hN σ7 H7 n7;exists m',hm,i+1,σ7,H7,I7.unpinned,T.keep _ _ _ st5 fun b hb o e=>(I7.pin (b,o) (mem_append_right _ (mem_append_right _ (xn hb e)))).1,fun b hb=>?_,w7;obtain⟨o,e,d⟩:=T.obj _ _ st5 b hb;exact(I7.pin (b,o) (mem_append_right _ (mem_append_right _ (xn hb e)))).2.1
  cases f with
  | next=>obtain⟨σ7,H7,I7,n7⟩:=q7;exact again I7 n7
  | cont=>obtain⟨σ7,H7,I7,n7⟩:=q7;exact again I7 n7
  | brk=>obtain⟨σ7,H7,I7,q7⟩:=q7;exact⟨σ7,H7,I7.unpinned,q7⟩
  | ret v=>obtain⟨x7,σ7,H7,I7,r7,q7⟩:=q7;exact⟨x7,σ7,H7,I7.unpinned,r7,q7⟩
theorem w6{K:Frag}{a:Addr}{xs:List V}{g:TG}{tb:TS}{D:vc}{σ : St}{H:Hp}(Pv:Nat->St->Hp->Prop)(h0:Pv 0 σ H)(hl:∀i σ H,i<=xs.length->Pv i σ H->SqL K H a xs)
  (hs:∀i x σ H,xs[i]?=some x->Pv i σ H->g x σ H fun σ2 H2=>tb { D with nx:=Pv (i+1),ct:=Pv (i+1),bk:=D.nx } σ2 H2) (hd:∀σ H,Pv xs.length σ H->D.nx σ H) :
  ∃W:Nat->Nat->St->Hp->Prop,(∃m,W 0 m σ H)/\∀i m σ H,W i m σ H->
   ((Itl K a).stop i H/\D.nx σ H)\/((Itl K a).go i H/\∃N:St->Hp->Prop,(∀σ' H',N σ' H'->∃m',m'<m/\W (i+1) m' σ' H')/\∀x H',(Itl K a).yld i H x H'->g x σ H' fun σ2 H2=>tb { D with nx:=N,ct:=N,bk:=D.nx } σ2 H2):=by
 exists fun i m σ H=>m=xs.length - i/\i<=xs.length/\Pv i σ H,⟨xs.length,by simp,zero_le _,h0⟩,?_
 rintro i m σ H ⟨rfl,hi,p⟩;have q:=hl i σ H hi p;by_cases hlt:i<xs.length
 ·refine .inr ⟨⟨xs,xs[i],q,by simp [hlt]⟩,Pv (i+1),fun σ' H' p'=>⟨xs.length - (i+1),by omega,rfl,hlt,p'⟩,fun x H' y=>?_⟩
  obtain⟨e,y⟩:=y;subst e;exact hs i x σ _ (y xs q) p
 ·have e:i=xs.length:=by omega
  subst e;exact .inl ⟨⟨xs,q,aF _⟩,hd σ H p⟩
theorem zaI{lo:Int}{n:Nat}{g:TG}{tb:TS}{D:vc}{σ : St}{H:Hp}(Pv:Nat->St->Hp->Prop)(h0:Pv 0 σ H)
  (hs:∀i σ H,i<n->Pv i σ H->g (.int (lo+i)) σ H fun σ2 H2=>tb { D with nx:=Pv (i+1),ct:=Pv (i+1),bk:=D.nx } σ2 H2) (hd:∀σ H,Pv n σ H->D.nx σ H) :
  ∃W:Nat->Nat->St->Hp->Prop,(∃m,W 0 m σ H)/\∀i m σ H,W i m σ H->
   ((Itr lo n).stop i H/\D.nx σ H)\/((Itr lo n).go i H/\∃N:St->Hp->Prop,(∀σ' H',N σ' H'->∃m',m'<m/\W (i+1) m' σ' H')/\∀x H',(Itr lo n).yld i H x H'->g x σ H' fun σ2 H2=>tb { D with nx:=N,ct:=N,bk:=D.nx } σ2 H2):=by
 exists fun i m σ H=>m=n - i/\i<=n/\Pv i σ H,⟨n,by simp,zero_le _,h0⟩,?_
 rintro i m σ H ⟨rfl,hi,p⟩;by_cases hlt:i<n
 ·refine .inr ⟨hlt,Pv (i+1),fun σ' H' p'=>⟨n - (i+1),by omega,rfl,hlt,p'⟩,fun x H' y=>?_⟩
  obtain⟨e,y⟩:=y;subst e y;exact hs i σ _ hlt p
 ·have e:i=n:=by omega
  subst e;exact .inl ⟨aF _,hd σ H p⟩
abbrev R2:=V->V->Hp->VK->Prop
def OpR(X:Cx)(f:Value->Value->Sem Value)(r:R2):Prop:=
 ∀(pins:PnL) (s:Shared) (σ : St) (H:Hp) (x y:V) (v u:Value) (Q:VK),Inv X pins σ H s->zW x v->zW y u->r x y H Q->
  wpAny (model X.prog X.w) X.A (f v u) (EP X pins σ Q) X.xe s
def xh(X:Cx)(f:Value)(r:List V->Hp->VK->Prop):Prop:=
 ∀(pins:PnL) (s:Shared) (σ : St) (H:Hp) (xs:List V) (us:List Value) (Q:VK),Inv X pins σ H s->zV xs us->r xs H Q->
  wpAny (model X.prog X.w) X.A (call f us) (EP X pins σ Q) X.xe s
def zmT(X:Cx)(r:V->Hp->(Bool->Hp->Prop)->Prop):Prop:=
 ∀(pins:PnL) (s:Shared) (σ : St) (H:Hp) (x:V) (v:Value) (Q:Bool->Hp->Prop),Inv X pins σ H s->zW x v->r x H Q->
  wpAny (model X.prog X.w) X.A (truthy v) (TP X pins σ Q) X.xe s
def tOp(r:R2)(ta tb:TE):TE:=fun σ H Q=>ta σ H fun x H1=>tb σ H1 fun y H2=>r x y H2 Q
inductive IrI(C:Int->Int->Prop)(g:Int->Int->V)(x y:V)(H:Hp)(Q:VK):Prop where
 | mk (i j:Int) (e1:x=.int i) (e2:y=.int j) (c:C i j) (q:Q (g i j) H)
def rI(C:Int->Int->Prop)(g:Int->Int->V):R2:=fun x y H Q=>IrI C g x y H Q
inductive zmW(g:Int->Int->V)(x y:V)(H:Hp)(Q:VK):Prop where
 | mk (i j:Int) (e1:x=.int i) (e2:y=.int j) (q:Q (g i j) H)
def rI0(g:Int->Int->V):R2:=fun x y H Q=>zmW g x y H Q
end
section
variable {X:Cx}{a b c:Expr}{ta tb tc:TE}{pos:Pos}
theorem zkV(ha:PE X a ta)(hb:PE X b tb){pins:PnL}{s:Shared}{σ : St}{H:Hp}{R:V->V->Hp->Prop}(I:Inv X pins σ H s)
  (h:ta σ H fun x H1=>tb σ H1 fun y H2=>R x y H2) {Q:VSP}{f:Value->Value->Sem Value}
  (hf:∀v u s2 x y H2,Inv X pins σ H2 s2->zW x v->zW y u->R x y H2->wpAny (model X.prog X.w) X.A (f v u) Q X.xe s2) :
  wpAny (model X.prog X.w) X.A (eval a X.env) (fun v s₁=>wpAny (model X.prog X.w) X.A (eval b X.env) (fun u s₂=>wpAny (model X.prog X.w) X.A (f v u) Q X.xe s₂) X.xe s₁) X.xe s:=by
 refine thn (ha pins s σ H _ I h) fun v s1 ⟨x,H1,I1,r1,q1⟩=>?_;refine thn (hb pins s1 σ H1 _ I1 q1) fun u s2 ⟨y,H2,I2,r2,q2⟩=>?_;exact hf v u s2 x y H2 I2 r1 r2 q2
theorem zl{op:Operator}{r:R2}(ho:OpR X (binaryOp op) r)(ha:PE X a ta)(hb:PE X b tb):PE X (.BinOp a op b pos) (tOp r ta tb):=by
 exists ?_;intro pins s σ H Q I h;exact wpAny_BinOp (zkV ha hb I h fun v u s2 x y H2 I2 rx ry q=>ho pins s2 σ H2 x y v u Q I2 rx ry q)
theorem opI{f:Value->Value->Sem Value}{C:Int->Int->Prop}{g:Int->Int->Int}
  (rule:∀(i j:Int) (t u:Tok) (s:Shared) (Q:VSP) (E:VSP),C i j->Q (.int (g i j) s.toks) { s with toks:=s.toks+1 }->wpAny (model X.prog X.w) X.A (f (.int i t) (.int j u)) Q E s) :
  OpR X f (rI C fun i j=>.int (g i j)):=by
 intro pins s σ H x y v u Q I rx ry h;obtain⟨i,j,rfl,rfl,hc,q⟩:=h;obtain⟨t,rfl⟩:=rx;obtain⟨t',rfl⟩:=ry;exact rule i j t t' s _ _ hc ⟨.int (g i j),H,I.tok _,⟨_,rfl⟩,q⟩
theorem zlD{f:Value->Value->Sem Value}{g:Int->Int->Int}
  (rule:∀(i j:Int) (t u:Tok) (s:Shared) (Q:VSP) (E:VSP),Q (.int (g i j) s.toks) { s with toks:=s.toks+1 }->wpAny (model X.prog X.w) X.A (f (.int i t) (.int j u)) Q E s) :
  OpR X f (rI0 fun i j=>.int (g i j)):=by
 intro pins s σ H x y v u Q I rx ry h;obtain⟨i,j,rfl,rfl,q⟩:=h;obtain⟨t,rfl⟩:=rx;obtain⟨t',rfl⟩:=ry;exact rule i j t t' s _ _ ⟨.int (g i j),H,I.tok _,⟨_,rfl⟩,q⟩
theorem ziu{f:Value->Value->Sem Value}{g:Int->Int->Bool}
  (rule:∀(i j:Int) (t u:Tok) (s:Shared) (Q:VSP) (E:VSP),Q (.bool (g i j)) s->wpAny (model X.prog X.w) X.A (f (.int i t) (.int j u)) Q E s) :
  OpR X f (rI0 fun i j=>.bl (g i j)):=by
 intro pins s σ H x y v u Q I rx ry h;obtain⟨i,j,rfl,rfl,q⟩:=h;obtain⟨t,rfl⟩:=rx;obtain⟨t',rfl⟩:=ry;exact rule i j t t' s _ _ ⟨.bl (g i j),H,I,rfl,q⟩
def zm2(i j:Int):Prop:=0<j/\j<1073741824
def zm1(i j:Int):Prop:=0<=j/\j<=1000000/\i.natAbs<2 ^ 64
def zk2(i j:Int):Prop:=(-(2 ^ 64)<i/\i<2 ^ 64)\/(-(2 ^ 64)<j/\j<2 ^ 64)
theorem zk2.ok{i j:Int}(h:zk2 i j):IntMulOk i j:=by
 rcases h with ⟨h1,h2⟩|⟨h1,h2⟩
 ·exact .of_left (intBits_le_64 h1 h2)
 ·exact .of_right (intBits_le_64 h1 h2)
theorem yc:OpR X (binaryOp .Add) (rI0 fun i j=>.int (i+j)):=zlD fun _ _ _ _ _ _ _ q=>add_int q
theorem qo:OpR X (binaryOp .Sub) (rI0 fun i j=>.int (i - j)):=zlD fun _ _ _ _ _ _ _ q=>sub_int q
theorem jf:OpR X (binaryOp .Mult) (rI zk2 fun i j=>.int (i * j)):=opI fun _ _ _ _ _ _ _ hc q=>mul_int q hc.ok
theorem yp:OpR X (binaryOp .FloorDiv) (rI zm2 fun i j=>.int (i / j)):=opI fun i j _ _ _ _ _ hc q=>by
 have h1:(0:Int)<j:=hc.1;have h2:j<1073741824:=hc.2;exact floordiv_int (by omega) (by rw[Int.fdiv_eq_ediv_of_nonneg i (by omega)];exact q) (.inl (PyProof.noPylong_small (by omega)))
theorem zY:OpR X (binaryOp .Mod) (rI (fun _ j=>0<j) fun i j=>.int (i % j)):=opI fun i j _ _ _ _ _ hc q=>by
 have h1:(0:Int)<j:=hc;exact mod_int' (by omega) (by rw[Int.fmod_eq_emod_of_nonneg i (by omega)];exact q)
theorem zdf:OpR X (binaryOp .Pow) (rI zm1 fun i j=>.int (i ^ j.toNat)):=opI fun _ _ _ _ _ _ _ hc q=>pow_int_small hc.1 hc.2.1 hc.2.2 q
def zlq:V->V->Bool
 | .non,.non=>true|.non,.int _=>true|.int _,.non=>true|.non,.bl _=>true|.bl _,.non=>true|.non,.str _=>true|.str _,.non=>true
 | .int _,.int _=>true|.bl _,.bl _=>true|.str _,.str _=>true|.byt _,.byt _=>true
 | .int _,.str _=>true|.str _,.int _=>true|.bl _,.str _=>true|.str _,.bl _=>true
 | _,_=>false
def rEq:R2:=fun x y H Q=>zlq x y=true/\Q (.bl (decide (x=y))) H
def rNe:R2:=fun x y H Q=>zlq x y=true/\Q (.bl (!decide (x=y))) H
theorem zev{i j:Int}:decide (V.int i=V.int j)=(i==j):=by
 rw[Bool.eq_iff_iff];simp
theorem zhy{i j:Bool}:decide (V.bl i=V.bl j)=(i==j):=by
 rw[Bool.eq_iff_iff];simp
theorem zeu{i j:Str}:decide (V.str i=V.str j)=(i==j):=by
 rw[Bool.eq_iff_iff];simp
theorem zew{i j:Array UInt8}:decide (V.byt i=V.byt j)=(i.toList==j.toList):=by
 rw[Bool.eq_iff_iff];cases i;cases j;simp
theorem yh{pins:PnL}{σ : St}{H:Hp}{s:Shared}{Q:VK}{k k':Bool}(I:Inv X pins σ H s)(q:Q (.bl k) H)(e:k=k'):EP X pins σ Q (.bool k') s:=by
 subst e;exact⟨.bl k,H,I,rfl,q⟩
theorem yb:OpR X (compareOp .Eq) rEq:=by
 intro pins s σ H x y v u Q I rx ry h;obtain⟨hs,q⟩:=h;cases x with
 | non=>
  cases rx;cases y with
  | non=>cases ry;exact PySem.EqNone.eq_none_none (yh I q (by simp))
  | bl j=>cases ry;exact PySem.EqNone.eq_none_bool (yh I q (by simp))
  | int j=>obtain⟨t',rfl⟩:=ry;exact PySem.EqNone.eq_none_int (yh I q (by simp))
  | str j=>obtain⟨t',rfl⟩:=ry;exact PySem.EqNone.eq_none_str (yh I q (by simp))
  | _=>exact absurd (show false=true from hs) zft
 | bl i=>
  cases rx;cases y with
  | non=>cases ry;exact PySem.EqNone.eq_bool_none (yh I q (by simp))
  | bl j=>cases ry;exact eq_bool (yh I q zhy)
  | str j=>obtain⟨t',rfl⟩:=ry;exact PySem.EqMixed.eq_bool_str (yh I q (by simp))
  | _=>exact absurd (show false=true from hs) zft
 | int i=>
  obtain⟨t,rfl⟩:=rx;cases y with
  | non=>cases ry;exact PySem.EqNone.eq_int_none (yh I q (by simp))
  | int j=>obtain⟨t',rfl⟩:=ry;exact eq_int (yh I q zev)
  | str j=>obtain⟨t',rfl⟩:=ry;exact PySem.EqMixed.eq_int_str (yh I q (by simp))
  | _=>exact absurd (show false=true from hs) zft
 | str i=>
  obtain⟨t,rfl⟩:=rx;cases y with
  | non=>cases ry;exact PySem.EqNone.eq_str_none (yh I q (by simp))
  | bl j=>cases ry;exact PySem.EqMixed.eq_str_bool (yh I q (by simp))
  | int j=>obtain⟨t',rfl⟩:=ry;exact PySem.EqMixed.eq_str_int (yh I q (by simp))
  | str j=>obtain⟨t',rfl⟩:=ry;exact eq_str (yh I q zeu)
  | _=>exact absurd (show false=true from hs) zft
 | byt i=>
  obtain⟨t,rfl⟩:=rx;cases y with
  | byt j=>obtain⟨t',rfl⟩:=ry;exact PySem.W.eq_bytes (yh I q zew)
  | _=>exact absurd (show false=true from hs) zft
 | _=>cases y <;> exact absurd (show false=true from hs) zft
theorem zei:OpR X (compareOp .NotEq) rNe:=by
 intro pins s σ H x y v u Q I rx ry h;obtain⟨hs,q⟩:=h;cases x with
 | non=>
  cases rx;cases y with
  | non=>cases ry;exact PySem.EqNone.ne_none_none (yh I q (by simp))
  | bl j=>cases ry;exact PySem.EqNone.ne_none_bool (yh I q (by simp))
  | int j=>obtain⟨t',rfl⟩:=ry;exact PySem.EqNone.ne_none_int (yh I q (by simp))
  | str j=>obtain⟨t',rfl⟩:=ry;exact PySem.EqNone.ne_none_str (yh I q (by simp))
  | _=>exact absurd (show false=true from hs) zft
 | bl i=>
  cases rx;cases y with
  | non=>cases ry;exact PySem.EqNone.ne_bool_none (yh I q (by simp))
  | bl j=>cases ry;exact ne_bool (yh I q (congrArg not zhy))
  | str j=>obtain⟨t',rfl⟩:=ry;exact PySem.EqMixed.ne_bool_str (yh I q (by simp))
  | _=>exact absurd (show false=true from hs) zft
 | int i=>
  obtain⟨t,rfl⟩:=rx;cases y with
  | non=>cases ry;exact PySem.EqNone.ne_int_none (yh I q (by simp))
  | int j=>obtain⟨t',rfl⟩:=ry;exact ne_int (yh I q (congrArg not zev))
  | str j=>obtain⟨t',rfl⟩:=ry;exact PySem.EqMixed.ne_int_str (yh I q (by simp))
  | _=>exact absurd (show false=true from hs) zft
 | str i=>
  obtain⟨t,rfl⟩:=rx;cases y with
  | non=>cases ry;exact PySem.EqNone.ne_str_none (yh I q (by simp))
  | bl j=>cases ry;exact PySem.EqMixed.ne_str_bool (yh I q (by simp))
  | int j=>obtain⟨t',rfl⟩:=ry;exact PySem.EqMixed.ne_str_int (yh I q (by simp))
  | str j=>obtain⟨t',rfl⟩:=ry;exact ne_str (yh I q (congrArg not zeu))
  | _=>exact absurd (show false=true from hs) zft
 | byt i=>
  obtain⟨t,rfl⟩:=rx;cases y with
  | byt j=>obtain⟨t',rfl⟩:=ry;exact PySem.W.ne_bytes (yh I q (congrArg not zew))
  | _=>exact absurd (show false=true from hs) zft
 | _=>cases y <;> exact absurd (show false=true from hs) zft
theorem zau:OpR X (compareOp .Lt) (rI0 fun i j=>.bl (decide (i<j))):=ziu fun _ _ _ _ _ _ _ q=>lt_int q
theorem zjx:OpR X (compareOp .LtE) (rI0 fun i j=>.bl (decide (i<=j))):=ziu fun _ _ _ _ _ _ _ q=>le_int q
theorem zej:OpR X (compareOp .Gt) (rI0 fun i j=>.bl (decide (j<i))):=ziu fun _ _ _ _ _ _ _ q=>gt_int q
theorem zjy:OpR X (compareOp .GtE) (rI0 fun i j=>.bl (decide (j<=i))):=ziu fun _ _ _ _ _ _ _ q=>ge_int q
theorem zeV:OpR X (compareOp .In) (fun x y H Q=>∃i j,x=.str i/\y=.str j/\Q (.bl (!(Builtin.Str.occurrences j i 0 j.length 1).isEmpty)) H):=by
 intro pins s σ H x y v u Q I rx ry h;obtain⟨i,j,rfl,rfl,q⟩:=h;obtain⟨t,rfl⟩:=rx;obtain⟨t',rfl⟩:=ry;exact in_str (yh I q rfl)
theorem uF{f:Value->Value->Sem Value}{r r':R2}(h:OpR X f r)(h':OpR X f r'):OpR X f (fun x y H Q=>r x y H Q\/r' x y H Q):=by
 intro pins s σ H x y v u Q I rx ry q;rcases q with q|q
 ·exact h pins s σ H x y v u Q I rx ry q
 ·exact h' pins s σ H x y v u Q I rx ry q
theorem zx(b:Expr){op:CmpOp}(h:op≠.In:=by decide)(h2:op≠.NotIn:=by decide):behindInMarks op b=false:=by
 have e1:(op==CmpOp.In)=false:=by cases op <;> first|rfl|exact absurd rfl h
 have e2:(op==CmpOp.NotIn)=false:=by cases op <;> first|rfl|exact absurd rfl h2
 cases b <;> simp [behindInMarks,e1,e2]
theorem xD{op:CmpOp}{r:R2}(ho:OpR X (compareOp op) r)(ha:PE X a ta)(hb:PE X b tb)(hm:behindInMarks op b=false):PE X (.Compare a [op] [b] pos) (tOp r ta tb):=by
 exists ?_;intro pins s σ H Q I h;exact wpAny_Compare1 (zkV ha hb I h fun v u s2 x y H2 I2 rx ry q=>ho pins s2 σ H2 x y v u Q I2 rx ry q) hm
inductive zl8(x:V)(H:Hp)(Q:Bool->Hp->Prop):Prop where
 | mk (k:Bool) (e:x=.bl k) (q:Q k H)
def zjk(t:TE):TT:=fun σ H Q=>t σ H fun x H'=>zl8 x H' Q
theorem zk{op:CmpOp}{r:R2}(ho:OpR X (compareOp op) r)(ha:PE X a ta)(hb:PE X b tb)(hm:behindInMarks op b=false):PT X (.Compare a [op] [b] pos) (zjk (tOp r ta tb)):=by
 exists ?_;intro pins s σ H Q I h;refine wpAny_isTrue_Compare1 (thn (ha pins s σ H _ I h) fun v s1 ⟨x,H1,I1,r1,q1⟩=>thn (hb pins s1 σ H1 _ I1 q1) fun u s2 ⟨y,H2,I2,r2,q2⟩=>
  thn (ho pins s2 σ H2 x y v u _ I2 r1 r2 q2) fun c s3 ⟨z,H3,I3,r3,k,e,q3⟩=>?_) hm
 subst e;cases r3;exact wpAny_truthy_bool ⟨H3,I3,q3⟩
def zjS(r r':R2)(ta tb tc:TE):TE:=fun σ H Q=>ta σ H fun x H1=>tb σ H1 fun y H2=>r x y H2 fun z H3=>∃k,z=.bl k/\
 (if k=true then tc σ H3 fun w' H4=>r' y w' H4 Q else Q (.bl false) H3)
theorem zgr{op op':CmpOp}{r r':R2}(ho:OpR X (compareOp op) r)(ho':OpR X (compareOp op') r')(ha:PE X a ta)(hb:PE X b tb)(hc:PE X c tc)
  (hm:lastMarks [op,op'] [b,c]=false:=by with_unfolding_all rfl):PT X (.Compare a [op,op'] [b,c] pos) (zjk (zjS r r' ta tb tc)):=by
 exists ?_;intro pins s σ H Q I h;refine isTrue_chain (thn (ha pins s σ H _ I h) fun v s1 ⟨x,H1,I1,r1,q1⟩=>test_link (thn (hb pins s1 σ H1 _ I1 q1) fun u s2 ⟨y,H2,I2,r2,q2⟩=>
  thn (ho pins s2 σ H2 x y v u _ I2 r1 r2 q2) fun d s3 ⟨z,H3,I3,r3,k,e,q3⟩=>?_)) hm
 subst e;cases r3;refine wpAny_truthy_bool ?_;cases k with
 | false=>
  obtain⟨k',e',q'⟩:=q3;cases e';exact ite_ff ⟨H3,I3,q'⟩
 | true=>
  refine ite_tt (test_last (thn (hc pins s3 σ H3 _ I3 q3) fun w' s4 ⟨z',H4,I4,r4,q4⟩=>thn (ho' pins s4 σ H4 y z' u w' _ I4 r2 r4 q4) fun d' s5 ⟨z2,H5,I5,r5,k2,e2,q5⟩=>?_));subst e2;cases r5;exact wpAny_truthy_bool ⟨H5,I5,q5⟩
def zl6(K:Frag)(x:V)(H:Hp)(k:Bool):Prop:=
 match x with
 | .non=>k=false
 | .bl b=>k=b
 | .int i=>k=(i != 0)
 | .str y=>y.length<=sizeLine/\k=((y.length:Int) != 0)
 | .byt y=>y.size<=sizeLine/\k=((y.size:Int) != 0)
 | .ref p=>(∃xs,SqL K H p xs/\k=!xs.isEmpty)\/(∃xs,SqT K H p xs/\k=!xs.isEmpty)\/∃kvs,H p=some (.dK kvs)/\k=!kvs.isEmpty
 | _=>False
theorem zdy{κ : Type}{kvs:List (κ×V)}{vs:List (κ×Value)}(r:KV kvs vs):(!vs.isEmpty)=!kvs.isEmpty:=by
 cases r <;> rfl
theorem qE{xs:List V}{its:List Value}(r:zV xs its):(!its.toArray.isEmpty)=!xs.isEmpty:=by
 cases r <;> simp
theorem uA:(sizeLine:Nat)<2 ^ 63:=by rw[sizeLine_eq];decide
theorem zjL:zmT X (fun x H Q=>∃k,zl6 X.K x H k/\Q k H):=by
 intro pins s σ H x v Q I rx h;obtain⟨k,e,q⟩:=h;have hl:=uA;have hs:sizeLine=16777216:=sizeLine_eq;cases x with
 | non=>
  cases rx;have e':k=false:=e;subst e';exact truthy_none ⟨H,I,q⟩
 | bl b=>
  cases rx;have e':k=b:=e;subst e';exact wpAny_truthy_bool ⟨H,I,q⟩
 | int i=>
  obtain⟨t,rfl⟩:=rx;have e':k=(i != 0):=e;subst e';exact PySem.P.truthy_int ⟨H,I,q⟩
 | str y=>
  obtain⟨t,rfl⟩:=rx;obtain⟨hy,e'⟩:y.length<=sizeLine/\k=((y.length:Int) != 0):=e;subst e';exact PySem.P.truthy_str (by omega) ⟨H,I.tok _,q⟩
 | byt y=>
  obtain⟨t,rfl⟩:=rx;obtain⟨hy,e'⟩:y.size<=sizeLine/\k=((y.size:Int) != 0):=e;subst e';exact PySem.W.truthy_bytes (by omega) ⟨H,I.tok _,q⟩
 | ref p=>
  cases rx;have e':(∃xs,SqL X.K H p xs/\k=!xs.isEmpty)\/(∃xs,SqT X.K H p xs/\k=!xs.isEmpty)\/∃kvs,H p=some (.dK kvs)/\k=!kvs.isEmpty:=e;rcases e' with ⟨xs,hx,e'⟩|⟨xs,hx,e'⟩|⟨kvs,hx,e'⟩
  ·subst e'
   obtain⟨its,r,pl,hz⟩:=I.list hx;have hlen:=r.length;exact wpAny_truthy_list pl.isList (by simp only[size_toArray];omega) ⟨H,I.tok _,by rw[qE r];exact q⟩
  ·subst e'
   obtain⟨its,r,pl,hz⟩:=I.tuple hx;have hlen:=r.length;exact truthy_tuple pl (by simp only[size_toArray];omega) ⟨H,I.tok _,by rw[qE r];exact q⟩
  ·subst e'
   obtain⟨hz,hS,vs,r,m⟩:kvs.length<=sizeLine/\(p==sysModules)=false/\∃vs,KV kvs vs/\s.heap.DictOf (yl X.prog X.w) p vs:=I.hok p _ hx;have hlen:kvs.length=vs.length:=Paired.length r;exact wpAny_truthy_dict hS m (by omega) ⟨H,I.tok _,by rw[zdy r];exact q⟩
 | _=>exact(show False from e).elim
theorem zgq(ha:PE X a ta)(he:∀whole,isTrue a X.env whole=(do let v <- whole;standAt a.pos;holding [v] (truthy v))):
  PT X a (fun σ H Q=>ta σ H fun x H'=>∃k,zl6 X.K x H' k/\Q k H'):=by
 exists ?_;intro pins s σ H Q I h;exact isTrue_plain (thn (ha pins s σ H _ I h) fun v s1 ⟨x,H1,I1,r1,q1⟩=>zjL pins s1 σ H1 x v Q I1 r1 q1) (he _)
theorem xW:OpR X (binaryOp .Add) (fun x y H Q=>∃i j,x=.str i/\y=.str j/\i.length+j.length<=sizeLine/\Q (.str (i++j)) H):=by
 intro pins s σ H x y v u Q I rx ry h;obtain⟨i,j,rfl,rfl,hz,q⟩:=h;obtain⟨t,rfl⟩:=rx;obtain⟨t',rfl⟩:=ry;exact add_str (fun t' tk=>⟨.str (i++j),H,I.tok _,⟨_,rfl⟩,q⟩) hz
theorem wS{x:V}{us:List Value}(r:zV [x] us):∃u,us=[u]/\zW x u:=by
 cases r with
 | cons r1 r2=>cases r2;exact⟨_,rfl,r1⟩
theorem jR{x y:V}{us:List Value}(r:zV [x,y] us):∃u w',us=[u,w']/\zW x u/\zW y w':=by
 cases r with
 | cons r1 r2=>
  cases r2 with
  | cons r3 r4=>cases r4;exact⟨_,_,rfl,r1,r3⟩
theorem zfu(hc:X.calm=true):xh X (.builtin "max") (fun xs H Q=>∃i j,xs=[.int i,.int j]/\Q (.int (if j>i then j else i)) H):=by
 intro pins s σ H xs us Q I r h;obtain⟨i,j,rfl,q⟩:=h;obtain⟨u,w',rfl,⟨t,rfl⟩,⟨t',rfl⟩⟩:=jR r;refine max_two_ints (I.ok.hd hc) fun h' tk k=>⟨_,H,I.kept k,?_,q⟩;by_cases hj:j>i
 ·rw[aK hj,aK hj];exact⟨_,rfl⟩
 ·rw[aJ hj,aJ hj];exact⟨_,rfl⟩
theorem jo(hc:X.calm=true):xh X (.builtin "min") (fun xs H Q=>∃i j,xs=[.int i,.int j]/\Q (.int (if j<i then j else i)) H):=by
 intro pins s σ H xs us Q I r h;obtain⟨i,j,rfl,q⟩:=h;obtain⟨u,w',rfl,⟨t,rfl⟩,⟨t',rfl⟩⟩:=jR r;refine min_two_ints (I.ok.hd hc) fun h' tk k=>⟨_,H,I.kept k,?_,q⟩;by_cases hj:j<i
 ·rw[aK hj,aK hj];exact⟨_,rfl⟩
 ·rw[aJ hj,aJ hj];exact⟨_,rfl⟩
theorem zfv:xh X (.type "int") (fun xs H Q=>(∃i,xs=[.int i]/\Q (.int i) H)\/∃k,xs=[.bl k]/\Q (.int (if k then 1 else 0)) H):=by
 intro pins s σ H xs us Q I r h;rcases h with ⟨i,rfl,q⟩|⟨k,rfl,q⟩
 ·obtain⟨u,rfl,t,rfl⟩:=wS r
  exact call_int_int ⟨.int i,H,I,⟨_,rfl⟩,q⟩
 ·obtain⟨u,rfl,r1⟩:=wS r
  cases r1;exact call_int_bool ⟨.int (if k then 1 else 0),H,I.tok _,⟨_,rfl⟩,q⟩
structure zdO(h:Heap)(x dx C:Addr)(mA:Str->Option Value):Prop where
 obj:h.get? x=some (instObj C dx)
 ns:h.Ns1 dx mA
 ne:dx≠x
theorem zaz{h:Heap}{dx:Addr}{mA:Str->Option Value}(n:h.Ns1 dx mA):∃od,h.get? dx=some od/\∀name,lookIn name od=some (mA name):=by
 obtain⟨o,es,ep,ho,hd,hk,_,hm⟩:=n;exists o,ho,fun name=>?_;have e:=hm name;unfold nsFind findBy at e;rw[<- Array.find?_toList] at e;unfold lookIn;rw[hd];dsimp only;split
 ·rename_i y q
  rw[q] at e;exact congrArg some e
 ·rename_i q
  rw[q] at e;have a:es.toList.any (·.refKey)=false:=by
   rw[List.any_eq_false];intro y hy;obtain⟨z,t,hkey⟩:=hk y (Array.mem_toList_iff.mp hy);simp [DictEntry.refKey,hkey]
  have a':¬es.toList.any (·.refKey)=true:=by rw[a];exact zft
  rw[aJ a'];exact congrArg some e
theorem zdO.look{h:Heap}{x dx C:Addr}{mA:Str->Option Value}(I:zdO h x dx C mA):∃od,PySem.W.InstAt h x (instObj C dx) C (some od)/\∀name,lookIn name od=some (mA name):=
 let ⟨od,ho,hl⟩:=zaz I.ns
 ⟨od,⟨I.obj,rfl,rfl,ho⟩,hl⟩
variable {prog:Program}{w:World}{A:Around}{E:VSP}{s:Shared}{K:Frag}{x dx C f:Addr}{mA:Str->Option Value}{name:Str}{v:Value}
theorem ziY{expr:Bool}{Q:VSP}(X:K.In s.heap)(I:zdO s.heap x dx C mA)(hg:plainGet K C name=true)(hh:hasDictIn K C=true)
  (ha:findIn K (.ref C) name=some none) (hv:mA name=some v) (hv':PySem.W.handedIn v=true) (h:Q v { s with toks:=s.toks+1 }) :
  wpAny (model prog w) A (getAttr (.ref x) name expr) Q E s:=by
 obtain⟨od,J,hl⟩:=I.look;exact PySem.W.get_value X J (plainGet_of hg).1 (PySem.W.findObj_own hh ha rfl (by rw[hl,hv])) hv' h
theorem zhm{pl:Sem Bool}{Q:Value×List Value->Shared->Prop}(X:K.In s.heap)(I:zdO s.heap x dx C mA)(hg:plainGet K C name=true)
  (hf:findIn K (.ref C) name=some (some (.ref f))) (ht:isFn K (.ref f)=true) (hv:mA name=none) (h:Q (.ref f,[.ref x]) s) :
  wpAny (model prog w) A (getMethod (.ref x) name pl) Q E s:=by
 obtain⟨od,J,hl⟩:=I.look;exact PySem.W.method_fn X J (plainGet_of hg).1 (plainGet_of hg).2 hf (beq_iff_eq.mp ht) (by show(lookIn name od).map (·.isSome)=some false;rw[hl,hv];rfl) h
theorem zhU{ns:List Str}{Q:Unit->Shared->Prop}(X:K.In s.heap)(I:zdO s.heap x dx C mA)
  (hs:findIn K (.ref C) "__setattr__"=some (some (.builtin "object.__setattr__"))) (hp:plainOver K C=true) (ht:takerIn K C name=some none) (hh:hasDictIn K C=true)
  (hw:PySem.Within mA ns) (hsz:ns.length<=sizeLine)
  (h:∀h',zdO h' x dx C (fun y=>if y=name then some v else mA y)->Heap.SameBut dx s.heap h'->Q () { s with heap:=h',toks:=s.toks+2 }) :
  wpAny (model prog w) A (setAttr (.ref x) name v) Q E s:=by
 obtain⟨od,J,hl⟩:=I.look;refine PySem.W.set_plain X J hs (PySem.W.osa_open (s:={ s with toks:=s.toks+1 }) (r:=none) X J hp ht fun b=>?_)
 obtain⟨cd,hc,hd'⟩:=PySem.W.any_some hh;have hx:s.heap.get? x=some ⟨.ref C,some dx,.plain,#[]⟩:=I.obj;refine zwb (zwp (zwb (zwb (wpAny_loadPart hx (zwb (PySem.W.Looks.here (s:={ s with toks:=s.toks+1 }) (PySem.W.looks_clsIn X hc) ?_))))))
 rw[hd'];refine zwp (a:=some dx) (zwb (zwp (zwb ?_)));refine wpAny_nsSet1 (s:={ s with toks:=s.toks+1 }) I.ns fun h' hn2 hs2=>?_
 obtain⟨oD,esD,epD,hoD,hdD,hcD⟩:=hn2.count (PySem.Within.cons name v hw);refine zwb (wpAny_lookBehind hoD (by rw[hdD];exact pastItsLine_dict (le_trans hcD (by rw[length_cons];omega))) ?_)
 exact zwp (h _ ⟨(hs2.2 _ (Ne.symm I.ne)).trans I.obj,hn2,I.ne⟩ hs2)
theorem zg9{R:Result->Shared->Prop}{vs:List Value}{kw:List (Str×Value)}(X:K.In s.heap)(hm:makesIn K C=true)
  (hi:findIn K (.ref C) "__init__"=some (some (.ref f))) (hf:PySem.W.typeIn K (.ref f)=some (.type "function"))
  (h:codeAny (model prog w) (A.under (.builtin "type.__call__" ⟨.ref C::vs,kw⟩)) (.call (.ref f) ⟨.ref (s.heap.objs.size+1)::vs,kw⟩) (PySem.W.InitBack (s.heap.objs.size+1) R)
   { s with heap:=(s.heap.push emptyDict).push (instObj C s.heap.objs.size) }) :
  codeAny (model prog w) A (.call (.ref C) ⟨vs,kw⟩) R s:=by
 obtain⟨hh,g,d,t,os⟩:=s;exact PySem.W.make_core (PySem.W.makes_of X hm) (PySem.W.looks_findIn X hi) (fun self=>PySem.W.bind_fn X self hf) (.inl rfl) h
def ya(f:Str)(v:V):List (Str×V)->List (Str×V)
 | []=>[(f,v)]
 | (g,x)::r=>if g=f then (g,v)::r else (g,x)::ya f v r
theorem zo(f g:Str)(v:V):∀fs:List (Str×V),(ya f v fs).lookup g=if g=f then some v else fs.lookup g
 | []=>by
  show List.lookup g [(f,v)]=_;by_cases h:g=f
  ·have hb:(g==f)=true:=beq_iff_eq.mpr h
   simp only[List.lookup,hb,aK h]
  ·have hb:(g==f)=false:=beq_eq_false_iff_ne.mpr h
   simp only[List.lookup,hb,aJ h]
 | (k,x)::r=>by
  have ih:=zo f g v r;rw[show ya f v ((k,x)::r)=(if k=f then (k,v)::r else (k,x)::ya f v r) from rfl]
  by_cases hk:k=f
  ·rw[aK hk]
   by_cases h:g=k
   ·have hb:(g==k)=true:=beq_iff_eq.mpr h
    simp only[List.lookup,hb,aK (h.trans hk)]
   ·have hb:(g==k)=false:=beq_eq_false_iff_ne.mpr h
    simp only[List.lookup,hb,aJ (fun e:g=f=>h (e.trans hk.symm))]
  ·rw[aJ hk]
   by_cases h:g=k
   ·have hb:(g==k)=true:=beq_iff_eq.mpr h
    simp only[List.lookup,hb,aJ (fun e:g=f=>hk (h.symm.trans e))]
   ·have hb:(g==k)=false:=beq_eq_false_iff_ne.mpr h
    simp only[List.lookup,hb];exact ih
theorem jh(f:Str)(v:V):∀fs:List (Str×V),f∈(ya f v fs).map (·.1)/\∀g,g∈fs.map (·.1)->g∈(ya f v fs).map (·.1)
 | []=>⟨by simp [ya],fun g h=>by simp at h⟩
 | (k,x)::r=>by
  obtain⟨i1,i2⟩:=jh f v r;rw[show ya f v ((k,x)::r)=(if k=f then (k,v)::r else (k,x)::ya f v r) from rfl]
  by_cases hk:k=f
  ·rw[aK hk]
   subst hk;exact⟨by simp,fun g h=>by simpa using h⟩
  ·rw[aJ hk]
   exists ?_,fun g h=>?_
   ·rw[map_cons]
    exact mem_cons_of_mem _ i1
   ·rw[map_cons] at h |-
    rcases List.mem_cons.mp h with e|e
    ·exact List.mem_cons.mpr (.inl e)
    ·exact mem_cons_of_mem _ (i2 g e)
theorem jt(f:Str)(v:V):∀fs:List (Str×V),(ya f v fs).length<=fs.length+1
 | []=>by simp [ya]
 | (k,x)::r=>by
  have ih:=jt f v r;rw[show ya f v ((k,x)::r)=(if k=f then (k,v)::r else (k,x)::ya f v r) from rfl]
  by_cases hk:k=f
  ·rw[aK hk,length_cons,length_cons];omega
  ·rw[aJ hk,length_cons,length_cons];omega
theorem wu{v:V}{o:Option Value}(r:uE (some v) o):∃u,o=some u/\zW v u:=by
 cases o with
 | none=>exact(show False from r).elim
 | some u=>exact⟨u,rfl,r⟩
theorem uE.none_of{o:Option Value}(r:uE none o):o=none:=by
 cases o with
 | none=>rfl
 | some u=>exact(show False from r).elim
theorem zaF{v:V}{u:Value}(r:zW v u):PySem.W.handedIn u=true:=by
 cases v with
 | non=>cases (show u=Value.none from r);rfl
 | bl b=>cases (show u=Value.bool b from r);rfl
 | int i=>obtain⟨t,e⟩:=(show ∃t,u=Value.int i t from r);cases e;rfl
 | str x=>obtain⟨t,e⟩:=(show ∃t,u=Value.str x t from r);cases e;rfl
 | byt b=>obtain⟨t,e⟩:=(show ∃t,u=Value.bytes b t from r);cases e;rfl
 | flt b=>obtain⟨t,e⟩:=(show ∃t,u=Value.float b t from r);cases e;rfl
 | ref a=>cases (show u=Value.ref a from r);rfl
 | ty n=>cases (show u=Value.type n from r);rfl
end
section
variable {P:Program}{w:World}{H H':Hp}{h h':Heap}{a C dx:Addr}{fs fs':List (Str×V)}
theorem jO(hok:HOk P w H h)(e:H a=some (.ins C dx fs)):∃mA,zdO h a dx C mA/\(∀f,uE (fs.lookup f) (mA f))/\PySem.Within mA (fs.map (·.1))/\fs.length<=1000/\H dx=some (.own a):=by
 obtain⟨d,z,ne,ob,mA,n,r,q⟩:=(show yB P w H h a (.ins C dx fs) from hok a _ e);exact⟨mA,⟨ob,n,ne⟩,r,q,z,d⟩
structure Cls(K:Frag)(C:Addr):Prop where
 pg:plainGet K C Str.empty=true
 hd:hasDictIn K C=true
 po:plainOver K C=true
 sa:findIn K (.ref C) "__setattr__"=some (some (.builtin "object.__setattr__"))
theorem Cls.get{K:Frag}{C:Addr}(c:Cls K C)(f:Str):plainGet K C f=true:=c.pg
def yJ(K:Frag)(C:Addr)(f:Str):Prop:=findIn K (.ref C) f=some none
theorem yJ.taker{K:Frag}{C:Addr}{f:Str}(n:yJ K C f):takerIn K C f=some none:=by
 unfold takerIn;rw[show findIn K (.ref C) f=some none from n];rfl
structure xH(K:Frag)(C:Addr)(m:Str)(f:Addr):Prop where
 at_:findIn K (.ref C) m=some (some (.ref f))
 fn:isFn K (.ref f)=true
 kp:keepIn K (.ref f)=true
variable {X:Cx}{pins:PnL}{σ:St}{s:Shared}{f:Str}{v:V}{A:Around}{E:VSP}
theorem zdC{b:Bool}{Q:VSP}(I:Inv X pins σ H s)(e:H a=some (.ins C dx fs))(c:Cls X.K C)(n:yJ X.K C f)(l:fs.lookup f=some v)
  (h:∀u s',Inv X pins σ H s'->zW v u->Q u s'):wpAny (model X.prog X.w) A (getAttr (.ref a) f b) Q E s:=by
 obtain⟨mA,O,r,_,_,_⟩:=jO I.hok e;obtain⟨u,hu,ru⟩:=wu (v:=v) (o:=mA f) (by rw[<- l];exact r f)
 exact ziY I.kIn O (c.get f) c.hd n hu (zaF ru) (h u _ (I.tok _) ru)
theorem uC{m:Str}{g:Addr}{pl:Sem Bool}{Q:Value×List Value->Shared->Prop}(I:Inv X pins σ H s)(e:H a=some (.ins C dx fs))(c:Cls X.K C)(k:xH X.K C m g)(l:fs.lookup m=none)
  (h:Q (.ref g,[.ref a]) s):wpAny (model X.prog X.w) A (getMethod (.ref a) m pl) Q E s:=by
 obtain⟨mA,O,r,_,_,_⟩:=jO I.hok e;have hn:mA m=none:=uE.none_of (by rw[<- l];exact r m)
 exact zhm I.kIn O (c.get m) k.at_ k.fn hn h
theorem zcN{y:V}{u:Value}{Q:Unit->Shared->Prop}(I:Inv X pins σ H s)(e:H a=some (.ins C dx fs))(c:Cls X.K C)(n:yJ X.K C f)(hl:fs.length<1000)(ry:zW y u)
  (h:∀s',Inv X pins σ (upd H a (.ins C dx (ya f y fs))) s'->Q () s'):wpAny (model X.prog X.w) A (setAttr (.ref a) f u) Q E s:=by
 obtain⟨mA,O,r,wi,_,ho⟩:=jO I.hok e;have hz:(fs.map (·.1)).length<=sizeLine:=by rw[aA,sizeLine_eq];omega
 refine zhU I.kIn O c.sa c.po n.taker c.hd wi hz fun h' O' sb=>h _ ?_;have hd:∃o,h'.get? dx=some o:=let ⟨o,_,_,e',_⟩:=O'.ns;⟨o,e'⟩;refine I.write (x:=a) (e:=dx) (by rw[e];exact True.intro) (.inr ho) (fun b q hb z=>(sb.2 b hb).trans z) hd ?_
 exists by rw[zi O.ne];exact ho,?_,O.ne,O'.obj,_,O'.ns,fun g=>?_,fun g hg=>?_
 ·have:=jt f y fs;omega
 ·show uE ((ya f y fs).lookup g) (if g=f then some u else mA g)
  rw[zo];by_cases q:g=f
  ·rw[aK q,aK q];exact ry
  ·rw[aJ q,aJ q];exact r g
 ·by_cases q:g=f
  ·rw[q];exact(jh f y fs).1
  ·refine(jh f y fs).2 g (wi g fun z=>hg ?_)
   show(if g=f then some u else mA g)=none
   rw[aJ q];exact z
theorem Inv.made(I:Inv X pins σ H s):Inv X pins σ (upd (upd H s.heap.objs.size (.own (s.heap.objs.size+1))) (s.heap.objs.size+1) (.ins C s.heap.objs.size []))
  { s with heap:=(s.heap.push emptyDict).push (instObj C s.heap.objs.size) }:=by
 have e1:(s.heap.push emptyDict).get? s.heap.objs.size=some emptyDict:=zgs s.heap rfl;have e2:((s.heap.push emptyDict).push (instObj C s.heap.objs.size)).get? (s.heap.objs.size+1)=some (instObj C s.heap.objs.size):=by
  have:=zgs (s.heap.push emptyDict) (o:=instObj C s.heap.objs.size) rfl
  rwa [Heap.size_push] at this
 have e3:(s.heap.push emptyDict).Ns s.heap.objs.size (fun _=>none):=⟨emptyDict,#[],_,e1,rfl,(fun e he=>absurd he (by simp)),fun _=>rfl⟩
 have I1:=I.laid (a:=s.heap.objs.size) (o:=.own (s.heap.objs.size+1)) (h':=s.heap.push emptyDict) (t':=s.toks) (fun b u q=>zgp _ q) (aF _) ⟨_,e1⟩;refine I1.laid (a:=s.heap.objs.size+1) (o:=.ins C s.heap.objs.size []) (t':=s.toks) (fun b u q=>zgp _ q) (le_of_eq (Heap.size_push _ _)) ?_;have ne:s.heap.objs.size≠s.heap.objs.size+1:=ne_of_lt (lt_succ_self _);exists by rw[zi ne,za],zero_le _,ne,e2,fun _=>none,(Heap.Ns1.of_empty e3).at fun o q=>zgp _ q,fun _=>True.intro,fun y hy=>absurd rfl hy
theorem zez{prog:Program}{w:World}{env:Env}{e:Expr}{f:Str}{pos:Pos}{s:Shared}{Q:VSP}(hb:attributeBase e f env (eval e env)=eval e env)
  (h:wpAny (model prog w) A (eval e env) (fun o s₁=>wpAny (model prog w) A (getAttr o f true) Q E s₁) E s):wpAny (model prog w) A (eval (.Attribute e f pos) env) Q E s:=
 Attribute_any_ h (by rw[arm_eval_Attribute,hb])
inductive zldJ(K:Frag)(f:Str)(Q:VK)(x:V)(H1:Hp):Prop|mk(a C dx fs v:_):x=.ref a->H1 a=some (.ins C dx fs)->Cls K C->yJ K C f->fs.lookup f=some v->(Q v H1)->zldJ K f Q x H1
def zld(K:Frag)(ta:TE)(f:Str):TE:=fun σ H Q=>ta σ H fun x H1=>zldJ K f Q x H1
inductive zmrJ(K:Frag)(f:Str)(D:L2.vc)(σ:St)(y:V)(x:V)(H2:Hp):Prop|mk(a C dx fs:_):x=.ref a->H2 a=some (.ins C dx fs)->Cls K C->yJ K C f->fs.length<1000->(D.nx σ (upd H2 a (.ins C dx (ya f y fs))))->zmrJ K f D σ y x H2
def zmr(K:Frag)(ta tv:TE)(f:Str):TS:=fun D σ H=>tv σ H fun y H1=>ta σ H1 fun x H2=>zmrJ K f D σ y x H2
variable {o e value:Expr}{pos pos' tpos:Pos}{ta tv:TE}
theorem yv(he:PE X e ta)(hb:attributeBase e f X.env (eval e X.env)=eval e X.env):PE X (.Attribute e f pos) (zld X.K ta f):=by
 exists ?_;intro pins s σ H Q I h;refine zez hb (thn (he pins s σ H _ I h) fun u s1 ⟨x,H1,I1,rx,a,C,dx,fs,v,ex,ea,c,n,l,q⟩=>?_);subst ex;obtain rfl:u=Value.ref a:=rx;exact zdC I1 ea c n l fun u' s2 I2 ru=>⟨v,H1,I2,ru,q⟩
theorem vm(ha:PE X o ta)(hv:PE X value tv)(hs:swapsWith value (some (.Attribute o f pos')) pos.line X.env=pure false):PS X (.Assign [.Attribute o f pos'] value pos) (zmr X.K ta tv f):=by
 exists ?_;intro pins s σ H D I h;refine plainObj_wpAny_Assign_Attribute (thn (hv pins s σ H _ I h) fun u s1 ⟨y,H1,I1,ry,q⟩=>thn (ha pins s1 σ H1 _ I1 q) fun ov s2 ⟨x,H2,I2,rx,a,C,dx,fs,ex,ea,c,n,l,q2⟩=>?_) hs;subst ex;obtain rfl:ov=Value.ref a:=rx;exact zcN I2 ea c n l ry fun s3 I3=>⟨σ,_,I3,q2⟩
variable {Q:VSP}{c:Value}{b:Bool}
inductive uh(K:Frag)(H:Hp):V->Value->Prop where
 | non:uh K H .non (.type "NoneType")
 | bl (x:Bool):uh K H (.bl x) (.type "bool")
 | int (i:Int):uh K H (.int i) (.type "int")
 | str (x:Str):uh K H (.str x) (.type "str")
 | flt (x:UInt64):uh K H (.flt x) (.type "float")
 | lst {a:Addr}{xs:List V}(e:H a=some (.lst xs)):uh K H (.ref a) (.type "list")
 | frz {a:Addr}{o:Obj}{xs:List V}(e:H a=some (.frz o (.lst xs))):uh K H (.ref a) (.type "list")
 | tup {a:Addr}{xs:List V}(e:H a=some (.tup xs)):uh K H (.ref a) (.type "tuple")
 | dK {a:Addr}{kvs:List (Key×V)}(e:H a=some (.dK kvs)):uh K H (.ref a) (.type "dict")
 | dT {a:Addr}{kvs:List (List Key×V)}(e:H a=some (.dT kvs)):uh K H (.ref a) (.type "dict")
 | ins {a C dx:Addr}{fs:List (Str×V)}(e:H a=some (.ins C dx fs)) (cl:Cls K C) (ha:findIn K (.ref C) "__class__"=some (some (.builtin "object.__class__")))
   (hn:specialIn K (.builtin "object.__class__") "__get__"=some (some (.builtin "getset_descriptor.__get__"))) (htk:PySem.W.takesIn K (.builtin "object.__class__")=some true)
   (hm:mroIn K C (.type "object")=some true):uh K H (.ref a) (.ref C)
theorem zfb{x:V}{u t:Value}(I:Inv X pins σ H s)(rx:zW x u)(ty:uh X.K H x t)(e:kitOne X.K t c=some b)(h:∀tk,Q (.bool b) { s with toks:=tk }):
  wpAny (model X.prog X.w) A (call (.builtin "isinstance") [u,c]) Q E s:=by
 cases ty with
 | non=>cases (show u=Value.none from rx);exact kia_one PySem.W.kitx_none I.kIn True.intro e (fun z=>nomatch z) h
 | bl y=>cases (show u=Value.bool y from rx);exact kia_one PySem.W.kitx_bool I.kIn True.intro e (fun z=>nomatch z) h
 | int i=>obtain⟨t,q⟩:=(show ∃t,u=Value.int i t from rx);cases q;exact kia_one PySem.W.kitx_int I.kIn True.intro e (fun z=>nomatch z) h
 | str y=>obtain⟨t,q⟩:=(show ∃t,u=Value.str y t from rx);cases q;exact kia_one PySem.W.kitx_str I.kIn True.intro e (fun z=>nomatch z) h
 | flt y=>obtain⟨t,q⟩:=(show ∃t,u=Value.float y t from rx);cases q;exact kia_one PySem.W.kitx_float I.kIn True.intro e (fun z=>nomatch z) h
 | @lst a xs ea=>
  cases (show u=Value.ref a from rx);obtain⟨_,_,n,_,h1⟩:=(show yB X.prog X.w H s.heap a (.lst xs) from I.hok a _ ea);exact kia_one PySem.W.kitx_list I.kIn ⟨_,h1,rfl⟩ e (fun z=>nomatch z) h
 | @frz a ob xs ea=>
  cases (show u=Value.ref a from rx);obtain⟨_,_,_,n,_,h1⟩:=(show yB X.prog X.w H s.heap a (.frz ob (.lst xs)) from I.hok a _ ea);exact kia_one PySem.W.kitx_list I.kIn ⟨_,h1,rfl⟩ e (fun z=>nomatch z) h
 | @tup a xs ea=>
  cases (show u=Value.ref a from rx);obtain⟨_,_,_,p⟩:=(show yB X.prog X.w H s.heap a (.tup xs) from I.hok a _ ea);obtain⟨o,h1,h2,_⟩:=p;exact kia_one PySem.W.kitx_tuple I.kIn ⟨o,h1,h2⟩ e (fun z=>nomatch z) h
 | @dK a kvs ea=>
  cases (show u=Value.ref a from rx);obtain⟨_,_,vs,_,p⟩:=(show yB X.prog X.w H s.heap a (.dK kvs) from I.hok a _ ea);obtain⟨o,es,ep,h1,h2,_⟩:=p;exact kia_one PySem.W.kitx_dict I.kIn ⟨o,h1,h2.1⟩ e (fun z=>nomatch z) h
 | @dT a kvs ea=>
  cases (show u=Value.ref a from rx);obtain⟨_,_,xs,_,o,es,ep,h1,h2,_⟩:=(show yB X.prog X.w H s.heap a (.dT kvs) from I.hok a _ ea);exact kia_one PySem.W.kitx_dict I.kIn ⟨o,h1,h2.1⟩ e (fun z=>nomatch z) h
 | @ins a C dx fs ea cl ha hn htk hm=>
  cases (show u=Value.ref a from rx);obtain⟨mA,O,_⟩:=jO I.hok ea;obtain⟨od,J,_⟩:=O.look;exact kia_one (PySem.W.kitx_own (cl.get _) cl.hd ha hn htk hm) I.kIn J e (fun z=>nomatch z) h
structure yn(k:Nat)(A:Around):Prop where
 hd:A.handled=none
 dp:A.depth+3 * k+5<recursionLimit
 un:A.units+16 * k+200<cLine
 gd:A.guards=some []
theorem yn.mono{j k:Nat}{A:Around}(r:yn k A)(h:j<=k):yn j A:=⟨r.hd,by have:=r.dp;omega,by have:=r.un;omega,r.gd⟩
theorem yn.deeper{k:Nat}{A:Around}(r:yn (k+1) A)(env:Env):yn k (A.deeper env):=
 ⟨r.hd,by have:=r.dp;show A.depth+1+3 * k+5<_;omega,by have:=r.un;show A.units+3+16 * k+200<_;omega,r.gd⟩
theorem zdo{A:Around}{C:Addr}{us:List Value}{kw:List (Str×Value)}:(A.under (.builtin "type.__call__" ⟨.ref C::us,kw⟩)).depth=A.depth+1:=by
 first|rfl|simp [Around.under,Code.weight,Code.isCreation,Code.isGuard,Code.isCaller,Code.frames,Code.isFrame,guardIds]
theorem zdn{A:Around}{C:Addr}{us:List Value}{kw:List (Str×Value)}:(A.under (.builtin "type.__call__" ⟨.ref C::us,kw⟩)).units=A.units+1:=by
 first|rfl|simp [Around.under,Code.cUnits,Code.frames,Code.isFrame]
theorem yn.make{k:Nat}{A:Around}(r:yn (k+1) A)(C:Addr)(us:List Value)(kw:List (Str×Value)):yn k (A.under (.builtin "type.__call__" ⟨.ref C::us,kw⟩)):=
 ⟨r.hd,by have:=r.dp;rw[zdo];omega,by have:=r.un;rw[zdn];omega,r.gd⟩
theorem yn.depth{k:Nat}{A:Around}(r:yn k A):A.depth<recursionLimit:=by have:=r.dp;omega
theorem yn.units{k:Nat}{A:Around}(r:yn k A):A.units+64<cLine:=by have:=r.un;omega
theorem yn.units0{k:Nat}{A:Around}(r:yn k A):A.units<cLine:=by have:=r.un;omega
def zhO:TA:=fun _ H Q=>Q [] H
def zdX(ta:TE)(tr:TA):TA:=fun σ H Q=>ta σ H fun x H1=>tr σ H1 fun xs H2=>Q (x::xs) H2
variable {es:List Expr}{te:TE}{t:TA}
theorem zb:PA X [] zhO:=⟨fun _ _ _ _ H Q I h=>Calls.spliced_nil ⟨[],H,I,.nil,h⟩⟩
theorem zio(ha:PE X e te)(hr:PA X es t)(hs:starEach (e::es) X.env=(false,eval e X.env)::starEach es X.env:=by rfl):PA X (e::es) (zdX te t):=by
 exists ?_;intro pos pins s σ H Q I h;rw[hs];show wpAny _ _ (spliced ((false,eval e X.env)::backTo pos (starEach es X.env))) _ _ s;refine Calls.spliced_cons (thn (ha pins s σ H _ I h) fun u s1 ⟨x,H1,I1,r1,q1⟩=>?_);exact thn (hr pos pins s1 σ H1 _ I1 q1) fun us s2 ⟨xs,H2,I2,r2,q2⟩=>⟨x::xs,H2,I2,.cons r1 r2,q2⟩
def zk6(t:TA):TE:=fun σ H Q=>t σ H fun xs H1=>xs.length<=sizeLine/\∀p,H1 p=none->Q (.ref p) (upd H1 p (.tup xs))
def zme(t:TA):TE:=fun σ H Q=>t σ H fun xs H1=>xs.length<=sizeLine/\∀p,H1 p=none->Q (.ref p) (upd H1 p (.lst xs))
theorem zJ{x1}(h:PA X es t):PE X (.Tuple es x1 pos) (zk6 t):=by
 exists ?_;intro pins s σ H Q I hq;refine wpAny_Tuple_spliced (thn (h pos pins s σ H _ I hq) fun us s1 ⟨xs,H1,I1,r,z,q⟩=>⟨by rw[<- r.length];exact z,?_⟩)
 have hf:H1 s1.heap.objs.size=none:=I1.hok.fresh (aF _);exists .ref s1.heap.objs.size,upd H1 s1.heap.objs.size (.tup xs),I1.laid (t':=s1.toks) (fun b u e=>zgp _ e) (aF _) ?_,rfl,q _ hf;exact⟨z,us,r,⟨_,zgs _ rfl,rfl,_,rfl⟩⟩
theorem zN(h:PA X es t):PE X (.List es pos) (zme t):=by
 exists ?_;intro pins s σ H Q I hq;refine wpAny_List_spliced (thn (h pos pins s σ H _ I hq) fun us s1 ⟨xs,H1,I1,r,z,q⟩=>⟨by rw[<- r.length];exact z,?_⟩)
 have hf:H1 s1.heap.objs.size=none:=I1.hok.fresh (aF _);exists .ref s1.heap.objs.size,upd H1 s1.heap.objs.size (.lst xs),I1.laid (t':=s1.toks) (fun b u e=>zgp _ e) (aF _) ?_,rfl,q _ hf;exact⟨z,us,0,r,zgs _ rfl⟩
abbrev Sp:=List V->Hp->VK->XK->Prop
abbrev CXT:=List Env->Hp->Shared->XK->Value->Shared->Prop
structure qW(P:Program)(w:World)(K:Frag)(mg:Str->Option Value)(base:Heap)(A:Around)(outer:List Env)(s:Shared)(H:Hp):Prop where
 frames:A.frames=some outer
 mod:Mod K mg base
 bs:∀b o,base.get? b=some o->s.heap.get? b=some o/\H b=none
 bsz:base.objs.size<=s.heap.objs.size
 funs:s.heap.FunFrames base outer
 frf:∀b∈frs outer,H b=none
 hok:HOk P w H s.heap
 bare:AllBare s.gens
def CE(outer:List Env)(P:Program)(w:World)(H:Hp)(s:Shared)(Q:VK)(u:Value)(s':Shared):Prop:=
 ∃v H',s'.os=s.os/\AllBare s'.gens/\Un (frs outer) [] H H' s.heap s'.heap/\HOk P w H' s'.heap/\zW v u/\Q v H'
def CR(CX:CXT)(outer:List Env)(P:Program)(w:World)(H:Hp)(s:Shared)(Q:VK)(E:XK)(r:Result)(s':Shared):Prop:=
 match r with
 | .ok (.ret u)=>CE outer P w H s Q u s'
 | .ok _=>False
 | .error e=>CX outer H s E e s'
structure zC(P:Program)(w:World)(K:Frag)(mg:Str->Option Value)(base:Heap)(CX:CXT)(k:Nat)(f:Addr)(fd:FuncData)(ps:List Str)(sp:Sp):Prop where
 len:∀vs H Q E,sp vs H Q E->vs.length=ps.length
 run:∀(A:Around) (outer:List Env) (s:Shared) (H:Hp) (args:Args) (us:List Value) (vs:List V) (Q:VK) (E:XK),yn k A->qW P w K mg base A outer s H->BindsTo s fd args (ps.zip us)->zV vs us->sp vs H Q E->
  codeAny (model P w) A (.call (.ref f) args) (CR CX outer P w H s Q E) s
theorem qW.make{P:Program}{w:World}{K:Frag}{mg:Str->Option Value}{base:Heap}{A:Around}{outer:List Env}{s:Shared}{H:Hp}(e:qW P w K mg base A outer s H)(C:Addr)(us:List Value)(kw:List (Str×Value)):
  qW P w K mg base (A.under (.builtin "type.__call__" ⟨.ref C::us,kw⟩)) outer s H:=⟨by first|exact e.frames|(simpa [Around.under,Code.envs,Code.isFrame,pushEnvs] using e.frames),e.mod,e.bs,e.bsz,e.funs,e.frf,e.hok,e.bare⟩
variable {s':Shared}
theorem Inv.env0(I:Inv X pins σ H s):qW X.prog X.w X.K X.mg X.base X.A X.stack s H:=
 ⟨I.ok.frames,I.ok.mod,I.bs,le_trans I.ok.bsz I.sz,I.stack,I.stkFree,I.hok,I.bare⟩
theorem Inv.after{Q:VK}{u:Value}(I:Inv X pins σ H s)(h:CE X.stack X.prog X.w H s Q u s'):EP X pins σ Q u s':=by
 obtain⟨v,H',os,bare,un,hok,r,q⟩:=h;obtain⟨hh,g,d,t,os'⟩:=s';obtain rfl:os'=s.os:=os;exact⟨v,H',I.call (h':=hh) (g':=g) (d':=d) (t':=t) (ch:=[]) un hok bare (fun b z=>absurd z (by simp)),r,q⟩
def jV(sp:Sp)(dvs:List V)(E:XK)(t:TA):TE:=fun σ H Q=>t σ H fun vs H1=>sp (vs++dvs) H1 Q E
inductive zjlJ(C:Addr)(m:Str)(sp:Sp)(dvs:List V)(E:XK)(t:TA)(σ:St)(Q:VK)(x:V)(H1:Hp):Prop|mk(a dx fs:_):x=.ref a->H1 a=some (.ins C dx fs)->fs.lookup m=none->(t σ H1 fun vs H2=>sp (x::(vs++dvs)) H2 Q E)->zjlJ C m sp dvs E t σ Q x H1
def zjl(C:Addr)(m:Str)(sp:Sp)(dvs:List V)(E:XK)(ta:TE)(t:TA):TE:=fun σ H Q=>ta σ H fun x H1=>zjlJ C m sp dvs E t σ Q x H1
def zjm(C:Addr)(sp:Sp)(dvs:List V)(E:XK)(t:TA):TE:=fun σ H Q=>t σ H fun vs H1=>∀x dx,H1 x=none->H1 dx=none->dx≠x->
 sp (.ref x::(vs++dvs)) (upd (upd H1 dx (.own x)) x (.ins C dx [])) (fun v H2=>v=.non/\Q (.ref x) H2) E
def z0(K:Frag)(fd:FuncData)(ps:List Str)(ds:List Value):Prop:=
 ∀(s:Shared) (us:List Value),K.In s.heap->(us++ds).length=ps.length->BindsTo s fd ⟨us,[]⟩ (ps.zip (us++ds))
theorem z0.all{K:Frag}{fd:FuncData}{ps:List Str}(h:∀us:List Value,us.length=ps.length->bindArgs fd ⟨us,[]⟩=pure (ps.zip us)):z0 K fd ps []:=fun s us _ hl=>by
 rw[append_nil] at hl |-;exact .of_eq (h us hl)
def xG(CX:CXT)(X:Cx)(E:XK):Prop:=∀(pins:PnL) (σ : St) (H:Hp) (s:Shared) (e:Value) (s':Shared),Inv X pins σ H s->CX X.stack H s E e s'->X.xe e s'
end
section
variable {X:Cx}{CX:CXT}{k:Nat}{f C:Addr}{fd:FuncData}{ps:List Str}{sp:Sp}{dvs:List V}{ds:List Value}{E:XK}{x m:Str}{p pos apos:Pos}{e o:Expr}{es:List Expr}{ta:TE}{t:TA}
theorem qg{pins:PnL}{σ : St}{H:Hp}{s:Shared}{Q:VK}{us:List Value}{vs:List V}(F:zC X.prog X.w X.K X.mg X.base CX k f fd ps sp)(hr:yn k X.A)(hb:z0 X.K fd ps ds)(hd:zV dvs ds)(hx:xG CX X E)
  (I:Inv X pins σ H s) (r:zV vs us) (h:sp (vs++dvs) H Q E):wpAny (model X.prog X.w) X.A (call (.ref f) us) (EP X pins σ Q) X.xe s:=by
 have r2:zV (vs++dvs) (us++ds):=r.append hd;have hl:(us++ds).length=ps.length:=by rw[<- r2.length];exact F.len _ _ _ _ h
 refine wpAny_call (codeAny_mono (F.run X.A X.stack s H ⟨us,[]⟩ (us++ds) (vs++dvs) Q E hr I.env0 (hb s us I.kIn hl) r2 h) fun r s' hq=>?_);cases r with
 | error e=>exact hx pins σ H s e s' I hq
 | ok fl=>
  cases fl with
  | ret u=>exact I.after hq
  | next=>exact False.elim hq
  | brk=>exact False.elim hq
  | cont=>exact False.elim hq
theorem zef(F:zC X.prog X.w X.K X.mg X.base CX k f fd ps sp)(hr:yn k X.A)(hg:Gl X x)(hm:X.mg x=some (.ref f))(hk:keepIn X.K (.ref f)=true)(hb:z0 X.K fd ps ds)(hd:zV dvs ds)(hx:xG CX X E)
  (ha:PA X (e::es) t) (hdb:(x==("__debug__" : Str))=false:=by decide) (he:starEach (e::es) X.env=(false,eval e X.env)::starEach es X.env:=by rfl) (hpl:(backTo pos (starEach es X.env)).any (·.1)=false:=by rfl) :
  PE X (.Call (.Name x p) (e::es) [] pos) (jV sp dvs E t):=by
 exists ?_;intro pins s σ H Q I h;refine wpAny_Call_Name_kw (wa I hg hm ?_ hdb);refine callWith_K (h₀:=X.base) I.ok.mod.kin hk (thn (ha pos pins s σ H _ I h) fun us s1 ⟨vs,H1,I1,r,q⟩=>⟨I1.kIn,?_⟩) he hpl;exact qg F hr hb hd hx I1 r q
theorem zbi{pl:Sem Bool}(he:PE X o ta)(c:Cls X.K C)(hm:xH X.K C m f)(F:zC X.prog X.w X.K X.mg X.base CX k f fd ps sp)(hr:yn k X.A)(hb:z0 X.K fd ps ds)(hd:zV dvs ds)(hx:xG CX X E)(ha:PA X (e::es) t)
  (hst:starEach (e::es) X.env=(false,eval e X.env)::starEach es X.env:=by rfl) (hpl:(backTo pos (starEach es X.env)).any (·.1)=false:=by rfl)
  (ht:eval (.Call (.Attribute o m apos) (e::es) [] pos) X.env=(do
   let ov <- eval o X.env
   standAt apos.atName
   let (f,first) <- holding [ov] (getMethod ov m pl)
   callWith pos f first (backTo pos (starEach (e::es) X.env)) (backToKw pos (keywordEach [] X.env))):=by rfl) :
  PE X (.Call (.Attribute o m apos) (e::es) [] pos) (zjl C m sp dvs E ta t):=by
 exists ?_;intro pins s σ H Q I h;refine methodCall_KW (pl:=pl) (thn (he pins s σ H _ I h) fun u s1 ⟨x,H1,I1,rx,a,dx,fs,ex,ea,l,q⟩=>?_) ht;subst ex;obtain rfl:u=Value.ref a:=rx;refine uC I1 ea c hm l ?_;refine callWith_K (first:=[.ref a]) (h₀:=X.base) I.ok.mod.kin hm.kp (thn (ha pos pins s1 σ H1 _ I1 q) fun us s2 ⟨vs,H2,I2,r,q2⟩=>⟨I2.kIn,?_⟩) hst hpl
 exact qg (us:=.ref a::us) (vs:=.ref a::vs) F hr hb hd hx I2 (.cons rfl r) q2
theorem yG{pl:Sem Bool}(he:PE X o ta)(c:Cls X.K C)(hm:xH X.K C m f)(F:zC X.prog X.w X.K X.mg X.base CX k f fd ps sp)(hr:yn k X.A)(hb:z0 X.K fd ps ds)(hd:zV dvs ds)(hx:xG CX X E)
  (ht:eval (.Call (.Attribute o m apos) [] [] pos) X.env=(do
   let ov <- eval o X.env
   standAt apos.atName
   let (f,first) <- holding [ov] (getMethod ov m pl)
   callWith pos f first (backTo pos (starEach [] X.env)) (backToKw pos (keywordEach [] X.env))):=by rfl) :
  PE X (.Call (.Attribute o m apos) [] [] pos) (zjl C m sp dvs E ta zhO):=by
 exists ?_;intro pins s σ H Q I h;refine methodCall_KW (pl:=pl) (thn (he pins s σ H _ I h) fun u s1 ⟨x,H1,I1,rx,a,dx,fs,ex,ea,l,q⟩=>?_) ht;subst ex;obtain rfl:u=Value.ref a:=rx;refine uC I1 ea c hm l ?_;exact PySem.W.callWith_K0 (first:=[.ref a]) I1.kIn hm.kp (qg (us:=[.ref a]) (vs:=[.ref a]) F hr hb hd hx I1 (.cons rfl .nil) q)
structure Mk(K:Frag)(C f:Addr):Prop where
 makes:makesIn K C=true
 init:findIn K (.ref C) "__init__"=some (some (.ref f))
 fn:isFn K (.ref f)=true
 kp:keepIn K (.ref C)=true
theorem zgj{pins:PnL}{σ : St}{H:Hp}{s:Shared}{Q:VK}{us:List Value}{vs:List V}(M:Mk X.K C f)(F:zC X.prog X.w X.K X.mg X.base CX k f fd ps sp)(hr:yn (k+1) X.A)(hb:z0 X.K fd ps ds)(hd:zV dvs ds)
  (hx:xG CX X E) (I:Inv X pins σ H s) (r:zV vs us)
  (h:∀x dx,H x=none->H dx=none->dx≠x->sp (.ref x::(vs++dvs)) (upd (upd H dx (.own x)) x (.ins C dx [])) (fun v H2=>v=.non/\Q (.ref x) H2) E) :
  wpAny (model X.prog X.w) X.A (call (.ref C) us) (EP X pins σ Q) X.xe s:=by
 have hq:=h (s.heap.objs.size+1) s.heap.objs.size (I.hok.fresh (le_succ _)) (I.hok.fresh (aF _)) (ne_of_lt (lt_succ_self _));have I2:=Inv.made (C:=C) I;have r2:zV (V.ref (s.heap.objs.size+1)::(vs++dvs)) (Value.ref (s.heap.objs.size+1)::(us++ds)):=.cons rfl (r.append hd);have hl:(Value.ref (s.heap.objs.size+1)::us++ds).length=ps.length:=by
  have e:=r2.length;rw[F.len _ _ _ _ hq] at e;exact e.symm
 refine wpAny_call (zg9 (f:=f) I.kIn M.makes M.init (beq_iff_eq.mp M.fn) (codeAny_mono (F.run _ X.stack _ _ ⟨Value.ref (s.heap.objs.size+1)::us,[]⟩ (Value.ref (s.heap.objs.size+1)::(us++ds)) _ _ E (hr.make C us [])
  (I2.env0.make C us []) (hb _ (Value.ref (s.heap.objs.size+1)::us) I2.kIn hl) r2 hq) fun r s' hq'=>?_))
 cases r with
 | error e=>exact hx pins σ _ _ e s' I2 hq'
 | ok fl=>
  cases fl with
  | ret u=>
   obtain⟨v,H',I3,rv,ev,q3⟩:=I2.after hq';subst ev;exact⟨rv,⟨V.ref (s.heap.objs.size+1),H',I3,rfl,q3⟩⟩
  | next=>exact False.elim hq'
  | brk=>exact False.elim hq'
  | cont=>exact False.elim hq'
theorem zed(M:Mk X.K C f)(F:zC X.prog X.w X.K X.mg X.base CX k f fd ps sp)(hr:yn (k+1) X.A)(hg:Gl X x)(hm:X.mg x=some (.ref C))(hb:z0 X.K fd ps ds)(hd:zV dvs ds)(hx:xG CX X E)
  (ha:PA X (e::es) t) (hdb:(x==("__debug__" : Str))=false:=by decide) (he:starEach (e::es) X.env=(false,eval e X.env)::starEach es X.env:=by rfl) (hpl:(backTo pos (starEach es X.env)).any (·.1)=false:=by rfl) :
  PE X (.Call (.Name x p) (e::es) [] pos) (zjm C sp dvs E t):=by
 exists ?_;intro pins s σ H Q I h;refine wpAny_Call_Name_kw (wa I hg hm ?_ hdb);refine callWith_K (h₀:=X.base) I.ok.mod.kin M.kp (thn (ha pos pins s σ H _ I h) fun us s1 ⟨vs,H1,I1,r,q⟩=>⟨I1.kIn,?_⟩) he hpl;exact zgj M F hr hb hd hx I1 r q
variable {ks:List Str}{kpos:Pos}{kws:List Keyword}{te:TE}{tk:TA}{nm:Option Str}
variable {g:List Value->List Value->List Value}{gV:List V->List V->List V}
structure zt(N P:List Str)(sc:Scope):Prop where
 kind:sc.kind=.function
 co:sc.isCoroutine=false
 gen:sc.isGenerator=false
 nd:N.Nodup
 pre:N.take P.length=P
 par:∀x∈P,sc.names.lookup x=some .local\/sc.names.lookup x=some .cell
 nofree:∀y∈sc.names,y.2≠.free
theorem fsc{N P:List Str}{sc:Scope}(a:sc.kind=.function:=by rfl)(b:sc.isCoroutine=false:=by rfl)(c:sc.isGenerator=false:=by rfl)(d:N.Nodup:=by symm)(e:N.take P.length=P:=by rfl)(f:∀x∈P,sc.names.lookup x=some .local\/sc.names.lookup x=some .cell:=by symm)(g:∀y∈sc.names,y.2≠.free:=by symm):zt N P sc:=⟨a,b,c,d,e,f,g⟩
theorem zaN{kindOf:Str->Option NameKind}{x:Str}:∀{binds:List (Str×Value)}{m:Str->Option Value},(∀v,(x,v)∉binds)->bindL kindOf binds m x=m x
 | [],_,_=>rfl
 | (n,v)::r,m,h=>by
  unfold bindL;rw[zaN fun w hw=>h w (mem_cons_of_mem _ hw)];split
  ·have:x≠n:=by rintro rfl;exact h v mem_cons_self
   simp [this]
  ·rfl
theorem zaP{kindOf:Str->Option NameKind}{x:Str}:∀{binds:List (Str×Value)}{m:Str->Option Value},(∀v,(x,v)∉binds)->bindC kindOf binds m x=m x
 | [],_,_=>rfl
 | (n,v)::r,m,h=>by
  unfold bindC;rw[zaP fun w hw=>h w (mem_cons_of_mem _ hw)];split
  ·rfl
  ·have:x≠n:=by rintro rfl;exact h v mem_cons_self
   simp [this]
theorem zaO{kindOf:Str->Option NameKind}{x:Str}{v:Value}:∀{P:List Str}{vs:List Value}{i:Nat}{m:Str->Option Value},P.Nodup->P[i]?=some x->vs[i]?=some v->kindOf x=some .local->
  bindL kindOf (P.zip vs) m x=some v
 | [],_,_,_,_,h,_,_=>by simp at h
 | _::_,[],_,_,_,_,h,_=>by simp at h
 | p::P,w::vs,0,m,nd,h1,h2,hk=>by
  simp at h1 h2;subst h1;subst h2;show bindL kindOf ((p,w)::P.zip vs) m p=_;unfold bindL;rw[zaN fun v hv=>(List.nodup_cons.mp nd).1 (of_mem_zip hv).1,aK hk];simp
 | p::P,w::vs,i+1,m,nd,h1,h2,hk=>by
  show bindL kindOf ((p,w)::P.zip vs) m x=_;unfold bindL;exact zaO (i:=i) (List.nodup_cons.mp nd).2 (by simpa using h1) (by simpa using h2) hk
theorem zaQ{kindOf:Str->Option NameKind}{x:Str}{v:Value}:∀{P:List Str}{vs:List Value}{i:Nat}{m:Str->Option Value},P.Nodup->P[i]?=some x->vs[i]?=some v->kindOf x≠some .local->
  bindC kindOf (P.zip vs) m x=some v
 | [],_,_,_,_,h,_,_=>by simp at h
 | _::_,[],_,_,_,_,h,_=>by simp at h
 | p::P,w::vs,0,m,nd,h1,h2,hk=>by
  simp at h1 h2;subst h1;subst h2;show bindC kindOf ((p,w)::P.zip vs) m p=_;unfold bindC;rw[zaP fun v hv=>(List.nodup_cons.mp nd).1 (of_mem_zip hv).1,aJ hk];simp
 | p::P,w::vs,i+1,m,nd,h1,h2,hk=>by
  show bindC kindOf ((p,w)::P.zip vs) m x=_;unfold bindC;exact zaQ (i:=i) (List.nodup_cons.mp nd).2 (by simpa using h1) (by simpa using h2) hk
def xP(N:List Str)(vs:List V):St:=vs.map some++List.replicate (N.length - vs.length) none
def jD(CX:CXT)(P:Program)(w:World)(K:Frag)(mg:Str->Option Value)(base:Heap)(N:List Str)(qual:Str)(scope:Scope)(f:Addr)(cd:Value)(A:Around)(outer:List Env)(s:Shared)(H:Hp)(E:XK):Cx where
 prog:=P
 w:=w
 K:=K
 mg:=mg
 base:=base
 A:=A.deeper (envOfC qual scope s.heap.objs.size f cd)
 N:=N
 s₀:=s
 H₀:=H
 env:=envOfC qual scope s.heap.objs.size f cd
 outer:=outer
 stack:=envOfC qual scope s.heap.objs.size f cd::outer
 ex:=[]
 calm:=true
 fn:=fun _=>true
 pn:=[]
 xe:=fun e s'=>wpAny (model P w) (A.deeper (envOfC qual scope s.heap.objs.size f cd)) (leaving (envOfC qual scope s.heap.objs.size f cd) e) (fun _ s''=>CX outer H s E e s'') (fun e' s''=>CX outer H s E e' s'') s'
theorem zcw{sc:Scope}{n:Nat}{x:Str}(h:sc.names.lookup x=some .cell):∃c,(cellsFrom n sc.names []).lookup x=some c:=by
 have q:=cellsFrom_some sc.names n [] (.inl h);exact Option.isSome_iff_exists.mp q
theorem zaD{CX:CXT}{P:Program}{w:World}{K:Frag}{mg:Str->Option Value}{base:Heap}{N ps:List Str}{qual:Str}{scope:Scope}{f:Addr}{cd:Value}{A:Around}{outer:List Env}{s s1:Shared}{H:Hp}{E:XK}{us:List Value}{vs:List V}
  (S:zt N ps scope) (hd:A.handled=none) (e0:qW P w K mg base A outer s H) (hl:vs.length=ps.length) (r:zV vs us)
  (x:InCallC s s.heap.objs.size (bindL (envOfC qual scope s.heap.objs.size f cd).kindOf (ps.zip us) fun _=>none) (cellsFrom (s.heap.objs.size+1) scope.names []) (bindC (envOfC qual scope s.heap.objs.size f cd).kindOf (ps.zip us) fun _=>none) s1) :
  Inv (jD CX P w K mg base N qual scope f cd A outer s H E) [] (xP N vs) H s1:=by
 have hpl:ps.length<=N.length:=by have:=congrArg List.length S.pre;rw[length_take] at this;omega
 obtain⟨h1,tk,rfl,hk⟩:=x.done;have noA:∀b:Addr,b∉(jD CX P w K mg base N qual scope f cd A outer s H E).ex:=fun b z=>absurd (show b∈([]:List Addr) from z) (by simp)
 refine⟨⟨e0.mod,S.kind,rfl,rfl,aF _,fun y z c h1 h2=>?_,fun y hy=>?_,fun y c _ h=>?_,fun _=>hd,Around.frames_deeper e0.frames,.inr ⟨rfl,rfl⟩,fun b z=>absurd z (noA b),e0.bs,e0.bsz,fun b _ _=>noA b,fun b z=>absurd z (noA b),e0.funs,e0.frf⟩,
  rfl,e0.bare,Un.kept hk,⟨_,x.toInCall.ns,fun i y v h1 h2 h3=>?_⟩,fun y c h=>⟨_,x.cell y c h⟩,e0.hok.fresh (aF _),fun y c h=>?_,fun p hp=>absurd (show p∈([]:PnL) from hp) (by simp),e0.hok.kept hk,?_⟩
 ·exact name_of_addr x.apart (PySem.mem_of_lookup h1) (PySem.mem_of_lookup h2)
 ·have hy:scope.names.lookup y=some .cell\/scope.names.lookup y=some .free:=hy
  rcases hy with hy|hy
  ·exact zcw hy
  ·exact absurd rfl (S.nofree _ (PySem.mem_of_lookup hy))
 ·exact le_of_lt (x.above y c (PySem.mem_of_lookup h))
 ·have hi:i<vs.length:=by
   unfold xP at h2;by_cases hi:i<vs.length
   ·exact hi
   ·rw[List.getElem?_append_right (by simpa using hi)] at h2
    rw[List.getElem?_replicate] at h2;split at h2 <;> cases h2
  have ha:vs[i]?=some v:=by
   unfold xP at h2;rw[List.getElem?_append_left (by simpa using hi),getElem?_map] at h2
   cases e:vs[i]? with
   | none=>rw[e] at h2;cases h2
   | some a=>rw[e] at h2;cases h2;rfl
  obtain⟨u,hu,rv⟩:=r.get ha;have hp:ps[i]?=some y:=by
   rw[<- S.pre,List.getElem?_take_of_lt (by omega)];exact h1
  have ndP:ps.Nodup:=by rw[<- S.pre];exact S.nd.sublist (List.take_sublist _ _)
  exists u,rv,?_;rcases S.par y (aH hp) with k|k
  ·exact .inl ⟨k,zaO ndP hp hu k⟩
  ·obtain⟨c,e⟩:=zcw (n:=s.heap.objs.size+1) k
   refine .inr ⟨.inl k,c,e,?_⟩;have q:=x.cell y c e;rw[zaQ ndP hp hu (by show scope.names.lookup y≠_;rw[k];decide)] at q
   exact q
 ·exact e0.hok.fresh (le_of_lt (x.above y c (PySem.mem_of_lookup h)))
 ·unfold xP
  show _=N.length;rw[aG,aA,List.length_replicate];omega
theorem zhp{CX:CXT}{P:Program}{w:World}{K:Frag}{mg:Str->Option Value}{base:Heap}{k:Nat}{f:Addr}{name qual:Str}{params:Arguments}{body:List Stmt}{scope:Scope}{dV kV doc pm cdv ct oc:Value}{an od:Option Addr}
  {osl:Array (Option Value)}{N ps:List Str}{sp:Sp}(lk:K.lookup f=some ⟨oc,od,.func (fnOf name qual params body scope dV kV doc pm an cdv ct),osl⟩) (hcd:codeIn K cdv qual=true) (S:zt N ps scope)
  (len:∀vs H Q E,sp vs H Q E->vs.length=ps.length)
  (hbody:∀(A:Around) (outer:List Env) (s:Shared) (H:Hp) (vs:List V) (Q:VK) (E:XK),yn k (A.deeper (envOfC qual scope s.heap.objs.size f cdv))->sp vs H Q E->
   ∃t,PSs (jD CX P w K mg base N qual scope f cdv A outer s H E) body t/\t { nx:=fun _ H'=>Q .non H',rt:=Q } (xP N vs) H) :
  zC P w K mg base CX (k+1) f (fnOf name qual params body scope dV kV doc pm an cdv ct) ps sp:=by
 exists len,fun A outer s H args us vs Q E hr e0 hb r hsp=>?_;have hl:=len _ _ _ _ hsp;have KX:K.In s.heap:=e0.mod.kin.keeps fun b o e=>(e0.bs b o e).1;have lim:s.heap.NoLimit:=e0.mod.nolimit.keeps fun b o e=>(e0.bs b o e).1;have hkind:∀y∈ps.zip us,scope.names.lookup y.1=some .local\/(scope.names.lookup y.1=some .cell/\((cellsFrom (s.heap.objs.size+1) scope.names []).lookup y.1).isSome=true):=fun⟨n,v⟩ hy=>by
  rcases S.par n (of_mem_zip hy).1 with q|q
  ·exact .inl q
  ·exact .inr ⟨q,cellsFrom_some _ _ _ (.inl q)⟩
 refine codeAny_call_function hr.depth (KX _ _ lk) rfl S.co S.gen rfl (codeRec_of KX hcd) (hb _ _ _ _ ?_);refine wpAny_newFunctionEnv_cells S.kind hkind fun env he s1 x=>?_;subst he;exists lim.keeps x.toInCall.keep,codeAny_func ?_;obtain⟨t,ht,hq⟩:=hbody A outer s H vs Q E (hr.deeper _) hsp;have I:Inv (jD CX P w K mg base N qual scope f cdv A outer s H E) [] (xP N vs) H s1:=zaD S hr.hd e0 hl r x;refine wpAny_mono (ht [] s1 (xP N vs) H _ I hq) (fun fl s' hs=>?_) fun e s' hs=>hs;have fin:∀{σ':St}{H':Hp}{v:V}{u:Value},Inv (jD CX P w K mg base N qual scope f cdv A outer s H E) [] σ' H' s'->zW v u->Q v H'->CE outer P w H s Q u s':=
  fun {σ' H' v u} J rv q=>⟨v,H',J.os,J.bare,J.base,J.hok,rv,q⟩
 cases fl with
 | ret u=>
  obtain⟨v,σ',H',J,rv,q⟩:=hs;exact fin J rv q
 | next=>
  obtain⟨σ',H',J,q⟩:=hs;exact fin (v:=V.non) (u:=Value.none) J rfl q
 | brk=>
  obtain⟨_,_,_,q⟩:=hs;exact False.elim q
 | cont=>
  obtain⟨_,_,_,q⟩:=hs;exact False.elim q
variable {id T:String}{r:List V->Hp->VK->Prop}
def tCB(r:List V->Hp->VK->Prop)(t:TA):TE:=fun σ H Q=>t σ H fun vs H1=>r vs H1 Q
theorem zgA(hc:xh X (.builtin id) r)(hg:Gl X x)(hm:X.mg x=none)(hv:bootBuiltins x=some (.builtin id))(ha:PA X (e::es) t)(hn:x≠"__name__":=by decide)(hdb:(x==("__debug__" : Str))=false:=by decide)
  (he:starEach (e::es) X.env=(false,eval e X.env)::starEach es X.env:=by rfl) (hpl:(backTo pos (starEach es X.env)).any (·.1)=false:=by rfl):PE X (.Call (.Name x p) (e::es) [] pos) (tCB r t):=by
 exists ?_;intro pins s σ H Q I h;refine wpAny_Call_Name_kw (vP I hg hm hv ?_ hn hdb);exact PyProof.Rows.callWith_builtin1 (thn (ha pos pins s σ H _ I h) fun us s1 ⟨vs,H1,I1,r1,q1⟩=>hc pins s1 σ H1 vs us Q I1 r1 q1) he hpl
theorem zeR(hc:xh X (.type T) r)(hg:Gl X x)(hm:X.mg x=none)(hv:bootBuiltins x=some (.type T))(ha:PA X (e::es) t)(hn:x≠"__name__":=by decide)(hdb:(x==("__debug__" : Str))=false:=by decide)
  (he:starEach (e::es) X.env=(false,eval e X.env)::starEach es X.env:=by rfl) (hpl:(backTo pos (starEach es X.env)).any (·.1)=false:=by rfl):PE X (.Call (.Name x p) (e::es) [] pos) (tCB r t):=by
 exists ?_;intro pins s σ H Q I h;refine wpAny_Call_Name_kw (vP I hg hm hv ?_ hn hdb);exact PyProof.Rows.callWith_type1 (thn (ha pos pins s σ H _ I h) fun us s1 ⟨vs,H1,I1,r1,q1⟩=>hc pins s1 σ H1 vs us Q I1 r1 q1) he hpl
theorem zde(hc:xh X (.type T) r)(hg:Gl X x)(hm:X.mg x=none)(hv:bootBuiltins x=some (.type T))(hn:x≠"__name__":=by decide)(hdb:(x==("__debug__" : Str))=false:=by decide):
  PE X (.Call (.Name x p) [] [] pos) (tCB r zhO):=by
 exists ?_;intro pins s σ H Q I h;refine wpAny_Call_Name_kw (vP I hg hm hv ?_ hn hdb);exact PyProof.Rows.callWith_type0 (hc pins s σ H [] [] Q I .nil h)
end
def zjK(X:Cx)(ss:List Stmt):TS:=fun D σ H=>∃t,PSs X ss t/\t D σ H
theorem jJ{X:Cx}{ss:List Stmt}:PSs X ss (zjK X ss):=⟨fun pins s σ H D I ⟨_,p,h⟩=>p pins s σ H D I h⟩
theorem zR{X:Cx}{st:Stmt}{wE:List Stmt}{t:TS}{D:L2.vc}{σ : L2.St}{H:Hp}(p:PS X st t)(h:wx t (zjK X wE) D σ H):zjK X (st::wE) D σ H:=⟨_,zh p jJ,h⟩
end L2
namespace HT
open PySem PyProof.Rows
section
open PySem.SeqAt
open PySem.AutoSeq1 (wpAny_loadPart')
open PySem.MeetsSeq PySem.MeetsSeq2 PySem.MeetsSeq3
end
section
variable {prog:Program}{w:World}{A:Around}{E:VSP}{s:Shared}
def sIx(n d:Nat):Option Int->Nat
 | none=>d
 | some v=>if v<0 then (v+(n:Int)).toNat else min v.toNat n
theorem zlu(n d:Nat):sIx n d none=d:=rfl
theorem zl9(n d k:Nat):sIx n d (some (k:Int))=min k n:=by
 show(if (k:Int)<0 then ((k:Int)+(n:Int)).toNat else min (k:Int).toNat n)=min k n
 rw[L2.aJ (by omega),toNat_natCast]
end
end HT
namespace L2
open PySem PySem.Spec PyProof.Rows
abbrev TO:=St->Hp->(Option Int->Hp->Prop)->Prop
structure PO(X:Cx)(e:Option Expr)(t:TO):Prop where
 run:∀(pins:PnL) (s:Shared) (σ : St) (H:Hp) (Q:Option Int->Hp->Prop),Inv X pins σ H s->t σ H Q->
  wpAny (model X.prog X.w) X.A (evalPart e X.env) (fun u s'=>∃o H',Inv X pins σ H' s'/\IsPart u o/\Q o H') X.xe s
instance {X:Cx}{e:Option Expr}{t:TO}:CoeFun (PO X e t) (fun _=>∀(pins:PnL) (s:Shared) (σ : St) (H:Hp) (Q:Option Int->Hp->Prop),Inv X pins σ H s->t σ H Q->
  wpAny (model X.prog X.w) X.A (evalPart e X.env) (fun u s'=>∃o H',Inv X pins σ H' s'/\IsPart u o/\Q o H') X.xe s):=⟨PO.run⟩
def zhN:TO:=fun _ H Q=>Q none H
def zla(t:TE):TO:=fun σ H Q=>t σ H fun x H1=>∃i,x=.int i/\Q (some i) H1
section
variable {X:Cx}{e:Expr}{te:TE}{lo hi:Option Expr}{tl th:TO}{pos p2:Pos}
theorem zX:PO X none zhN:=by
 exists ?_;intro pins s σ H Q I h;rw[evalPart_none];exact zwp ⟨none,H,I,.none,h⟩
theorem zQ(h:PE X e te):PO X (some e) (zla te):=by
 exists ?_;intro pins s σ H Q I hw;rw[evalPart_some];refine thn (h pins s σ H _ I hw) fun u s1 ⟨x,H1,I1,r1,q1⟩=>?_;obtain⟨i,rfl,q⟩:=q1;obtain⟨t,rfl⟩:=r1;exact⟨some i,H1,I1,.int i t,q⟩
def SlR(X:Cx)(r:V->Option Int->Option Int->Hp->VK->Prop):Prop:=
 ∀(pins:PnL) (s:Shared) (σ : St) (H:Hp) (x:V) (v vl vu:Value) (lo hi:Option Int) (sl:Addr) (Q:VK),Inv X pins σ H s->zW x v->s.heap.IsSliceOf sl vl vu .none->IsPart vl lo->IsPart vu hi->r x lo hi H Q->
  ∃T id,typeLookup (.type T) "__getitem__"=pure (some (.builtin id))/\s.TypeIs v T/\wpAny (model X.prog X.w) X.A (getItem v (.ref sl)) (EP X pins σ Q) X.xe s
def tSl(r:V->Option Int->Option Int->Hp->VK->Prop)(te:TE)(tl th:TO):TE:=fun σ H Q=>te σ H fun x H1=>tl σ H1 fun l H2=>th σ H2 fun u H3=>r x l u H3 Q
theorem zM{r:V->Option Int->Option Int->Hp->VK->Prop}(hr:SlR X r)(he:PE X e te)(hl:PO X lo tl)(hu:PO X hi th):PE X (.Subscript e (.Slice lo hi none p2) pos) (tSl r te tl th):=by
 exists ?_;intro pins s σ H Q I h;refine Subscript_ (thn (he pins s σ H _ I h) fun v s1 ⟨x,H1,I1,r1,q1⟩=>?_);refine wpAny_Slice (thn (hl pins s1 σ H1 _ I1 q1) fun vl s2 ⟨l,H2,I2,pl,q2⟩=>thn (hu pins s2 σ H2 _ I2 q2) fun vu s3 ⟨u,H3,I3,pu,q3⟩=>?_);rw[evalPart_none];refine zwp ?_;have I4:Inv X pins σ H3 { s3 with heap:=s3.heap.push { cls:=.type "slice",data:=.fields #[vl,vu,.none] } }:=I3.kept (t':=s3.toks) fun b ob q=>zgp _ q
 obtain⟨T,id,hT,ht,hg⟩:=hr pins { s3 with heap:=s3.heap.push { cls:=.type "slice",data:=.fields #[vl,vu,.none] } } σ H3 x v vl vu l u s3.heap.objs.size Q I4 r1 (Heap.IsSliceOf.new ..) pl pu q3
 show wpAny (model X.prog X.w) X.A (subscriptTail e (.Slice lo hi none p2) v (.ref s3.heap.objs.size)) (EP X pins σ Q) X.xe { s3 with heap:=s3.heap.push { cls:=.type "slice",data:=.fields #[vl,vu,.none] } }
 exact tail_any (ops:=[.ref s3.heap.objs.size,v]) ht hT hg (by with_unfolding_all rfl)
def wt(xs:List V)(lo hi:Option Int):List V:=(xs.drop (HT.sIx xs.length 0 lo)).take (HT.sIx xs.length xs.length hi - HT.sIx xs.length 0 lo)
theorem zcs(xs:List V)(lo hi:Option Int):(wt xs lo hi).length<=xs.length:=by
 unfold wt;rw[length_take,length_drop];omega
def ixN(n:Nat)(i:Int):Option Nat:=if 0<=i then (if i<n then some i.toNat else none) else if -(n:Int)<=i then some (i+n).toNat else none
def atI{α : Type}(xs:List α)(i:Int):Option α:=(ixN xs.length i).bind fun j=>xs[j]?
theorem ziV{n:Nat}{i:Int}{j:Nat}(h:ixN n i=some j):seqIndex? i n=some j/\j<n/\-(n:Int)<=i/\i<n:=by
 unfold ixN at h;by_cases h0 : 0<=i
 ·rw[aK h0] at h
  by_cases h1:i<n
  ·rw[aK h1] at h
   have e:i.toNat=j:=Option.some.inj h;exact⟨by rw[seqIndex_of h0 h1,e],by omega,by omega,h1⟩
  ·rw[aJ h1] at h;cases h
 ·rw[aJ h0] at h
  by_cases h1 : -(n:Int)<=i
  ·rw[aK h1] at h
   have e:(i+n).toNat=j:=Option.some.inj h;exact⟨by rw[seqIndex_neg (by omega) h1,e],by omega,h1,by omega⟩
  ·rw[aJ h1] at h;cases h
theorem zbv{α : Type}{xs:List α}{i:Int}{v : α}(h:atI xs i=some v):∃j,seqIndex? i xs.length=some j/\xs[j]?=some v/\j<xs.length/\-(xs.length:Int)<=i/\i<xs.length:=by
 unfold atI at h;cases e:ixN xs.length i with
 | none=>rw[e] at h;cases h
 | some j=>
  rw[e] at h;obtain⟨h1,h2,h3,h4⟩:=ziV e;exact⟨j,h1,h,h2,h3,h4⟩
theorem yP{α : Type}{xs:List α}{j:Nat}{v : α}(h:xs[j]?=some v):atI xs (j:Int)=some v:=by
 have hj:j<xs.length:=(List.getElem?_eq_some_iff.mp h).1;have e:ixN xs.length (j:Int)=some j:=by
  unfold ixN;rw[aK (by omega),aK (by omega)];simp
 unfold atI;rw[e];exact h
def zji(b:Expr):Prop:=∀o i,subscripted b false o i=operate [o,i] (getItem o i)
def IxR(X:Cx)(r:R2):Prop:=
 ∀(value slice:Expr) (pins:PnL) (s:Shared) (σ : St) (H:Hp) (x y:V) (v u:Value) (Q:VK),Inv X pins σ H s->zW x v->zW y u->r x y H Q->
  subscripted slice false v u=operate [v,u] (getItem v u)->wpAny (model X.prog X.w) X.A (subscriptTail value slice v u) (EP X pins σ Q) X.xe s
def MtR(X:Cx)(id:String)(r:V->List V->Hp->VK->Prop):Prop:=
 ∀(pins:PnL) (s:Shared) (σ : St) (H:Hp) (x:V) (xs:List V) (v:Value) (us:List Value) (Q:VK),Inv X pins σ H s->zW x v->zV xs us->r x xs H Q->
  wpAny (model X.prog X.w) X.A (call (.builtin id) (v::us)) (EP X pins σ Q) X.xe s
variable {a b:Expr}{ta tb:TE}
theorem zE{r:R2}(hr:IxR X r)(ha:PE X a ta)(hb:PE X b tb)(hs:zji b):PE X (.Subscript a b pos) (tOp r ta tb):=by
 exists ?_;intro pins s σ H Q I h;exact Subscript_ (zkV ha hb I h fun v u s2 x y H2 I2 rx ry q=>hr a b pins s2 σ H2 x y v u Q I2 rx ry q (hs _ _))
inductive zmZ(K:Frag)(x y:V)(H:Hp)(Q:VK):Prop where
 | mk (p:Addr) (xs:List V) (i:Int) (v:V) (e1:x=.ref p) (e2:y=.int i) (h:SqL K H p xs) (a:atI xs i=some v) (q:Q v H)
def zmx(K:Frag):R2:=fun x y H Q=>zmZ K x y H Q
inductive zmY(K:Frag)(x y:V)(H:Hp)(Q:VK):Prop where
 | mk (p:Addr) (xs:List V) (i:Int) (v:V) (e1:x=.ref p) (e2:y=.int i) (h:SqT K H p xs) (a:atI xs i=some v) (q:Q v H)
def je(K:Frag):R2:=fun x y H Q=>zmY K x y H Q
inductive zmwJ(x:V)(y:V)(H:Hp)(Q:VK):Prop|mk(z i c:_):x=.str z->y=.int i->z.length<=sizeLine->atI z.cps.toList i=some c->(Q (.str ⟨#[c]⟩) H)->zmwJ x y H Q
def zmw:R2:=fun x y H Q=>zmwJ x y H Q
theorem y6:IxR X (zmx X.K):=by
 intro value slice pins s σ H x y v u Q I rx ry h hs;obtain⟨p,xs,i,z,rfl,rfl,hq,he,q⟩:=h;cases rx;obtain⟨t,rfl⟩:=ry;obtain⟨its,r,pl,hz⟩:=I.list hq;obtain⟨j,h1,h2,h3,h4,h5⟩:=zbv he;obtain⟨w,ew,rw'⟩:=r.get h2;have hl:=r.length;have hn:=uA;have fin:EP X pins σ Q w s:=⟨z,H,I,rw',q⟩;by_cases h0 : 0<=i
 ·have hj:i.toNat=j:=by
   rw[seqIndex_of h0 h5] at h1;exact Option.some.inj h1
  exact item_listR pl.isList h0 (by omega) (by rw[hj];simpa using ew) fin hs
 ·have hj:(i+(its.toArray.size:Int)).toNat=j:=by
   rw[seqIndex_neg (by omega) h4] at h1
   rw[size_toArray,<- hl];exact Option.some.inj h1
  exact subscriptTail_builtinR (x:=w) pl.isList.typeIs slot_list_getitem.lookup
   (wpAny_getItem_list_neg (Q:=fun r s'=>r=w/\EP X pins σ Q r s') pl.isList (by omega) (by rw[size_toArray] <;> omega) (by omega) (by rw[hj];simpa using ew) ⟨rfl,fin⟩) hs
theorem zD:IxR X (je X.K):=by
 intro value slice pins s σ H x y v u Q I rx ry h hs;obtain⟨p,xs,i,z,rfl,rfl,hq,he,q⟩:=h;cases rx;obtain⟨t,rfl⟩:=ry;obtain⟨its,r,pl,hz⟩:=I.tuple hq;obtain⟨j,h1,h2,h3,h4,h5⟩:=zbv he;obtain⟨w,ew,rw'⟩:=r.get h2;have hl:=r.length;have hn:=uA;have fin:EP X pins σ Q w s:=⟨z,H,I,rw',q⟩;exact subscriptTail_builtinR (x:=w) pl.typeIs slot_tuple_getitem.lookup
  (getItem_tuple (j:=j) (Q:=fun r s'=>r=w/\EP X pins σ Q r s') pl (by omega) (by omega) (by rw[size_toArray,<- hl];exact h1) (by simpa using ew) ⟨rfl,fin⟩) hs
theorem zhi:IxR X zmw:=by
 intro value slice pins s σ H x y v u Q I rx ry h hs;obtain⟨z,i,c,rfl,rfl,hz,he,q⟩:=h;obtain⟨t,rfl⟩:=rx;obtain⟨t',rfl⟩:=ry;obtain⟨j,h1,h2,h3,h4,h5⟩:=zbv he;have hl:z.cps.toList.length=z.length:=by simp [Str.length]
 rw[hl] at h1 h4 h5;have hn:=uA;exact tail_any (typeIs_str s z t) slot_str_getitem.lookup (getItem_str (c:=c) (by
  have e1:decide (i < -(2 ^ 63:Int))=false:=aD (by omega)
  have e2:decide (i>=2 ^ 63)=false:=aD (by omega)
  rw[e1,e2,Bool.or_false]) (by rw[h1];simpa using h2) ⟨.str ⟨#[c]⟩,H,I.tok _,⟨_,rfl⟩,q⟩) hs
theorem za2(lo hi:Option Int)(n:Nat):(sliceBounds lo hi none n).1=((HT.sIx n 0 lo:Nat):Int)/\(sliceBounds lo hi none n).2.1=((HT.sIx n n hi:Nat):Int)/\(sliceBounds lo hi none n).2.2=1:=by
 exists ?_,?_,rfl
 ·cases lo with
  | none=>simp [sliceBounds,HT.sIx]
  | some i=>
   simp only[sliceBounds,HT.sIx,getD_none,show(1:Int)>0 by decide,if_true]
   by_cases h:i<0
   ·simp only[h,if_true] <;> omega
   ·simp only[h,if_false] <;> omega
 ·cases hi with
  | none=>simp [sliceBounds,HT.sIx]
  | some i=>
   simp only[sliceBounds,HT.sIx,getD_none,show(1:Int)>0 by decide,if_true]
   by_cases h:i<0
   ·simp only[h,if_true] <;> omega
   ·simp only[h,if_false] <;> omega
theorem qY(its:List Value)(lo hi:Option Int):slicePick its.toArray lo hi none=((its.drop (HT.sIx its.length 0 lo)).take (HT.sIx its.length its.length hi - HT.sIx its.length 0 lo)).toArray:=by
 obtain⟨h1,h2,h3⟩:=za2 lo hi its.toArray.size;unfold slicePick;rw[h1,h2,h3];simp only[sliceRange_one,pick_run,size_toArray] <;> rfl
inductive zmuJ(K:Frag)(x:V)(lo:Option Int)(hi:Option Int)(H:Hp)(Q:VK):Prop|mk(a xs:_):x=.ref a->SqL K H a xs->(∀p,H p=none->Q (.ref p) (upd H p (.lst (wt xs lo hi))))->zmuJ K x lo hi H Q
def zmu(K:Frag):V->Option Int->Option Int->Hp->VK->Prop:=fun x lo hi H Q=>zmuJ K x lo hi H Q
theorem z8:SlR X (zmu X.K):=by
 intro pins s σ H x v vl vu lo hi sl Q I rx hs pl pu h;obtain⟨a,xs,rfl,hx,q⟩:=h;cases rx;obtain⟨its,r,ht,hz⟩:=I.list hx;have hlen:=r.length;exists "list",_,slot_list_getitem.lookup,ht.isList.typeIs,?_;refine wpAny_getItem_list_slice ht.isList hs pl pu .none (by simp) ?_ (by rw[size_toArray] <;> omega)
 rw[qY,<- hlen];exists .ref s.heap.objs.size,_,I.laid (t':=s.toks) (o:=.lst (wt xs lo hi)) (fun b ob q=>zgp _ q) (aF _) ?_,rfl,q _ (I.hok.fresh (aF _));exact⟨le_trans (zcs xs lo hi) hz,_,0,(r.drop (HT.sIx xs.length 0 lo)).take (HT.sIx xs.length xs.length hi - HT.sIx xs.length 0 lo),zgs _ rfl⟩
def xJ:V->Bool
 | .non=>true
 | .bl _=>true
 | .int _=>true
 | .str _=>true
 | _=>false
def eqV:V->V->Bool
 | .non,.non=>true
 | .bl a,.bl b=>a==b
 | .bl a,.int b=>(if a then 1 else 0)==b
 | .int a,.bl b=>a==(if b then 1 else 0)
 | .int a,.int b=>a==b
 | .str a,.str b=>a==b
 | _,_=>false
theorem zht{A:Around}{s:Shared}{y x:V}{u v:Value}(ry:zW y u)(rx:zW x v)(fy:xJ y=true)(fx:xJ x=true):SeqAt.EqAt A s u v (eqV y x):=by
 cases y with
 | non=>
  cases ry;cases x with
  | non=>cases rx;exact SeqAt.EqAt.same _
  | bl b=>cases rx;exact SeqAt.EqAt.none_bool b
  | int b=>obtain⟨t,rfl⟩:=rx;exact SeqAt.EqAt.none_int b t
  | str b=>obtain⟨t,rfl⟩:=rx;exact SeqAt.EqAt.none_str b t
  | _=>exact absurd (show false=true from fx) zft
 | bl a=>
  cases ry;cases x with
  | non=>cases rx;exact SeqAt.EqAt.bool_none a
  | bl b=>cases rx;exact SeqAt.EqAt.bool_bool a b
  | int b=>obtain⟨t,rfl⟩:=rx;exact SeqAt.EqAt.bool_int a b t
  | str b=>obtain⟨t,rfl⟩:=rx;exact SeqAt.EqAt.bool_str a b t
  | _=>exact absurd (show false=true from fx) zft
 | int a=>
  obtain⟨t',rfl⟩:=ry;cases x with
  | non=>cases rx;exact SeqAt.EqAt.int_none a t'
  | bl b=>cases rx;exact SeqAt.EqAt.int_bool a t' b
  | int b=>obtain⟨t,rfl⟩:=rx;exact SeqAt.EqAt.int_int a t' b t
  | str b=>obtain⟨t,rfl⟩:=rx;exact SeqAt.EqAt.int_str a t' b t
  | _=>exact absurd (show false=true from fx) zft
 | str a=>
  obtain⟨t',rfl⟩:=ry;cases x with
  | non=>cases rx;exact SeqAt.EqAt.str_none a t'
  | bl b=>cases rx;exact SeqAt.EqAt.str_bool a t' b
  | int b=>obtain⟨t,rfl⟩:=rx;exact SeqAt.EqAt.str_int a t' b t
  | str b=>obtain⟨t,rfl⟩:=rx;exact SeqAt.EqAt.str_str a t' b t
  | _=>exact absurd (show false=true from fx) zft
 | _=>exact absurd (show false=true from fy) zft
def eqU(x:V)(u:Value):Bool:=match u with
 | .none=>eqV .non x
 | .bool b=>eqV (.bl b) x
 | .int i _=>eqV (.int i) x
 | .str z _=>eqV (.str z) x
 | _=>false
theorem zdH{x y:V}{u:Value}(r:zW y u)(f:xJ y=true):eqU x u=eqV y x:=by
 cases y with
 | non=>cases r;rfl
 | bl b=>cases r;rfl
 | int i=>obtain⟨t,rfl⟩:=r;rfl
 | str z=>obtain⟨t,rfl⟩:=r;rfl
 | _=>exact absurd (show false=true from f) zft
theorem uW{x:V}:∀{xs:List V}{us:List Value},zV xs us->xs.all xJ=true->us.any (eqU x)=xs.any fun y=>eqV y x
 | _,_,.nil,_=>rfl
 | y::xs,u::us,.cons r t,f=>by
  rw[all_cons,Bool.and_eq_true] at f;rw[any_cons,any_cons,zdH r f.1,uW t f.2]
theorem wY{A:Around}{s:Shared}{x:V}{v:Value}(rx:zW x v)(fx:xJ x=true):∀{xs:List V}{us:List Value},zV xs us->xs.all xJ=true->∀u∈us,SeqAt.EqAt A s u v (eqU x u)
 | _,_,.nil,_=>fun u hu=>by cases hu
 | y::xs,u::us,.cons r t,f=>fun u' hu=>by
  rw[all_cons,Bool.and_eq_true] at f;rcases List.mem_cons.mp hu with rfl|hu
  ·rw[zdH r f.1];exact zht r rx f.1 fx
  ·exact wY rx fx t f.2 u' hu
def inV(x:V)(xs:List V):Bool:=xs.any fun y=>eqV y x
inductive rInJ(K:Frag)(neg:Bool)(x:V)(y:V)(H:Hp)(Q:VK):Prop|mk(p xs:_):y=.ref p->(SqL K H p xs\/SqT K H p xs)->xJ x=true->xs.all xJ=true->(Q (.bl (if neg then !inV x xs else inV x xs)) H)->rInJ K neg x y H Q
def rIn(K:Frag)(neg:Bool):R2:=fun x y H Q=>rInJ K neg x y H Q
theorem z7:OpR X (compareOp .In) (rIn X.K false):=by
 intro pins s σ H x y v u Q I rx ry h;obtain⟨p,xs,rfl,hq,fx,fs,q⟩:=h;cases ry;rcases hq with hq|hq
 ·obtain⟨its,r,pl,hz⟩:=I.list hq
  refine SeqAt.in_listAt (eqU x) pl.isList (fun w hw=>wY rx fx r fs w (by simpa using hw)) ⟨.bl _,H,I,rfl,?_⟩
  rw[show its.toArray.any (eqU x)=its.any (eqU x) by simp,uW r fs]
  exact q
 ·obtain⟨its,r,pl,hz⟩:=I.tuple hq
  refine SeqAt.in_tupleAt (eqU x) pl (fun w hw=>wY rx fx r fs w (by simpa using hw)) ⟨.bl _,H,I,rfl,?_⟩
  rw[show its.toArray.any (eqU x)=its.any (eqU x) by simp,uW r fs]
  exact q
theorem xN:OpR X (compareOp .NotIn) (rIn X.K true):=by
 intro pins s σ H x y v u Q I rx ry h;obtain⟨p,xs,rfl,hq,fx,fs,q⟩:=h;cases ry;rcases hq with hq|hq
 ·obtain⟨its,r,pl,hz⟩:=I.list hq
  refine SeqAt.notIn_listAt (eqU x) pl.isList (fun w hw=>wY rx fx r fs w (by simpa using hw)) ⟨.bl _,H,I,rfl,?_⟩
  rw[show its.toArray.any (eqU x)=its.any (eqU x) by simp,uW r fs]
  exact q
 ·obtain⟨its,r,pl,hz⟩:=I.tuple hq
  refine SeqAt.notIn_tupleAt (eqU x) pl (fun w hw=>wY rx fx r fs w (by simpa using hw)) ⟨.bl _,H,I,rfl,?_⟩
  rw[show its.toArray.any (eqU x)=its.any (eqU x) by simp,uW r fs]
  exact q
theorem zI:xh X (.builtin "len") (fun xs H Q=>∃p ys,xs=[.ref p]/\(SqL X.K H p ys\/SqT X.K H p ys)/\Q (.int ys.length) H):=by
 intro pins s σ H xs us Q I r h;obtain⟨p,ys,rfl,hq,q⟩:=h;obtain⟨u,rfl,rx⟩:=wS r;cases rx;have hn:=uA;rcases hq with hq|hq
 ·obtain⟨its,r',pl,hz⟩:=I.list hq
  have hlen:=r'.length;exact Calls.call_len_list pl.isList (by simp only[size_toArray] <;> omega) ⟨.int ys.length,H,I.tok _,⟨s.toks+1,by rw[size_toArray,hlen]⟩,q⟩
 ·obtain⟨its,r',pl,hz⟩:=I.tuple hq
  have hlen:=r'.length;exact len_tuple pl (by simp only[size_toArray] <;> omega) ⟨.int ys.length,H,I.tok _,⟨s.toks+1,by rw[size_toArray,hlen]⟩,q⟩
theorem vq:xh X (.builtin "len") (fun xs H Q=>∃z,xs=[.str z]/\z.length<=sizeLine/\Q (.int z.length) H):=by
 intro pins s σ H xs us Q I r h;obtain⟨z,rfl,hz,q⟩:=h;obtain⟨u,rfl,t,rfl⟩:=wS r;have hn:=uA;exact len_str (by omega) ⟨.int z.length,H,I.tok _,⟨_,rfl⟩,q⟩
theorem yO:xh X (.type "list") (fun xs H Q=>∃p ys,xs=[.ref p]/\(SqL X.K H p ys\/SqT X.K H p ys)/\∀l,H l=none->Q (.ref l) (upd H l (.lst ys))):=by
 intro pins s σ H xs us Q I r h;obtain⟨p,ys,rfl,hq,q⟩:=h;obtain⟨u,rfl,rx⟩:=wS r;cases rx;have fin:∀(its:List Value),zV ys its->ys.length<=sizeLine->∀(h':Heap) (c':Nat),(∀b o',s.heap.get? b=some o'->h'.get? b=some o')->
   h'.get? s.heap.objs.size=some { cls:=.type "list",dict:=none,data:=.seq its.toArray c',slots:=#[] }->EP X pins σ Q (.ref s.heap.objs.size) { s with heap:=h' }:=fun its r' hz h' c' kp e=>
  ⟨.ref s.heap.objs.size,_,I.laid (t':=s.toks) kp (aF _) (show yB X.prog X.w _ h' _ (.lst ys) from ⟨hz,its,c',r',e⟩),rfl,q _ (I.hok.fresh (aF _))⟩
 rcases hq with hq|hq
 ·obtain⟨its,r',pl,hz⟩:=I.list hq
  have hlen:=r'.length;obtain⟨o,ho,hc,n,hd⟩:=pl.isList;exact call_list_seq p (.inl rfl) ho hc hd (fun h' c' kp e=>fin its r' hz h' c' kp e) (by simp only[size_toArray] <;> omega)
 ·obtain⟨its,r',pl,hz⟩:=I.tuple hq
  have hlen:=r'.length;obtain⟨o,ho,hc,n,hd⟩:=pl;exact call_list_seq p (.inr rfl) ho hc hd (fun h' c' kp e=>fin its r' hz h' c' kp e) (by simp only[size_toArray] <;> omega)
def tyV(K:Frag)(T:String)(x:V)(H:Hp):Prop:=match x with
 | .str _=>T="str"
 | .int _=>T="int"
 | .ref p=>(T="list"/\∃xs,SqL K H p xs)\/(T="tuple"/\∃o,K.lookup p=some o/\o.cls=.type "tuple"/\o.dict=none)\/
   (T="dict"/\((∃kvs,H p=some (.dK kvs))\/∃kvs,H p=some (.dT kvs)))\/(T="set"/\∃S n,H p=some (.set S n))
 | _=>False
theorem zfF{pins:PnL}{σ : St}{H:Hp}{s:Shared}{T:String}{x:V}{v:Value}(I:Inv X pins σ H s)(r:zW x v)(ty:tyV X.K T x H):
  s.TypeIs v T/\∀a,v=.ref a->∃ob,s.heap.get? a=some ob/\ob.dict=none:=by
 cases x with
 | str z=>
  obtain⟨t,rfl⟩:=r;cases (show T="str" from ty);exact⟨typeIs_str s z t,fun _ e=>nomatch e⟩
 | int i=>
  obtain⟨t,rfl⟩:=r;cases (show T="int" from ty);exact⟨typeIs_int s i t,fun _ e=>nomatch e⟩
 | ref p=>
  cases r;rcases ty with ⟨rfl,xs,hq⟩|⟨rfl,o,hk,hc,hd⟩|⟨rfl,hk⟩|⟨rfl,S,n,hk⟩
  ·obtain⟨its,_,pl,_⟩:=I.list hq
   exists pl.isList.typeIs,fun a e=>?_;cases e;obtain⟨o,n,e,c,hd,_⟩:=pl;exact⟨o,e,hd⟩
  ·exists ⟨o,I.kIn p o hk,hc⟩,fun a e=>?_
   cases e;exact⟨o,I.kIn _ o hk,hd⟩
  ·have z:∃o,s.heap.get? p=some o/\o.ExactDict:=by
    rcases hk with ⟨kvs,hk⟩|⟨kvs,hk⟩
    ·obtain⟨_,_,_,_,o,_,_,e,ex,_⟩:=I.hok p _ hk
     exact⟨o,e,ex⟩
    ·obtain⟨_,_,_,_,o,_,_,e,ex,_⟩:=I.hok p _ hk
     exact⟨o,e,ex⟩
   obtain⟨o,e,ex⟩:=z;exists ⟨o,e,ex.1⟩,fun a e2=>?_;cases e2;exact⟨o,e,ex.2.1⟩
  ·obtain⟨o,_,_,_,e,ex,_⟩:=I.hok p _ hk
   exists ⟨o,e,ex.1⟩,fun a e2=>?_;cases e2;exact⟨o,e,ex.2.1⟩
 | _=>exact False.elim ty
def zmk(K:Frag)(T:String)(r:V->List V->Hp->VK->Prop)(to:TE):TE:=fun σ H Q=>to σ H fun x H1=>tyV K T x H1/\r x [] H1 Q
def tBM(K:Frag)(T:String)(r:V->List V->Hp->VK->Prop)(to:TE)(t:TA):TE:=fun σ H Q=>to σ H fun x H1=>tyV K T x H1/\t σ H1 fun xs H2=>r x xs H2 Q
variable {o:Expr}{es:List Expr}{to:TE}{t:TA}{name:Str}{apos cpos:Pos}{T id:String}{r:V->List V->Hp->VK->Prop}
theorem zgB(pa:PlainAttrs T)(slot:Slot T name id)(hty:typeOf (.builtin id)=pure (.type "method_descriptor"))(hm:MtR X id r)(ho:PE X o to)
  (hbase:attributeBase o name X.env (eval o X.env)=eval o X.env:=by rfl) (hline:(apos.endLine==cpos.line)=true:=by rfl):PE X (.Call (.Attribute o name apos) [] [] cpos) (zmk X.K T r to):=by
 exists ?_;intro pins s σ H Q I h;refine wpAny_Call_method0_late hbase hline (thn (ho pins s σ H _ I h) fun v s1 ⟨x,H1,I1,r1,ty,q1⟩=>?_);obtain⟨h1,h2⟩:=zfF I1 r1 ty;exact⟨T,id,pa,slot,hty,h1,h2,Calls.callWith_builtin rfl (PySem.evalArgs_none (hm pins s1 σ H1 x [] v [] Q I1 r1 .nil q1))⟩
theorem y8(pa:PlainAttrs T)(slot:Slot T name id)(hty:typeOf (.builtin id)=pure (.type "method_descriptor"))(hm:MtR X id r)(ho:PE X o to)(ha:PA X (e::es) t)
  (hbase:attributeBase o name X.env (eval o X.env)=eval o X.env:=by rfl)
  (hfew:((backTo cpos (starEach (e::es) X.env)).all (fun x=>!x.1)&&(backToKw cpos (keywordEach [] X.env)).all (fun x=>x.1.isSome)
   && decide ((e::es).length+([]:List Keyword).length+(if ([]:List Keyword).isEmpty then 0 else 1)<30))=true:=by rfl)
  (hline:(apos.endLine==cpos.line)=true:=by rfl) (hs:starEach (e::es) X.env=(false,eval e X.env)::starEach es X.env:=by rfl) (hplain:(backTo cpos (starEach es X.env)).any (·.1)=false:=by rfl) :
  PE X (.Call (.Attribute o name apos) (e::es) [] cpos) (tBM X.K T r to t):=by
 exists ?_;intro pins s σ H Q I h;refine wpAny_Call_method_late hbase hfew hline rfl (thn (ho pins s σ H _ I h) fun v s1 ⟨x,H1,I1,r1,ty,q1⟩=>?_);obtain⟨h1,h2⟩:=zfF I1 r1 ty;exists T,id,pa,slot,hty,h1,h2,?_;have hA:=ha cpos pins s1 σ H1 _ I1 q1;rw[hs] at hA |-;refine Calls.callWith_builtin (by show(false||(backTo cpos (starEach es X.env)).any (·.1))=false;rw[hplain] <;> rfl) (Calls.evalArgs_plain ?_)
 exact thn hA fun us s2 ⟨vs,H2,I2,r2,q2⟩=>hm pins s2 σ H2 x vs v us Q I2 r1 r2 q2
def MtM(X:Cx)(id:String)(r:V->List V->Hp->VK->Prop):Prop:=
 ∀(pins:PnL) (s:Shared) (σ : St) (H:Hp) (x:V) (xs:List V) (v:Value) (us:List Value) (Q:VK),Inv X pins σ H s->zW x v->zV xs us->r x xs H Q->
  wpAny (model X.prog X.w) X.A (call (.builtin id) (v::us)) (EP X pins σ Q) X.xe s
theorem zV.one:∀{x:V}{us:List Value},zV [x] us->∃u,us=[u]/\zW x u
 | _,_,.cons r .nil=>⟨_,rfl,r⟩
theorem zV.zero:∀{us:List Value},zV [] us->us=[]
 | _,.nil=>rfl
theorem zV.reverse{xs:List V}{us:List Value}(h:zV xs us):zV xs.reverse us.reverse:=by
 induction h with
 | nil=>exact .nil
 | cons r t ih=>rw[List.reverse_cons,List.reverse_cons];exact zV.append ih (.cons r .nil)
end
section
variable {X:Cx}{pins:PnL}{σ:St}{H:Hp}{s:Shared}{l b:Addr}{xs ys zs:List V}
theorem Inv.lset{its its':List Value}{n:Nat}{f:Array Value->Array Value}{t':Nat}(I:Inv X pins σ H s)(hH:H l=some (.lst xs))
  (e:s.heap.get? l=some { cls:=.type "list",data:=.seq its.toArray n }) (hf:f its.toArray=its'.toArray) (hv:zV ys its') (hz:ys.length<=sizeLine) :
  Inv X pins σ (upd H l (.lst ys)) { s with heap:=s.heap.update l (Obj.mapSeq f),toks:=t' }:=by
 have q:=PySem.IsL.update e f;rw[hf] at q;refine I.write (x:=l) (e:=l) (by rw[hH];exact trivial) (.inl rfl) (fun b' u hb hu=>(Heap.get?_update_other s.heap (Obj.mapSeq f) (Ne.symm hb)).trans hu) ⟨_,q⟩ ?_
 exact⟨hz,its',_,hv,q⟩
theorem Inv.lnew{its:List Value}{t':Nat}(I:Inv X pins σ H s)(hv:zV ys its)(hz:ys.length<=sizeLine):
  Inv X pins σ (upd H s.heap.objs.size (.lst ys)) { s with heap:=s.heap.push { cls:=.type "list",data:=.seq its.toArray },toks:=t' }:=
 I.laid (fun _ _ q=>zgp _ q) (aF _) ⟨hz,its,0,hv,zgs _ rfl⟩
theorem Inv.fresh(I:Inv X pins σ H s):H s.heap.objs.size=none:=I.hok.fresh (aF _)
theorem Inv.lstM(I:Inv X pins σ H s)(hH:H l=some (.lst xs)):xs.length<=sizeLine/\∃(its:List Value) (n:Nat),zV xs its/\xs.length=its.length/\s.heap.get? l=some { cls:=.type "list",data:=.seq its.toArray n }:=by
 obtain⟨z,its,n,r,e⟩:=I.hok l _ hH;exact⟨z,its,n,r,r.length,e⟩
theorem zg4{n:Nat}(h:n<=sizeLine):Builtin.List.listTooLong n=false:=by
 unfold Builtin.List.listTooLong;exact aD (by omega)
inductive zidJ(x:V)(vs:List V)(H:Hp)(Q:VK):Prop|mk(l xs y:_):x=.ref l->vs=[y]->H l=some (.lst xs)->xs.length<sizeLine->(Q .non (upd H l (.lst (xs++[y]))))->zidJ x vs H Q
def zid:V->List V->Hp->VK->Prop:=fun x vs H Q=>zidJ x vs H Q
theorem zU:MtM X "list.append" zid:=by
 intro pins s σ H x vs v us Q I rx rv h;obtain⟨l,xs,y,rfl,rfl,hH,hz,q⟩:=h;cases rx;obtain⟨u,rfl,ru⟩:=rv.one;obtain⟨z,its,n,r,hl,e⟩:=I.lstM hH;refine call_meets F.slot_list_append ⟨_,e,rfl⟩ F.entry_list_append (F.args_list_append_2 _ _) (PySem.list_append l its.toArray n u (by rw[size_toArray];omega)) ⟨e,?_⟩
 exists .non,_,I.lset (its':=its++[u]) hH e (by simp) (r.append (.cons ru .nil)) ?_,rfl,q
 rw[aG,length_singleton];omega
inductive zicJ(x:V)(vs:List V)(H:Hp)(Q:VK):Prop|mk(l b xs zs:_):x=.ref l->vs=[.ref b]->H l=some (.lst xs)->H b=some (.lst zs)->xs.length+zs.length<=sizeLine->(Q .non (upd H l (.lst (xs++zs))))->zicJ x vs H Q
def zic:V->List V->Hp->VK->Prop:=fun x vs H Q=>zicJ x vs H Q
theorem zax:MtM X "list.extend" zic:=by
 intro pins s σ H x vs v us Q I rx rv h;obtain⟨l,b,xs,zs,rfl,rfl,hH,hB,hz,q⟩:=h;cases rx;obtain⟨u,rfl,ru⟩:=rv.one;cases ru;obtain⟨z,its,n,r,hl,e⟩:=I.lstM hH;obtain⟨z2,its2,n2,r2,hl2,e2⟩:=I.lstM hB;have hsz:its.toArray.size+its2.toArray.size<=sizeLine:=by rw[size_toArray,size_toArray];omega
 have hlong:¬(!its.toArray.isEmpty&&Builtin.List.listTooLong (its.toArray.size+its2.toArray.size))=true:=by
  rw[zg4 hsz,Bool.and_false];exact zft
 refine call_meets F.slot_list_extend ⟨_,e,rfl⟩ F.entry_list_extend (F.args_list_extend_2 _ _)
  (AutoSeq1.list_extend_list_list_0 l its.toArray n b its2.toArray n2 hlong (by rw[size_toArray];omega) (by omega)) ⟨e,e2,?_⟩
 exists .non,_,I.lset (its':=its++its2) hH e (by simp) (r.append r2) ?_,rfl,q
 rw[aG];omega
inductive zgmJ(x:V)(vs:List V)(H:Hp)(Q:VK):Prop|mk(l xs:_):x=.ref l->vs=[]->H l=some (.lst xs)->(Q .non (upd H l (.lst xs.reverse)))->zgmJ x vs H Q
def zgm:V->List V->Hp->VK->Prop:=fun x vs H Q=>zgmJ x vs H Q
theorem zdl:MtM X "list.reverse" zgm:=by
 intro pins s σ H x vs v us Q I rx rv h;obtain⟨l,xs,rfl,rfl,hH,q⟩:=h;cases rx;have hus:=rv.zero;subst hus;obtain⟨z,its,n,r,hl,e⟩:=I.lstM hH;refine call_meets F.slot_list_reverse ⟨_,e,rfl⟩ F.entry_list_reverse (F.args_list_reverse_1 _) (AutoSeq1.list_reverse_list_0 l its.toArray n (by rw[size_toArray];omega)) ⟨e,?_⟩
 exists .non,_,I.lset (its':=its.reverse) hH e (by simp) r.reverse ?_,rfl,q
 rw[List.length_reverse];omega
inductive zkhJ(x:V)(vs:List V)(H:Hp)(Q:VK):Prop|mk(l xs:_):x=.ref l->vs=[]->H l=some (.lst xs)->(Q .non (upd H l (.lst [])))->zkhJ x vs H Q
def zkh:V->List V->Hp->VK->Prop:=fun x vs H Q=>zkhJ x vs H Q
theorem zg8:MtM X "list.clear" zkh:=by
 intro pins s σ H x vs v us Q I rx rv h;obtain⟨l,xs,rfl,rfl,hH,q⟩:=h;cases rx;have hus:=rv.zero;subst hus;obtain⟨z,its,n,r,hl,e⟩:=I.lstM hH;refine call_meets F.slot_list_clear ⟨_,e,rfl⟩ F.entry_list_clear (F.args_list_clear_1 _) (AutoSeq1.list_clear_list_0 l its.toArray n (by rw[size_toArray];omega)) ⟨e,?_⟩
 exact⟨.non,_,I.lset (its':=[]) (ys:=[]) hH e rfl .nil (zero_le _),rfl,q⟩
inductive zmyJ(x:V)(y:V)(H:Hp)(Q:VK):Prop|mk(l b xs zs:_):x=.ref l->y=.ref b->H l=some (.lst xs)->H b=some (.lst zs)->xs.length+zs.length<=sizeLine->(∀p,H p=none->Q (.ref p) (upd H p (.lst (xs++zs))))->zmyJ x y H Q
def zmy:R2:=fun x y H Q=>zmyJ x y H Q
theorem ye:OpR X (binaryOp .Add) zmy:=by
 intro pins s σ H x y v u Q I rx ry h;obtain⟨l,b,xs,zs,rfl,rfl,hH,hB,hz,q⟩:=h;cases rx;cases ry;obtain⟨z,its,n,r,hl,e⟩:=I.lstM hH;obtain⟨z2,its2,n2,r2,hl2,e2⟩:=I.lstM hB;refine PySem.P.add_list e e2 ?_ (by rw[size_toArray,size_toArray];omega)
 have ea:its.toArray++its2.toArray=(its++its2).toArray:=by simp
 rw[ea];exact⟨.ref _,_,I.lnew (t':=s.toks) (r.append r2) (by rw[aG];omega),rfl,q _ I.fresh⟩
variable {prog:Program}{w:World}{A:Around}{E:VSP}
end
section
variable {κ : Type}[DecidableEq κ]
def zS(kvs:List (κ×V))(k : κ):Option V:=(kvs.find? fun kv=>decide (kv.1=k)).map (·.2)
def yF(kvs:List (κ×V))(k : κ)(v:V):List (κ×V):=
 if (kvs.any fun kv=>decide (kv.1=k))=true then kvs.map (fun kv=>if kv.1=k then (kv.1,v) else kv) else kvs++[(k,v)]
theorem xi{p : κ×V}{r:List (κ×V)}{k : κ}(e:p.1=k):zS (p::r) k=some p.2:=by simp [zS,find?_cons,e]
theorem xj{p : κ×V}{r:List (κ×V)}{k : κ}(e:¬p.1=k):zS (p::r) k=zS r k:=by simp [zS,find?_cons,e]
theorem ww(k : κ):∀kvs:List (κ×V),(kvs.any fun kv=>decide (kv.1=k))=(zS kvs k).isSome
 | []=>rfl
 | p::r=>by
  rw[any_cons];by_cases e:p.1=k
  ·simp only[xi e,aC e,Bool.true_or,Option.isSome_some]
  ·rw[xj e,aD e,Bool.false_or];exact ww k r
theorem zbE(k j : κ)(y:V):∀kvs:List (κ×V),zS (kvs.map fun kv=>if kv.1=k then (kv.1,y) else kv) j=(zS kvs j).map fun x=>if j=k then y else x
 | []=>rfl
 | p::r=>by
  have ih:=zbE k j y r;rw[map_cons];by_cases h:p.1=k
  ·rw[aK h]
   by_cases e:p.1=j
   ·rw[xi (p:=(p.1,y)) e,xi e,map_some,aK (e.symm.trans h)]
   ·rw[xj (p:=(p.1,y)) e,xj e,ih]
  ·rw[aJ h]
   by_cases e:p.1=j
   ·rw[xi (p:=p) e,xi e,map_some,aJ (fun z=>h (e.trans z))]
   ·rw[xj (p:=p) e,xj e,ih]
theorem zaj(k j : κ)(y:V):∀kvs:List (κ×V),zS kvs k=none->zS (kvs++[(k,y)]) j=if j=k then some y else zS kvs j
 | [],_=>by
  by_cases e:k=j
  ·rw[aK e.symm];exact xi (p:=(k,y)) e
  ·rw[aJ (fun z=>e z.symm)];exact xj (p:=(k,y)) e
 | p::r,hn=>by
  rw[cons_append];have hk:¬p.1=k:=fun z=>by rw[xi z] at hn;cases hn
  rw[xj hk] at hn;have ih:=zaj k j y r hn;by_cases e:p.1=j
  ·rw[xi e,xi e,aJ (fun z=>hk (e.trans z))]
  ·rw[xj e,xj e,ih]
theorem zbD(kvs:List (κ×V))(k j : κ)(y:V):zS (yF kvs k y) j=if j=k then some y else zS kvs j:=by
 unfold yF;by_cases a:(kvs.any fun kv=>decide (kv.1=k))=true
 ·rw[aK a,zbE]
  rw[ww] at a;by_cases e:j=k
  ·obtain⟨x,hx⟩:=Option.isSome_iff_exists.mp a
   rw[aK e,e,hx,map_some,aK rfl]
  ·rw[aJ e]
   cases zS kvs j with
   | none=>rfl
   | some x=>rw[map_some,aJ e]
 ·rw[aJ a]
  refine zaj k j y kvs ?_;rw[ww] at a;cases q:zS kvs k with
  | none=>rfl
  | some x=>rw[q] at a;exact(a rfl).elim
theorem xI(kvs:List (κ×V))(k : κ)(v:V):(yF kvs k v).length<=kvs.length+1:=by
 unfold yF;split
 ·rw[aA];omega
 ·rw[aG,length_cons,length_nil];omega
theorem zgo{kvs:List (κ×V)}{k : κ}(v:V)(h:zS kvs k=none):yF kvs k v=kvs++[(k,v)]:=by
 unfold yF;rw[ww,h];exact aJ (by decide)
theorem uE.isSome_eq{o:Option V}{u:Option Value}(r:uE o u):o.isSome=u.isSome:=by
 cases o with
 | none=>cases u with
  | none=>rfl
  | some _=>exact(show False from r).elim
 | some _=>cases u with
  | none=>exact(show False from r).elim
  | some _=>rfl
theorem uE.getD{o:Option V}{u:Option Value}{d:V}{d':Value}(r:uE o u)(rd:zW d d'):zW (o.getD d) (u.getD d'):=by
 cases o with
 | none=>cases u with
  | none=>exact rd
  | some _=>exact(show False from r).elim
 | some _=>cases u with
  | none=>exact(show False from r).elim
  | some _=>exact r
theorem KV.val{kvs:List (κ×V)}{vs:List (κ×Value)}(r:KV kvs vs)(k : κ):uE (zS kvs k) (valueAt vs k):=by
 unfold KV at r;induction r with
 | nil=>exact True.intro
 | @cons p q ps qs h t ih=>
  obtain⟨h1,h2⟩:=h;by_cases e:p.1=k
  ·have e':q.1=k:=h1.symm.trans e
   have b:valueAt (q::qs) k=some q.2:=by simp [valueAt,find?_cons,e']
   rw[xi e,b];exact h2
  ·have e':¬q.1=k:=fun z=>e (h1.trans z)
   have b:valueAt (q::qs) k=valueAt qs k:=by simp [valueAt,find?_cons,e']
   rw[xj e,b];exact ih
theorem KV.any{kvs:List (κ×V)}{vs:List (κ×Value)}(r:KV kvs vs)(k : κ):(kvs.any fun kv=>decide (kv.1=k))=vs.any fun kv=>decide (kv.1=k):=by
 unfold KV at r;induction r with
 | nil=>rfl
 | cons h t ih=>rw[any_cons,any_cons,ih,h.1]
theorem KV.repl{kvs:List (κ×V)}{vs:List (κ×Value)}(r:KV kvs vs)(k : κ){y:V}{u:Value}(ry:zW y u):
  KV (kvs.map fun kv=>if kv.1=k then (kv.1,y) else kv) (vs.map fun kv=>if kv.1=k then (kv.1,u) else kv):=by
 unfold KV at r |-;induction r with
 | nil=>exact .nil
 | @cons p q ps qs h t ih=>
  rw[map_cons,map_cons];refine .cons ?_ ih;obtain⟨h1,h2⟩:=h;by_cases e:p.1=k
  ·rw[aK e,aK (h1.symm.trans e)];exact⟨h1,ry⟩
  ·rw[aJ e,aJ (fun z=>e (h1.trans z))];exact⟨h1,h2⟩
theorem KV.put{kvs:List (κ×V)}{vs:List (κ×Value)}(r:KV kvs vs)(k : κ){y:V}{u:Value}(ry:zW y u):KV (yF kvs k y) (stored vs k u):=by
 unfold yF stored;rw[r.any k];by_cases e:(vs.any fun kv=>decide (kv.1=k))=true
 ·rw[aK e,aK e];exact r.repl k ry
 ·rw[aJ e,aJ e];exact Paired.snoc r ⟨rfl,ry⟩
theorem KV.length{kvs:List (κ×V)}{vs:List (κ×Value)}(r:KV kvs vs):kvs.length=vs.length:=Paired.length r
end
theorem ju{P:Program}{w:World}{k:Key}{u:Value}(r:zW (kV k) u):(yl P w).is k u=true:=by
 cases k with
 | inl i=>obtain⟨t,e⟩:=(show ∃t,u=Value.int i t from r);subst e;exact zb9 P w i t
 | inr x=>obtain⟨t,e⟩:=(show ∃t,u=Value.str x t from r);subst e;exact zb8 P w x t
theorem zaB{P:Program}{w:World}:∀{ks:List Key}{us:List Value},zV (ks.map kV) us->ItemsAre (yl P w) ks us
 | [],_,r=>by rw[map_nil] at r;cases r;exact .nil
 | k::ks,_,r=>by
  rw[map_cons] at r;cases r with
  | cons h t=>exact .cons (ju h) (zaB t)
abbrev KT(H:Hp):List (List Key×V)->List (List Key×Addr×Value)->Prop:=Paired fun p q=>p.1=q.1/\H q.2.1=some (.tup (p.1.map kV))/\zW p.2 q.2.2
theorem KT.val{H:Hp}{kvs:List (List Key×V)}{xs:List (List Key×Addr×Value)}(r:KT H kvs xs)(k:List Key):uE (zS kvs k) ((atKey xs k).map (·.2)):=by
 induction r with
 | nil=>exact True.intro
 | @cons p q ps qs h t ih=>
  obtain⟨h1,_,h2⟩:=h;by_cases e:p.1=k
  ·have e':q.1=k:=h1.symm.trans e
   have b:atKey (q::qs) k=some q.2:=by simp [atKey,find?_cons,e']
   rw[xi e,b];exact h2
  ·have e':¬q.1=k:=fun z=>e (h1.trans z)
   have b:atKey (q::qs) k=atKey qs k:=by simp [atKey,find?_cons,e']
   rw[xj e,b];exact ih
theorem KT.repl{H:Hp}{kvs:List (List Key×V)}{xs:List (List Key×Addr×Value)}(r:KT H kvs xs)(k:List Key){y:V}{u:Value}(ry:zW y u):
  KT H (kvs.map fun kv=>if kv.1=k then (kv.1,y) else kv) (xs.map (putAt k u)):=by
 induction r with
 | nil=>exact .nil
 | @cons p q ps qs h t ih=>
  rw[map_cons,map_cons];refine .cons ?_ ih;obtain⟨h1,h2,h3⟩:=h;unfold putAt;by_cases e:p.1=k
  ·rw[aK e,aK (h1.symm.trans e)];exact⟨h1,h2,ry⟩
  ·rw[aJ e,aJ (fun z=>e (h1.trans z))];exact⟨h1,h2,h3⟩
theorem KT.put{H:Hp}{kvs:List (List Key×V)}{xs:List (List Key×Addr×Value)}(r:KT H kvs xs)(k:List Key){b:Addr}{y:V}{u:Value}(hb:H b=some (.tup (k.map kV)))(ry:zW y u):
  KT H (yF kvs k y) (storedH xs k b u):=by
 have e:(kvs.any fun kv=>decide (kv.1=k))=(atKey xs k).isSome:=by
  rw[ww,(r.val k).isSome_eq,isSome_map]
 unfold yF storedH;rw[e];by_cases q:(atKey xs k).isSome=true
 ·rw[aK q,aK q];exact r.repl k ry
 ·rw[aJ q,aJ q];exact Paired.snoc r ⟨rfl,hb,ry⟩
theorem KT.keeps{H H':Hp}{kvs:List (List Key×V)}{xs:List (List Key×Addr×Value)}(r:KT H kvs xs)(ht:∀b ys,H b=some (.tup ys)->H' b=some (.tup ys)):KT H' kvs xs:=
 wL r fun _ _ z=>⟨z.1,ht _ _ z.2.1,z.2.2⟩
section
variable {P:Program}{w:World}{H:Hp}{h:Heap}{a:Addr}
theorem zjv{u:HO}(ok:HOk P w H h)(e:Rd H a u):yB P w H h a u:=e.ok ok
theorem qJ{kvs:List (Key×V)}(ok:HOk P w H h)(e:Rd H a (.dK kvs)):kvs.length<=sizeLine/\(a==sysModules)=false/\∃vs,KV kvs vs/\h.DictOf (yl P w) a vs:=
 show yB P w H h a (.dK kvs) from zjv ok e
theorem zhx{kvs:List (Key×V)}(ok:HOk P w H h)(e:H a=some (.dK kvs)):kvs.length<=sizeLine/\(a==sysModules)=false/\∃vs,KV kvs vs/\h.DictOf (yl P w) a vs:=qJ ok (.inl e)
theorem ji{ks:List Key}(ok:HOk P w H h)(e:H a=some (.tup (ks.map kV))):(tupleKind (yl P w)).is h ks a:=by
 obtain⟨_,its,r,o,h1,h2,n,h3⟩:=(show yB P w H h a (.tup (ks.map kV)) from ok a _ e);exact⟨o,its.toArray,n,h1,h2,h3,by simpa using zaB r⟩
theorem qH{kvs:List (List Key×V)}(ok:HOk P w H h)(e:Rd H a (.dT kvs)):kvs.length<=sizeLine/\(a==sysModules)=false/\
  ∃xs,KT H kvs xs/\h.DictOfH (tupleKind (yl P w)) a xs:=by
 obtain⟨z,y,xs,r,o,es,ep,h1,h2,h3,h4,h5⟩:=(show yB P w H h a (.dT kvs) from zjv ok e);exists z,y,xs,r,o,es,ep,h1,h2,h3,h4,fun x hx=>?_,h5;have all:∀{l:List (List Key×V)}{m:List (List Key×Addr×Value)},KT H l m->∀x∈m,(tupleKind (yl P w)).is h x.1 x.2.1:=by
  intro l m q;induction q with
  | nil=>intro x hx;exact nomatch hx
  | @cons p q ps qs hq t ih=>
   intro x hx;rcases List.mem_cons.mp hx with e|hx
   ·subst e
    exact ji ok (by rw[<- hq.1];exact hq.2.1)
   ·exact ih x hx
 exact all r x hx
theorem zl3{kvs:List (List Key×V)}(ok:HOk P w H h)(e:H a=some (.dT kvs)):kvs.length<=sizeLine/\(a==sysModules)=false/\
  ∃xs,KT H kvs xs/\h.DictOfH (tupleKind (yl P w)) a xs:=qH ok (.inl e)
def jq(H:Hp)(a:Addr)(y:V)(r:Option V):Prop:=
 (∃kvs k,Rd H a (.dK kvs)/\y=kV k/\r=zS kvs k)\/∃kvs k b,Rd H a (.dT kvs)/\y=.ref b/\H b=some (.tup (k.map kV))/\r=zS kvs k
def zdQ(H:Hp)(a:Addr)(y v:V)(H':Hp):Prop:=
 (∃kvs k,H a=some (.dK kvs)/\y=kV k/\kvs.length<sizeLine/\H'=upd H a (.dK (yF kvs k v)))\/
 ∃kvs k b,H a=some (.dT kvs)/\y=.ref b/\H b=some (.tup (k.map kV))/\kvs.length<sizeLine/\H'=upd H a (.dT (yF kvs k v))
theorem jq.k{H:Hp}{a:Addr}{kvs:List (Key×V)}{k:Key}(e:H a=some (.dK kvs)):jq H a (kV k) (zS kvs k):=.inl ⟨kvs,k,.inl e,rfl,rfl⟩
theorem zdQ.k{H:Hp}{a:Addr}{kvs:List (Key×V)}{k:Key}{v:V}(e:H a=some (.dK kvs))(hl:kvs.length<sizeLine):zdQ H a (kV k) v (upd H a (.dK (yF kvs k v))):=.inl ⟨kvs,k,e,rfl,hl,rfl⟩
variable {X:Cx}{pins:PnL}{σ:St}{s:Shared}{y v:V}{u r:Value}{o:Option V}{A:Around}{E:VSP}
theorem Inv.big(I:Inv X pins σ H s):sysModules<s.heap.objs.size:=by
 have h:mainGlobals<s.heap.objs.size:=(I.mod.glob.keeps I.bk).lt;exact Nat.lt_trans (by decide) h
theorem zfk{Q:VSP}(hu:A.units+1<cLine)(I:Inv X pins σ H s)(g:jq H a y (some v))(ry:zW y u)(h:∀w' s',Inv X pins σ H s'->zW v w'->Q w' s'):
  wpAny (model X.prog X.w) A (getItem (.ref a) u) Q E s:=by
 rcases g with ⟨kvs,k,e,ey,l⟩|⟨kvs,k,b,e,ey,eb,l⟩
 ·subst ey
  obtain⟨z,hd,vs,rel,dd⟩:=qJ I.hok e;obtain⟨w',hw,rw'⟩:=wu (v:=v) (o:=valueAt vs k) (by rw[l];exact rel.val k)
  exact wpAny_getItem_of (ju ry) dd.mapOf hw (h w' _ (I.tok _) rw')
 ·subst ey
  cases (show u=Value.ref b from ry);obtain⟨z,hd,xs,rel,dd⟩:=qH I.hok e;obtain⟨w',hw,rw'⟩:=wu (v:=v) (o:=(atKey xs k).map (·.2)) (by rw[l];exact rel.val k)
  obtain⟨p,hp,hp2⟩:=Option.map_eq_some_iff.mp hw;refine wpAny_getItem_heap (tupleKind_room_in1 hu) (ji I.hok eb) dd hp ?_;rw[hp2];exact h w' _ (I.tok _) rw'
theorem zmQ{Q:VSP}(hu:A.units+1<cLine)(I:Inv X pins σ H s)(g:jq H a y o)(ry:zW y u)(h:∀s',Inv X pins σ H s'->Q (.bool o.isSome) s'):
  wpAny (model X.prog X.w) A (compareOp .In u (.ref a)) Q E s:=by
 rcases g with ⟨kvs,k,e,ey,l⟩|⟨kvs,k,b,e,ey,eb,l⟩
 ·subst ey
  obtain⟨z,hd,vs,rel,dd⟩:=qJ I.hok e;refine wpAny_in_of (ju ry) hd dd.mapOf ?_;rw[<- (rel.val k).isSome_eq,<- l];exact h _ (I.tok _)
 ·subst ey
  cases (show u=Value.ref b from ry);obtain⟨z,hd,xs,rel,dd⟩:=qH I.hok e;refine wpAny_in_heap (tupleKind_room_in1 hu) (ji I.hok eb) hd dd ?_;have q:=(rel.val k).isSome_eq;rw[isSome_map] at q;rw[<- q,<- l];exact h _ (I.tok _)
theorem zjc{Q:VSP}(hu:A.units+1<cLine)(I:Inv X pins σ H s)(g:jq H a y o)(ry:zW y u)(h:∀s',Inv X pins σ H s'->Q (.bool (!o.isSome)) s'):
  wpAny (model X.prog X.w) A (compareOp .NotIn u (.ref a)) Q E s:=by
 rcases g with ⟨kvs,k,e,ey,l⟩|⟨kvs,k,b,e,ey,eb,l⟩
 ·subst ey
  obtain⟨z,hd,vs,rel,dd⟩:=qJ I.hok e;refine wpAny_notIn_of (ju ry) hd dd.mapOf ?_;rw[<- (rel.val k).isSome_eq,<- l];exact h _ (I.tok _)
 ·subst ey
  cases (show u=Value.ref b from ry);obtain⟨z,hd,xs,rel,dd⟩:=qH I.hok e;refine wpAny_notIn_heap (tupleKind_room_in1 hu) (ji I.hok eb) hd dd ?_;have q:=(rel.val k).isSome_eq;rw[isSome_map] at q;rw[<- q,<- l];exact h _ (I.tok _)
theorem jQ{h':Heap}{t':Nat}{ob:HO}(I:Inv X pins σ H s)(mu:Mut (H a))(hs:Heap.SameBut a s.heap h')(he:∃q,h'.get? a=some q)(new:yB X.prog X.w (upd H a ob) h' a ob):
  Inv X pins σ (upd H a ob) { s with heap:=h',toks:=t' }:=
 I.write (x:=a) (e:=a) mu (.inl rfl) (fun b q hb z=>(hs.2 b hb).trans z) he new
theorem zdJ{P:Program}{w:World}{H':Hp}{h':Heap}{kvs:List (Key×V)}{vs:List (Key×Value)}(z:kvs.length<=sizeLine)(hd:(a==sysModules)=false)(rel:KV kvs vs)(dd:h'.DictOf (yl P w) a vs):
  yB P w H' h' a (.dK kvs):=⟨z,hd,vs,rel,dd⟩
theorem zfj{H':Hp}{Q:Unit->Shared->Prop}(hu:A.units+1<cLine)(I:Inv X pins σ H s)(g:zdQ H a y v H')(ry:zW y u)(rv:zW v r)(h:∀s',Inv X pins σ H' s'->Q () s'):
  wpAny (model X.prog X.w) A (setItem (.ref a) u r) Q E s:=by
 rcases g with ⟨kvs,k,e,ey,l,eH⟩|⟨kvs,k,b,e,ey,eb,l,eH⟩
 ·subst ey eH
  obtain⟨z,hd,vs,rel,dd⟩:=zhx I.hok e;have hz:vs.length<=sizeLine:=by rw[<- rel.length];exact z
  have hl:(yF kvs k v).length<=sizeLine:=by have:=xI kvs k v;omega
  refine wpAny_setItem_pairs (hsz:=hz) (ju ry) dd fun h' dd' hs=>h _ ?_;have he:∃q,h'.get? a=some q:=let ⟨q,_,_,hq,_⟩:=dd';⟨q,hq⟩;exact jQ I (by rw[e];exact True.intro) hs he (zdJ hl hd (rel.put k rv) dd')
 ·subst ey eH
  cases (show u=Value.ref b from ry);obtain⟨z,hd,xs,rel,dd⟩:=zl3 I.hok e;have hz:xs.length<=sizeLine:=by rw[<- Paired.length rel];exact z
  have hl:(yF kvs k v).length<=sizeLine:=by have:=xI kvs k v;omega
  refine wpAny_setItem_heap (hsz:=hz) (tupleKind_room_in1 hu) (ji I.hok eb) dd fun h' dd' hs=>h _ ?_;obtain⟨q,es,ep,hq,h2,h3,h4,_,h5⟩:=dd';refine jQ I (by rw[e];exact True.intro) hs ⟨q,hq⟩ ⟨hl,hd,_,(rel.put k eb rv).keeps fun c ys ec=>?_,q,es,ep,hq,h2,h3,h4,h5⟩
  rw[zi (wo ec e (fun z=>nomatch z))];exact ec
variable {kvs:List (Key×V)}{k:Key}
def zkZ(i:Expr):Prop:=∀ov iv,subscripted i false ov iv=operate [ov,iv] (getItem ov iv)
theorem zdY{prog:Program}{w:World}{A:Around}{E:VSP}{s:Shared}{env:Env}{value slice:Expr}{pos:Pos}{T id:String}{Q:VSP}
  (hl:typeLookup (.type T) "__getitem__"=pure (some (.builtin id))) (hs:zkZ slice)
  (h:wpAny (model prog w) A (eval value env) (fun o s₁=>wpAny (model prog w) A (eval slice env) (fun i s₂=>s₂.TypeIs o T/\wpAny (model prog w) A (getItem o i) Q E s₂) E s₁) E s) :
  wpAny (model prog w) A (eval (.Subscript value slice pos) env) Q E s:=by
 refine Subscript_ (wpAny_mono h (fun o s₁ h₁=>wpAny_mono h₁ (fun i s₂ h₂=>?_) fun _ _ x=>x) fun _ _ x=>x);obtain⟨hT,h₂⟩:=h₂;unfold subscriptTail;refine zwb ?_;rw[getitemInPython_of_ne hT.not_modules];refine zwb (wpAny_specialOf hT hl ?_);have fin:wpAny (model prog w) A (subscripted slice false o i) (fun r s₃=>wpAny (model prog w) A (letTemporaryGo value o r >>= fun _=>pure r) Q E s₃) E s₂:=by
  rw[hs o i];exact wpAny_operating (wpAny_mono h₂ (fun r s₃ h₃=>zwb (wpAny_letTemporaryGo (zwp h₃))) fun _ _ x=>x)
 first
  | exact zwp (zwb fin)
  | exact zwb (zwp (zwb fin))
  | exact zwb fin
theorem zcr{X:Cx}{pins:PnL}{σ : St}{H:Hp}{s:Shared}{a:Addr}{y:V}{o:Option V}(I:Inv X pins σ H s)(g:jq H a y o):s.TypeIs (.ref a) "dict":=by
 rcases g with ⟨kvs,k,e,_,_⟩|⟨kvs,k,b,e,_,_,_⟩
 ·obtain⟨_,_,vs,_,dd⟩:=qJ I.hok e
  exact dd.typeIs
 ·obtain⟨_,_,xs,_,dd⟩:=qH I.hok e
  exact dd.typeIs
inductive zlgJ(Q:VK)(x:V)(y:V)(H2:Hp):Prop|mk(a v:_):x=.ref a->jq H2 a y (some v)->(Q v H2)->zlgJ Q x y H2
def zlg(td ty:TE):TE:=fun σ H Q=>td σ H fun x H1=>ty σ H1 fun y H2=>zlgJ Q x y H2
inductive zmjJ(Q:VK)(y:V)(x:V)(H2:Hp):Prop|mk(a o:_):x=.ref a->jq H2 a y o->(Q (.bl o.isSome) H2)->zmjJ Q y x H2
def zmj(ty td:TE):TE:=fun σ H Q=>ty σ H fun y H1=>td σ H1 fun x H2=>zmjJ Q y x H2
inductive zhPJ(Q:VK)(y:V)(x:V)(H2:Hp):Prop|mk(a o:_):x=.ref a->jq H2 a y o->(Q (.bl (!o.isSome)) H2)->zhPJ Q y x H2
def zhP(ty td:TE):TE:=fun σ H Q=>ty σ H fun y H1=>td σ H1 fun x H2=>zhPJ Q y x H2
inductive zlwJ(D:L2.vc)(σ:St)(v:V)(x:V)(y:V)(H3:Hp):Prop|mk(a H4:_):x=.ref a->zdQ H3 a y v H4->(D.nx σ H4)->zlwJ D σ v x y H3
def zlw(td ty tv:TE):TS:=fun D σ H=>tv σ H fun v H1=>td σ H1 fun x H2=>ty σ H2 fun y H3=>zlwJ D σ v x y H3
end
section
variable {X:Cx}{o i e value:Expr}{pos pos' tpos:Pos}{td ty tv:TE}
theorem jL(hu:X.A.units+1<cLine)(ho:PE X o td)(hi:PE X i ty)(hs:zkZ i):PE X (.Subscript o i pos) (zlg td ty):=by
 exists ?_;intro pins s σ H Q I h;refine zdY PySem.F.slot_dict_getitem.lookup hs (thn (ho pins s σ H _ I h) fun u s1 ⟨x,H1,I1,rx,q1⟩=>thn (hi pins s1 σ H1 _ I1 q1) fun iv s2 ⟨y,H2,I2,ry,a,v,ex,g,q2⟩=>?_);subst ex;obtain rfl:u=Value.ref a:=rx;exact⟨zcr I2 g,zfk hu I2 g ry fun w' s3 I3 rw'=>⟨v,H2,I3,rw',q2⟩⟩
theorem zgD(hu:X.A.units+1<cLine)(hi:PE X i ty)(ho:PE X o td):PC X .In i o (zmj ty td):=by
 exists ?_;intro pins s σ H Q I h;refine thn (hi pins s σ H _ I h) fun iv s1 ⟨y,H1,I1,ry,q1⟩=>thn (ho pins s1 σ H1 _ I1 q1) fun u s2 ⟨x,H2,I2,rx,a,ov,ex,g,q2⟩=>?_;subst ex;obtain rfl:u=Value.ref a:=rx;exact zmQ hu I2 g ry fun s3 I3=>⟨.bl ov.isSome,H2,I3,rfl,q2⟩
theorem zas(hu:X.A.units+1<cLine)(hi:PE X i ty)(ho:PE X o td):PC X .NotIn i o (zhP ty td):=by
 exists ?_;intro pins s σ H Q I h;refine thn (hi pins s σ H _ I h) fun iv s1 ⟨y,H1,I1,ry,q1⟩=>thn (ho pins s1 σ H1 _ I1 q1) fun u s2 ⟨x,H2,I2,rx,a,ov,ex,g,q2⟩=>?_;subst ex;obtain rfl:u=Value.ref a:=rx;exact zjc hu I2 g ry fun s3 I3=>⟨.bl (!ov.isSome),H2,I3,rfl,q2⟩
theorem zbh(hu:X.A.units+1<cLine)(ho:PE X o td)(hi:PE X i ty)(hv:PE X value tv)(hs:swapsWith value (some (.Subscript o i pos')) pos.line X.env=pure false):
  PS X (.Assign [.Subscript o i pos'] value pos) (zlw td ty tv):=by
 exists ?_;intro pins s σ H D I h;refine wpAny_Assign_Subscript (thn (hv pins s σ H _ I h) fun r s1 ⟨v,H1,I1,rv,q1⟩=>thn (ho pins s1 σ H1 _ I1 q1) fun u s2 ⟨x,H2,I2,rx,q2⟩=>thn (hi pins s2 σ H2 _ I2 q2) fun iv s3 ⟨y,H3,I3,ry,a,H4,ex,g,q3⟩=>?_) hs;subst ex;obtain rfl:u=Value.ref a:=rx;exact zfj hu I3 g ry rv fun s4 I4=>⟨σ,H4,I4,q3⟩
theorem zcq{P:Program}{w:World}{H:Hp}(h:Heap)(hb:sysModules<h.objs.size):yB P w H (h.push { cls:=.type "dict",data:=.dict #[] }) h.objs.size (.dK []):=
 ⟨zero_le _,beq_eq_false_iff_ne.mpr (Ne.symm (ne_of_lt hb)),[],.nil,Heap.DictOf.new h⟩
def zjQ:TE:=fun _ H Q=>∀p,H p=none->Q (.ref p) (upd H p (.dK []))
theorem zbZ:PE X (.Dict [] [] pos) zjQ:=⟨fun pins s σ H Q I h=>
 wpAny_Dict_empty ⟨.ref s.heap.objs.size,_,I.laid (a:=s.heap.objs.size) (o:=.dK []) (t':=s.toks) (fun _ _ q=>zgp _ q) (aF _) (zcq s.heap I.big),rfl,h _ (I.hok.fresh (aF _))⟩⟩
def zaV:List (TE×TE)->St->Hp->(List (V×V)->Hp->Prop)->Prop
 | [],_,H,Q=>Q [] H
 | (tk,tv)::r,σ,H,Q=>tk σ H fun x H1=>tv σ H1 fun y H2=>zaV r σ H2 fun ps H3=>Q ((x,y)::ps) H3
abbrev VV:List (V×V)->List (Value×Value)->Prop:=Paired fun p q=>zW p.1 q.1/\zW p.2 q.2
structure PPs(X:Cx)(pos:Pos)(keys:List (Option Expr))(values:List Expr)(trs:List (TE×TE)):Prop where
 run:∀(pins:PnL) (s:Shared) (σ : St) (H:Hp) (Q:List (V×V)->Hp->Prop),Inv X pins σ H s->zaV trs σ H Q->
  wpAny (model X.prog X.w) X.A (evalPairs (pairTrees keys values X.env pos)) (fun vs s'=>∃ps H',Inv X pins σ H' s'/\VV ps vs/\Q ps H') X.xe s
instance {X:Cx}{pos:Pos}{keys:List (Option Expr)}{values:List Expr}{trs:List (TE×TE)}:CoeFun (PPs X pos keys values trs) (fun _=>∀(pins:PnL) (s:Shared) (σ : St) (H:Hp) (Q:List (V×V)->Hp->Prop),Inv X pins σ H s->zaV trs σ H Q->
  wpAny (model X.prog X.w) X.A (evalPairs (pairTrees keys values X.env pos)) (fun vs s'=>∃ps H',Inv X pins σ H' s'/\VV ps vs/\Q ps H') X.xe s):=⟨PPs.run⟩
theorem zig{X:Cx}{pos:Pos}:PPs X pos [] [] []:=⟨fun pins s σ H Q I h=>pairTrees_nil_walk ⟨[],H,I,.nil,h⟩⟩
theorem zbU{X:Cx}{pos:Pos}{k v:Expr}{ks:List (Option Expr)}{vs:List Expr}{tk tv:TE}{trs:List (TE×TE)}(hk:PE X k tk)(hv:PE X v tv)(hr:PPs X pos ks vs trs):
  PPs X pos (some k::ks) (v::vs) ((tk,tv)::trs):=⟨fun pins s σ H Q I h=>
 pairTrees_cons_walk (thn (hk pins s σ H _ I h) fun u s1 ⟨x,H1,I1,rx,q1⟩=>thn (hv pins s1 σ H1 _ I1 q1) fun w2 s2 ⟨y,H2,I2,ry,q2⟩=>
  thn (hr pins s2 σ H2 _ I2 q2) fun ws s3 ⟨ps,H3,I3,rel,q3⟩=>⟨(x,y)::ps,H3,I3,.cons ⟨rx,ry⟩ rel,q3⟩)⟩
def uz(kvs more:List (Key×V)):List (Key×V):=more.foldl (fun acc kv=>yF acc kv.1 kv.2) kvs
theorem KV.merge:∀{more:List (Key×V)}{rs:List (Key×Value)}{kvs:List (Key×V)}{vs:List (Key×Value)},KV more rs->KV kvs vs->KV (uz kvs more) (merged vs rs):=by
 intro more rs kvs vs r;unfold KV at r;induction r generalizing kvs vs with
 | nil=>intro q;exact q
 | @cons p q ps qs h t ih=>
  intro r0;have e:KV (yF kvs p.1 p.2) (stored vs q.1 q.2):=by
   have:=r0.put p.1 h.2
   rw[<- h.1];exact this
  exact ih e
theorem uo:∀(more kvs:List (Key×V)),(uz kvs more).length<=kvs.length+more.length
 | [],kvs=>by show kvs.length<=kvs.length+0;omega
 | p::r,kvs=>by
  have h1:=uo r (yF kvs p.1 p.2);have h2:=xI kvs p.1 p.2;show(uz (yF kvs p.1 p.2) r).length<=_;rw[length_cons];omega
theorem qO{P:Program}{w:World}:∀{kvs:List (Key×V)}{ws:List (Value×Value)},VV (kvs.map fun kv=>(kV kv.1,kv.2)) ws->∃rs,Carries (yl P w) ws rs/\KV kvs rs
 | [],_,r=>by rw[map_nil] at r;cases r;exact⟨[],True.intro,.nil⟩
 | p::kvs,_,r=>by
  rw[map_cons] at r;cases r with
  | @cons a b as bs h t=>
   obtain⟨rs,c,q⟩:=qO (P:=P) (w:=w) t;obtain⟨b1,b2⟩:=b;exact⟨(p.1,b2)::rs,⟨ju h.1,rfl,c⟩,.cons ⟨rfl,h.2⟩ q⟩
def zlf(trs:List (TE×TE)):TE:=fun σ H Q=>∀p,H p=none->zaV trs σ (upd H p (.dK [])) fun ps H2=>H2 p=some (.dK [])/\∃kvs:List (Key×V),ps=kvs.map (fun kv=>(kV kv.1,kv.2))/\kvs.length<=15/\Q (.ref p) (upd H2 p (.dK (uz [] kvs)))
theorem zim{X:Cx}{pos:Pos}{keys:List (Option Expr)}{values:List Expr}{trs:List (TE×TE)}(h:PPs X pos keys values trs)(hall:keys.all (·.isSome)=true)(hl:keys.length=values.length)(h0:keys≠[])
  (h15:keys.length<=15):PE X (.Dict keys values pos) (zlf trs):=by
 exists ?_;intro pins s σ H Q I q;have hn:=I.hok.fresh (aF s.heap.objs.size);have I1:=I.laid (a:=s.heap.objs.size) (o:=.dK []) (h':=s.heap.push { cls:=.type "dict",data:=.dict #[] }) (t':=s.toks) (fun _ _ q=>zgp _ q) (aF _) (zcq s.heap I.big);refine wpAny_Dict_walk (knd:=yl X.prog X.w) hall hl h0 h15 (thn (h pins _ σ _ _ I1 (q _ hn)) fun ws s2 ⟨ps,H2,I2,rel,e,kvs,ep,lk,q2⟩=>?_);subst ep;obtain⟨rs,c,rk⟩:=qO (P:=X.prog) (w:=X.w) rel;obtain⟨z,hd,vs0,r0,dd⟩:=zhx I2.hok e;cases r0;exists rs,c,dd,fun h' dd' hs=>⟨.ref s.heap.objs.size,_,?_,rfl,q2⟩;have hz:(uz [] kvs).length<=sizeLine:=by
  have h1:=uo kvs [];rw[length_nil] at h1;rw[sizeLine_eq];omega
 have he:∃q,h'.get? s.heap.objs.size=some q:=let ⟨q,_,_,hq,_⟩:=dd';⟨q,hq⟩;exact jQ I2 (by rw[e];exact True.intro) hs he (zdJ hz hd (rk.merge .nil) dd')
structure M1(X:Cx)(o:Expr)(m:Str)(apos:Pos)(e:Expr)(cpos:Pos):Prop where
 base:attributeBase o m X.env (eval o X.env)=eval o X.env
 few:((backTo cpos (starEach [e] X.env)).all (fun x=>!x.1)&&(backToKw cpos (keywordEach [] X.env)).all (fun x=>x.1.isSome)
  && decide (([e]:List Expr).length+([]:List Keyword).length+(if ([]:List Keyword).isEmpty then 0 else 1)<30))=true
 line:(apos.endLine==cpos.line)=true
 trees:backTo cpos (starEach [e] X.env)=[(false,eval e X.env)]
def IsD(H:Hp)(a:Addr):Prop:=(∃kvs,Rd H a (.dK kvs))\/∃kvs,Rd H a (.dT kvs)
theorem zkL{X:Cx}{pins:PnL}{σ : St}{H:Hp}{s:Shared}{a:Addr}(I:Inv X pins σ H s)(d:IsD H a):
  s.TypeIs (.ref a) "dict"/\(∀b,Value.ref a=.ref b->∃ob,s.heap.get? b=some ob/\ob.dict=none)/\(a==sysModules)=false:=by
 rcases d with ⟨kvs,e⟩|⟨kvs,e⟩
 ·obtain⟨_,hd,vs,_,dd⟩:=qJ I.hok e
  exists dd.typeIs,fun b q=>?_,hd;cases q;obtain⟨ob,_,_,h1,h2,_⟩:=dd;exact⟨ob,h1,h2.2.1⟩
 ·obtain⟨_,hd,xs,_,dd⟩:=qH I.hok e
  exists dd.typeIs,fun b q=>?_,hd;cases q;obtain⟨ob,_,_,h1,h2,_⟩:=dd;exact⟨ob,h1,h2.2.1⟩
end
section
variable {X:Cx}{pins:PnL}{σ:St}{H:Hp}{s:Shared}{a:Addr}{y d:V}{u r:Value}{o:Option V}{A:Around}{E:VSP}
theorem zkU{Q:VSP}(hu:A.units+1<cLine)(I:Inv X pins σ H s)(g:jq H a y o)(ry:zW y u)(h:∀w' s',Inv X pins σ H s'->zW (o.getD .non) w'->Q w' s'):
  wpAny (model X.prog X.w) A (call (.builtin "dict.get") [.ref a,u]) Q E s:=by
 rcases g with ⟨kvs,k,e,ey,l⟩|⟨kvs,k,b,e,ey,eb,l⟩
 ·subst ey
  obtain⟨z,hd,vs,rel,dd⟩:=qJ I.hok e;refine call_meetsIn PySem.F.slot_dict_get dd.typeIs PySem.F.entry_dict_get (PySem.F.args_dict_get_2 _ _) (meets_dict_get (yl X.prog X.w) a (ju ry) hd) ⟨_,dd.mapOf,h _ _ (I.tok _) ?_⟩;rw[l];exact(rel.val k).getD rfl
 ·subst ey
  cases (show u=Value.ref b from ry);obtain⟨z,hd,xs,rel,dd⟩:=qH I.hok e;refine call_meetsIn PySem.F.slot_dict_get dd.typeIs PySem.F.entry_dict_get (PySem.F.args_dict_get_2 _ _) (meetsH_dict_get (tupleKind (yl X.prog X.w)) a b hd) ⟨tupleKind_room_in1 hu,k,xs,ji I.hok eb,dd,h _ _ (I.tok _) ?_⟩;rw[l];exact(rel.val k).getD rfl
inductive zjRJ(ty:TE)(σ:St)(Q:VK)(x:V)(H1:Hp):Prop|mk(a:_):x=.ref a->IsD H1 a->(ty σ H1 fun y H2=>∃o,jq H2 a y o/\Q (o.getD .non) H2)->zjRJ ty σ Q x H1
def zjR(td ty:TE):TE:=fun σ H Q=>td σ H fun x H1=>zjRJ ty σ Q x H1
end
section
variable {X:Cx}{o e f:Expr}{apos cpos:Pos}{td ty tx:TE}
theorem zgz(hu:X.A.units+1<cLine)(ho:PE X o td)(he:PE X e ty)(m:M1 X o "get" apos e cpos):PE X (.Call (.Attribute o "get" apos) [e] [] cpos) (zjR td ty):=by
 exists ?_;intro pins s σ H Q I h;refine wpAny_Call_method m.base m.few m.line PySem.F.plainAttrs_dict PySem.F.slot_dict_get PySem.F.type_dict_get (thn (ho pins s σ H _ I h) fun u s1 ⟨x,H1,I1,rx,a,ex,d,q1⟩=>?_);subst ex;obtain rfl:u=Value.ref a:=rx;obtain⟨t1,t2,_⟩:=zkL I1 d;exists t1,t2,?_;rw[m.trees];refine Calls.callWith_builtin rfl (Calls.evalArgs_plain (Calls.spliced_cons (thn (he pins s1 σ H1 _ I1 q1) fun iv s2 ⟨y,H2,I2,ry,ov,g,q2⟩=>Calls.spliced_nil ?_)));exact zkU hu I2 g ry fun w' s3 I3 rw'=>⟨_,H2,I3,rw',q2⟩
variable {pins:PnL}{σ:St}{H:Hp}{s:Shared}{a:Addr}{kvs:List (Key×V)}{A:Around}{E:VSP}
variable {y:V}{u:Value}
end
end L2
namespace Att
open PySem PySem.W PySem.Calls PyProof.Rows
theorem jC{P:Params}{h:Heap}:∀(ns:List Int) (vs:List Value),WellAll P h vs (ns.map WData.int)->IntsAre vs ns:=by
 intro ns;induction ns with
 | nil=>
  intro vs w;rw[map_nil] at w;cases w;exact .nil
 | cons n ns ih=>
  intro vs w;rw[map_cons] at w;cases w with
  | cons a b=>
   cases a;exact .cons _ _ (ih _ b)
theorem zeI{l:OpenLaw}{n:Nat}(hn:l.most=some n){P:Params}{h:Heap}{args:List WData}{vals:List Value}
  (hpre:l.row.toRowW.claim.pre args=true) (hwl:WellAll P h vals args) :
  ∃a vs ns,vals=[Value.ref a]/\args=[WData.list (ns.map WData.int)]/\h.get? a=some { cls:=.type "list",data:=.seq vs.toArray }/\IntsAre vs ns/\ns.length<=n:=by
 have hsh:WShape.hasAll [] args [.list .int]=true:=(pre_splitW hpre).1;have hc:l.pre.holds [] { args:=args }=true:=(pre_splitW hpre).2;obtain⟨d,r,rfl,h1,h2⟩:=hasAllW_cons hsh;obtain rfl:=hasAllW_nil h2;obtain⟨xs,rfl,h3⟩:=hasW_list h1;obtain⟨ns,rfl⟩:=items_int h3;have hlen:ns.length<=n:=by
  unfold OpenLaw.pre at hc;have h4:(WTm.not (.lt (.lit (.int (n:Int))) (.len (.arg 0)))).holds [] { args:=[.list (ns.map .int)] }=true:=by
   have h4:=(holds_andW hc).1;rw[hn] at h4;exact h4
  have h5:=condW_of h4 (w_not (w_lt w_lit (w_len_list (w_arg rfl))));rw[L2.aA] at h5;refine Nat.le_of_not_lt fun q=>?_;have q':(n:Int)<((ns.length:Nat):Int):=by omega
  first
   | (rw[L2.aC q'] at h5;exact absurd h5 (by decide))
   | (simp at h5;omega)
 cases hwl with
 | cons w1 w2=>
  cases w2;cases w1 with
  | list ho hall=>exact⟨_,_,ns,rfl,rfl,ho,jC ns _ hall,hlen⟩
theorem zeN(l:OpenLaw)(args:List WData):l.row.toRowW.claim.post args (.bool true) args=true:=
 postW_of (r:=l.row.toRowW) (X:=(true==true))
  (show WShape.has [] (.bool true) .bool=true by first|rfl|decide|simp [WShape.has,WShape.arms,WShape.armsAll])
  (show(WTm.eq .res (.lit (.bool true))).value [] { args:=args,res:=some (.bool true),after:=args }=some (.bool (true==true)) from w_eq_bool (w_res rfl) w_lit) rfl
section
variable {prog:Program}{w:World}{A:Around}{E:VSP}{s:Shared}{K:Frag}
def zmM(h:Heap)(L d:Addr):List (Addr×Obj):=(List.range h.objs.size).filterMap fun a=>if a=L\/a=d then none else (h.get? a).map fun o=>(a,o)
end
end Att
namespace L2
open PySem PySem.Spec PyProof.Rows
theorem zai:∀{vs:List Value}{ns:List Int},IntsAre vs ns->zV (ns.map V.int) vs
 | _,_,.nil=>.nil
 | _,_,.cons n t h=>.cons ⟨t,rfl⟩ (zai h)
def zkY(H:Hp):Prop:=∀b,H b=none\/∃o xs,H b=some (.frz o (.lst xs))
theorem zhf{P:Program}{w:World}{K:Frag}{mg mb:Str->Option Value}{CX:CXT}{k:Nat}{fa a:Addr}{fd:FuncData}{x:Str}{sp:Sp}{s₁:Shared}{vs:List Value}{ns:List Int}
  (KX:K.In s₁.heap) (hns:s₁.heap.Ns mainGlobals mg) (hb:s₁.heap.Ns builtinsNs mb) (hbb:∀x:Str,x≠"__name__"->mb x=bootBuiltins x) (hlim:s₁.heap.NoLimit) (hg:s₁.gens=#[])
  (ha:s₁.heap.get? a=some { cls:=.type "list",data:=.seq vs.toArray }) (hi:IntsAre vs ns) (hl:ns.length<=sizeLine) (hr:yn k callerA)
  (F:∀base:Heap,K.In base->base.Ns mainGlobals mg->zC P w K mg base CX k fa fd [x] sp) (hbind:∀(s:Shared) (u:Value),BindsTo s fd ⟨[u],[]⟩ [(x,u)])
  (hsp:∀H:Hp,zkY H->SqL K H a (ns.map V.int)->sp [.ref a] H (fun v _=>v=.bl true) fun _ _ _=>False)
  (hCX:∀H e s',CX [] H s₁ (fun _ _ _=>False) e s'->False) :
  codeAny (model P w) callerA (.call (.ref fa) ⟨[.ref a],[]⟩) (fun r s'=>r=.ok (.ret (.bool true))/\OldK s₁.heap s'.heap/\s'.os=s₁.os/\AllBare s'.gens) s₁:=by
 have rv:=zai hi;have lenV:=hi.length;have core:∀H:Hp,zkY H->SqL K H a (ns.map V.int)->HOk P w H s₁.heap->(∀b,H b≠none->b=a)->(H a≠none->K.lookup a=none)->
   codeAny (model P w) callerA (.call (.ref fa) ⟨[.ref a],[]⟩) (fun r s'=>r=.ok (.ret (.bool true))/\OldK s₁.heap s'.heap/\s'.os=s₁.os/\AllBare s'.gens) s₁:=by
  intro H hO hS hok hA hK;have base_of:∀{b:Addr}{o:Obj},s₁.heap.get? b=some o->H b=none->(zbr s₁.heap H).get? b=some o:=fun e n=>zhl e n;have noA:∀{b:Addr}{o:Obj}{es:Array DictEntry}{ep:Nat},s₁.heap.get? b=some o->o.data=.dict es ep->H b=none:=fun {b o es ep} e d=>by
   cases q:H b with
   | none=>rfl
   | some u=>
    have e':b=a:=hA b (by rw[q];simp)
    subst e';rw[ha] at e;cases e;have d':Data.seq vs.toArray _=Data.dict es ep:=d;cases d'
  have nsK:∀{b:Addr}{m:Str->Option Value},s₁.heap.Ns b m->(zbr s₁.heap H).Ns b m:=fun {b m} ⟨o,es,ep,e,d,r⟩=>⟨o,es,ep,base_of e (noA e d),d,r⟩;have hKb:K.In (zbr s₁.heap H):=fun b o e=>base_of (KX b o e) (by
   cases q:H b with
   | none=>rfl
   | some u=>
    have e':b=a:=hA b (by rw[q];simp)
    subst e';rw[hK (by rw[q];simp)] at e;cases e)
  have hM:Mod K mg (zbr s₁.heap H):=⟨hKb,nsK hns,⟨mb,nsK hb,hbb⟩,let ⟨mc,h1,h2⟩:=hlim;⟨mc,nsK h1,h2⟩⟩;have e0:qW P w K mg (zbr s₁.heap H) callerA [] s₁ H:=⟨rfl,hM,fun b o e=>ziM e,le_of_eq (zfc _ _),trivial,fun b hb=>absurd (show b∈([]:List Addr) from hb) (by simp),hok,.of_eq hg⟩
  refine codeAny_mono ((F _ hKb (nsK hns)).run callerA [] s₁ H ⟨[.ref a],[]⟩ [.ref a] [.ref a] _ _ hr e0 (hbind s₁ (.ref a)) (.cons rfl .nil) (hsp H hO hS)) fun r s' h=>?_;cases r with
  | error e=>exact(hCX H e s' h).elim
  | ok fl=>
   cases fl with
   | next=>exact False.elim h
   | brk=>exact False.elim h
   | cont=>exact False.elim h
   | ret u=>
    obtain⟨v,H',os,bare,un,hok',r',q⟩:=h;have q':v=.bl true:=q;subst q';obtain rfl:u=Value.bool true:=r';exists rfl,OldK.of_keep fun b o e=>?_,os,bare;cases q:H b with
    | none=>exact un.keep b o e q (by intro z;exact absurd (show b∈([]:List Addr) from z) (by simp)) (by simp)
    | some u=>
     rcases hO b with z|⟨ob,xs,z⟩
     ·rw[q] at z;cases z
     ·have z2:=un.frzs b ob _ z
      obtain⟨e1,_⟩:=hok b _ z;obtain⟨e2,_⟩:=hok' b _ z2;rw[e] at e1;cases e1;exact e2
 cases hk:K.lookup a with
 | some o=>
  have e:=KX a o hk;rw[ha] at e;cases e;refine core (fun _=>none) (fun _=>.inl rfl) (.inr ⟨_,vs.toArray,_,hk,rfl,rfl,rfl,by rw[size_toArray,lenV];exact hl,by simpa using rv⟩) (fun b u z=>by have z':(none:Option HO)=some u:=z;cases z') (fun b z=>absurd rfl z) fun z=>absurd rfl z
 | none=>
  refine core (fun b=>if b=a then some (.frz { cls:=.type "list",data:=.seq vs.toArray } (.lst (ns.map V.int))) else none) (fun b=>?_) (.inl (.inr ⟨{ cls:=.type "list",data:=.seq vs.toArray },aK rfl⟩)) (fun b u z=>?_) (fun b z=>?_) fun _=>hk
  ·by_cases hb:b=a
   ·exact .inr ⟨_,_,aK hb⟩
   ·exact .inl (aJ hb)
  ·by_cases hb:b=a
   ·have z':=(aK hb).symm.trans z
    cases z';subst hb;exact⟨ha,by rw[aA];exact hl,vs,_,rv,ha⟩
   ·have z':=(aJ hb).symm.trans z
    cases z'
  ·by_cases hb:b=a
   ·exact hb
   ·exact absurd (aJ hb) z
def yt(s:Stmt)(j:Nat):Stmt:=match s with
 | .ClassDef _ _ _ body _ _ _ _ _ _ _=>body.getD j (.Pass ⟨0,0,0,0⟩)
 | _=>.Pass ⟨0,0,0,0⟩
def yd(s:Stmt):Arguments:=match s with
 | .FunctionDef _ a _ _ _ _ _ _ _ _=>a
 | _=>{ posonlyargs:=[],args:=[],vararg:=none,kwonlyargs:=[],kw_defaults:=[],kwarg:=none,defaults:=[] }
def z5(s:Stmt):List Stmt:=match s with
 | .FunctionDef _ _ b _ _ _ _ _ _ _=>b
 | _=>[]
def zj(s:Stmt):Scope:=match s with
 | .FunctionDef _ _ _ _ _ _ sc _ _ _=>sc
 | _=>{ kind:=.function,names:=[],isGenerator:=false,isCoroutine:=false }
abbrev CX0:CXT:=fun _ _ _ _ _ _=>False
abbrev E0:XK:=fun _ _ _=>False
theorem yi{X:Cx}:xG CX0 X E0:=fun _ _ _ _ _ _ _ h=>h.elim
structure Fun(K:Frag)(x qual:Str)(st:Stmt)(f:Addr)(fd:FuncData):Prop where
 ex:∃(oc:Value) (od:Option Addr) (kV doc pm:Value) (an:Option Addr) (cdv ct:Value) (osl:Array (Option Value)),
  fd=fnOf x qual (yd st) (z5 st) (zj st) .none kV doc pm an cdv ct/\K.lookup f=some ⟨oc,od,.func fd,osl⟩/\codeIn K cdv qual=true
 kp:keepIn K (.ref f)=true
section
variable {P:Program}{w:World}{K:Frag}{mg:Str->Option Value}{base:Heap}
theorem Fun.ok{x qual:Str}{st:Stmt}{f:Addr}{fd:FuncData}{N ps:List Str}{k:Nat}{sp:Sp}(F:Fun K x qual st f fd)(S:zt N ps (zj st))(hbody:∀(cdv:Value) (A:Around) (outer:List Env) (s:Shared) (H:Hp) (vs:List V) (Q:VK) (E:XK),yn k (A.deeper (envOfC qual (zj st) s.heap.objs.size f cdv))->sp vs H Q E->
   ∃t,PSs (jD CX0 P w K mg base N qual (zj st) f cdv A outer s H E).nox (z5 st) t/\t { nx:=fun _ H'=>Q .non H',rt:=Q } (xP N vs) H) (len:∀vs H Q E,sp vs H Q E->vs.length=ps.length:=by intro vs H Q E h;first|(obtain⟨_,rfl,_⟩:=h;rfl)|(obtain⟨_,_,rfl,_⟩:=h;rfl)|(obtain⟨_,_,_,rfl,_⟩:=h;rfl)|(obtain⟨_,_,_,_,rfl,_⟩:=h;rfl)|(obtain⟨_,_,_,_,_,rfl,_⟩:=h;rfl)|(obtain⟨_,_,_,_,_,_,rfl,_⟩:=h;rfl)|(obtain⟨_,_,_,_,_,_,_,rfl,_⟩:=h;rfl)|(obtain⟨_,_,_,_,_,_,_,_,rfl,_⟩:=h;rfl)|(obtain⟨_,_,_,_,_,_,_,_,_,rfl,_⟩:=h;rfl)|(obtain⟨_,_,_,_,_,_,_,_,_,_,rfl,_⟩:=h;rfl)|(obtain⟨_,_,_,_,_,_,_,_,_,_,_,rfl,_⟩:=h;rfl)|(obtain⟨_,_,_,_,_,_,_,_,_,_,_,_,rfl,_⟩:=h;rfl)|(obtain⟨_,_,_,_,_,_,_,_,_,_,_,_,_,rfl,_⟩:=h;rfl)|(obtain⟨_,_,_,_,_,_,_,_,_,_,_,_,_,_,rfl,_⟩:=h;rfl)|(obtain⟨_,_,_,_,_,_,_,_,_,_,_,_,_,_,_,rfl,_⟩:=h;rfl)|(obtain⟨_,_,_,_,_,_,_,_,_,_,_,_,_,_,_,_,rfl,_⟩:=h;rfl)):zC P w K mg base CX0 (k+1) f fd ps sp:=by
 obtain⟨oc,od,kV,doc,pm,an,cdv,ct,osl,rfl,lk,hcd⟩:=F.ex;refine zhp lk hcd S len fun A outer s H vs Q E hr hsp=>?_;obtain⟨t,h,q⟩:=hbody cdv A outer s H vs Q E hr hsp;exact⟨t,h.nox,q⟩
theorem Fun.binds{x qual:Str}{st:Stmt}{f:Addr}{fd:FuncData}{ps:List Str}(F:Fun K x qual st f fd)
  (h:∀(kV doc pm:Value) (an:Option Addr) (cdv ct:Value) (us:List Value),us.length=ps.length->bindArgs (fnOf x qual (yd st) (z5 st) (zj st) .none kV doc pm an cdv ct) ⟨us,[]⟩=pure (ps.zip us)):z0 K fd ps []:=by
 obtain⟨oc,od,kV,doc,pm,an,cdv,ct,osl,rfl,lk,hcd⟩:=F.ex;exact .all (h kV doc pm an cdv ct)
theorem zhn{x qual:Str}{st:Stmt}{f:Addr}{oc:Value}{od an:Option Addr}{osl:Array (Option Value)}{kV doc pm cdv ct:Value}(l:K.lookup f=some ⟨oc,od,.func (fnOf x qual (yd st) (z5 st) (zj st) .none kV doc pm an cdv ct),osl⟩)
  (c:codeIn K cdv qual=true) (k:keepIn K (.ref f)=true):Fun K x qual st f (fnOf x qual (yd st) (z5 st) (zj st) .none kV doc pm an cdv ct):=⟨⟨oc,od,kV,doc,pm,an,cdv,ct,osl,rfl,l,c⟩,k⟩
theorem zaE{A:Around}{k:Nat}(hr:yn k A):A.units+1<cLine:=Nat.lt_of_le_of_lt (Nat.add_le_add_left (by decide : 1<=64) _) hr.units
theorem zF{n:Nat}(h:n<=1000):n<sizeLine:=Nat.lt_of_le_of_lt h (by decide)
variable {X:Cx}
theorem pv(i:Nat){x:Str}{pos:Pos}(hN:X.N[i]?=some x:=by rfl)(hv:Vis X.env.scope x:=by first|exact Or.inl rfl|exact Or.inr ⋯|exact Or.inr (Or.inr rfl))(hd:(x==("__debug__" : Str))=false:=by decide)
  (hcd:(x==("__classdict__" : Str))=false:=by decide):PE X (.Name x pos) (zjO i):=zkm hN hv hd hcd
theorem yf{A B:Prop}(h:B):if false=true then A else B:=by
 rw[aJ zft];exact h
theorem xt{A B:Prop}(h:A):if true=true then A else B:=by
 rw[aK rfl];exact h
theorem wG{c A B:Prop}[Decidable c](h1:c->A)(h2:¬c->B):if c then A else B:=by
 by_cases h:c
 ·rw[aK h]
  exact h1 h
 ·rw[aJ h]
  exact h2 h
theorem zlU{c A B:Prop}[Decidable c](hc:c)(h:B):if (!decide c)=true then A else B:=by
 rw[aC hc];exact yf h
def zn(H H':Hp):Prop:=∀b o,H b=some o->H' b=some o
theorem zn.refl(H:Hp):zn H H:=fun _ _ h=>h
theorem zn.trans{H H1 H2:Hp}(a:zn H H1)(b:zn H1 H2):zn H H2:=fun c o h=>b c o (a c o h)
theorem zn.free{H H':Hp}(e:zn H H'){l:Addr}(h:H' l=Option.none):H l=Option.none:=by
 cases q:H l with
 | none=>rfl
 | some o=>
  rw[e l o q] at h;cases h
theorem zn.seq{K:Frag}{H H':Hp}{a:Addr}{xs:List V}(e:zn H H')(h:SqL K H a xs):SqL K H' a xs:=by
 rcases h with (h|⟨o,h⟩)|h
 ·exact .inl (.inl (e _ _ h))
 ·exact .inl (.inr ⟨o,e _ _ h⟩)
 ·exact .inr h
end
section
variable {κ : Type}[DecidableEq κ]
end
def clB(env:Env)(fr:List Str):List (Str×Addr):=fr.map fun n=>(n,(env.cells.lookup n).getD 0)
theorem zcv{env:Env}:∀{fr:List Str}{x:Str}{c:Addr},(clB env fr).lookup x=some c->x∈fr/\c=(env.cells.lookup x).getD 0
 | [],x,c,h=>by simp [clB] at h
 | n::r,x,c,h=>by
  have h':List.lookup x ((n,(env.cells.lookup n).getD 0)::clB env r)=some c:=h;rw[lookup_cons] at h';cases e:x==n with
  | true=>
   rw[e] at h';have e':x=n:=by simpa using e
   subst e';exact⟨mem_cons_self,(Option.some.inj h').symm⟩
  | false=>
   rw[e] at h';obtain⟨h1,h2⟩:=zcv h';exact⟨mem_cons_of_mem _ h1,h2⟩
theorem zbu{env:Env}:∀{fr:List Str}{x:Str},x∈fr->(clB env fr).lookup x=some ((env.cells.lookup x).getD 0)
 | n::r,x,h=>by
  show List.lookup x ((n,(env.cells.lookup n).getD 0)::clB env r)=_;rw[lookup_cons];cases e:x==n with
  | true=>
   have e':x=n:=by simpa using e
   subst e';rfl
  | false=>
   rcases List.mem_cons.mp h with z|z
   ·subst z;simp at e
   ·exact zbu z
theorem vL{env:Env}:∀{names:List (Str×NameKind)}{x:Str}{k:NameKind},
  (names.map fun (n,k)=>if (k==NameKind.free&&env.scope.kind==.function&&env.kindOf n==some .cell) then (n,NameKind.cell) else (n,k)).lookup x=some k->
  ∃k0,(x,k0)∈names/\(k=k0\/(k0=.free/\k=.cell))
 | [],_,_,h=>by simp at h
 | (n,k0)::r,x,k,h=>by
  have h':List.lookup x ((if (k0==NameKind.free&&env.scope.kind==.function&&env.kindOf n==some .cell)=true then (n,NameKind.cell) else (n,k0)) ::
   (r.map fun (n,k)=>if (k==NameKind.free&&env.scope.kind==.function&&env.kindOf n==some .cell) then (n,NameKind.cell) else (n,k)))=some k:=h
  by_cases hc:(k0==NameKind.free&&env.scope.kind==.function&&env.kindOf n==some .cell)=true
  ·rw[aK hc,lookup_cons] at h'
   cases e:x==n with
   | true=>
    rw[e] at h';have e':x=n:=by simpa using e
    subst e';simp only[Bool.and_eq_true] at hc;exact⟨k0,mem_cons_self,.inr ⟨by simpa using hc.1.1,(Option.some.inj h').symm⟩⟩
   | false=>
    rw[e] at h';obtain⟨k1,h1,h2⟩:=vL h';exact⟨k1,mem_cons_of_mem _ h1,h2⟩
  ·rw[aJ hc,lookup_cons] at h'
   cases e:x==n with
   | true=>
    rw[e] at h';have e':x=n:=by simpa using e
    subst e';exact⟨k0,mem_cons_self,.inl (Option.some.inj h').symm⟩
   | false=>
    rw[e] at h';obtain⟨k1,h1,h2⟩:=vL h';exact⟨k1,mem_cons_of_mem _ h1,h2⟩
theorem vh{env:Env}(hk:env.scope.kind=.function):∀{names:List (Str×NameKind)}{x:Str},names.lookup x=some .free->env.kindOf x=some .cell->
  (names.map fun (n,k)=>if (k==NameKind.free&&env.scope.kind==.function&&env.kindOf n==some .cell) then (n,NameKind.cell) else (n,k)).lookup x=some .cell
 | [],_,h,_=>by simp at h
 | (n,k0)::r,x,h,hx=>by
  show List.lookup x ((if (k0==NameKind.free&&env.scope.kind==.function&&env.kindOf n==some .cell)=true then (n,NameKind.cell) else (n,k0)) ::
   (r.map fun (n,k)=>if (k==NameKind.free&&env.scope.kind==.function&&env.kindOf n==some .cell) then (n,NameKind.cell) else (n,k)))=some .cell
  rw[lookup_cons] at h;cases e:x==n with
  | true=>
   rw[e] at h;have e':x=n:=by simpa using e
   subst e';have h0:k0=.free:=Option.some.inj h;subst h0;rw[aK (by rw[hk,hx];decide),lookup_cons]
   simp
  | false=>
   rw[e] at h;have ih:=vh hk h hx;split
   ·rw[lookup_cons,e];exact ih
   ·rw[lookup_cons,e];exact ih
abbrev zO(X:Cx)(pins:PnL)(sc:Scope)(fr Nc:List Str)(fp:List Addr)(s:Shared)(H:Hp)(C:Addr):Cx:=
 { prog:=X.prog,w:=X.w,K:=X.K,mg:=X.mg,base:=X.base,A:=X.A,N:=Nc,s₀:=s,H₀:=H,env:=compEnvC sc (clB X.env fr) C X.env,outer:=X.stack,stack:=X.stack,ex:=fp,fn:=fun _=>false,calm:=X.calm,pn:=X.pn++pins,xe:=fun _ _=>False }
structure yR(env:Env)(sc:Scope)(fr:List Str):Prop where
 kind:sc.kind=.function
 clos:closureFor sc env=pure (clB env fr)
 cells:(fr.all fun n=>(env.cells.lookup n).isSome)=true
 names:(sc.names.all fun y=>(y.2 != .cell)&&(y.2 != .free||fr.contains y.1)&&(y.2 != .local||sc.names.lookup y.1==some .local))=true
def wP(N Nc:List Str)(caps:List (Option Nat))(env:Env)(sc:Scope)(fr:List Str):Bool:=
 (Nc.zip caps).all fun p=>match p.2 with
  | none=>true
  | some j=>(N[j]?==some p.1)&&(env.kindOf p.1==some .cell)&&(sc.names.lookup p.1==some .free)&&fr.contains p.1
def yW(caps:List (Option Nat))(σ : St):St:=caps.map fun o=>match o with
 | none=>none
 | some j=>(σ[j]?).join
section
variable {X:Cx}{pins:PnL}{σ:St}{H:Hp}{s:Shared}{sc:Scope}{fr Nc:List Str}{fp:List Addr}{C:Addr}
theorem yR.sub{env:Env}(B:yR env sc fr){x:Str}{c:Addr}(h:(clB env fr).lookup x=some c):env.cells.lookup x=some c:=by
 obtain⟨h1,h2⟩:=zcv h;have h3:=List.all_eq_true.mp B.cells x h1;obtain⟨d,hd⟩:=Option.isSome_iff_exists.mp h3;rw[hd] at h2 |-;rw[h2];rfl
theorem yR.free{env:Env}(B:yR env sc fr){x:Str}{k:NameKind}(h:(relabel sc env).names.lookup x=some k)(hk:k=.cell\/k=.free):x∈fr:=by
 obtain⟨k0,h1,h2⟩:=vL h;have h3:=List.all_eq_true.mp B.names _ h1;simp only[Bool.and_eq_true,Bool.or_eq_true,bne_iff_ne,ne_eq,List.contains_iff_mem] at h3;have h4:k0=.free:=by
  rcases h2 with h2|⟨h2,_⟩
  ·subst h2
   rcases hk with z|z
   ·exact absurd z h3.1.1
   ·exact z
  ·exact h2
 rcases h3.1.2 with z|z
 ·exact absurd h4 z
 ·exact z
theorem zey(I:Inv X pins σ H s)(B:yR X.env sc fr)(hf:∀b∈fp,wQ X pins H b)(ho:∀b∈fp,∃o,s.heap.get? b=some o)(hC:s.heap.objs.size<=C):(zO X pins sc fr Nc fp s H C).Ok where
 mod:=I.ok.mod
 kind:=B.kind
 glob:=I.ok.glob
 blt:=I.ok.blt
 above:=hC
 inj:=fun x y c h1 h2=>I.ok.inj x y c (B.sub h1) (B.sub h2)
 has:=fun x h=>by
  have hx:x∈fr:=by
   rcases h with h|h
   ·exact B.free h (.inl rfl)
   ·exact B.free h (.inr rfl)
  exact⟨_,zbu hx⟩
 cab:=fun x c h=>absurd h (by simp)
 hd:=I.ok.hd
 frames:=I.ok.frames
 stk:=.inl rfl
 exf:=fun b hb=>by
  obtain⟨o,e⟩:=ho b hb;exists fun z=>?_,fun x c h=>(hf b hb).2.2.2.2.1 x c (B.sub h);have z':b=C:=z
  have:=aI e
  rw[z'] at this;exact absurd (lt_of_lt_of_le this hC) (lt_irrefl _)
 bs:=I.bs
 bsz:=le_trans I.ok.bsz I.sz
 noex:=fun b o e hb=>by
  rcases (hf b hb).2.2.2.1 with z|z
  ·exact I.ok.noex b o e z
  ·exact absurd (lt_of_lt_of_le (aI (I.ok.bs b o e).1) z) (lt_irrefl _)
 exfs:=fun b hb h=>by
  rcases List.mem_cons.mp (I.stkSub b h) with z|z
  ·exact(hf b hb).2.1 z
  ·exact(hf b hb).2.2.1 z
 funs:=I.stack
 frf:=I.stkFree
theorem Inv.pin_lt(I:Inv X pins σ H s){p:Addr×Obj}(hp:p∈X.pn++pins):p.1<s.heap.objs.size:=aI (I.pin p hp).1
theorem qM{caps:List (Option Nat)}{h':Heap}{D:Addr}{m:Str->Option Value}{t' n0:Nat}(I:Inv X pins σ H s)(B:yR X.env sc fr)(hf:∀b∈fp,wQ X pins H b)(ho:∀b∈fp,∃o,s.heap.get? b=some o)
  (hC:s.heap.objs.size<=C) (hD:s.heap.objs.size<=D) (hDC:D≠C) (keep:∀b o,s.heap.get? b=some o->h'.get? b=some o) (hl:h'.get? D=some { cls:=.type "list",data:=.seq ([]:List Value).toArray n0 }) (hn:h'.Ns C m)
  (hcap:wP X.N Nc caps X.env sc fr=true) (hlen:caps.length=Nc.length) :
  Inv (zO X pins sc fr Nc fp s H C) [] (yW caps σ) (upd H D (.lst [])) { s with heap:=h',toks:=t' }:=by
 have hk:X.env.scope.kind=.function:=I.ok.kind;have fresh:∀a,s.heap.objs.size<=a->H a=none:=fun a ha=>I.hok.fresh ha;exists zey I B hf ho hC,rfl,I.bare,Un.laid keep hD (fresh D hD),⟨m,hn,fun i x v e1 e2 e3=>?_⟩,fun x c h=>?_,?_,fun x c h=>?_,fun p hp=>?_,?_,?_
 ·
  have e2':(caps[i]?).map (fun o=>match o with|none=>none|some j=>(σ[j]?).join)=some (some v):=by
   have:(yW caps σ)[i]?=some (some v):=e2
   unfold yW at this;rw[getElem?_map] at this;exact this
  cases hc:caps[i]? with
  | none=>rw[hc] at e2';cases e2'
  | some o=>
   rw[hc] at e2';cases o with
   | none=>simp at e2'
   | some j=>
    have e4:(σ[j]?).join=some v:=by simpa using e2'
    have e5 : σ[j]?=some (some v):=by
     cases q : σ[j]? with
     | none=>rw[q] at e4;cases e4
     | some w'=>rw[q] at e4;simp at e4;rw[e4]
    have e6:(Nc.zip caps)[i]?=some (x,some j):=by
     rw[List.getElem?_zip_eq_some];exact⟨e1,hc⟩
    have e7:=List.all_eq_true.mp hcap _ (aH e6);simp only[Bool.and_eq_true,beq_iff_eq,List.contains_iff_mem] at e7;obtain⟨⟨⟨a1,a2⟩,a3⟩,a4⟩:=e7;obtain⟨m0,hn0,hl0⟩:=I.loc;obtain⟨u,r,l⟩:=hl0 j x v a1 e5 (.inr (.inl a2));exists u,r,.inr ⟨.inl (vh hk a3 a2),_,zbu a4,?_⟩;rcases l with ⟨z,_⟩|⟨_,c,ec,hcell⟩
    ·rw[a2] at z;cases z
    ·have:(X.env.cells.lookup x).getD 0=c:=by rw[ec];rfl
     rw[this];exact hcell.keeps keep
 ·obtain⟨v,hv⟩:=I.cell x c (B.sub h)
  exact⟨v,hv.keeps keep⟩
 ·show upd H D (.lst []) C=none
  rw[zi (Ne.symm hDC)];exact fresh C hC
 ·obtain⟨v,hv⟩:=I.cell x c (B.sub h)
  have:c≠D:=fun z=>by have:=hv.lt;rw[z] at this;exact absurd (lt_of_lt_of_le this hD) (lt_irrefl _)
  rw[zi this];exact I.freeC x c (B.sub h)
 ·have hp':p∈X.pn++pins:=by simpa using hp
  obtain⟨e,n,ne,nf,d⟩:=I.pin p hp';have hlt:=I.pin_lt hp';exists keep _ _ e,?_,?_,fun z=>?_,d
  ·rw[zi (fun z=>by rw[z] at hlt;exact absurd (lt_of_lt_of_le hlt hD) (lt_irrefl _))];exact n
  ·intro z
   have z':p.1=C:=z;rw[z'] at hlt;exact absurd (lt_of_lt_of_le hlt hC) (lt_irrefl _)
  ·rcases List.mem_cons.mp (I.stkSub p.1 z) with q|q
   ·exact ne q
   ·exact nf q
 ·exact I.hok.laid keep hD ⟨zero_le _,[],n0,.nil,hl⟩
 ·show(yW caps σ).length=Nc.length
  unfold yW;rw[aA,hlen]
theorem v0{pl:PnL}{σ':St}{H':Hp}{s':Shared}(I:Inv X pins σ H s)(hf:∀b∈fp,wQ X pins H b)(J:Inv (zO X pins sc fr Nc fp s H C) pl σ' H' s'):Inv X pins σ H' s':=
 I.call' J.os J.base J.hok J.bare fun b hb=>⟨(hf b hb).2.2.2.1,(hf b hb).2.1,(hf b hb).2.2.2.2.1,(hf b hb).2.2.2.2.2⟩
theorem jn{pl:PnL}{σ' σ2:St}{H':Hp}{s':Shared}{h2:Heap}{t2:Nat}(I:Inv X pins σ H s)(J:Inv (zO X pins sc fr Nc fp s H C) pl σ' H' s')(J2:Inv X pins σ2 H' s')(hs:Heap.SameBut C s'.heap h2):Inv X pins σ2 H' { s' with heap:=h2,toks:=t2 }:=by
 have hC:s.heap.objs.size<=C:=J.ok.above;refine J2.turned (it:=C) (fun b o hb e=>(hs.2 b hb).trans e) J.free ?_ (.inr (le_trans I.sz hC)) (fun x c h z=>?_) fun p hp z=>?_
 ·intro z
  have:=I.lt
  rw[<- z] at this;exact absurd (lt_of_lt_of_le this hC) (lt_irrefl _)
 ·obtain⟨v,hv⟩:=I.cell x c h
  have:=hv.lt
  rw[z] at this;exact absurd (lt_of_lt_of_le this hC) (lt_irrefl _)
 ·have:=I.pin_lt hp
  rw[z] at this;exact absurd (lt_of_lt_of_le this hC) (lt_irrefl _)
def zk8:TT:=fun _ H Q=>Q true H
structure PIf(X:Cx)(ifs:List Expr)(t:TT):Prop where
 run:∀(pins:PnL) (s:Shared) (σ : St) (H:Hp) (Q:Bool->Hp->Prop),Inv X pins σ H s->t σ H Q->
  wpAny (model X.prog X.w) X.A (forIn ifs true fun c r=>if r=true then do let ok <- isTrue c X.env (eval c X.env);pure (ForInStep.yield ok) else pure (ForInStep.yield r)) (TP X pins σ Q) X.xe s
instance {X:Cx}{ifs:List Expr}{t:TT}:CoeFun (PIf X ifs t) (fun _=>∀(pins:PnL) (s:Shared) (σ : St) (H:Hp) (Q:Bool->Hp->Prop),Inv X pins σ H s->t σ H Q->
  wpAny (model X.prog X.w) X.A (forIn ifs true fun c r=>if r=true then do let ok <- isTrue c X.env (eval c X.env);pure (ForInStep.yield ok) else pure (ForInStep.yield r)) (TP X pins σ Q) X.xe s):=⟨PIf.run⟩
theorem xc{X:Cx}:PIf X [] zk8:=⟨fun _ _ _ H _ I h=>wpAny_tests_nil ⟨H,I,h⟩⟩
theorem xq{X:Cx}{c:Expr}{t:TT}(hc:PT X c t):PIf X [c] t:=⟨fun pins s σ H Q I h=>wpAny_tests_one (hc pins s σ H Q I h)⟩
def qR(g:TG)(ow:List Nat):Prop:=
 ∀(v:V) (σ : St) (H:Hp) (Q:St->Hp->Prop),g v σ H Q->g v σ H fun σ2 H2=>Q σ2 H2/\σ2.length=σ.length/\∀i,i∉ow->σ2[i]?=σ[i]?
theorem yj(i:Nat):qR (zZ i) [i]:=fun v σ H Q h=>⟨h,length_set ..,fun j hj=>getElem?_set_ne (fun e=>hj (by simp [e]))⟩
theorem xu{K:Frag}{n:Nat}(i j:Nat):qR (zl0 K n (zcm (zZ i) (zcm (zZ j) zkR))) [i,j]:=by
 rintro v σ H Q ⟨a,xs,e1,e2,e3,v1,r1,e4,v2,r2,e5,e6,q⟩;exists a,xs,e1,e2,e3,v1,r1,e4,v2,r2,e5,e6,q,by rw[length_set,length_set],fun k hk=>?_
 have h1:i≠k:=fun e=>hk (by simp [e])
 have h2:j≠k:=fun e=>hk (by simp [e])
 rw[getElem?_set_ne h2,getElem?_set_ne h1]
variable {prog:Program}{w:World}{A:Around}{R:Result->Shared->Prop}
theorem uq{elt target iter:Expr}{ifs:List Expr}{scope:Scope}{pos:Pos}{it acc:Value}{env:Env}(Ex:VSP)(hE:∀e s,Ex e s->notedBy (model prog w) A env (fun x s'=>R (.error x) s') e s)(I:Nat->Shared->Prop)
  (turn:∀n s,I n s->wpAny (model prog w) A (pyNext it) (fun r s₁=>match r with
   | none=>R (.ok .next) s₁
   | some v=>wpAny (model prog w) A (letOwnedTupleGo target it v) (fun _ s₀=>wpAny (model prog w) A (assign target env v) (fun _ s₂=>
     wpAny (model prog w) A (forIn ifs true fun c r=>if r=true then do let ok <- isTrue c env (eval c env);pure (ForInStep.yield ok) else pure (ForInStep.yield r)) (fun ok s₃=>
      if ok=true then wpAny (model prog w) A (eval elt env) (fun x s₄=>
       wpAny (model prog w) A (call (.builtin "list.append") [acc,x]) (fun _ s₅=>∃m,m<n/\I m s₅) Ex s₄) Ex s₃
      else ∃m,m<n/\I m s₃) Ex s₂) Ex s₀) Ex s₁) Ex s)
  (n:Nat) (h:I n s) :
  codeAny (model prog w) A (.compLoop (.ListComp elt [⟨target,iter,ifs,0⟩] scope pos) 0 it acc env) R s:=by
 refine codeAny_loop rfl I (fun n s hI=>?_) n h;show wpAny _ A ((compTurn (.ListComp elt [⟨target,iter,ifs,0⟩] scope pos) 0 it acc env).onRaise (fun x=>do noteFrame x env;theTreesLotGoes x)) _ _ s
 refine wpAny_noted ?_;rw[compTurn_list];refine zwb (wpAny_standAt (zwb (wpAny_mono (turn n s hI) (fun r s₁ h₁=>?_) hE)));cases r with
 | none=>exact zwp h₁
 | some v=>
  refine zwb (wpAny_mono h₁ (fun _ s₀ h₀=>?_) hE);refine zwb (wpAny_mono h₀ (fun _ s₂ h₂=>zwb (wpAny_mono h₂ (fun ok s₃ h₃=>?_) hE)) hE);cases ok with
  | false=>exact zwp ⟨rfl,h₃⟩
  | true=>
   exact zwb (zwb (wpAny_mono h₃ (fun x s₄ h₄=>zwb (wpAny_mono h₄ (fun _ s₅ h₅=>zwp (zwp ⟨rfl,h₅⟩)) hE)) hE))
def LCr(J:It)(caps:List (Option Nat))(g:TG)(tt:TT)(te:TE)(σ : St)(H1:Hp)(Q:VK)(D:Addr):Prop:=
 ∃W:Nat->Nat->List V->Hp->Prop,(∃m,W 0 m [] (upd H1 D (.lst [])))/\∀i m ys H,W i m ys H->
  (J.stop i H/\Q (.ref D) H)\/
  (J.go i H/\∀x H',J.yld i H x H'->g x (yW caps σ) H' fun σ2 H2=>tt σ2 H2 fun ok H3=>
   (ok=true->te σ2 H3 fun v H4=>H4 D=some (.lst ys)/\ys.length<sizeLine/\∃m',m'<m/\W (i+1) m' (ys++[v]) (upd H4 D (.lst (ys++[v]))))/\
   (ok=false->∃m',m'<m/\W (i+1) m' ys H3))
def tLC(wi:TI)(caps:List (Option Nat))(g:TG)(tt:TT)(te:TE):TE:=fun σ H Q=>wi σ H fun J H1=>∀D,H1 D=none->LCr J caps g tt te σ H1 Q D
variable {caps:List (Option Nat)}{elt tg iter:Expr}{ifs:List Expr}{g:TG}{tt:TT}{te:TE}{ow:List Nat}{pos pos2:Pos}{E:VSP}
theorem zfn{H2:Hp}{it:Addr}{fp:List Addr}{tn:Nat->Heap->Prop}{J:It}{Q:VK}{RR:Value->Addr->Result->Shared->Prop}
  (hc:X.calm=true) (B:yR X.env sc fr) (go:qR g ow) (how:(ow.all fun i=>caps[i]?==some none)=true) (hcap:wP X.N Nc caps X.env sc fr=true) (hlen:caps.length=Nc.length)
  (Ex:Addr->Addr->Value->Shared->Prop) (hb:∀D C,PG ((zO X pins sc fr Nc fp s H2 C).wish (Ex D C)) tg g/\PIf ((zO X pins sc fr Nc fp s H2 C).wish (Ex D C)) ifs tt/\PE ((zO X pins sc fr Nc fp s H2 C).wish (Ex D C)) elt te)
  (I2:Inv X pins σ H2 s) (T:zae X.prog X.w X.K tg J fp it tn) (st2:tn 0 s.heap) (f2:∀b∈fp,wQ X pins H2 b) (h:∀D,H2 D=none->LCr J caps g tt te σ H2 Q D)
  (hE:∀D C e s',Ex D C e s'->notedBy (model X.prog X.w) X.A (compEnvC sc (clB X.env fr) C X.env) (fun x s3=>RR (.ref D) C (.error x) s3) e s')
  (fin:∀(D C:Addr) (σ':St) (H':Hp) (s':Shared),Inv (zO X pins sc fr Nc fp s H2 C) [] σ' H' s'->Q (.ref D) H'->RR (.ref D) C (.ok .next) s') :
  wpAny (model X.prog X.w) X.A (newList []) (fun acc s₃=>wpAny (model X.prog X.w) X.A (newFunctionEnv sc X.env.globals (clB X.env fr) [] X.env.qual none .none (some X.env)) (fun cenv s₄=>
   codeAny (model X.prog X.w) X.A (.compStart (.ListComp elt [⟨tg,iter,ifs,0⟩] sc pos) 0 (.ref it) acc { cenv with scope:=relabel sc X.env }) (RR acc cenv.locals) s₄) E s₃) E s:=by
 have hcell:∀y∈sc.names,y.2≠.cell:=fun y hy=>by
  have h3:=List.all_eq_true.mp B.names _ hy;simp only[Bool.and_eq_true,bne_iff_ne,ne_eq] at h3;exact h3.1.1
 refine wpAny_newObj_type (wpAny_newFunctionEnv hcell (by intro y hy;simp at hy) (fun h₁ hns₁ hsb₁=>?_) B.kind)
 dsimp only at hns₁ hsb₁ |-;generalize hH2:s.heap.push { cls:=.type "list",dict:=none,data:=.seq ([]:List Value).toArray }=H3 at hns₁ hsb₁ |-;have hCs:H3.objs.size=s.heap.objs.size+1:=by rw[<- hH2,Heap.size_push]
 have hDC:s.heap.objs.size≠H3.objs.size:=by rw[hCs];exact ne_of_lt (lt_succ_self _)
 have hC:s.heap.objs.size<=H3.objs.size:=by rw[hCs];exact le_succ _
 have old:∀b o,s.heap.get? b=some o->h₁.get? b=some o:=fun b o e=>
  hsb₁.extBut b o (ne_of_lt (lt_of_lt_of_le (aI e) hC)) (zgp _ (hH2 ▸ zgp _ e))
 have hD:h₁.get? s.heap.objs.size=some { cls:=.type "list",data:=.seq ([]:List Value).toArray }:=hsb₁.extBut _ _ hDC (zgp _ (hH2 ▸ zgs _ rfl));have ho:∀b∈fp,∃o,s.heap.get? b=some o:=fun b hb'=>let ⟨o,e,_⟩:=T.obj 0 _ st2 b hb';⟨o,e⟩
 let CC:Cx:=zO X pins sc fr Nc fp s H2 H3.objs.size
 let xb:Value->Shared->Prop:=Ex s.heap.objs.size H3.objs.size
 have I4:∀t',Inv (CC.wish xb) [] (yW caps σ) (upd H2 s.heap.objs.size (.lst [])) { s with heap:=h₁,toks:=t' }:=fun t'=>
  (qM I2 B f2 ho hC (aF _) hDC old hD hns₁ hcap hlen).wish xb
 have ok:=(I4 0).ok;obtain⟨hbg,hbt,hbe⟩:=hb s.heap.objs.size H3.objs.size;obtain⟨W,⟨m0,w0⟩,turn⟩:=h s.heap.objs.size (I2.hok.fresh (aF _));have stat:∀{H':Hp},(∀b∈fp,H' b=none)->∀b∈fp,wQ (CC.wish xb) [] H' b:=fun hn b hb'=>
  ⟨hn b hb',(ok.exf b hb').1,ok.exfs b hb',.inl hb',(ok.exf b hb').2,fun p hp=>(f2 b hb').2.2.2.2.2 p (by have hp':p∈(X.pn++pins)++[]:=hp;simpa using hp')⟩
 have hfp0:∀b∈fp,upd H2 s.heap.objs.size (.lst []) b=none:=fun b hb'=>by
  obtain⟨o,e⟩:=ho b hb';rw[zi (ne_of_lt (aI e))];exact(f2 b hb').1
 have loop:∀s₃:Shared,s₃={ s with heap:=h₁,toks:=s.toks+([]:List (Str×Value)).length }->
   codeAny (model X.prog X.w) X.A (.compLoop (.ListComp elt [⟨tg,iter,ifs,0⟩] sc pos) 0 (.ref it) (.ref s.heap.objs.size) (compEnvC sc (clB X.env fr) H3.objs.size X.env)) (RR (.ref s.heap.objs.size) H3.objs.size) s₃:=by
  rintro s₃ rfl;refine uq xb (hE _ _) (fun n s'=>∃i σ' H' ys,Inv (CC.wish xb) [] σ' H' s'/\tn i s'.heap/\(∀b∈fp,H' b=none)/\W i n ys H'/\
   (∀(k:Nat) (v:V),(yW caps σ)[k]?=some (some v)->σ'[k]?=some (some v))) ?_ m0
   ⟨0,_,_,[],I4 _,T.keep _ _ _ st2 (fun b _ o e=>old b o e),hfp0,w0,fun _ _ e=>e⟩
  rintro n s3 ⟨i,σ3,H4,ys,I3,st3,fr3,w3,wk3⟩;have I3':Inv (CC.wish xb) [] (yW caps σ) H4 s3:=I3.weak (by rw[I3.len];exact(I4 0).len) wk3
  rcases turn i n ys H4 w3 with ⟨stop,qn⟩|⟨gg,step⟩
  ·refine thn (T.done (CC.wish xb) rfl rfl rfl hc i [] s3 _ H4 xb I3' (stat fr3) st3 stop) fun r s4 ⟨hr,I4'⟩=>?_
   subst hr;exact fin _ _ _ _ _ I4'.unwish qn
  ·refine thn (T.item (CC.wish xb) rfl rfl rfl hc i [] s3 _ H4 xb I3' (stat fr3) st3 gg) fun r s4 ⟨u,hr,h4⟩=>?_
   subst hr;refine thn h4 fun _ s5 ⟨x,H5,I5,r5,y5,st5,fr5⟩=>?_;have I5':=I5.pinned (stat fr5) (T.obj _ _ st5);refine thn (hbg _ s5 _ H5 x u _ I5' r5 (go _ _ _ _ (step x H5 y5))) fun _ s6 ⟨σ6,H6,I6,q6,l6,k6⟩=>?_;have wk6:∀(k:Nat) (v:V),(yW caps σ)[k]?=some (some v)->σ6[k]?=some (some v):=fun k v e=>by
    rw[k6 k fun hk=>?_]
    ·exact e
    ·have h1:=List.all_eq_true.mp how k hk
     have h2:caps[k]?=some none:=by simpa using h1
     unfold yW at e;rw[getElem?_map,h2] at e;cases e
   refine thn (hbt _ s6 σ6 H6 _ I6 q6) fun ok s7 ⟨H7,I7,q7⟩=>?_;have again:∀{H8:Hp}{s8:Shared}{ys':List V},Inv (CC.wish xb) ([]++uw fp s5.heap) σ6 H8 s8->(∃m',m'<n/\W (i+1) m' ys' H8)->
     ∃m,m<n/\∃i σ' H' ys,Inv (CC.wish xb) [] σ' H' s8/\tn i s8.heap/\(∀b∈fp,H' b=none)/\W i m ys H'/\(∀(k:Nat) (v:V),(yW caps σ)[k]?=some (some v)->σ'[k]?=some (some v)):=fun {H8 s8 ys'} I8 ⟨m',hm,w8⟩=>by
    exists m',hm,i+1,σ6,H8,ys',I8.unpinned,T.keep _ _ _ st5 fun b hb' o e=>(I8.pin (b,o) (mem_append_right _ (mem_append_right _ (xn hb' e)))).1,fun b hb'=>?_,w8,wk6;obtain⟨o,e,d⟩:=T.obj _ _ st5 b hb';exact(I8.pin (b,o) (mem_append_right _ (mem_append_right _ (xn hb' e)))).2.1
   cases ok with
   | false=>
    rw[aJ zft];exact again I7 (q7.2 rfl)
   | true=>
    rw[aK rfl];refine thn (hbe _ s7 σ6 H7 _ I7 (q7.1 rfl)) fun uv s8 ⟨v,H8,I8,r8,hD8,hz,q8⟩=>?_;refine thn (zU (X:=CC.wish xb) _ s8 σ6 H8 (.ref s.heap.objs.size) [v] _ [uv] (fun _ H'=>H'=upd H8 s.heap.objs.size (.lst (ys++[v]))) I8 rfl (.cons r8 .nil) ⟨_,ys,v,rfl,rfl,hD8,hz,rfl⟩) fun _ s9 ⟨_,H9,I9,_,e9⟩=>?_;subst e9;exact again I9 q8
 exact codeAny_compStart_list (loop _ rfl) (T.self _ 0 _ _ _ (T.keep _ _ _ st2 (fun b _ o e=>old b o e)) (loop _ rfl))
theorem zcu{H2:Hp}{it:Addr}{fp:List Addr}{tn:Nat->Heap->Prop}{J:It}{Q:VK}{RR:Value->Addr->Result->Shared->Prop}
  (hc:X.calm=true) (B:yR X.env sc fr) (go:qR g ow) (how:(ow.all fun i=>caps[i]?==some none)=true) (hcap:wP X.N Nc caps X.env sc fr=true) (hlen:caps.length=Nc.length)
  (hb:∀(pins:PnL) (fp:List Addr) (s:Shared) (H:Hp) (C:Addr),PG (zO X pins sc fr Nc fp s H C) tg g/\PIf (zO X pins sc fr Nc fp s H C) ifs tt/\PE (zO X pins sc fr Nc fp s H C) elt te)
  (I2:Inv X pins σ H2 s) (T:zae X.prog X.w X.K tg J fp it tn) (st2:tn 0 s.heap) (f2:∀b∈fp,wQ X pins H2 b) (h:∀D,H2 D=none->LCr J caps g tt te σ H2 Q D)
  (fin:∀(D C:Addr) (σ':St) (H':Hp) (s':Shared),Inv (zO X pins sc fr Nc fp s H2 C) [] σ' H' s'->Q (.ref D) H'->RR (.ref D) C (.ok .next) s') :
  wpAny (model X.prog X.w) X.A (newList []) (fun acc s₃=>wpAny (model X.prog X.w) X.A (newFunctionEnv sc X.env.globals (clB X.env fr) [] X.env.qual none .none (some X.env)) (fun cenv s₄=>
   codeAny (model X.prog X.w) X.A (.compStart (.ListComp elt [⟨tg,iter,ifs,0⟩] sc pos) 0 (.ref it) acc { cenv with scope:=relabel sc X.env }) (RR acc cenv.locals) s₄) E s₃) E s:=
 zfn hc B go how hcap hlen (fun _ _ _ _=>False) (fun _ C=>hb pins fp s H2 C) I2 T st2 f2 h (fun _ _ _ _ z=>z.elim) fin
theorem yR.loc{env:Env}(B:yR env sc fr):∀x∈sc.names,x.2=.local->sc.names.lookup x.1=some .local:=fun y hy e=>by
 have h3:=List.all_eq_true.mp B.names _ hy;simp only[Bool.and_eq_true,Bool.or_eq_true,bne_iff_ne,ne_eq,beq_iff_eq] at h3;rcases h3.2 with z|z
 ·exact absurd e z
 ·exact z
theorem xQ{wi:TI}(fr Nc:List Str)(caps:List (Option Nat))(hc:X.calm=true)(B:yR X.env sc fr)(hi:PI X tg iter wi)(go:qR g ow)(how:(ow.all fun i=>caps[i]?==some none)=true)
  (hcap:wP X.N Nc caps X.env sc fr=true) (hlen:caps.length=Nc.length)
  (hb:∀(pins:PnL) (fp:List Addr) (s:Shared) (H:Hp) (C:Addr),PG (zO X pins sc fr Nc fp s H C) tg g/\PIf (zO X pins sc fr Nc fp s H C) ifs tt/\PE (zO X pins sc fr Nc fp s H C) elt te)
  (hs:∀x,foldedSetIterable iter X.env x=pure x:=by intro _;rfl):PE X (.ListComp elt [⟨tg,iter,ifs,0⟩] sc pos) (tLC wi caps g tt te):=by
 exists ?_;intro pins s σ H Q I h;rw[eval_ListComp];refine wpAny_comprehension_free (use:=none) rfl hs B.clos B.kind B.loc (thn (hi pins s σ H _ I h) fun v s1 h1=>thn h1 fun itv s2 h2=>?_);obtain⟨it,fp,tn,J,H2,e,I2,T,st2,f2,q⟩:=h2;subst e;refine zcu (RR:=fun acc C=>compPost (model X.prog X.w) X.A X.xe none (EP X pins σ Q) acc C) hc B go how hcap hlen hb I2 T st2 f2 q ?_;intro D C σ' H' s' J' qq;obtain⟨m,hn,_⟩:=J'.loc;exact⟨m,hn,fun h' hs'=>⟨.ref D,H',jn I2 J' (v0 I2 f2 J') hs',rfl,qq⟩⟩
theorem qk{wi:TI}{i:Nat}{x:Str}{pos':Pos}(fr Nc:List Str)(caps:List (Option Nat))(hN:X.N.Nodup)(hix:X.N[i]?=some x)(hx:Loc X.env.scope x)(hc:X.calm=true)(B:yR X.env sc fr)(hi:PI X tg iter wi)(go:qR g ow)(how:(ow.all fun i=>caps[i]?==some none)=true)
  (hcap:wP X.N Nc caps X.env sc fr=true) (hlen:caps.length=Nc.length)
  (hb:∀(pins:PnL) (fp:List Addr) (s:Shared) (H:Hp) (C:Addr),PG (zO X pins sc fr Nc fp s H C) tg g/\PIf (zO X pins sc fr Nc fp s H C) ifs tt/\PE (zO X pins sc fr Nc fp s H C) elt te)
  (hsw:swapsWith (.ListComp elt [⟨tg,iter,ifs,0⟩] sc pos) (some (.Name x pos')) pos2.line X.env=pure true:=by rfl)
  (hs:∀x,foldedSetIterable iter X.env x=pure x:=by intro _;rfl) (hf:X.fn x=true\/X.env.scope.names.lookup x=some .local:=by first|exact .inl rfl|exact .inr rfl|assumption) :
  PS X (.Assign [.Name x pos'] (.ListComp elt [⟨tg,iter,ifs,0⟩] sc pos) pos2) (zhQ (tLC wi caps g tt te) (zZ i)):=by
 exists ?_;intro pins s σ H D0 I h;rw[exec_Assign_Name_used _ _ _ _ hsw];refine zwb (wpAny_standAt (zwb ?_));show wpAny _ X.A (do let _ <- comprehension (.ListComp elt [⟨tg,iter,ifs,0⟩] sc pos) sc X.env _ (newList []) false (eval iter X.env) (some (assign (.Name x pos') X.env))) _ _ s
 refine zwb (wpAny_mono (wpAny_comprehension_free (use:=some (assign (.Name x pos') X.env)) (Q:=fun _ s'=>SP X pins D0 .next s') rfl hs B.clos B.kind B.loc
  (thn (hi pins s σ H _ I h) fun v s1 h1=>thn h1 fun itv s2 h2=>?_)) (fun _ s' hq=>zwp (zwp hq)) fun _ _ e=>e)
 obtain⟨it,fp,tn,J,H2,e,I2,T,st2,f2,q⟩:=h2;subst e;refine zcu (Q:=fun v H1=>zZ i v σ H1 D0.nx) (RR:=fun acc C=>compPost (model X.prog X.w) X.A X.xe (some (assign (.Name x pos') X.env)) (fun _ s'=>SP X pins D0 .next s') acc C) hc B go how hcap hlen hb I2 T st2 f2 q ?_;intro D C σ' H' s' J' qq;have I':=v0 I2 f2 J';obtain⟨m,hn,_⟩:=J'.loc;have hC:s2.heap.objs.size<=C:=J'.ok.above;show wpAny _ X.A (assign (.Name x pos') X.env (.ref D)) _ _ s';refine wpAny_assign_Name (zal (v:=.ref D) I' hN hix hx rfl (fun s'' I'' ⟨a,sb,ha⟩=>?_) hf);have haC:C≠a:=by
  rintro rfl;rcases ha with z|z
  ·have:=I2.lt
   rw[<- z] at this;exact absurd (lt_of_lt_of_le this hC) (lt_irrefl _)
  ·obtain⟨v,hv⟩:=I2.cell x C z
   exact absurd (lt_of_lt_of_le hv.lt hC) (lt_irrefl _)
 have hCH:H' C=none:=J'.free;exists m,hn.sameBut sb haC,fun h' hs'=>⟨_,H',?_,qq⟩;refine I''.turned (it:=C) (t':=s''.toks) (fun b o hb e=>(hs'.2 b hb).trans e) hCH ?_ (.inr (le_trans I2.sz hC)) (fun x c h z=>?_) fun p hp z=>?_
 ·intro z
  have:=I2.lt
  rw[<- z] at this;exact absurd (lt_of_lt_of_le this hC) (lt_irrefl _)
 ·obtain⟨v,hv⟩:=I2.cell x c h
  have:=hv.lt
  rw[z] at this;exact absurd (lt_of_lt_of_le this hC) (lt_irrefl _)
 ·have:=I2.pin_lt hp
  rw[z] at this;exact absurd (lt_of_lt_of_le this hC) (lt_irrefl _)
def Its(z:Str):It:=⟨fun i _=>i<z.cps.size,fun i H x H'=>H'=H/\∃c,z.cps[i]?=some c/\x=.str ⟨#[c]⟩,fun i _=>z.cps.size<=i⟩
theorem zfG{P:Program}{w:World}{K:Frag}{tg:Expr}(it:Addr)(z:Str)(t:Tok):zae P w K tg (Its z) [it] it (fun i h=>h.IsStrIter it (strIterType z) z t i) where
 mem:=by simp
 obj:=fun i h st b hb=>by
  have e:b=it:=by simpa using hb
  subst e;obtain⟨o,e,_,d⟩:=st;exact⟨o,e,fun v q=>by rw[d] at q;cases q⟩
 keep:=fun i h h' st k=>by
  obtain⟨o,e,r⟩:=st;exact⟨o,k it (by simp) o e,r⟩
 item:=by
  intro X hP hw hK hc i pins s σ H E I hf st hg;subst hP hw hK;obtain⟨f0,f1,f2,f3,f4,f5⟩:=hf it (by simp)
  have hi:i<z.cps.size:=hg;have hx:z.cps[i]?=some z.cps[i]:=by simp [hi]
  have fin:∀h',h'.IsStrIter it (strIterType z) z t (i+1)->Heap.SameBut it s.heap h'->
    ∃u,some (Value.str ⟨#[z.cps[i]]⟩ s.toks)=some u/\wpAny (model X.prog X.w) X.A (letOwnedTupleGo tg (.ref it) u) (fun _ s2=>∃x H',Inv X pins σ H' s2/\zW x u/\(Its z).yld i H x H'/\s2.heap.IsStrIter it (strIterType z) z t (i+1)/\∀b∈[it],H' b=none) E { s with heap:=h',toks:=s.toks+1 }:=fun h' hit hs=>by
   have I1:Inv X pins σ H { s with heap:=h',toks:=s.toks+1 }:=I.turned (fun b o hb e=>(hs.2 b hb).trans e) f0 f1 f3 f4 f5
   obtain⟨o,e1,e2,e3⟩:=id hit;exists _,rfl,zcl (s:={ s with heap:=h',toks:=s.toks+1 }) e1 e2 e3 ?_ ⟨.str ⟨#[z.cps[i]]⟩,H,I1,⟨_,rfl⟩,⟨rfl,_,hx,rfl⟩,hit,fun b hb=>(hf b hb).1⟩
   unfold strIterType;split <;> decide
  cases ha:z.cps.all (·<128)
  ·have e:strIterType z="str_iterator":=by simp [strIterType,ha]
   rw[e] at st;exact wpAny_pyNext_wide_item st hx fun h' a b=>fin h' (e.symm ▸ a) b
  ·have e:strIterType z="str_ascii_iterator":=by simp [strIterType,ha]
   rw[e] at st;exact wpAny_pyNext_ascii_item st hx fun h' a b=>fin h' (e.symm ▸ a) b
 done:=by
  intro X hP hw hK hc i pins s σ H E I hf st hg;subst hP hw hK;obtain⟨f0,f1,f2,f3,f4,f5⟩:=hf it (by simp)
  have hi:z.cps.size<=i:=hg;have hx:z.cps[i]?=none:=by simp [hi]
  have fin:∀h',Heap.ExtBut it s.heap h'->(none:Option Value)=none/\Inv X pins σ H { s with heap:=h' }:=fun h' eb=>⟨rfl,I.turned (t':=s.toks) (fun b o hb e=>eb b o hb e) f0 f1 f3 f4 f5⟩
  cases ha:z.cps.all (·<128)
  ·have e:strIterType z="str_iterator":=by simp [strIterType,ha]
   rw[e] at st;exact wpAny_pyNext_wide_end (I.ok.hd hc) st hx fin
  ·have e:strIterType z="str_ascii_iterator":=by simp [strIterType,ha]
   rw[e] at st;exact wpAny_pyNext_ascii_end (I.ok.hd hc) st hx fin
 self:=fun A i s Q E st h=>by
  cases ha:z.cps.all (·<128)
  ·have e:strIterType z="str_iterator":=by simp [strIterType,ha]
   rw[e] at st;exact wpAny_pyIter_striter_wide st h
  ·have e:strIterType z="str_ascii_iterator":=by simp [strIterType,ha]
   rw[e] at st;exact wpAny_pyIter_striter_ascii st h
def zmO(tl:TE):TI:=fun σ H R=>tl σ H fun x H1=>∃z,x=.str z/\R (Its z) H1
theorem zkj{l:Expr}{tl:TE}(hl:PE X l tl):PI X tg l (zmO tl):=by
 exists ?_;intro pins s σ H R I h;refine thn (hl pins s σ H _ I h) fun v s1 ⟨x,H1,I1,r1,q1⟩=>?_;obtain⟨z,e,q⟩:=q1;subst e;obtain⟨t,rfl⟩:=r1;refine wpAny_pyIter_strU ?_;exists s1.heap.objs.size,[s1.heap.objs.size],_,_,H1,rfl,I1.kept (t':=s1.toks) fun b o e=>zgp _ e,zfG _ z t,⟨_,zgs _ rfl,rfl,rfl⟩,fun b hb=>?_,q;have e:b=s1.heap.objs.size:=by simpa using hb
 subst e;exact I1.fpOk (aF _) (I1.hok.fresh (aF _))
inductive zmtJ(x:V)(lo:Option Int)(hi:Option Int)(H:Hp)(Q:VK):Prop|mk(z:_):x=.str z->z.length<=sizeLine->(Q (.str (Txt.slice z lo hi)) H)->zmtJ x lo hi H Q
def zmt:V->Option Int->Option Int->Hp->VK->Prop:=fun x lo hi H Q=>zmtJ x lo hi H Q
theorem ur:SlR X zmt:=by
 intro pins s σ H x v vl vu lo hi sl Q I rx hs pl pu h;obtain⟨z,rfl,hz,q⟩:=h;obtain⟨t,rfl⟩:=rx;exists "str",_,F.slot_str_getitem.lookup,typeIs_str _ _ _,?_;have fin:∀t' k,EP X pins σ Q (.str (Txt.slice z lo hi) t') { s with toks:=k }:=fun t' k=>⟨.str (Txt.slice z lo hi),H,I.tok k,⟨t',rfl⟩,q⟩
 cases pl with
 | none=>
  cases pu with
  | none=>exact wpAny_getItem_str_slice (l:=none) (u:=none) (st:=none) hs rfl (post_val_or_str ⟨le_trans (Txt.slice_le z _ _) hz,fin⟩)
  | int j tj=>exact wpAny_getItem_str_slice (l:=none) (u:=some (j,tj)) (st:=none) hs rfl (post_val_or_str ⟨le_trans (Txt.slice_le z _ _) hz,fin⟩)
 | int i ti=>
  cases pu with
  | none=>exact wpAny_getItem_str_slice (l:=some (i,ti)) (u:=none) (st:=none) hs rfl (post_val_or_str ⟨le_trans (Txt.slice_le z _ _) hz,fin⟩)
  | int j tj=>exact wpAny_getItem_str_slice (l:=some (i,ti)) (u:=some (j,tj)) (st:=none) hs rfl (post_val_or_str ⟨le_trans (Txt.slice_le z _ _) hz,fin⟩)
theorem zfw(hc:X.calm=true):xh X (.builtin "all") (fun xs H Q=>∃(p:Addr) (bs:List Bool),xs=[.ref p]/\SqL X.K H p (bs.map V.bl)/\Q (.bl (bs.all id)) H):=by
 intro pins s σ H xs us Q I r h;obtain⟨p,bs,rfl,hS,q⟩:=h;obtain⟨u,rfl,ru⟩:=wS r;cases ru;obtain⟨its,rv,hp,hz⟩:=I.list hS;have hlen:its.length=bs.length:=by rw[<- rv.length,aA]
 have hne:p≠s.heap.objs.size:=ne_of_lt (by obtain⟨_,e,_⟩:=hp.isList;exact aI e)
 refine call_all_walk (wpAny_pyIter_list hp.isList ?_);exists s.heap.objs.size,_,_,_,_,_,fun i=>bs.getD i false,rfl,Walks.list (A:=X.A.in1) (I.ok.hd hc) s.heap.objs.size p hne its.toArray,⟨⟨_,zgs _ rfl,rfl,rfl⟩,hp.isList.push _⟩,?_,fun h' tk k=>?_
 ·intro i v s' Q' E' hP hQ
  have hv:its[i]?=some v:=by simpa using hP
  have hi:i<bs.length:=by rw[<- hlen];exact(List.getElem?_eq_some_iff.mp hv).1
  obtain⟨u',e1,e2⟩:=rv.get (i:=i) (x:=V.bl bs[i]) (by rw[getElem?_map,aB hi];rfl)
  rw[hv] at e1;cases e1;cases e2;refine wpAny_truthy_bool ?_
  have:bs.getD i false=bs[i]:=by rw[getD_eq_getElem?_getD,aB hi];rfl
  rw[<- this];exact hQ
 ·have e:((List.range its.toArray.size).all fun i=>bs.getD i false)=bs.all id:=by
   rw[size_toArray,hlen,Bool.eq_iff_iff,all_eq_true,all_eq_true];constructor
   ·intro hh b hb
    obtain⟨i,hi,rfl⟩:=List.getElem_of_mem hb
    have:=hh i (List.mem_range.mpr hi)
    rw[getD_eq_getElem?_getD,aB hi] at this;exact this
   ·intro hh i hi
    have hi':=List.mem_range.mp hi;rw[getD_eq_getElem?_getD,aB hi'];exact hh _ (getElem_mem hi')
  rw[e];exact⟨.bl (bs.all id),H,I.kept (h':=h') (t':=tk) (fun b o q=>k b o (fun hm=>by
   have e:b=s.heap.objs.size:=by simpa using hm
   exact absurd (aI q) (by rw[e];exact lt_irrefl _)) (zgp _ q)),rfl,q⟩
theorem zeU:OpR X (compareOp .IsNot) (fun x y H Q=>∃a b,x=.bl a/\y=.bl b/\Q (.bl (!decide (a=b))) H):=by
 intro pins s σ H x y v u Q I rx ry h;obtain⟨a,b,rfl,rfl,q⟩:=h;cases rx;cases ry;have e:wpAny (model X.prog X.w) X.A (pure (Value.bool (!(Value.bool a==Value.bool b)))) (EP X pins σ Q) X.xe s:=zwp ⟨.bl _,H,I,by cases a <;> cases b <;> rfl,q⟩
 exact e
theorem wJ:xh X (.builtin "isinstance") (fun xs H Q=>∃x T t b,xs=[x,.ty T]/\uh X.K H x t/\kitOne X.K t (.type T)=some b/\Q (.bl b) H):=by
 intro pins s σ H xs us Q I r h;obtain⟨x,T,t,b,rfl,ty,e,q⟩:=h;obtain⟨u,w',rfl,ru,rw'⟩:=jR r;cases rw';exact zfb I ru ty e fun tk=>⟨.bl b,H,I.tok tk,rfl,q⟩
def wB:Expr->Bool
 | .Starred ..=>true
 | _=>false
theorem yC{e:Expr}{es:List Expr}{env:Env}(h:wB e=false):starEach (e::es) env=(false,eval e env)::starEach es env:=by
 cases e <;> first|rfl|cases h
theorem xA{env:Env}{pos:Pos}:∀{es:List Expr},es.any wB=false->(backTo pos (starEach es env)).any (·.1)=false
 | [],_=>rfl
 | e::es,h=>by
  rw[any_cons,Bool.or_eq_false_iff] at h;rw[yC h.1];show(false||(backTo pos (starEach es env)).any (·.1))=false
  rw[xA h.2];rfl
end
section
variable {X:Cx}{CX:CXT}{k:Nat}{f C:Addr}{fd:FuncData}{ps:List Str}{sp:Sp}{dvs:List V}{ds:List Value}{E:XK}{x m:Str}{p pos apos:Pos}{e o:Expr}{es:List Expr}{te ta:TE}{t:TA}{id T:String}{r:List V->Hp->VK->Prop}
theorem ac(ha:PE X e te)(hr:PA X es t)(h:wB e=false:=by rfl):PA X (e::es) (zdX te t):=zio ha hr (yC h)
theorem cB(hc:xh X (.builtin id) r)(hm:X.mg x=none)(hv:bootBuiltins x=some (.builtin id))(ha:PA X (e::es) t)(hg:Gl X x:=by rfl)(hn:x≠"__name__":=by decide)(hdb:(x==("__debug__" : Str))=false:=by decide)
  (h1:wB e=false:=by rfl) (h2:es.any wB=false:=by rfl):PE X (.Call (.Name x p) (e::es) [] pos) (tCB r t):=zgA hc hg hm hv ha hn hdb (yC h1) (xA h2)
theorem cTy(hc:xh X (.type T) r)(hm:X.mg x=none)(hv:bootBuiltins x=some (.type T))(ha:PA X (e::es) t)(hg:Gl X x:=by rfl)(hn:x≠"__name__":=by decide)(hdb:(x==("__debug__" : Str))=false:=by decide)
  (h1:wB e=false:=by rfl) (h2:es.any wB=false:=by rfl):PE X (.Call (.Name x p) (e::es) [] pos) (tCB r t):=zeR hc hg hm hv ha hn hdb (yC h1) (xA h2)
structure zG(P:Program)(w:World)(K:Frag)(mg:Str->Option Value)(base:Heap)(k:Nat)(x:Str)(f:Addr)(fd:FuncData)(ps:List Str)(sp:Sp):Prop where
 ok:zC P w K mg base CX0 k f fd ps sp
 mg:mg x=some (.ref f)
 kp:keepIn K (.ref f)=true
 bd:z0 K fd ps []
theorem cF(c:zG X.prog X.w X.K X.mg X.base k x f fd ps sp)(hr:yn k X.A)(ha:PA X (e::es) t)(hg:Gl X x:=by rfl)(hdb:(x==("__debug__" : Str))=false:=by decide)
  (h1:wB e=false:=by rfl) (h2:es.any wB=false:=by rfl):PE X (.Call (.Name x p) (e::es) [] pos) (jV sp [] E0 t):=
 zef c.ok hr hg c.mg c.kp c.bd .nil yi ha hdb (yC h1) (xA h2)
end
end L2
namespace L2
open PySem PyProof.Rows
theorem jA(K:Frag):kitOne K (.type "NoneType") (.type "str")=some false:=by kernel_rfl
theorem zdu(K:Frag):kitOne K (.type "int") (.type "str")=some false:=by kernel_rfl
theorem zcf(K:Frag):kitOne K (.type "int") (.type "bool")=some false:=by kernel_rfl
theorem zdv(K:Frag):kitOne K (.type "int") (.type "int")=some true:=by kernel_rfl
theorem zch(K:Frag):kitOne K (.type "bool") (.type "str")=some false:=by kernel_rfl
theorem zbq(K:Frag):kitOne K (.type "bool") (.type "bool")=some true:=by kernel_rfl
theorem zdt(K:Frag):kitOne K (.type "str") (.type "str")=some true:=by kernel_rfl
theorem zce(K:Frag):kitOne K (.type "list") (.type "str")=some false:=by kernel_rfl
theorem zbp(K:Frag):kitOne K (.type "list") (.type "list")=some true:=by kernel_rfl
theorem zbo(K:Frag):kitOne K (.type "tuple") (.type "str")=some false:=by kernel_rfl
theorem zcg(K:Frag):kitOne K (.type "dict") (.type "str")=some false:=by kernel_rfl
end L2
namespace L2
open PySem PySem.Spec PyProof.Rows
inductive Dt where
 | non|bl (b:Bool)|int (i:Int)|str (z:Str)|tup (ds:List Dt)|lst (ds:List Dt)
def uZ:V->Dt->Prop
 | .non,.non=>True
 | .bl a,.bl b=>a=b
 | .int a,.int b=>a=b
 | .str a,.str b=>a=b
 | _,_=>False
def zw(K:Frag)(ok:Addr->Prop)(H:Hp):Nat->V->Dt->Prop
 | 0,x,d=>uZ x d
 | n+1,x,d=>uZ x d\/(∃a xs ds,x=.ref a/\d=.tup ds/\SqT K H a xs/\Paired (zw K ok H n) xs ds)\/(∃a xs ds,x=.ref a/\d=.lst ds/\ok a/\H a=some (.lst xs)/\Paired (zw K ok H n) xs ds)
section
variable {K:Frag}{ok ok':Addr->Prop}{H H':Hp}
theorem zw.flat{n:Nat}{x:V}{d:Dt}(h:uZ x d):zw K ok H n x d:=by
 cases n with
 | zero=>exact h
 | succ n=>exact .inl h
theorem zw.int{n:Nat}{i:Int}:zw K ok H n (.int i) (.int i):=.flat rfl
theorem zw.str{n:Nat}{z:Str}:zw K ok H n (.str z) (.str z):=.flat rfl
theorem zw.bl{n:Nat}{b:Bool}:zw K ok H n (.bl b) (.bl b):=.flat rfl
theorem zw.tup{n:Nat}{a:Addr}{xs:List V}{ds:List Dt}(h:SqT K H a xs)(r:Paired (zw K ok H n) xs ds):zw K ok H (n+1) (.ref a) (.tup ds):=.inr (.inl ⟨a,xs,ds,rfl,rfl,h,r⟩)
theorem zw.lst{n:Nat}{a:Addr}{xs:List V}{ds:List Dt}(o:ok a)(h:H a=some (.lst xs))(r:Paired (zw K ok H n) xs ds):zw K ok H (n+1) (.ref a) (.lst ds):=.inr (.inr ⟨a,xs,ds,rfl,rfl,o,h,r⟩)
theorem zw.frame(hT:∀a xs,SqT K H a xs->SqT K H' a xs)(hL:∀a xs,ok a->H a=some (.lst xs)->ok' a/\H' a=some (.lst xs)):∀{n:Nat}{x:V}{d:Dt},zw K ok H n x d->zw K ok' H' n x d
 | 0,_,_,h=>h
 | n+1,x,d,h=>by
  rcases h with h|⟨a,xs,ds,e1,e2,h,r⟩|⟨a,xs,ds,e1,e2,o,h,r⟩
  ·exact .inl h
  ·exact .inr (.inl ⟨a,xs,ds,e1,e2,hT a xs h,zr (fun _ _ z=>zw.frame hT hL z) r⟩)
  ·exact .inr (.inr ⟨a,xs,ds,e1,e2,(hL a xs o h).1,(hL a xs o h).2,zr (fun _ _ z=>zw.frame hT hL z) r⟩)
theorem zn.sqT{a:Addr}{xs:List V}(e:zn H H')(h:SqT K H a xs):SqT K H' a xs:=by
 rcases h with (h|⟨o,h⟩)|h
 ·exact .inl (.inl (e _ _ h))
 ·exact .inl (.inr ⟨o,e _ _ h⟩)
 ·exact .inr h
theorem zw.same{n:Nat}{x:V}{d:Dt}(e:zn H H')(h:zw K ok H n x d):zw K ok H' n x d:=h.frame (fun _ _ z=>e.sqT z) fun _ _ o z=>⟨o,e _ _ z⟩
theorem Paired.get{α β : Type}{F : α->β->Prop}:∀{l₁:List α}{l₂:List β}{i:Nat}{a : α},Paired F l₁ l₂->l₁[i]?=some a->∃b,l₂[i]?=some b/\F a b
 | _,_,_,_,.nil,e=>by simp at e
 | _,_,0,_,.cons r _,e=>by simp at e;subst e;exact⟨_,rfl,r⟩
 | _,_,i+1,a,.cons _ t,e=>by
  obtain⟨b,h1,h2⟩:=Paired.get (i:=i) (a:=a) t (by simpa using e)
  exact⟨b,by simpa using h1,h2⟩
variable {X:Cx}{pins:PnL}{σ:St}{s:Shared}
theorem zaJ{A:Around}{x y:V}{d:Dt}{u v:Value}(hx:uZ x d)(hy:uZ y d)(ru:zW x u)(rv:zW y v):SeqAt.EqAt A s u v true:=by
 cases d with
 | non=>
  cases x <;> try exact hx.elim
  cases y <;> try exact hy.elim
  cases ru;cases rv;exact SeqAt.EqAt.same _
 | bl b=>
  cases x <;> try exact hx.elim
  cases y <;> try exact hy.elim
  rename_i a c;obtain rfl:a=b:=hx;obtain rfl:c=a:=hy;cases ru;cases rv;exact SeqAt.EqAt.same _
 | int b=>
  cases x <;> try exact hx.elim
  cases y <;> try exact hy.elim
  rename_i a c;obtain rfl:a=b:=hx;obtain rfl:c=a:=hy;obtain⟨t,rfl⟩:=ru;obtain⟨t',rfl⟩:=rv
  have:=SeqAt.EqAt.int_int (A:=A) (s:=s) c t c t'
  simpa using this
 | str b=>
  cases x <;> try exact hx.elim
  cases y <;> try exact hy.elim
  rename_i a c;obtain rfl:a=b:=hx;obtain rfl:c=a:=hy;obtain⟨t,rfl⟩:=ru;obtain⟨t',rfl⟩:=rv
  have:=SeqAt.EqAt.str_str (A:=A) (s:=s) c t c t'
  simpa using this
 | tup ds=>cases x <;> exact hx.elim
 | lst ds=>cases x <;> exact hx.elim
theorem qG{a:Addr}{d:Dt}(h:uZ (.ref a) d):False:=by cases d <;> exact h
theorem uX(n:Nat):((List.range n).all fun _=>true)=true:=by rw[all_eq_true];intro _ _;rfl
theorem vY(I:Inv X pins σ H s):∀(n:Nat) {A:Around}{x y:V}{d:Dt}{u v:Value},zw X.K ok H n x d->zw X.K ok' H n y d->zW x u->zW y v->A.units+n<cLine->SeqAt.EqAt A s u v true
 | 0,A,x,y,d,u,v,hx,hy,ru,rv,_=>zaJ hx hy ru rv
 | n+1,A,x,y,d,u,v,hx,hy,ru,rv,hu=>by
  have hin:A.in1.units+n<cLine:=by show A.units+1+n<cLine;omega
  rcases hx with hx|⟨a,xs,ds,rfl,rfl,hx,r⟩|⟨a,xs,ds,rfl,rfl,_,hx,r⟩
  ·rcases hy with hy|⟨b,ys,es,rfl,rfl,hy,q⟩|⟨b,ys,es,rfl,rfl,_,hy,q⟩
   ·exact zaJ hx hy ru rv
   ·cases x <;> exact hx.elim
   ·cases x <;> exact hx.elim
  ·rcases hy with hy|⟨b,ys,es,rfl,e2,hy,q⟩|⟨b,ys,es,rfl,e2,_,hy,q⟩
   ·cases y <;> exact hy.elim
   ·cases e2
    cases ru;cases rv;by_cases hab:a=b
    ·subst hab;exact SeqAt.EqAt.same _
    ·obtain⟨ia,va,pa,_⟩:=I.tuple hx
     obtain⟨ib,vb,pb,_⟩:=I.tuple hy;have la:ia.length=ds.length:=by rw[<- va.length,r.length]
     have lb:ib.length=ds.length:=by rw[<- vb.length,q.length]
     have:=SeqAt.RcAt.tuples (A:=A) (s:=s) (e:=fun _=>true) (show s.heap.IsTuple a ia.toArray from pa) (show s.heap.IsTuple b ib.toArray from pb) (by omega) (fun j h1 h2=>by
      have j1:j<ia.length:=by simpa using h1
      have j2:j<ib.length:=by simpa using h2
      have hxl:j<xs.length:=by rw[va.length];exact j1
      have hyl:j<ys.length:=by rw[vb.length];exact j2
      obtain⟨u',e1,e2⟩:=va.get (i:=j) (aB hxl);obtain⟨v',e3,e4⟩:=vb.get (i:=j) (aB hyl);obtain⟨d1,f1,f2⟩:=Paired.get r (aB hxl);obtain⟨d2,f3,f4⟩:=Paired.get q (aB hyl);rw[f1] at f3;cases f3;rw[aB j1] at e1;rw[aB j2] at e3;cases e1;cases e3;simpa using vY I n f2 f4 e2 e4 hin)
     rw[uX] at this;have z:(ia.toArray.size==ib.toArray.size)=true:=by simp [la,lb]
     rw[z] at this;exact SeqAt.EqAt.of_refs hab this
   ·cases e2
  ·rcases hy with hy|⟨b,ys,es,rfl,e2,hy,q⟩|⟨b,ys,es,rfl,e2,_,hy,q⟩
   ·cases y <;> exact hy.elim
   ·cases e2
   ·cases e2
    cases ru;cases rv;by_cases hab:a=b
    ·subst hab;exact SeqAt.EqAt.same _
    ·obtain⟨ia,va,pa,_⟩:=I.list (ze hx)
     obtain⟨ib,vb,pb,_⟩:=I.list (ze hy);have la:ia.length=ds.length:=by rw[<- va.length,r.length]
     have lb:ib.length=ds.length:=by rw[<- vb.length,q.length]
     have:=SeqAt.RcAt.lists (A:=A) (s:=s) (e:=fun _=>true) pa.isList pb.isList (by simp [la,lb]) (by omega) (fun j h1 h2=>by
      have j1:j<ia.length:=by simpa using h1
      have j2:j<ib.length:=by simpa using h2
      have hxl:j<xs.length:=by rw[va.length];exact j1
      have hyl:j<ys.length:=by rw[vb.length];exact j2
      obtain⟨u',e1,e2⟩:=va.get (i:=j) (aB hxl);obtain⟨v',e3,e4⟩:=vb.get (i:=j) (aB hyl);obtain⟨d1,f1,f2⟩:=Paired.get r (aB hxl);obtain⟨d2,f3,f4⟩:=Paired.get q (aB hyl);rw[f1] at f3;cases f3;rw[aB j1] at e1;rw[aB j2] at e3;cases e1;cases e3;simpa using vY I n f2 f4 e2 e4 hin)
     rw[uX] at this;exact SeqAt.EqAt.of_refs hab this
theorem zeb(I:Inv X pins σ H s){n:Nat}{A:Around}{a b:Addr}{d:Dt}(hx:zw X.K ok H (n+1) (.ref a) d)(hy:zw X.K ok' H (n+1) (.ref b) d)(hu:A.units+n+1<cLine):
  SeqAt.RcAt A s (.ref a) (.ref b) true/\SeqAt.RcNeAt A s (.ref a) (.ref b) false:=by
 have hin:A.in1.units+n<cLine:=by show A.units+1+n<cLine;omega
 rcases hx with hx|⟨a,xs,ds,e0,rfl,hx,r⟩|⟨a,xs,ds,e0,rfl,_,hx,r⟩
 ·exact(qG hx).elim
 ·cases e0
  rcases hy with hy|⟨b,ys,es,e1,e2,hy,q⟩|⟨b,ys,es,e1,e2,_,hy,q⟩
  ·exact(qG hy).elim
  ·cases e1;cases e2
   obtain⟨ia,va,pa,_⟩:=I.tuple hx;obtain⟨ib,vb,pb,_⟩:=I.tuple hy;have la:ia.length=ds.length:=by rw[<- va.length,r.length]
   have lb:ib.length=ds.length:=by rw[<- vb.length,q.length]
   have el:∀j (h1:j<ia.toArray.size) (h2:j<ib.toArray.size),SeqAt.EqAt A.in1 s ia.toArray[j] ib.toArray[j] true:=fun j h1 h2=>by
    have j1:j<ia.length:=by simpa using h1
    have j2:j<ib.length:=by simpa using h2
    have hxl:j<xs.length:=by rw[va.length];exact j1
    have hyl:j<ys.length:=by rw[vb.length];exact j2
    obtain⟨u',e1,e2⟩:=va.get (i:=j) (aB hxl);obtain⟨v',e3,e4⟩:=vb.get (i:=j) (aB hyl);obtain⟨d1,f1,f2⟩:=Paired.get r (aB hxl);obtain⟨d2,f3,f4⟩:=Paired.get q (aB hyl);rw[f1] at f3;cases f3;rw[aB j1] at e1;rw[aB j2] at e3;cases e1;cases e3;simpa using vY I n f2 f4 e2 e4 hin
   have z:(ia.toArray.size==ib.toArray.size)=true:=by simp [la,lb]
   have t1:=SeqAt.RcAt.tuples (A:=A) (s:=s) (e:=fun _=>true) (show s.heap.IsTuple a ia.toArray from pa) (show s.heap.IsTuple b ib.toArray from pb) (by omega) el
   have t2:=SeqAt.RcNeAt.tuples (A:=A) (s:=s) (e:=fun _=>true) (show s.heap.IsTuple a ia.toArray from pa) (show s.heap.IsTuple b ib.toArray from pb) (by omega) el
   rw[uX,z] at t1 t2;exact⟨t1,t2⟩
  ·cases e1;cases e2
 ·cases e0
  rcases hy with hy|⟨b,ys,es,e1,e2,hy,q⟩|⟨b,ys,es,e1,e2,_,hy,q⟩
  ·exact(qG hy).elim
  ·cases e1;cases e2
  ·cases e1;cases e2
   obtain⟨ia,va,pa,_⟩:=I.list (ze hx);obtain⟨ib,vb,pb,_⟩:=I.list (ze hy);have la:ia.length=ds.length:=by rw[<- va.length,r.length]
   have lb:ib.length=ds.length:=by rw[<- vb.length,q.length]
   have el:∀j (h1:j<ia.toArray.size) (h2:j<ib.toArray.size),SeqAt.EqAt A.in1 s ia.toArray[j] ib.toArray[j] true:=fun j h1 h2=>by
    have j1:j<ia.length:=by simpa using h1
    have j2:j<ib.length:=by simpa using h2
    have hxl:j<xs.length:=by rw[va.length];exact j1
    have hyl:j<ys.length:=by rw[vb.length];exact j2
    obtain⟨u',e1,e2⟩:=va.get (i:=j) (aB hxl);obtain⟨v',e3,e4⟩:=vb.get (i:=j) (aB hyl);obtain⟨d1,f1,f2⟩:=Paired.get r (aB hxl);obtain⟨d2,f3,f4⟩:=Paired.get q (aB hyl);rw[f1] at f3;cases f3;rw[aB j1] at e1;rw[aB j2] at e3;cases e1;cases e3;simpa using vY I n f2 f4 e2 e4 hin
   have t1:=SeqAt.RcAt.lists (A:=A) (s:=s) (e:=fun _=>true) pa.isList pb.isList (by simp [la,lb]) (by omega) el
   have t2:=SeqAt.RcNeAt.lists (A:=A) (s:=s) (e:=fun _=>true) pa.isList pb.isList (by simp [la,lb]) (by omega) el
   rw[uX] at t1 t2;exact⟨t1,t2⟩
inductive zjwJ(K:Frag)(b:Bool)(x:V)(y:V)(H:Hp)(Q:VK):Prop|mk(a c:Addr)(n:Nat)(d:Dt)(ok ok':Addr->Prop):x=.ref a->y=.ref c->n<=20->zw K ok H (n+1) x d->zw K ok' H (n+1) y d->(Q (.bl b) H)->zjwJ K b x y H Q
def zjw(K:Frag)(b:Bool):R2:=fun x y H Q=>zjwJ K b x y H Q
theorem qr(hu:X.A.units+64<cLine):OpR X (compareOp .Eq) (zjw X.K true):=by
 intro pins s σ H x y v u Q I rx ry h;obtain⟨a,c,n,d,ok,ok',rfl,rfl,hn,hx,hy,q⟩:=h;cases rx;cases ry;exact(zeb (A:=X.A) I hx hy (by omega)).1 X.prog X.w X.xe _ ⟨.bl true,H,I,rfl,q⟩
theorem vO(hu:X.A.units+64<cLine):OpR X (compareOp .NotEq) (zjw X.K false):=by
 intro pins s σ H x y v u Q I rx ry h;obtain⟨a,c,n,d,ok,ok',rfl,rfl,hn,hx,hy,q⟩:=h;cases rx;cases ry;exact(zeb (A:=X.A) I hx hy (by omega)).2 X.prog X.w X.xe _ ⟨.bl false,H,I,rfl,q⟩
def Ite(K:Frag)(a:Addr):It:=
 ⟨fun i H=>∃xs x,SqL K H a xs/\xs[i]?=some x,fun i H x H'=>∃(p:Addr) (y:V),x=.ref p/\H p=none/\(∀xs,SqL K H a xs->xs[i]?=some y)/\H'=upd H p (.tup [.int i,y]),fun i H=>∃xs,SqL K H a xs/\xs.length<=i⟩
theorem zeG{P:Program}{w:World}{K:Frag}{elts:List Expr}{x1:Nat}{tpos:Pos}(a e it:Addr)(hne:e≠it):
  zae P w K (.Tuple elts x1 tpos) (Ite K a) [e,it] e (fun i h=>(∃old,IsEnum h e it (i:Int) old)/\h.IsListIter it a i) where
 mem:=by simp
 obj:=fun i h st b hb=>by
  rcases List.mem_cons.mp hb with rfl|hb
  ·obtain⟨⟨old,he⟩,_⟩:=st
   exact⟨_,he,fun v q=>by cases q⟩
  ·have e':b=it:=by simpa using hb
   subst e';obtain⟨_,o,ho,_,hd⟩:=st;exact⟨o,ho,fun v q=>by rw[hd] at q;cases q⟩
 keep:=fun i h h' st k=>by
  obtain⟨⟨old,he⟩,o,ho,r⟩:=st;exact⟨⟨old,k e (by simp) _ he⟩,o,k it (by simp) o ho,r⟩
 item:=by
  intro X hP hw hK hc i pins s σ H E I hf st hg;subst hP hw hK;obtain⟨f0,f1,f2,f3,f4,f5⟩:=hf e (by simp)
  obtain⟨g0,g1,g2,g3,g4,g5⟩:=hf it (by simp)
  obtain⟨⟨old,he⟩,hit⟩:=st;obtain⟨xs,x,hS,hx⟩:=hg;obtain⟨its,rv,hp,hz⟩:=I.list hS;obtain⟨u,hu,ru⟩:=rv.get hx;refine wpAny_pyNext_enum_item he hit hp.isList (x:=u) (by simpa using hu) hne fun h' he' hit' htup hsz hk=>?_
  have I0:Inv X pins σ H { s with heap:=h',toks:=s.toks+1 }:=by
   refine I.step (g':=s.gens) (d':=s.drawn) (ch:=[e,it]) (fun b hb=>?_) (fun b o _ _ hc' e1 _=>hk b o (fun z=>hc' (by simp [z])) (fun z=>hc' (by simp [z])) e1) (fun b o _ _ hc' e1 _=>⟨o.slots,hk b o (fun z=>hc' (by simp [z])) (fun z=>hc' (by simp [z])) e1⟩) (fun _ _ _ _ n=>n)
    (fun b o hc' e1=>⟨o,hk b o (fun z=>hc' (by simp [z])) (fun z=>hc' (by simp [z])) e1⟩) (fun _ _ e1=>e1) (fun _ _ _ e1=>e1) (fun b ps e1=>⟨#[],by rw[e1];simp⟩) (fun m hm=>?_) (fun b u' e1=>?_) I.bare
   ·rcases List.mem_cons.mp hb with rfl|hb
    ·exact⟨f3,f1,f4,f5⟩
    ·have e':b=it:=by simpa using hb
     subst e';exact⟨g3,g1,g4,g5⟩
   ·obtain⟨o,es,ep,ho,r⟩:=hm
    exact⟨o,es,ep,hk _ o (Ne.symm f1) (Ne.symm g1) ho,r⟩
   ·have nit:∀c v',H c=some v'->c≠e/\c≠it:=fun c v' q=>⟨fun z=>(by rw[z,f0] at q;cases q),fun z=>(by rw[z,g0] at q;cases q)⟩
    refine(I.hok b u' e1).stay (fun c v' hc' q=>?_) (fun _ q=>q) fun _ _ q=>q;rcases hc' with z|z
    ·subst z;exact hk c v' (nit c _ e1).1 (nit c _ e1).2 q
    ·exact hk c v' (nit c _ z).1 (nit c _ z).2 q
  have hfr:H s.heap.objs.size=none:=I.hok.fresh (aF _);have I1:Inv X pins σ (upd H s.heap.objs.size (.tup [.int i,x])) { s with heap:=h',toks:=s.toks+1 }:=by
   have hok:HOk X.prog X.w (upd H s.heap.objs.size (.tup [.int i,x])) h':=fun b o q=>by
    by_cases hb:b=s.heap.objs.size
    ·subst hb
     rw[za] at q;cases q;exact⟨by show 2<=sizeLine;decide,[.int i s.toks,u],.cons ⟨_,rfl⟩ (.cons ru .nil),⟨_,htup,rfl,_,rfl⟩⟩
    ·rw[zi hb] at q
     exact(I0.hok b o q).stay (fun _ _ _ z=>z) (fun c z=>by rw[zi (zd z hfr)];exact z) fun c xs' z=>by rw[zi (zd z hfr)];exact z
   refine I0.step (s:={ s with heap:=h',toks:=s.toks+1 }) (g':=s.gens) (d':=s.drawn) (h':=h') (t':=s.toks+1) (ch:=[s.heap.objs.size]) (fun b hb=>?_) (fun b o _ _ _ e1 _=>e1) (fun b o _ _ _ e1 _=>⟨o.slots,e1⟩) (fun b o hb e1 n=>by rw[zi (fun z=>hb (by simp [z]))];exact n)
    (fun b o _ e1=>⟨o,e1⟩) (fun b xs' e1=>by rw[zi (zd e1 hfr)];exact e1) (fun b o' u' e1=>by rw[zi (zd e1 hfr)];exact e1) (fun b ps e1=>⟨#[],by rw[zi (zd e1 hfr),e1];simp⟩) (fun m hm=>hm) hok I0.bare
   have e':b=s.heap.objs.size:=by simpa using hb
   subst e';exists .inr I.sz,fun z=>?_,fun y c h z=>?_,fun p hp' z=>?_
   ·have:=I.lt;rw[<- z] at this;exact absurd this (lt_irrefl _)
   ·obtain⟨v',hv⟩:=I.cell y c h
    have:=hv.lt;rw[z] at this;exact absurd this (lt_irrefl _)
   ·have:=I.pin_lt hp';rw[z] at this;exact absurd this (lt_irrefl _)
  exists _,rfl,wpAny_letOwnedTupleGo_enum he' fun h2 he2 hs2=>?_;have nes:s.heap.objs.size≠e:=fun z=>by
   have:=aI (show s.heap.get? e=some _ from he)
   rw[<- z] at this;exact absurd this (lt_irrefl _)
  have nis:s.heap.objs.size≠it:=fun z=>by
   obtain⟨o,ho,_⟩:=hit
   have:=aI ho
   rw[<- z] at this;exact absurd this (lt_irrefl _)
  have I2:Inv X pins σ (upd H s.heap.objs.size (.tup [.int i,x])) { s with heap:=h2,toks:=s.toks+1 }:=
   I1.turned (s:={ s with heap:=h',toks:=s.toks+1 }) (t':=s.toks+1) (it:=e) (fun b o hb q=>(hs2.2 b hb).trans q) (by rw[zi nes.symm];exact f0) f1 f3 f4 f5
  exists .ref s.heap.objs.size,_,I2,rfl,⟨_,x,rfl,hfr,fun xs' h'=>?_,rfl⟩,⟨⟨_,by simpa using he2⟩,?_⟩,fun b hb=>?_
  ·rw[I.list_inj h' hS];exact hx
  ·obtain⟨o,ho,r⟩:=hit'
   exact⟨o,(hs2.2 it (Ne.symm hne)).trans ho,r⟩
  ·rcases List.mem_cons.mp hb with rfl|hb
   ·rw[zi nes.symm];exact f0
   ·have e':b=it:=by simpa using hb
    subst e';rw[zi nis.symm];exact g0
 done:=by
  intro X hP hw hK hc i pins s σ H E I hf st hg;subst hP hw hK;obtain⟨⟨old,he⟩,hit⟩:=st;obtain⟨g0,g1,g2,g3,g4,g5⟩:=hf it (by simp)
  obtain⟨xs,hS,hle⟩:=hg;obtain⟨its,rv,hp,hz⟩:=I.list hS;have hx:its.toArray[i]?=none:=by simp [<- rv.length,hle]
  exact wpAny_pyNext_enum_end (I.ok.hd hc) he hit hp.isList hx fun h' eb=>⟨rfl,I.turned (t':=s.toks) (fun b o hb e1=>eb b o hb e1) g0 g1 g3 g4 g5⟩
 self:=fun A i s Q E st h=>by
  obtain⟨⟨old,he⟩,_⟩:=st;exact wpAny_pyIter_enum he h
variable {elts:List Expr}{x1:Nat}{tpos:Pos}
inductive zlZJ(K:Frag)(R:It->Hp->Prop)(vs:List V)(H1:Hp):Prop|mk(a:_):vs=[.ref a]->(∃xs,SqL K H1 a xs)->(R (Ite K a) H1)->zlZJ K R vs H1
def zlZ(K:Frag)(ta:TA):TI:=fun σ H R=>ta σ H fun vs H1=>zlZJ K R vs H1
theorem xr{l:Expr}{ta:TA}{p pos:Pos}(hg:Gl X "enumerate")(hm:X.mg "enumerate"=none)(ha:PA X [l] ta)(hl:wB l=false:=by rfl):PI X (.Tuple elts x1 tpos) (.Call (.Name "enumerate" p) [l] [] pos) (zlZ X.K ta):=by
 exists ?_;intro pins s σ H R I h;refine Call_ (vP I hg hm PyProof.Rows.boot_enumerate (PyProof.Rows.callWith_type1 (thn (ha pos pins s σ H _ I h) fun us s1 ⟨vs,H1,I1,r1,q1⟩=>?_) (yC hl) rfl));obtain⟨a,e,⟨xs,hS⟩,q⟩:=q1;subst e;obtain⟨u,rfl,ru⟩:=wS r1;cases ru;obtain⟨its,rv,hp,hz⟩:=I1.list hS;refine call_enumerate_list hp.isList fun h' he hit hsz hk=>?_;refine wpAny_pyIter_enum he ?_;have hfr:∀b,s1.heap.objs.size<=b->H1 b=none:=fun b hb=>I1.hok.fresh hb;have I2:Inv X pins σ H1 { s1 with heap:=h' }:=I1.kept (t':=s1.toks) hk
 exists s1.heap.objs.size+1,[s1.heap.objs.size+1,s1.heap.objs.size],_,_,H1,rfl,I2,zeG a _ _ (Nat.succ_ne_self _),⟨⟨_,he⟩,hit⟩,fun b hb=>?_,q;rcases List.mem_cons.mp hb with rfl|hb
 ·exact I1.fpOk (le_succ _) (hfr _ (le_succ _))
 ·have e':b=s1.heap.objs.size:=by simpa using hb
  subst e';exact I1.fpOk (aF _) (hfr _ (aF _))
end
end L2
namespace Att
open PySem PySem.W PySem.Calls PyProof.Rows
theorem zbM{ns:List Int}(h:WData.layableAll [WData.list (ns.map WData.int)]=true):∀n∈ns,Builtin.Int.intBits n<=1048576:=fun n hn=>
 PySem.intBits_le_of_layable (layable0_of_all (lay0_int (layableW_item (layW_cons h).1 (.int n) (List.mem_map.mpr ⟨n,hn,rfl⟩))))
theorem zje{l:OpenLaw}{n:Nat}{q:Program}{loose:List Str}{XP:(Str->Option Value)->Heap->Prop}{YP:World->Heap->Prop}{d:DefRec}
  (hn:l.most=some n) (hdf:d.params.defaults=[])
  (call:∀(w:World) (s₀ s₁:Shared) (mg mb:Str->Option Value) (fa:Addr) (o:Obj) (pm cd doc:Value) (a:Addr) (vs:List Value) (ns:List Int),
   Ground q loose [] XP w s₀ mg mb s₁.heap->YP w s₁.heap->
   s₁.heap.get? fa=some o->o.data=.func (docDef d.name d.params d.body d.scope pm cd doc)->s₁.heap.CodeRec cd d.name->mg d.name=some (.ref fa)->
   s₁.heap.get? a=some { cls:=.type "list",data:=.seq vs.toArray }->IntsAre vs ns->ns.length<=n->(∀m∈ns,Builtin.Int.intBits m<=1048576)->s₁.gens=#[]->
   codeAny (model l.prog w) callerA (.call (.ref fa) ⟨[.ref a],[]⟩) (fun r s'=>r=.ok (.ret (.bool true))/\OldK s₁.heap s'.heap/\s'.os=s₁.os/\AllBare s'.gens) s₁) :
  WalkO q loose XP YP l.row.toRowW d [] (fun f vs=>PySem.call f vs):=by
 intro w s₀ s₁ mg mb G Y fa o pm cd doc dV kV ho hd hcd hD hmg hg args vals as hpre hlay hrd hwl hlo;obtain rfl:dV=.none:=Dflts.none hD hdf;obtain rfl:kV=.none:=Dflts.noKw hD;obtain⟨a,vs,ns,rfl,rfl,hobj,hints,hlen⟩:=zeI hn hpre hwl;refine enter_call (codeAny_mono (call w s₀ s₁ mg mb fa o pm cd doc a vs ns G Y ho (fd_plain hd) hcd hmg hobj hints hlen (zbM hlay) hg) fun r s' hq=>?_);obtain⟨rfl,h2,h3,h4⟩:=hq;exact⟨.inl ⟨.bool true,.bool true,[],rfl,fun _=>rfl,.bool true,zeN l _,fun _=>⟨List.Pairwise.nil,fun _ hm=>(nomatch hm)⟩⟩,h2,h3,h4⟩
end Att
namespace L2
open PySem PySem.Spec PyProof.Rows
theorem zk4{l:PySem.W.OpenLaw}{n k:Nat}{q:Program}{loose:List Str}{XP:(Str->Option Value)->Heap->Prop}{YP:World->Heap->Prop}{d:DefRec}{K:Params->Frag}{CX:World->CXT}{sp:World->Sp}{x:Str}
  (hn:l.most=some n) (hn2:n<=sizeLine) (hdf:d.params.defaults=[]) (hr:yn k callerA)
  (hY:∀(w:World) (h:Heap),YP w h->(K w.params).In h)
  (F:∀(w:World) (mg:Str->Option Value) (fa:Addr) (h:Heap),(K w.params).In h->h.Ns mainGlobals mg->mg d.name=some (.ref fa)->
   ∃fd:FuncData,(∀(s:Shared) (u:Value),BindsTo s fd ⟨[u],[]⟩ [(x,u)])/\
    ∀base:Heap,(K w.params).In base->base.Ns mainGlobals mg->zC l.prog w (K w.params) mg base (CX w) k fa fd [x] (sp w))
  (hsp:∀(w:World) (H:Hp) (a:Addr) (ns:List Int),ns.length<=n->(∀m∈ns,Builtin.Int.intBits m<=1048576)->zkY H->SqL (K w.params) H a (ns.map V.int)->sp w [.ref a] H (fun v _=>v=.bl true) fun _ _ _=>False)
  (hCX:∀(w:World) (H:Hp) (s:Shared) (e:Value) (s':Shared),CX w [] H s (fun _ _ _=>False) e s'->False) :
  PySem.W.WalkO q loose XP YP l.row.toRowW d [] (fun f vs=>PySem.call f vs):=by
 refine Att.zje hn hdf fun w s₀ s₁ mg mb fa o pm cd doc a vs ns G Y ho hd hcd hmg hobj hints hlen hbits hg=>?_;have KX:=hY w _ Y;obtain⟨fd,hb,hF⟩:=F w mg fa _ KX G.T.g hmg;exact zhf KX G.T.g G.T.b G.T.builtins G.T.nolimit hg hobj hints (le_trans hlen hn2) hr hF hb (fun H hO hS=>hsp w H a ns hlen hbits hO hS) fun H e s'=>hCX w H s₁ e s'
section
variable {X:Cx}
theorem zit:OpR X (binaryOp .Mult) (rI IntMulOk fun i j=>.int (i * j)):=opI fun _ _ _ _ _ _ _ hc q=>mul_int q hc
structure zaf(K:Frag)(x qual:Str)(st:Stmt)(f:Addr)(fd:FuncData)(items:List Value):Prop where
 ex:∃(oc:Value) (od:Option Addr) (T:Addr) (kV doc pm:Value) (an:Option Addr) (cdv ct:Value) (osl:Array (Option Value)) (o:Obj) (n:Nat),
  fd=fnOf x qual (yd st) (z5 st) (zj st) (.ref T) kV doc pm an cdv ct/\K.lookup f=some ⟨oc,od,.func fd,osl⟩/\codeIn K cdv qual=true/\K.lookup T=some o/\o.data=.seq items.toArray n
 kp:keepIn K (.ref f)=true
variable {P:Program}{w:World}{K:Frag}{mg:Str->Option Value}{base:Heap}
theorem zaf.ok{x qual:Str}{st:Stmt}{f:Addr}{fd:FuncData}{items:List Value}{N ps:List Str}{k:Nat}{sp:Sp}(F:zaf K x qual st f fd items)(S:zt N ps (zj st))(len:∀vs H Q E,sp vs H Q E->vs.length=ps.length)
  (hbody:∀(cdv:Value) (A:Around) (outer:List Env) (s:Shared) (H:Hp) (vs:List V) (Q:VK) (E:XK),yn k (A.deeper (envOfC qual (zj st) s.heap.objs.size f cdv))->sp vs H Q E->
   ∃t,PSs (jD CX0 P w K mg base N qual (zj st) f cdv A outer s H E).nox (z5 st) t/\t { nx:=fun _ H'=>Q .non H',rt:=Q } (xP N vs) H):zC P w K mg base CX0 (k+1) f fd ps sp:=by
 obtain⟨oc,od,T,kV,doc,pm,an,cdv,ct,osl,o,n,rfl,lk,hcd,_,_⟩:=F.ex;refine zhp lk hcd S len fun A outer s H vs Q E hr hsp=>?_;obtain⟨t,h,q⟩:=hbody cdv A outer s H vs Q E hr hsp;exact⟨t,h.nox,q⟩
theorem zaf.bindsTo{x qual:Str}{st:Stmt}{f:Addr}{fd:FuncData}{items:List Value}(F:zaf K x qual st f fd items){args:Args}{bs:List (Str×Value)}
  (h:∀(T:Addr) (kV doc pm:Value) (an:Option Addr) (cdv ct:Value),∃k:Option (Array Value)->Sem (List (Str×Value)),
   bindArgs (fnOf x qual (yd st) (z5 st) (zj st) (.ref T) kV doc pm an cdv ct) args=seqItems? (.ref T) >>= k/\k (some items.toArray)=pure bs) {s:Shared}(KX:K.In s.heap):BindsTo s fd args bs:=by
 obtain⟨oc,od,T,kV,doc,pm,an,cdv,ct,osl,o,n,rfl,lk,hcd,lt,hs⟩:=F.ex;obtain⟨k,h1,h2⟩:=h T kV doc pm an cdv ct;exact BindsTo.of_defaults (T:=T) (n:=n) rfl (KX _ _ lt) hs h1 h2
theorem zi1{x qual:Str}{st:Stmt}{f T:Addr}{oc:Value}{od an:Option Addr}{osl:Array (Option Value)}{kV doc pm cdv ct:Value}{o:Obj}{n:Nat}{items:List Value}
  (l:K.lookup f=some ⟨oc,od,.func (fnOf x qual (yd st) (z5 st) (zj st) (.ref T) kV doc pm an cdv ct),osl⟩)
  (c:codeIn K cdv qual=true) (k:keepIn K (.ref f)=true) (lT:K.lookup T=some o) (hs:o.data=.seq items.toArray n) :
  zaf K x qual st f (fnOf x qual (yd st) (z5 st) (zj st) (.ref T) kV doc pm an cdv ct) items:=⟨⟨oc,od,T,kV,doc,pm,an,cdv,ct,osl,o,n,rfl,l,c,lT,hs⟩,k⟩
variable {CX:CXT}{k:Nat}{f C:Addr}{fd:FuncData}{ps ks:List Str}{sp:Sp}{E:XK}{x:Str}{p pos:Pos}{e:Expr}{es:List Expr}{kws:List Keyword}{t tk:TA}
 {g:List Value->List Value->List Value}{gV:List V->List V->List V}
theorem yr{t u:TS}{D:vc}{σ : St}{H:Hp}(R:St->Hp->Prop)(h2:∀σ H,R σ H->u D σ H)(h1:(∀σ H,R σ H->u D σ H)->t { D with nx:=u D } σ H):wx t u D σ H:=h1 h2
def lcN(n i:Nat)(D:Addr)(Pv:Nat->List V->Hp->Prop)(ys:List V):VK:=fun v H4=>H4 D=some (.lst ys)/\ys.length<sizeLine/\∃m',m'<n - i/\m'=n - (i+1)/\i+1<=n/\Pv (i+1) (ys++[v]) (upd H4 D (.lst (ys++[v])))
def lcS(n i:Nat)(Pv:Nat->List V->Hp->Prop)(ys:List V):Hp->Prop:=fun H4=>∃m',m'<n - i/\m'=n - (i+1)/\i+1<=n/\Pv (i+1) ys H4
theorem lcN.mk{n i:Nat}{D:Addr}{Pv:Nat->List V->Hp->Prop}{ys:List V}{v:V}{H4:Hp}(hi:i<n)(hn:n<=sizeLine)(hD:H4 D=some (.lst ys))(hy:ys.length<=i)(p:Pv (i+1) (ys++[v]) (upd H4 D (.lst (ys++[v])))):lcN n i D Pv ys v H4:=
 ⟨hD,by omega,n - (i+1),by omega,rfl,hi,p⟩
theorem lcS.mk{n i:Nat}{Pv:Nat->List V->Hp->Prop}{ys:List V}{H4:Hp}(hi:i<n)(p:Pv (i+1) ys H4):lcS n i Pv ys H4:=⟨n - (i+1),by omega,rfl,hi,p⟩
theorem vW{K:Frag}{a:Addr}{xs:List V}{caps:List (Option Nat)}{g:TG}{tt:TT}{te:TE}{σ : St}{H1:Hp}{Q:VK}{D:Addr}(Pv:Nat->List V->Hp->Prop)(h0:Pv 0 [] (upd H1 D (.lst [])))
  (hl:∀i ys H,Pv i ys H->SqL K H a xs)
  (hs:∀i x ys H,i<xs.length->xs[i]?=some x->Pv i ys H->g x (yW caps σ) H fun σ2 H2=>tt σ2 H2 fun ok H3=>(ok=true->te σ2 H3 (lcN xs.length i D Pv ys))/\(ok=false->lcS xs.length i Pv ys H3))
  (hd:∀ys H,Pv xs.length ys H->Q (.ref D) H):LCr (Itl K a) caps g tt te σ H1 Q D:=by
 exists fun i m ys H=>m=xs.length - i/\i<=xs.length/\Pv i ys H,⟨xs.length,by simp,zero_le _,h0⟩,?_
 rintro i m ys H ⟨rfl,hi,p⟩;have q:=hl i ys H p;by_cases hlt:i<xs.length
 ·refine .inr ⟨⟨xs,xs[i],q,by simp [hlt]⟩,fun x H' y=>?_⟩
  obtain⟨e,y⟩:=y;subst e;exact hs i x ys _ hlt (y xs q) p
 ·have e:i=xs.length:=by omega
  subst e;exact .inl ⟨⟨xs,q,aF _⟩,hd ys H p⟩
theorem xF{H:Hp}{x dx:Addr}{o1:HO}(hx:H x=none)(hd:H dx=none):zn H (upd (upd H dx (.own x)) x o1):=fun b u q=>by
 rw[zi (zd q hx),zi (zd q hd)];exact q
theorem zc{H:Hp}{p:Addr}(h:H p=none)(o:HO):zn H (upd H p o):=fun b u q=>by rw[zi (zd q h)];exact q
end
end L2
namespace L2
open PySem
theorem nS{H H':Hp}{p:Addr}{o:HO}(h:H p=none)(e:upd H p o=H'):zn H H':=e ▸ zc h o
theorem nE{H H':Hp}{p:Addr}{o:HO}(e:upd H p o=H'):H' p=some o:=e ▸ za
end L2
local macro_rules|`(tactic|injections $l:ident $h:ident $H:ident $s:ident $e:ident)=>`(tactic|(generalize hE:L2.upd _ $l _=$H:ident;have $s:ident:=L2.nS $h hE;have $e:ident:=L2.nE hE;clear hE))
namespace L2
open PySem PySem.Spec PyProof.Rows
theorem uQ{lo:Int}{n:Nat}{caps:List (Option Nat)}{g:TG}{tt:TT}{te:TE}{σ : St}{H1:Hp}{Q:VK}{D:Addr}(Pv:Nat->List V->Hp->Prop)(h0:Pv 0 [] (upd H1 D (.lst [])))
  (hs:∀i ys H,i<n->Pv i ys H->g (.int (lo+i)) (yW caps σ) H fun σ2 H2=>tt σ2 H2 fun ok H3=>(ok=true->te σ2 H3 (lcN n i D Pv ys))/\(ok=false->lcS n i Pv ys H3))
  (hd:∀ys H,Pv n ys H->Q (.ref D) H):LCr (Itr lo n) caps g tt te σ H1 Q D:=by
 exists fun i m ys H=>m=n - i/\i<=n/\Pv i ys H,⟨n,by simp,zero_le _,h0⟩,?_
 rintro i m ys H ⟨rfl,hi,p⟩;by_cases hlt:i<n
 ·refine .inr ⟨hlt,fun x H' y=>?_⟩
  obtain⟨e,y⟩:=y;subst e y;exact hs i ys _ hlt p
 ·have e:i=n:=by omega
  subst e;exact .inl ⟨aF _,hd ys H p⟩
theorem zbn{K:Frag}{a:Addr}{xs:List V}{caps:List (Option Nat)}{g:TG}{tt:TT}{te:TE}{σ : St}{H1:Hp}{Q:VK}{D:Addr}(Pv:Nat->List V->Hp->Prop)(h0:Pv 0 [] (upd H1 D (.lst [])))
  (hl:∀i ys H,Pv i ys H->SqL K H a xs)
  (hs:∀i x p ys H,i<xs.length->xs[i]?=some x->Pv i ys H->H p=none->g (.ref p) (yW caps σ) (upd H p (.tup [.int i,x])) fun σ2 H2=>tt σ2 H2 fun ok H3=>(ok=true->te σ2 H3 (lcN xs.length i D Pv ys))/\(ok=false->lcS xs.length i Pv ys H3))
  (hd:∀ys H,Pv xs.length ys H->Q (.ref D) H):LCr (Ite K a) caps g tt te σ H1 Q D:=by
 exists fun i m ys H=>m=xs.length - i/\i<=xs.length/\Pv i ys H,⟨xs.length,by simp,zero_le _,h0⟩,?_
 rintro i m ys H ⟨rfl,hi,p⟩;have q:=hl i ys H p;by_cases hlt:i<xs.length
 ·refine .inr ⟨⟨xs,xs[i],q,by simp [hlt]⟩,fun x H' y=>?_⟩
  obtain⟨pp,y,rfl,hp,y2,rfl⟩:=y;exact hs i y pp ys H hlt (y2 xs q) p hp
 ·have e:i=xs.length:=by omega
  subst e;exact .inl ⟨⟨xs,q,aF _⟩,hd ys H p⟩
theorem wC{K:Frag}{a:Addr}{xs:List V}{g:TG}{tb:TS}{D:vc}{σ : St}{H:Hp}(Pv:Nat->St->Hp->Prop)(h0:Pv 0 σ H)(hl:∀i σ H,i<=xs.length->Pv i σ H->SqL K H a xs)
  (hs:∀i x p σ H,xs[i]?=some x->Pv i σ H->H p=none->g (.ref p) σ (upd H p (.tup [.int i,x])) fun σ2 H2=>tb { D with nx:=Pv (i+1),ct:=Pv (i+1),bk:=D.nx } σ2 H2) (hd:∀σ H,Pv xs.length σ H->D.nx σ H) :
  ∃W:Nat->Nat->St->Hp->Prop,(∃m,W 0 m σ H)/\∀i m σ H,W i m σ H->
   ((Ite K a).stop i H/\D.nx σ H)\/((Ite K a).go i H/\∃N:St->Hp->Prop,(∀σ' H',N σ' H'->∃m',m'<m/\W (i+1) m' σ' H')/\∀x H',(Ite K a).yld i H x H'->g x σ H' fun σ2 H2=>tb { D with nx:=N,ct:=N,bk:=D.nx } σ2 H2):=by
 exists fun i m σ H=>m=xs.length - i/\i<=xs.length/\Pv i σ H,⟨xs.length,by simp,zero_le _,h0⟩,?_
 rintro i m σ H ⟨rfl,hi,p⟩;have q:=hl i σ H hi p;by_cases hlt:i<xs.length
 ·refine .inr ⟨⟨xs,xs[i],q,by simp [hlt]⟩,Pv (i+1),fun σ' H' p'=>⟨xs.length - (i+1),by omega,rfl,hlt,p'⟩,fun x H' y=>?_⟩
  obtain⟨pp,y,rfl,hp,y2,rfl⟩:=y;exact hs i y pp σ H (y2 xs q) p hp
 ·have e:i=xs.length:=by omega
  subst e;exact .inl ⟨⟨xs,q,aF _⟩,hd σ H p⟩
section
variable {X:Cx}{pins:PnL}{σ:St}{H H':Hp}{s s':Shared}{ea:Addr}{cls:Value}{vs:List Value}{h':Heap}{M:Model}{E:VSP}
theorem zaH(hstk:X.stack=X.env::X.outer)(hfl:X.env.frame=some X.env.locals):frs X.stack=X.env.locals::frs X.outer:=by
 rw[hstk];unfold frs;rw[filterMap_cons,hfl]
theorem HOk.sameAt{P:Program}{w:World}{h h':Heap}(x:HOk P w H h)(k:∀b u o,H b=some u->h.get? b=some o->h'.get? b=some o):HOk P w H h':=fun a o e=>
 (x a o e).stay (fun b u hb q=>by
  rcases hb with z|z
  ·exact k b o u (by rw[z];exact e) q
  ·exact k b _ u z q) (fun _ q=>q) fun _ _ q=>q
theorem HOk.rec{P:Program}{w:World}{h:Heap}(x:HOk P w H h){b:Addr}{u:HO}(e:H b=some u):∃o,h.get? b=some o:=by
 have q:=x b u e;cases u with
 | lst xs=>obtain⟨_,_,_,_,e⟩:=q;exact⟨_,e⟩
 | tup xs=>obtain⟨_,_,_,o,e,_⟩:=q;exact⟨_,e⟩
 | dK kvs=>obtain⟨_,_,_,_,o,_,_,e,_⟩:=q;exact⟨_,e⟩
 | dT kvs=>obtain⟨_,_,_,_,o,_,_,e,_⟩:=q;exact⟨_,e⟩
 | set S n=>obtain⟨o,_,_,_,e,_⟩:=q;exact⟨_,e⟩
 | ins C dx fs=>obtain⟨_,_,_,e,_⟩:=q;exact⟨_,e⟩
 | own y=>exact q
 | xd fs=>obtain⟨_,⟨o,_,_,e,_⟩,_⟩:=q;exact⟨_,e⟩
 | rng lo hi=>obtain⟨_,_,_,e⟩:=q;exact⟨_,e⟩
 | frz ob u=>obtain⟨e,_⟩:=q;exact⟨_,e⟩
 | tbl ps=>exact⟨_,q⟩
 | met f y=>exact⟨_,q⟩
 | ext φ=>exact q.2.1
end
section
variable {X:Cx}{E:XK}{x:Str}{C:Addr}{B Bn newId nid initId inN:String}{bm bmN:List Value}{np cpos pos:Pos}{e:Expr}{es:List Expr}{t:TA}
variable {P:Program}{w:World}{K:Frag}{mg:Str->Option Value}{base:Heap}{N:List Str}{qual:Str}{scope:Scope}{f:Addr}{cd:Value}{A:Around}{outer:List Env}{s:Shared}{H:Hp}{E':XK}
variable {k:Nat}{fd:FuncData}{ps:List Str}{sp:Sp}{p:Pos}
def zaS(ea:Addr)(cls:Value)(h:Heap):Prop:=∃oe vs,h.get? ea=some oe/\oe.cls=cls/\oe.data=.fields vs
variable {pins:PnL}{σ:St}{H':Hp}{s':Shared}{ea a:Addr}{cls:Value}{o:HO}{h5:Heap}
theorem Inv.track(I:Inv X pins σ H s)(hn:H a=none)(new:yB X.prog X.w (upd H a o) s.heap a o)(h0:∀u,X.s₀.heap.get? a=some u->X.H₀ a=none->a∉X.ex->False)(hL:X.env.locals≠a)
  (hc:∀x c,X.env.cells.lookup x=some c->c≠a) (hp:∀p∈X.pn++pins,p.1≠a):Inv X pins σ (upd H a o) s:=by
 exists I.ok,I.os,I.bare,⟨I.base.keep,I.base.slot,fun b u e n x=>?_,I.base.there,fun b xs e=>?_,fun b u v e=>?_,fun b ps e=>?_⟩,I.loc,I.cell,?_,fun x c e=>?_,fun p hp'=>?_,fun b u e=>?_,I.len
 ·have hb:b≠a:=fun z=>by subst z;exact h0 u e n x
  rw[zi hb];exact I.base.free b u e n x
 ·have e1:=I.base.tups b xs e
  rw[zi (zd e1 hn)];exact e1
 ·have e1:=I.base.frzs b u v e
  rw[zi (zd e1 hn)];exact e1
 ·obtain⟨more,e1⟩:=I.base.tbls b ps e
  exact⟨more,by rw[zi (zd e1 hn)];exact e1⟩
 ·rw[zi hL];exact I.free
 ·rw[zi (hc x c e)];exact I.freeC x c e
 ·obtain⟨q1,q2,q3⟩:=I.pin p hp'
  exact⟨q1,by rw[zi (hp p hp')];exact q2,q3⟩
 ·by_cases hb:b=a
  ·subst hb;rw[za] at e;cases e;exact new
  ·rw[zi hb] at e
   exact(I.hok b u e).stay (fun _ _ _ q=>q) (fun c q=>by rw[zi (zd q hn)];exact q) fun c xs q=>by rw[zi (zd q hn)];exact q
end
section
variable {X:Cx}{pins:PnL}{σ:St}{H:Hp}{s:Shared}{M:Model}{A:Around}{E:VSP}{i:Nat}{n:Str}{pos:Pos}
theorem vV{Q:Unit->Shared->Prop}(I:Inv X pins σ H s)(hN:X.N.Nodup)(hi:X.N[i]?=some n)(hk:X.env.scope.names.lookup n=some .local)(h:∀s',Inv X pins (σ.set i none) H s'->Q () s'):
  wpAny M A (do bindName X.env n .none;unbindBehindTheSuite X.env n pos) Q E s:=by
 refine zwb (wpAny_bindName (wy (v:=.non) (u:=.none) I hN hi (.inl hk) rfl (fun s1 I1=>?_) (.inr hk)));unfold unbindBehindTheSuite;refine wpAny_onRaise ?_;have hiσ : i<σ.length:=by rw[I.len];exact(List.getElem?_eq_some_iff.mp hi).1
 have hcls:(X.env.scope.kind==.class||(X.env.scope.kind==.module&&X.env.locals != X.env.globals))=false:=by rw[I.ok.kind];rfl
 obtain⟨m,hn,hl⟩:=id I1.loc;obtain⟨u0,_,lk⟩:=hl i n .non hi (by rw[getElem?_set_self hiσ]) (.inl hk)
 have hv:m n=some u0:=by
  rcases lk with ⟨_,e⟩|⟨z,_⟩
  ·exact e
  ·have z':X.env.scope.names.lookup n=some .cell\/X.env.scope.names.lookup n=some .free:=z
   rw[hk] at z';rcases z' with z'|z' <;> cases z'
 refine wpAny_unbindName_local hk hn hv hcls fun h2 u hn2 hs=>h _ ?_;have old:∀b o,X.s₀.heap.get? b=some o->b≠X.env.locals:=fun b o e=>ne_of_lt (lt_of_lt_of_le (aI e) I1.ok.above);refine⟨I1.ok,I1.os,I1.bare,⟨fun b o e z hb hx=>(hs.2 b (old b o e)).trans (I1.base.keep b o e z hb hx),fun b o e z hb hx=>?_,I1.base.free,fun b o e hx=>?_,I1.base.tups,I1.base.frzs,I1.base.tbls⟩,⟨_,hn2,fun j y v e1 e2 e3=>?_⟩,fun y c e=>?_,I1.free,I1.freeC,fun p hp=>?_,fun b ob e=>?_,by rw[length_set];exact I.len⟩
 ·obtain⟨sl,e1⟩:=I1.base.slot b o e z hb hx
  exact⟨sl,(hs.2 b (old b o e)).trans e1⟩
 ·obtain⟨o',e1⟩:=I1.base.there b o e hx
  exact⟨o',(hs.2 b (old b o e)).trans e1⟩
 ·by_cases hj:j=i
  ·subst hj
   rw[getElem?_set_self hiσ] at e2;cases e2
  ·rw[getElem?_set_ne (Ne.symm hj)] at e2
   obtain⟨u',r',q⟩:=hl j y v e1 (by rw[getElem?_set_ne (Ne.symm hj)];exact e2) e3
   exists u',r',?_;rcases q with ⟨k,e⟩|⟨k,c,e,z⟩
   ·have ny:y≠n:=fun w=>hj (qu hN e1 (w ▸ hi))
    exact .inl ⟨k,by simp [ny,e]⟩
   ·exact .inr ⟨k,c,e,z.sameBut hs (I1.cne y c e)⟩
 ·obtain⟨w',z⟩:=I1.cell y c e
  exact⟨w',z.sameBut hs (I1.cne y c e)⟩
 ·obtain⟨e,z,ne,nf,d⟩:=I1.pin p hp
  exact⟨(hs.2 p.1 ne).trans e,z,ne,nf,d⟩
 ·refine(I1.hok b ob e).stay (fun c w' hc q=>(hs.2 c fun z=>?_).trans q) (fun _ q=>q) fun _ _ q=>q
  rcases hc with w1|w1
  ·rw[<- w1,z,I1.free] at e;cases e
  ·rw[z,I1.free] at w1;cases w1
structure PE1(X:Cx)(pins:PnL)(σ : St)(e:Expr)(t:TE):Prop where
 run:∀(s:Shared) (H:Hp) (Q:VK),Inv X pins σ H s->t σ H Q->wpAny (model X.prog X.w) X.A (eval e X.env) (EP X pins σ Q) X.xe s
structure PA1(X:Cx)(pins:PnL)(σ : St)(es:List Expr)(t:TA):Prop where
 run:∀(pos:Pos) (s:Shared) (H:Hp) (Q:List V->Hp->Prop),Inv X pins σ H s->t σ H Q->wpAny (model X.prog X.w) X.A (spliced (backTo pos (starEach es X.env))) (AP X pins σ Q) X.xe s
structure PS1(X:Cx)(pins:PnL)(σ : St)(st:Stmt)(t:TS):Prop where
 run:∀(s:Shared) (H:Hp) (D:vc),Inv X pins σ H s->t D σ H->wpAny (model X.prog X.w) X.A (exec st X.env) (SP X pins D) X.xe s
end
section
variable {X:Cx}{pins:PnL}{σ:St}{e:Expr}{es:List Expr}{te ta:TE}{t tr:TA}{E:XK}{x m:Str}{p pos apos:Pos}{k:Nat}{f C:Addr}{fd:FuncData}{ps:List Str}{sp:Sp}{o:Expr}{dvs:List V}{ds:List Value}
theorem PE.one(h:PE X e te):PE1 X pins σ e te:=⟨fun s H Q I q=>h pins s σ H Q I q⟩
theorem PA.one(h:PA X es t):PA1 X pins σ es t:=⟨fun pos s H Q I q=>h pos pins s σ H Q I q⟩
theorem zeA(ha:PE1 X pins σ e te)(hr:PA1 X pins σ es tr)(h:wB e=false:=by rfl):PA1 X pins σ (e::es) (zdX te tr):=by
 exists fun pos s H Q I q=>?_;rw[yC h];show wpAny _ _ (spliced ((false,eval e X.env)::backTo pos (starEach es X.env))) _ _ s;refine Calls.spliced_cons (thn (ha.run s H _ I q) fun u s1 ⟨x,H1,I1,r1,q1⟩=>?_);exact thn (hr.run pos s1 H1 _ I1 q1) fun us s2 ⟨xs,H2,I2,r2,q2⟩=>⟨x::xs,H2,I2,.cons r1 r2,q2⟩
theorem zks{x1:Nat}(h:PA1 X pins σ es t):PE1 X pins σ (.Tuple es x1 pos) (zk6 t):=by
 exists fun s H Q I hq=>?_;refine wpAny_Tuple_spliced (thn (h.run pos s H _ I hq) fun us s1 ⟨xs,H1,I1,r,z,q⟩=>⟨by rw[<- r.length];exact z,?_⟩)
 have hf:H1 s1.heap.objs.size=none:=I1.hok.fresh (aF _);exists .ref s1.heap.objs.size,upd H1 s1.heap.objs.size (.tup xs),I1.laid (t':=s1.toks) (fun b u e=>zgp _ e) (aF _) ?_,rfl,q _ hf;exact⟨z,us,r,⟨_,zgs _ rfl,rfl,_,rfl⟩⟩
theorem zke{i:Nat}{pos':Pos}(hN:X.N.Nodup)(hi:X.N[i]?=some x)(hx:Loc X.env.scope x)(he:PE1 X pins σ e te)(hs:swapsWith e (some (.Name x pos')) pos.line X.env=pure false:=by rfl)
  (hf:X.fn x=true\/X.env.scope.names.lookup x=some .local:=by first|exact .inl rfl|exact .inr rfl|assumption):PS1 X pins σ (.Assign [.Name x pos'] e pos) (zhQ te (zZ i)):=by
 exists fun s H D I h=>?_;refine wpAny_Assign_Name (thn (he.run s H _ I h) fun v s1 ⟨y,H1,I1,r1,q1⟩=>?_) hs;exact wy I1 hN hi hx r1 (fun s2 I2=>⟨_,H1,I2,q1⟩) hf
abbrev Cx.suite(X:Cx)(ea:Addr):Cx:={ X with A:=X.A.mark (some (.ref ea)),calm:=false,xe:=fun _ _=>False }
variable {H:Hp}{s:Shared}{ea:Addr}
theorem Inv.suite(I:Inv X pins σ H s)(ea:Addr):Inv (X.suite ea) pins σ H s:=
 ⟨⟨I.ok.mod,I.ok.kind,I.ok.glob,I.ok.blt,I.ok.above,I.ok.inj,I.ok.has,I.ok.cab,(fun z=>Bool.noConfusion z),I.ok.frames,I.ok.stk,I.ok.exf,I.ok.bs,I.ok.bsz,I.ok.noex,I.ok.exfs,I.ok.funs,I.ok.frf⟩,I.os,I.bare,I.base,I.loc,I.cell,I.free,I.freeC,I.pin,I.hok,I.len⟩
theorem wM(hok:X.Ok)(I:Inv (X.suite ea) pins σ H s):Inv X pins σ H s:=
 ⟨hok,I.os,I.bare,I.base,I.loc,I.cell,I.free,I.freeC,I.pin,I.hok,I.len⟩
def zjE(D:vc)(i:Nat):vc:={ nx:=fun σ H=>D.nx (σ.set i none) H,rt:=D.rt,bk:=fun σ H=>D.bk (σ.set i none) H,ct:=fun σ H=>D.ct (σ.set i none) H }
abbrev zk5(X:Cx)(pins:PnL)(D:vc)(hs:List ExceptHandler):Value->Shared->Prop:=fun e s₁=>
 wpAny (model X.prog X.w) X.A (noteFrame e X.env) (fun _ s₂=>wpAny (model X.prog X.w) X.A (setFlight e none) (fun _ s₃=>wpAny (model X.prog X.w) X.A (handleBy e X.env hs) (SP X pins D) X.xe s₃) X.xe s₂) X.xe s₁
variable {st b₀:Stmt}{suite:List Stmt}{c n:Str}{np hpos:Pos}{i:Nat}{tb:XK->TS}{ts:TS}{ok:Value->Prop}
end
end L2
namespace L2
open PySem PySem.W PySem.Builtin PySem.Builtin.ObjectAttr PySem.Builtin.Getset_descriptor PySem.Spec PyProof.Rows
structure yU(K:Frag)(D:Addr):Prop where
 cd:(clsIn K D).isSome=true
 ga:findIn K (.ref D) "__getattribute__"=some (some (.builtin "BaseException.__getattribute__"))
 no:findIn K (.ref D) "__getattr__"=some none
 cl:findIn K (.ref D) "__class__"=some (some (.builtin "object.__class__"))
 gt:specialIn K (.builtin "object.__class__") "__get__"=some (some (.builtin "getset_descriptor.__get__"))
 tk:takesIn K (.builtin "object.__class__")=some true
 be:mroIn K D (.type "BaseException")=some true
 ob:mroIn K D (.type "object")=some true
section
variable {prog:Program}{w:World}{A:Around}{E:VSP}{s:Shared}{K:Frag}{x D:Addr}
theorem zaS.ty{M:Model}{h:Heap}(e:zaS x (.ref D) h):Looks M h (typeOf (.ref x)) (.ref D):=by
 obtain⟨oe,vs,h1,h2,h3⟩:=e;exact h2 ▸ (Looks.ld h1).andThen .now
theorem zi6{R:Result->Shared->Prop}{tp:Value}(c:yU K D)(X:K.In s.heap)(e:zaS x (.ref D) s.heap)(h:R (.ok (.ret (.ref D))) s):
  codeAny (model prog w) A (.call (.builtin "getset_descriptor.__get__") ⟨[.builtin "object.__class__",.ref x,tp],[]⟩) R s:=by
 obtain⟨hh,g,dr,t,os⟩:=s;have LT:=e.ty (M:=model prog w);have LM:=looks_mroIn (M:=model prog w) X c.ob;refine codeAny_call_builtin KF.slot_gs.plain KF.entry_gs ?_;refine KF.slot_gs.check _ _ _ _ _ _ _ _ KF.type_class (KF.args_gs _ _ _) ?_;unfold Builtin.«getset_descriptor.__get__»;unfold descrGet;rw[dga_obj (.builtin "object.__class__") tp x];refine zwb (zwp ?_);unfold descrGetter;unfold descrCheckInstance descrNameAndClass;unfold isInstance;simp only[KF.owner_class]
 repeat lk
 exists Code.quiet_builtin _ (by symm),?_
 refine codeAny_builtin KF.entry_class ?_;unfold Builtin.«object.__class__»;unfold shownTypeOf
 repeat lk
 exact h
theorem zfh{Q:Option Value->Shared->Prop}(c:yU K D)(X:K.In s.heap)(e:zaS x (.ref D) s.heap)(h:Q (some (.ref D)) { s with toks:=s.toks+1 }):wpAny (model prog w) A (getAttr? (.ref x) "__class__") Q E s:=by
 obtain⟨hh,g,dr,t,os⟩:=s;have LT:=e.ty (M:=model prog w);have LG:=looks_findIn (M:=model prog w) X c.ga;have LN:=looks_findIn (M:=model prog w) X c.no;have LC:=looks_findIn (M:=model prog w) X c.cl;have LB:=looks_mroIn (M:=model prog w) X c.be;have L2:=looks_specialIn (M:=model prog w) X c.gt;have L3:=looks_takesIn (M:=model prog w) X c.tk;unfold getAttr?;unfold getAttrBy? getAttrBy;refine zwb (wpAny_mkText (zwb (wpAny_attempt ?_)));refine wpAny_holding (zwb (LT.at (zwb (LG.at ?_))));have hne:(onTheHeap (Value.ref D)&&Value.builtin "BaseException.__getattribute__"==Value.builtin "object.__getattribute__")=false:=by
  rw[show(Value.builtin "BaseException.__getattribute__"==Value.builtin "object.__getattribute__")=false from by symm,Bool.and_false]
 dsimp only;rw[hne];rw[aJ zft];unfold getAttrByItsOwn hookBefore;rw[aK (show onTheHeap (Value.ref D)=true from rfl)];refine zwb (LN.at (zwb (wpAny_attempt (wpAny_holding ?_))));unfold callGetattribute boundAndCalled;rw[aJ (by simp)]
 have fb:=PySem.F.attrBase_ValueError.ga;rw[fb.bind (.ref x)];refine zwb (zwp ?_);refine wpAny_call (codeAny_call_builtin fb.plain F.entry_bexc_ga ?_);have ck:∀(Q':Unit->Shared->Prop) (E':VSP) (A':Around),Q' () ⟨hh,g,dr,t+1,os⟩->wpAny (model prog w) A' (checkBuiltinCall "BaseException.__getattribute__" ⟨[.ref x,.str "__class__" t],[]⟩) Q' E' ⟨hh,g,dr,t+1,os⟩:=by
  intro Q' E' A' q';have k1:builtinKind "BaseException.__getattribute__"=some .slot:=by symm
  have k2:splitId "BaseException.__getattribute__"=some ("BaseException","__getattribute__"):=by symm
  have k3:=F.args_bexc_ga (.ref x) (.str "__class__" t);simp only[checkBuiltinCall,k1,k2];refine zwb ?_;unfold isInstance
  repeat (first|lk|wp_step)
  exact q'
 refine ck _ _ _ ?_;unfold Builtin.«object.__getattribute__»;unfold find getOf dataDescriptor?
 repeat (first|lk|wp_step)
 refine wpAny_run (zi6 (s:=⟨hh,g,dr,t+1,os⟩) c X e ?_);refine zwp (zwp ?_);show wpAny _ _ (handedOut (Value.ref D)) _ _ _;rw[handedOut_of (show handedIn (Value.ref D)=true from rfl)];exact zwp (zwp h)
theorem qB(c:yU K D):KitX K (.ref x) (.ref D) (zaS x (.ref D)) where
 ty:=fun _ _ _ e=>e.ty
 it:=fun _ _ X _=>by
  obtain⟨cd,hc⟩:=Option.isSome_iff_exists.mp c.cd;unfold clsIn at hc;split at hc
  ·rename_i c' d' cd' sl' ho
   intro A' Q' E' s' k q;unfold isType;unfold loadHead;exact zwb (wpAny_loadPart (k _ _ (X _ _ ho)) (zwp q))
  ·cases hc
 ne:=fun h tp dd its n sl X htp=>by
  obtain⟨cd,hc⟩:=Option.isSome_iff_exists.mp c.cd;refine Bool.eq_false_iff.mpr fun q=>?_;have z:D=tp:=Value.ref.inj (beq_iff_eq.mp q);subst z;unfold clsIn at hc;split at hc
  ·rename_i c' d' cd' sl' ho
   have w:=(X _ _ ho).symm.trans htp;cases w
  ·cases hc
 ca:=fun X e k=>zfh c X e k
end
end L2
namespace L2
open PySem PySem.Spec PyProof.Rows
section
variable {X:Cx}
theorem zah:∀{cs:List Addr}{us:List Value},zV (cs.map V.ref) us->us=cs.map Value.ref
 | [],_,.nil=>rfl
 | c::cs,_,.cons r t=>by
  cases r;rw[zah t];rfl
structure wD(k:Nat)(A:Around):Prop where
 dp:A.depth+3 * k+5<recursionLimit
 un:A.units+16 * k+200<cLine
theorem yn.m{k:Nat}{A:Around}(r:yn k A):wD k A:=⟨r.dp,r.un⟩
theorem wD.mark{k:Nat}{A:Around}(r:wD k A)(h:Option Value):wD k (A.mark h):=⟨r.dp,r.un⟩
theorem wD.deeper{k:Nat}{A:Around}(r:wD (k+1) A)(env:Env):wD k (A.deeper env):=
 ⟨by have:=r.dp;show A.depth+1+3 * k+5<_;omega,by have:=r.un;show A.units+3+16 * k+200<_;omega⟩
theorem wD.depth{k:Nat}{A:Around}(r:wD k A):A.depth<recursionLimit:=by have:=r.dp;omega
structure zhF(P:Program)(w:World)(K:Frag)(mg:Str->Option Value)(base:Heap)(k:Nat)(f:Addr)(fd:FuncData)(ps:List Str)(sp:Sp):Prop where
 len:∀vs H Q E,sp vs H Q E->vs.length=ps.length
 run:∀(A:Around) (outer:List Env) (s:Shared) (H:Hp) (args:Args) (us:List Value) (vs:List V) (Q:VK),wD k A->qW P w K mg base A outer s H->BindsTo s fd args (ps.zip us)->zV vs us->sp vs H Q E0->
  codeAny (model P w) A (.call (.ref f) args) (CR CX0 outer P w H s Q E0) s
abbrev qL(P:Program)(w:World)(K:Frag)(mg:Str->Option Value)(base:Heap)(N:List Str)(qual:Str)(scope:Scope)(f:Addr)(cd:Value)(A:Around)(outer:List Env)(s:Shared)(H:Hp):Cx:=
 { jD CX0 P w K mg base N qual scope f cd A outer s H E0 with calm:=false,xe:=fun _ _=>False }
variable {P:Program}{w:World}{K:Frag}{mg:Str->Option Value}{base:Heap}
theorem qF{N ps:List Str}{qual:Str}{scope:Scope}{f:Addr}{cd:Value}{A:Around}{outer:List Env}{s s1:Shared}{H:Hp}{us:List Value}{vs:List V}
  (S:zt N ps scope) (e0:qW P w K mg base A outer s H) (hl:vs.length=ps.length) (r:zV vs us)
  (x:InCallC s s.heap.objs.size (bindL (envOfC qual scope s.heap.objs.size f cd).kindOf (ps.zip us) fun _=>none) (cellsFrom (s.heap.objs.size+1) scope.names []) (bindC (envOfC qual scope s.heap.objs.size f cd).kindOf (ps.zip us) fun _=>none) s1) :
  Inv (qL P w K mg base N qual scope f cd A outer s H) [] (xP N vs) H s1:=by
 have e1:qW P w K mg base { A with handled:=none } outer s H:=⟨e0.frames,e0.mod,e0.bs,e0.bsz,e0.funs,e0.frf,e0.hok,e0.bare⟩
 have I:Inv (jD CX0 P w K mg base N qual scope f cd { A with handled:=none } outer s H E0) [] (xP N vs) H s1:=zaD S rfl e1 hl r x
 exact⟨⟨I.ok.mod,I.ok.kind,I.ok.glob,I.ok.blt,I.ok.above,I.ok.inj,I.ok.has,I.ok.cab,(fun z=>Bool.noConfusion z),Around.frames_deeper e0.frames,I.ok.stk,I.ok.exf,I.ok.bs,I.ok.bsz,I.ok.noex,I.ok.exfs,I.ok.funs,I.ok.frf⟩,I.os,I.bare,I.base,I.loc,I.cell,I.free,I.freeC,I.pin,I.hok,I.len⟩
theorem Fun.okM{x qual:Str}{st:Stmt}{f:Addr}{fd:FuncData}{N ps:List Str}{k:Nat}{sp:Sp}(F:Fun K x qual st f fd)(S:zt N ps (zj st))(len:∀vs H Q E,sp vs H Q E->vs.length=ps.length)
  (hbody:∀(cdv:Value) (A:Around) (outer:List Env) (s:Shared) (H:Hp) (vs:List V) (Q:VK),wD k (A.deeper (envOfC qual (zj st) s.heap.objs.size f cdv))->sp vs H Q E0->
   ∃t,PSs (qL P w K mg base N qual (zj st) f cdv A outer s H) (z5 st) t/\t { nx:=fun _ H'=>Q .non H',rt:=Q } (xP N vs) H):zhF P w K mg base (k+1) f fd ps sp:=by
 obtain⟨oc,od,kV,doc,pm,an,cdv,ct,osl,rfl,lk,hcd⟩:=F.ex;exists len,fun A outer s H args us vs Q hr e0 hb r hsp=>?_;have hl:=len _ _ _ _ hsp;have KX:K.In s.heap:=e0.mod.kin.keeps fun b o e=>(e0.bs b o e).1;have lim:s.heap.NoLimit:=e0.mod.nolimit.keeps fun b o e=>(e0.bs b o e).1;have hkind:∀y∈ps.zip us,(zj st).names.lookup y.1=some .local\/((zj st).names.lookup y.1=some .cell/\((cellsFrom (s.heap.objs.size+1) (zj st).names []).lookup y.1).isSome=true):=fun⟨n,v⟩ hy=>by
  rcases S.par n (of_mem_zip hy).1 with q|q
  ·exact .inl q
  ·exact .inr ⟨q,cellsFrom_some _ _ _ (.inl q)⟩
 refine codeAny_call_function hr.depth (KX _ _ lk) rfl S.co S.gen rfl (codeRec_of KX hcd) (hb _ _ _ _ ?_);refine wpAny_newFunctionEnv_cells S.kind hkind fun env he s1 x=>?_;subst he;exists lim.keeps x.toInCall.keep,codeAny_func ?_;obtain⟨t,ht,hq⟩:=hbody cdv A outer s H vs Q (hr.deeper _) hsp;have I:Inv (qL P w K mg base N qual (zj st) f cdv A outer s H) [] (xP N vs) H s1:=qF S e0 hl r x;refine wpAny_mono (ht [] s1 (xP N vs) H _ I hq) (fun fl s' hs=>?_) fun e s' hs=>hs.elim;have fin:∀{σ':St}{H':Hp}{v:V}{u:Value},Inv (qL P w K mg base N qual (zj st) f cdv A outer s H) [] σ' H' s'->zW v u->Q v H'->CE outer P w H s Q u s':=
  fun {σ' H' v u} J rv q=>⟨v,H',J.os,J.bare,J.base,J.hok,rv,q⟩
 cases fl with
 | ret u=>
  obtain⟨v,σ',H',J,rv,q⟩:=hs;exact fin J rv q
 | next=>
  obtain⟨σ',H',J,q⟩:=hs;exact fin (v:=V.non) (u:=Value.none) J rfl q
 | brk=>
  obtain⟨_,_,_,q⟩:=hs;exact False.elim q
 | cont=>
  obtain⟨_,_,_,q⟩:=hs;exact False.elim q
structure zby(P:Program)(w:World)(K:Frag)(mg:Str->Option Value)(base:Heap)(k:Nat)(x:Str)(f:Addr)(fd:FuncData)(ps:List Str)(sp:Sp):Prop where
 ok:zhF P w K mg base k f fd ps sp
 mg:mg x=some (.ref f)
 kp:keepIn K (.ref f)=true
 bd:z0 K fd ps []
variable {k:Nat}{f:Addr}{fd:FuncData}{ps:List Str}{sp:Sp}{x:Str}{p pos:Pos}{e:Expr}{es:List Expr}{t:TA}
theorem cM(c:zby X.prog X.w X.K X.mg X.base k x f fd ps sp)(hr:wD k X.A)(ha:PA X (e::es) t)(hg:Gl X x:=by rfl)(hdb:(x==("__debug__" : Str))=false:=by decide)
  (h1:wB e=false:=by rfl) (h2:es.any wB=false:=by rfl):PE X (.Call (.Name x p) (e::es) [] pos) (jV sp [] E0 t):=by
 exists ?_;intro pins s σ H Q I h;refine wpAny_Call_Name_kw (wa I hg c.mg ?_ hdb);refine callWith_K (h₀:=X.base) I.ok.mod.kin c.kp (thn (ha pos pins s σ H _ I h) fun us s1 ⟨vs,H1,I1,r,q⟩=>⟨I1.kIn,?_⟩) (yC h1) (xA h2);have r2:zV (vs++[]) (us++[]):=r.append .nil;have hl:(us++[]).length=ps.length:=by rw[<- r2.length];exact c.ok.len _ _ _ _ q
 refine wpAny_call (codeAny_mono (c.ok.run X.A X.stack s1 H1 ⟨us,[]⟩ (us++[]) (vs++[]) Q hr I1.env0 (c.bd s1 us I1.kIn hl) r2 q) fun r s' hq=>?_);cases r with
 | error e=>exact False.elim hq
 | ok fl=>
  cases fl with
  | ret u=>exact I1.after hq
  | next=>exact False.elim hq
  | brk=>exact False.elim hq
  | cont=>exact False.elim hq
end
section
variable {prog:Program}{w:World}{A:Around}{E:VSP}{s:Shared}{r:Addr}{n:Int}{t u v:Tok}
variable {X:Cx}{tg:Expr}
variable {o i:Expr}{to ti:TE}{pos tpos:Pos}
inductive zmvJ(x:V)(y:V)(H:Hp)(Q:VK):Prop|mk(a c:Addr)(xs ys:List V):x=.ref a->y=.ref c->H a=some (.lst xs)->H c=some (.lst ys)->xs.length≠ys.length->(Q (.bl false) H)->zmvJ x y H Q
def zmv:R2:=fun x y H Q=>zmvJ x y H Q
theorem qt(hu:X.A.units<cLine):OpR X (compareOp .Eq) zmv:=by
 intro pins s σ H x y v u Q I rx ry h;obtain⟨a,c,xs,ys,rfl,rfl,ha,hc,hn,q⟩:=h;cases rx;cases ry;obtain⟨its,r,pl,_⟩:=I.list (ze ha);obtain⟨its2,r2,pl2,_⟩:=I.list (ze hc);have e1:=r.length;have e2:=r2.length;exact PySem.SeqAt.eq_list_lengthsAt pl.isList pl2.isList (by simp only[size_toArray,bne_iff_ne];omega) hu ⟨.bl false,H,I,rfl,q⟩
variable {pins:PnL}{σ:St}{e:Expr}{te:TE}{p:Pos}{C:Addr}{x:Str}
theorem wz{H H1:Hp}{x dx:Addr}{o1 o2:HO}(hx:H x=none)(hd:H dx=none)(s:zn (upd (upd H dx (.own x)) x o1) H1):zn H (upd H1 x o2):=fun b u q=>by
 rw[zi (zd q hx)];exact s _ _ (xF hx hd b u q)
structure zfx(P:Program)(w:World)(K:Frag)(mg:Str->Option Value)(base:Heap)(CX:CXT)(k:Nat)(x:Str)(C i:Addr)(fd:FuncData)(ps:List Str)(ds:List Value)(sp:Sp):Prop where
 mkr:Mk K C i
 ok:zC P w K mg base CX k i fd ps sp
 mg:mg x=some (.ref C)
 bd:z0 K fd ps ds
end
section
variable {X:Cx}{CX:CXT}{k:Nat}{C i f:Addr}{fd:FuncData}{ps ks:List Str}{sp:Sp}{E:XK}{x m:Str}{p pos apos:Pos}{e:Expr}{es:List Expr}{t tk:TA}{ds:List Value}{dvs:List V}{kws:List Keyword}
 {g:List Value->List Value->List Value}{gV:List V->List V->List V}
theorem cMk(c:zfx X.prog X.w X.K X.mg X.base CX k x C i fd ps ds sp)(hd:zV dvs ds)(hp:xG CX X E)(hr:yn (k+1) X.A)(ha:PA X (e::es) t)(hg:Gl X x:=by rfl)(hdb:(x==("__debug__" : Str))=false:=by decide)
  (h1:wB e=false:=by rfl) (h2:es.any wB=false:=by rfl):PE X (.Call (.Name x p) (e::es) [] pos) (zjm C sp dvs E t):=zed c.mkr c.ok hr hg c.mg c.bd hd hp ha hdb (yC h1) (xA h2)
structure qX(K:Frag)(C:Addr)(m:Str)(f:Addr):Prop where
 ga:specialIn K (.ref C) "__getattribute__"=some (some (.builtin "type.__getattribute__"))
 rd:PySem.W.readsIn K C (.type "type")=true
 fc:PySem.W.findCls K (.ref C) (.type "type") m=some (.val (.ref f))
 kp:keepIn K (.ref f)=true
theorem zb0{pl:Sem Bool}(B:qX X.K C m f)(hm:X.mg x=some (.ref C))(F:zC X.prog X.w X.K X.mg X.base CX k f fd ps sp)(hr:yn k X.A)(hb:z0 X.K fd ps [])(hx:xG CX X E)(ha:PA X (e::es) t)(hg:Gl X x:=by rfl)
  (hdb:(x==("__debug__" : Str))=false:=by decide) (h1:wB e=false:=by rfl) (h2:es.any wB=false:=by rfl)
  (ht:eval (.Call (.Attribute (.Name x p) m apos) (e::es) [] pos) X.env=(do
   let ov <- eval (.Name x p) X.env
   standAt apos.atName
   let (f,first) <- holding [ov] (getMethod ov m pl)
   callWith pos f first (backTo pos (starEach (e::es) X.env)) (backToKw pos (keywordEach [] X.env))):=by rfl) :
  PE X (.Call (.Attribute (.Name x p) m apos) (e::es) [] pos) (jV sp [] E t):=by
 exists ?_;intro pins s σ H Q I h;refine methodCall_KW (pl:=pl) (wa I hg hm ?_ hdb) ht;refine PySem.W.method_cls I.kIn B.ga (PySem.W.cls_value I.kIn B.rd B.fc rfl ?_);have It:=I.tok (s.toks+1);refine callWith_K (first:=[]) (h₀:=X.base) I.ok.mod.kin B.kp (thn (ha pos pins _ σ H _ It h) fun us s2 ⟨vs,H2,I2,r,q2⟩=>⟨I2.kIn,?_⟩) (yC h1) (xA h2)
 exact qg F hr hb .nil hx I2 r q2
theorem xC{X:Cx}{st:Stmt}:PS X st (fun _ _ _=>False):=⟨fun _ _ _ _ _ _ h=>h.elim⟩
def zmU(P:Program)(w:World)(a:Addr)(S:Str->Bool)(n:Nat)(h:Heap):Prop:=h.SetOf (strKind P w) a S n
abbrev vE(P:Program)(w:World)(a:Addr)(S:Str->Bool)(n:Nat):HO:=.ext (zmU P w a S n)
theorem za3{P:Program}{w:World}{H:Hp}{h:Heap}{a:Addr}{S:Str->Bool}{n:Nat}(e:h.SetOf (strKind P w) a S n):yB P w H h a (vE P w a S n):=
 ⟨e,let ⟨o,_,_,_,h1,_⟩:=e;⟨o,h1⟩,fun g1 g2 q k=>let ⟨o,es,ep,t,h1,c⟩:=q;⟨o,es,ep,t,k o h1,c⟩⟩
theorem zfq:xh X (.type "set") (fun xs H Q=>xs=[]/\∀p,H p=none->Q (.ref p) (upd H p (vE X.prog X.w p (fun _=>false) 0))):=by
 intro pins s σ H xs us Q I r h;obtain⟨rfl,q⟩:=h;cases r;refine call_set_0 fun led=>?_;have hf:H s.heap.objs.size=none:=I.hok.fresh (aF _);exists .ref s.heap.objs.size,_,I.laid (t':=s.toks) (fun b u e=>zgp _ e) (aF _) (za3 ?_),rfl,q _ hf;exact(setObjOf_fresh led).setOf (zgs _ rfl) (by decide)
theorem qp:OpR X (compareOp .In) (fun x y H Q=>∃(a:Addr) (S:Str->Bool) (n:Nat) (z:Str),x=.str z/\y=.ref a/\H a=some (vE X.prog X.w a S n)/\Q (.bl (S z)) H):=by
 intro pins s σ H x y v u Q I rx ry h;obtain⟨a,S,n,z,rfl,rfl,e,q⟩:=h;obtain⟨t,rfl⟩:=rx;cases ry;have hS:s.heap.SetOf (strKind X.prog X.w) a S n:=(I.hok a _ e).1;exact wpAny_inSet_of (strKind_is X.prog X.w z t) rfl hS ⟨.bl (S z),H,I.tok _,rfl,q⟩
inductive zk9J(P:Program)(w:World)(te:TE)(σ:St)(Q:VK)(x:V)(H1:Hp):Prop|mk(a:Addr)(S:Str->Bool)(n:Nat):x=.ref a->H1 a=some (vE P w a S n)->(te σ H1 fun y H2=>∃(S:Str->Bool) (n:Nat) (z:Str),y=.str z/\H2 a=some (vE P w a S n)/\n+1<scanBound/\Q .non (upd H2 a (vE P w a (fun k=>S k||decide (k=z)) (if S z then n else n+1))))->zk9J P w te σ Q x H1
def zk9(P:Program)(w:World)(to te:TE):TE:=fun σ H Q=>to σ H fun x H1=>zk9J P w te σ Q x H1
theorem zij{o e:Expr}{apos cpos:Pos}{to te:TE}(ho:PE X o to)(he:PE X e te)(m:M1 X o "add" apos e cpos):PE X (.Call (.Attribute o "add" apos) [e] [] cpos) (zk9 X.prog X.w to te):=by
 exists ?_;intro pins s σ H Q I h;refine wpAny_Call_method m.base m.few m.line PySem.F.plainAttrs_set PySem.F.slot_set_add PySem.F.type_set_add (thn (ho pins s σ H _ I h) fun u s1 ⟨x,H1,I1,rx,a,S,n,ex,d,q1⟩=>?_);subst ex;obtain rfl:u=Value.ref a:=rx;have hS:s1.heap.SetOf (strKind X.prog X.w) a S n:=(I1.hok a _ d).1;exists hS.typeIs,hS.noDict,?_;rw[m.trees];refine Calls.callWith_builtin rfl (Calls.evalArgs_plain (Calls.spliced_cons (thn (he pins s1 σ H1 _ I1 q1) fun iv s2 ⟨y,H2,I2,ry,S2,n2,z,ey,e2,hn,q2⟩=>Calls.spliced_nil ?_)));subst ey;obtain⟨t,rfl⟩:=ry;have hS2:s2.heap.SetOf (strKind X.prog X.w) a S2 n2:=(I2.hok a _ e2).1;refine call_set_add (strKind_is X.prog X.w z t) rfl hS2 hn fun h' hs hS3=>⟨.non,_,?_,rfl,q2⟩;refine I2.write (x:=a) (e:=a) (by rw[e2];exact True.intro) (.inl rfl) (fun b q hb z=>(hs.2 b hb).trans z) (let ⟨o,_,_,_,h1,_⟩:=hS3;⟨o,h1⟩) (za3 hS3)
inductive zjPJ(Cs:Addr->Prop)(m:Str)(sp:Sp)(E:XK)(Q:VK)(x:V)(H1:Hp):Prop|mk(a C dx fs:_):x=.ref a->Cs C->H1 a=some (.ins C dx fs)->fs.lookup m=none->(sp [x] H1 Q E)->zjPJ Cs m sp E Q x H1
def zjP(Cs:Addr->Prop)(m:Str)(sp:Sp)(E:XK)(ta:TE):TE:=fun σ H Q=>ta σ H fun x H1=>zjPJ Cs m sp E Q x H1
theorem vN{CX:CXT}{k:Nat}{f:Addr}{fd:FuncData}{ps:List Str}{sp:Sp}{E:XK}{m:Str}{pos apos:Pos}{o:Expr}{ta:TE}{Cs:Addr->Prop}{pl:Sem Bool}(he:PE X o ta)(hC:∀C,Cs C->Cls X.K C/\xH X.K C m f)(F:zC X.prog X.w X.K X.mg X.base CX k f fd ps sp)(hr:yn k X.A)(hb:z0 X.K fd ps [])(hx:xG CX X E)
  (ht:eval (.Call (.Attribute o m apos) [] [] pos) X.env=(do
   let ov <- eval o X.env
   standAt apos.atName
   let (f,first) <- holding [ov] (getMethod ov m pl)
   callWith pos f first (backTo pos (starEach [] X.env)) (backToKw pos (keywordEach [] X.env))):=by rfl) :
  PE X (.Call (.Attribute o m apos) [] [] pos) (zjP Cs m sp E ta):=by
 exists ?_;intro pins s σ H Q I h;refine methodCall_KW (pl:=pl) (thn (he pins s σ H _ I h) fun u s1 ⟨x,H1,I1,rx,a,C,dx,fs,ex,hc,ea,l,q⟩=>?_) ht;subst ex;obtain rfl:u=Value.ref a:=rx;obtain⟨c,hm⟩:=hC C hc;refine uC I1 ea c hm l ?_;exact PySem.W.callWith_K0 (first:=[.ref a]) I1.kIn hm.kp (qg (us:=[.ref a]) (vs:=[.ref a]) F hr hb .nil hx I1 (.cons rfl .nil) q)
structure zk0(w:World)(K:Frag)(a:Addr)(f:Str->Option V):Prop where
 obj:∃es n,K.lookup a=some ⟨.type "dict",none,.dict es n,#[]⟩/\KeysLit w.params es.toList
 vals:∀x v,f x=some v->∃u,nsIn K a x=some (some u)/\zW v u
theorem zik{e:Expr}{d:Str}{p pos:Pos}{a:Addr}{f:Str->Option V}{te:TE}(T:zk0 X.w X.K a f)(hm:X.mg d=some (.ref a))(he:PE X e te)(hg:Gl X d:=by rfl)(hs:zkZ e:=by first|exact fun _ _=>rfl|decide|rfl)(hdb:(d==("__debug__" : Str))=false:=by decide):
  PE X (.Subscript (.Name d p) e pos) (fun σ H Q=>te σ H fun y H1=>∃x v,y=.str x/\f x=some v/\Q v H1):=by
 exists ?_;intro pins s σ H Q I h;obtain⟨es,n,hl,hk⟩:=T.obj;refine zdY PySem.F.slot_dict_getitem.lookup hs (wa I hg hm (thn (he pins s σ H _ I h) fun iv s2 ⟨y,H2,I2,ry,x,v,ey,ef,q2⟩=>?_) hdb);subst ey;obtain⟨t,rfl⟩:=ry;obtain⟨u,eu,ru⟩:=T.vals x v ef;have hmap:=PySem.W.mapOf_K (prog:=X.prog) (w:=X.w) I2.kIn hl hk;exact⟨hmap.typeIs,wpAny_getItem_of (strKind_is X.prog X.w x t) hmap (PySem.W.find_K hl eu) ⟨v,H2,I2.tok _,ru,q2⟩⟩
variable {pins:PnL}{σ:St}{H:Hp}{s:Shared}{sc:Scope}{fr Nc:List Str}{fp:List Addr}
theorem zct{caps:List (Option Nat)}{h':Heap}{D:Addr}{m:Str->Option Value}{t':Nat}{o0:HO}(I:Inv X pins σ H s)(B:yR X.env sc fr)(hf:∀b∈fp,wQ X pins H b)(ho:∀b∈fp,∃o,s.heap.get? b=some o)
  (hC:s.heap.objs.size<=C) (hD:s.heap.objs.size<=D) (hDC:D≠C) (keep:∀b o,s.heap.get? b=some o->h'.get? b=some o) (new:yB X.prog X.w (upd H D o0) h' D o0) (hn:h'.Ns C m)
  (hcap:wP X.N Nc caps X.env sc fr=true) (hlen:caps.length=Nc.length) :
  Inv (zO X pins sc fr Nc fp s H C) [] (yW caps σ) (upd H D o0) { s with heap:=h',toks:=t' }:=by
 have hk:X.env.scope.kind=.function:=I.ok.kind;have fresh:∀a,s.heap.objs.size<=a->H a=none:=fun a ha=>I.hok.fresh ha;exists zey I B hf ho hC,rfl,I.bare,Un.laid keep hD (fresh D hD),⟨m,hn,fun i x v e1 e2 e3=>?_⟩,fun x c h=>?_,?_,fun x c h=>?_,fun p hp=>?_,?_,?_
 ·
  have e2':(caps[i]?).map (fun o=>match o with|none=>none|some j=>(σ[j]?).join)=some (some v):=by
   have:(yW caps σ)[i]?=some (some v):=e2
   unfold yW at this;rw[getElem?_map] at this;exact this
  cases hc:caps[i]? with
  | none=>rw[hc] at e2';cases e2'
  | some o=>
   rw[hc] at e2';cases o with
   | none=>simp at e2'
   | some j=>
    have e4:(σ[j]?).join=some v:=by simpa using e2'
    have e5 : σ[j]?=some (some v):=by
     cases q : σ[j]? with
     | none=>rw[q] at e4;cases e4
     | some w'=>rw[q] at e4;simp at e4;rw[e4]
    have e6:(Nc.zip caps)[i]?=some (x,some j):=by
     rw[List.getElem?_zip_eq_some];exact⟨e1,hc⟩
    have e7:=List.all_eq_true.mp hcap _ (aH e6);simp only[Bool.and_eq_true,beq_iff_eq,List.contains_iff_mem] at e7;obtain⟨⟨⟨a1,a2⟩,a3⟩,a4⟩:=e7;obtain⟨m0,hn0,hl0⟩:=I.loc;obtain⟨u,r,l⟩:=hl0 j x v a1 e5 (.inr (.inl a2));exists u,r,.inr ⟨.inl (vh hk a3 a2),_,zbu a4,?_⟩;rcases l with ⟨z,_⟩|⟨_,c,ec,hcell⟩
    ·rw[a2] at z;cases z
    ·have:(X.env.cells.lookup x).getD 0=c:=by rw[ec];rfl
     rw[this];exact hcell.keeps keep
 ·obtain⟨v,hv⟩:=I.cell x c (B.sub h)
  exact⟨v,hv.keeps keep⟩
 ·show upd H D o0 C=none
  rw[zi (Ne.symm hDC)];exact fresh C hC
 ·obtain⟨v,hv⟩:=I.cell x c (B.sub h)
  have:c≠D:=fun z=>by have:=hv.lt;rw[z] at this;exact absurd (lt_of_lt_of_le this hD) (lt_irrefl _)
  rw[zi this];exact I.freeC x c (B.sub h)
 ·have hp':p∈X.pn++pins:=by simpa using hp
  obtain⟨e,n,ne,nf,d⟩:=I.pin p hp';have hlt:=I.pin_lt hp';exists keep _ _ e,?_,?_,fun z=>?_,d
  ·rw[zi (fun z=>by rw[z] at hlt;exact absurd (lt_of_lt_of_le hlt hD) (lt_irrefl _))];exact n
  ·intro z
   have z':p.1=C:=z;rw[z'] at hlt;exact absurd (lt_of_lt_of_le hlt hC) (lt_irrefl _)
  ·rcases List.mem_cons.mp (I.stkSub p.1 z) with q|q
   ·exact ne q
   ·exact nf q
 ·exact I.hok.laid keep hD new
 ·show(yW caps σ).length=Nc.length
  unfold yW;rw[aA,hlen]
variable {prog:Program}{w:World}{A:Around}{R:Result->Shared->Prop}
theorem zab{kx vx target iter:Expr}{ifs:List Expr}{scope:Scope}{pos:Pos}{it:Value}{D:Addr}{env:Env}(I:Nat->Shared->Prop)
  (turn:∀n s,I n s->wpAny (model prog w) A (pyNext it) (fun r s₁=>match r with
   | none=>R (.ok .next) s₁
   | some v=>wpAny (model prog w) A (letOwnedTupleGo target it v) (fun _ s₀=>wpAny (model prog w) A (assign target env v) (fun _ s₂=>
     wpAny (model prog w) A (forIn ifs true fun c r=>if r=true then do let ok <- isTrue c env (eval c env);pure (ForInStep.yield ok) else pure (ForInStep.yield r)) (fun ok s₃=>
      if ok=true then wpAny (model prog w) A (eval kx env) (fun kv s₄=>wpAny (model prog w) A (eval vx env) (fun vv s₅=>
       wpAny (model prog w) A (dictSet D kv vv) (fun _ s₆=>∃m,m<n/\I m s₆) (fun _ _=>False) s₅) (fun _ _=>False) s₄) (fun _ _=>False) s₃
      else ∃m,m<n/\I m s₃) (fun _ _=>False) s₂) (fun _ _=>False) s₀) (fun _ _=>False) s₁) (fun _ _=>False) s)
  (n:Nat) (h:I n s) :
  codeAny (model prog w) A (.compLoop (.DictComp kx vx [⟨target,iter,ifs,0⟩] scope pos) 0 it (.ref D) env) R s:=by
 refine codeAny_loop rfl I (fun n s hI=>?_) n h;show wpAny _ A ((compTurn (.DictComp kx vx [⟨target,iter,ifs,0⟩] scope pos) 0 it (.ref D) env).onRaise (fun x=>do noteFrame x env;theTreesLotGoes x)) _ _ s
 refine wpAny_noted ?_;rw[compTurn_dict];refine zwb (wpAny_standAt (zwb (wpAny_mono (turn n s hI) (fun r s₁ h₁=>?_) fun _ _ z=>z.elim)));cases r with
 | none=>exact zwp h₁
 | some v=>
  refine zwb (wpAny_mono h₁ (fun _ s₀ h₀=>?_) fun _ _ z=>z.elim);refine zwb (wpAny_mono h₀ (fun _ s₂ h₂=>zwb (wpAny_mono h₂ (fun ok s₃ h₃=>?_) fun _ _ z=>z.elim)) fun _ _ z=>z.elim);cases ok with
  | false=>exact zwp ⟨rfl,h₃⟩
  | true=>
   exact zwb (zwb (wpAny_mono h₃ (fun kv s₄ h₄=>zwb (wpAny_holding (wpAny_mono h₄ (fun vv s₅ h₅=>zwb (wpAny_standAt (wpAny_holding (wpAny_mono h₅ (fun _ s₆ h₆=>zwp ⟨rfl,h₆⟩) fun _ _ z=>z.elim)))) fun _ _ z=>z.elim))) fun _ _ z=>z.elim))
def DCr(J:It)(caps:List (Option Nat))(g:TG)(tt:TT)(tk tv:TE)(σ : St)(H1:Hp)(Q:VK)(D:Addr):Prop:=
 ∃W:Nat->Nat->List (Key×V)->Hp->Prop,(∃m,W 0 m [] (upd H1 D (.dK [])))/\∀i m ys H,W i m ys H->
  (J.stop i H/\Q (.ref D) H)\/
  (J.go i H/\∀x H',J.yld i H x H'->g x (yW caps σ) H' fun σ2 H2=>tt σ2 H2 fun ok H3=>
   (ok=true->tk σ2 H3 fun y H4=>tv σ2 H4 fun v H5=>∃k,y=kV k/\H5 D=some (.dK ys)/\ys.length<sizeLine/\∃m',m'<m/\W (i+1) m' (yF ys k v) (upd H5 D (.dK (yF ys k v))))/\
   (ok=false->∃m',m'<m/\W (i+1) m' ys H3))
def tDC(wi:TI)(caps:List (Option Nat))(g:TG)(tt:TT)(tk tv:TE):TE:=fun σ H Q=>wi σ H fun J H1=>∀D,H1 D=none->DCr J caps g tt tk tv σ H1 Q D
end
section
variable {X:Cx}{pins:PnL}{σ:St}{s:Shared}{sc:Scope}{fr Nc:List Str}{caps:List (Option Nat)}{kx vx tg iter:Expr}{ifs:List Expr}{g:TG}{tt:TT}{tk tv:TE}{ow:List Nat}{pos pos2:Pos}{E:VSP}
theorem zlj{H:Hp}(I:Inv X pins σ H s):sysModules<s.heap.objs.size:=I.big
theorem zfo{H2:Hp}{it:Addr}{fp:List Addr}{tn:Nat->Heap->Prop}{J:It}{Q:VK}{RR:Value->Addr->Result->Shared->Prop}
  (hc:X.calm=true) (B:yR X.env sc fr) (go:qR g ow) (how:(ow.all fun i=>caps[i]?==some none)=true) (hcap:wP X.N Nc caps X.env sc fr=true) (hlen:caps.length=Nc.length)
  (hb:∀(pins:PnL) (fp:List Addr) (s:Shared) (H:Hp) (C:Addr),PG (zO X pins sc fr Nc fp s H C) tg g/\PIf (zO X pins sc fr Nc fp s H C) ifs tt/\PE (zO X pins sc fr Nc fp s H C) kx tk/\PE (zO X pins sc fr Nc fp s H C) vx tv)
  (I2:Inv X pins σ H2 s) (T:zae X.prog X.w X.K tg J fp it tn) (st2:tn 0 s.heap) (f2:∀b∈fp,wQ X pins H2 b) (h:∀D,H2 D=none->DCr J caps g tt tk tv σ H2 Q D)
  (fin:∀(D C:Addr) (σ':St) (H':Hp) (s':Shared),Inv (zO X pins sc fr Nc fp s H2 C) [] σ' H' s'->Q (.ref D) H'->RR (.ref D) C (.ok .next) s') :
  wpAny (model X.prog X.w) X.A newDict (fun acc s₃=>wpAny (model X.prog X.w) X.A (newFunctionEnv sc X.env.globals (clB X.env fr) [] X.env.qual none .none (some X.env)) (fun cenv s₄=>
   codeAny (model X.prog X.w) X.A (.compStart (.DictComp kx vx [⟨tg,iter,ifs,0⟩] sc pos) 0 (.ref it) acc { cenv with scope:=relabel sc X.env }) (RR acc cenv.locals) s₄) E s₃) E s:=by
 have hcell:∀y∈sc.names,y.2≠.cell:=fun y hy=>by
  have h3:=List.all_eq_true.mp B.names _ hy;simp only[Bool.and_eq_true,bne_iff_ne,ne_eq] at h3;exact h3.1.1
 refine wpAny_newObj_type (wpAny_newFunctionEnv hcell (by intro y hy;simp at hy) (fun h₁ hns₁ hsb₁=>?_) B.kind)
 dsimp only at hns₁ hsb₁ |-;have hnew:(s.heap.push { cls:=.type "dict",dict:=none,data:=.dict #[] }).DictOf (yl X.prog X.w) s.heap.objs.size []:=Heap.DictOf.new s.heap;generalize hH2:s.heap.push { cls:=.type "dict",dict:=none,data:=.dict #[] }=H3 at hns₁ hsb₁ hnew |-;have hCs:H3.objs.size=s.heap.objs.size+1:=by rw[<- hH2,Heap.size_push]
 have hDC:s.heap.objs.size≠H3.objs.size:=by rw[hCs];exact ne_of_lt (lt_succ_self _)
 have hC:s.heap.objs.size<=H3.objs.size:=by rw[hCs];exact le_succ _
 have old:∀b o,s.heap.get? b=some o->h₁.get? b=some o:=fun b o e=>
  hsb₁.extBut b o (ne_of_lt (lt_of_lt_of_le (aI e) hC)) (zgp _ (hH2 ▸ zgp _ e))
 have hsm:sysModules<s.heap.objs.size:=zlj I2;have hD:h₁.DictOf (yl X.prog X.w) s.heap.objs.size []:=hnew.at fun o e=>hsb₁.extBut _ _ hDC (zgp _ e);have hDo:∀H',yB X.prog X.w H' h₁ s.heap.objs.size (.dK []):=fun _=>⟨zero_le _,beq_eq_false_iff_ne.mpr (Ne.symm (ne_of_lt hsm)),[],.nil,hD⟩;have ho:∀b∈fp,∃o,s.heap.get? b=some o:=fun b hb'=>let ⟨o,e,_⟩:=T.obj 0 _ st2 b hb';⟨o,e⟩;have I4:∀t',Inv (zO X pins sc fr Nc fp s H2 H3.objs.size) [] (yW caps σ) (upd H2 s.heap.objs.size (.dK [])) { s with heap:=h₁,toks:=t' }:=fun t'=>
  zct I2 B f2 ho hC (aF _) hDC old (hDo _) hns₁ hcap hlen
 have ok:=(I4 0).ok;obtain⟨hbg,hbt,hbk,hbv⟩:=hb pins fp s H2 H3.objs.size;obtain⟨W,⟨m0,w0⟩,turn⟩:=h s.heap.objs.size (I2.hok.fresh (aF _));have stat:∀{H':Hp},(∀b∈fp,H' b=none)->∀b∈fp,wQ (zO X pins sc fr Nc fp s H2 H3.objs.size) [] H' b:=fun hn b hb'=>
  ⟨hn b hb',(ok.exf b hb').1,ok.exfs b hb',.inl hb',(ok.exf b hb').2,fun p hp=>(f2 b hb').2.2.2.2.2 p (by simpa using hp)⟩
 have hfp0:∀b∈fp,upd H2 s.heap.objs.size (.dK []) b=none:=fun b hb'=>by
  obtain⟨o,e⟩:=ho b hb';rw[zi (ne_of_lt (aI e))];exact(f2 b hb').1
 have loop:∀s₃:Shared,s₃={ s with heap:=h₁,toks:=s.toks+([]:List (Str×Value)).length }->
   codeAny (model X.prog X.w) X.A (.compLoop (.DictComp kx vx [⟨tg,iter,ifs,0⟩] sc pos) 0 (.ref it) (.ref s.heap.objs.size) (compEnvC sc (clB X.env fr) H3.objs.size X.env)) (RR (.ref s.heap.objs.size) H3.objs.size) s₃:=by
  rintro s₃ rfl;refine zab (fun n s'=>∃i σ' H' ys,Inv (zO X pins sc fr Nc fp s H2 H3.objs.size) [] σ' H' s'/\tn i s'.heap/\(∀b∈fp,H' b=none)/\W i n ys H'/\
   (∀(k:Nat) (v:V),(yW caps σ)[k]?=some (some v)->σ'[k]?=some (some v))) ?_ m0
   ⟨0,_,_,[],I4 _,T.keep _ _ _ st2 (fun b _ o e=>old b o e),hfp0,w0,fun _ _ e=>e⟩
  rintro n s3 ⟨i,σ3,H4,ys,I3,st3,fr3,w3,wk3⟩;have I3':Inv (zO X pins sc fr Nc fp s H2 H3.objs.size) [] (yW caps σ) H4 s3:=I3.weak (by rw[I3.len];exact(I4 0).len) wk3
  rcases turn i n ys H4 w3 with ⟨stop,qn⟩|⟨gg,step⟩
  ·refine thn (T.done (zO X pins sc fr Nc fp s H2 H3.objs.size) rfl rfl rfl hc i [] s3 _ H4 (fun _ _=>False) I3' (stat fr3) st3 stop) fun r s4 ⟨hr,I4'⟩=>?_
   subst hr;exact fin _ _ _ _ _ I4' qn
  ·refine thn (T.item (zO X pins sc fr Nc fp s H2 H3.objs.size) rfl rfl rfl hc i [] s3 _ H4 (fun _ _=>False) I3' (stat fr3) st3 gg) fun r s4 ⟨u,hr,h4⟩=>?_
   subst hr;refine thn h4 fun _ s5 ⟨x,H5,I5,r5,y5,st5,fr5⟩=>?_;have I5':=I5.pinned (stat fr5) (T.obj _ _ st5);refine thn (hbg _ s5 _ H5 x u _ I5' r5 (go _ _ _ _ (step x H5 y5))) fun _ s6 ⟨σ6,H6,I6,q6,l6,k6⟩=>?_;have wk6:∀(k:Nat) (v:V),(yW caps σ)[k]?=some (some v)->σ6[k]?=some (some v):=fun k v e=>by
    rw[k6 k fun hk=>?_]
    ·exact e
    ·have h1:=List.all_eq_true.mp how k hk
     have h2:caps[k]?=some none:=by simpa using h1
     unfold yW at e;rw[getElem?_map,h2] at e;cases e
   refine thn (hbt _ s6 σ6 H6 _ I6 q6) fun ok s7 ⟨H7,I7,q7⟩=>?_;have again:∀{H8:Hp}{s8:Shared}{ys':List (Key×V)},Inv (zO X pins sc fr Nc fp s H2 H3.objs.size) ([]++uw fp s5.heap) σ6 H8 s8->(∃m',m'<n/\W (i+1) m' ys' H8)->
     ∃m,m<n/\∃i σ' H' ys,Inv (zO X pins sc fr Nc fp s H2 H3.objs.size) [] σ' H' s8/\tn i s8.heap/\(∀b∈fp,H' b=none)/\W i m ys H'/\(∀(k:Nat) (v:V),(yW caps σ)[k]?=some (some v)->σ'[k]?=some (some v)):=fun {H8 s8 ys'} I8 ⟨m',hm,w8⟩=>by
    exists m',hm,i+1,σ6,H8,ys',I8.unpinned,T.keep _ _ _ st5 fun b hb' o e=>(I8.pin (b,o) (mem_append_right _ (mem_append_right _ (xn hb' e)))).1,fun b hb'=>?_,w8,wk6;obtain⟨o,e,d⟩:=T.obj _ _ st5 b hb';exact(I8.pin (b,o) (mem_append_right _ (mem_append_right _ (xn hb' e)))).2.1
   cases ok with
   | false=>
    rw[aJ zft];exact again I7 (q7.2 rfl)
   | true=>
    rw[aK rfl];refine thn (hbk _ s7 σ6 H7 _ I7 (q7.1 rfl)) fun uk s8 ⟨y,H8,I8,r8,q8⟩=>?_;refine thn (hbv _ s8 σ6 H8 _ I8 q8) fun uv s9 ⟨v,H9,I9,r9,k,ey,hD9,hz,q9⟩=>?_;subst ey;obtain⟨z,hd,vs,rel,dd⟩:=zhx I9.hok hD9;have hzs:vs.length<=sizeLine:=by rw[<- rel.length];exact z
    have hl:(yF ys k v).length<=sizeLine:=by have:=xI ys k v;omega
    refine wpAny_dictSet_pairs (hsz:=hzs) (ju r8) dd fun h' dd' hs=>?_;have he:∃q,h'.get? s.heap.objs.size=some q:=let ⟨q,_,_,hq,_⟩:=dd';⟨q,hq⟩;exact again (jQ I9 (by rw[hD9];exact True.intro) hs he (zdJ hl hd (rel.put k r9) dd')) q9
 exact codeAny_compStart_dict (loop _ rfl) (T.self _ 0 _ _ _ (T.keep _ _ _ st2 (fun b _ o e=>old b o e)) (loop _ rfl))
theorem zlA{wi:TI}(fr Nc:List Str)(caps:List (Option Nat))(hc:X.calm=true)(B:yR X.env sc fr)(hi:PI X tg iter wi)(go:qR g ow)(how:(ow.all fun i=>caps[i]?==some none)=true)
  (hcap:wP X.N Nc caps X.env sc fr=true) (hlen:caps.length=Nc.length)
  (hb:∀(pins:PnL) (fp:List Addr) (s:Shared) (H:Hp) (C:Addr),PG (zO X pins sc fr Nc fp s H C) tg g/\PIf (zO X pins sc fr Nc fp s H C) ifs tt/\PE (zO X pins sc fr Nc fp s H C) kx tk/\PE (zO X pins sc fr Nc fp s H C) vx tv)
  (hs:∀x,foldedSetIterable iter X.env x=pure x:=by intro _;rfl):PE X (.DictComp kx vx [⟨tg,iter,ifs,0⟩] sc pos) (tDC wi caps g tt tk tv):=by
 exists ?_;intro pins s σ H Q I h;rw[arm_eval_DictComp];refine wpAny_comprehension_free (use:=none) rfl hs B.clos B.kind B.loc (thn (hi pins s σ H _ I h) fun v s1 h1=>thn h1 fun itv s2 h2=>?_);obtain⟨it,fp,tn,J,H2,e,I2,T,st2,f2,q⟩:=h2;subst e;refine zfo (RR:=fun acc C=>compPost (model X.prog X.w) X.A X.xe none (EP X pins σ Q) acc C) hc B go how hcap hlen hb I2 T st2 f2 q ?_;intro D C σ' H' s' J' qq;obtain⟨m,hn,_⟩:=J'.loc;exact⟨m,hn,fun h' hs'=>⟨.ref D,H',jn I2 J' (v0 I2 f2 J') hs',rfl,qq⟩⟩
def eqT(xs ys:List V):Bool:=((List.range (min xs.length ys.length)).all fun j=>eqV (xs[j]?.getD .non) (ys[j]?.getD .non))&&xs.length==ys.length
end
end L2
namespace K26
open PySem L2 PyProof.Rows
def top(i:Nat):Stmt:=PySem.Challenge.pw_callbinds_k26_whole_one_step_beside.main.body.getD i (.Pass ⟨0,0,0,0⟩)
abbrev sIs:Stmt:=top 36
abbrev zcZ:Stmt:=yt (top 52) 0
abbrev zgc:Stmt:=yt (top 52) 1
abbrev qe:Stmt:=yt (top 52) 2
abbrev zbe:Stmt:=yt (top 52) 3
abbrev zcU:Stmt:=yt (top 52) 4
abbrev zf2:Stmt:=yt (top 52) 5
abbrev zf4:Stmt:=yt (top 53) 0
abbrev zgi:Stmt:=yt (top 54) 0
abbrev zf3:Stmt:=yt (top 55) 0
abbrev zj8:Stmt:=yt (top 56) 0
abbrev zkd:Stmt:=yt (top 57) 0
abbrev zc7:Stmt:=yt (top 42) 0
abbrev zgb:Stmt:=yt (top 42) 1
abbrev zc6:Stmt:=yt (top 42) 2
abbrev zc8:Stmt:=yt (top 42) 3
abbrev qd:Stmt:=yt (top 42) 4
abbrev zc5:Stmt:=yt (top 42) 5
abbrev zgg:Stmt:=yt (top 42) 6
abbrev zgf:Stmt:=yt (top 42) 7
abbrev zc4:Stmt:=yt (top 42) 8
abbrev zf1:Stmt:=yt (top 13) 0
abbrev zj9:Stmt:=top 58
abbrev zcW:Stmt:=top 43
abbrev zba:Stmt:=top 44
abbrev zcX:Stmt:=top 45
abbrev za9:Stmt:=top 46
abbrev zf7:Stmt:=top 47
abbrev zf8:Stmt:=top 1
abbrev qb:Stmt:=top 21
abbrev zcV:Stmt:=top 24
abbrev zbc:Stmt:=top 25
abbrev zkb:Stmt:=top 26
abbrev zc0:Stmt:=top 27
abbrev zj7:Stmt:=top 28
abbrev zf9:Stmt:=top 29
abbrev zf6:Stmt:=top 31
abbrev za8:Stmt:=top 32
abbrev zcY:Stmt:=top 23
abbrev zc9:Stmt:=top 30
abbrev zgh:Stmt:=top 60
abbrev zc3:Stmt:=top 61
abbrev zka:Stmt:=top 62
abbrev zf5:Stmt:=top 63
abbrev zgd:Stmt:=top 65
abbrev zcT:Stmt:=top 64
abbrev zc2:Stmt:=top 67
abbrev zcS:Stmt:=top 68
abbrev qc:Stmt:=top 69
abbrev zcR:Stmt:=top 72
abbrev zkc:Stmt:=top 81
abbrev zc1:Stmt:=top 66
abbrev zcQ:Stmt:=top 70
abbrev zga:Stmt:=top 71
abbrev zbb:Stmt:=top 73
abbrev zbd:Stmt:=top 74
abbrev jc:Stmt:=top 75
abbrev j9:Stmt:=top 76
abbrev qa:Stmt:=top 77
abbrev zbf:Stmt:=top 78
abbrev zbg:Stmt:=top 79
abbrev za7:Stmt:=top 80
abbrev zge:Stmt:=top 22
def low(c:Nat):Bool:=decide (97<=c)&&decide (c<=122)
def xO(z:Str):Bool:=decide (1<=z.length)&&decide (z.length<=8)&&z.cps.toList.all low
def nmV:V->Bool
 | .str z=>xO z
 | _=>false
def OkS(z:Str):Prop:=z.length<=1000/\∀c∈z.cps.toList,c<128
def OkV(K:Frag)(H:Hp)(x:V):Prop:=(∃z,x=.str z/\OkS z)\/(nmV x=false/\∃t,uh K H x t/\kitOne K t (.type "str")=some false)
theorem xX:xO z=true ↔ 1<=z.length/\z.length<=8/\∀c∈z.cps.toList,97<=c/\c<=122:=by
 unfold xO low;simp only[Bool.and_eq_true,decide_eq_true_eq,all_eq_true];constructor
 ·rintro⟨⟨a,b⟩,c⟩;exact⟨a,b,c⟩
 ·rintro⟨a,b,c⟩;exact⟨⟨a,b⟩,c⟩
theorem qy(h:z.length=0\/9<=z.length):xO z=false:=by
 cases e:xO z with
 | false=>rfl
 | true=>
  have:=xX.mp e
  omega
theorem zb6(h:xO z=true):OkS z:=by
 obtain⟨_,h2,h3⟩:=xX.mp h;exact⟨by omega,fun c hc=>by have:=h3 c hc;omega⟩
def letters:Str:="abcdefghijklmnopqrstuvwxyz"
theorem zdp:∀c:Nat,c<128->(!(Builtin.Str.occurrences letters ⟨#[c]⟩ 0 letters.length 1).isEmpty)=low c:=by symm
theorem zc(h:H p=none)(o:HO):zn H (upd H p o):=fun b u q=>by rw[zi (zd q h)];exact q
theorem zeE{K:Frag}{H H':Hp}{x:V}{t:Value}(s:zn H H')(h:uh K H x t):uh K H' x t:=by
 cases h with
 | non=>exact .non
 | bl b=>exact .bl b
 | int i=>exact .int i
 | str z=>exact .str z
 | flt z=>exact .flt z
 | lst e=>exact .lst (s _ _ e)
 | frz e=>exact .frz (s _ _ e)
 | tup e=>exact .tup (s _ _ e)
 | dK e=>exact .dK (s _ _ e)
 | dT e=>exact .dT (s _ _ e)
 | ins e a b c d f=>exact .ins (s _ _ e) a b c d f
theorem OkV.same{K:Frag}{H H':Hp}{x:V}(s:zn H H')(h:OkV K H x):OkV K H' x:=by
 rcases h with h|⟨h,t,ty,e⟩
 ·exact .inl h
 ·exact .inr ⟨h,t,zeE s ty,e⟩
theorem nd1:([Str.ofString "sign"]:List Str).Nodup:=by symm
inductive zjU(K:Frag)(vs:List V)(H:Hp)(Q:VK)(E:XK):Prop|mk(x:_):vs=[x]->OkV K H x->(∀H',zn H H'->Q (.bl (nmV x)) H')->zjU K vs H Q E
structure zl5(K:Frag)(mg:Str->Option Value):Prop where
 isi:mg "isinstance"=none
 str:mg "str"=none
 bool:mg "bool"=none
 len:mg "len"=none
 all:mg "all"=none
 range:mg "range"=none
 letters:∃t,mg "LETTERS"=some (.str letters t)
 longest:∃t,mg "LONGEST"=some (.int 8 t)
 kNon:kitOne K (.type "NoneType") (.type "str")=some false
 kInt:kitOne K (.type "int") (.type "str")=some false
 kBl:kitOne K (.type "bool") (.type "str")=some false
 kLst:kitOne K (.type "list") (.type "str")=some false
 kTup:kitOne K (.type "tuple") (.type "str")=some false
 kDct:kitOne K (.type "dict") (.type "str")=some false
 kStr:kitOne K (.type "str") (.type "str")=some true
 bBl:kitOne K (.type "bool") (.type "bool")=some true
section
variable {P:Program}{w:World}{K:Frag}{mg:Str->Option Value}{base:Heap}
theorem zmq:zt ["thing"] ["thing"] (zj sIs):=fsc
theorem zlF(F:Fun K "is_name" "is_name" sIs f fd)(T:zl5 K mg):zC P w K mg base CX0 1 f fd ["thing"] (zjU K):=by
 refine F.ok zmq (fun cdv A outer s H vs Q E hr h=>?_);obtain⟨x,rfl,hx,q⟩:=h;obtain⟨tL,hL⟩:=T.letters;obtain⟨tN,hN⟩:=T.longest;refine⟨_,zh (zH (yV (vB (xT (yY (cB wJ T.isi boot_isinstance (ac (pv 0) (ac (uL (v:=.ty "str") rfl T.str PyProof.Rows.boot_str rfl) zb)))))
   (vi (xT (zgr zjx zjx zg (cB vq T.len PySem.boot_len (ac (pv 0) zb)) (yk (v:=.int 8) rfl hN ⟨_,rfl⟩))))))
   (zf (zA zeg)) zv)
  (zf (zA (cB (zfw rfl) T.all boot_all (ac (xQ [] ["sign"] [none] rfl ⟨rfl,rfl,rfl,rfl⟩ (zkj (pv 0)) (yj 0) rfl rfl rfl
   (fun pins fp s H C=>⟨zp (i:=0) nd1 rfl ⋯ (.inr rfl),xc,xD zeV (pv 0) (yk (v:=.str letters) rfl hL ⟨_,rfl⟩) (by with_unfolding_all rfl)⟩)) zb)))),?_⟩
 rcases hx with ⟨z,rfl,hz1,hz2⟩|⟨hn,t,ty,e⟩
 ·exists _,rfl,_,_,_,_,rfl,.str z,T.kStr,_,rfl,?_
  refine yf ?_;exists _,rfl,z,rfl,le_trans hz1 (by decide),_,_,rfl,rfl,_,rfl,?_
  have no:xO z=false->Q (.bl false) H:=fun e=>by
   have:=q H (zn.refl H)
   have e':nmV (.str z)=false:=e;rw[e'] at this;exact this
  refine wG (fun c=>?_) (fun c=>?_)
  ·have c':(1:Int)<=(z.length:Int):=of_decide_eq_true c
   exists _,_,rfl,rfl,_,rfl,?_;by_cases h8:(z.length:Int)<=8
   ·rw[aC h8]
    refine yf ?_;exists _,rfl,z,rfl,fun D hD=>?_;exists fun i m ys H'=>i<=z.cps.size/\m=z.cps.size - i/\ys=(z.cps.toList.take i).map (fun c=>V.bl (low c))/\H'=upd H D (.lst ys),⟨_,zero_le _,rfl,rfl,rfl⟩,?_;rintro i m ys H' ⟨hi,rfl,rfl,rfl⟩;by_cases he:i=z.cps.size
    ·subst he
     refine .inl ⟨aF _,?_⟩;exists D,z.cps.toList.map low,rfl,ze ?_,?_
     ·rw[za,take_of_length_le (by simp),map_map]
      rfl
     ·have e:(z.cps.toList.map low).all id=nmV (.str z):=by
       show _=xO z;unfold xO;rw[aC (show 1<=z.length by omega),aC (show z.length<=8 by omega),all_map]
       rfl
      rw[e];exact q _ (zc hD _)
    ·refine .inr ⟨by show i<z.cps.size;omega,?_⟩
     rintro x H' ⟨rfl,c,hc,rfl⟩;exists fun _=>?_,fun e=>Bool.noConfusion e;exists _,rfl,_,_,rfl,rfl,za,?_,z.cps.size - (i+1),by omega,by omega,rfl,?_,?_
     ·rw[aA,length_take]
      have:z.cps.size<=1000:=hz1
      exact zF (by omega)
     ·have hc':z.cps.toList[i]?=some c:=by simpa using hc
      have hlow:=zdp c (hz2 c (aH hc'));rw[hlow,take_add_one,hc',aE];rfl
     ·rw[zaU]
   ·rw[aD h8]
    refine xt ?_;exact no (qy (.inr (by omega)))
  ·have c':¬(1:Int)<=(z.length:Int):=of_decide_eq_false (Bool.eq_false_iff.mpr c)
   exists _,rfl,?_;exact xt (no (qy (.inl (by omega))))
 ·exists _,rfl,_,_,_,_,rfl,ty,e,_,rfl,?_
  refine xt ?_;refine xt ?_
  have:=q H (zn.refl H)
  rw[hn] at this;exact this
theorem dT{A B:Prop}{c:Prop}[Decidable c](h:c)(a:A):if decide c=true then A else B:=by rw[aC h];exact xt a
theorem dF{A B:Prop}{c:Prop}[Decidable c](h:¬c)(b:B):if decide c=true then A else B:=by rw[aD h];exact yf b
def kw:Nat->Str
 | 0=>"seat"|1=>"both"|2=>"tail"|3=>"tag"|_=>"bag"
def qh(k:Nat)(x:V)(b:Bool):List V:=match k with
 | 0=>[.str "seat",x,.bl b]|1=>[.str "both",x,.bl b]|2=>[.str "tail",x]|3=>[.str "tag",x,.bl b]|_=>[.str "bag",x]
def fr(k:Nat)(b:Bool):Bool:=match k with
 | 0=>b|1=>b|2=>true|3=>b|_=>true
theorem lt5{k:Nat}(h:k<5):k=0\/k=1\/k=2\/k=3\/k=4:=by omega
def pf(wd:Str)(x:V)(b:Bool):List (Str×V):=ya "may_lack" (.bl b) (ya "name" x (ya "word" (.str wd) []))
theorem xM:(pf wd x b).lookup ("word" : Str)=some (.str wd):=by
 unfold pf;rw[zo,aJ (by symm),zo,aJ (by symm),zo,aK rfl]
theorem wq:(pf wd x b).lookup ("name" : Str)=some x:=by
 unfold pf;rw[zo,aJ (by symm),zo,aK rfl]
theorem jK:(pf wd x b).lookup ("may_lack" : Str)=some (.bl b):=by
 unfold pf;rw[zo,aK rfl]
theorem js{wd:Str}{x:V}{b:Bool}{m:Str}(h1:¬m="may_lack")(h2:¬m="name")(h3:¬m="word"):(pf wd x b).lookup m=none:=by
 unfold pf;rw[zo,aJ h1,zo,aJ h2,zo,aJ h3];rfl
structure MA where
 (fF fP fB fT fO:Addr)
structure PC(K:Frag)(m:MA)(C:Addr):Prop where
 cl:Cls K C
 nW:yJ K C "word"
 nN:yJ K C "name"
 nM:yJ K C "may_lack"
 mF:xH K C "free" m.fF
 mP:xH K C "by_place" m.fP
 mB:xH K C "by_name" m.fB
 mT:xH K C "takes_one" m.fT
 mO:xH K C "told" m.fO
inductive spP(K:Frag)(m:MA)(vs:List V)(H:Hp)(Q:VK)(E:XK):Prop|mk(p dx C:Addr)(wd:Str)(x:V)(b:Bool):vs=[.ref p,.str wd,x,.bl b]->H p=some (.ins C dx [])->PC K m C->OkV K H x->nmV x=true->(∀H1,zn H H1->Q .non (upd H1 p (.ins C dx (pf wd x b))))->spP K m vs H Q E
inductive spS(K:Frag)(C:Addr)(wd:Str)(vs:List V)(H:Hp)(Q:VK)(E:XK):Prop|mk(p dx:Addr)(x:V)(b:Bool):vs=[.ref p,x,.bl b]->H p=some (.ins C dx [])->OkV K H x->nmV x=true->(∀H1,zn H H1->Q .non (upd H1 p (.ins C dx (pf wd x b))))->spS K C wd vs H Q E
inductive spT(K:Frag)(C:Addr)(wd:Str)(vs:List V)(H:Hp)(Q:VK)(E:XK):Prop|mk(p dx x:_):vs=[.ref p,x]->H p=some (.ins C dx [])->OkV K H x->nmV x=true->(∀H1,zn H H1->Q .non (upd H1 p (.ins C dx (pf wd x true))))->spT K C wd vs H Q E
def bpL:List V:=[.str "seat",.str "both"]
def bnL:List V:=[.str "both",.str "tag"]
def otL:List V:=[.str "seat",.str "both",.str "tag"]
inductive zcJ(K:Frag)(m:MA)(vs:List V)(H:Hp)(Q:VK)(E:XK):Prop|mk(p dx C:Addr)(wd:Str)(x:V)(b:Bool):vs=[.ref p]->PC K m C->H p=some (.ins C dx (pf wd x b))->(Q (.bl b) H)->zcJ K m vs H Q E
inductive jy(K:Frag)(m:MA)(l:List V)(vs:List V)(H:Hp)(Q:VK)(E:XK):Prop|mk(p dx C:Addr)(wd:Str)(x:V)(b:Bool):vs=[.ref p]->PC K m C->H p=some (.ins C dx (pf wd x b))->(Q (.bl (inV (.str wd) l)) H)->jy K m l vs H Q E
inductive zcH(K:Frag)(m:MA)(vs:List V)(H:Hp)(Q:VK)(E:XK):Prop|mk(p dx C:Addr)(k:Nat)(x:V)(b:Bool):vs=[.ref p]->k<5->PC K m C->H p=some (.ins C dx (pf (kw k) x (fr k b)))->(∀r H',zn H H'->H' r=some (.tup (qh k x b))->Q (.ref r) H')->zcH K m vs H Q E
structure Wds(K:Frag)(mg:Str->Option Value)(tP tB tO:Addr):Prop where
 mP:mg "BY_PLACE"=some (.ref tP)
 mB:mg "BY_NAME"=some (.ref tB)
 mO:mg "OF_ONE_THING"=some (.ref tO)
 hP:∀H,SqT K H tP bpL
 hB:∀H,SqT K H tB bnL
 hO:∀H,SqT K H tO otL
theorem zh0:zt ["self","word","name","may_lack"] ["self","word","name","may_lack"] (zj zcZ):=fsc
theorem zgQ(F:Fun K "__init__" "Parameter.__init__" zcZ f fd)(cI:zG P w K mg base 1 "is_name" g gd ["thing"] (zjU K)):
  zC P w K mg base CX0 2 f fd ["self","word","name","may_lack"] (spP K m):=by
 refine F.ok zh0 (fun cdv A outer s H vs Q E hr h=>?_);obtain⟨p,dx,C,wd,x,b,rfl,hp,c,hx,q1,q2⟩:=h;refine⟨_,zh (zH (xT (yY (cF cI hr (ac (pv 2) zb)))) (zf xC) zv)
  (zh (vm (pv 0) (pv 1) rfl) (zh (vm (pv 0) (pv 2) rfl) (zf (vm (pv 0) (pv 3) rfl)))),?_⟩
 exists _,rfl,x,rfl,hx,fun H1 s1=>⟨_,rfl,?_⟩;rw[q1];refine yf ?_;exists _,rfl,_,rfl,p,C,dx,[],rfl,s1 _ _ hp,c.cl,c.nW,(by show 0<1000;decide),?_
 exists _,rfl,_,rfl,p,C,dx,_,rfl,za,c.cl,c.nN,(by show 1<1000;decide),?_
 exists _,rfl,_,rfl,p,C,dx,_,rfl,za,c.cl,c.nM,(by show 2<1000;decide),?_
 rw[zaU,zaU];exact q2 _ s1
theorem zjY:zt ["self","name","free"] ["self","name","free"] (zj zf4):=fsc
theorem zix(F:zaf K "__init__" "Seat.__init__" zf4 f fd ds)(c:PC K m C)(B:qX K D "__init__" g)(mD:mg "Parameter"=some (.ref D))(G:zC P w K mg base CX0 2 g gd ["self","word","name","may_lack"] (spP K m))(bg:z0 K gd ["self","word","name","may_lack"] []):
  zC P w K mg base CX0 3 f fd ["self","name","free"] (spS K C "seat"):=by
 refine F.ok zjY (fun vs H Q E h=>?_) (fun cdv A outer s H vs Q E hr h=>?_)
 ·obtain⟨p,dx,x,b,rfl,_⟩:=h
  rfl
 obtain⟨p,dx,x,b,rfl,hp,hx,q1,q2⟩:=h;exists _,zf (zP (zb0 B mD G hr bg yi (ac (pv 0) (ac zm (ac (pv 1) (ac (pv 2) zb)))))),?_;exact⟨_,rfl,_,rfl,_,rfl,p,dx,C,_,x,b,rfl,hp,c,hx,q1,q2⟩
theorem zj6:zt ["self","name","free"] ["self","name","free"] (zj zgi):=fsc
theorem ziL(F:zaf K "__init__" "Both.__init__" zgi f fd ds)(c:PC K m C)(B:qX K D "__init__" g)(mD:mg "Parameter"=some (.ref D))(G:zC P w K mg base CX0 2 g gd ["self","word","name","may_lack"] (spP K m))(bg:z0 K gd ["self","word","name","may_lack"] []):
  zC P w K mg base CX0 3 f fd ["self","name","free"] (spS K C "both"):=by
 refine F.ok zj6 (fun vs H Q E h=>?_) (fun cdv A outer s H vs Q E hr h=>?_)
 ·obtain⟨p,dx,x,b,rfl,_⟩:=h
  rfl
 obtain⟨p,dx,x,b,rfl,hp,hx,q1,q2⟩:=h;exists _,zf (zP (zb0 B mD G hr bg yi (ac (pv 0) (ac zm (ac (pv 1) (ac (pv 2) zb)))))),?_;exact⟨_,rfl,_,rfl,_,rfl,p,dx,C,_,x,b,rfl,hp,c,hx,q1,q2⟩
theorem zlr:zt ["self","name","free"] ["self","name","free"] (zj zj8):=fsc
theorem zku(F:zaf K "__init__" "Tag.__init__" zj8 f fd ds)(c:PC K m C)(B:qX K D "__init__" g)(mD:mg "Parameter"=some (.ref D))(G:zC P w K mg base CX0 2 g gd ["self","word","name","may_lack"] (spP K m))(bg:z0 K gd ["self","word","name","may_lack"] []):
  zC P w K mg base CX0 3 f fd ["self","name","free"] (spS K C "tag"):=by
 refine F.ok zlr (fun vs H Q E h=>?_) (fun cdv A outer s H vs Q E hr h=>?_)
 ·obtain⟨p,dx,x,b,rfl,_⟩:=h
  rfl
 obtain⟨p,dx,x,b,rfl,hp,hx,q1,q2⟩:=h;exists _,zf (zP (zb0 B mD G hr bg yi (ac (pv 0) (ac zm (ac (pv 1) (ac (pv 2) zb)))))),?_;exact⟨_,rfl,_,rfl,_,rfl,p,dx,C,_,x,b,rfl,hp,c,hx,q1,q2⟩
theorem zjX:zt ["self","name"] ["self","name"] (zj zf3):=fsc
theorem ziw(F:Fun K "__init__" "Tail.__init__" zf3 f fd)(c:PC K m C)(B:qX K D "__init__" g)(mD:mg "Parameter"=some (.ref D))(G:zC P w K mg base CX0 2 g gd ["self","word","name","may_lack"] (spP K m))(bg:z0 K gd ["self","word","name","may_lack"] []):
  zC P w K mg base CX0 3 f fd ["self","name"] (spT K C "tail"):=by
 refine F.ok zjX (fun cdv A outer s H vs Q E hr h=>?_);obtain⟨p,dx,x,rfl,hp,hx,q1,q2⟩:=h;exists _,zf (zP (zb0 B mD G hr bg yi (ac (pv 0) (ac zm (ac (pv 1) (ac zeg zb)))))),?_;exact⟨_,rfl,_,rfl,p,dx,C,_,x,true,rfl,hp,c,hx,q1,q2⟩
theorem zlt:zt ["self","name"] ["self","name"] (zj zkd):=fsc
theorem zkC(F:Fun K "__init__" "Bag.__init__" zkd f fd)(c:PC K m C)(B:qX K D "__init__" g)(mD:mg "Parameter"=some (.ref D))(G:zC P w K mg base CX0 2 g gd ["self","word","name","may_lack"] (spP K m))(bg:z0 K gd ["self","word","name","may_lack"] []):
  zC P w K mg base CX0 3 f fd ["self","name"] (spT K C "bag"):=by
 refine F.ok zlt (fun cdv A outer s H vs Q E hr h=>?_);obtain⟨p,dx,x,rfl,hp,hx,q1,q2⟩:=h;exists _,zf (zP (zb0 B mD G hr bg yi (ac (pv 0) (ac zm (ac (pv 1) (ac zeg zb)))))),?_;exact⟨_,rfl,_,rfl,p,dx,C,_,x,true,rfl,hp,c,hx,q1,q2⟩
theorem zj1:zt ["self"] ["self"] (zj zgc):=fsc
theorem ziF(F:Fun K "free" "Parameter.free" zgc f fd):zC P w K mg base CX0 1 f fd ["self"] (zcJ K m):=by
 refine F.ok zj1 (fun cdv A outer s H vs Q E hr h=>?_);obtain⟨p,dx,C,wd,x,b,rfl,c,hp,q⟩:=h;exists _,zf (zA (yv (pv 0) rfl)),?_;exact⟨_,rfl,p,C,dx,_,_,rfl,hp,c.cl,c.nM,jK,q⟩
theorem zeK:zt ["self"] ["self"] (zj qe):=fsc
theorem zb5{f:Addr}{fd:FuncData}{tP tB tO:Addr}{m:MA}(F:Fun K "by_place" "Parameter.by_place" qe f fd)(Wd:Wds K mg tP tB tO):zC P w K mg base CX0 1 f fd ["self"] (jy K m bpL):=by
 refine F.ok zeK (fun cdv A outer s H vs Q E hr h=>?_);obtain⟨p,dx,C,wd,x,b,rfl,c,hp,q⟩:=h;exists _,zf (zA (xD z7 (yv (pv 0) rfl) (yk (v:=.ref tP) rfl Wd.mP rfl) (by with_unfolding_all rfl))),?_
 exact⟨_,rfl,p,C,dx,_,_,rfl,hp,c.cl,c.nW,xM,tP,bpL,rfl,.inr (Wd.hP H),rfl,(by decide),q⟩
theorem zf0:zt ["self"] ["self"] (zj zbe):=fsc
theorem zdi{f:Addr}{fd:FuncData}{tP tB tO:Addr}{m:MA}(F:Fun K "by_name" "Parameter.by_name" zbe f fd)(Wd:Wds K mg tP tB tO):zC P w K mg base CX0 1 f fd ["self"] (jy K m bnL):=by
 refine F.ok zf0 (fun cdv A outer s H vs Q E hr h=>?_);obtain⟨p,dx,C,wd,x,b,rfl,c,hp,q⟩:=h;exists _,zf (zA (xD z7 (yv (pv 0) rfl) (yk (v:=.ref tB) rfl Wd.mB rfl) (by with_unfolding_all rfl))),?_
 exact⟨_,rfl,p,C,dx,_,_,rfl,hp,c.cl,c.nW,xM,tB,bnL,rfl,.inr (Wd.hB H),rfl,(by decide),q⟩
theorem zhY:zt ["self"] ["self"] (zj zcU):=fsc
theorem zbk{f:Addr}{fd:FuncData}{tP tB tO:Addr}{m:MA}(F:Fun K "takes_one" "Parameter.takes_one" zcU f fd)(Wd:Wds K mg tP tB tO):zC P w K mg base CX0 1 f fd ["self"] (jy K m otL):=by
 refine F.ok zhY (fun cdv A outer s H vs Q E hr h=>?_);obtain⟨p,dx,C,wd,x,b,rfl,c,hp,q⟩:=h;exists _,zf (zA (xD z7 (yv (pv 0) rfl) (yk (v:=.ref tO) rfl Wd.mO rfl) (by with_unfolding_all rfl))),?_
 exact⟨_,rfl,p,C,dx,_,_,rfl,hp,c.cl,c.nW,xM,tO,otL,rfl,.inr (Wd.hO H),rfl,(by decide),q⟩
theorem zjW:zt ["self"] ["self"] (zj zf2):=fsc
theorem ziv(F:Fun K "told" "Parameter.told" zf2 f fd)(G:zC P w K mg base CX0 1 m.fT gd ["self"] (jy K m otL))(bg:z0 K gd ["self"] []):zC P w K mg base CX0 2 f fd ["self"] (zcH K m):=by
 refine F.ok zjW (fun cdv A outer s H vs Q E hr h=>?_);obtain⟨p,dx,C,k,x,b,rfl,hk,c,hp,q⟩:=h;have nt:(pf (kw k) x (fr k b)).lookup ("takes_one" : Str)=none:=js (by symm) (by symm) (by symm)
 refine⟨_,zh (zH (yY (yG (pv 0) c.cl c.mT G hr bg .nil yi)) (zf (zA (zJ (ac (yv (pv 0) rfl) (ac (yv (pv 0) rfl) (ac (yv (pv 0) rfl) zb)))))) zv)
  (zf (zA (zJ (ac (yv (pv 0) rfl) (ac (yv (pv 0) rfl) zb))))),?_⟩
 exists _,rfl,p,dx,_,rfl,hp,nt,p,dx,C,kw k,x,fr k b,rfl,c,hp,_,rfl,?_;have fW:∃b',pf (kw k) x (fr k b)=pf (kw k) x b':=⟨_,rfl⟩;rcases lt5 hk with rfl|rfl|rfl|rfl|rfl
 ·refine xt ?_
  exact⟨_,rfl,p,C,dx,_,_,rfl,hp,c.cl,c.nW,xM,_,rfl,p,C,dx,_,_,rfl,hp,c.cl,c.nN,wq,_,rfl,p,C,dx,_,_,rfl,hp,c.cl,c.nM,jK,qZ,fun r hr=>q r _ (zc hr _) za⟩
 ·refine xt ?_
  exact⟨_,rfl,p,C,dx,_,_,rfl,hp,c.cl,c.nW,xM,_,rfl,p,C,dx,_,_,rfl,hp,c.cl,c.nN,wq,_,rfl,p,C,dx,_,_,rfl,hp,c.cl,c.nM,jK,qZ,fun r hr=>q r _ (zc hr _) za⟩
 ·refine yf ?_
  exact⟨_,rfl,p,C,dx,_,_,rfl,hp,c.cl,c.nW,xM,_,rfl,p,C,dx,_,_,rfl,hp,c.cl,c.nN,wq,z6,fun r hr=>q r _ (zc hr _) za⟩
 ·refine xt ?_
  exact⟨_,rfl,p,C,dx,_,_,rfl,hp,c.cl,c.nW,xM,_,rfl,p,C,dx,_,_,rfl,hp,c.cl,c.nN,wq,_,rfl,p,C,dx,_,_,rfl,hp,c.cl,c.nM,jK,qZ,fun r hr=>q r _ (zc hr _) za⟩
 ·refine yf ?_
  exact⟨_,rfl,p,C,dx,_,_,rfl,hp,c.cl,c.nW,xM,_,rfl,p,C,dx,_,_,rfl,hp,c.cl,c.nN,wq,z6,fun r hr=>q r _ (zc hr _) za⟩
structure C5 where
 (c0 c1 c2 c3 c4:Addr)
def C5.at(c:C5):Nat->Addr
 | 0=>c.c0|1=>c.c1|2=>c.c2|3=>c.c3|_=>c.c4
structure zjH(P:Program)(w:World)(K:Frag)(mg:Str->Option Value)(base:Heap)(c:C5)(i0 i1 i2 i3 i4:Addr)(d0 d1 d2 d3 d4:FuncData):Prop where
 k0:zfx P w K mg base CX0 3 "Seat" c.c0 i0 d0 ["self","name","free"] [] (spS K c.c0 "seat")
 k1:zfx P w K mg base CX0 3 "Both" c.c1 i1 d1 ["self","name","free"] [] (spS K c.c1 "both")
 k2:zfx P w K mg base CX0 3 "Tail" c.c2 i2 d2 ["self","name"] [] (spT K c.c2 "tail")
 k3:zfx P w K mg base CX0 3 "Tag" c.c3 i3 d3 ["self","name","free"] [] (spS K c.c3 "tag")
 k4:zfx P w K mg base CX0 3 "Bag" c.c4 i4 d4 ["self","name"] [] (spT K c.c4 "bag")
def Res(c:C5)(H:Hp)(k:Nat)(x:V)(b:Bool)(Q:VK):Prop:=
 nmV x=true/\∀o dx H',zn H H'->H' o=some (.ins (c.at k) dx (pf (kw k) x (fr k b)))->Q (.ref o) H'
inductive zjp(K:Frag)(c:C5)(vs:List V)(H:Hp)(Q:VK)(E:XK):Prop|mk(p:Addr)(k:Nat)(x:V)(b:Bool):vs=[.ref p]->k<5->H p=some (.tup (qh k x b))->OkV K H x->(Res c H k x b Q)->zjp K c vs H Q E
theorem zmI:¬(V.str "both"=V.str "seat"):=by symm
theorem zmH:¬(V.str "tail"=V.str "seat"):=by symm
theorem zmG:¬(V.str "tail"=V.str "both"):=by symm
theorem zmF:¬(V.str "tag"=V.str "seat"):=by symm
theorem zmE:¬(V.str "tag"=V.str "both"):=by symm
theorem zmD:¬(V.str "tag"=V.str "tail"):=by symm
theorem zmC:¬(V.str "bag"=V.str "seat"):=by symm
theorem zmB:¬(V.str "bag"=V.str "both"):=by symm
theorem zmA:¬(V.str "bag"=V.str "tail"):=by symm
theorem zmz:¬(V.str "bag"=V.str "tag"):=by symm
theorem zca{k:Nat}:atI (qh k x b) 1=some x:=by unfold qh;split <;> rfl
theorem uP{k:Nat}(h:k<5):atI (qh k x b) 0=some (.str (kw k)):=by rcases lt5 h with rfl|rfl|rfl|rfl|rfl <;> rfl
theorem zjs:zt ["told","word"] ["told"] (zj zj9):=fsc
theorem zkw(F:Fun K "parameter_of" "parameter_of" zj9 f fd)(U:zjH P w K mg base c i0 i1 i2 i3 i4 d0 d1 d2 d3 d4):zC P w K mg base CX0 5 f fd ["told"] (zjp K c):=by
 refine F.ok zjs (fun cdv A outer s H vs Q E hr h=>?_);obtain⟨p,k,x,b,rfl,hk,hp,hx,r1,r2⟩:=h;refine⟨_,zh (zu (i:=1) zjs.nd rfl ⋯ (zE zD (pv 0) zg nofun))
  (zh (zH (zk yb (pv 1) zm (zx _)) (zf (zA (cMk U.k0 .nil yi hr (ac (zE zD (pv 0) zg nofun) (ac (zE zD (pv 0) zg nofun) zb))))) zv)
  (zh (zH (zk yb (pv 1) zm (zx _)) (zf (zA (cMk U.k1 .nil yi hr (ac (zE zD (pv 0) zg nofun) (ac (zE zD (pv 0) zg nofun) zb))))) zv)
  (zh (zH (zk yb (pv 1) zm (zx _)) (zf (zA (cMk U.k2 .nil yi hr (ac (zE zD (pv 0) zg nofun) zb)))) zv)
  (zh (zH (zk yb (pv 1) zm (zx _)) (zf (zA (cMk U.k3 .nil yi hr (ac (zE zD (pv 0) zg nofun) (ac (zE zD (pv 0) zg nofun) zb))))) zv)
  (zf (zA (cMk U.k4 .nil yi hr (ac (zE zD (pv 0) zg nofun) zb)))))))),?_⟩
 exists _,rfl,p,_,_,.str (kw k),rfl,rfl,zq hp,uP hk,?_;rcases lt5 hk with rfl|rfl|rfl|rfl|rfl
 ·have hS:SqT K H p _:=zq hp
  exists _,rfl,rfl,_,rfl,?_;refine dT rfl ?_;exact⟨_,rfl,p,_,_,x,rfl,rfl,hS,rfl,_,rfl,p,_,_,.bl b,rfl,rfl,hS,rfl,fun o dx ho hdx ne=>⟨o,dx,x,b,rfl,za,hx.same (xF ho hdx),r1,fun H1 s1=>⟨rfl,r2 o dx _ (wz ho hdx s1) za⟩⟩⟩
 ·have hS:SqT K H p _:=zq hp
  exists _,rfl,rfl,_,rfl,?_;refine dF zmI ?_;exists _,rfl,rfl,_,rfl,?_;refine dT rfl ?_;exact⟨_,rfl,p,_,_,x,rfl,rfl,hS,rfl,_,rfl,p,_,_,.bl b,rfl,rfl,hS,rfl,fun o dx ho hdx ne=>⟨o,dx,x,b,rfl,za,hx.same (xF ho hdx),r1,fun H1 s1=>⟨rfl,r2 o dx _ (wz ho hdx s1) za⟩⟩⟩
 ·have hS:SqT K H p _:=zq hp
  exists _,rfl,rfl,_,rfl,?_;refine dF zmH ?_;exists _,rfl,rfl,_,rfl,?_;refine dF zmG ?_;exists _,rfl,rfl,_,rfl,?_;refine dT rfl ?_;exact⟨_,rfl,p,_,_,x,rfl,rfl,hS,rfl,fun o dx ho hdx ne=>⟨o,dx,x,rfl,za,hx.same (xF ho hdx),r1,fun H1 s1=>⟨rfl,r2 o dx _ (wz ho hdx s1) za⟩⟩⟩
 ·have hS:SqT K H p _:=zq hp
  exists _,rfl,rfl,_,rfl,?_;refine dF zmF ?_;exists _,rfl,rfl,_,rfl,?_;refine dF zmE ?_;exists _,rfl,rfl,_,rfl,?_;refine dF zmD ?_;exists _,rfl,rfl,_,rfl,?_;refine dT rfl ?_;exact⟨_,rfl,p,_,_,x,rfl,rfl,hS,rfl,_,rfl,p,_,_,.bl b,rfl,rfl,hS,rfl,fun o dx ho hdx ne=>⟨o,dx,x,b,rfl,za,hx.same (xF ho hdx),r1,fun H1 s1=>⟨rfl,r2 o dx _ (wz ho hdx s1) za⟩⟩⟩
 ·have hS:SqT K H p _:=zq hp
  exists _,rfl,rfl,_,rfl,?_;refine dF zmC ?_;exists _,rfl,rfl,_,rfl,?_;refine dF zmB ?_;exists _,rfl,rfl,_,rfl,?_;refine dF zmA ?_;exists _,rfl,rfl,_,rfl,?_;refine dF zmz ?_;exact⟨_,rfl,p,_,_,x,rfl,rfl,hS,rfl,fun o dx ho hdx ne=>⟨o,dx,x,rfl,za,hx.same (xF ho hdx),r1,fun H1 s1=>⟨rfl,r2 o dx _ (wz ho hdx s1) za⟩⟩⟩
end
end K26
namespace L2
open PySem PySem.Spec PyProof.Rows
def dcN(n i:Nat)(D:Addr)(Pv:Nat->List (Key×V)->Hp->Prop)(ys:List (Key×V))(y:V):VK:=fun v H5=>∃k,y=kV k/\H5 D=some (.dK ys)/\ys.length<sizeLine/\∃m',m'<n - i/\m'=n - (i+1)/\i+1<=n/\Pv (i+1) (yF ys k v) (upd H5 D (.dK (yF ys k v)))
def dcS(n i:Nat)(Pv:Nat->List (Key×V)->Hp->Prop)(ys:List (Key×V))(H4:Hp):Prop:=∃m',m'<n - i/\m'=n - (i+1)/\i+1<=n/\Pv (i+1) ys H4
theorem dcN.mk{n i:Nat}{D:Addr}{Pv:Nat->List (Key×V)->Hp->Prop}{ys:List (Key×V)}{y v:V}{H5:Hp}(k:Key)(hi:i<n)(ek:y=kV k)(hn:n<=sizeLine)(hD:H5 D=some (.dK ys))(hy:ys.length<=i)(p:Pv (i+1) (yF ys k v) (upd H5 D (.dK (yF ys k v)))):dcN n i D Pv ys y v H5:=
 ⟨k,ek,hD,by omega,n - (i+1),by omega,rfl,hi,p⟩
theorem dcS.mk{n i:Nat}{Pv:Nat->List (Key×V)->Hp->Prop}{ys:List (Key×V)}{H4:Hp}(hi:i<n)(p:Pv (i+1) ys H4):dcS n i Pv ys H4:=⟨n - (i+1),by omega,rfl,hi,p⟩
theorem zjb{K:Frag}{a:Addr}{xs:List V}{caps:List (Option Nat)}{g:TG}{tt:TT}{tk tv:TE}{σ : St}{H1:Hp}{Q:VK}{D:Addr}(Pv:Nat->List (Key×V)->Hp->Prop)(h0:Pv 0 [] (upd H1 D (.dK [])))
  (hl:∀i ys H,Pv i ys H->SqL K H a xs)
  (hs:∀i x p ys H,i<xs.length->xs[i]?=some x->Pv i ys H->H p=none->g (.ref p) (yW caps σ) (upd H p (.tup [.int i,x])) fun σ2 H2=>tt σ2 H2 fun ok H3=>(ok=true->tk σ2 H3 fun y H4=>tv σ2 H4 (dcN xs.length i D Pv ys y))/\(ok=false->dcS xs.length i Pv ys H3))
  (hd:∀ys H,Pv xs.length ys H->Q (.ref D) H):DCr (Ite K a) caps g tt tk tv σ H1 Q D:=by
 exists fun i m ys H=>m=xs.length - i/\i<=xs.length/\Pv i ys H,⟨xs.length,by simp,zero_le _,h0⟩,?_
 rintro i m ys H ⟨rfl,hi,p⟩;have q:=hl i ys H p;by_cases hlt:i<xs.length
 ·refine .inr ⟨⟨xs,xs[i],q,by simp [hlt]⟩,fun x H' y=>?_⟩
  obtain⟨pp,y,rfl,hp,y2,rfl⟩:=y;exact hs i y pp ys H hlt (y2 xs q) p hp
 ·have e:i=xs.length:=by omega
  subst e;exact .inl ⟨⟨xs,q,aF _⟩,hd ys H p⟩
end L2
namespace K26
open PySem L2 PyProof.Rows
structure Rw where
 (k:Nat) (z:Str) (b:Bool)
def Rw.ok(r:Rw):Prop:=r.k<5/\xO r.z=true
abbrev rv(r:Rw):List V:=qh r.k (.str r.z) r.b
abbrev pr(r:Rw):List (Str×V):=pf (kw r.k) (.str r.z) (fr r.k r.b)
def PAt(c:C5)(H:Hp)(p:Addr)(r:Rw):Prop:=∃dx,H p=some (.ins (c.at r.k) dx (pr r))
def xx(k:Nat):Bool:=k==0||k==1
def ym(k:Nat):Bool:=k==1||k==3
theorem zhk:∀k:Nat,k<5->inV (.str (kw k)) bpL=xx k:=by symm
theorem uR:∀k:Nat,k<5->inV (.str (kw k)) bnL=ym k:=by symm
def grp:Nat->Nat
 | 0=>0|1=>0|2=>1|3=>2|_=>3
def w9(l g:Nat):Bool:=decide (g<l)||(g==l&&(g==1||g==3))
def yL:Nat->List Rw->Bool
 | _,[]=>true
 | l,r::rs=>!w9 l (grp r.k)&&yL (grp r.k) rs
def nms(rows:List Rw):List Str:=(rows.filter fun r=>ym r.k).map (·.z)
structure vS(rows:List Rw)(bars:List Str):Prop where
 ok:∀r∈rows,r.ok
 l24:rows.length<=24
 l60:bars.length<=60
 ord:yL 0 rows=true
 bn:∀z∈bars,xO z=true
 nd:(nms rows++bars).Nodup
def zL(kk:Nat):Nat->List Rw->Option Nat
 | _,[]=>none
 | i,r::rs=>if r.k=kk then some i else zL kk (i+1) rs
def wF:Option Nat->V
 | none=>.non
 | some i=>.int i
def yT:Nat->List (Key×V)->List Rw->List (Key×V)
 | _,acc,[]=>acc
 | i,acc,r::rs=>yT (i+1) (if ym r.k=true then yF acc (.inr r.z) (.int i) else acc) rs
def plN(rows:List Rw):Nat:=(rows.filter fun r=>xx r.k).length
def zhC:List Str:=["row","bar_names","place_count","tail_number","bag_number","doors"]
structure FF(fs:List (Str×V))(lr lb ld:Addr)(rows:List Rw):Prop where
 row:fs.lookup ("row" : Str)=some (.ref lr)
 bn:fs.lookup ("bar_names" : Str)=some (.ref lb)
 pc:fs.lookup ("place_count" : Str)=some (.int (plN rows))
 tn:fs.lookup ("tail_number" : Str)=some (wF (zL 2 0 rows))
 bg:fs.lookup ("bag_number" : Str)=some (wF (zL 4 0 rows))
 dr:fs.lookup ("doors" : Str)=some (.ref ld)
 no:∀m,m∉zhC->fs.lookup m=none
def xz(c:C5)(CF:Addr)(H:Hp)(f:Addr)(rows:List Rw)(bars:List Str):Prop:=
 ∃dx fs lr lb ld ps,H f=some (.ins CF dx fs)/\FF fs lr lb ld rows/\H lr=some (.lst (ps.map V.ref))/\Paired (PAt c H) ps rows/\H lb=some (.lst (bars.map V.str))/\H ld=some (.dK (yT 0 [] rows))
section
variable {H H':Hp}
theorem PAt.same(h:PAt c H p r)(s:zn H H'):PAt c H' p r:=h.imp fun _=>s _ _
theorem xU(s:zn H H')(h:Paired (PAt c H) ps rows):Paired (PAt c H') ps rows:=zr (fun _ _ z=>z.same s) h
theorem xz.same(h:xz c CF H f rows bars)(s:zn H H'):xz c CF H' f rows bars:=by
 obtain⟨dx,fs,lr,lb,ld,ps,h1,h2,h3,h4,h5,h6⟩:=h;exact⟨dx,fs,lr,lb,ld,ps,s _ _ h1,h2,s _ _ h3,xU s h4,s _ _ h5,s _ _ h6⟩
def qT(c:C5)(CF:Addr)(H H':Hp)(f:Addr)(rows:List Rw)(bars:List Str):Prop:=
 ∃dx fs lr lb ld ps,H' f=some (.ins CF dx fs)/\FF fs lr lb ld rows/\H' lr=some (.lst (ps.map V.ref))/\Paired (PAt c H') ps rows/\H' lb=some (.lst (bars.map V.str))/\H' ld=some (.dK (yT 0 [] rows))/\H lr=none/\H lb=none
theorem qT.at(h:qT c CF H H' f rows bars):xz c CF H' f rows bars:=by
 obtain⟨dx,fs,lr,lb,ld,ps,h1,h2,h3,h4,h5,h6,_,_⟩:=h;exact⟨dx,fs,lr,lb,ld,ps,h1,h2,h3,h4,h5,h6⟩
theorem qT.of(h:qT c CF H H' f rows bars)(s:zn H0 H):qT c CF H0 H' f rows bars:=by
 obtain⟨dx,fs,lr,lb,ld,ps,h1,h2,h3,h4,h5,h6,h7,h8⟩:=h;exact⟨dx,fs,lr,lb,ld,ps,h1,h2,h3,h4,h5,h6,s.free h7,s.free h8⟩
theorem yZ{α β : Type}{R : α->β->Prop}{xs:List α}{ys:List β}(h:Paired R xs ys):∀{i:Nat}{x : α},xs[i]?=some x->∃y,ys[i]?=some y/\R x y:=by
 induction h with
 | nil=>intro i x e;simp at e
 | cons r t ih=>
  intro i x e;cases i with
  | zero=>exact⟨_,rfl,by simp at e;exact e ▸ r⟩
  | succ i=>simpa using ih (by simpa using e)
def ziX(x:Str):Option V:=([(("seat" : Str),V.int 0),("both",.int 0),("tail",.int 1),("tag",.int 2),("bag",.int 3)]:List (Str×V)).lookup x
theorem ziW:∀k:Nat,k<5->ziX (kw k)=some (.int (grp k)):=by symm
theorem zkQ(k:Nat):grp k<4:=by unfold grp;split <;> decide
structure zbw(w:World)(K:Frag)(mg:Str->Option Value)(G sg:Addr):Prop where
 len:mg "len"=none
 en:mg "enumerate"=none
 lst:mg "list"=none
 set:mg "set"=none
 mp:∃t,mg "MOST_PARAMETERS"=some (.int 24 t)
 mb:∃t,mg "MOST_BARS"=some (.int 60 t)
 mgr:mg "GROUPS"=some (.ref G)
 gt:zk0 w K G ziX
 ms:mg "SINGLE_GROUPS"=some (.ref sg)
 hs:∀H,SqT K H sg [.int 1,.int 3]
def Cs5(c:C5):Addr->Prop:=fun C=>∃k,k<5/\C=c.at k
inductive zfN(K:Frag)(vs:List V)(H:Hp)(Q:VK)(E:XK):Prop|mk(a b xs ys:_):vs=[.ref a,.ref b]->SqL K H a xs->SqL K H b ys->xs.length<=24->ys.length<=60->(Q .non H)->zfN K vs H Q E
inductive zjq(c:C5)(vs:List V)(H:Hp)(Q:VK)(E:XK):Prop|mk(a ps rows:_):vs=[.ref a]->H a=some (.lst (ps.map V.ref))->Paired (PAt c H) ps rows->(∀r∈rows,r.ok)->yL 0 rows=true->(∀H',zn H H'->Q .non H')->zjq c vs H Q E
inductive zll(vs:List V)(H:Hp)(Q:VK)(E:XK):Prop|mk(b:Addr)(bars:List Str):vs=[.ref b]->H b=some (.lst (bars.map V.str))->(∀z∈bars,xO z=true)->(∀H',zn H H'->Q .non H')->zll vs H Q E
inductive zlk(c:C5)(vs:List V)(H:Hp)(Q:VK)(E:XK):Prop|mk(a b ps rows bars:_):vs=[.ref a,.ref b]->H a=some (.lst (ps.map V.ref))->Paired (PAt c H) ps rows->(∀r∈rows,r.ok)->rows.length<=500->H b=some (.lst (bars.map V.str))->bars.length<=500->(nms rows++bars).Nodup->(∀H',zn H H'->Q .non H')->zlk c vs H Q E
inductive zlm(c:C5)(vs:List V)(H:Hp)(Q:VK)(E:XK):Prop|mk(a:Addr)(ps:List Addr)(rows:List Rw)(kk:Nat):vs=[.ref a,.str (kw kk)]->kk<5->H a=some (.lst (ps.map V.ref))->Paired (PAt c H) ps rows->(∀r∈rows,r.ok)->(∀H',zn H H'->Q (wF (zL kk 0 rows)) H')->zlm c vs H Q E
theorem zkF:∀i:Nat,i<5->∀k:Nat,k<5->decide (V.str (kw k)=V.str (kw i))=(k==i):=by symm
theorem zet{α : Type}{xs:List α}{i:Nat}{x : α}(h:xs[i]?=some x):xs.drop i=x::xs.drop (i+1):=by
 have hi:i<xs.length:=(List.getElem?_eq_some_iff.mp h).1;rw[List.drop_eq_getElem_cons hi];rw[aB hi] at h;rw[Option.some.inj h]
theorem x8{ps:List Addr}{i:Nat}{x:V}(h:(ps.map V.ref)[i]?=some x):∃p,ps[i]?=some p/\x=.ref p:=by
 rw[getElem?_map] at h;cases e:ps[i]? with
 | none=>rw[e] at h;cases h
 | some p=>rw[e] at h;exact⟨p,rfl,(Option.some.inj h).symm⟩
theorem strs_at{zs:List Str}{i:Nat}{x:V}(h:(zs.map V.str)[i]?=some x):∃z,zs[i]?=some z/\x=.str z:=by
 rw[getElem?_map] at h;cases e:zs[i]? with
 | none=>rw[e] at h;cases h
 | some p=>rw[e] at h;exact⟨p,rfl,(Option.some.inj h).symm⟩
variable {mg:Str->Option Value}
def Pcs(K:Frag)(m:MA)(c:C5):Prop:=∀k,k<5->PC K m (c.at k)
theorem zhZ:zt ["parameters","bars"] ["parameters","bars"] (zj zcW):=fsc
theorem ziB{f:Addr}{P:Program}{w:World}{K:Frag}{base:Heap}{G sg:Addr}{fd:FuncData}(F:Fun K "refuse_too_many" "refuse_too_many" zcW f fd)(T:zbw w K mg G sg):zC P w K mg base CX0 1 f fd ["parameters","bars"] (zfN K):=by
 refine F.ok zhZ (fun cdv A outer s H vs Q E hr h=>?_);obtain⟨a,b,xs,ys,rfl,ha,hb,l1,l2,q⟩:=h;obtain⟨t1,m1⟩:=T.mp;obtain⟨t2,m2⟩:=T.mb;refine⟨_,zh (zH (zk zej (cB zI T.len PySem.boot_len (ac (pv 0) zb)) (yk (v:=.int 24) rfl m1 ⟨_,rfl⟩) (zx _)) (zf xC) zv)
  (zf (zH (zk zej (cB zI T.len PySem.boot_len (ac (pv 1) zb)) (yk (v:=.int 60) rfl m2 ⟨_,rfl⟩) (zx _)) (zf xC) zv)),?_⟩
 exists _,rfl,a,_,rfl,.inl ha,_,_,rfl,rfl,_,rfl,?_;refine dF (by show ¬(24:Int)<(xs.length:Int);omega) ?_
 exists _,rfl,b,_,rfl,.inl hb,_,_,rfl,rfl,_,rfl,?_;exact dF (by show ¬(60:Int)<(ys.length:Int);omega) q
theorem wT:zt ["parameters","last","at","parameter","group"] ["parameters"] (zj zba):=fsc
theorem zgT{c:C5}{f:Addr}{P:Program}{w:World}{K:Frag}{base:Heap}{G sg:Addr}{fd:FuncData}{m:MA}(F:Fun K "refuse_bad_order" "refuse_bad_order" zba f fd)(T:zbw w K mg G sg)(PP:Pcs K m c):zC P w K mg base CX0 1 f fd ["parameters"] (zjq c):=by
 refine F.ok wT (fun cdv A outer s H vs Q E hr h=>?_);obtain⟨a,ps,rows,rfl,ha,hp,hok,ho,q⟩:=h;refine⟨_,zh (zu (i:=1) wT.nd rfl ⋯ zg)
  (zf (xk PassesOwn.never rfl (xr rfl T.en (ac (pv 0) zb)) (yz rfl (zy (zp (i:=2) wT.nd rfl ⋯) (zy (zp (i:=3) wT.nd rfl ⋯) yg)))
   (zh (zu (i:=4) wT.nd rfl ⋯ (zik T.gt T.mgr (yv (pv 3) rfl)))
   (zh (zH (yV (vB (zk zau (pv 4) (pv 1) (zx _)) (vi (yV (yX (zk yb (pv 4) (pv 1) (zx _)) (yy (zk z7 (pv 4) (yk (v:=.ref sg) rfl T.ms rfl) (by with_unfolding_all rfl)))))))) (zf xC) zv)
   (zf (zu (i:=1) wT.nd rfl ⋯ (pv 4))))))),?_⟩
 show wx _ _ _ _ _;refine⟨_,rfl,a,rfl,⟨_,ze ha⟩,wC (K:=K) (a:=a) (xs:=ps.map V.ref) (fun i σ H'=>∃(l:Nat) (v2 v3 v4:Option V),σ=[some (.ref a),some (.int (l:Nat)),v2,v3,v4]/\zn H H'/\yL l (rows.drop i)=true)
  ⟨0,_,_,_,rfl,zn.refl _,ho⟩ (fun i σ H' _ ⟨_,_,_,_,_,sH,_⟩=>ze (sH _ _ ha)) ?_ ?_⟩
 ·rintro i x p σ H' hx ⟨l,v2,v3,v4,rfl,sH,hl⟩ hpn
  obtain⟨pa,hpa,rfl⟩:=x8 hx;obtain⟨r,hr',dx,hdx⟩:=yZ hp hpa;have rok:=hok r (aH hr');have C:=PP r.k rok.1;rw[zet hr'] at hl;have hl':(!w9 l (grp r.k)&&yL (grp r.k) (rows.drop (i+1)))=true:=hl;rw[Bool.and_eq_true,Bool.not_eq_true'] at hl';obtain⟨hb,hl2⟩:=hl';have hb':(decide (grp r.k<l)||(grp r.k==l&&(grp r.k==1||grp r.k==3)))=false:=hb
  rw[Bool.or_eq_false_iff] at hb';have sp:=zc hpn (.tup [.int (i:Nat),.ref pa]);exists p,_,rfl,zq za,rfl,_,_,rfl,_,_,rfl,rfl,?_;exists _,rfl,pa,_,dx,_,_,rfl,sp _ _ (sH _ _ hdx),C.cl,C.nW,xM,kw r.k,.int (grp r.k),rfl,ziW r.k rok.1,?_;exists _,rfl,_,rfl,_,_,rfl,rfl,_,rfl,?_;refine dF (fun z=>by have:=of_decide_eq_false hb'.1;omega) ?_
  have fin:∃(l':Nat) (v2 v3 v4:Option V),([some (.ref a),some (.int (grp r.k:Nat)),some (.int (i:Nat)),some (.ref pa),some (.int (grp r.k:Nat))]:L2.St)=[some (.ref a),some (.int (l':Nat)),v2,v3,v4]/\zn H (upd H' p (.tup [.int (i:Nat),.ref pa]))/\yL l' (rows.drop (i+1))=true:=
   ⟨grp r.k,_,_,_,rfl,sH.trans sp,hl2⟩
  exists _,rfl,_,rfl,rfl,_,rfl,?_;by_cases e:grp r.k=l
  ·refine dT (by rw[e]) ?_
   exists _,rfl,sg,_,rfl,.inr (T.hs _),rfl,(by decide),_,rfl,?_
   have h13:(grp r.k==1||grp r.k==3)=false:=by
    have:=hb'.2
    rw[e] at this |-;simpa using this
   have hin:inV (.int (grp r.k:Nat)) [.int 1,.int 3]=false:=by
    have g4:=zkQ r.k
    have:∀g:Nat,g<4->(g==1||g==3)=false->inV (.int (g:Nat)) [.int 1,.int 3]=false:=by symm
    exact this _ g4 h13
   rw[show(if false=true then !inV (V.int ((grp r.k:Nat):Int)) [V.int 1,V.int 3] else inV (V.int ((grp r.k:Nat):Int)) [V.int 1,V.int 3])=false from hin]
   refine yf ?_;exact⟨_,rfl,fin⟩
  ·refine dF (fun z=>e (by have:=V.int.inj z;omega)) ?_
   exact⟨_,rfl,fin⟩
 ·rintro σ H' ⟨l,v2,v3,v4,rfl,sH,_⟩
  exact q _ sH
end
end K26
namespace L2
open PySem PySem.Spec PyProof.Rows
theorem zee{X:Cx}{K:Frag}{e:Expr}{f:Str}{pos:Pos}{ta:TE}(hK:X.K=K)(he:PE X e ta)(hb:attributeBase e f X.env (eval e X.env)=eval e X.env):PE X (.Attribute e f pos) (zld K ta f):=hK ▸ yv he hb
end L2
namespace K26
open PySem L2 PyProof.Rows
theorem zK{n:Nat}(h:n<=1000):n<=sizeLine:=le_of_lt (zF h)
theorem ziO{rows:List Rw}{i:Nat}{r:Rw}(h:rows[i]?=some r):nms (rows.take (i+1))=nms (rows.take i)++(if ym r.k=true then [r.z] else []):=by
 have hi:i<rows.length:=(List.getElem?_eq_some_iff.mp h).1;have e:rows[i]=r:=by rw[aB hi] at h;exact Option.some.inj h
 unfold nms;rw[take_succ_eq_append_getElem hi,filter_append,aE,e];cases hb:ym r.k <;> simp [hb]
section
variable {K:Frag}{mg:Str->Option Value}
theorem zcO:zt ["parameters","word","at","parameter"] ["parameters","word"] (zj zf7):=fsc
theorem ziA(F:Fun K "number_of_word" "number_of_word" zf7 f fd)(T:zbw w K mg G sg)(PP:Pcs K m c):zC P w K mg base CX0 1 f fd ["parameters","word"] (zlm c):=by
 refine F.ok zcO (fun cdv A outer s H vs Q E hr h=>?_);obtain⟨a,ps,rows,kk,rfl,hkk,ha,hp,hok,q⟩:=h;refine⟨_,zh (xk PassesOwn.never rfl (xr rfl T.en (ac (pv 0) zb)) (yz rfl (zy (zp (i:=2) zcO.nd rfl ⋯) (zy (zp (i:=3) zcO.nd rfl ⋯) yg)))
   (zf (zH (zk yb (yv (pv 3) rfl) (pv 1) (zx _)) (zf (zA (pv 2))) zv))) (zf (zA zdd)),?_⟩
 refine⟨_,rfl,a,rfl,⟨_,ze ha⟩,wC (K:=K) (a:=a) (xs:=ps.map V.ref) (fun i σ H'=>∃v2 v3,σ=[some (.ref a),some (.str (kw kk)),v2,v3]/\zn H H'/\zL kk i (rows.drop i)=zL kk 0 rows)
  ⟨_,_,rfl,zn.refl _,rfl⟩ (fun i σ H' _ ⟨_,_,_,sH,_⟩=>ze (sH _ _ ha)) ?_ ?_⟩
 ·rintro i x p σ H' hx ⟨v2,v3,rfl,sH,hl⟩ hpn
  obtain⟨pa,hpa,rfl⟩:=x8 hx;obtain⟨r,hr',dx,hdx⟩:=yZ hp hpa;have rok:=hok r (aH hr');have C:=PP r.k rok.1;rw[zet hr'] at hl;have hl':(if r.k=kk then some i else zL kk (i+1) (rows.drop (i+1)))=zL kk 0 rows:=hl
  have sp:=zc hpn (.tup [.int (i:Nat),.ref pa]);exists p,_,rfl,zq za,rfl,_,_,rfl,_,_,rfl,rfl,?_;exists _,rfl,pa,_,dx,_,_,rfl,sp _ _ (sH _ _ hdx),C.cl,C.nW,xM,_,rfl,rfl,_,rfl,?_;by_cases e:r.k=kk
  ·refine dT (by rw[e]) ?_
   rw[aK e] at hl';exists _,rfl,?_
   have:=q _ (sH.trans sp)
   rw[<- hl'] at this;exact this
  ·refine dF (fun z=>?_) ?_
   ·have h1:=zkF kk hkk r.k rok.1
    rw[aC z] at h1;exact e (by simpa using h1.symm)
   ·rw[aJ e] at hl'
    exact⟨_,_,rfl,sH.trans sp,hl'⟩
 ·rintro σ H' ⟨v2,v3,rfl,sH,hl⟩
  have e:zL kk 0 rows=none:=by
   rw[<- hl,aA,hp.length,List.drop_length];rfl
  have:=q _ sH
  rw[e] at this;exact this
theorem zd9:zt ["bars","bar"] ["bars"] (zj zcX):=fsc
theorem zgP(F:Fun K "refuse_bars_without_name" "refuse_bars_without_name" zcX f fd)(cI:zG P w K mg base 1 "is_name" g gd ["thing"] (zjU K)):zC P w K mg base CX0 2 f fd ["bars"] zll:=by
 refine F.ok zd9 (fun cdv A outer s H vs Q E hr h=>?_);obtain⟨b,bars,rfl,hb,hn,q⟩:=h;exists _,zf (xk PassesOwn.never rfl (yw (pv 0)) (zp (i:=1) zd9.nd rfl ⋯) (zf (zH (xT (yY (cF cI hr (ac (pv 1) zb)))) (zf xC) zv))),?_;exists _,rfl,b,rfl,⟨_,ze hb⟩,w6 (K:=K) (a:=b) (xs:=bars.map V.str) (fun i σ H'=>∃v1,σ=[some (.ref b),v1]/\zn H H') ⟨_,rfl,zn.refl _⟩ (fun i σ H' _ ⟨_,_,sH⟩=>ze (sH _ _ hb)) ?_ ?_
 ·rintro i x σ H' hx ⟨v1,rfl,sH⟩
  obtain⟨z,hz,rfl⟩:=strs_at hx;have nz:=hn z (aH hz);exists _,rfl,_,rfl,.inl ⟨z,rfl,zb6 nz⟩,fun H2 s2=>⟨_,rfl,?_⟩;rw[show nmV (.str z)=true from nz];refine yf ?_;exact⟨_,rfl,sH.trans s2⟩
 ·rintro σ H' ⟨v1,rfl,sH⟩
  exact q _ sH
theorem zkE:([Str.ofString "parameter"]:List Str).Nodup:=by symm
theorem j5:zt ["parameters","bars","seen","name"] ["parameters","bars"] (zj za9):=fsc
theorem zgL(F:Fun K "refuse_twice" "refuse_twice" za9 f fd)(T:zbw w K mg G sg)(PP:Pcs K m c)(GB:zC P w K mg base CX0 1 m.fB gd ["self"] (jy K m bnL))(bB:z0 K gd ["self"] []):zC P w K mg base CX0 2 f fd ["parameters","bars"] (zlk c):=by
 refine F.ok j5 (fun cdv A outer s H vs Q E hr h=>?_);obtain⟨a,b,ps,rows,bars,rfl,ha,hp,hok,l1,hb,l2,nd,q⟩:=h;have hC:∀C,Cs5 c C->Cls K C/\xH K C "by_name" m.fB:=fun C ⟨k,hk,e⟩=>by rw[e];exact⟨(PP k hk).cl,(PP k hk).mB⟩
 refine⟨_,zh (zu (i:=2) j5.nd rfl ⋯ (zde zfq rfl T.set (by symm:bootBuiltins "set"=some (.type "set"))))
  (zf (xk PassesOwn.never rfl (yw (zl ye (xQ [] ["parameter"] [none] rfl ⟨rfl,rfl,rfl,rfl⟩ (yw (pv 0)) (yj 0) rfl rfl rfl
    (fun pins fp s H C=>⟨zp (i:=0) zkE rfl ⋯ (.inr rfl),xq (yY (vN (pv 0) hC GB hr bB yi)),zee (K:=K) rfl (pv 0) rfl⟩)) (cTy yO T.lst PyProof.Rows.boot_list (ac (pv 1) zb)))) (zp (i:=3) j5.nd rfl ⋯)
   (zh (zH (zk qp (pv 3) (pv 2) (by with_unfolding_all rfl)) (zf xC) zv)
   (zf (zP (zij (pv 2) (pv 3) ⟨rfl,rfl,rfl,rfl⟩)))))),?_⟩
 exists rfl,fun se hse=>?_;have s1:zn H (upd H se (vE P w se (fun _=>false) 0)):=zc hse _;have g1:upd H se (vE P w se (fun _=>false) 0) se=some (vE P w se (fun _=>false) 0):=za;show wx _ _ _ _ (upd H se (vE P w se (fun _=>false) 0));generalize upd H se (vE P w se (fun _=>false) 0)=H1 at s1 g1 |-;have ha1:=s1 _ _ ha;have hp1:=xU s1 hp;exists _,rfl,a,rfl,⟨_,ze ha1⟩,fun D hD=>?_;refine vW (K:=K) (xs:=ps.map V.ref) (fun i ys H'=>zn H1 H'/\H' D=some (.lst ys)/\ys=(nms (rows.take i)).map V.str) ⟨zc hD _,za,rfl⟩ (fun i ys H' h=>ze (h.1 _ _ ha1)) ?_ ?_
 ·rintro i x ys H' hlt hx ⟨sH,hDy,ey⟩
  obtain⟨pa,hpa,rfl⟩:=x8 hx;obtain⟨r,hr',dx,hdx⟩:=yZ hp1 hpa;have rok:=hok r (aH hr');have C:=PP r.k rok.1;have nl:ys.length<=i:=by
   rw[ey,aA];unfold nms;rw[aA];refine le_trans (length_filter_le _ _) ?_;rw[length_take];omega
  have hd2:=sH _ _ hdx;exists _,rfl,pa,_,dx,_,rfl,⟨r.k,rok.1,rfl⟩,hd2,js (by symm) (by symm) (by symm),pa,dx,_,_,_,_,rfl,C,hd2,_,rfl,?_
  rw[uR r.k rok.1];have tk:=ziO hr';exists fun e=>?_,fun e=>?_
  ·rw[e,aK rfl] at tk
   exists _,rfl,pa,_,dx,_,_,rfl,hd2,C.cl,C.nN,wq,?_;refine lcN.mk hlt (zK (by rw[aA,hp.length];omega)) hDy nl ⟨fun b u e=>?_,za,?_⟩
   ·rw[zi (zd e hD)]
    exact sH b u e
   ·rw[ey,tk,aE]
    rfl
  ·rw[e,aJ zft,append_nil] at tk
   exact lcS.mk hlt ⟨sH,hDy,by rw[ey,tk]⟩
 rintro ys H2 ⟨s2,hDy,ey⟩;have ey:ys=(nms rows).map V.str:=by
  rw[ey,aA,hp.length,take_length]
 subst ey;have hb2:=s2 _ _ (s1 _ _ hb);exists _,rfl,b,_,rfl,.inl (ze hb2),fun l hl=>?_
 injections l hl H3 s3 g3
 have ln:(nms rows).length<=500:=by
  unfold nms;rw[aA];exact le_trans (length_filter_le _ _) l1
 exists D,l,_,_,rfl,rfl,s3 _ _ hDy,g3,zK (by rw[aA,aA];omega),fun l4 hl4=>?_
 rw[<- aE];have s4:=zc hl4 (.lst ((nms rows++bars).map V.str));have g4:upd H3 l4 (.lst ((nms rows++bars).map V.str)) l4=some (.lst ((nms rows++bars).map V.str)):=za;have nse:l4≠se:=fun z=>by
  rw[z] at hl4;rw[s3 _ _ (s2 _ _ g1)] at hl4;cases hl4
 generalize upd H3 l4 (.lst ((nms rows++bars).map V.str))=H4 at s4 g4 |-;have sA:zn H1 H4:=s2.trans (s3.trans s4);have gse:=sA _ _ g1;refine⟨l4,rfl,⟨_,ze g4⟩,w6 (K:=K) (a:=l4) (xs:=(nms rows++bars).map V.str) (fun i σ H'=>∃(S:Str->Bool) (n:Nat) (v3:Option V),σ=[some (.ref a),some (.ref b),some (.ref se),v3]/\H' se=some (vE P w se S n)/\(∀z,S z=decide (z∈(nms rows++bars).take i))/\n<=i/\(∀b' u,H4 b'=some u->b'≠se->H' b'=some u))
  ⟨_,0,_,rfl,gse,fun z=>by simp,aF _,fun b' u e _=>e⟩ (fun i σ H' _ ⟨_,_,_,_,_,_,_,k⟩=>ze (k _ _ g4 nse)) ?_ ?_⟩
 ·rintro i x σ H' hx ⟨S,n,v3,rfl,hS,hSz,hn,k⟩
  obtain⟨z,hz,rfl⟩:=strs_at hx;have hi:i<(nms rows++bars).length:=(List.getElem?_eq_some_iff.mp hz).1;have ez:(nms rows++bars)[i]=z:=by rw[aB hi] at hz;exact Option.some.inj hz
  have nz:S z=false:=by
   rw[hSz,decide_eq_false_iff_not];intro hm;obtain⟨j,hj,ej⟩:=List.mem_take_iff_getElem.mp hm
   have:=List.pairwise_iff_getElem.mp nd j i (by omega) hi (by omega)
   exact this (ej.trans ez.symm)
  exists _,rfl,_,rfl,se,S,n,z,rfl,rfl,hS,_,rfl,?_;rw[nz];refine yf ?_;exists _,rfl,se,S,n,rfl,hS,_,rfl,S,n,z,rfl,hS,?_,?_
  ·rw[aG] at hi
   show n+1<4096;omega
  ·exists _,_,_,rfl,za,fun y=>?_,?_,fun b' u e ne=>?_
   ·rw[hSz y,take_succ_eq_append_getElem hi,ez]
    simp [mem_append]
   ·rw[nz]
    show n+1<=i+1;omega
   ·rw[zi ne]
    exact k b' u e ne
 ·rintro σ H' ⟨S,n,v3,rfl,hS,hSz,hn,k⟩
  refine q _ fun b' u e=>k b' u (sA _ _ (s1 _ _ e)) fun z=>?_;rw[z,hse] at e;cases e
def SX(f:Addr)(H H':Hp):Prop:=∀b u,H b=some u->b≠f->H' b=some u
theorem SX.same(x:SX f H H1)(s:zn H1 H2):SX f H H2:=fun b u e n=>s b u (x b u e n)
theorem SX.upd(x:SX f H H1):SX f H (upd H1 f o):=fun b u e n=>by rw[zi n];exact x b u e n
theorem SX.refl:SX f H H:=fun _ _ e _=>e
theorem vj(f:Str)(v:V):∀fs:List (Str×V),(ya f v fs).length<=fs.length+1
 | []=>aF _
 | (g,x)::r=>by
  show(if g=f then (g,v)::r else (g,x)::ya f v r).length<=_
  split
  ·simp
  ·have:=vj f v r
   simp only[length_cons];omega
def Pre(fs:List (Str×V)):Prop:=fs.length<=50/\∀m,m∉zhC->fs.lookup m=none
structure FC(K:Frag)(CF:Addr):Prop where
 cl:Cls K CF
 n1:yJ K CF "row"
 n2:yJ K CF "bar_names"
 n3:yJ K CF "place_count"
 n4:yJ K CF "tail_number"
 n5:yJ K CF "bag_number"
 n6:yJ K CF "doors"
inductive zfR(c:C5)(CF:Addr)(vs:List V)(H:Hp)(Q:VK)(E:XK):Prop|mk(f a b dx:Addr)(fs:List (Str×V))(ps:List Addr)(rows:List Rw)(bars:List Str):vs=[.ref f,.ref a,.ref b]->H f=some (.ins CF dx fs)->Pre fs->H a=some (.lst (ps.map V.ref))->Paired (PAt c H) ps rows->(∀r∈rows,r.ok)->rows.length<=500->H b=some (.lst (bars.map V.str))->(∀H',SX f H H'->qT c CF H H' f rows bars->(∃dx' fs',H' f=some (.ins CF dx' fs')/\fs'.length<=fs.length+6)->Q .non H')->zfR c CF vs H Q E
theorem zih{rows:List Rw}{i:Nat}{r:Rw}(h:rows[i]?=some r):plN (rows.take (i+1))=plN (rows.take i)+(if xx r.k=true then 1 else 0):=by
 have hi:i<rows.length:=(List.getElem?_eq_some_iff.mp h).1;have e:rows[i]=r:=by rw[aB hi] at h;exact Option.some.inj h
 unfold plN;rw[take_succ_eq_append_getElem hi,filter_append,aG,e];cases hb:xx r.k <;> simp [hb]
theorem zaL:∀(rows:List Rw) (i:Nat) (acc:List (Key×V)),(yT i acc rows).length<=acc.length+rows.length
 | [],_,_=>aF _
 | r::rs,i,acc=>by
  have h:=zaL rs (i+1) (if ym r.k=true then yF acc (.inr r.z) (.int i) else acc)
  have h2:(if ym r.k=true then yF acc (.inr r.z) (.int i) else acc).length<=acc.length+1:=by
   split
   ·exact xI acc _ _
   ·omega
  show(yT (i+1) _ rs).length<=acc.length+(rs.length+1);omega
theorem jx{r:Rw}:∀(rows:List Rw) (j i:Nat) (acc:List (Key×V)),rows[i]?=some r->yT j acc (rows.take (i+1))=(if ym r.k=true then yF (yT j acc (rows.take i)) (.inr r.z) (.int (j+i:Nat)) else yT j acc (rows.take i))
 | [],_,_,_,h=>by simp at h
 | r0::rs,j,0,acc,h=>by
  have e:r0=r:=by simpa using h
  subst e;show(if ym r0.k=true then yF acc (.inr r0.z) (.int j) else acc)=_
  rfl
 | r0::rs,j,i+1,acc,h=>by
  have:=jx rs (j+1) i (if ym r0.k=true then yF acc (.inr r0.z) (.int j) else acc) (by simpa using h)
  show yT (j+1) _ (rs.take (i+1))=_;rw[this,show j+1+i=j+(i+1) by omega]
  rfl
theorem PAt.ne(h:PAt c H p r)(e:H f=some (.ins CF dx fs))(n:fs.lookup ("word" : Str)=none):p≠f:=fun z=>by
 obtain⟨d,h⟩:=h;rw[z,e] at h;injection h with h
 injection h with h1 h2 h3
 rw[h3,xM] at n;cases n
theorem uM(e:H f=some (.ins CF dx fs))(n:fs.lookup ("word" : Str)=none)(x:SX f H H')(h:Paired (PAt c H) ps rows):Paired (PAt c H') ps rows:=
 zr (fun _ _ z=>by
  have ne:=z.ne e n;obtain⟨d,q⟩:=z;exact⟨d,x _ _ q ne⟩) h
theorem zlO:([Str.ofString "at",Str.ofString "parameter"]:List Str).Nodup:=by symm
theorem zj0:zt ["self","parameters","bars"] ["self","parameters","bars"] (zj zgb):=fsc
theorem ziE(F:Fun K "keep" "Form.keep" zgb f fd)(T:zbw w K mg G sg)(PP:Pcs K m c)(FK:FC K CF)(cW:zG P w K mg base 1 "number_of_word" g gd ["parameters","word"] (zlm c))
  (GP:zC P w K mg base CX0 1 m.fP gp ["self"] (jy K m bpL)) (bP:z0 K gp ["self"] []) (GB:zC P w K mg base CX0 1 m.fB gb ["self"] (jy K m bnL)) (bB:z0 K gb ["self"] []):zC P w K mg base CX0 2 f fd ["self","parameters","bars"] (zfR c CF):=by
 refine F.ok zj0 (fun cdv A outer s H vs Q E hr h=>?_);obtain⟨f,a,b,dx,fs,ps,rows,bars,rfl,hf,⟨pl,pn⟩,ha,hp,hok,l5,hb,q⟩:=h;have hP:∀C,Cs5 c C->Cls K C/\xH K C "by_place" m.fP:=fun C ⟨k,hk,e⟩=>by rw[e];exact⟨(PP k hk).cl,(PP k hk).mP⟩
 have hB:∀C,Cs5 c C->Cls K C/\xH K C "by_name" m.fB:=fun C ⟨k,hk,e⟩=>by rw[e];exact⟨(PP k hk).cl,(PP k hk).mB⟩
 have nw:fs.lookup ("word" : Str)=none:=pn _ (by symm)
 refine⟨_,zh (vm (pv 0) (cTy yO T.lst PyProof.Rows.boot_list (ac (pv 1) zb)) rfl)
  (zh (vm (pv 0) (cTy yO T.lst PyProof.Rows.boot_list (ac (pv 2) zb)) rfl)
  (zh (vm (pv 0) (cB zI T.len PySem.boot_len (ac (xQ [] ["parameter"] [none] rfl ⟨rfl,rfl,rfl,rfl⟩ (yw (yv (pv 0) rfl)) (yj 0) rfl rfl rfl
    (fun pins fp s H C=>⟨zp (i:=0) zkE rfl ⋯ (.inr rfl),xq (yY (vN (pv 0) hP GP hr bP yi)),pv 0⟩)) zb)) rfl)
  (zh (vm (pv 0) (cF cW hr (ac (yv (pv 0) rfl) (ac zm zb))) rfl)
  (zh (vm (pv 0) (cF cW hr (ac (yv (pv 0) rfl) (ac zm zb))) rfl)
  (zf (vm (pv 0) (zlA [] ["at","parameter"] [none,none] rfl ⟨rfl,rfl,rfl,rfl⟩ (xr rfl T.en (ac (yv (pv 0) rfl) zb)) (xu (K:=K) (n:=2) 0 1) rfl rfl rfl
    (fun pins fp s H C=>⟨yz rfl (zy (zp (i:=0) zlO rfl ⋯ (.inr rfl)) (zy (zp (i:=1) zlO rfl ⋯ (.inr rfl)) yg)),xq (yY (vN (pv 1) hB GB hr bB yi)),zee (K:=K) rfl (pv 1) rfl,pv 0⟩)) rfl)))))),?_⟩
 exists _,rfl,a,_,rfl,.inl (ze ha),fun l1 hl1=>?_;have s1:=zc hl1 (.lst (ps.map V.ref));exists _,rfl,f,CF,dx,fs,rfl,s1 _ _ hf,FK.cl,FK.n1,(by omega),?_
 have x1:SX f H (upd (upd H l1 (.lst (ps.map V.ref))) f (.ins CF dx (ya "row" (.ref l1) fs))):=(SX.refl.same s1).upd;have f1:upd (upd H l1 (.lst (ps.map V.ref))) f (.ins CF dx (ya "row" (.ref l1) fs)) f=some (.ins CF dx (ya "row" (.ref l1) fs)):=za;have e1:upd (upd H l1 (.lst (ps.map V.ref))) f (.ins CF dx (ya "row" (.ref l1) fs)) l1=some (.lst (ps.map V.ref)):=by
  rw[zi (fun z=>by rw[z,hf] at hl1;cases hl1),za]
 have p1:=vj "row" (.ref l1) fs;have r1:(ya "row" (.ref l1) fs).lookup ("row" : Str)=some (.ref l1):=by rw[zo,aK rfl]
 show wx _ _ _ _ (upd (upd H l1 (.lst (ps.map V.ref))) f (.ins CF dx (ya "row" (.ref l1) fs)));generalize upd (upd H l1 (.lst (ps.map V.ref))) f (.ins CF dx (ya "row" (.ref l1) fs))=H1 at x1 f1 e1 |-;have nbf:b≠f:=wo hb hf (by intro z;cases z)
 exists _,rfl,b,_,rfl,.inl (ze (x1 _ _ hb nbf)),fun l2 hl2=>?_;have s2:=zc hl2 (.lst (bars.map V.str));have hlb:H l2=none:=by
  cases e:H l2 with
  | none=>rfl
  | some u=>exact absurd (x1 _ _ e (fun z=>by rw[z,f1] at hl2;cases hl2)) (by rw[hl2];intro z;cases z)
 exists _,rfl,f,CF,dx,_,rfl,s2 _ _ f1,FK.cl,FK.n2,(by omega),?_
 have x2:SX f H (upd (upd H1 l2 (.lst (bars.map V.str))) f (.ins CF dx (ya "bar_names" (.ref l2) (ya "row" (.ref l1) fs)))):=(x1.same s2).upd;have f2:upd (upd H1 l2 (.lst (bars.map V.str))) f (.ins CF dx (ya "bar_names" (.ref l2) (ya "row" (.ref l1) fs))) f=some (.ins CF dx (ya "bar_names" (.ref l2) (ya "row" (.ref l1) fs))):=za;have g2:upd (upd H1 l2 (.lst (bars.map V.str))) f (.ins CF dx (ya "bar_names" (.ref l2) (ya "row" (.ref l1) fs))) l2=some (.lst (bars.map V.str)):=by
  rw[zi (fun z=>by rw[z,f1] at hl2;cases hl2),za]
 have e2:upd (upd H1 l2 (.lst (bars.map V.str))) f (.ins CF dx (ya "bar_names" (.ref l2) (ya "row" (.ref l1) fs))) l1=some (.lst (ps.map V.ref)):=by
  rw[zi (wo e1 f1 (by intro z;cases z)),s2 _ _ e1]
 have p2:=vj "bar_names" (.ref l2) (ya "row" (.ref l1) fs);have r2:(ya "bar_names" (.ref l2) (ya "row" (.ref l1) fs)).lookup ("row" : Str)=some (.ref l1):=by rw[zo,aJ (by symm)];exact r1
 show wx _ _ _ _ (upd (upd H1 l2 (.lst (bars.map V.str))) f (.ins CF dx (ya "bar_names" (.ref l2) (ya "row" (.ref l1) fs))));generalize hfs2:ya "bar_names" (.ref l2) (ya "row" (.ref l1) fs)=fs2 at f2 e2 g2 p2 r2 x2 |-;generalize upd (upd H1 l2 (.lst (bars.map V.str))) f (.ins CF dx fs2)=H2 at x2 f2 e2 g2 |-;have hp2:=uM hf nw x2 hp;exists _,rfl,f,CF,dx,_,_,rfl,f2,FK.cl,FK.n1,r2,l1,rfl,⟨_,ze e2⟩,fun D hD=>?_;refine vW (K:=K) (xs:=ps.map V.ref) (fun i ys H'=>zn H2 H'/\H' D=some (.lst ys)/\ys.length=plN (rows.take i)) ⟨zc hD _,za,rfl⟩ (fun i ys H' h=>ze (h.1 _ _ e2)) ?_ ?_
 ·rintro i x ys H' hlt hx ⟨sH,hDy,ey⟩
  obtain⟨pa,hpa,rfl⟩:=x8 hx;obtain⟨r,hr',dx',hdx⟩:=yZ hp2 hpa;have rok:=hok r (aH hr');have C:=PP r.k rok.1;have nl:ys.length<=i:=by
   rw[ey];unfold plN;refine le_trans (length_filter_le _ _) ?_;rw[length_take];omega
  have hd2:=sH _ _ hdx;exists _,rfl,pa,_,dx',_,rfl,⟨r.k,rok.1,rfl⟩,hd2,js (by symm) (by symm) (by symm),pa,dx',_,_,_,_,rfl,C,hd2,_,rfl,?_
  rw[zhk r.k rok.1];have tk:=zih hr';exists fun e=>?_,fun e=>?_
  ·rw[e,aK rfl] at tk
   exists _,rfl,lcN.mk hlt (zK (by rw[aA,hp.length];omega)) hDy nl ⟨fun b u e=>?_,za,?_⟩
   ·rw[zi (zd e hD)]
    exact sH b u e
   ·rw[aG,ey,tk]
    rfl
  ·rw[e,aJ zft] at tk
   exact lcS.mk hlt ⟨sH,hDy,by rw[ey,tk];rfl⟩
 rintro ys H3 ⟨s3,hDy,ey⟩;rw[aA,hp.length,take_length] at ey;exists D,_,rfl,.inl (ze hDy),?_;rw[ey];have x3:=x2.same s3;exists _,rfl,f,CF,dx,_,rfl,s3 _ _ f2,FK.cl,FK.n3,(by omega),?_
 have f3:upd H3 f (.ins CF dx (ya "place_count" (.int (plN rows:Nat)) fs2)) f=some (.ins CF dx (ya "place_count" (.int (plN rows:Nat)) fs2)):=za;have x4:SX f H (upd H3 f (.ins CF dx (ya "place_count" (.int (plN rows:Nat)) fs2))):=x3.upd;have e4:upd H3 f (.ins CF dx (ya "place_count" (.int (plN rows:Nat)) fs2)) l1=some (.lst (ps.map V.ref)):=by rw[zi (wo e2 f2 (by intro z;cases z))];exact s3 _ _ e2
 have g4:upd H3 f (.ins CF dx (ya "place_count" (.int (plN rows:Nat)) fs2)) l2=some (.lst (bars.map V.str)):=by rw[zi (wo g2 f2 (by intro z;cases z))];exact s3 _ _ g2
 have p3:=vj "place_count" (.int (plN rows:Nat)) fs2;have r3:(ya "place_count" (.int (plN rows:Nat)) fs2).lookup ("row" : Str)=some (.ref l1):=by rw[zo,aJ (by symm)];exact r2
 show wx _ _ _ _ (upd H3 f (.ins CF dx (ya "place_count" (.int (plN rows:Nat)) fs2)));generalize hfs3:ya "place_count" (.int (plN rows:Nat)) fs2=fs3 at f3 x4 e4 g4 p3 r3 |-;generalize upd H3 f (.ins CF dx fs3)=H4 at x4 f3 e4 g4 |-;exists _,rfl,f,CF,dx,_,_,rfl,f3,FK.cl,FK.n1,r3,l1,ps,rows,2,rfl,by decide,e4,uM hf nw x4 hp,hok,fun H5 s5=>?_
 exists _,rfl,f,CF,dx,_,rfl,s5 _ _ f3,FK.cl,FK.n4,(by omega),?_
 have f5:upd H5 f (.ins CF dx (ya "tail_number" (wF (zL 2 0 rows)) fs3)) f=some (.ins CF dx (ya "tail_number" (wF (zL 2 0 rows)) fs3)):=za;have x5:SX f H (upd H5 f (.ins CF dx (ya "tail_number" (wF (zL 2 0 rows)) fs3))):=(x4.same s5).upd;have e5:upd H5 f (.ins CF dx (ya "tail_number" (wF (zL 2 0 rows)) fs3)) l1=some (.lst (ps.map V.ref)):=by rw[zi (wo e4 f3 (by intro z;cases z))];exact s5 _ _ e4
 have g5:upd H5 f (.ins CF dx (ya "tail_number" (wF (zL 2 0 rows)) fs3)) l2=some (.lst (bars.map V.str)):=by rw[zi (wo g4 f3 (by intro z;cases z))];exact s5 _ _ g4
 have p4:=vj "tail_number" (wF (zL 2 0 rows)) fs3;have r4:(ya "tail_number" (wF (zL 2 0 rows)) fs3).lookup ("row" : Str)=some (.ref l1):=by rw[zo,aJ (by symm)];exact r3
 show wx _ _ _ _ (upd H5 f (.ins CF dx (ya "tail_number" (wF (zL 2 0 rows)) fs3)));generalize hfs4:ya "tail_number" (wF (zL 2 0 rows)) fs3=fs4 at f5 x5 e5 g5 p4 r4 |-;generalize upd H5 f (.ins CF dx fs4)=H6 at x5 f5 e5 g5 |-;exists _,rfl,f,CF,dx,_,_,rfl,f5,FK.cl,FK.n1,r4,l1,ps,rows,4,rfl,by decide,e5,uM hf nw x5 hp,hok,fun H7 s7=>?_
 exists _,rfl,f,CF,dx,_,rfl,s7 _ _ f5,FK.cl,FK.n5,(by omega),?_
 have f7:upd H7 f (.ins CF dx (ya "bag_number" (wF (zL 4 0 rows)) fs4)) f=some (.ins CF dx (ya "bag_number" (wF (zL 4 0 rows)) fs4)):=za;have x7:SX f H (upd H7 f (.ins CF dx (ya "bag_number" (wF (zL 4 0 rows)) fs4))):=(x5.same s7).upd;have e7:upd H7 f (.ins CF dx (ya "bag_number" (wF (zL 4 0 rows)) fs4)) l1=some (.lst (ps.map V.ref)):=by rw[zi (wo e5 f5 (by intro z;cases z))];exact s7 _ _ e5
 have g7:upd H7 f (.ins CF dx (ya "bag_number" (wF (zL 4 0 rows)) fs4)) l2=some (.lst (bars.map V.str)):=by rw[zi (wo g5 f5 (by intro z;cases z))];exact s7 _ _ g5
 have p5:=vj "bag_number" (wF (zL 4 0 rows)) fs4;have r5:(ya "bag_number" (wF (zL 4 0 rows)) fs4).lookup ("row" : Str)=some (.ref l1):=by rw[zo,aJ (by symm)];exact r4
 generalize hfs5:ya "bag_number" (wF (zL 4 0 rows)) fs4=fs5 at f7 x7 e7 g7 p5 r5 |-;generalize upd H7 f (.ins CF dx fs5)=H8 at x7 f7 e7 g7 |-;have hp8:=uM hf nw x7 hp;exists _,rfl,f,CF,dx,_,_,rfl,f7,FK.cl,FK.n1,r5,l1,rfl,⟨_,ze e7⟩,fun D2 hD2=>?_;refine zjb (K:=K) (xs:=ps.map V.ref) (fun i ys H'=>zn H8 H'/\H' D2=some (.dK ys)/\ys=yT 0 [] (rows.take i)) ⟨zc hD2 _,za,rfl⟩ (fun i ys H' h=>ze (h.1 _ _ e7)) ?_ ?_
 ·rintro i x p ys H' hlt hx ⟨sH,hDy,ey⟩ hpn
  obtain⟨pa,hpa,rfl⟩:=x8 hx;obtain⟨r,hr',dx',hdx⟩:=yZ hp8 hpa;have rok:=hok r (aH hr');have C:=PP r.k rok.1;have sp:=zc hpn (.tup [.int (i:Nat),.ref pa]);have hd2:=sp _ _ (sH _ _ hdx);have hDp:upd H' p (.tup [.int (i:Nat),.ref pa]) D2=some (.dK ys):=by rw[zi (zd hDy hpn)];exact hDy
  have nl:ys.length<=i:=by
   rw[ey];refine le_trans (zaL _ _ _) ?_;rw[length_take];show 0+_<=i;omega
  exists p,_,rfl,zq za,rfl,_,_,rfl,_,_,rfl,rfl,?_;exists _,rfl,pa,_,dx',_,rfl,⟨r.k,rok.1,rfl⟩,hd2,js (by symm) (by symm) (by symm),pa,dx',_,_,_,_,rfl,C,hd2,_,rfl,?_
  rw[uR r.k rok.1];have tk:=jx rows 0 i [] hr';exists fun e=>?_,fun e=>?_
  ·rw[e,aK rfl] at tk
   exists _,rfl,pa,_,dx',_,_,rfl,hd2,C.cl,C.nN,wq,_,rfl,dcN.mk (.inr r.z) hlt rfl (zK (by rw[aA,hp.length];omega)) hDp nl ⟨fun b u e=>?_,za,?_⟩
   ·rw[zi (zd e hD2)]
    exact sp _ _ (sH b u e)
   ·rw[tk,<- ey,Nat.zero_add]
  ·rw[e,aJ zft] at tk
   exact dcS.mk hlt ⟨sH.trans sp,hDp,by rw[ey,tk]⟩
 rintro ys H9 ⟨s9,hDy,ey⟩;rw[aA,hp.length,take_length] at ey;exists _,rfl,f,CF,dx,_,rfl,s9 _ _ f7,FK.cl,FK.n6,(by omega),?_
 have nf:∀{x:Addr}{o:HO},H9 x=some o->(∀C d g,o≠.ins C d g)->upd H9 f (.ins CF dx (ya "doors" (.ref D2) fs5)) x=some o:=fun {x o} e n=>by
  rw[zi (wo e (s9 _ _ f7) (by intro z;exact n _ _ _ z))]
  exact e
 refine q _ (x7.same s9).upd ⟨dx,_,l1,l2,D2,ps,za,?_,nf (s9 _ _ e7) (by intro _ _ _ z;cases z),uM hf nw (x7.same s9).upd hp,nf (s9 _ _ g7) (by intro _ _ _ z;cases z),nf (by rw[hDy,ey]) (by intro _ _ _ z;cases z),hl1,hlb⟩ ⟨dx,_,za,le_trans (vj _ _ _) (by omega)⟩
 rw[<- hfs5,<- hfs4,<- hfs3,<- hfs2];exists ?_,?_,?_,?_,?_,?_,fun mm hm=>?_
 ·rw[zo,aJ (by symm),zo,aJ (by symm),zo,aJ (by symm),zo,aJ (by symm),zo,aJ (by symm),zo,aK rfl]
 ·rw[zo,aJ (by symm),zo,aJ (by symm),zo,aJ (by symm),zo,aJ (by symm),zo,aK rfl]
 ·rw[zo,aJ (by symm),zo,aJ (by symm),zo,aJ (by symm),zo,aK rfl]
 ·rw[zo,aJ (by symm),zo,aJ (by symm),zo,aK rfl]
 ·rw[zo,aJ (by symm),zo,aK rfl]
 ·rw[zo,aK rfl]
 ·have h':∀a∈zhC,¬mm=a:=fun a ha e=>hm (e ▸ ha)
  rw[zo,aJ (h' _ (by symm)),zo,aJ (h' _ (by symm)),zo,aJ (h' _ (by symm)),zo,aJ (h' _ (by symm)),zo,aJ (h' _ (by symm)),zo,aJ (h' _ (by symm))]
  exact pn mm hm
inductive zln(c:C5)(CF:Addr)(vs:List V)(H:Hp)(Q:VK)(E:XK):Prop|mk(f a dx bv ps rows bars:_):vs=[.ref f,.ref a,bv]->H f=some (.ins CF dx [])->H a=some (.lst (ps.map V.ref))->Paired (PAt c H) ps rows->((bv=.non/\bars=[])\/∃b,bv=.ref b/\H b=some (.lst (bars.map V.str)))->vS rows bars->(∀H',SX f H H'->qT c CF H H' f rows bars->(∃dx' fs',H' f=some (.ins CF dx' fs')/\fs'.length<=6)->Q .non H')->zln c CF vs H Q E
inductive jY(c:C5)(CF:Addr)(vs:List V)(H:Hp)(Q:VK)(E:XK):Prop|mk(f rows bars:_):vs=[.ref f]->xz c CF H f rows bars->(∀l ps H',zn H H'->H l=none->H' l=some (.lst (ps.map V.ref))->Paired (PAt c H') ps rows->Q (.ref l) H')->jY c CF vs H Q E
inductive zcM(c:C5)(CF:Addr)(vs:List V)(H:Hp)(Q:VK)(E:XK):Prop|mk(f rows bars:_):vs=[.ref f]->xz c CF H f rows bars->(∀l H',zn H H'->H l=none->H' l=some (.lst (bars.map V.str))->Q (.ref l) H')->zcM c CF vs H Q E
inductive vH(c:C5)(CF:Addr)(vs:List V)(H:Hp)(Q:VK)(E:XK):Prop|mk(f rows bars:_):vs=[.ref f]->xz c CF H f rows bars->(Q (.int (plN rows:Nat)) H)->vH c CF vs H Q E
inductive vG(c:C5)(CF:Addr)(kk:Nat)(vs:List V)(H:Hp)(Q:VK)(E:XK):Prop|mk(f rows bars:_):vs=[.ref f]->xz c CF H f rows bars->(Q (wF (zL kk 0 rows)) H)->vG c CF kk vs H Q E
inductive zd3(c:C5)(CF:Addr)(vs:List V)(H:Hp)(Q:VK)(E:XK):Prop|mk(f z rows bars:_):vs=[.ref f,.str z]->xz c CF H f rows bars->(Q ((zS (yT 0 [] rows) (.inr z)).getD .non) H)->zd3 c CF vs H Q E
def TAt(H:Hp)(u:Addr)(r:Rw):Prop:=H u=some (.tup (rv r))
inductive za1(c:C5)(CF:Addr)(vs:List V)(H:Hp)(Q:VK)(E:XK):Prop|mk(f rows bars:_):vs=[.ref f]->(∀r∈rows,r.ok)->rows.length<=500->xz c CF H f rows bars->(∀t l1 l2 us H',zn H H'->H l1=none->H l2=none->l1≠l2->H' t=some (.tup [.ref l1,.ref l2])->
 H' l1=some (.lst (us.map V.ref))->Paired (TAt H') us rows->H' l2=some (.lst (bars.map V.str))->Q (.ref t) H')->za1 c CF vs H Q E
theorem z9(s:zn H H')(h:Paired (TAt H) us rows):Paired (TAt H') us rows:=zr (fun _ _ z=>s _ _ z) h
theorem zea:zt ["self","parameters","bars","names"] ["self","parameters","bars"] (zj zc7):=fsc
theorem zg0(F:zaf K "__init__" "Form.__init__" zc7 f fd ds)(FK:FC K CF)(mK:xH K CF "keep" g5)
  (cM:zG P w K mg base 1 "refuse_too_many" g1 e1 ["parameters","bars"] (zfN K)) (cO:zG P w K mg base 1 "refuse_bad_order" g2 e2 ["parameters"] (zjq c)) (cB':zG P w K mg base 2 "refuse_bars_without_name" g3 e3 ["bars"] zll) (cT:zG P w K mg base 2 "refuse_twice" g4 e4 ["parameters","bars"] (zlk c))
  (GK:zC P w K mg base CX0 2 g5 e5 ["self","parameters","bars"] (zfR c CF)) (bK:z0 K e5 ["self","parameters","bars"] []):zC P w K mg base CX0 3 f fd ["self","parameters","bars"] (zln c CF):=by
 refine F.ok zea (fun vs H Q E h=>?_) (fun cdv A outer s H vs Q E hr h=>?_)
 ·obtain⟨f,a,dx,bv,ps,rows,bars,rfl,_⟩:=h
  rfl
 obtain⟨f,a,dx,bv,ps,rows,bars,rfl,hf,ha,hp,hb,V',q⟩:=h;have hr1:yn 1 _:=hr.mono (by decide)
 refine⟨_,zh (zu (i:=3) zea.nd rfl ⋯ (zbX (vk (zbj (pv 2))) (zN zb) (pv 2)))
  (zh (zP (cF cM hr1 (ac (pv 1) (ac (pv 3) zb))))
  (zh (zP (cF cO hr1 (ac (pv 1) zb)))
  (zh (zP (cF cB' hr (ac (pv 3) zb)))
  (zh (zP (cF cT hr (ac (pv 1) (ac (pv 3) zb))))
  (zf (zP (zbi (pv 0) FK.cl mK GK hr bK .nil yi (ac (pv 1) (ac (pv 3) zb))))))))),?_⟩
 try dsimp only
 refine yr (fun σ' H'=>∃b,σ'=[some (.ref f),some (.ref a),some bv,some (.ref b)]/\zn H H'/\H' b=some (.lst (bars.map V.str))) ?_ (fun key=>?_);rotate_left
 ·rcases hb with ⟨rfl,rfl⟩|⟨b,rfl,hb⟩
  ·exists _,rfl,_,rfl,?_
   refine dT rfl ?_;exists xK,fun l hl=>?_;exact key _ _ ⟨l,rfl,zc hl _,za⟩
  ·exists _,rfl,_,rfl,?_
   refine dF (by intro z;cases z) ?_
   exact⟨_,rfl,key _ _ ⟨b,rfl,zn.refl _,hb⟩⟩
 rintro σ1 H1 ⟨b,rfl,s1,hb1⟩;have ha1:=s1 _ _ ha;exists _,rfl,_,rfl,a,b,_,_,rfl,ze ha1,ze hb1,(by rw[aA,hp.length];exact V'.l24),(by rw[aA];exact V'.l60),?_
 exists _,rfl,a,ps,rows,rfl,ha1,xU s1 hp,V'.ok,V'.ord,fun H2 s2=>?_;exists _,rfl,b,bars,rfl,s2 _ _ hb1,V'.bn,fun H3 s3=>?_;have s13:=s1.trans (s2.trans s3);exists _,rfl,_,rfl,a,b,ps,rows,bars,rfl,s13 _ _ ha,xU s13 hp,V'.ok,le_trans V'.l24 (by decide),s3 _ _ (s2 _ _ hb1),le_trans V'.l60 (by decide),V'.nd,fun H4 s4=>?_
 have s14:=s13.trans s4;exists _,rfl,f,dx,_,rfl,s14 _ _ hf,rfl,_,rfl,_,rfl,f,a,b,dx,[],ps,rows,bars,rfl,s14 _ _ hf,⟨by decide,fun _ _=>rfl⟩,s14 _ _ ha,xU s14 hp,V'.ok,le_trans V'.l24 (by decide),s4 _ _ (s3 _ _ (s2 _ _ hb1)),fun H5 x5 F5 L5=>?_
 exact q _ (fun b' u e n=>x5 b' u (s14 _ _ e) n) (F5.of s14) L5
theorem zh6:zt ["self"] ["self"] (zj zc6):=fsc
theorem zgZ(F:Fun K "parameters" "Form.parameters" zc6 f fd)(T:zbw w K mg G sg)(FK:FC K CF):zC P w K mg base CX0 1 f fd ["self"] (jY c CF):=by
 refine F.ok zh6 (fun cdv A outer s H vs Q E hr h=>?_);obtain⟨f,rows,bars,rfl,⟨dx,fs,lr,lb,ld,ps,h1,h2,h3,h4,h5,h6⟩,q⟩:=h;exists _,zf (zA (cTy yO T.lst PyProof.Rows.boot_list (ac (yv (pv 0) rfl) zb))),?_;exists _,rfl,f,CF,dx,_,_,rfl,h1,FK.cl,FK.n1,h2.row,lr,_,rfl,.inl (ze h3),fun l hl=>?_;have s1:=zc hl (.lst (ps.map V.ref));exact q l ps _ s1 hl za (xU s1 h4)
theorem zh7:zt ["self"] ["self"] (zj zc8):=fsc
theorem zg1(F:Fun K "bars" "Form.bars" zc8 f fd)(T:zbw w K mg G sg)(FK:FC K CF):zC P w K mg base CX0 1 f fd ["self"] (zcM c CF):=by
 refine F.ok zh7 (fun cdv A outer s H vs Q E hr h=>?_);obtain⟨f,rows,bars,rfl,⟨dx,fs,lr,lb,ld,ps,h1,h2,h3,h4,h5,h6⟩,q⟩:=h;exists _,zf (zA (cTy yO T.lst PyProof.Rows.boot_list (ac (yv (pv 0) rfl) zb))),?_;exists _,rfl,f,CF,dx,_,_,rfl,h1,FK.cl,FK.n2,h2.bn,lb,_,rfl,.inl (ze h5),fun l hl=>?_;exact q l _ (zc hl _) hl za
theorem zeJ:zt ["self"] ["self"] (zj qd):=fsc
theorem zdg(F:Fun K "places" "Form.places" qd f fd)(FK:FC K CF):zC P w K mg base CX0 1 f fd ["self"] (vH c CF):=by
 refine F.ok zeJ (fun cdv A outer s H vs Q E hr h=>?_);obtain⟨f,rows,bars,rfl,⟨dx,fs,lr,lb,ld,ps,h1,h2,h3,h4,h5,h6⟩,q⟩:=h;exact⟨_,zf (zA (yv (pv 0) rfl)),_,rfl,f,CF,dx,_,_,rfl,h1,FK.cl,FK.n3,h2.pc,q⟩
theorem zh5:zt ["self"] ["self"] (zj zc5):=fsc
theorem zgY(F:Fun K "tail" "Form.tail" zc5 f fd)(FK:FC K CF):zC P w K mg base CX0 1 f fd ["self"] (vG c CF 2):=by
 refine F.ok zh5 (fun cdv A outer s H vs Q E hr h=>?_);obtain⟨f,rows,bars,rfl,⟨dx,fs,lr,lb,ld,ps,h1,h2,h3,h4,h5,h6⟩,q⟩:=h;exact⟨_,zf (zA (yv (pv 0) rfl)),_,rfl,f,CF,dx,_,_,rfl,h1,FK.cl,FK.n4,h2.tn,q⟩
theorem zj4:zt ["self"] ["self"] (zj zgg):=fsc
theorem ziJ(F:Fun K "bag" "Form.bag" zgg f fd)(FK:FC K CF):zC P w K mg base CX0 1 f fd ["self"] (vG c CF 4):=by
 refine F.ok zj4 (fun cdv A outer s H vs Q E hr h=>?_);obtain⟨f,rows,bars,rfl,⟨dx,fs,lr,lb,ld,ps,h1,h2,h3,h4,h5,h6⟩,q⟩:=h;exact⟨_,zf (zA (yv (pv 0) rfl)),_,rfl,f,CF,dx,_,_,rfl,h1,FK.cl,FK.n5,h2.bg,q⟩
theorem zj3:zt ["self","name"] ["self","name"] (zj zgf):=fsc
theorem ziH(F:Fun K "number_of" "Form.number_of" zgf f fd)(FK:FC K CF):zC P w K mg base CX0 1 f fd ["self","name"] (zd3 c CF):=by
 refine F.ok zj3 (fun cdv A outer s H vs Q E hr h=>?_);obtain⟨f,z,rows,bars,rfl,⟨dx,fs,lr,lb,ld,ps,h1,h2,h3,h4,h5,h6⟩,q⟩:=h;exists _,zf (zA (zgz (zaE hr) (yv (pv 0) rfl) (pv 1) ⟨rfl,rfl,rfl,rfl⟩)),?_;exists _,rfl,f,CF,dx,_,_,rfl,h1,FK.cl,FK.n6,h2.dr,ld,rfl,?_,_,rfl,_,.inl ⟨_,.inr z,.inl h6,rfl,rfl⟩,q;exact .inl ⟨_,.inl h6⟩
theorem zh4:zt ["self"] ["self"] (zj zc4):=fsc
theorem zgX(F:Fun K "told" "Form.told" zc4 f fd)(T:zbw w K mg G sg)(FK:FC K CF)(PP:Pcs K m c)(GO:zC P w K mg base CX0 2 m.fO gd ["self"] (zcH K m))(bO:z0 K gd ["self"] []):zC P w K mg base CX0 3 f fd ["self"] (za1 c CF):=by
 refine F.ok zh4 (fun cdv A outer s H vs Q E hr h=>?_);obtain⟨f,rows,bars,rfl,hok,l5,⟨dx,fs,lr,lb,ld,ps,h1,h2,h3,h4,h5,h6⟩,q⟩:=h;have hO:∀C,Cs5 c C->Cls K C/\xH K C "told" m.fO:=fun C ⟨k,hk,e⟩=>by rw[e];exact⟨(PP k hk).cl,(PP k hk).mO⟩
 refine⟨_,zf (zA (zJ (ac (xQ [] ["parameter"] [none] rfl ⟨rfl,rfl,rfl,rfl⟩ (yw (yv (pv 0) rfl)) (yj 0) rfl rfl rfl
   (fun pins fp s H C=>⟨zp (i:=0) zkE rfl ⋯ (.inr rfl),xc,vN (pv 0) hO GO hr bO yi⟩)) (ac (cTy yO T.lst PyProof.Rows.boot_list (ac (yv (pv 0) rfl) zb)) zb)))),?_⟩
 exists _,rfl,f,CF,dx,_,_,rfl,h1,FK.cl,FK.n1,h2.row,lr,rfl,⟨_,ze h3⟩,fun D hD=>?_;refine vW (K:=K) (xs:=ps.map V.ref) (fun i ys H'=>zn H H'/\H' D=some (.lst ys)/\∃us,ys=us.map V.ref/\Paired (TAt H') us (rows.take i)) ⟨zc hD _,za,[],rfl,.nil⟩ (fun i ys H' h=>ze (h.1 _ _ h3)) ?_ ?_
 ·rintro i x ys H' hlt hx ⟨sH,hDy,us,ey,pu⟩
  obtain⟨pa,hpa,rfl⟩:=x8 hx;obtain⟨r,hr',dx',hdx⟩:=yZ h4 hpa;have rok:=hok r (aH hr');have C:=PP r.k rok.1;have hd2:=sH _ _ hdx;have hi:i<rows.length:=(List.getElem?_eq_some_iff.mp hr').1;have er:rows[i]=r:=by rw[aB hi] at hr';exact Option.some.inj hr'
  exists fun _=>?_,fun e=>Bool.noConfusion e;exists _,rfl,pa,_,dx',_,rfl,⟨r.k,rok.1,rfl⟩,hd2,js (by symm) (by symm) (by symm),pa,dx',_,r.k,.str r.z,r.b,rfl,rok.1,C,hd2,fun u H2 s2 hu2=>?_
  have nl:ys.length<=i:=by
   rw[ey,aA,pu.length,length_take];omega
  have nDu:u≠D:=fun z=>by
   rw[z,s2 _ _ hDy] at hu2;cases hu2
  refine lcN.mk hlt (zK (by rw[aA,h4.length];omega)) (s2 _ _ hDy) nl ⟨fun b u' e=>?_,za,us++[u],by rw[ey,aE];rfl,?_⟩
  ·rw[zi (zd e hD)]
   exact s2 _ _ (sH b u' e)
  ·rw[take_succ_eq_append_getElem hi,er]
   refine Paired.snoc (zr (fun v r' z=>?_) pu) ?_
   ·have z2:H2 v=some (.tup (rv r')):=s2 _ _ z
    show upd H2 D _ v=some (.tup (rv r'));rw[zi (fun e=>by rw[e,s2 _ _ hDy] at z2;cases z2)]
    exact z2
   ·show upd H2 D _ u=some (.tup (rv r))
    rw[zi nDu];exact hu2
 rintro ys H2 ⟨s2,hDy,us,rfl,pu⟩;rw[aA,h4.length,take_length] at pu;exists _,rfl,f,CF,dx,_,_,rfl,s2 _ _ h1,FK.cl,FK.n2,h2.bn,lb,_,rfl,.inl (ze (s2 _ _ h5)),fun l2 hl2=>?_;have s3:=zc hl2 (.lst (bars.map V.str));exists z6,fun t ht=>?_;have s4:=zc ht (.tup [.ref D,.ref l2]);exact q t D l2 us _ (s2.trans (s3.trans s4)) hD (s2.free hl2) (zd hDy hl2) za (s4 _ _ (s3 _ _ hDy)) (z9 (s3.trans s4) pu) (s4 _ _ za)
end
end K26
namespace L2
open PySem PySem.Spec PyProof.Rows
section
variable {X:Cx}{pins:PnL}{σ:St}{H:Hp}{s:Shared}
theorem Inv.freeze(I:Inv X pins σ H s){l:Addr}{kvs:List (Key×V)}(hl:H l=some (.dK kvs)):∃o,s.heap.get? l=some o/\Inv X pins σ (upd H l (.frz o (.dK kvs))) s:=by
 obtain⟨hz,hy,vs,r,o,es,ep,ho,c⟩:=id (I.hok l _ hl);exists o,ho,⟨I.ok,I.os,I.bare,⟨I.base.keep,I.base.slot,fun b u e n x=>?_,I.base.there,fun b xs e=>?_,fun b u v e=>?_,fun b ps e=>?_⟩,I.loc,I.cell,?_,fun x c e=>?_,fun p hp'=>?_,fun b u e=>?_,I.len⟩
 ·have e1:=I.base.free b u e n x
  rw[zi (zd hl e1).symm];exact e1
 ·have e1:=I.base.tups b xs e
  rw[zi (wo e1 hl (by intro z;cases z))];exact e1
 ·have e1:=I.base.frzs b u v e
  rw[zi (wo e1 hl (by intro z;cases z))];exact e1
 ·obtain⟨more,e1⟩:=I.base.tbls b ps e
  exact⟨more,by rw[zi (wo e1 hl (by intro z;cases z))];exact e1⟩
 ·rw[zi (zd hl I.free).symm];exact I.free
 ·rw[zi (zd hl (I.freeC x c e)).symm];exact I.freeC x c e
 ·obtain⟨q1,q2,q3⟩:=I.pin p hp'
  exact⟨q1,by rw[zi (zd hl q2).symm];exact q2,q3⟩
 ·have ho':∀c,∀b,H b=some (.own c)->upd H l (.frz o (.dK kvs)) b=some (.own c):=fun c b q=>by rw[zi (wo q hl (by intro z;cases z))];exact q
  have ht':∀b xs,H b=some (.tup xs)->upd H l (.frz o (.dK kvs)) b=some (.tup xs):=fun b xs q=>by rw[zi (wo q hl (by intro z;cases z))];exact q
  by_cases hb:b=l
  ·subst hb;rw[za] at e;cases e
   exact⟨ho,(I.hok b _ hl).stay (fun _ _ _ q=>q) (ho' b) ht'⟩
  ·rw[zi hb] at e
   exact(I.hok b u e).stay (fun _ _ _ q=>q) (ho' b) ht'
inductive zmhJ(Q:VK)(x:V)(H1:Hp):Prop|mk(l kvs:_):x=.ref l->H1 l=some (.dK kvs)->(∀o,Q x (upd H1 l (.frz o (.dK kvs))))->zmhJ Q x H1
def zmh(te:TE):TE:=fun σ H Q=>te σ H fun x H1=>zmhJ Q x H1
theorem zkq{e:Expr}{te:TE}(h:PE X e te):PE X e (zmh te):=by
 exists ?_;intro pins s σ H Q I hw;refine thn (h pins s σ H _ I hw) fun v s1 ⟨x,H1,I1,r1,l,kvs,ex,hl,q⟩=>?_;obtain⟨o,_,I2⟩:=I1.freeze hl;exact⟨x,_,I2,r1,q o⟩
theorem zia{k:Key}{u:Value}(h:qC k u=true):zW (kV k) u:=by
 rcases yA h with ⟨i,t,rfl,rfl⟩|⟨x,t,rfl,rfl⟩
 ·exact⟨t,rfl⟩
 ·exact⟨t,rfl⟩
def Itd(d:Addr)(o:Obj)(kvs:List (Key×V)):It:=
 ⟨fun i H=>H d=some (.frz o (.dK kvs))/\i<kvs.length,fun i H x H'=>∃(p:Addr) (k:Key) (v:V),x=.ref p/\H p=none/\kvs[i]?=some (k,v)/\H'=upd H p (.tup [kV k,v]),fun i H=>H d=some (.frz o (.dK kvs))/\kvs.length<=i⟩
theorem zho{X:Cx}{pins:PnL}{σ : St}{H:Hp}{s:Shared}{d:Addr}{o:Obj}{kvs:List (Key×V)}{es:Array DictEntry}{ep:Nat}(I:Inv X pins σ H s)(hd:H d=some (.frz o (.dK kvs)))(ho:o.data=.dict es ep):
  (d==sysModules)=false/\∃vs,KV kvs vs/\s.heap.DictAt (yl X.prog X.w) d vs ep:=by
 obtain⟨e,hz,hy,vs,r,o',es',ep',ho',c1,c2,c3⟩:=id (I.hok d _ hd);rw[e] at ho';cases ho';rw[ho] at c2;cases c2;exact⟨hy,vs,r,o,es,e,c1,ho,c3⟩
theorem uc:entryFor table "dict_itemiterator.__iter__"=some Builtin.«dict_keyiterator.__iter__»:=entryFor_alias (id':="dict_keyiterator.__iter__") (by kernel_rfl) (by first|rfl|decide +kernel|(unfold String.splitOn;simp +decide [String.splitOnAux])) (by symm) (by kernel_rfl)
theorem vC{P:Program}{w:World}{A:Around}{E:VSP}{s:Shared}{it d:Addr}{i n ep:Nat}{ok ov:Value}{Q:VSP}(he:IsItemIter s.heap it d i n ep ok ov)(h:Q (.ref it) s):wpAny (model P w) A (pyIter (.ref it)) Q E s:=by
 have hT:s.TypeIs (.ref it) "dict_itemiterator":=⟨_,he,rfl⟩;refine wpAny_pyIter_slot hT F.slot_dict_itemiterator_iter (wpAny_call_entry F.slot_dict_itemiterator_iter hT uc ?_ (F.args_dict_itemiterator_iter_1 _));show wpAny _ _ (ret (.ref it)) _ _ s;exact zwp ⟨_,rfl,"dict_itemiterator",_,hT,F.slot_dict_itemiterator_next.lookup,h⟩
theorem zcC{P:Program}{w:World}{K:Frag}{elts:List Expr}{x1:Nat}{tpos:Pos}(d it:Addr)(o:Obj)(kvs:List (Key×V))(es:Array DictEntry)(ep:Nat)(ho:o.data=.dict es ep):
  zae P w K (.Tuple elts x1 tpos) (Itd d o kvs) [it] it (fun i h=>∃ok ov,IsItemIter h it d i kvs.length ep ok ov) where
 mem:=by simp
 obj:=fun i h st b hb=>by
  have e':b=it:=by simpa using hb
  subst e';obtain⟨ok,ov,hi⟩:=st;exact⟨_,hi,fun v q=>by cases q⟩
 keep:=fun i h h' st k=>by
  obtain⟨ok,ov,hi⟩:=st;exact⟨ok,ov,k it (by simp) _ hi⟩
 item:=by
  intro X hP hw hK hc i pins s σ H E I hf st hg;subst hP hw hK;obtain⟨f0,f1,f2,f3,f4,f5⟩:=hf it (by simp)
  obtain⟨ok,ov,hit⟩:=st;obtain⟨hd,hlt⟩:=hg;obtain⟨hy,vs,r,hm⟩:=zho I hd ho;have hl:kvs.length=vs.length:=r.length;obtain⟨⟨k2,u⟩,hu,ek,ru⟩:=Paired.get r (aB hlt);rw[hl] at hit;obtain⟨k,v,hkv⟩:∃k v,kvs[i]=(k,v):=⟨_,_,rfl⟩;have ek:k=k2:=by rw[hkv] at ek;exact ek
  have ru2:zW v u:=by rw[hkv] at ru;exact ru
  subst ek;refine wpAny_pyNext_items_item hit hm hu fun key h' hk2 he' htup hsz hkp=>?_;have rk:zW (kV k) key:=zia hk2;have I0:Inv X pins σ H { s with heap:=h' }:=I.turned (t':=s.toks) (it:=it) hkp f0 f1 f3 f4 f5
  have hfr:H s.heap.objs.size=none:=I.hok.fresh (aF _);have I1:Inv X pins σ (upd H s.heap.objs.size (.tup [kV k,v])) { s with heap:=h' }:=by
   have hok:HOk X.prog X.w (upd H s.heap.objs.size (.tup [kV k,v])) h':=fun b o q=>by
    by_cases hb:b=s.heap.objs.size
    ·subst hb
     rw[za] at q;cases q;exact⟨by show 2<=sizeLine;decide,[key,u],.cons rk (.cons ru2 .nil),⟨_,htup,rfl,_,rfl⟩⟩
    ·rw[zi hb] at q
     exact(I0.hok b o q).stay (fun _ _ _ z=>z) (fun c z=>by rw[zi (zd z hfr)];exact z) fun c xs' z=>by rw[zi (zd z hfr)];exact z
   refine I0.step (s:={ s with heap:=h' }) (g':=s.gens) (d':=s.drawn) (h':=h') (t':=s.toks) (ch:=[s.heap.objs.size]) (fun b hb=>?_) (fun b o _ _ _ e1 _=>e1) (fun b o _ _ _ e1 _=>⟨o.slots,e1⟩) (fun b o hb e1 n=>by rw[zi (fun z=>hb (by simp [z]))];exact n)
    (fun b o _ e1=>⟨o,e1⟩) (fun b xs' e1=>by rw[zi (zd e1 hfr)];exact e1) (fun b o' u' e1=>by rw[zi (zd e1 hfr)];exact e1) (fun b ps e1=>⟨#[],by rw[zi (zd e1 hfr),e1];simp⟩) (fun m hm=>hm) hok I0.bare
   have e':b=s.heap.objs.size:=by simpa using hb
   subst e';exists .inr I.sz,fun z=>?_,fun y c h z=>?_,fun p hp' z=>?_
   ·have:=I.lt;rw[<- z] at this;exact absurd this (lt_irrefl _)
   ·obtain⟨v',hv⟩:=I.cell y c h
    have:=hv.lt;rw[z] at this;exact absurd this (lt_irrefl _)
   ·have:=I.pin_lt hp';rw[z] at this;exact absurd this (lt_irrefl _)
  exists _,rfl,wpAny_letOwnedTupleGo_items he' fun h2 he2 hs2=>?_;have nis:s.heap.objs.size≠it:=fun z=>by
   have:=aI (show s.heap.get? it=some _ from hit)
   rw[<- z] at this;exact absurd this (lt_irrefl _)
  have I2:Inv X pins σ (upd H s.heap.objs.size (.tup [kV k,v])) { s with heap:=h2 }:=
   I1.turned (s:={ s with heap:=h' }) (t':=s.toks) (it:=it) (fun b o hb q=>(hs2.2 b hb).trans q) (by rw[zi nis.symm];exact f0) f1 f3 f4 f5
  exists .ref s.heap.objs.size,_,I2,rfl,⟨_,k,v,rfl,hfr,by rw[aB hlt,hkv],rfl⟩,⟨_,_,by rw[hl];exact he2⟩,fun b hb=>?_
  have e':b=it:=by simpa using hb
  subst e';rw[zi nis.symm];exact f0
 done:=by
  intro X hP hw hK hc i pins s σ H E I hf st hg;subst hP hw hK;obtain⟨ok,ov,hit⟩:=st;obtain⟨f0,f1,f2,f3,f4,f5⟩:=hf it (by simp)
  obtain⟨hd,hle⟩:=hg;obtain⟨hy,vs,r,hm⟩:=zho I hd ho;have hl:kvs.length=vs.length:=r.length;rw[hl] at hit;exact wpAny_pyNext_items_end (I.ok.hd hc) hit hm (getElem?_eq_none (by omega)) fun h' eb=>⟨rfl,I.turned (t':=s.toks) (fun b o hb e1=>eb b o hb e1) f0 f1 f3 f4 f5⟩
 self:=fun A i s Q E st h=>by
  obtain⟨ok,ov,hit⟩:=st;exact vC hit h
variable {elts:List Expr}{x1:Nat}{tpos:Pos}
inductive zkOJ(R:It->Hp->Prop)(x:V)(H1:Hp):Prop|mk(d o kvs:_):x=.ref d->H1 d=some (.frz o (.dK kvs))->(R (Itd d o kvs) H1)->zkOJ R x H1
def zkO(te:TE):TI:=fun σ H R=>te σ H fun x H1=>zkOJ R x H1
theorem zbW{l:Expr}{te:TE}{apos cpos:Pos}(hl:PE X l te)(hbase:attributeBase l "items" X.env (eval l X.env)=eval l X.env:=by rfl)(hline:(apos.endLine==cpos.line)=true:=by rfl):
  PI X (.Tuple elts x1 tpos) (.Call (.Attribute l "items" apos) [] [] cpos) (zkO te):=by
 exists ?_;intro pins s σ H R I h;refine wpAny_Call_method0_late hbase hline (thn (hl pins s σ H _ I h) fun v s1 ⟨x,H1,I1,r1,d,o,kvs,ex,hd,q⟩=>?_);subst ex;cases r1;obtain⟨e,hz,hy,vs,r,o',es,ep,ho',c1,c2,c3⟩:=id (I1.hok d _ hd);rw[e] at ho';cases ho';have hm:s1.heap.DictAt (yl X.prog X.w) d vs ep:=⟨o,es,e,c1,c2,c3⟩;exists "dict","dict.items",F.plainAttrs_dict,F.slot_dict_items,F.type_dict_items,⟨o,e,c1.1⟩,fun a ea=>by cases ea;exact⟨o,e,c1.2.1⟩,Calls.callWith_builtin rfl (PySem.evalArgs_none ?_)
 refine call_meetsIn F.slot_dict_items ⟨o,e,c1.1⟩ F.entry_dict_items (F.args_dict_items_1 _) (meets_dict_items (yl X.prog X.w) d hy) ⟨⟨vs,hm.dictOf⟩,?_⟩;show wpAny _ _ (pyIter (.ref s1.heap.objs.size)) _ _ _;have hl:kvs.length=vs.length:=r.length;refine wpAny_pyIter_items (knd:=yl X.prog X.w) (d:=d) (kvs:=vs) (ep:=ep) ⟨_,zgs _ rfl,rfl,rfl⟩ (hm.push _) ?_;have hk:∀b ob,s1.heap.get? b=some ob->((s1.heap.push { cls:=.type "dict_items",data:=.fields #[.ref d] }).push { cls:=.type "dict_itemiterator",data:=.fields #[.none,.bool false,.ref d,.int 0 0,.int vs.length 0,.int ep 0,.none,.none] }).get? b=some ob:=fun b ob q=>zgp _ (zgp _ q);have I2:=I1.kept (t':=s1.toks) hk;have hsz:(s1.heap.push { cls:=.type "dict_items",data:=.fields #[.ref d] }).objs.size=s1.heap.objs.size+1:=Heap.size_push ..;exists (s1.heap.push { cls:=.type "dict_items",data:=.fields #[.ref d] }).objs.size,[(s1.heap.push { cls:=.type "dict_items",data:=.fields #[.ref d] }).objs.size],_,Itd d o kvs,H1,rfl,I2,zcC d _ o kvs es ep c2,⟨.none,.none,?_⟩,fun b hb=>?_,q
 ·rw[hl]
  exact zgs (s1.heap.push { cls:=.type "dict_items",data:=.fields #[.ref d] }) (o:={ cls:=.type "dict_itemiterator",data:=.fields #[.none,.bool false,.ref d,.int 0 0,.int vs.length 0,.int ep 0,.none,.none] }) rfl
 ·have e':b=(s1.heap.push { cls:=.type "dict_items",data:=.fields #[.ref d] }).objs.size:=by simpa using hb
  subst e';rw[hsz];exact I1.fpOk (le_succ _) (I1.hok.fresh (le_succ _))
theorem zff{d:Addr}{o:Obj}{kvs:List (Key×V)}{g:TG}{tb:TS}{D:vc}{σ : St}{H:Hp}(Pv:Nat->St->Hp->Prop)(h0:Pv 0 σ H)(hl:∀i σ H,i<=kvs.length->Pv i σ H->H d=some (.frz o (.dK kvs)))
  (hs:∀i k v p σ H,kvs[i]?=some (k,v)->Pv i σ H->H p=none->g (.ref p) σ (upd H p (.tup [kV k,v])) fun σ2 H2=>tb { D with nx:=Pv (i+1),ct:=Pv (i+1),bk:=D.nx } σ2 H2) (hd:∀σ H,Pv kvs.length σ H->D.nx σ H) :
  ∃W:Nat->Nat->St->Hp->Prop,(∃m,W 0 m σ H)/\∀i m σ H,W i m σ H->
   ((Itd d o kvs).stop i H/\D.nx σ H)\/((Itd d o kvs).go i H/\∃N:St->Hp->Prop,(∀σ' H',N σ' H'->∃m',m'<m/\W (i+1) m' σ' H')/\∀x H',(Itd d o kvs).yld i H x H'->g x σ H' fun σ2 H2=>tb { D with nx:=N,ct:=N,bk:=D.nx } σ2 H2):=by
 exists fun i m σ H=>m=kvs.length - i/\i<=kvs.length/\Pv i σ H,⟨kvs.length,by simp,zero_le _,h0⟩,?_
 rintro i m σ H ⟨rfl,hi,p⟩;have q:=hl i σ H hi p;by_cases hlt:i<kvs.length
 ·refine .inr ⟨⟨q,hlt⟩,Pv (i+1),fun σ' H' p'=>⟨kvs.length - (i+1),by omega,rfl,hlt,p'⟩,fun x H' y=>?_⟩
  obtain⟨pp,k,v,rfl,hp,y2,rfl⟩:=y;exact hs i k v pp σ H y2 p hp
 ·have e:i=kvs.length:=by omega
  subst e;exact .inl ⟨⟨q,aF _⟩,hd σ H p⟩
theorem zms{X:Cx}{pins:PnL}{σ : St}{H:Hp}{s:Shared}{A:Around}{a b:Addr}{xs ys:List V}(I:Inv X pins σ H s)(ha:SqT X.K H a xs)(hb:SqT X.K H b ys)(fx:xs.all xJ=true)(fy:ys.all xJ=true)(hu:A.units+8<cLine):
  SeqAt.RcAt A s (.ref a) (.ref b) (eqT xs ys):=by
 obtain⟨ia,va,pa,_⟩:=I.tuple ha;obtain⟨ib,vb,pb,_⟩:=I.tuple hb;have la:ia.toArray.size=xs.length:=by rw[size_toArray];exact va.length.symm
 have lb:ib.toArray.size=ys.length:=by rw[size_toArray];exact vb.length.symm
 have:=SeqAt.RcAt.tuples (A:=A) (s:=s) (e:=fun j=>eqV (xs[j]?.getD .non) (ys[j]?.getD .non)) (show s.heap.IsTuple a ia.toArray from pa) (show s.heap.IsTuple b ib.toArray from pb) (by omega) (fun j h1 h2=>by
  have j1:j<ia.length:=by simpa using h1
  have j2:j<ib.length:=by simpa using h2
  have hxl:j<xs.length:=by rw[va.length];exact j1
  have hyl:j<ys.length:=by rw[vb.length];exact j2
  obtain⟨u',e1,e2⟩:=va.get (i:=j) (aB hxl);obtain⟨v',e3,e4⟩:=vb.get (i:=j) (aB hyl);rw[aB j1] at e1;rw[aB j2] at e3;cases e1;cases e3;have q:=zht (A:=A.in1) (s:=s) e2 e4 (List.all_eq_true.mp fx _ (getElem_mem hxl)) (List.all_eq_true.mp fy _ (getElem_mem hyl));simpa [hxl,hyl] using q)
 rw[la,lb] at this;exact this
inductive zkgJ(K:Frag)(x:V)(y:V)(H:Hp)(Q:VK):Prop|mk(a c:Addr)(xs ys:List V):x=.ref a->y=.ref c->SqT K H a xs->SqT K H c ys->xs.all xJ=true->ys.all xJ=true->(Q (.bl (eqT xs ys)) H)->zkgJ K x y H Q
def zkg(K:Frag):R2:=fun x y H Q=>zkgJ K x y H Q
theorem zgH{X:Cx}(hu:X.A.units+64<cLine):OpR X (compareOp .Eq) (zkg X.K):=by
 intro pins s σ H x y v u Q I rx ry h;obtain⟨a,c,xs,ys,rfl,rfl,ha,hc,fx,fy,q⟩:=h;cases rx;cases ry;exact zms (A:=X.A) I ha hc fx fy (by omega) X.prog X.w X.xe _ ⟨.bl _,H,I,rfl,q⟩
end
end L2
namespace K26
open PySem L2 PyProof.Rows
inductive yQ where
 | one (t:Int)|row (ts:List Int)|named (n:Str) (t:Int)|book (ps:List (Str×Int))
def yx(p:Str×Int):Dt:=.tup [.str p.1,.int p.2]
def xf:yQ->Dt
 | .one t=>.tup [.str "one",.int t]
 | .row ts=>.tup [.str "row",.lst (ts.map .int)]
 | .named n t=>.tup [.str "named",.str n,.int t]
 | .book ps=>.tup [.str "book",.lst (ps.map yx)]
def itT:yQ->List Int
 | .one t=>[t]
 | .row ts=>ts
 | _=>[]
def itP:yQ->List (Str×Int)
 | .named n t=>[(n,t)]
 | .book ps=>ps
 | _=>[]
def yq(c:List yQ):List Int:=(c.map itT).flatten
def y9(c:List yQ):List (Str×Int):=(c.map itP).flatten
abbrev T':Addr->Prop:=fun _=>True
def Two(K:Frag)(H H':Hp)(p:Addr)(ts:List Int)(ps:List (Str×Int)):Prop:=
 ∃l1 l2 xs,H l1=none/\H l2=none/\l1≠l2/\H p=none/\H' p=some (.tup [.ref l1,.ref l2])/\H' l1=some (.lst (ts.map V.int))/\H' l2=some (.lst xs)/\Paired (zw K T' H' 1) xs (ps.map yx)
inductive zfP(K:Frag)(vs:List V)(H:Hp)(Q:VK)(E:XK):Prop|mk(a:Addr)(c:List yQ)(xs:List V):vs=[.ref a]->SqL K H a xs->Paired (zw K T' H 3) xs (c.map xf)->(yq c).length<=900->(y9 c).length<=900->(∀p H',zn H H'->Two K H H' p (yq c) (y9 c)->Q (.ref p) H')->zfP K vs H Q E
section
variable {mg:Str->Option Value}
theorem zhA(ns:List Int)(lo hi:Option Int):∃ms:List Int,wt (ns.map V.int) lo hi=ms.map V.int/\ms.length<=ns.length/\∀m∈ms,m∈ns:=by
 exists (ns.drop (HT.sIx ns.length 0 lo)).take (HT.sIx ns.length ns.length hi - HT.sIx ns.length 0 lo),?_,?_,fun m hm=>mem_of_mem_drop (mem_of_mem_take hm)
 ·unfold wt
  rw[aA,map_take,map_drop]
 ·rw[length_take,length_drop]
  omega
variable {ok:Addr->Prop}{n:Nat}
theorem vK{K:Frag}{H:Hp}{x:V}{i:Int}(h:zw K ok H n x (.int i)):x=.int i:=by
 have fl:uZ x (.int i)->x=.int i:=fun h=>by
  cases x <;> first|exact h.elim|(have e:=(show _=_ from h);rw[e])
 cases n with
 | zero=>exact fl h
 | succ n=>
  rcases h with h|⟨_,_,_,_,e,_⟩|⟨_,_,_,_,e,_⟩
  ·exact fl h
  ·cases e
  ·cases e
theorem yK{K:Frag}{H:Hp}{x:V}{z:Str}(h:zw K ok H n x (.str z)):x=.str z:=by
 have fl:uZ x (.str z)->x=.str z:=fun h=>by
  cases x <;> first|exact h.elim|(have e:=(show _=_ from h);rw[e])
 cases n with
 | zero=>exact fl h
 | succ n=>
  rcases h with h|⟨_,_,_,_,e,_⟩|⟨_,_,_,_,e,_⟩
  ·exact fl h
  ·cases e
  ·cases e
theorem yE{K:Frag}{H:Hp}{x:V}{ds:List Dt}(h:zw K ok H (n+1) x (.tup ds)):∃a xs,x=.ref a/\SqT K H a xs/\Paired (zw K ok H n) xs ds:=by
 rcases h with h|⟨a,xs,ds',e1,e2,e3,r⟩|⟨_,_,_,_,e,_⟩
 ·cases x <;> exact h.elim
 ·cases e2;exact⟨a,xs,e1,e3,r⟩
 ·cases e
theorem vJ{K:Frag}{H:Hp}{x:V}{ds:List Dt}(h:zw K ok H (n+1) x (.lst ds)):∃a xs,x=.ref a/\ok a/\H a=some (.lst xs)/\Paired (zw K ok H n) xs ds:=by
 rcases h with h|⟨_,_,_,_,e,_⟩|⟨a,xs,ds',e1,e2,o,e3,r⟩
 ·cases x <;> exact h.elim
 ·cases e
 ·cases e2;exact⟨a,xs,e1,o,e3,r⟩
theorem jb{K:Frag}{H:Hp}:∀{ts:List Int}{xs:List V},Paired (zw K ok H n) xs (ts.map .int)->xs=ts.map V.int
 | [],_,r=>by cases r;rfl
 | t::ts,_,r=>by
  cases r with
  | cons h r=>rw[vK h,jb r];rfl
theorem xY{K:Frag}{H:Hp}:∀(ts:List Int),Paired (zw K ok H n) (ts.map V.int) (ts.map .int)
 | []=>.nil
 | t::ts=>.cons .int (xY ts)
theorem yS{α β : Type}{F : α->β->Prop}:∀{a c:List α}{b d:List β},Paired F a b->Paired F c d->Paired F (a++c) (b++d)
 | _,_,_,_,.nil,s=>s
 | _,_,_,_,.cons r t,s=>.cons r (yS t s)
theorem zcj{K:Frag}{H:Hp}{x:V}{t:Int}(h:zw K ok H 3 x (xf (.one t))):∃a,x=.ref a/\SqT K H a [.str "one",.int t]:=by
 obtain⟨a,xs,rfl,hS,r⟩:=yE h;cases r with
 | cons h1 r=>cases r with
  | cons h2 r=>cases r;rw[yK h1,vK h2] at hS;exact⟨a,rfl,hS⟩
theorem zci{K:Frag}{H:Hp}{x:V}{ts:List Int}(h:zw K ok H 3 x (xf (.row ts))):∃a b,x=.ref a/\SqT K H a [.str "row",.ref b]/\ok b/\H b=some (.lst (ts.map V.int)):=by
 obtain⟨a,xs,rfl,hS,r⟩:=yE h;cases r with
 | cons h1 r=>cases r with
  | cons h2 r=>
   cases r;obtain⟨b,ys,rfl,o,hb,q⟩:=vJ h2;rw[yK h1] at hS;rw[jb q] at hb;exact⟨a,b,rfl,hS,o,hb⟩
theorem qD{K:Frag}{H:Hp}{x:V}{z:Str}{t:Int}(h:zw K ok H 3 x (xf (.named z t))):∃a,x=.ref a/\SqT K H a [.str "named",.str z,.int t]:=by
 obtain⟨a,xs,rfl,hS,r⟩:=yE h;cases r with
 | cons h1 r=>cases r with
  | cons h2 r=>cases r with
   | cons h3 r=>cases r;rw[yK h1,yK h2,vK h3] at hS;exact⟨a,rfl,hS⟩
theorem zaC{K:Frag}{H:Hp}{x:V}{ps:List (Str×Int)}(h:zw K ok H 3 x (xf (.book ps))):∃a b ys,x=.ref a/\SqT K H a [.str "book",.ref b]/\ok b/\H b=some (.lst ys)/\Paired (zw K ok H 1) ys (ps.map yx):=by
 obtain⟨a,xs,rfl,hS,r⟩:=yE h;cases r with
 | cons h1 r=>cases r with
  | cons h2 r=>
   cases r;obtain⟨b,ys,rfl,o,hb,q⟩:=vJ h2;rw[yK h1] at hS;exact⟨a,b,ys,rfl,hS,o,hb,q⟩
theorem zdr(c:List yQ)(i:Nat)(it:yQ)(h:c[i]?=some it):yq (c.take (i+1))=yq (c.take i)++itT it:=by
 unfold yq;rw[take_add_one,h,aE,flatten_append];simp
theorem zds(c:List yQ)(i:Nat)(it:yQ)(h:c[i]?=some it):y9 (c.take (i+1))=y9 (c.take i)++itP it:=by
 unfold y9;rw[take_add_one,h,aE,flatten_append];simp
theorem zcc(c:List yQ)(i:Nat):(yq (c.take i)).length<=(yq c).length:=by
 unfold yq
 conv=>rhs;rw[<- take_append_drop i c]
 rw[aE,flatten_append,aG];omega
theorem zcd(c:List yQ)(i:Nat):(y9 (c.take i)).length<=(y9 c).length:=by
 unfold y9
 conv=>rhs;rw[<- take_append_drop i c]
 rw[aE,flatten_append,aG];omega
theorem ne1:¬(V.str "row"=V.str "one"):=by symm
theorem ne2:¬(V.str "named"=V.str "one"):=by symm
theorem ne3:¬(V.str "book"=V.str "one"):=by symm
theorem ne4:¬(V.str "named"=V.str "row"):=by symm
theorem ne5:¬(V.str "book"=V.str "row"):=by symm
theorem ne6:¬(V.str "book"=V.str "named"):=by symm
theorem j6:zt ["call","things","pairs","item","word"] ["call"] (zj zf8):=fsc
theorem wf(s:zn H H2)(h:H l=none)(o:HO):zn H (upd H2 l o):=fun b u q=>by rw[zi (zd q h)];exact s b u q
theorem ziD{P:Program}{w:World}{K:Frag}{base:Heap}{f:Addr}{fd:FuncData}(F:Fun K "laid" "laid" zf8 f fd):zC P w K mg base CX0 1 f fd ["call"] (zfP K):=by
 refine F.ok j6 (fun cdv A outer s H vs Q E hr h=>?_);obtain⟨a,c,xs,rfl,hS,hc,hT,hP,q⟩:=h;refine⟨_,zh (zu (i:=1) j6.nd rfl ⋯ (zN zb)) (zh (zu (i:=2) j6.nd rfl ⋯ (zN zb))
  (zh (xk PassesOwn.never rfl (yw (pv 0)) (zp (i:=3) j6.nd rfl ⋯)
   (zh (zu (i:=4) j6.nd rfl ⋯ (zE zD (pv 3) zg nofun))
   (zf (zH (zk yb (pv 4) zm (zx _)) (zf (zP (y8 PySem.F.plainAttrs_list PySem.F.slot_list_append PySem.F.type_list_append zU (pv 1) (ac (zE zD (pv 3) zg nofun) zb))))
    (zf (zH (zk yb (pv 4) zm (zx _)) (zf (zP (y8 PySem.F.plainAttrs_list PySem.F.slot_list_extend PySem.F.type_list_extend zax (pv 1) (ac (zE zD (pv 3) zg nofun) zb))))
     (zf (zH (zk yb (pv 4) zm (zx _)) (zf (zP (y8 PySem.F.plainAttrs_list PySem.F.slot_list_append PySem.F.type_list_append zU (pv 2) (ac (zJ (ac (zE zD (pv 3) zg nofun) (ac (zE zD (pv 3) zg nofun) zb))) zb))))
      (zf (zP (y8 PySem.F.plainAttrs_list PySem.F.slot_list_extend PySem.F.type_list_extend zax (pv 2) (ac (zE zD (pv 3) zg nofun) zb))))))))))))
  (zf (zA (zJ (ac (pv 1) (ac (pv 2) zb))))))),?_⟩
 exists xK,fun l1 h1=>?_;exists xK,fun l2 h2=>?_;have n12:l1≠l2:=zd za h2;have f2:H l2=none:=(zc h1 _).free h2;have s0:zn H (upd (upd H l1 (.lst [])) l2 (.lst [])):=(zc h1 _).trans (zc h2 _);refine⟨_,rfl,a,rfl,⟨_,s0.seq hS⟩,w6 (K:=K) (a:=a) (xs:=xs) (fun i σ H2=>∃v3 v4 ys,σ=[some (.ref a),some (.ref l1),some (.ref l2),v3,v4]/\zn H H2/\H2 l1=some (.lst ((yq (c.take i)).map V.int))/\H2 l2=some (.lst ys)/\Paired (zw K T' H2 1) ys ((y9 (c.take i)).map yx))
  ⟨_,_,[],rfl,s0,by rw[zi n12,za];rfl,za,.nil⟩ (fun i σ H2 _ ⟨_,_,_,_,s2,_⟩=>s2.seq hS) ?_ ?_⟩
 ·rintro i y σ H2 hi ⟨v3,v4,ys,rfl,s2,g1,g2,gp⟩
  obtain⟨d,hd,hy⟩:=Paired.get hc hi;obtain⟨it,hit,rfl⟩:∃it,c[i]?=some it/\xf it=d:=by
   rw[getElem?_map] at hd;cases e:c[i]? with
   | none=>rw[e] at hd;cases hd
   | some it=>rw[e] at hd;exact⟨it,rfl,Option.some.inj hd⟩
  have hy2:=hy.same s2;have eT:=zdr c i it hit;have eP:=zds c i it hit;have lT:=zcc c i;have lP:=zcd c i;have lT1:=zcc c (i+1);have lP1:=zcd c (i+1);have lys:ys.length=(y9 (c.take i)).length:=by rw[gp.length,aA]
  have sT:∀{H3:Hp}{o:HO}{l:Addr},H3 l=none\/(∃zs,H3 l=some (.lst zs))->∀{b zs},SqT K H3 b zs->SqT K (upd H3 l o) b zs:=fun {H3 o l} hl {b zs} hz=>by
   rcases hz with (z|⟨u,z⟩)|z
   ·refine .inl (.inl ?_)
    have:b≠l:=fun e=>by
     subst e;rcases hl with e|⟨_,e⟩
     ·rw[e] at z;cases z
     ·rw[e] at z;cases z
    rw[zi this];exact z
   ·refine .inl (.inr ⟨u,?_⟩)
    have:b≠l:=fun e=>by
     subst e;rcases hl with e|⟨_,e⟩
     ·rw[e] at z;cases z
     ·rw[e] at z;cases z
    rw[zi this];exact z
   ·exact .inr z
  have keepP:∀{H3:Hp}{o:HO}{l:Addr}{zs:List V}{ps:List (Str×Int)},H3 l=none\/(∃zs,H3 l=some (.lst zs))->Paired (zw K T' H3 1) zs (ps.map yx)->Paired (zw K T' (upd H3 l o) 1) zs (ps.map yx):=by
   intro H3 o l zs ps hl r;induction ps generalizing zs with
   | nil=>cases r;exact .nil
   | cons p ps ih=>
    cases r with
    | cons h r=>
     refine .cons ?_ (ih r);obtain⟨b,ws,rfl,hS',r'⟩:=yE h;exact .tup (sT hl hS') (zr (fun _ _ z=>z) r')
  cases it with
  | one t=>
   obtain⟨b,rfl,hb⟩:=zcj hy2;exists _,rfl,b,_,_,.str "one",rfl,rfl,hb,rfl,?_;exists _,rfl,rfl,_,rfl,?_;refine dT rfl ?_;exists _,rfl,.inl ⟨rfl,_,ze g1⟩,_,rfl,b,_,_,.int t,rfl,rfl,hb,rfl,l1,_,_,rfl,rfl,g1,?_,?_
   ·rw[aA];exact zF (by omega)
   ·exists _,_,ys,rfl,wf s2 h1 _,?_,?_,?_
    ·rw[za,eT,aE];rfl
    ·rw[zi n12.symm];exact g2
    ·rw[eP];show Paired _ _ ((y9 (c.take i)++[]).map yx);rw[append_nil];exact keepP (.inr ⟨_,g1⟩) gp
  | row ts=>
   obtain⟨b,bl,rfl,hb,_,hbl⟩:=zci hy2;exists _,rfl,b,_,_,.str "row",rfl,rfl,hb,rfl,?_;exists _,rfl,rfl,_,rfl,?_;refine dF ne1 ?_;exists _,rfl,rfl,_,rfl,?_;refine dT rfl ?_;exists _,rfl,.inl ⟨rfl,_,ze g1⟩,_,rfl,b,_,_,.ref bl,rfl,rfl,hb,rfl,l1,bl,_,_,rfl,rfl,g1,hbl,?_,?_
   ·have e1:(yq (c.take (i+1))).length=(yq (c.take i)).length+ts.length:=by rw[eT,aG];rfl
    rw[aA,aA];exact zK (by omega)
   ·exists _,_,ys,rfl,wf s2 h1 _,?_,?_,?_
    ·rw[za,eT,aE];rfl
    ·rw[zi n12.symm];exact g2
    ·rw[eP];show Paired _ _ ((y9 (c.take i)++[]).map yx);rw[append_nil];exact keepP (.inr ⟨_,g1⟩) gp
  | named z t=>
   obtain⟨b,rfl,hb⟩:=qD hy2;exists _,rfl,b,_,_,.str "named",rfl,rfl,hb,rfl,?_;exists _,rfl,rfl,_,rfl,?_;refine dF ne2 ?_;exists _,rfl,rfl,_,rfl,?_;refine dF ne4 ?_;exists _,rfl,rfl,_,rfl,?_;refine dT rfl ?_;exists _,rfl,.inl ⟨rfl,_,ze g2⟩,_,rfl,b,_,_,.str z,rfl,rfl,hb,rfl,_,rfl,b,_,_,.int t,rfl,rfl,hb,rfl,z6,fun p hp=>?_;have np2:l2≠p:=zd g2 hp;have np1:l1≠p:=zd g1 hp;have fp:H p=none:=s2.free hp;exists l2,_,_,rfl,rfl,(by rw[zi np2];exact g2),?_,?_
   ·rw[lys];exact zF (by omega)
   ·exists _,_,ys++[.ref p],rfl,wf (wf s2 fp _) f2 _,?_,za,?_
    ·rw[zi n12,zi np1,g1,eT];show _=some (HO.lst ((yq (c.take i)++[]).map V.int));rw[append_nil]
    ·rw[eP,aE]
     refine yS (keepP (.inr ⟨_,by rw[zi np2];exact g2⟩) (keepP (.inl hp) gp)) (.cons (.tup (xs:=[.str z,.int t]) (zq ?_) (.cons .str (.cons .int .nil))) .nil)
     rw[zi np2.symm,za]
  | book ps=>
   obtain⟨b,bl,zs,rfl,hb,_,hbl,hz⟩:=zaC hy2;exists _,rfl,b,_,_,.str "book",rfl,rfl,hb,rfl,?_;exists _,rfl,rfl,_,rfl,?_;refine dF ne3 ?_;exists _,rfl,rfl,_,rfl,?_;refine dF ne5 ?_;exists _,rfl,rfl,_,rfl,?_;refine dF ne6 ?_;have lz:zs.length=ps.length:=by rw[hz.length,aA]
   exists _,rfl,.inl ⟨rfl,_,ze g2⟩,_,rfl,b,_,_,.ref bl,rfl,rfl,hb,rfl,l2,bl,_,_,rfl,rfl,g2,hbl,?_,?_
   ·have e1:(y9 (c.take (i+1))).length=(y9 (c.take i)).length+ps.length:=by rw[eP,aG];rfl
    rw[lys,lz];exact zK (by omega)
   ·exists _,_,ys++zs,rfl,wf s2 f2 _,?_,za,?_
    ·rw[zi n12,g1,eT];show _=some (HO.lst ((yq (c.take i)++[]).map V.int));rw[append_nil]
    ·rw[eP,aE]
     exact yS (keepP (.inr ⟨_,g2⟩) gp) (keepP (.inr ⟨_,g2⟩) hz)
 ·rintro σ H2 ⟨v3,v4,ys,rfl,s2,g1,g2,gp⟩
  exists _,rfl,_,rfl,z6,fun p hp=>?_;have hl:xs.length=c.length:=by rw[hc.length,aA]
  rw[hl,take_length] at g1 gp;refine q p _ (s2.trans (zc hp _)) ⟨l1,l2,ys,h1,f2,n12,s2.free hp,za,?_,?_,zr (fun _ _ z=>z.same (zc hp _)) gp⟩
  ·rw[zi (zd g1 hp)];exact g1
  ·rw[zi (zd g2 hp)];exact g2
theorem yH{K:Frag}{ok:Addr->Prop}{H H':Hp}{zs:List V}{ps:List (Str×Int)}(s:zn H H')(r:Paired (zw K ok H 1) zs (ps.map yx)):Paired (zw K ok H' 1) zs (ps.map yx):=zr (fun _ _ z=>z.same s) r
theorem zb2{ps:List (Str×Int)}{i:Nat}{d:Dt}(h:(ps.map yx)[i]?=some d):∃p,ps[i]?=some p/\yx p=d:=by
 rw[getElem?_map] at h;cases e:ps[i]? with
 | none=>rw[e] at h;cases h
 | some it=>rw[e] at h;exact⟨it,rfl,Option.some.inj h⟩
theorem xV{K:Frag}{ok:Addr->Prop}{H:Hp}{n:Nat}{x:V}{p:Str×Int}(h:zw K ok H (n+1) x (yx p)):∃b,x=.ref b/\SqT K H b [.str p.1,.int p.2]:=by
 obtain⟨a,xs,rfl,hS,r⟩:=yE h;cases r with
 | cons h1 r=>cases r with
  | cons h2 r=>cases r;rw[yK h1,vK h2] at hS;exact⟨a,rfl,hS⟩
theorem zdw{K:Frag}{ok:Addr->Prop}{n:Nat}{H H':Hp}{zs:List V}{c:List yQ}(s:zn H H')(r:Paired (zw K ok H n) zs (c.map xf)):Paired (zw K ok H' n) zs (c.map xf):=zr (fun _ _ z=>z.same s) r
theorem x6{K:Frag}{ok ok':Addr->Prop}{H:Hp}(hk:∀b,ok b->H b≠none->ok' b){n:Nat}{x:V}{d:Dt}(h:zw K ok H n x d):zw K ok' H n x d:=
 h.frame (fun a xs z=>z) fun a xs oa z=>⟨hk a oa (by rw[z];intro q;cases q),z⟩
theorem jj{A B:Prop}(h:b=true)(a:A):if b=true then A else B:=by rw[h];exact xt a
theorem jB{A B:Prop}(h:b=false)(a:B):if b=true then A else B:=by rw[h];exact yf a
end
section
variable {mg:Str->Option Value}
section
end
end
def zT(c:List yQ):List Str:=(y9 c).map (·.1)
inductive zaX(K:Frag)(vs:List V)(H:Hp)(Q:VK)(E:XK):Prop|mk(a:Addr)(c:List yQ)(xs:List V):vs=[.ref a]->SqL K H a xs->Paired (zw K T' H 3) xs (c.map xf)->(yq c).length<=900->(y9 c).length<=900->(∀p l H',zn H H'->H l=none->H' p=some (.tup [.int ((yq c).length:Nat),.ref l])->H' l=some (.lst ((zT c).map V.str))->Q (.ref p) H')->zaX K vs H Q E
def ua:Nat->List (Key×V)->List Str->List (Key×V)
 | _,acc,[]=>acc
 | i,acc,z::zs=>ua (i+1) (if (zS acc (.inr z)).isSome=true then acc else yF acc (.inr z) (.int i)) zs
theorem zaG{z:Str}:∀(zs:List Str) (j i:Nat) (acc:List (Key×V)),zs[i]?=some z->ua j acc (zs.take (i+1))=(if (zS (ua j acc (zs.take i)) (.inr z)).isSome=true then ua j acc (zs.take i) else yF (ua j acc (zs.take i)) (.inr z) (.int (j+i:Nat)))
 | [],_,_,_,h=>by simp at h
 | y::ys,j,0,acc,h=>by
  have e:y=z:=by simpa using h
  subst e;rfl
 | y::ys,j,i+1,acc,h=>by
  have:=zaG ys (j+1) i (if (zS acc (.inr y)).isSome=true then acc else yF acc (.inr y) (.int j)) (by simpa using h)
  show ua (j+1) _ (ys.take (i+1))=_;rw[this,show j+1+i=j+(i+1) by omega]
  rfl
theorem zcn:∀(zs:List Str) (i:Nat) (acc:List (Key×V)),(ua i acc zs).length<=acc.length+zs.length
 | [],_,_=>aF _
 | z::zs,i,acc=>by
  have h:=zcn zs (i+1) (if (zS acc (.inr z)).isSome=true then acc else yF acc (.inr z) (.int i))
  have h2:(if (zS acc (.inr z)).isSome=true then acc else yF acc (.inr z) (.int i)).length<=acc.length+1:=by
   split
   ·omega
   ·exact xI acc _ _
  show(ua (i+1) _ zs).length<=acc.length+(zs.length+1);omega
inductive j3(vs:List V)(H:Hp)(Q:VK)(E:XK):Prop|mk(a zs:_):vs=[.ref a]->H a=some (.lst (zs.map V.str))->zs.length<=900->(∀l o H',zn H H'->H l=none->H' l=some (.frz o (.dK (ua 0 [] zs)))->Q (.ref l) H')->j3 vs H Q E
section
variable {mg:Str->Option Value}
theorem zlK:([Str.ofString "name",Str.ofString "thing"]:List Str).Nodup:=by symm
theorem za5:zt ["call","things","pairs"] ["call"] (zj zcV):=fsc
theorem zgO{P:Program}{w:World}{K:Frag}{base:Heap}{f:Addr}{fd:FuncData}{g:Addr}{gd:FuncData}(F:Fun K "shape" "shape" zcV f fd)(hlen:mg "len"=none)(cL:zG P w K mg base 1 "laid" g gd ["call"] (zfP K)):zC P w K mg base CX0 2 f fd ["call"] (zaX K):=by
 refine F.ok za5 (fun cdv A outer s H vs Q E hr h=>?_);obtain⟨a,c,xs,rfl,hS,hc,lT,lP,q⟩:=h;refine⟨_,zh (ut (cF cL hr (ac (pv 0) zb)) (yz rfl (zy (zp (i:=1) za5.nd rfl ⋯) (zy (zp (i:=2) za5.nd rfl ⋯) yg))))
  (zf (zA (zJ (ac (cB zI hlen PySem.boot_len (ac (pv 1) zb)) (ac (xQ [] ["name","thing"] [none,none] rfl ⟨rfl,rfl,rfl,rfl⟩ (yw (pv 2)) (xu (K:=K) (n:=2) 0 1) rfl rfl rfl
   (fun pins fp s H C=>⟨yz rfl (zy (zp (i:=0) zlK rfl ⋯ (.inr rfl)) (zy (zp (i:=1) zlK rfl ⋯ (.inr rfl)) yg)),xc,pv 0⟩)) zb))))),?_⟩
 exists _,rfl,a,c,xs,rfl,hS,hc,lT,lP,fun p H1 s1 two=>?_;obtain⟨l1,l2,ys,n1,n2,n12,np,ep,e1,e2,gp⟩:=two;exists p,_,rfl,zq ep,rfl,_,_,rfl,_,_,rfl,rfl,?_;exists _,rfl,l1,_,rfl,.inl (ze e1),_,rfl,l2,rfl,⟨_,ze e2⟩,fun D hD=>?_;have lys:ys.length=(y9 c).length:=by rw[gp.length,aA]
 refine vW (K:=K) (xs:=ys) (fun i zs H'=>zn H1 H'/\H' D=some (.lst zs)/\zs=((zT c).take i).map V.str) ⟨zc hD _,za,rfl⟩ (fun i zs H' h=>ze (h.1 _ _ e2)) ?_ ?_
 ·rintro i x zs H' hlt hx ⟨sH,hDy,ez⟩
  obtain⟨d,hd,hy⟩:=Paired.get gp hx;obtain⟨pr',hpr,rfl⟩:=zb2 hd;obtain⟨b,rfl,hb⟩:=xV (hy.same sH);exists b,_,rfl,hb,rfl,_,_,rfl,_,_,rfl,rfl,fun _=>⟨_,rfl,?_⟩,fun e=>Bool.noConfusion e;have hi:i<(zT c).length:=by unfold zT;rw[aA];omega
  have en:(zT c)[i]=pr'.1:=by
   have:(zT c)[i]?=some pr'.1:=by unfold zT;rw[getElem?_map,hpr];rfl
   rw[aB hi] at this;exact Option.some.inj this
  refine lcN.mk hlt (zK (by omega)) hDy (by rw[ez,aA,length_take];omega) ⟨fun b' u e=>?_,za,?_⟩
  ·rw[zi (zd e hD)]
   exact sH b' u e
  ·rw[ez,take_succ_eq_append_getElem hi,en,aE]
   rfl
 rintro zs H2 ⟨s2,hDy,ez⟩;have hz:zs=(zT c).map V.str:=by
  rw[ez,take_of_length_le (by unfold zT;rw[aA];omega)]
 subst hz;exists z6,fun t ht=>?_;have s3:=zc ht (.tup [.int ((yq c).map V.int).length,.ref D]);refine q t D _ (s1.trans (s2.trans s3)) (s1.free hD) (by rw[za,aA]) (s3 _ _ hDy)
theorem uJ:zt ["names","firsts","number","name"] ["names"] (zj zbc):=fsc
theorem ze1{P:Program}{w:World}{K:Frag}{base:Heap}{f:Addr}{fd:FuncData}(F:Fun K "first_numbers" "first_numbers" zbc f fd)(hen:mg "enumerate"=none):zC P w K mg base CX0 1 f fd ["names"] j3:=by
 refine F.ok uJ (fun cdv A outer s H vs Q E hr h=>?_);obtain⟨a,zs,rfl,ha,lz,q⟩:=h;have hu1:=zaE hr;refine⟨_,zh (zu (i:=1) uJ.nd rfl ⋯ zbZ)
  (zh (xk PassesOwn.never rfl (xr rfl hen (ac (pv 0) zb)) (yz rfl (zy (zp (i:=2) uJ.nd rfl ⋯) (zy (zp (i:=3) uJ.nd rfl ⋯) yg)))
   (zf (zH (vk (zas hu1 (pv 3) (pv 1))) (zf (zbh hu1 (pv 1) (pv 3) (pv 2) rfl)) zv)))
  (zf (zA (zkq (pv 1))))),?_⟩
 intro sd hsd;have s1:=zc hsd (.dK []);have e1:upd H sd (.dK []) sd=some (.dK []):=za;show wx _ _ _ _ (upd H sd (.dK []));generalize upd H sd (.dK [])=H1 at s1 e1 |-;refine⟨_,rfl,a,rfl,⟨_,ze (s1 _ _ ha)⟩,wC (K:=K) (a:=a) (xs:=zs.map V.str) (fun i σ H'=>∃(v2 v3:Option V),σ=[some (.ref a),some (.ref sd),v2,v3]/\zn H H'/\H' sd=some (.dK (ua 0 [] (zs.take i))))
  ⟨_,_,rfl,s1,e1⟩ (fun i σ H' _ ⟨_,_,_,sH,_⟩=>ze (sH _ _ ha)) ?_ ?_⟩
 ·rintro i x p σ H' hx ⟨v2,v3,rfl,sH,hd⟩ hpn
  obtain⟨z,hz,rfl⟩:=strs_at hx;have sp:=zc hpn (.tup [.int (i:Nat),.str z]);have hd2:=sp _ _ hd;have tk:=zaG zs 0 i [] hz;rw[Nat.zero_add] at tk;have hi:i<zs.length:=(List.getElem?_eq_some_iff.mp hz).1;exists p,_,rfl,zq za,rfl,_,_,rfl,_,_,rfl,rfl,?_;exists _,rfl,_,rfl,sd,_,rfl,.inl ⟨_,.inr z,.inl hd2,rfl,rfl⟩,_,rfl,?_;refine wG (fun ne=>?_) (fun ne=>?_)
  ·have ns:¬(zS (ua 0 [] (zs.take i)) (.inr z)).isSome=true:=by
    intro e;rw[e] at ne;cases ne
   rw[aJ ns] at tk;have ln:=zcn (zs.take i) 0 [];exists _,rfl,_,rfl,_,rfl,sd,_,rfl,.inl ⟨_,.inr z,hd2,rfl,zF (by rw[length_take] at ln;simp at ln;omega),rfl⟩,?_
   refine⟨_,_,rfl,fun b' u e=>?_,by rw[za,tk]⟩
   rw[zi (zd e hsd)];exact sp _ _ (sH _ _ e)
  ·have ns:(zS (ua 0 [] (zs.take i)) (.inr z)).isSome=true:=by
    cases e:(zS (ua 0 [] (zs.take i)) (.inr z)).isSome with
    | true=>rfl
    | false=>exact absurd (by rw[e];rfl) ne
   rw[aK ns] at tk;exact⟨_,_,rfl,sH.trans sp,by rw[tk];exact hd2⟩
 ·rintro σ H' ⟨v2,v3,rfl,sH,hd⟩
  rw[aA,take_length] at hd;exists _,rfl,sd,_,rfl,hd,fun o=>?_;refine q sd o _ (fun b' u e=>?_) hsd za;rw[zi (zd e hsd)];exact sH _ _ e
def MA1(H:Hp)(u:Addr)(m:Str×Nat):Prop:=H u=some (.tup [.str m.1,.int (m.2:Nat)])
def xy(H:Hp)(us:List Addr)(ms:List (Str×Nat)):Prop:=Paired (MA1 H) us ms
theorem xy.same(h:xy H us ms)(s:zn H H'):xy H' us ms:=zr (fun _ _ z=>s _ _ z) h
theorem xy.upd(h:xy H us ms)(hD:H D=some (.lst ys)):xy (upd H D o) us ms:=zr (fun u m z=>by
 show L2.upd H D o u=_;rw[zi (fun e=>by rw[e] at z;rw[MA1,hD] at z;cases z)]
 exact z) h
theorem xy.snoc(h:xy H us ms)(hu:MA1 H u m):xy H (us++[u]) (ms++[m]):=Paired.snoc h hu
def zaR(H H':Hp)(l:Addr)(ms:List (Str×Nat)):Prop:=∃us:List Addr,H l=none/\H' l=some (.lst (us.map V.ref))/\xy H' us ms
def wn(rows:List Rw)(many:Nat):List (Str×Nat):=if (zL 2 0 rows).isSome=true then [] else (List.range (many - plN rows)).map fun i=>((("over" : Str),plN rows+i):Str×Nat)
inductive zd2(c:C5)(CF:Addr)(vs:List V)(H:Hp)(Q:VK)(E:XK):Prop|mk(f:Addr)(many:Nat)(rows:List Rw)(bars:List Str):vs=[.ref f,.int (many:Nat)]->many<=900->rows.length<=500->xz c CF H f rows bars->(∀l H',zn H H'->zaR H H' l (wn rows many)->Q (.ref l) H')->zd2 c CF vs H Q E
def uy(r:Rw)(i many:Nat)(fk:List (Key×V)):List V:=
 if xx r.k=true/\i<many then [.str "place",.int (i:Nat)] else if ym r.k=true/\(zS fk (.inr r.z)).isSome=true then [.str "name",(zS fk (.inr r.z)).getD .non] else [.str "free"]
def zdP(fk:List (Key×V)):Prop:=∀k v,zS fk k=some v->xJ v=true
inductive zcI(c:C5)(vs:List V)(H:Hp)(Q:VK)(E:XK):Prop|mk(p d:Addr)(i many:Nat)(r:Rw)(fk:List (Key×V)):vs=[.ref p,.int (i:Nat),.int (many:Nat),.ref d]->PAt c H p r->r.ok->Rd H d (.dK fk)->(∀u H',zn H H'->H' u=some (.tup (uy r i many fk))->Q (.ref u) H')->zcI c vs H Q E
def wm(r:Rw)(i many:Nat)(fk:List (Key×V)):Bool:=!fr r.k r.b&&L2.eqT (uy r i many fk) [.str "free"]
def wA(many:Nat)(fk:List (Key×V)):Nat->List Rw->List (Str×Nat)
 | _,[]=>[]
 | i,r::rs=>(if wm r i many fk=true then [(("lacking" : Str),i)] else [])++wA many fk (i+1) rs
theorem uB{many:Nat}{fk:List (Key×V)}{r:Rw}:∀(rows:List Rw) (j i:Nat),rows[i]?=some r->wA many fk j (rows.take (i+1))=wA many fk j (rows.take i)++(if wm r (j+i) many fk=true then [(("lacking" : Str),j+i)] else [])
 | [],_,_,h=>by simp at h
 | y::ys,j,0,h=>by
  have e:y=r:=by simpa using h
  subst e;show(_++[])=[]++_;rw[append_nil,nil_append];rfl
 | y::ys,j,i+1,h=>by
  have:=uB (many:=many) (fk:=fk) ys (j+1) i (by simpa using h)
  show _++wA many fk (j+1) (ys.take (i+1))=_;rw[this,show j+1+i=j+(i+1) by omega,<- append_assoc]
  rfl
theorem wZ(many:Nat)(fk:List (Key×V)):∀(rows:List Rw) (i:Nat),(wA many fk i rows).length<=rows.length
 | [],_=>aF _
 | r::rs,i=>by
  have:=wZ many fk rs (i+1)
  show(_++wA many fk (i+1) rs).length<=rs.length+1;rw[aG];split
  ·rw[length_singleton];omega
  ·rw[length_nil];omega
theorem zeW{i many:Nat}(h:zdP fk):(uy r i many fk).all xJ=true:=by
 unfold uy;split
 ·rfl
 ·split
  next h2=>
   obtain⟨v,hv⟩:=Option.isSome_iff_exists.mp h2.2;rw[hv];show(true&&(xJ v&&true))=true;rw[h _ _ hv];rfl
  ·rfl
inductive zd5(c:C5)(CF:Addr)(vs:List V)(H:Hp)(Q:VK)(E:XK):Prop|mk(f d:Addr)(many:Nat)(rows:List Rw)(bars:List Str)(fk:List (Key×V)):vs=[.ref f,.int (many:Nat),.ref d]->rows.length<=500->(∀r∈rows,r.ok)->xz c CF H f rows bars->Rd H d (.dK fk)->zdP fk->(∀l H',zn H H'->zaR H H' l (wA many fk 0 rows)->Q (.ref l) H')->zd5 c CF vs H Q E
theorem zn.rd(s:zn H H')(h:Rd H a u):Rd H' a u:=h.elim (fun e=>.inl (s _ _ e)) fun⟨o,e⟩=>.inr ⟨o,s _ _ e⟩
theorem zlJ:([Str.ofString "number"]:List Str).Nodup:=by symm
theorem zh1:zt ["form","many"] ["form","many"] (zj zc0):=fsc
theorem zgS{P:Program}{w:World}{K:Frag}{base:Heap}{f CF:Addr}{fd:FuncData}{c:C5}{gT gP:Addr}{eT eP:FuncData}(F:Fun K "overs" "overs" zc0 f fd)(hran:mg "range"=none)(FK:FC K CF)(mT:xH K CF "tail" gT)(GT:zC P w K mg base CX0 1 gT eT ["self"] (vG c CF 2))(bT:z0 K eT ["self"] [])(mP:xH K CF "places" gP)(GP:zC P w K mg base CX0 1 gP eP ["self"] (vH c CF))(bP:z0 K eP ["self"] []):
  zC P w K mg base CX0 2 f fd ["form","many"] (zd2 c CF):=by
 refine F.ok zh1 (fun cdv A outer s H vs Q E hr h=>?_);obtain⟨f,many,rows,bars,rfl,lm,l5,hF,q⟩:=h;refine⟨_,zh (zH (vk (zin (yG (pv 0) FK.cl mT GT hr bT .nil yi))) (zf (zA (zN zb))) zv)
  (zf (zA (xQ [] ["number"] [none] rfl ⟨rfl,rfl,rfl,rfl⟩ (zeQ rfl hran (ac (yG (pv 0) FK.cl mP GP hr bP .nil yi) (ac (pv 1) zb))) (yj 0) rfl rfl rfl
   (fun pins fp s H C=>⟨zp (i:=0) zlJ rfl ⋯ (.inr rfl),xc,zJ (ac zm (ac (pv 0) zb))⟩)))),?_⟩
 obtain⟨dx,fs,lr,lb,ld,ps,h1,h2,h3,h4,h5,h6⟩:=id hF;have nmT:fs.lookup ("tail" : Str)=none:=h2.no _ (by symm)
 have nmP:fs.lookup ("places" : Str)=none:=h2.no _ (by symm)
 exists _,rfl,f,dx,fs,rfl,h1,nmT,f,rows,bars,rfl,hF,?_;exists _,rfl,?_;cases e:zL 2 0 rows with
 | some i=>
  have ef:wn rows many=[]:=by unfold wn;rw[e];rfl
  have ne:(!decide (wF (some i)=V.non))=true:=rfl;rw[aK ne];exists xK,fun l hl=>?_;exact q l _ (zc hl _) ⟨[],hl,za,by rw[ef];exact .nil⟩
 | none=>
  have ef:wn rows many=(List.range (many - plN rows)).map fun i=>((("over" : Str),plN rows+i):Str×Nat):=by unfold wn;rw[e];rfl
  refine yf ?_;have lp:plN rows<=500:=le_trans (length_filter_le _ _) l5;exists _,rfl,f,dx,fs,rfl,h1,nmP,f,rows,bars,rfl,hF,_,rfl,(plN rows:Nat),(many:Nat),rfl,⟨by omega,by omega,by omega,by omega⟩,fun D hD=>?_
  have en:((many:Int) - (plN rows:Int)).toNat=many - plN rows:=by omega
  refine uQ (n:=((many:Int) - (plN rows:Int)).toNat) (fun i ys H'=>∃us,ys=us.map V.ref/\zn H H'/\H' D=some (.lst ys)/\xy H' us ((List.range i).map fun i=>((("over" : Str),plN rows+i):Str×Nat))) ⟨[],rfl,zc hD _,za,.nil⟩ ?_ ?_
  ·rintro i ys H' hi ⟨us,rfl,sH,hDy,hm⟩
   have lu:us.length=i:=by rw[hm.length,aA,length_range]
   exists fun _=>?_,fun e=>Bool.noConfusion e;exists _,rfl,z6,fun t ht=>?_;have s2:=zc ht (.tup [.str "over",.int ((plN rows:Int)+(i:Int))]);have hDy2:=s2 _ _ hDy;refine lcN.mk hi (zK (by omega)) hDy2 (by rw[aA,lu];exact aF _) ⟨us++[t],by rw[aE];rfl,fun b' u' e'=>?_,za,?_⟩
   ·rw[zi (zd e' hD)]
    exact s2 _ _ (sH _ _ e')
   ·rw[range_succ,aE]
    have hu:MA1 (upd H' t (.tup [.str "over",.int ((plN rows:Int)+(i:Int))])) t ("over",plN rows+i):=by
     show upd H' t _ t=_;rw[za];rfl
    exact((hm.same s2).snoc hu).upd hDy2
  ·rintro ys H' ⟨us,rfl,sH,hDy,hm⟩
   rw[en,<- ef] at hm;exact q D H' sH ⟨us,hD,hDy,hm⟩
theorem zjZ:zt ["parameter","number","many","firsts"] ["parameter","number","many","firsts"] (zj zf6):=fsc
theorem ziz{P:Program}{w:World}{K:Frag}{base:Heap}{f:Addr}{fd:FuncData}{c:C5}{m:MA}{gp gb:FuncData}(F:Fun K "one_entry" "one_entry" zf6 f fd)(PP:Pcs K m c)(GP:zC P w K mg base CX0 1 m.fP gp ["self"] (jy K m bpL))(bP:z0 K gp ["self"] [])(GB:zC P w K mg base CX0 1 m.fB gb ["self"] (jy K m bnL))(bB:z0 K gb ["self"] []):
  zC P w K mg base CX0 2 f fd ["parameter","number","many","firsts"] (zcI c):=by
 refine F.ok zjZ (fun cdv A outer s H vs Q E hr h=>?_);obtain⟨p,d,i,many,r,fk,rfl,⟨dx,hp⟩,rok,hd,q⟩:=h;have hu1:=zaE hr;have C:=PP r.k rok.1;refine⟨_,zh (zH (yV (yX (yY (yG (pv 0) C.cl C.mP GP hr bP .nil yi)) (yy (zk zau (pv 1) (pv 2) (zx _))))) (zf (zA (zJ (ac zm (ac (pv 1) zb))))) zv)
  (zh (zH (yV (yX (yY (yG (pv 0) C.cl C.mB GB hr bB .nil yi)) (yy (vk (zgD hu1 (yv (pv 0) rfl) (pv 3)))))) (zf (zA (zJ (ac zm (ac (jL hu1 (pv 3) (yv (pv 0) rfl) nofun) zb))))) zv)
  (zf (zA (zJ (ac zm zb))))),?_⟩
 have nP:(pr r).lookup ("by_place" : Str)=none:=js (by symm) (by symm) (by symm)
 have nB:(pr r).lookup ("by_name" : Str)=none:=js (by symm) (by symm) (by symm)
 try dsimp only
 refine yr (fun σ' H'=>σ'=[some (.ref p),some (.int (i:Nat)),some (.int (many:Nat)),some (.ref d)]/\H'=H/\¬(xx r.k=true/\i<many)) ?_ (fun key=>?_);rotate_left
 ·exists _,rfl,p,dx,_,rfl,hp,nP,p,dx,_,_,_,_,rfl,C,hp,_,rfl,?_
  rw[zhk r.k rok.1];cases eb:xx r.k with
  | false=>
   refine yf ?_;refine yf ?_;exact key _ _ ⟨rfl,rfl,by rw[eb];exact fun z=>Bool.noConfusion z.1⟩
  | true=>
   refine xt ?_;exists _,rfl,_,rfl,_,_,rfl,rfl,_,rfl,?_;refine wG (fun c1=>?_) (fun c1=>?_)
   ·have hlt:i<many:=by
     have:=of_decide_eq_true c1
     omega
    exists _,rfl,z6,fun t ht=>?_;exact q t _ (zc ht _) (by rw[za];unfold uy;rw[aK ⟨eb,hlt⟩])
   ·have hlt:¬i<many:=fun h=>c1 (aC (by show(i:Int)<(many:Int);omega))
    exact key _ _ ⟨rfl,rfl,fun z=>hlt z.2⟩
 rintro σ1 H1 ⟨rfl,rfl,nn⟩;have e1:uy r i many fk=(if ym r.k=true/\(zS fk (.inr r.z)).isSome=true then [.str "name",(zS fk (.inr r.z)).getD .non] else [.str "free"]):=by unfold uy;rw[aJ nn]
 try dsimp only
 refine yr (fun σ' H'=>σ'=[some (.ref p),some (.int (i:Nat)),some (.int (many:Nat)),some (.ref d)]/\H'=H1/\¬(ym r.k=true/\(zS fk (.inr r.z)).isSome=true)) ?_ (fun key=>?_);rotate_left
 ·exists _,rfl,p,dx,_,rfl,hp,nB,p,dx,_,_,_,_,rfl,C,hp,_,rfl,?_
  rw[uR r.k rok.1];cases eb:ym r.k with
  | false=>
   refine yf ?_;refine yf ?_;exact key _ _ ⟨rfl,rfl,by rw[eb];exact fun z=>Bool.noConfusion z.1⟩
  | true=>
   refine xt ?_;exists _,rfl,p,_,dx,_,_,rfl,hp,C.cl,C.nN,wq,_,rfl,d,_,rfl,.inl ⟨fk,.inr r.z,hd,rfl,rfl⟩,_,rfl,?_;refine wG (fun c1=>?_) (fun c1=>?_)
   ·obtain⟨v,hv⟩:=Option.isSome_iff_exists.mp c1
    exists _,rfl,_,rfl,p,_,dx,_,_,rfl,hp,C.cl,C.nN,wq,d,v,rfl,.inl ⟨fk,.inr r.z,hd,rfl,hv.symm⟩,z6,fun t ht=>?_;exact q t _ (zc ht _) (by rw[za,e1,aK ⟨eb,c1⟩,hv];rfl)
   ·exact key _ _ ⟨rfl,rfl,fun z=>c1 z.2⟩
 rintro σ2 H2 ⟨rfl,rfl,nn2⟩;exists ja,fun t ht=>?_;exact q t _ (zc ht _) (by rw[za,e1,aJ nn2])
theorem jH:zt ["form","many","firsts","found","number","parameter"] ["form","many","firsts"] (zj zf9):=fsc
theorem zgV{P:Program}{w:World}{K:Frag}{base:Heap}{f CF:Addr}{fd:FuncData}{c:C5}{m:MA}{g gP:Addr}{gd gf eP:FuncData}(F:Fun K "lackings" "lackings" zf9 f fd)(hen:mg "enumerate"=none)(PP:Pcs K m c)(FK:FC K CF)(mP:xH K CF "parameters" gP)(GP:zC P w K mg base CX0 1 gP eP ["self"] (jY c CF))(bP:z0 K eP ["self"] [])
  (GF:zC P w K mg base CX0 1 m.fF gf ["self"] (zcJ K m)) (bF:z0 K gf ["self"] []) (cE1:zG P w K mg base 2 "one_entry" g gd ["parameter","number","many","firsts"] (zcI c)):zC P w K mg base CX0 3 f fd ["form","many","firsts"] (zd5 c CF):=by
 refine F.ok jH (fun cdv A outer s H vs Q E hr h=>?_);obtain⟨f,d,many,rows,bars,fk,rfl,l5,hok,hF,hd,hfl,q⟩:=h;have hr1:yn 1 _:=hr.mono (by decide)
 have hU:=hr.units;have hO:∀C,Cs5 c C->Cls K C/\xH K C "free" m.fF:=fun C ⟨k,hk,e⟩=>by rw[e];exact⟨(PP k hk).cl,(PP k hk).mF⟩
 refine⟨_,zh (zu (i:=3) jH.nd rfl ⋯ (zN zb))
  (zh (xk PassesOwn.never rfl (xr rfl hen (ac (yG (pv 0) FK.cl mP GP hr1 bP .nil yi) zb)) (yz rfl (zy (zp (i:=4) jH.nd rfl ⋯) (zy (zp (i:=5) jH.nd rfl ⋯) yg)))
   (zf (zH (yV (yX (xT (yY (vN (pv 5) hO GF hr1 bF yi))) (yy (zk (zgH hU) (cF cE1 hr (ac (pv 5) (ac (pv 4) (ac (pv 1) (ac (pv 2) zb))))) (zJ (ac zm zb)) (zx _)))))
    (zf (zP (y8 PySem.F.plainAttrs_list PySem.F.slot_list_append PySem.F.type_list_append zU (pv 3) (ac (zJ (ac zm (ac (pv 4) zb))) zb)))) zv)))
  (zf (zA (pv 3)))),?_⟩
 exists xK,fun l hl=>?_;have s1:=zc hl (.lst []);have e1:upd H l (.lst []) l=some (.lst []):=za;show wx _ _ _ _ (upd H l (.lst []));generalize upd H l (.lst [])=H1 at s1 e1 |-;obtain⟨dx,fs,lr,lb,ld,ps0,h1,h2,h3,h4,h5,h6⟩:=id hF;have nmP:fs.lookup ("parameters" : Str)=none:=h2.no _ (by symm)
 exists _,rfl,f,dx,fs,rfl,s1 _ _ h1,nmP,f,rows,bars,rfl,hF.same s1,fun lp ps H2 s2 np ep hps=>?_;have e2:=s2 _ _ e1;have nlp:lp≠l:=Ne.symm (zd e1 np);have nd:∀{b:Addr}{u:HO},H b=some u->b≠l:=fun e=>zd e hl;have s12:=s1.trans s2;have sHl:∀{H':Hp},(∀b u,H2 b=some u->b≠l->H' b=some u)->zn H H':=fun k b u e=>k b u (s12 _ _ e) (nd e);refine⟨lp,rfl,⟨_,ze ep⟩,wC (K:=K) (a:=lp) (xs:=ps.map V.ref) (fun i σ H'=>∃(us:List Addr) (v4 v5:Option V),σ=[some (.ref f),some (.int (many:Nat)),some (.ref d),some (.ref l),v4,v5]/\(∀b u,H2 b=some u->b≠l->H' b=some u)/\H' l=some (.lst (us.map V.ref))/\xy H' us (wA many fk 0 (rows.take i)))
  ⟨[],_,_,rfl,fun _ _ e _=>e,e2,.nil⟩ (fun i σ H' _ ⟨_,_,_,_,sH,_⟩=>ze (sH _ _ ep nlp)) ?_ ?_⟩
 ·rintro i x p σ H' hx ⟨us,v4,v5,rfl,sH,hl',hm⟩ hpn
  obtain⟨pa,hpa,rfl⟩:=x8 hx;obtain⟨r,hr',dx',hdx⟩:=yZ hps hpa;have rok:=hok r (aH hr');have C:=PP r.k rok.1;have hi:i<rows.length:=(List.getElem?_eq_some_iff.mp hr').1;have npa:pa≠l:=wo hdx e2 (by intro z;cases z)
  have tk:=uB (many:=many) (fk:=fk) rows 0 i hr';rw[Nat.zero_add] at tk;have sp:=zc hpn (.tup [.int (i:Nat),.ref pa]);have lu:us.length<=i:=by
   rw[hm.length];refine le_trans (wZ _ _ _ _) ?_;rw[length_take];omega
  have sH1:∀b u,H2 b=some u->b≠l->upd H' p (.tup [.int (i:Nat),.ref pa]) b=some u:=fun b u e n=>sp _ _ (sH b u e n);have hl1:=sp _ _ hl';have hm1:=hm.same sp;exists p,_,rfl,zq za,rfl,_,_,rfl,_,_,rfl,rfl,?_;generalize upd H' p (.tup [.int (i:Nat),.ref pa])=H3 at sH1 hl1 hm1 |-;have hd3:=sH1 _ _ hdx npa;exists _,rfl,pa,_,dx',_,rfl,⟨r.k,rok.1,rfl⟩,hd3,js (by symm) (by symm) (by symm),pa,dx',_,_,_,_,rfl,C,hd3,_,rfl,?_
  cases ef:fr r.k r.b with
  | true=>
   have il:wm r i many fk=false:=by unfold wm;rw[ef];rfl
   rw[il,aJ zft,append_nil] at tk;refine yf ?_;refine yf ?_;exact⟨us,_,_,rfl,sH1,hl1,by rw[tk];exact hm1⟩
  | false=>
   refine xt ?_;exists _,rfl,_,rfl,_,rfl,_,rfl,pa,d,i,many,r,fk,rfl,⟨dx',hd3⟩,rok,zn.rd (sHl sH1) hd,fun u H4 s4 e4=>?_;exists ja,fun t ht=>?_;have s5:=zc ht (.tup [.str "free"]);exists u,t,_,_,rfl,rfl,zq (s5 _ _ e4),zq za,zeW hfl,rfl,_,rfl,?_;have s45:=s4.trans s5;have il:wm r i many fk=L2.eqT (uy r i many fk) [.str "free"]:=by unfold wm;rw[ef];rfl
   rw[<- il];generalize upd H4 t (.tup [.str "free"])=H5 at s5 s45 |-;have hl5:=s45 _ _ hl1;have sH5:∀b u,H2 b=some u->b≠l->H5 b=some u:=fun b u e n=>s45 _ _ (sH1 b u e n);refine wG (fun c1=>?_) (fun c1=>?_)
   ·rw[c1,aK rfl] at tk
    exists _,rfl,.inl ⟨rfl,_,ze hl5⟩,_,rfl,z6,fun t2 ht2=>?_;have s6:=zc ht2 (.tup [.str "lacking",.int (i:Nat)]);have hl6:=s6 _ _ hl5;have hu2:MA1 (upd H5 t2 (.tup [.str "lacking",.int (i:Nat)])) t2 ("lacking",i):=by
     show upd H5 t2 _ t2=_;rw[za]
    exists l,_,.ref t2,rfl,rfl,hl6,zF (by rw[aA];omega),?_
    exists us++[t2],_,_,rfl,fun b u e n=>?_,by rw[za,aE];rfl,?_
    ·rw[zi n]
     exact s6 _ _ (sH5 b u e n)
    ·rw[tk]
     exact(((hm1.same s45).same s6).snoc hu2).upd hl6
   ·have c2:wm r i many fk=false:=by
     cases e:wm r i many fk with
     | false=>rfl
     | true=>exact absurd e c1
    rw[c2,aJ zft,append_nil] at tk;exact⟨us,_,_,rfl,sH5,hl5,by rw[tk];exact hm1.same s45⟩
 ·rintro σ H' ⟨us,v4,v5,rfl,sH,hl',hm⟩
  rw[aA,hps.length,take_length] at hm;exact⟨_,rfl,q l H' (sHl sH) ⟨us,hl,hl',hm⟩⟩
def fpF:Nat->List (Str×Nat)->List Str->List (Str×Nat)
 | _,acc,[]=>acc
 | i,acc,z::zs=>fpF (i+1) (if (acc.any fun p=>decide (p.1=z))=true then acc else acc++[(z,i)]) zs
def kvP(fp:List (Str×Nat)):List (Key×V):=fp.map fun p=>(.inr p.1,.int (p.2:Nat))
theorem wb(fp:List (Str×Nat))(z:Str):(zS (kvP fp) (.inr z)).isSome=fp.any fun p=>decide (p.1=z):=by
 rw[<- ww];unfold kvP;rw[List.any_map]
 congr 1
 funext p
 show decide ((Sum.inr p.1:Key)=Sum.inr z)=decide (p.1=z);exact zhh _ _
theorem zdD:∀(zs:List Str) (i:Nat) (acc:List (Str×Nat)),ua i (kvP acc) zs=kvP (fpF i acc zs)
 | [],_,_=>rfl
 | z::zs,i,acc=>by
  show ua (i+1) (if (zS (kvP acc) (.inr z)).isSome=true then kvP acc else yF (kvP acc) (.inr z) (.int i)) zs=kvP (fpF (i+1) (if (acc.any fun p=>decide (p.1=z))=true then acc else acc++[(z,i)]) zs)
  rw[wb];cases e:acc.any fun p=>decide (p.1=z) with
  | true=>exact zdD zs (i+1) acc
  | false=>
   have e2:yF (kvP acc) (.inr z) (.int (i:Nat))=kvP (acc++[(z,i)]):=by
    unfold yF;rw[ww,wb,e,aJ zft];unfold kvP;rw[aE];rfl
   rw[aJ zft,aJ zft,e2];exact zdD zs (i+1) _
theorem jN(h:zS (kvP fp) k=some v):∃(z:Str) (j:Nat),k=.inr z/\v=.int (j:Nat)/\(z,j)∈fp:=by
 unfold zS at h;cases e:(kvP fp).find? fun kv=>decide (kv.1=k) with
 | none=>rw[e] at h;cases h
 | some kv=>
  rw[e] at h;have hm:=List.mem_of_find?_eq_some e;have hk:=List.find?_some e;unfold kvP at hm;obtain⟨p,hp,rfl⟩:=List.mem_map.mp hm;exact⟨p.1,p.2,(of_decide_eq_true hk).symm,(Option.some.inj h).symm,hp⟩
theorem zi3(fp:List (Str×Nat)):zdP (kvP fp):=fun k v h=>by
 obtain⟨z,j,_,rfl,_⟩:=jN h;rfl
theorem zep{z:Str}:∀(zs:List Str) (i:Nat) (acc:List (Str×Nat)),(acc.any fun p=>decide (p.1=z))=true->((fpF i acc zs).any fun p=>decide (p.1=z))=true
 | [],_,_,h=>h
 | y::ys,i,acc,h=>by
  show((fpF (i+1) _ ys).any _)=true;refine zep ys (i+1) _ ?_;split
  ·exact h
  ·rw[any_append,h];rfl
theorem zdE{z:Str}:∀(zs:List Str) (i:Nat) (acc:List (Str×Nat)),z∈zs->((fpF i acc zs).any fun p=>decide (p.1=z))=true
 | [],_,_,h=>by cases h
 | y::ys,i,acc,h=>by
  show((fpF (i+1) _ ys).any _)=true;rcases List.mem_cons.mp h with rfl|h
  ·refine zep ys (i+1) _ ?_
   split
   next e=>exact e
   ·rw[any_append]
    simp
  ·exact zdE ys (i+1) _ h
def fpZ(zs:List Str):List (Str×Nat):=fpF 0 [] zs
theorem zjC(zs:List Str):ua 0 [] zs=kvP (fpZ zs):=zdD zs 0 []
def ue(fk:List (Key×V)):Nat->List Str->List (Str×Nat)
 | _,[]=>[]
 | i,z::zs=>(if zS fk (.inr z)=some (.int (i:Nat)) then [] else [(("doubled" : Str),i)])++ue fk (i+1) zs
theorem jm{fk:List (Key×V)}{z:Str}:∀(zs:List Str) (j i:Nat),zs[i]?=some z->ue fk j (zs.take (i+1))=ue fk j (zs.take i)++(if zS fk (.inr z)=some (.int (j+i:Nat)) then [] else [(("doubled" : Str),j+i)])
 | [],_,_,h=>by simp at h
 | y::ys,j,0,h=>by
  have e:y=z:=by simpa using h
  subst e;show(_++[])=[]++_;rw[append_nil,nil_append];rfl
 | y::ys,j,i+1,h=>by
  have:=jm (fk:=fk) ys (j+1) i (by simpa using h)
  show _++ue fk (j+1) (ys.take (i+1))=_;rw[this,show j+1+i=j+(i+1) by omega,<- append_assoc]
  rfl
theorem vR(fk:List (Key×V)):∀(zs:List Str) (i:Nat),(ue fk i zs).length<=zs.length
 | [],_=>aF _
 | r::rs,i=>by
  have:=vR fk rs (i+1)
  show(_++ue fk (i+1) rs).length<=rs.length+1;rw[aG];split
  ·rw[length_nil];omega
  ·rw[length_singleton];omega
def y0(rows:List Rw)(bars:List Str)(many:Nat)(z:Str):Option Str:=
 if z∈bars then some "barred" else match lastD' z rows with
  | none=>if (zL 4 0 rows).isSome=true then none else some "strange"
  | some l=>if l<plN rows/\l<many then some "again" else none
where lastD' (z:Str) (rows:List Rw):Option Nat:=match zS (yT 0 [] rows) (.inr z) with
 | some (.int i)=>some i.toNat
 | _=>none
def vd(rows:List Rw)(bars:List Str)(many:Nat)(fp:List (Str×Nat)):List (Str×Nat):=fp.filterMap fun p=>(y0 rows bars many p.1).map fun wd=>(wd,p.2)
def xB(rows:List Rw)(bars:List Str)(many:Nat)(zs:List Str):List (Str×Nat):=ue (kvP (fpZ zs)) 0 zs++wn rows many++vd rows bars many (fpZ zs)++wA many (kvP (fpZ zs)) 0 rows
inductive zjo(c:C5)(CF:Addr)(vs:List V)(H:Hp)(Q:VK)(E:XK):Prop|mk(f d:Addr)(o:Obj)(many:Nat)(rows:List Rw)(bars:List Str)(fp:List (Str×Nat)):vs=[.ref f,.int (many:Nat),.ref d]->rows.length<=500->bars.length<=500->fp.length<=900->xz c CF H f rows bars->H d=some (.frz o (.dK (kvP fp)))->(∀l H',zn H H'->zaR H H' l (vd rows bars many fp)->Q (.ref l) H')->zjo c CF vs H Q E
inductive zfO(c:C5)(CF:Addr)(vs:List V)(H:Hp)(Q:VK)(E:XK):Prop|mk(f a:Addr)(many:Nat)(rows:List Rw)(bars zs:List Str):vs=[.ref f,.int (many:Nat),.ref a]->rows.length<=500->bars.length<=500->many<=900->zs.length<=900->(∀r∈rows,r.ok)->xz c CF H f rows bars->H a=some (.lst (zs.map V.str))->(∀l H',zn H H'->zaR H H' l (xB rows bars many zs)->Q (.ref l) H')->zfO c CF vs H Q E
theorem uT:∀(zs:List Str) (i:Nat) (acc:List (Str×Nat)),(fpF i acc zs).length<=acc.length+zs.length
 | [],_,_=>aF _
 | z::zs,i,acc=>by
  have h:=uT zs (i+1) (if (acc.any fun p=>decide (p.1=z))=true then acc else acc++[(z,i)])
  have h2:(if (acc.any fun p=>decide (p.1=z))=true then acc else acc++[(z,i)]).length<=acc.length+1:=by
   split
   ·omega
   ·rw[aG];exact aF _
  show(fpF (i+1) _ zs).length<=acc.length+(zs.length+1);omega
theorem xy.app(h:xy H us ms)(h':xy H vs ns):xy H (us++vs) (ms++ns):=yS h h'
theorem zlN:([Str.ofString "number",Str.ofString "name",Str.ofString "firsts"]:List Str).Nodup:=by symm
theorem zfY:zt ["form","many","names","firsts","doubled"] ["form","many","names"] (zj zkb):=fsc
theorem zkx{P:Program}{w:World}{K:Frag}{base:Heap}{f CF:Addr}{fd:FuncData}{c:C5}{g1 g2 g3 g4:Addr}{d1 d2 d3 d4:FuncData}(F:Fun K "misfits_of" "misfits_of" zkb f fd)(hen:mg "enumerate"=none)(c1:zG P w K mg base 1 "first_numbers" g1 d1 ["names"] j3)(c2:zG P w K mg base 2 "overs" g2 d2 ["form","many"] (zd2 c CF))(c3:zG P w K mg base 2 "unwelcomes" g3 d3 ["form","many","firsts"] (zjo c CF))(c4:zG P w K mg base 3 "lackings" g4 d4 ["form","many","firsts"] (zd5 c CF)):
  zC P w K mg base CX0 4 f fd ["form","many","names"] (zfO c CF):=by
 refine F.ok zfY (fun cdv A outer s H vs Q E hr h=>?_);obtain⟨f,a,many,rows,bars,zs,rfl,l5,lb5,lm,lz,hok,hF,ha,q⟩:=h;have hr1:yn 1 _:=hr.mono (by decide)
 have hr2:yn 2 _:=hr.mono (by decide)
 have hu1:=zaE hr;refine⟨_,zh (zu (i:=3) zfY.nd rfl (Or.inr rfl) (cF c1 hr1 (ac (pv 2) zb)))
  (zh (qk (i:=4) ["firsts"] ["number","name","firsts"] [none,none,some 3] zfY.nd rfl ⋯ rfl ⟨rfl,rfl,rfl,rfl⟩ (xr rfl hen (ac (pv 2) zb)) (xu (K:=K) (n:=2) 0 1) rfl rfl rfl
   (fun pins fp s H C=>⟨yz rfl (zy (zp (i:=0) zlN rfl ⋯ (.inr rfl)) (zy (zp (i:=1) zlN rfl ⋯ (.inr rfl)) yg)),xq (zk zei (jL hu1 (pv 2) (pv 1) nofun) (pv 0) (zx _)),zJ (ac zm (ac (pv 0) zb))⟩))
  (zf (zA (zl ye (zl ye (zl ye (pv 4) (cF c2 hr2 (ac (pv 0) (ac (pv 1) zb)))) (cF c3 hr2 (ac (pv 0) (ac (pv 1) (ac (pv 3) zb))))) (cF c4 hr (ac (pv 0) (ac (pv 1) (ac (pv 3) zb)))))))),?_⟩
 exists _,rfl,a,zs,rfl,ha,lz,fun d o H1 s1 hd0 hd1=>?_;rw[zjC] at hd1;have lfp:(fpZ zs).length<=900:=by
  have:=uT zs 0 []
  show(fpF 0 [] zs).length<=900;simp at this;omega
 generalize hfp:fpZ zs=fp at hd1 lfp;exists _,rfl,a,rfl,⟨_,ze (s1 _ _ ha)⟩,fun D hD=>?_;refine zbn (K:=K) (xs:=zs.map V.str) (fun i ys H'=>∃us,ys=us.map V.ref/\zn H1 H'/\H' D=some (.lst ys)/\xy H' us (ue (kvP fp) 0 (zs.take i))) ⟨[],rfl,zc hD _,za,.nil⟩ (fun i ys H' ⟨_,_,h,_⟩=>ze (h _ _ (s1 _ _ ha))) ?_ ?_
 ·rintro i x p ys H' hlt hx ⟨us,rfl,sH,hDy,hm⟩ hpn
  obtain⟨z,hz,rfl⟩:=strs_at hx;have hi:i<zs.length:=(List.getElem?_eq_some_iff.mp hz).1;have tk:=jm (fk:=kvP fp) zs 0 i hz;rw[Nat.zero_add] at tk;have sp:=zc hpn (.tup [.int (i:Nat),.str z]);have lu:us.length<=i:=by
   rw[hm.length];refine le_trans (vR _ _ _) ?_;rw[length_take];omega
  have hsome:(zS (kvP fp) (.inr z)).isSome=true:=by
   rw[wb,<- hfp];exact zdE zs 0 [] (aH hz)
  obtain⟨v,hv⟩:=Option.isSome_iff_exists.mp hsome;obtain⟨_,j,_,rfl,_⟩:=jN hv;have hd2:=sp _ _ (sH _ _ hd1);have hDy2:=sp _ _ hDy;have hm2:=hm.same sp;exists p,_,rfl,zq za,rfl,_,_,rfl,_,_,rfl,rfl,?_;have sA:=sH.trans sp;generalize upd H' p (.tup [.int (i:Nat),.str z])=H3 at sp hd2 hDy2 hm2 sA |-;exists _,rfl,_,rfl,d,_,rfl,.inl ⟨_,.inr z,.inr ⟨o,hd2⟩,rfl,hv.symm⟩,_,rfl,rfl,_,rfl,?_;by_cases ej:j=i
  ·subst ej
   rw[aK hv,append_nil] at tk;have ed:(!decide (V.int (j:Nat)=V.int (j:Nat)))=false:=by rw[aC rfl];rfl
   rw[ed];exact⟨fun e=>Bool.noConfusion e,fun _=>lcS.mk hlt ⟨us,rfl,sA,hDy2,by rw[tk];exact hm2⟩⟩
  ·have nv:¬zS (kvP fp) (.inr z)=some (.int (i:Nat)):=fun e=>by
    rw[hv] at e
    have:=V.int.inj (Option.some.inj e)
    omega
   rw[aJ nv] at tk;have ed:(!decide (V.int (j:Nat)=V.int (i:Nat)))=true:=by
    rw[aD (fun e=>by have:=V.int.inj e;omega)]
    rfl
   rw[ed];exists fun _=>?_,fun e=>Bool.noConfusion e;exists _,rfl,z6,fun t ht=>?_;have s4:=zc ht (.tup [.str "doubled",.int (i:Nat)]);have hDy4:=s4 _ _ hDy2;have hu:MA1 (upd H3 t (.tup [.str "doubled",.int (i:Nat)])) t ("doubled",i):=by
    show upd H3 t _ t=_;rw[za]
   refine lcN.mk hlt (zK (by rw[aA];omega)) hDy4 (by rw[aA];exact lu) ⟨us++[t],by rw[aE];rfl,fun b' u' e'=>?_,za,?_⟩
   ·rw[zi (zd e' hD)]
    exact s4 _ _ (sA _ _ e')
   ·rw[tk]
    exact((hm2.same s4).snoc hu).upd hDy4
 rintro ys H2 ⟨us,rfl,s2,hDy,hm⟩;rw[aA,take_length] at hm;have s12:=s1.trans s2;have lov:(wn rows many).length<=900:=by
  unfold wn;split
  ·exact zero_le _
  ·rw[aA,length_range];omega
 have lun:(vd rows bars many fp).length<=900:=by
  unfold vd;exact le_trans (List.length_filterMap_le _ _) lfp
 have lla:=wZ many (kvP fp) rows 0;have ldb:=vR (kvP fp) zs 0;have big : 4000<=sizeLine:=by decide
 exists _,rfl,_,rfl,_,rfl,f,many,rows,bars,rfl,lm,l5,hF.same s12,fun l3 H3 s3 ⟨us3,n3,e3,m3⟩=>?_;have lu0:=hm.length;have lu3:=m3.length;exists D,l3,_,_,rfl,rfl,s3 _ _ hDy,e3,(by simp only[aA];omega),fun p4 hp4=>?_
 rw[<- aE];have u4:=zc hp4 (.lst ((us++us3).map V.ref));have e4:upd H3 p4 (.lst ((us++us3).map V.ref)) p4=some (.lst ((us++us3).map V.ref)):=za;have m4:xy (upd H3 p4 (.lst ((us++us3).map V.ref))) (us++us3) _:=((hm.same s3).app m3).same u4;generalize upd H3 p4 (.lst ((us++us3).map V.ref))=H4 at u4 e4 m4 |-;have s24:=s2.trans (s3.trans u4);have s14:=s1.trans s24;exists _,rfl,_,rfl,_,rfl,f,d,o,many,rows,bars,fp,rfl,l5,lb5,lfp,hF.same s14,s24 _ _ hd1,fun l5' H5 s5 ⟨us5,n5,e5,m5⟩=>?_;have lu5:=m5.length;exists p4,l5',_,_,rfl,rfl,s5 _ _ e4,e5,(by simp only[aA,aG];omega),fun p6 hp6=>?_
 rw[<- aE];have u6:=zc hp6 (.lst ((us++us3++us5).map V.ref));have e6:upd H5 p6 (.lst ((us++us3++us5).map V.ref)) p6=some (.lst ((us++us3++us5).map V.ref)):=za;have m6:xy (upd H5 p6 (.lst ((us++us3++us5).map V.ref))) (us++us3++us5) _:=((m4.same s5).app m5).same u6;generalize upd H5 p6 (.lst ((us++us3++us5).map V.ref))=H6 at u6 e6 m6 |-;have s26:=s24.trans (s5.trans u6);have s16:=s1.trans s26;exists _,rfl,_,rfl,_,rfl,f,d,many,rows,bars,kvP fp,rfl,l5,hok,hF.same s16,.inr ⟨o,s26 _ _ hd1⟩,zi3 fp,fun l7 H7 s7 ⟨us7,n7,e7,m7⟩=>?_;have lu7:=m7.length;exists p6,l7,_,_,rfl,rfl,s7 _ _ e6,e7,(by simp only[aA,aG];omega),fun p8 hp8=>?_
 rw[<- aE];have u8:=zc hp8 (.lst ((us++us3++us5++us7).map V.ref));refine q p8 _ (s16.trans (s7.trans u8)) ⟨us++us3++us5++us7,(s16.trans s7).free hp8,za,?_⟩;unfold xB;rw[hfp];exact((m6.same s7).app m7).same u8
end
end K26
namespace L2
open PySem PySem.Spec PyProof.Rows
def seen(val:Nat->Str)(T:Str->Bool):Nat->Nat->Str->Bool
 | _,0,z=>T z
 | i,k+1,z=>seen val (fun y=>T y||decide (y=val i)) (i+1) k z
section
variable {P:Program}{w:World}{A:Around}{R:Result->Shared->Prop}{I:Addr}{fp wr:List Addr}{G:Array GenState->Array GenState->Prop}{n:Nat}{Pr:Nat->Value->Prop}{Sg:Nat->Shared->Prop}
theorem jS(W:WalksS P w A.in1 I fp wr G n Pr Sg)(a:Addr)(ha:a∉fp)(val:Nat->Str)(hv:∀i v,Pr i v->∃t,v=.str (val i) t)(hb:n+1<scanBound):
  ∀(k i:Nat) (s:Shared) (T:Str->Bool) (c:Nat),n - i=k->i<=n->Sg i s->c<=i->s.heap.SetOf (strKind P w) a T c->
   (∀s' c',Moved (a::wr) G s s'->c'<=n->s'.heap.SetOf (strKind P w) a (seen val T i k) c'->R (.ok (.ret .none)) s')->
   codeAny (model P w) A (.builtin "set.update.loop" ⟨[.ref a,.ref I],[]⟩) R s
 | 0,i,s,T,c,hk,hi,hg,hc,hT,hR=>by
  have hw:a∉wr:=fun z=>ha (W.sub _ z);have ei:i=n:=by omega
  subst ei;refine codeAny_builtin PyProof.Rows.F.entry_set_update_loop ?_;rw[Around.under_plainId PyProof.Rows.F.plain_set_update_loop _];show wpAny _ A.in1 (pyNext (.ref I) >>= _) _ _ _;refine zwb (W.done s _ _ hg fun s' hm=>?_);show wpAny _ A.in1 (ret Value.none) _ _ _;refine zwp (hR s' c (hm.mono fun b z=>mem_cons_of_mem _ z) hc ?_);obtain⟨ob,es,ep,t,h1,h2⟩:=hT;exact⟨ob,es,ep,t,hm.heap a _ hw h1,h2⟩
 | k+1,i,s,T,c,hk,hi,hg,hc,hT,hR=>by
  have hw:a∉wr:=fun z=>ha (W.sub _ z);have hlt:i<n:=by omega
  refine codeAny_builtin PyProof.Rows.F.entry_set_update_loop ?_;rw[Around.under_plainId PyProof.Rows.F.plain_set_update_loop _];show wpAny _ A.in1 (pyNext (.ref I) >>= _) _ _ _;refine zwb (W.item i s _ _ hlt hg fun v s' hP hg' hm=>?_);obtain⟨t,rfl⟩:=hv i v hP;have hT':s'.heap.SetOf (strKind P w) a T c:=by
   obtain⟨ob,es,ep,tb,h1,h2⟩:=hT;exact⟨ob,es,ep,tb,hm.heap a _ hw h1,h2⟩
  show wpAny _ A.in1 (holding [Value.str (val i) t] (setAdd a (.str (val i) t)) >>= _) _ _ s';refine zwb (wpAny_holding ?_);unfold setAdd;refine wpAny_holding ?_;refine zwb ((strKind P w).pyHash (k:=val i) (strKind_is _ _ _ _) ?_);refine wpAny_setAddHashed_of (knd:=strKind P w) (s:={ s' with toks:=s'.toks+1 }) (strKind_is _ _ _ _) rfl hT' (by omega) fun h' hsb h3=>?_
  refine zwp ⟨plainId_quiet PyProof.Rows.F.plain_set_update_loop _,jS W a ha val hv hb k (i+1) _ _ _ (by omega) hlt (W.frame _ s' _ _ hg' (le_succ _) fun b hb' o e=>?_) (by split <;> omega) h3 fun s2 c2 hm2 hc2 h4=>?_⟩
  ·have:b≠a:=fun z=>ha (z ▸ hb')
   rw[hsb.2 b this];exact e
  ·refine hR s2 c2 (Moved.trans W.gtrans ((hm.mono fun b z=>mem_cons_of_mem _ z).then_heap (le_succ _) fun b o hb' e=>?_) hm2) hc2 h4
   have:b≠a:=fun z=>hb' (z ▸ mem_cons_self)
   rw[hsb.2 b this];exact e
abbrev j4(led:Bool):Obj:={ cls:=.type "set",dict:=none,data:=.set #[] 0 (.fresh 0 0 led) }
end
set_option maxHeartbeats 8000000 in
theorem zdL{P:Program}{w:World}{A:Around}{E:VSP}{s:Shared}{l:Addr}{items:Array Value}{zs:List Str}{Q:VSP}
  (hh:A.handled=none) (hl:s.heap.IsList l items) (hv:∀(i:Nat) (v:Value),items[i]?=some v->∃t,v=.str (zs.getD i "") t) (hb:items.size+1<scanBound)
  (h:∀(h':Heap) (tk c:Nat),h'.SetOf (strKind P w) s.heap.objs.size (seen (fun i=>zs.getD i "") (fun _=>false) 0 items.size) c->(∀b o,b<s.heap.objs.size->s.heap.get? b=some o->h'.get? b=some o)->Q (.ref s.heap.objs.size) { s with heap:=h',toks:=tk }) :
  wpAny (model P w) A (call (.type "set") [.ref l]) Q E s:=by
 obtain⟨mc,mt,mro⟩:=PySem.F.called_set.mro;have q1:=PySem.F.called_set.made;have q2:=PySem.F.called_set.sub;have q3:=PySem.F.called_set.notType;have q4:=PySem.F.called_set.canCreate;have q5:=PySem.F.typeCall_set_1 (.ref l);refine wpAny_call (codeAny_of_tree ?_);show wpAny _ _ (callAny (.type "set") _) _ _ _;refine zwp ⟨Code.quiet_builtin _ (by symm),codeAny_builtin PySem.F.entry_type_call ?_⟩;rw[Around.under_plain (weight_type_call_type "set" [.ref l] []) rfl]
 repeat (any_goals first|assumption|wp_step)
 refine codeAny_mono (code_set_new_1 (.ref l) (E:=E) (Q₁:=fun obj s₁=>∃led:Bool,obj=.ref s.heap.objs.size/\s₁={ s with heap:=s.heap.push (j4 led) }) fun led=>⟨led,rfl,rfl⟩) fun r s₁ hr=>?_
 rcases r with e|(_|_|_|obj)
 ·exact hr
 ·exact hr.elim
 ·exact hr.elim
 ·exact hr.elim
 ·obtain⟨led,rfl,rfl⟩:=hr
  have hS:(s.heap.push (j4 led)).get? s.heap.objs.size=some (j4 led):=zgs _ rfl;have hT:Shared.TypeIs { s with heap:=s.heap.push (j4 led) } (.ref s.heap.objs.size) "set":=⟨_,hS,rfl⟩
  have q6:=PySem.F.called_set.init.lookup;have q7:=PySem.F.called_set.init.bind (.ref s.heap.objs.size)
  repeat (any_goals first|assumption|wp_step)
  refine codeAny_mono (codeAny_call_builtin (R:=wants (fun r s₂=>r=.none/\∃h' tk c,s₂={ s with heap:=h',toks:=tk }/\h'.SetOf (strKind P w) s.heap.objs.size (seen (fun i=>zs.getD i "") (fun _=>false) 0 items.size) c/\∀b o,b<s.heap.objs.size->s.heap.get? b=some o->h'.get? b=some o) E) PySem.F.called_set.init.plain PySem.F.entry_set_init (check_set_init_1 hT ?_)) fun r₂ s₂ hr₂=>?_
  ·obtain⟨ol,hol,hcl,nl,hdl⟩:=id hl
   obtain⟨ocls,odict,odata,oslots⟩:=ol;simp only at hcl hdl;subst hcl hdl;have hol':(s.heap.push (j4 led)).get? l=_:=zgp (j4 led) hol;have t1:=PySem.F.sub_list_set;have t2:=PySem.F.sub_list_frozenset;have t3:(Value.type "list"==Value.type "dict")=false:=by decide
   have hl1:(s.heap.push (j4 led)).IsList l items:=⟨_,hol',rfl,nl,rfl⟩;have hlS:l<s.heap.objs.size:=aI hol;unfold Builtin.«set.__init__» noKeywords Builtin.Frozenset.updateFrom;generalize hq:pyIter=pit
   wp_walk
   subst hq;refine wpAny_pyIter_list hl1 (zwb (wpAny_runValue ?_));have hz:(s.heap.push (j4 led)).objs.size=s.heap.objs.size+1:=Heap.size_push ..;have n1:l≠(s.heap.push (j4 led)).objs.size:=by rw[hz];exact ne_of_lt (lt_succ_of_lt hlS)
   have n2:∀b:Addr,b<s.heap.objs.size->b∉[s.heap.objs.size,(s.heap.push (j4 led)).objs.size]:=fun b hb' z=>by
    rw[hz] at z;rcases List.mem_cons.mp z with e|e
    ·exact ne_of_lt hb' e
    ·exact ne_of_lt (lt_succ_of_lt hb') (List.mem_singleton.mp e)
   have n3:s.heap.objs.size∉[(s.heap.push (j4 led)).objs.size,l]:=fun z=>by
    rw[hz] at z;rcases List.mem_cons.mp z with e|e
    ·exact ne_of_lt (lt_succ_self _) e
    ·exact ne_of_gt hlS (List.mem_singleton.mp e)
   refine jS ((Walks.list (by simp [hh]) _ l n1 items).toS) s.heap.objs.size n3 (fun i=>zs.getD i "") hv hb items.size 0 _ (fun _=>false) 0 (by omega) (zero_le _) ⟨⟨_,zgs _ rfl,rfl,rfl⟩,hl1.push _⟩ (aF _) ?_ ?_
   ·exact(PyProof.Rows.setObjOf_fresh (knd:=strKind P w) led).setOf (zgp _ hS) (by unfold scanBound;omega)
   ·rintro⟨h',g',d',tk',os'⟩ c' hm hc' hS'
    have e1:g'=s.gens:=hm.gens;have e2:d'=s.drawn:=hm.drawn;have e3:os'=s.os:=hm.os;subst e1 e2 e3;show wpAny _ _ _ _ _ _;refine zwp ?_;show wpAny _ _ (ret Value.none) _ _ _;refine zwp ⟨rfl,h',tk',c',rfl,hS',fun b o hb' e=>hm.heap b o (n2 b hb') (zgp _ (zgp _ e))⟩
  ·rcases r₂ with e|(_|_|_|ob2)
   ·exact hr₂
   ·exact hr₂.elim
   ·exact hr₂.elim
   ·exact hr₂.elim
   ·obtain⟨rfl,h',tk,c',rfl,hS',hk'⟩:=hr₂
    repeat (any_goals first|assumption|wp_step)
    exact h _ _ _ hS' hk'
theorem zbL(val:Nat->Str)(z:Str):∀(k i:Nat) (T:Str->Bool),seen val T i k z=true ↔ (T z=true\/∃j,j<k/\z=val (i+j))
 | 0,i,T=>⟨fun h=>.inl h,fun h=>h.elim id fun⟨j,hj,_⟩=>absurd hj (Nat.not_lt_zero _)⟩
 | k+1,i,T=>by
  show seen val (fun y=>T y||decide (y=val i)) (i+1) k z=true ↔ _
  rw[zbL val z k (i+1)];simp only[Bool.or_eq_true,decide_eq_true_eq];constructor
  ·rintro ((h|h)|⟨j,hj,e⟩)
   ·exact .inl h
   ·exact .inr ⟨0,by omega,h⟩
   ·exact .inr ⟨j+1,by omega,by rw[show i+(j+1)=i+1+j by omega];exact e⟩
  ·rintro (h|⟨j,hj,e⟩)
   ·exact .inl (.inl h)
   ·cases j with
    | zero=>exact .inl (.inr e)
    | succ j=>exact .inr ⟨j,by omega,by rw[show i+1+j=i+(j+1) by omega];exact e⟩
theorem zfT(zs:List Str)(z:Str):seen (fun i=>zs.getD i "") (fun _=>false) 0 zs.length z=decide (z∈zs):=by
 rw[Bool.eq_iff_iff,zbL,decide_eq_true_eq];constructor
 ·rintro (h|⟨j,hj,e⟩)
  ·cases h
  ·rw[e,Nat.zero_add]
   show zs.getD j ""∈zs;rw[getD_eq_getElem?_getD,aB hj];exact getElem_mem hj
 ·intro h
  obtain⟨j,hj,e⟩:=List.mem_iff_getElem.mp h;refine .inr ⟨j,hj,?_⟩;rw[Nat.zero_add];show z=zs.getD j "";rw[getD_eq_getElem?_getD,aB hj];exact e.symm
theorem zV.strs_at:∀{zs:List Str}{us:List Value},zV (zs.map V.str) us->∀(i:Nat) (v:Value),us[i]?=some v->∃t,v=.str (zs.getD i "") t
 | [],_,.nil,i,v,h=>by simp at h
 | z::zs,_,.cons r t,0,v,h=>by
  obtain⟨tk,e⟩:=r
  have:v=.str z tk:=by rw[<- e];simpa using h.symm
  exact⟨tk,this⟩
 | z::zs,_,.cons r t,i+1,v,h=>zV.strs_at t i v (by simpa using h)
theorem zfp{X:Cx}(hc:X.calm=true):xh X (.type "set") (fun xs H Q=>∃(p:Addr) (zs:List Str),xs=[.ref p]/\SqL X.K H p (zs.map V.str)/\zs.length<=900/\∀(l:Addr) (n:Nat),H l=none->Q (.ref l) (upd H l (vE X.prog X.w l (fun z=>decide (z∈zs)) n))):=by
 intro pins s σ H xs us Q I r h;obtain⟨p,zs,rfl,hS,lz,q⟩:=h;obtain⟨u,rfl,ru⟩:=wS r;cases ru;obtain⟨its,rv,hp,hz⟩:=I.list hS;have hl:its.length=zs.length:=by rw[<- rv.length,aA]
 have hb:its.toArray.size+1<scanBound:=by
  rw[size_toArray,hl];have : 1000<scanBound:=by unfold scanBound;decide
  omega
 refine zdL (I.ok.hd hc) hp.isList (fun i v e=>rv.strs_at i v (by simpa using e)) hb fun h' tk c hS' hk=>?_
 have hsz:its.toArray.size=zs.length:=by rw[size_toArray,hl]
 rw[hsz] at hS';have eS:seen (fun i=>zs.getD i "") (fun _=>false) 0 zs.length=fun z=>decide (z∈zs):=funext (zfT zs);rw[eS] at hS';exists .ref s.heap.objs.size,_,I.laid (t':=tk) (fun b ob e=>hk b ob (aI e) e) (aF _) (za3 hS'),rfl,q _ c (I.hok.fresh (aF _))
end L2
namespace K26
open PySem L2 PyProof.Rows
theorem zdI:∀(rows:List Rw) (i:Nat) (acc:List (Key×V)) (k:Key) (v:V),(∀k v,zS acc k=some v->∃j:Nat,v=.int (j:Nat))->zS (yT i acc rows) k=some v->∃j:Nat,v=.int (j:Nat)
 | [],_,acc,k,v,h,e=>h k v e
 | r::rs,i,acc,k,v,h,e=>by
  refine zdI rs (i+1) _ k v (fun k v e=>?_) e;split at e
  ·rw[zbD] at e
   split at e
   ·exact⟨i,(Option.some.inj e).symm⟩
   ·exact h k v e
  ·exact h k v e
theorem zeD{rows:List Rw}{bars:List Str}{many:Nat}{fp:List (Str×Nat)}{i:Nat}{p:Str×Nat}(h:fp[i]?=some p):vd rows bars many (fp.take (i+1))=vd rows bars many (fp.take i)++(match y0 rows bars many p.1 with|some wd=>[(wd,p.2)]|none=>[]):=by
 unfold vd;rw[take_add_one,h,List.filterMap_append]
 congr 1
 show List.filterMap _ [p]=_;rw[filterMap_cons,List.filterMap_nil];cases y0 rows bars many p.1 <;> rfl
theorem zfD(rows:List Rw)(bars:List Str)(many:Nat)(fp:List (Str×Nat)):(vd rows bars many fp).length<=fp.length:=List.length_filterMap_le _ _
section
variable {K:Frag}{mg:Str->Option Value}{f CF:Addr}{c:C5}
theorem zan:zt ["form","many","firsts","barred","found","name","number","leads_to"] ["form","many","firsts"] (zj zj7):=fsc
theorem zkt(F:Fun K "unwelcomes" "unwelcomes" zj7 f fd)(hset:mg "set"=none)(FK:FC K CF)(mB:xH K CF "bars" gB)(GB:zC P w K mg base CX0 1 gB eB ["self"] (zcM c CF))(bB:z0 K eB ["self"] [])(mN:xH K CF "number_of" gN)(GN:zC P w K mg base CX0 1 gN eN ["self","name"] (zd3 c CF))(bN:z0 K eN ["self","name"] [])
  (mG:xH K CF "bag" gG) (GG:zC P w K mg base CX0 1 gG eG ["self"] (vG c CF 4)) (bG:z0 K eG ["self"] []) (mP:xH K CF "places" gP) (GP:zC P w K mg base CX0 1 gP eP ["self"] (vH c CF)) (bP:z0 K eP ["self"] []) :
  zC P w K mg base CX0 2 f fd ["form","many","firsts"] (zjo c CF):=by
 refine F.ok zan (fun cdv A outer s H vs Q E hr h=>?_);obtain⟨f,d,o,many,rows,bars,fp,rfl,l5,lb5,lfp,hF,hd,q⟩:=h;refine⟨_,zh (zu (i:=3) zan.nd rfl ⋯ (cTy (zfp rfl) hset PyProof.Rows.boot_set (ac (yG (pv 0) FK.cl mB GB hr bB .nil yi) zb)))
  (zh (zu (i:=4) zan.nd rfl ⋯ (zN zb))
  (zh (xk PassesOwn.never rfl (zbW (pv 2)) (yz rfl (zy (zp (i:=5) zan.nd rfl ⋯) (zy (zp (i:=6) zan.nd rfl ⋯) yg)))
   (zh (zu (i:=7) zan.nd rfl ⋯ (zbi (pv 0) FK.cl mN GN hr bN .nil yi (ac (pv 5) zb)))
   (zf (zH (zk qp (pv 5) (pv 3) (by with_unfolding_all rfl)) (zf (zP (y8 PySem.F.plainAttrs_list PySem.F.slot_list_append PySem.F.type_list_append zU (pv 4) (ac (zJ (ac zm (ac (pv 6) zb))) zb))))
    (zf (zH (vk (zbj (pv 7))) (zf (zH (vk (zbj (yG (pv 0) FK.cl mG GG hr bG .nil yi))) (zf (zP (y8 PySem.F.plainAttrs_list PySem.F.slot_list_append PySem.F.type_list_append zU (pv 4) (ac (zJ (ac zm (ac (pv 6) zb))) zb)))) zv))
     (zf (zH (yV (yX (zk zau (pv 7) (yG (pv 0) FK.cl mP GP hr bP .nil yi) (zx _)) (yy (zk zau (pv 7) (pv 1) (zx _))))) (zf (zP (y8 PySem.F.plainAttrs_list PySem.F.slot_list_append PySem.F.type_list_append zU (pv 4) (ac (zJ (ac zm (ac (pv 6) zb))) zb)))) zv))))))))
  (zf (zA (pv 4))))),?_⟩
 obtain⟨dx,fs,lr,lb,ld,ps0,h1,h2,h3,h4,h5,h6⟩:=id hF;have nmB:fs.lookup ("bars" : Str)=none:=h2.no _ (by symm)
 have nmN:fs.lookup ("number_of" : Str)=none:=h2.no _ (by symm)
 have nmG:fs.lookup ("bag" : Str)=none:=h2.no _ (by symm)
 have nmP:fs.lookup ("places" : Str)=none:=h2.no _ (by symm)
 exists _,rfl,f,dx,fs,rfl,h1,nmB,f,rows,bars,rfl,hF,fun lb1 H1 s1 nb eb=>?_;exists lb1,bars,rfl,ze eb,by omega,fun sS nS hS=>?_
 have u2:=zc hS (vE P w sS (fun z=>decide (z∈bars)) nS);have e2:upd H1 sS (vE P w sS (fun z=>decide (z∈bars)) nS) sS=some (vE P w sS (fun z=>decide (z∈bars)) nS):=za;show wx _ _ _ _ (upd H1 sS (vE P w sS (fun z=>decide (z∈bars)) nS));generalize upd H1 sS (vE P w sS (fun z=>decide (z∈bars)) nS)=H2 at u2 e2 |-;exists xK,fun l hl=>?_;have u3:=zc hl (.lst []);have e3:upd H2 l (.lst []) l=some (.lst []):=za;show wx _ _ _ _ (upd H2 l (.lst []));generalize upd H2 l (.lst [])=H3 at u3 e3 |-;have s2:=s1.trans u2;have s3:=s2.trans u3;have hlH:H l=none:=s2.free hl;have nl:∀{b:Addr}{u:HO},H2 b=some u->b≠l:=fun e=>zd e hl;have sHl:∀{H':Hp},(∀b u,H2 b=some u->H' b=some u)->zn H H':=fun k b u e=>k b u (s2 _ _ e);refine⟨_,rfl,d,o,kvP fp,rfl,s3 _ _ hd,zff (d:=d) (o:=o) (kvs:=kvP fp) (fun i σ H'=>∃us v5 v6 v7,σ=[some (.ref f),some (.int (many:Nat)),some (.ref d),some (.ref sS),some (.ref l),v5,v6,v7]/\(∀b u,H2 b=some u->H' b=some u)/\H' l=some (.lst (us.map V.ref))/\xy H' us (vd rows bars many (fp.take i)))
  ⟨[],_,_,_,rfl,fun _ _ e=>u3 _ _ e,e3,.nil⟩ (fun i σ H' _ ⟨_,_,_,_,_,sH,_⟩=>sH _ _ (s2 _ _ hd)) ?_ ?_⟩
 ·rintro i k v p σ H' hk ⟨us,v5,v6,v7,rfl,sH,hl',hm⟩ hpn
  obtain⟨z,n,hz,rfl,rfl⟩:∃(z:Str) (n:Nat),fp[i]?=some (z,n)/\k=.inr z/\v=.int (n:Nat):=by
   unfold kvP at hk;rw[getElem?_map] at hk;cases e:fp[i]? with
   | none=>rw[e] at hk;cases hk
   | some q=>rw[e] at hk;cases hk;exact⟨q.1,q.2,rfl,rfl,rfl⟩
  have tk:=zeD (rows:=rows) (bars:=bars) (many:=many) hz;dsimp only at tk;have sp:=zc hpn (.tup [kV (.inr z),.int (n:Nat)]);have lu:us.length<=i:=by
   rw[hm.length];refine le_trans (zfD _ _ _ _) ?_;rw[length_take];omega
  have hi:i<fp.length:=(List.getElem?_eq_some_iff.mp hz).1;have sH1:∀b u,H2 b=some u->upd H' p (.tup [kV (.inr z),.int (n:Nat)]) b=some u:=fun b u e=>sp _ _ (sH b u e);have hl1:=sp _ _ hl';have hm1:=hm.same sp;exists p,_,rfl,zq za,rfl,_,_,rfl,_,_,rfl,rfl,?_;generalize upd H' p (.tup [kV (.inr z),.int (n:Nat)])=H4 at sH1 hl1 hm1 |-;have s4:=sHl sH1;exists _,rfl,f,dx,fs,rfl,s4 _ _ h1,nmN,_,rfl,f,z,rows,bars,rfl,hF.same s4,?_;exists _,rfl,_,rfl,sS,_,_,z,rfl,rfl,sH1 _ _ e2,_,rfl,?_;by_cases hz1:z∈bars
  ·refine dT hz1 ?_
   rw[show y0 rows bars many z=some "barred" from aK hz1] at tk;exists _,rfl,.inl ⟨rfl,_,ze hl1⟩,_,rfl,z6,fun t ht=>?_;have s6:=zc ht (.tup [.str "barred",.int (n:Nat)]);have hl6:=s6 _ _ hl1;have hu2:MA1 (upd H4 t (.tup [.str "barred",.int (n:Nat)])) t ("barred",n):=by
    show upd H4 t _ t=_;rw[za]
   exists l,_,.ref t,rfl,rfl,hl6,zF (by rw[aA];omega),?_
   exists us++[t],_,_,_,rfl,fun b u e=>?_,by rw[za,aE];rfl,?_
   ·rw[zi (nl e)]
    exact s6 _ _ (sH1 b u e)
   ·rw[tk]
    exact((hm1.same s6).snoc hu2).upd hl6
  ·refine dF hz1 ?_
   have e0:y0 rows bars many z=(match y0.lastD' z rows with|none=>if (zL 4 0 rows).isSome=true then none else some "strange"|some l=>if l<plN rows/\l<many then some "again" else none):=aJ hz1
   cases ev:zS (yT 0 [] rows) (.inr z) with
   | none=>
    have e1:y0.lastD' z rows=none:=by unfold y0.lastD';rw[ev]
    rw[e1] at e0;exists _,rfl,_,rfl,?_;refine dT rfl ?_;exists _,rfl,f,dx,fs,rfl,s4 _ _ h1,nmG,f,rows,bars,rfl,hF.same s4,_,rfl,?_;cases eg:zL 4 0 rows with
    | none=>
     have e2':y0 rows bars many z=some "strange":=by rw[e0,eg];rfl
     refine dT rfl ?_;rw[show y0 rows bars many z=some "strange" from e2'] at tk;exists _,rfl,.inl ⟨rfl,_,ze hl1⟩,_,rfl,z6,fun t ht=>?_;have s6:=zc ht (.tup [.str "strange",.int (n:Nat)]);have hl6:=s6 _ _ hl1;have hu2:MA1 (upd H4 t (.tup [.str "strange",.int (n:Nat)])) t ("strange",n):=by
      show upd H4 t _ t=_;rw[za]
     exists l,_,.ref t,rfl,rfl,hl6,zF (by rw[aA];omega),?_
     exists us++[t],_,_,_,rfl,fun b u e=>?_,by rw[za,aE];rfl,?_
     ·rw[zi (nl e)]
      exact s6 _ _ (sH1 b u e)
     ·rw[tk]
      exact((hm1.same s6).snoc hu2).upd hl6
    | some j=>
     have e2':y0 rows bars many z=none:=by rw[e0,eg];rfl
     refine dF (by intro z;cases z) ?_
     rw[show y0 rows bars many z=none from e2',append_nil] at tk;exact⟨us,_,_,_,rfl,sH1,hl1,by rw[tk];exact hm1⟩
   | some v=>
    obtain⟨j,rfl⟩:=zdI rows 0 [] (.inr z) v (fun k v e=>by cases e) ev
    have e1:y0.lastD' z rows=some j:=by unfold y0.lastD';rw[ev];rfl
    rw[e1] at e0;exists _,rfl,_,rfl,?_;refine dF (by intro z;cases z) ?_
    exists _,rfl,_,rfl,f,dx,fs,rfl,s4 _ _ h1,nmP,f,rows,bars,rfl,hF.same s4,_,_,rfl,rfl,_,rfl,?_;by_cases hj1:j<plN rows
    ·refine jj (aC (by show(j:Int)<(plN rows:Int);omega)) ?_
     exists _,rfl,_,rfl,_,_,rfl,rfl,_,rfl,?_;by_cases hj2:j<many
     ·have e2':y0 rows bars many z=some "again":=by rw[e0];exact aK ⟨hj1,hj2⟩
      refine jj (aC (by show(j:Int)<(many:Int);omega)) ?_
      rw[show y0 rows bars many z=some "again" from e2'] at tk;exists _,rfl,.inl ⟨rfl,_,ze hl1⟩,_,rfl,z6,fun t ht=>?_;have s6:=zc ht (.tup [.str "again",.int (n:Nat)]);have hl6:=s6 _ _ hl1;have hu2:MA1 (upd H4 t (.tup [.str "again",.int (n:Nat)])) t ("again",n):=by
       show upd H4 t _ t=_;rw[za]
      exists l,_,.ref t,rfl,rfl,hl6,zF (by rw[aA];omega),?_
      exists us++[t],_,_,_,rfl,fun b u e=>?_,by rw[za,aE];rfl,?_
      ·rw[zi (nl e)]
       exact s6 _ _ (sH1 b u e)
      ·rw[tk]
       exact((hm1.same s6).snoc hu2).upd hl6
     ·have e2':y0 rows bars many z=none:=by rw[e0];exact aJ fun h=>hj2 h.2
      refine jB (aD (by show ¬(j:Int)<(many:Int);omega)) ?_
      rw[show y0 rows bars many z=none from e2',append_nil] at tk;exact⟨us,_,_,_,rfl,sH1,hl1,by rw[tk];exact hm1⟩
    ·have e2':y0 rows bars many z=none:=by rw[e0];exact aJ fun h=>hj1 h.1
     refine jB (aD (by show ¬(j:Int)<(plN rows:Int);omega)) ?_
     refine yf ?_;rw[show y0 rows bars many z=none from e2',append_nil] at tk;exact⟨us,_,_,_,rfl,sH1,hl1,by rw[tk];exact hm1⟩
 ·rintro σ H' ⟨us,v5,v6,v7,rfl,sH,hl',hm⟩
  have lk:(kvP fp).length=fp.length:=by unfold kvP;rw[aA]
  rw[lk,take_length] at hm;exact⟨_,rfl,q l H' (sHl sH) ⟨us,hlH,hl',hm⟩⟩
def ul(rows:List Rw)(bars:List Str)(c:List yQ):List (Str×Nat):=xB rows bars (yq c).length (zT c)
structure wR(K:Frag)(H:Hp)(a:Addr)(ct:List yQ):Prop where
 at_:∃xs,SqL K H a xs/\Paired (zw K T' H 3) xs (ct.map xf)
 lt:(yq ct).length<=900
 lp:(y9 ct).length<=900
structure vy(c:C5)(CF:Addr)(H:Hp)(f:Addr)(rows:List Rw)(bars:List Str):Prop where
 at_:xz c CF H f rows bars
 lr:rows.length<=500
 lb:bars.length<=500
 ok:∀r∈rows,r.ok
theorem vy.same(h:vy c CF H f rows bars)(s:zn H H'):vy c CF H' f rows bars:=⟨h.at_.same s,h.lr,h.lb,h.ok⟩
inductive zd4(K:Frag)(c:C5)(CF:Addr)(vs:List V)(H:Hp)(Q:VK)(E:XK):Prop|mk(f a:Addr)(rows:List Rw)(bars:List Str)(ct:List yQ):vs=[.ref f,.ref a]->vy c CF H f rows bars->wR K H a ct->(∀l H',zn H H'->zaR H H' l (ul rows bars ct)->Q (.ref l) H')->zd4 K c CF vs H Q E
theorem zfX:zt ["form","call","many","names"] ["form","call"] (zj qb):=fsc
theorem zkz(F:Fun K "misfits" "misfits" qb f fd)(c1:zG P w K mg base 2 "shape" g1 d1 ["call"] (zaX K))(c2:zG P w K mg base 4 "misfits_of" g2 d2 ["form","many","names"] (zfO c CF)):zC P w K mg base CX0 5 f fd ["form","call"] (zd4 K c CF):=by
 refine F.ok zfX (fun cdv A outer s H vs Q E hr h=>?_);obtain⟨f,a,rows,bars,ct,rfl,hF,⟨⟨xs,hx,hc⟩,lt,lp⟩,q⟩:=h;have hr2:yn 2 _:=hr.mono (by decide)
 refine⟨_,zh (ut (cF c1 hr2 (ac (pv 1) zb)) (yz rfl (zy (zp (i:=2) zfX.nd rfl ⋯) (zy (zp (i:=3) zfX.nd rfl ⋯) yg))))
  (zf (zA (cF c2 hr (ac (pv 0) (ac (pv 2) (ac (pv 3) zb)))))),?_⟩
 exists _,rfl,a,ct,xs,rfl,hx,hc,lt,lp,fun p l H1 s1 nl ep el=>?_;exists p,_,rfl,zq ep,rfl,_,_,rfl,_,_,rfl,rfl,?_;have hF1:=hF.same s1;have ln:(zT ct).length<=900:=by unfold zT;rw[aA];exact lp
 exact⟨_,rfl,_,rfl,_,rfl,f,l,(yq ct).length,rows,bars,zT ct,rfl,hF.lr,hF.lb,lt,ln,hF.ok,hF1.at_,el,fun l2 H2 s2 ⟨us,n2,e2,m2⟩=>q l2 H2 (s1.trans s2) ⟨us,s1.free n2,e2,m2⟩⟩
end
end K26
namespace L2
open PySem PySem.Spec PyProof.Rows
section
variable {X:Cx}
def xZ(n:Nat):List Int:=(List.range n).map fun (i:Nat)=>(i:Int)
theorem zV.of_at{ts:List Int}:∀{us:List Value},us.length=ts.length->(∀(i:Nat) (v:Value),us[i]?=some v->∃t,v=Value.int (ts.getD i 0) t)->zV (ts.map V.int) us:=by
 induction ts with
 | nil=>
  intro us hl _
  have:us=[]:=List.length_eq_zero_iff.mp hl
  subst this;exact .nil
 | cons t ts ih=>
  intro us hl h;cases us with
  | nil=>cases hl
  | cons u us=>
   obtain⟨k,e⟩:=h 0 u rfl;exact .cons ⟨k,e⟩ (ih (by simpa using hl) fun i v e=>h (i+1) v e)
theorem zhB:xh X (.type "range") (fun xs H Q=>∃n:Nat,xs=[.int (n:Nat)]/\∀p,H p=none->Q (.ref p) (upd H p (.rng 0 (n:Nat)))):=by
 intro pins s σ H xs us Q I r h;obtain⟨n,rfl,q⟩:=h;obtain⟨u,rfl,ru⟩:=wS r;obtain⟨t,rfl⟩:=ru;refine call_range_1 ?_;exists .ref s.heap.objs.size,_,I.laid (o:=.rng 0 (n:Nat)) (fun b u e=>zgp _ e) (aF _) ?_,rfl,q _ (I.hok.fresh (aF _));exact⟨_,_,_,zgs _ rfl⟩
theorem zdM(hc:X.calm=true):xh X (.type "list") (fun xs H Q=>∃(p:Addr) (n:Nat),xs=[.ref p]/\H p=some (.rng 0 (n:Nat))/\n<=900/\∀l,H l=none->Q (.ref l) (upd H l (.lst ((xZ n).map V.int)))):=by
 intro pins s σ H xs us Q I r h;obtain⟨p,n,rfl,hp,hn,q⟩:=h;obtain⟨u,rfl,ru⟩:=wS r;cases ru;obtain⟨t,u',v',e⟩:=I.hok p _ hp;refine call_list_range (n:=n) (I.ok.hd hc) e ?_ ?_ (by omega) fun h' tk acc c' hk he hacc=>?_
 ·exact small_one (by omega) (by omega) (by omega) (by omega)
 ·unfold Builtin.Range.rangeSize
  rw[aK (by decide)]
  split <;> omega
 ·have hl:acc.toList.length=(xZ n).length:=by
   unfold xZ;rw[aA,length_range];simpa using hacc.1
  have hv:zV ((xZ n).map V.int) acc.toList:=zV.of_at hl fun i v e=>by
   obtain⟨t,rfl⟩:=hacc.2 i v (by simpa using e)
   exists t,?_;have hi:i<n:=by
    have:=(List.getElem?_eq_some_iff.mp e).1
    rw[hl] at this;unfold xZ at this;simpa using this
   have eg:(xZ n).getD i 0=(i:Int):=by
    unfold xZ;rw[getD_eq_getElem?_getD,getElem?_map,getElem?_range hi];rfl
   rw[eg];simp
  exists .ref s.heap.objs.size,_,I.laid (t':=tk) (o:=.lst ((xZ n).map V.int)) hk (aF _) ⟨?_,acc.toList,c',hv,by simpa using he⟩,rfl,q _ (I.hok.fresh (aF _))
  unfold xZ;rw[aA,aA,length_range];have : 1000<=sizeLine:=by decide
  omega
end
end L2
namespace L2
open PySem PySem.W PySem.Builtin PySem.Builtin.ObjectAttr PySem.Spec PyProof.Rows
def zhH(K:Frag)(C:Addr):Bool:=
 match K.lookup C with
 | some ⟨.type "type",_,.cls cd,sl⟩=>
  match cd.mro,sl.toList with
  | .ref C'::bm,[_,_,_,_,some (.builtin n),_]=>C'==C&&n=="ValueError.__new__"&&!cd.hasDel&&cd.hasDict&&bm.contains (.type "ValueError")&&bm.contains (.type "BaseException")&&!bm.contains (.type "AttributeError")&&!bm.contains (.type "NameError")
  | _,_=>false
 | _=>false
structure zl4(h:Heap)(C:Addr):Prop where
 ob:∃nm q N bs bm sn sub ab col dd k0 k1 k2 k3 k5,h.get? C=some (excClassObj nm q C N bs bm true sn sub ab col dd k0 k1 k2 k3 k5 "ValueError.__new__")/\bm.contains (.type "ValueError")=true/\bm.contains (.type "BaseException")=true/\bm.contains (.type "AttributeError")=false/\bm.contains (.type "NameError")=false
theorem zdT{K:Frag}{h:Heap}{C:Addr}(X:K.In h)(q:zhH K C=true):zl4 h C:=by
 simp only[zhH] at q;split at q
 case h_2=>cases q
 rename_i dd cd sl ho;obtain⟨nm,bs,mro,ns,qn,hd,sn,sub,ab,col,del⟩:=cd;obtain⟨l⟩:=sl;dsimp only at q;split at q
 case h_2=>cases q
 rename_i C' m k0 k1 k2 k3 n k5;simp only[Bool.and_eq_true,beq_iff_eq,Bool.not_eq_true'] at q;obtain⟨⟨⟨⟨⟨⟨⟨rfl,rfl⟩,rfl⟩,rfl⟩,h1⟩,h2⟩,h3⟩,h4⟩:=q;exact⟨_,_,_,_,_,_,_,_,_,_,_,_,_,_,_,X _ _ ho,h1,h2,h3,h4⟩
abbrev wO(C t:Addr):Obj:={ cls:=.ref C,data:=.fields #[.ref t,.none,.none,.none,.bool false,.none] }
abbrev yu(us:List Value):Obj:={ cls:=.type "tuple",data:=.seq us.toArray }
section
variable {prog:Program}{w:World}{A:Around}{E:VSP}{s:Shared}{K:Frag}{C f:Addr}{us:List Value}
theorem zi5{R:Result->Shared->Prop}(m:zl4 s.heap C)(hl:us.length<=sizeLine)
  (h:R (.ok (.ret (.ref (s.heap.objs.size+1)))) { s with heap:=(s.heap.push (yu us)).push (wO C s.heap.objs.size) }) :
  codeAny (model prog w) A (.call (.builtin "ValueError.__new__") ⟨.ref C::us,[]⟩) R s:=by
 obtain⟨hh,g,d,t,os⟩:=s;obtain⟨nm,q,N,bs,bm,sn,sub,ab,col,dd,k0,k1,k2,k3,k5,hC,b1,b2,b3,b4⟩:=m.ob;have F:=PySem.F.excBase_ValueError;refine codeAny_call_builtin_code (Code.quiet_builtin _ F.toExcCallFacts.quiet) ?_;have k1':=F.newKind;have k2':=F.newSplit;have k3':=F.newRow;simp only[checkBuiltinCall,k1',k2',k3'];rw[aK (by symm)]
 refine zwb (ks_wpAny_isType_cls hC rfl ?_);rw[aJ (by decide)]
 refine zwb (wpAny_isSubtype_exc hC ?_);rw[show(Value.ref C::bm).contains (.type "ValueError")=true by rw[contains_cons,b1,Bool.or_true],aJ (by decide)]
 refine zwb (wpAny_staticBase_exc hC (zwb (wpAny_madeBy_exc hC ?_)));dsimp only;rw[aJ (by symm)]
 rw[show Bind.checkArgs "ValueError.__new__" { machinery:=Manifest.Machinery.any,full:="ValueError",short:="ValueError",receiver:=Manifest.Receiver.cls,params:=[{ name:="args",kind:=Manifest.ParamKind.varPos,required:=false },{ name:="kwargs",kind:=Manifest.ParamKind.varKw,required:=false }] } { pos:=Value.ref C::us }=pure () from rfl];refine zwp (PyProof.Rows.codeAny_builtin_at F.toExcCallFacts.toExcNewFacts.entry ?_);unfold Builtin.«BaseException.__new__»;refine PyProof.Rows.wpAt_bind (PyProof.Rows.wpAt_owner rfl F.toExcCallFacts.toExcNewFacts.ends (PyProof.Rows.wpAt_of_any ?_));rw[F.toExcCallFacts.toExcNewFacts.owner];dsimp only;refine zwb (ks_wpAny_isType_cls hC rfl ?_);rw[aJ (by decide)]
 refine zwb (wpAny_isSubtype_exc hC ?_);rw[show(Value.ref C::bm).contains (.type "ValueError")=true by rw[contains_cons,b1,Bool.or_true],aJ (by decide)]
 refine zwb (wpAny_madeHere_exc F.canon hC ?_);have c3:(Value.ref C::bm).contains (.type "AttributeError")=false:=by rw[contains_cons,b3];rfl
 have c4:(Value.ref C::bm).contains (.type "NameError")=false:=by rw[contains_cons,b4];rfl
 refine zwb (?_:wpAny _ _ (do
   let x <- isSubtype (.ref C) (.type "AttributeError")
   if x=true then pure 2
   else do
    let y <- isSubtype (.ref C) (.type "NameError")
    if y=true then pure 1 else pure 0:Sem Nat) _ _ _)
 refine zwb (wpAny_isSubtype_exc hC ?_);rw[c3,aJ zft];refine zwb (wpAny_isSubtype_exc hC ?_);rw[c4,aJ zft];refine zwp (zwb (wpAny_newTuple ?_ hl));have hC2:=zgp (yu us) hC;unfold newObj;dsimp only;rw[aJ (by show ¬6>sizeLine+2;decide)]
 unfold newObjAsIs;refine zwb (zwb (wpAny_alloc ?_));dsimp only;refine zwb ?_;unfold classHasDel;refine zwb (wpAny_load (zgp _ hC2) ?_);dsimp only;refine zwp ?_;rw[aJ zft];refine zwp (zwp ?_);have e1:(hh.push (yu us)).objs.size=hh.objs.size+1:=Heap.size_push _ _;show R (.ok (.ret (.ref (hh.push (yu us)).objs.size))) _;rw[e1];exact h
structure zeB(K:Frag)(C f:Addr):Prop where
 ob:zhH K C=true
 init:findIn K (.ref C) "__init__"=some (some (.ref f))
 fn:isFn K (.ref f)=true
 call:specialIn K (.ref C) "__call__"=some (some (.builtin "type.__call__"))
 typ:instIn K (.ref C) (.type "type")=some true
 kp:keepIn K (.ref C)=true
theorem zhr{R:Result->Shared->Prop}(X:K.In s.heap)(m:zeB K C f)(hl:us.length<=sizeLine)
  (h:codeAny (model prog w) (A.under (.builtin "type.__call__" ⟨.ref C::us,[]⟩)) (.call (.ref f) ⟨.ref (s.heap.objs.size+1)::us,[]⟩) (InitBack (s.heap.objs.size+1) R)
   { s with heap:=(s.heap.push (yu us)).push (wO C s.heap.objs.size) }):codeAny (model prog w) A (.call (.ref C) ⟨us,[]⟩) R s:=by
 have mo:=zdT X m.ob;have LC:=looks_specialIn (M:=model prog w) X m.call;have LT:=looks_instIn (M:=model prog w) X m.typ;obtain⟨hh,g,d,t,os⟩:=s;obtain⟨nm,q,N,bs,bm,sn,sub,ab,col,dd,k0,k1,k2,k3,k5,hC,b1,b2,b3,b4⟩:=mo.ob;refine codeAny_of_own ?_;show wpOwn _ _ _ (callAny (.ref C) ⟨us,[]⟩) _ _ _;unfold callAny;refine wpOwn_of_wpAny ?_;dsimp only;refine zwb (wpAny_load hC ?_);dsimp only;unfold callAny.viaDunder;refine zwb (LC.at ?_);dsimp only;rw[show bindSpecial (.builtin "type.__call__") (.ref C)=pure (.builtin "type.__call__",[.ref C]) from by with_unfolding_all rfl]
 refine zwb (zwp ?_);dsimp only;rw[show callAny.plainCallee (.builtin "type.__call__")=pure true from by with_unfolding_all rfl]
 refine zwb (zwp ?_);rw[aK rfl];refine zwp ⟨rfl,?_⟩;refine codeAny_call_builtin_code (Code.quiet_builtin _ (by symm)) ?_
 have k1':builtinKind "type.__call__"=some .slot:=by symm
 have k2':splitId "type.__call__"=some ("type","__call__"):=by symm
 simp only[checkBuiltinCall,k1',k2',cons_append,nil_append];refine zwb (LT.at ?_);rw[aJ (by decide)]
 have k3':Manifest.signature? "type.__call__"=some { machinery:=.hand,full:="wrapper __call__",short:="",receiver:=.self,params:=[] }:=by with_unfolding_all rfl
 rw[k3'];dsimp only;rw[show Bind.checkArgs "type.__call__" { machinery:=.hand,full:="wrapper __call__",short:="",receiver:=.self,params:=[] } { pos:=Value.ref C::us }=pure () from rfl];refine zwp (codeAny_builtin (b:=Builtin.«type.__call__») rfl ?_);unfold Builtin.«type.__call__»;dsimp only;rw[aJ (show ¬(Value.ref C==Value.type "type")=true from fun z=>by cases z)]
 refine zwb (wpAny_mroOf_exc hC ?_);rw[aJ (show ¬(Value.ref C::bm).isEmpty=true from zft)];refine zwb (wpAny_madeBy_exc hC ?_);dsimp only;refine zwb (zwp (zwb (wpAny_holding (wpAny_call (zi5 mo hl ?_)))));dsimp only at h |-;have kp:∀b o,hh.get? b=some o->((hh.push (yu us)).push (wO C hh.objs.size)).get? b=some o:=fun b o e=>zgp _ (zgp _ e);have X2:K.In ((hh.push (yu us)).push (wO C hh.objs.size)):=X.keeps kp;have eo:((hh.push (yu us)).push (wO C hh.objs.size)).get? (hh.objs.size+1)=some (wO C hh.objs.size):=by
  have:=zgs (hh.push (yu us)) (o:=wO C hh.objs.size) rfl
  rwa [Heap.size_push] at this
 have LI:=looks_findIn (M:=model prog w) X2 m.init;have LB:=bind_fn (M:=model prog w) X2 (.ref (hh.objs.size+1)) (beq_iff_eq.mp m.fn);generalize (hh.push (yu us)).push (wO C hh.objs.size)=h2 at h kp X2 eo LI LB |-;unfold isInstance;have LTy:Looks (model prog w) h2 (typeOf (.ref (hh.objs.size+1))) (.ref C):=(Looks.ld eo).andThen .now;refine zwb (zwb (LTy.at (wpAny_isSubtype_exc (kp _ _ hC) ?_)));rw[show(Value.ref C::bm).contains (.ref C)=true by rw[contains_cons,beq_self_eq_true,Bool.true_or],aJ (by decide)]
 refine zwb (wpAny_holding ?_);unfold callSpecial? specialOf;refine zwb (zwb (LTy.at (LI.at ?_)));dsimp only;refine wpAny_holding (zwb (LB.at ?_));dsimp only;refine zwb (wpAny_call (codeAny_mono h fun r s' hq=>?_));cases r with
 | error e=>exact hq
 | ok fl=>
  cases fl with
  | ret u=>
   obtain⟨rfl,hq⟩:=hq;refine zwp ?_;dsimp only;rw[aJ (by decide)]
   exact zwp hq
  | next=>exact False.elim hq
  | brk=>exact False.elim hq
  | cont=>exact False.elim hq
def zbC:List Value:=[.type "ValueError",.type "Exception",.type "BaseException",.type "object"]
def wU:List Value->Bool
 | .ref _::l=>wU l
 | l=>l==zbC
def zk3(K:Frag)(C:Addr):Bool:=(clsIn K C).any fun cd=>cd.hasDict&&wU cd.mro
variable {x:Addr}
theorem zeT{M:Model}{Q:Option Unit×Unit->Shared->Prop}{self:Value}:∀(l:List Value),wU l=true->(Q (some (),()) s)->
  wpAny M A (forIn l ((none,()):Option Unit×Unit) fun c __s=>
    match c with
    | Value.type n=>
     if (n=="_thread._local")=true then do
      rule "setattr.thread-local-passed-by"
      pure (ForInStep.yield (none,()))
     else
      if (n=="_pickle.Pickler"||n=="_pickle.Unpickler")=true then do
       rule "setattr.pickle-types-passed-by"
       pure (ForInStep.yield (none,()))
      else do
       let own <- classOwn c (Str.ofString "__setattr__")
       if own.isSome=true then
         have __do_jp:=fun (__r:Unit)=>pure (ForInStep.done (some (),()));
         if (!isObjects n (Str.ofString "__setattr__").toString)=true then do
          rule "setattr.built-in-override"
          let tn <- PySem.typeNameOf self
          let __r <-
           raiseErrorMade "TypeError"
             (toString "can't apply this "++toString (Str.ofString "__setattr__").toString++toString " to " ++
               toString tn ++
              toString " object")
          __do_jp __r
         else __do_jp ()
        else pure (ForInStep.yield (none,()))
    | x=>pure (ForInStep.yield (none,()))) Q E s:=by
 intro l;have o1:classOwn (.type "ValueError") (Str.ofString "__setattr__")=pure none:=by with_unfolding_all rfl
 have o2:classOwn (.type "Exception") (Str.ofString "__setattr__")=pure none:=by with_unfolding_all rfl
 have o3:classOwn (.type "BaseException") (Str.ofString "__setattr__")=pure none:=by with_unfolding_all rfl
 have o4:=F.own_object_setattr;induction l with
 | nil=>intro h;exact absurd h (by decide)
 | cons c l ih=>
  intro h q;rw[List.forIn_cons];cases c with
  | ref a=>exact zwb (zwp (ih h q))
  | type n=>
   have e:Value.type n::l=zbC:=by
    have:(Value.type n::l==zbC)=true:=h
    exact eq_of_beq this
   unfold zbC at e;injection e with e1 e2
   injection e1 with e1
   subst e1 e2;have n1:∀n:String,n∈["ValueError","Exception","BaseException","object"]->(n=="_thread._local")=false/\(n=="_pickle.Pickler"||n=="_pickle.Unpickler")=false:=by symm
   simp only[List.forIn_cons,n1 "ValueError" (by decide),n1 "Exception" (by decide),n1 "BaseException" (by decide),n1 "object" (by decide),o1,o2,o3,o4,Bool.false_eq_true,if_false]
   refine zwb (zwb (zwp ?_));refine zwp ?_;refine zwb (zwb (zwp ?_));refine zwp ?_;refine zwb (zwb (zwp ?_));refine zwp ?_;refine zwb (zwb (zwp ?_));rw[aK (show(some (Value.builtin "object.__setattr__")).isSome=true from rfl),aJ (show ¬(!isObjects "object" (Str.ofString "__setattr__").toString)=true by unfold isObjects;simp)]
   exact zwp (zwp q)
  | _=>exact absurd h (by simp [wU,zbC])
theorem zjj{α : Type}{M:Model}{A:Around}{t t':Sem α}{Q : α->Shared->Prop}{E:VSP}{s:Shared}(e:t=t')(h:wpAny M A t' Q E s):wpAny M A t Q E s:=e ▸ h
structure qQ(K:Frag)(C:Addr):Prop where
 t:zk3 K C=true
 sa:findIn K (.ref C) "__setattr__"=some (some (.builtin "object.__setattr__"))
 ob:mroIn K C (.type "object")=some true
theorem qQ.cd(m:qQ K C):∃cd,clsIn K C=some cd/\cd.hasDict=true/\wU cd.mro=true:=by
 have:=m.t
 unfold zk3 at this;cases e:clsIn K C with
 | none=>rw[e] at this;cases this
 | some cd=>
  rw[e] at this;have h2:(cd.hasDict&&wU cd.mro)=true:=this;exact⟨cd,rfl,(Bool.and_eq_true _ _ ▸ h2).1,(Bool.and_eq_true _ _ ▸ h2).2⟩
theorem zhV{oe:Obj}{vs:Array Value}{name:Str}{v:Value}{Q:Unit->Shared->Prop}(X:K.In s.heap)(m:qQ K C)(ha:findIn K (.ref C) name=some none)(he:s.heap.get? x=some oe)(hc:oe.cls=.ref C)(hd:oe.data=.fields vs)(hn:oe.dict=none)
  (h:∀h':Heap,(∀b o,b≠x->s.heap.get? b=some o->h'.get? b=some o)->h'.get? x=some { oe with dict:=some s.heap.objs.size }->h'.Ns1 s.heap.objs.size (fun y=>if y=name then some v else none)->Q () { s with heap:=h',toks:=s.toks+2 }) :
  wpAny (model prog w) A (setAttr (.ref x) name v) Q E s:=by
 obtain⟨cd,hcd,hdict,hmro⟩:=m.cd;have IA:InstAt s.heap x oe C none:=⟨he,hc,by unfold notCls;rw[hd],by rw[hn];trivial⟩
 refine set_plain X IA m.sa ?_;have LO:=looks_mroIn (M:=model prog w) X m.ob;have LF:=looks_findIn (M:=model prog w) X ha;have LCd:=looks_clsIn (M:=model prog w) X hcd;have LTy:Looks (model prog w) s.heap (typeOf (.ref x)) (.ref C):=hc ▸ (Looks.ld he).andThen .now;obtain⟨hh,g,d,t,os⟩:=s;dsimp only at *;refine codeAny_call_builtin F.slot_object_setattr.plain F.entry_object_setattr ?_;have k1:=F.bk_object_setattr;have k2:=F.sp_object_setattr;simp only[checkBuiltinCall,k1,k2];refine zwb ?_;unfold isInstance;refine zwb (LTy.at ?_);refine LO.at ?_;rw[aJ (by decide)]
 have k3:=F.args_object_setattr_3 (.ref x) (.str name t) v;refine zjj k3 (zwp ?_);unfold Builtin.«object.__setattr__»;rw[aJ (show ¬(!(⟨[Value.ref x,Value.str name t,v],[]⟩:Args).kw.isEmpty)=true from zft)];dsimp only;unfold refuseIfOverridden;refine zwb (zwb (LTy.at (zwb ?_)));unfold mroOf;refine zwb (LCd.at (zwp (zwb (zeT _ hmro ?_))));dsimp only;refine zwp (zwb ?_);unfold attrName;refine zwp (zwb (LTy.at (zwb (LF.at (zwb ?_)))));unfold storeTaker?;refine zwp ?_;dsimp only;unfold storeInOwnDict ownStreamTells;refine zwb (zwp ?_);rw[aJ (show ¬(Value.ref C==Value.type "module")=true from fun z=>by cases z)]
 unfold ownDictForStores instanceDict;refine zwb (zwb (wpAny_loadPart he ?_));rw[hc];dsimp only;refine zwb (LCd.at ?_);rw[hdict,hn,hd];dsimp only;rw[aJ (by decide),aJ (show ¬(!true||!typeHasDict (Value.ref C))=true from zft)]
 refine zwb (wpAny_alloc (zwb (wpAny_update (zgp _ he) ?_)));unfold dictMade;refine zwp ?_;dsimp only;unfold storeInDict newKeyGuard;refine zwb (zwp (zwb ?_));have xlt:x≠hh.objs.size:=ne_of_lt (aI he);have u1:((hh.push { cls:=.type "dict",data:=.dict #[] }).update x fun o=>{ cls:=o.cls,dict:=some hh.objs.size,data:=o.data,slots:=o.slots }).get? hh.objs.size=some { cls:=.type "dict",data:=.dict #[] }:=by
  rw[Heap.get?_update_ne _ _ _ _ (Ne.symm xlt)];exact zgs hh rfl
 have n1:((hh.push { cls:=.type "dict",data:=.dict #[] }).update x fun o=>{ cls:=o.cls,dict:=some hh.objs.size,data:=o.data,slots:=o.slots }).Ns1 hh.objs.size (fun _=>none):=Heap.Ns1.of_empty ⟨_,#[],_,u1,rfl,(fun e he=>absurd he (by simp)),fun _=>rfl⟩
 refine wpAny_nsSet1 n1 fun h' hn2 hs2=>?_;have wi:PySem.Within (fun y=>if y=name then some v else none) [name]:=fun y hy=>by
  by_cases e:y=name
  ·rw[e];exact List.mem_singleton.mpr rfl
  ·exact absurd (aJ e) hy
 obtain⟨oD,esD,epD,hoD,hdD,hcD⟩:=hn2.count wi;refine zwb (wpAny_lookBehind hoD (by rw[hdD];exact pastItsLine_dict (le_trans hcD (by show 1<=sizeLine+1;decide))) ?_)
 refine zwp ?_;have ux:((hh.push { cls:=.type "dict",data:=.dict #[] }).update x fun o=>{ cls:=o.cls,dict:=some hh.objs.size,data:=o.data,slots:=o.slots }).get? x=some { oe with dict:=some hh.objs.size }:=
  Heap.get?_update_self _ (zgp _ he) (by unfold Obj.isFreed;rw[hd])
 refine h h' (fun b o hb e=>?_) ?_ hn2
 ·have hb2:b≠hh.objs.size:=ne_of_lt (aI e)
  rw[hs2.2 b hb2,Heap.get?_update_ne _ _ _ _ hb];exact zgp _ e
 ·rw[hs2.2 x xlt]
  exact ux
end
end L2
namespace L2
open PySem PySem.W PySem.Builtin PySem.Builtin.ObjectAttr PySem.Builtin.Getset_descriptor PySem.Spec PyProof.Rows
section
variable {prog:Program}{w:World}{A:Around}{E:VSP}{s:Shared}{K:Frag}{C D x dx:Addr}{us:List Value}
theorem ziZ{oe:Obj}{vs:Array Value}{name:Str}{v:Value}{mA:Str->Option Value}{b:Bool}{Q:VSP}(c:yU K D)(m:qQ K D)(X:K.In s.heap)(ha:findIn K (.ref D) name=some none)(he:s.heap.get? x=some oe)(hc:oe.cls=.ref D)(hd:oe.data=.fields vs)(hx:oe.dict=some dx)
  (hn:s.heap.Ns1 dx mA) (hv:mA name=some v) (hv':handedIn v=true) (h:Q v { s with toks:=s.toks+1 }):wpAny (model prog w) A (getAttr (.ref x) name b) Q E s:=by
 obtain⟨cd,hcd,hdict,hmro⟩:=m.cd;obtain⟨hh,g,dr,t,os⟩:=s;have LT:Looks (model prog w) hh (typeOf (.ref x)) (.ref D):=hc ▸ (Looks.ld he).andThen .now;have LG:=looks_findIn (M:=model prog w) X c.ga;have LN:=looks_findIn (M:=model prog w) X c.no;have LC:=looks_findIn (M:=model prog w) X ha;have LB:=looks_mroIn (M:=model prog w) X c.be;have LCd:=looks_clsIn (M:=model prog w) X hcd;unfold getAttr;refine zwb (wpAny_mkText ?_);unfold getAttrBy;dsimp only;refine wpAny_holding (zwb (LT.at (zwb (LG.at ?_))));have hne:(onTheHeap (Value.ref D)&&Value.builtin "BaseException.__getattribute__"==Value.builtin "object.__getattribute__")=false:=by
  rw[show(Value.builtin "BaseException.__getattribute__"==Value.builtin "object.__getattribute__")=false from by symm,Bool.and_false]
 dsimp only;rw[hne];rw[aJ zft];unfold getAttrByItsOwn hookBefore;rw[aK (show onTheHeap (Value.ref D)=true from rfl)];refine zwb (LN.at (zwb (wpAny_attempt (wpAny_holding ?_))));unfold callGetattribute boundAndCalled;rw[aJ (show ¬(b&&onTheHeap (Value.builtin "BaseException.__getattribute__"))=true from by rw[show onTheHeap (Value.builtin "BaseException.__getattribute__")=false from rfl,Bool.and_false];exact zft)]
 have fb:=PySem.F.attrBase_ValueError.ga;rw[fb.bind (.ref x)];refine zwb (zwp ?_);refine wpAny_call (codeAny_call_builtin fb.plain F.entry_bexc_ga ?_);have k1:builtinKind "BaseException.__getattribute__"=some .slot:=by symm
 have k2:splitId "BaseException.__getattribute__"=some ("BaseException","__getattribute__"):=by symm
 have k3:=F.args_bexc_ga (.ref x) (.str name t);simp only[checkBuiltinCall,k1,k2,cons_append,nil_append];refine zwb ?_;unfold isInstance;refine zwb (LT.at (LB.at ?_));rw[aJ (by decide)]
 refine zjj k3 (zwp ?_);unfold Builtin.«object.__getattribute__»;obtain⟨od,hod,hlk⟩:=zaz hn;have IA:InstAt hh x oe D (some od):=⟨he,hc,by unfold notCls;rw[hd],by rw[hx];exact hod⟩
 have hD:hasDictIn K D=true:=by unfold hasDictIn;rw[hcd];exact hdict
 have LFi:=looks_find (M:=model prog w) X IA (findObj_own hD ha rfl (by rw[hlk,hv]))
 rw[show slotArgs "__getattribute__" 1 { pos:=[Value.ref x,Value.str name t] }=pure (.ref x,[.str name t]) from rfl];refine zwb (zwp (zwb ?_));unfold attrName;refine zwp (zwb (LT.at (zwb (LFi.at ?_))));refine zwp ?_;show wpAny _ _ (handedOut v) _ _ _;rw[handedOut_of hv'];exact zwp h
end
end L2
namespace L2
open PySem PySem.Spec PyProof.Rows
abbrev ub(ea C:Addr)(od:Option Addr)(t:Addr):HO:=.ext fun h=>h.get? ea=some { cls:=.ref C,dict:=od,data:=.fields #[.ref t,.none,.none,.none,.bool false,.none] }
theorem zes{P:Program}{w:World}{H:Hp}{h:Heap}{ea C t:Addr}{od:Option Addr}(e:h.get? ea=some { cls:=.ref C,dict:=od,data:=.fields #[.ref t,.none,.none,.none,.bool false,.none] }):yB P w H h ea (ub ea C od t):=
 ⟨e,⟨_,e⟩,fun g1 g2 q k=>k _ q⟩
section
variable {X:Cx}{pins:PnL}{σ:St}{H:Hp}{s:Shared}{x C t:Addr}{f:Str}{y:V}{u:Value}{A:Around}{E:VSP}
theorem jP{od:Option Addr}(I:Inv X pins σ H s)(e:H x=some (ub x C od t)):s.heap.get? x=some { cls:=.ref C,dict:=od,data:=.fields #[.ref t,.none,.none,.none,.bool false,.none] }:=(I.hok x _ e).1
theorem zhW{Q:Unit->Shared->Prop}(I:Inv X pins σ H s)(e:H x=some (ub x C none t))(m:qQ X.K C)(n:yJ X.K C f)(ry:zW y u)
  (h:∀dx s',H dx=none->Inv X pins σ (upd (upd H x (ub x C (some dx) t)) dx (.xd [(f,y)])) s'->Q () s'):wpAny (model X.prog X.w) A (setAttr (.ref x) f u) Q E s:=by
 have hx:=jP I e;have hsz:H s.heap.objs.size=none:=I.hok.fresh (aF _);refine zhV I.kIn m n hx rfl rfl rfl fun h' k e1 ns=>h s.heap.objs.size _ hsz ?_;have I1:Inv X pins σ (upd H x (ub x C (some s.heap.objs.size) t)) { s with heap:=h',toks:=s.toks+2 }:=
  I.write (by rw[e];exact True.intro) (.inl rfl) k ⟨_,e1⟩ (zes e1)
 have nx:s.heap.objs.size≠x:=Ne.symm (ne_of_lt (aI hx));refine I1.track (by rw[zi nx];exact hsz) ⟨_,ns,fun g=>?_⟩ (fun v e2 _ _=>?_) (fun z=>?_) (fun z c e2 z2=>?_) fun p hp z=>?_
 ·show uE (List.lookup g [(f,y)]) (if g=f then some u else none)
  by_cases q:g=f
  ·subst q;rw[lookup_cons_self,aK rfl];exact ry
  ·rw[lookup_cons,beq_eq_false_iff_ne.mpr q,aJ q];trivial
 ·exact absurd (aI e2) (Nat.not_lt.mpr I.sz)
 ·have:=I.lt
  rw[z] at this;exact absurd this (lt_irrefl _)
 ·obtain⟨v,oc,hoc,_⟩:=I.cell z c e2
  rw[z2] at hoc;exact absurd (aI hoc) (lt_irrefl _)
 ·have:=(I.pin p hp).1
  rw[z] at this;exact absurd (aI this) (lt_irrefl _)
inductive zlvJ(K:Frag)(f:Str)(D:L2.vc)(σ:St)(y:V)(x:V)(H2:Hp):Prop|mk(a C t:Addr):x=.ref a->H2 a=some (ub a C none t)->qQ K C->yJ K C f->(∀dx,H2 dx=none->D.nx σ (upd (upd H2 a (ub a C (some dx) t)) dx (.xd [(f,y)])))->zlvJ K f D σ y x H2
def zlv(K:Frag)(ta tv:TE)(f:Str):TS:=fun D σ H=>tv σ H fun y H1=>ta σ H1 fun x H2=>zlvJ K f D σ y x H2
variable {o e value:Expr}{pos pos' tpos:Pos}{ta tv:TE}
theorem zif(ha:PE X o ta)(hv:PE X value tv)(hs:swapsWith value (some (.Attribute o f pos')) pos.line X.env=pure false):PS X (.Assign [.Attribute o f pos'] value pos) (zlv X.K ta tv f):=by
 exists ?_;intro pins s σ H D I h;refine plainObj_wpAny_Assign_Attribute (thn (hv pins s σ H _ I h) fun u s1 ⟨y,H1,I1,ry,q⟩=>thn (ha pins s1 σ H1 _ I1 q) fun ov s2 ⟨x,H2,I2,rx,a,C,t,ex,ea,c,n,q2⟩=>?_) hs;subst ex;obtain rfl:ov=Value.ref a:=rx;exact zhW I2 ea c n ry fun dx s3 hdx I3=>⟨σ,_,I3,q2 dx hdx⟩
def zfK(C:Addr)(sp:Sp)(E:XK)(t:TA):TE:=fun σ H Q=>t σ H fun vs H1=>vs.length<=sizeLine/\∀x tu,H1 x=none->H1 tu=none->tu≠x->sp (.ref x::vs) (upd H1 x (ub x C none tu)) (fun v H2=>v=.non/\Q (.ref x) H2) E
end
section
variable {X:Cx}{CX:CXT}{k:Nat}{f C:Addr}{fd:FuncData}{ps:List Str}{sp:Sp}{E:XK}{x:Str}{p pos:Pos}{e:Expr}{es:List Expr}{t:TA}
theorem Inv.madeX{pins:PnL}{σ : St}{H:Hp}{s:Shared}{us:List Value}(I:Inv X pins σ H s):Inv X pins σ (upd H (s.heap.objs.size+1) (ub (s.heap.objs.size+1) C none s.heap.objs.size)) { s with heap:=(s.heap.push (yu us)).push (wO C s.heap.objs.size) }:=by
 refine I.laid (fun b u e=>zgp _ (zgp _ e)) (le_succ _) (zes ?_)
 have:=zgs (s.heap.push (yu us)) (o:=wO C s.heap.objs.size) rfl
 rwa [Heap.size_push] at this
theorem zeM{pins:PnL}{σ : St}{H:Hp}{s:Shared}{Q:VK}{us:List Value}{vs:List V}(M:zeB X.K C f)(F:zC X.prog X.w X.K X.mg X.base CX k f fd ps sp)(hr:yn (k+1) X.A)(hb:z0 X.K fd ps [])
  (hx:xG CX X E) (I:Inv X pins σ H s) (r:zV vs us) (hl:vs.length<=sizeLine)
  (h:∀x tu,H x=none->H tu=none->tu≠x->sp (.ref x::vs) (upd H x (ub x C none tu)) (fun v H2=>v=.non/\Q (.ref x) H2) E) :
  wpAny (model X.prog X.w) X.A (call (.ref C) us) (EP X pins σ Q) X.xe s:=by
 have hq:=h (s.heap.objs.size+1) s.heap.objs.size (I.hok.fresh (le_succ _)) (I.hok.fresh (aF _)) (ne_of_lt (lt_succ_self _));have I2:=Inv.madeX (C:=C) (us:=us) I;have r2:zV (V.ref (s.heap.objs.size+1)::vs) (Value.ref (s.heap.objs.size+1)::us):=.cons rfl r;have hl2:(Value.ref (s.heap.objs.size+1)::us++[]).length=ps.length:=by
  have e:=r2.length;rw[F.len _ _ _ _ hq] at e;rw[append_nil];exact e.symm
 have hb2:=hb _ (Value.ref (s.heap.objs.size+1)::us) I2.kIn hl2;rw[append_nil] at hb2;refine wpAny_call (zhr I.kIn M (by rw[<- r.length];exact hl) (codeAny_mono (F.run _ X.stack _ _ ⟨Value.ref (s.heap.objs.size+1)::us,[]⟩ (Value.ref (s.heap.objs.size+1)::us) _ _ E (hr.make C us [])
  (I2.env0.make C us []) hb2 r2 hq) fun r s' hq'=>?_))
 cases r with
 | error e=>exact hx pins σ _ _ e s' I2 hq'
 | ok fl=>
  cases fl with
  | ret u=>
   obtain⟨v,H',I3,rv,ev,q3⟩:=I2.after hq';subst ev;exact⟨rv,⟨V.ref (s.heap.objs.size+1),H',I3,rfl,q3⟩⟩
  | next=>exact False.elim hq'
  | brk=>exact False.elim hq'
  | cont=>exact False.elim hq'
theorem wW(M:zeB X.K C f)(F:zC X.prog X.w X.K X.mg X.base CX k f fd ps sp)(hr:yn (k+1) X.A)(hg:Gl X x)(hm:X.mg x=some (.ref C))(hb:z0 X.K fd ps [])(hx:xG CX X E)
  (ha:PA X (e::es) t) (hdb:(x==("__debug__" : Str))=false:=by decide) (he:starEach (e::es) X.env=(false,eval e X.env)::starEach es X.env:=by rfl) (hpl:(backTo pos (starEach es X.env)).any (·.1)=false:=by rfl) :
  PE X (.Call (.Name x p) (e::es) [] pos) (zfK C sp E t):=by
 exists ?_;intro pins s σ H Q I h;refine wpAny_Call_Name_kw (wa I hg hm ?_ hdb);refine callWith_K (h₀:=X.base) I.ok.mod.kin M.kp (thn (ha pos pins s σ H _ I h) fun us s1 ⟨vs,H1,I1,r,hl,q⟩=>⟨I1.kIn,?_⟩) he hpl;exact zeM M F hr hb hx I1 r hl q
def drop(H:Hp)(a:Addr):Hp:=fun b=>if b=a then none else H b
theorem zfi{H:Hp}{a:Addr}:drop H a a=none:=by unfold drop;rw[aK rfl]
theorem wI{H:Hp}{a b:Addr}(h:b≠a):drop H a b=H b:=by unfold drop;rw[aJ h]
theorem vZ{H:Hp}{a b:Addr}{u:HO}(h:drop H a b=some u):b≠a/\H b=some u:=by
 unfold drop at h;split at h
 ·cases h
 ·exact⟨‹_›,h⟩
theorem HOk.drop{P:Program}{w:World}{H:Hp}{h:Heap}{a:Addr}{φ : Heap->Prop}(x:HOk P w H h)(ha:H a=some (.ext φ)):HOk P w (drop H a) h:=fun b u e=>by
 obtain⟨hb,e⟩:=vZ e;exact(x b u e).stay (fun _ _ _ q=>q) (fun c q=>by rw[wI (fun z=>by rw[z,ha] at q;cases q)];exact q) fun c xs q=>by rw[wI (fun z=>by rw[z,ha] at q;cases q)];exact q
end
section
variable {X:Cx}{pins:PnL}{σ:St}{H:Hp}{s:Shared}{ea C t:Addr}{od:Option Addr}{M:Model}{E:VSP}
end
section
variable {X:Cx}{E:XK}{pos:Pos}{e:Expr}{te:TE}
variable {P:Program}{w:World}{K:Frag}{mg:Str->Option Value}{base:Heap}{N:List Str}{qual:Str}{scope:Scope}{f:Addr}{cd:Value}{A:Around}{outer:List Env}{s:Shared}{H:Hp}{E':XK}
variable {x:Str}{C:Addr}{B Bn newId nid initId inN:String}{bm bmN:List Value}{np:Pos}{es:List Expr}{t:TA}
end
section
variable {X:Cx}{pins:PnL}{σ:St}{H:Hp}{s:Shared}{M:Model}{A:Around}{E:VSP}{i:Nat}{n:Str}{pos:Pos}
variable {ea:Addr}
variable {st b₀:Stmt}{suite:List Stmt}{c:Str}{np hpos:Pos}{C:Addr}{tb:XK->TS}{ts:TS}{ok:Value->Prop}
end
section
variable {X:Cx}{pins:PnL}{σ:St}{e:Expr}{es:List Expr}{t:TA}{E:XK}{x:Str}{p pos:Pos}{k:Nat}{f C:Addr}{fd:FuncData}{ps:List Str}{sp:Sp}{dvs:List V}{ds:List Value}
abbrev jl(C:Addr)(od:Option Addr)(t:Addr)(tb:Value):Obj:={ cls:=.ref C,dict:=od,data:=.fields #[.ref t,tb,.none,.none,.bool false,.none] }
def TrS(h base:Heap)(e C:Addr)(od:Option Addr)(t:Addr):Prop:=∃(tb:Addr) (oT:Obj) (ts:Array Value),h.get? e=some (jl C od t (.ref tb))/\base.get? tb=none/\tb≠e/\h.get? tb=some oT/\oT.data=.fields ts/\ts[3]?=some .none
end
section
variable {M:Model}{A:Around}{E:VSP}{s:Shared}{base:Heap}{env:Env}{outer:List Env}{L e C t:Addr}{od:Option Addr}{tb0 head:Value}{hn:Bool}{Q:Unit->Shared->Prop}
theorem zhu(fr:A.frames=some (env::outer))(fl:s.heap.FunFrames base (env::outer))(hfl:env.frame=some L)(he:s.heap.get? e=some (jl C od t tb0))(hst:base.StaysIn s.heap)(hb:base.get? e=none)
  (q:∀h':Heap,base.StaysIn h'->h'.FunFrames base (env::outer)->TrS h' base e C od t->s.heap.UpToSlots h'->Q () { s with heap:=h' }) :
  wpAny M A (do
   let a <- frameOf env
   let pl <- entryPlaceOf L hn
   let b <- EntryCells.newEntry head a Value.none (rawInt L) Value.none pl
   setField (Value.ref e) 1 b) (fun _ s'=>wpAny M A (setFlight (Value.ref e) none) Q E s') E s:=by
 refine zwb (wpAny_frameOf_fun fr fl hfl fun h1 so=>?_);obtain⟨sz,oth,sl⟩:=so;refine zwb (wpAny_entryPlaceOf fun pl hpl=>?_);unfold EntryCells.newEntry newFields;have eS:e∉List.filterMap (fun x:Env=>x.frame) (env::outer):=fun z=>by
  obtain⟨_,o,ho,hd⟩:=fl.mem z;rw[he] at ho;cases ho;exact hd _ rfl
 have e1:h1.get? e=some (jl C od t tb0):=(oth e eS).trans he;have lp:(if pl.isEmpty=true then List.replicate 6 Value.none else pl).length=6:=by
  rcases hpl with rfl|⟨a,b,c,d,c9,b10,_,rfl⟩ <;> rfl
 have sz11:([head,Value.ref L,Value.none,rawInt L,Value.none]++if pl.isEmpty=true then List.replicate 6 Value.none else pl).length=11:=by
  rw[aG,lp];rfl
 have hL:A.frames=some (env::outer):=fr;generalize hcells:([head,Value.ref L,Value.none,rawInt L,Value.none]++if pl.isEmpty=true then List.replicate 6 Value.none else pl)=cells at sz11 |-
 have c3:cells[3]?=some (rawInt L):=by rw[<- hcells];rfl
 refine zwb (wpAny_newObj_type ?_ (by show sizeOk (Data.fields cells.toArray);unfold sizeOk;simp only[size_toArray,sz11];decide))
 dsimp only;have hlt:e<h1.objs.size:=aI e1;have ne:h1.objs.size≠e:=ne_of_gt hlt;refine wpAny_setField (zgp _ e1) rfl (by show 1<6;decide) ?_
 have x2:((h1.push { cls:=.type "traceback",data:=.fields cells.toArray }).update e (Obj.mapFields fun x=>x.setIfInBounds 1 (.ref h1.objs.size))).get? e=some (jl C od t (.ref h1.objs.size)):=
  Heap.get?_update_self _ (zgp _ e1) rfl
 have x3:((h1.push { cls:=.type "traceback",data:=.fields cells.toArray }).update e (Obj.mapFields fun x=>x.setIfInBounds 1 (.ref h1.objs.size))).get? h1.objs.size=some { cls:=.type "traceback",data:=.fields cells.toArray }:=by
  rw[Heap.get?_update_ne _ _ _ _ ne];exact zgs h1 rfl
 have x4:∀b o,b≠e->h1.get? b=some o->((h1.push { cls:=.type "traceback",data:=.fields cells.toArray }).update e (Obj.mapFields fun x=>x.setIfInBounds 1 (.ref h1.objs.size))).get? b=some o:=fun b o hbe hbo=>by
  rw[Heap.get?_update_ne _ _ _ _ hbe];exact zgp _ hbo
 generalize (h1.push { cls:=.type "traceback",data:=.fields cells.toArray }).update e (Obj.mapFields fun x=>x.setIfInBounds 1 (.ref h1.objs.size))=h2 at x2 x3 x4 |-;unfold setFlight;refine zwb (wpAny_field (x:=.ref h1.objs.size) x2 rfl rfl ?_);rw[aK (show(Value.ref h1.objs.size != Value.none)=true from rfl)];refine wpAny_setField x3 rfl (by rw[size_toArray,sz11];decide) ?_
 show Q () { s with heap:=h2.update h1.objs.size (Obj.mapFields fun x=>x.setIfInBounds 3 Value.none) }
 have y1:∀b,b≠h1.objs.size->(h2.update h1.objs.size (Obj.mapFields fun x=>x.setIfInBounds 3 Value.none)).get? b=h2.get? b:=fun b hb'=>Heap.get?_update_ne _ _ _ _ hb';have y2:(h2.update h1.objs.size (Obj.mapFields fun x=>x.setIfInBounds 3 Value.none)).get? h1.objs.size=some { cls:=.type "traceback",data:=.fields (cells.toArray.setIfInBounds 3 .none) }:=Heap.get?_update_self _ x3 rfl;have kp:∀b o,s.heap.get? b=some o->(∀vs,o.data≠.fields vs)->∃sl,(h2.update h1.objs.size (Obj.mapFields fun x=>x.setIfInBounds 3 Value.none)).get? b=some { o with slots:=sl }:=fun b o hbo hd=>by
  obtain⟨sl',hs'⟩:=sl b o hbo;have n1:b≠h1.objs.size:=ne_of_lt (aI hs');have n2:b≠e:=fun z=>by rw[z,he] at hbo;cases hbo;exact hd _ rfl
  exact⟨sl',by rw[y1 b n1];exact x4 b _ n2 hs'⟩
 refine q _ (fun b o hbo=>?_) (fl.of_keeps fun b o hbo hd=>?_) ?_ kp
 ·have n0:b∉List.filterMap (fun x:Env=>x.frame) (env::outer):=fun z=>by
   rw[(fl.mem z).1] at hbo;cases hbo
  have hs':=(oth b n0).trans (hst b o hbo);have n1:b≠h1.objs.size:=ne_of_lt (aI hs');have n2:b≠e:=fun z=>by rw[z,hb] at hbo;cases hbo
  rw[y1 b n1];exact x4 b o n2 hs'
 ·obtain⟨sl',hs'⟩:=kp b o hbo hd
  exact⟨_,hs',rfl⟩
 ·exists h1.objs.size,_,_,(by rw[y1 e (Ne.symm ne)];exact x2),?_,ne,y2,rfl,?_
  ·cases z:base.get? h1.objs.size with
   | none=>rfl
   | some o=>
    have:=aI (hst _ o z)
    rw[<- sz] at this;exact absurd this (lt_irrefl _)
  ·rw[Array.getElem?_setIfInBounds_self_of_lt (by rw[size_toArray,sz11];decide)]
theorem zg3(fr:A.frames=some (env::outer))(fl:s.heap.FunFrames base (env::outer))(hfl:env.frame=some L)(hst:base.StaysIn s.heap)(hb:base.get? e=none)
  (he:s.heap.get? e=some (jl C od t .none)\/TrS s.heap base e C od t)
  (q:∀h':Heap,base.StaysIn h'->h'.FunFrames base (env::outer)->TrS h' base e C od t->s.heap.UpToSlots h'->Q () { s with heap:=h' }) :
  wpAny M A (noteFrame (.ref e) env) (fun _ s'=>wpAny M A (setFlight (.ref e) none) Q E s') E s:=by
 unfold noteFrame;rw[hfl];dsimp only;rcases he with he|⟨tb,oT,ts,h1,h2,h3,h4,h5,h6⟩
 ·refine zwb (wpAny_field (x:=Value.none) he rfl rfl ?_)
  rw[aJ (show ¬(Value.none != Value.none)=true by decide)]
  exact zhu fr fl hfl he hst hb q
 ·refine zwb (wpAny_field (x:=.ref tb) h1 rfl rfl ?_)
  rw[aK (show(Value.ref tb != Value.none)=true from rfl)];refine zwb (wpAny_field (x:=Value.none) h4 h5 h6 ?_);rw[aJ (show ¬(Value.none==rawInt (L:Nat))=true from fun z=>by cases z)]
  have l3 : 3<ts.size:=by
   have:=(Array.getElem?_eq_some_iff.mp h6).1
   exact this
  refine zwb (wpAny_setField h4 h5 l3 ?_);have z1:∀b,b≠tb->(s.heap.update tb (Obj.mapFields fun x=>x.setIfInBounds 3 Value.none)).get? b=s.heap.get? b:=fun b hb'=>Heap.get?_update_ne _ _ _ _ hb';have up:s.heap.UpToSlots (s.heap.update tb (Obj.mapFields fun x=>x.setIfInBounds 3 Value.none)):=fun b o hbo hd=>by
   have n:b≠tb:=fun z=>by rw[z,h4] at hbo;cases hbo;exact hd _ h5
   exact⟨o.slots,by rw[z1 b n];exact hbo⟩
  refine zhu (s:={ s with heap:=s.heap.update tb (Obj.mapFields fun x=>x.setIfInBounds 3 Value.none) }) fr (fl.of_keeps fun b o hbo hd=>?_) hfl (tb0:=.ref tb) (by rw[z1 e (Ne.symm h3)];exact h1) (fun b o hbo=>?_) hb fun h' a1 a2 a3 a4=>q h' a1 a2 a3 (up.trans a4)
  ·obtain⟨sl,hs⟩:=up b o hbo hd
   exact⟨_,hs,rfl⟩
  ·have n:b≠tb:=fun z=>by rw[z,h2] at hbo;cases hbo
   show(s.heap.update tb (Obj.mapFields fun x=>x.setIfInBounds 3 Value.none)).get? b=some o;rw[z1 b n];exact hst b o hbo
def FlS(B:Heap)(l:List Env)(e C:Addr)(od:Option Addr)(t:Addr)(h:Heap):Prop:=B.StaysIn h/\B.get? e=none/\h.FunFrames B l/\TrS h B e C od t
structure qU(P:Program)(w:World)(outer:List Env)(H:Hp)(s:Shared)(C:Addr)(od:Option Addr)(t:Addr)(H':Hp)(ea:Addr)(s':Shared):Prop where
 os:s'.os=s.os
 bare:AllBare s'.gens
 un:Un (frs outer) [] H H' s.heap s'.heap
 hok:HOk P w H' s'.heap
 nt:H' ea=none
 fly:∃B,FlS B outer ea C od t s'.heap/\(∀b u,H' b=some u->∃o,B.get? b=some o)/\(∀b o,s.heap.get? b=some o->H b=none->b∉frs outer->B.get? b=some o)/\
  ∀b o,s.heap.get? b=some o->b∉frs outer->∃o',B.get? b=some o'
abbrev CXs(P:Program)(w:World):CXT:=fun outer H s E e s'=>∃ea C od t H',e=.ref ea/\qU P w outer H s C od t H' ea s'/\E (.ref C) od H'
variable {X:Cx}{pins:PnL}{σ:St}{H H':Hp}{s':Shared}{ea:Addr}
theorem zfg(I:Inv X pins σ H s)(hstk:X.stack=X.env::X.outer)(hfl:X.env.frame=some X.env.locals)(hex:X.ex=[])(hx:H ea=some (ub ea C od t))(hnew:X.H₀ ea=none):
  wpAny M X.A (leaving X.env (.ref ea)) (fun _ s''=>qU X.prog X.w X.outer X.H₀ X.s₀ C od t (drop H ea) ea s'') E s:=by
 have fr:=zaH hstk hfl;have he:=jP I hx;have fl:s.heap.FunFrames (hideAll s.heap (ea::frs X.stack)) (X.env::X.outer):=by
  have:=I.stack
  rw[hstk] at this;refine PySem.W.funFrames_hide this fun env he b hb=>?_;rw[hstk];exact mem_cons_of_mem _ (List.mem_filterMap.mpr ⟨env,he,hb⟩)
 have fr0:=I.ok.frames;rw[hstk] at fr0;have neL:∀b o,X.s₀.heap.get? b=some o->b≠X.env.locals:=fun b o e=>ne_of_lt (lt_of_lt_of_le (aI e) I.ok.above);have noEx:∀b:Addr,b∉X.ex:=fun b=>by rw[hex];simp
 have inB:∀b o,s.heap.get? b=some o->b≠ea->b∉frs X.stack->(hideAll s.heap (ea::frs X.stack)).get? b=some o:=fun b o e n1 n=>PySem.W.hideAll_get _ e (fun z=>(List.mem_cons.mp z).elim n1 n);have trB:∀b u,H b=some u->b∉frs X.stack:=fun b u e n=>by rw[I.stkFree b n] at e;cases e
 have eaS:∀u,X.s₀.heap.get? ea=some u->False:=fun u e=>by
  have:=I.base.free ea u e hnew (noEx ea)
  rw[hx] at this;cases this
 unfold leaving;refine zwb (zg3 fr0 fl hfl (fun b o q=>PySem.W.of_hideAll _ q) (hideAll_none _ mem_cons_self) (.inl he) fun h2 x1 x2 x3 x4=>?_);have stay:∀b o,s.heap.get? b=some o->b≠ea->b∉frs X.stack->h2.get? b=some o:=fun b o e n1 n=>x1 b o (inB b o e n1 n);have x2':h2.FunFrames (hideAll s.heap (ea::frs X.stack)) X.outer:=by
  unfold Heap.FunFrames at x2;exact x2.2.2
 have nEa:∀b o,X.s₀.heap.get? b=some o->b≠ea:=fun b o e z=>by subst z;exact eaS o e
 exists I.os,I.bare,⟨fun b o e n hb _=>?_,fun b o e n hb _=>?_,fun b o e n _=>?_,fun b o e _=>?_,fun b xs e=>?_,fun b u v e=>?_,fun b ps e=>?_⟩,?_,zfi,?_
 ·refine stay b o (I.base.keep b o e n hb (noEx b)) (nEa b o e) ?_
  rw[fr];exact fun z=>(List.mem_cons.mp z).elim (neL b o e) hb
 ·obtain⟨sl,e1⟩:=I.base.slot b o e n hb (noEx b)
  obtain⟨_,o',ho',hd⟩:=I.funs.mem hb;rw[e1] at ho';cases ho';obtain⟨sl2,e2⟩:=x4 b _ e1 hd;exact⟨sl2,e2⟩
 ·rw[wI (nEa b o e)]
  exact I.base.free b o e n (noEx b)
 ·obtain⟨o1,e1⟩:=I.base.there b o e (noEx b)
  by_cases hb:b∈frs X.stack
  ·obtain⟨_,o',ho',hd⟩:=I.stack.mem hb
   obtain⟨sl2,e2⟩:=x4 b o' ho' hd;exact⟨_,e2⟩
  ·exact⟨o1,stay b o1 e1 (nEa b o e) hb⟩
 ·have e1:=I.base.tups b xs e
  rw[wI (fun z=>by rw[z,hx] at e1;cases e1)];exact e1
 ·have e1:=I.base.frzs b u v e
  rw[wI (fun z=>by rw[z,hx] at e1;cases e1)];exact e1
 ·obtain⟨more,e1⟩:=I.base.tbls b ps e
  exact⟨more,by rw[wI (fun z=>by rw[z,hx] at e1;cases e1)];exact e1⟩
 ·exact(I.hok.drop hx).sameAt fun b u o e q=>stay b o q (vZ e).1 (trB b u (vZ e).2)
 ·exists _,⟨x1,hideAll_none _ mem_cons_self,x2',x3⟩,fun b u e=>?_,fun b o e n hb=>?_,fun b o e hb=>?_
  ·obtain⟨n1,e⟩:=vZ e
   obtain⟨o,q⟩:=I.hok.rec e;exact⟨o,inB b o q n1 (trB b u e)⟩
  ·refine inB b o (I.base.keep b o e n hb (noEx b)) (nEa b o e) ?_
   rw[fr];exact fun z=>(List.mem_cons.mp z).elim (neL b o e) hb
  ·obtain⟨o1,e1⟩:=I.base.there b o e (noEx b)
   exists o1,inB b o1 e1 (nEa b o e) ?_;rw[fr];exact fun z=>(List.mem_cons.mp z).elim (neL b o e) hb
theorem zi4(I:Inv X pins σ H s)(hstk:X.stack=X.env::X.outer)(hfl:X.env.frame=some X.env.locals)(hex:X.ex=[])(F:qU X.prog X.w X.stack H s C od t H' ea s'):
  wpAny M X.A (leaving X.env (.ref ea)) (fun _ s''=>qU X.prog X.w X.outer X.H₀ X.s₀ C od t H' ea s'') E s':=by
 have fr:=zaH hstk hfl;have fr0:=I.ok.frames;rw[hstk] at fr0;obtain⟨B,fl,tr,old,olds⟩:=F.fly;have neL:∀b o,X.s₀.heap.get? b=some o->b≠X.env.locals:=fun b o e=>ne_of_lt (lt_of_lt_of_le (aI e) I.ok.above);have noEx:∀b:Addr,b∉X.ex:=fun b=>by rw[hex];simp
 have nst:∀b o,X.s₀.heap.get? b=some o->b∉frs X.outer->b∉frs X.stack:=fun b o e hb=>by
  rw[fr];exact fun z=>(List.mem_cons.mp z).elim (neL b o e) hb
 have fl':=fl;rw[hstk] at fl';unfold leaving;refine zwb (zg3 fr0 fl'.2.2.1 hfl fl'.1 fl'.2.1 (.inr fl'.2.2.2) fun h2 y1 y2 y3 x2=>?_);have x1:FlS B X.outer ea C od t h2:=⟨y1,fl'.2.1,(by unfold Heap.FunFrames at y2;exact y2.2.2),y3⟩
 have oldB:∀b o,X.s₀.heap.get? b=some o->X.H₀ b=none->b∉frs X.outer->B.get? b=some o:=fun b o e n hb=>
  old b o (I.base.keep b o e n hb (noEx b)) (I.base.free b o e n (noEx b)) (nst b o e hb)
 exists F.os.trans I.os,F.bare,⟨fun b o e n hb _=>x1.1 b o (oldB b o e n hb),fun b o e n hb _=>?_,fun b o e n _=>?_,fun b o e _=>?_,fun b xs e=>F.un.tups b xs (I.base.tups b xs e),fun b o u e=>F.un.frzs b o u (I.base.frzs b o u e),fun b ps e=>?_⟩,F.hok.sameAt fun b u o e q=>?_,F.nt,⟨B,x1,tr,oldB,fun b o e hb=>?_⟩
 ·obtain⟨sl,e1⟩:=I.base.slot b o e n hb (noEx b)
  obtain⟨sl1,e2⟩:=F.un.any e1 (I.base.free b o e n (noEx b)) (by simp)
  have hd:∀vs,o.data≠.fields vs:=by
   obtain⟨_,o',ho',hd⟩:=I.funs.mem hb;rw[e1] at ho';cases ho';exact hd
  obtain⟨sl2,e3⟩:=x2 b _ e2 hd;exact⟨sl2,e3⟩
 ·obtain⟨o',e1⟩:=I.base.there b o e (noEx b)
  exact F.un.free b o' e1 (I.base.free b o e n (noEx b)) (by simp)
 ·obtain⟨o1,e1⟩:=I.base.there b o e (noEx b)
  obtain⟨o2,e2⟩:=F.un.there b o1 e1 (by simp)
  by_cases hb:b∈frs X.stack
  ·obtain⟨_,o',ho',hd⟩:=fl.2.2.1.mem hb
   obtain⟨sl2,e3⟩:=x2 b o' ho' hd;exact⟨_,e3⟩
  ·obtain⟨o3,e3⟩:=olds b o1 e1 hb
   exact⟨o3,x1.1 b o3 e3⟩
 ·obtain⟨m1,e1⟩:=I.base.tbls b ps e
  obtain⟨m2,e2⟩:=F.un.tbls b _ e1;exact⟨m1++m2,by rw[e2,Array.append_assoc]⟩
 ·obtain⟨o3,e3⟩:=tr b u e
  have e4:=fl.1 b o3 e3;rw[q] at e4;cases e4;exact x1.1 b o e3
 ·obtain⟨o1,e1⟩:=I.base.there b o e (noEx b)
  exact olds b o1 e1 (nst b o e hb)
abbrev uU(ea C:Addr)(od:Option Addr)(t:Addr):HO:=.ext fun h=>∃tb,h.get? ea=some (jl C od t tb)
theorem zi7{P:Program}{w:World}{H:Hp}{h:Heap}{ea C t:Addr}{od:Option Addr}{tb:Value}(e:h.get? ea=some (jl C od t tb)):yB P w H h ea (uU ea C od t):=
 ⟨⟨tb,e⟩,⟨_,e⟩,fun g1 g2 ⟨tb',q⟩ k=>⟨tb',k _ q⟩⟩
variable {h5:Heap}
theorem qU.move{P:Program}{w:World}{l:List Env}{B:Heap}(F:qU P w l H s C od t H' ea s')(fl:FlS B l ea C od t s'.heap)(tr:∀b u,H' b=some u->∃o,B.get? b=some o)
  (old:∀b o,s.heap.get? b=some o->H b=none->b∉frs l->B.get? b=some o) (olds:∀b o,s.heap.get? b=some o->b∉frs l->∃o',B.get? b=some o')
  (fl5:FlS B l ea C od t h5) (up:s'.heap.UpToSlots h5):qU P w l H s C od t H' ea { s' with heap:=h5 }:=by
 exists F.os,F.bare,⟨fun b o e n hb _=>fl5.1 b o (old b o e n hb),fun b o e n hb _=>?_,F.un.free,fun b o e _=>?_,F.un.tups,F.un.frzs,F.un.tbls⟩,F.hok.sameAt fun b u o e q=>?_,F.nt,⟨B,fl5,tr,old,olds⟩
 ·obtain⟨sl,e1⟩:=F.un.slot b o e n hb (by simp)
  obtain⟨_,o',ho',hd⟩:=fl.2.2.1.mem hb;rw[e1] at ho';cases ho';obtain⟨sl2,e2⟩:=up b _ e1 hd;exact⟨sl2,e2⟩
 ·by_cases hb:b∈frs l
  ·obtain⟨_,o',ho',hd⟩:=fl5.2.2.1.mem hb
   exact⟨o',ho'⟩
  ·obtain⟨o3,e3⟩:=olds b o e hb
   exact⟨o3,fl5.1 b o3 e3⟩
 ·obtain⟨o3,e3⟩:=tr b u e
  have e4:=fl.1 b o3 e3;rw[q] at e4;cases e4;exact fl5.1 b o e3
theorem zlT{B:Heap}{l:List Env}{Q:Unit->Shared->Prop}(fl:FlS B l ea C od t s.heap)(q:∀h':Heap,FlS B l ea C od t h'->s.heap.UpToSlots h'->Q () { s with heap:=h' }):wpAny M A (setFlight (.ref ea) none) Q E s:=by
 obtain⟨f1,f2,f3,tb,oT,ts,h1,h2,h3,h4,h5,h6⟩:=fl;unfold setFlight;refine zwb (wpAny_field (x:=.ref tb) h1 rfl rfl ?_);rw[aK (show(Value.ref tb != Value.none)=true from rfl)];have l3 : 3<ts.size:=(Array.getElem?_eq_some_iff.mp h6).1;refine wpAny_setField h4 h5 l3 ?_;show Q () { s with heap:=s.heap.update tb (Obj.mapFields fun x=>x.setIfInBounds 3 Value.none) }
 have z1:∀b,b≠tb->(s.heap.update tb (Obj.mapFields fun x=>x.setIfInBounds 3 Value.none)).get? b=s.heap.get? b:=fun b hb'=>Heap.get?_update_ne _ _ _ _ hb';have up:s.heap.UpToSlots (s.heap.update tb (Obj.mapFields fun x=>x.setIfInBounds 3 Value.none)):=fun b o hbo hd=>by
  have n:b≠tb:=fun z=>by rw[z,h4] at hbo;cases hbo;exact hd _ h5
  exact⟨o.slots,by rw[z1 b n];exact hbo⟩
 obtain⟨oc,odd,da,osl⟩:=oT;have h5':da=.fields ts:=h5;subst h5';have z2:(s.heap.update tb (Obj.mapFields fun x=>x.setIfInBounds 3 Value.none)).get? tb=some ⟨oc,odd,.fields (ts.setIfInBounds 3 .none),osl⟩:=Heap.get?_update_self _ h4 rfl;refine q _ ⟨fun b o hbo=>?_,f2,f3.of_keeps fun b o hbo hd=>?_,tb,_,_,(by rw[z1 ea (Ne.symm h3)];exact h1),h2,h3,z2,rfl,?_⟩ up
 ·have n:b≠tb:=fun z=>by rw[z,h2] at hbo;cases hbo
  rw[z1 b n];exact f1 b o hbo
 ·obtain⟨sl,hs⟩:=up b o hbo hd
  exact⟨_,hs,rfl⟩
 ·rw[Array.getElem?_setIfInBounds_self_of_lt l3]
theorem qU.track{B:Heap}(I:Inv X pins σ H s)(F:qU X.prog X.w X.stack H s C od t H' ea s')(fl:FlS B X.stack ea C od t s'.heap)(old:∀b o,s.heap.get? b=some o->H b=none->b∉frs X.stack->B.get? b=some o):
  Inv X pins σ (upd H' ea (uU ea C od t)) s':=by
 have I1:Inv X pins σ H' s':=I.call' F.os F.un F.hok F.bare fun b z=>nomatch z;obtain⟨tb,oT,ts,he,_⟩:=fl.2.2.2;have nfr:ea∉frs X.stack:=fun z=>by
  obtain⟨_,o',ho',hd'⟩:=fl.2.2.1.mem z;rw[he] at ho';cases ho';exact hd' _ rfl
 have nold:∀b o,s.heap.get? b=some o->H b=none->b≠ea:=fun b o e n z=>by
  subst z
  have:=old b o e n nfr
  rw[fl.2.1] at this;cases this
 refine I1.track F.nt (zi7 he) (fun u e n hx=>?_) (fun z=>?_) (fun x c e z=>?_) fun p hp=>?_
 ·by_cases hb:ea∈X.fs
  ·obtain⟨_,o',ho',hd'⟩:=I1.funs.mem hb
   rw[he] at ho';cases ho';exact hd' _ rfl
  ·exact nold ea u (I.base.keep ea u e n hb hx) (I.base.free ea u e n hx) rfl
 ·obtain⟨m,⟨oL,es,ep,hoL,hdL,_⟩,_⟩:=I1.loc
  rw[z,he] at hoL;cases hoL;cases hdL
 ·obtain⟨v,oc,hoc,hdc⟩:=I1.cell x c e
  rw[z,he] at hoc;cases hoc;cases hdc
 ·obtain⟨q1,q2,_⟩:=I.pin p hp
  exact nold p.1 p.2 q1 q2
def zeC(X:Cx)(E:XK):Prop:=∀(pins:PnL) (σ : St) (H:Hp) (s:Shared) (ea C:Addr) (od:Option Addr) (t:Addr),Inv X pins σ H s->H ea=some (ub ea C od t)->X.H₀ ea=none->E (.ref C) od (drop H ea)->X.xe (.ref ea) s
inductive zdWJ(K:Frag)(H0:Hp)(E:XK)(x:V)(H1:Hp):Prop|mk(ea C:Addr)(od:Option Addr)(t:Addr):x=.ref ea->H1 ea=some (ub ea C od t)->yU K C->zhH K C=true->H0 ea=none->(E (.ref C) od (drop H1 ea))->zdWJ K H0 E x H1
def zdW(K:Frag)(H0:Hp)(E:XK)(te:TE):TS:=fun _ σ H=>te σ H fun x H1=>zdWJ K H0 E x H1
end
section
variable {X:Cx}{E:XK}{pos:Pos}{e:Expr}{te:TE}
theorem wv(hX:zeC X E)(hc:X.calm=true)(he:PE X e te):PS X (.Raise (some e) none pos) (zdW X.K X.H₀ E te):=by
 exists ?_;intro pins s σ H D I h;rw[arm_exec_Raise];refine zwb (wpAny_standAt ?_);unfold raiseStmt;show wpAny _ _ (do
  let xv <- (do
   let v <- eval e X.env
   standAt pos
   pure v)
  _) _ _ _
 refine zwb (zwb (thn (he pins s σ H _ I h) fun u s1 ⟨x,H1,I1,rx,ea,C,od,t,ex,hx,c,m,hn,q⟩=>?_));subst ex;obtain rfl:u=Value.ref ea:=rx;refine zwb (wpAny_standAt (zwp ?_));have ho:=jP I1 hx;have XO:=zdT I1.kIn m;obtain⟨nm,q',N,bs,bm,sn,sub,ab,col,dd,k0,k1,k2,k3,k5,hC,b1,b2,b3,b4⟩:=XO.ob;have hq:X.xe (.ref ea) s1:=hX pins σ H1 s1 ea C od t I1 hx hn q;have LT:Looks (model X.prog X.w) s1.heap (typeOf (.ref ea)) (.ref C):=(PySem.W.Looks.ld ho).andThen .now;have LTC:Looks (model X.prog X.w) s1.heap (typeOf (.ref C)) (.type "type"):=(PySem.W.Looks.ld hC).andThen .now;have LB:=PySem.W.looks_mroIn (M:=model X.prog X.w) I1.kIn c.be;have LIs:Looks (model X.prog X.w) s1.heap (isType (.ref ea)) false:=(PySem.W.Looks.ld ho).andThen .now;have hcalm:=I1.ok.hd hc;obtain⟨hh,g,d,tk,os⟩:=s1;dsimp only;refine zwb (zwp (zwb (wpAny_holding ?_)));unfold excFromValue isExcClass;refine zwb (zwb (LIs.at ?_));rw[aJ zft];refine zwp ?_;rw[aJ zft];unfold isInstance;refine zwb (zwb (LT.at (LB.at ?_)));rw[aK rfl];refine zwp ?_;dsimp only;refine zwb (LIs.at ?_);rw[aJ zft];unfold raisedInstance;refine zwb (zwb (LT.at (zwb (LTC.at ?_))));rw[aK (by decide)]
 refine zwp (zwb ?_);unfold setFlight;refine zwb (wpAny_field (x:=Value.none) ho rfl rfl ?_);rw[aJ (show ¬(Value.none != Value.none)=true by decide)]
 refine zwp ?_;unfold raiseNew;refine zwb (wpAny_handled_none hcalm ?_);exact wpAny_throw hq
variable {P:Program}{w:World}{K:Frag}{mg:Str->Option Value}{base:Heap}{N:List Str}{qual:Str}{scope:Scope}{f:Addr}{cd:Value}{A:Around}{outer:List Env}{s:Shared}{H:Hp}{E':XK}
theorem xS:zeC (jD (CXs P w) P w K mg base N qual scope f cd A outer s H E) E:=fun pins σ H1 s1 ea C od t I hx hn q=>by
 refine wpAny_mono (zfg I rfl rfl rfl hx hn) (fun _ s2 F=>?_) fun _ _ z=>z;exact⟨ea,_,_,_,_,rfl,F,q⟩
theorem zlB(hE:∀c d H,E' c d H->E c d H):xG (CXs P w) (jD (CXs P w) P w K mg base N qual scope f cd A outer s H E) E':=fun pins σ H1 s1 e s' I q=>by
 obtain⟨ea,C,od,t,H',rfl,F,q⟩:=q;refine wpAny_mono (zi4 I rfl rfl rfl F) (fun _ s2 F2=>?_) fun _ _ z=>z;exact⟨ea,C,od,t,H',rfl,F2,hE _ _ _ q⟩
theorem Fun.okS{x:Str}{st:Stmt}{fd:FuncData}{ps:List Str}{k:Nat}{sp:Sp}(F:Fun K x qual st f fd)(S:zt N ps (zj st))(len:∀vs H Q E,sp vs H Q E->vs.length=ps.length)
  (hbody:∀(cdv:Value) (A:Around) (outer:List Env) (s:Shared) (H:Hp) (vs:List V) (Q:VK) (E:XK),yn k (A.deeper (envOfC qual (zj st) s.heap.objs.size f cdv))->sp vs H Q E->
   ∃t,PSs (jD (CXs P w) P w K mg base N qual (zj st) f cdv A outer s H E) (z5 st) t/\t { nx:=fun _ H'=>Q .non H',rt:=Q } (xP N vs) H):zC P w K mg base (CXs P w) (k+1) f fd ps sp:=by
 obtain⟨oc,od,kV,doc,pm,an,cdv,ct,osl,rfl,lk,hcd⟩:=F.ex;exact zhp lk hcd S len fun A outer s H vs Q E hr hsp=>hbody cdv A outer s H vs Q E hr hsp
structure vz(P:Program)(w:World)(K:Frag)(mg:Str->Option Value)(base:Heap)(k:Nat)(x:Str)(f:Addr)(fd:FuncData)(ps:List Str)(sp:Sp):Prop where
 ok:zC P w K mg base (CXs P w) k f fd ps sp
 mg:mg x=some (.ref f)
 kp:keepIn K (.ref f)=true
 bd:z0 K fd ps []
variable {k:Nat}{fd:FuncData}{ps:List Str}{sp:Sp}{x:Str}{p:Pos}{es:List Expr}{t:TA}
theorem cS(c:vz X.prog X.w X.K X.mg X.base k x f fd ps sp)(hp:xG (CXs X.prog X.w) X E)(hr:yn k X.A)(ha:PA X (e::es) t)(hg:Gl X x:=by rfl)(hdb:(x==("__debug__" : Str))=false:=by decide)
  (h1:wB e=false:=by rfl) (h2:es.any wB=false:=by rfl):PE X (.Call (.Name x p) (e::es) [] pos) (jV sp [] E t):=
 zef c.ok hr hg c.mg c.kp c.bd .nil hp ha hdb (yC h1) (xA h2)
abbrev HK:=Addr->Option Addr->Addr->Addr->vc->St->Hp->Prop
structure PH(X:Cx)(hs:List ExceptHandler)(th:HK):Prop where
 run:∀(pins:PnL) (σ : St) (H1:Hp) (s1:Shared) (H':Hp) (ea C:Addr) (od:Option Addr) (t:Addr) (s5:Shared) (D:vc),Inv X pins σ H1 s1->qU X.prog X.w X.stack H1 s1 C od t H' ea s5->th C od t ea D σ H'->wpAny (model X.prog X.w) X.A (handleBy (.ref ea) X.env hs) (SP X pins D) X.xe s5
variable {hs:List ExceptHandler}{th:HK}{c n:Str}{C':Addr}{i:Nat}{ts:TS}{b₀:Stmt}{suite:List Stmt}{np hpos:Pos}
theorem zkk:PH X [] (fun _ _ _ _ _ _ _=>False):=⟨fun _ _ _ _ _ _ _ _ _ _ _ _ _ h=>h.elim⟩
def zbx(X:Cx)(pins:PnL)(σ : St)(E:XK):Prop:=∀(H:Hp) (s:Shared) (e:Value) (s':Shared),Inv X pins σ H s->CXs X.prog X.w X.stack H s E e s'->X.xe e s'
def zk7(tb:XK->TS)(th:HK):TS:=fun D σ H=>tb (fun cls od H'=>∃C,cls=.ref C/\∀t ea,H' ea=none->th C od t ea D σ H') D σ H
variable {st:Stmt}{h₀:ExceptHandler}{tb:XK->TS}
theorem zie(hstk:X.stack=X.env::X.outer)(hfl:X.env.frame=some X.env.locals)(hh:PH X (h₀::hs) th)
  (hb:∀(pins:PnL) (σ : St) (xe:VSP) (E:XK),zbx (X.wish xe) pins σ E->PS1 (X.wish xe) pins σ st (tb E)):PS X (.Try [st] (h₀::hs) [] [] pos) (zk7 tb th):=by
 exists ?_;intro pins s σ H D I h;have fr0:=I.ok.frames;rw[hstk] at fr0;refine wpAny_Try_except ?_;have key:zbx (X.wish (zk5 X pins D (h₀::hs))) pins σ (fun cls od H'=>∃C,cls=.ref C/\∀t ea,H' ea=none->th C od t ea D σ H'):=by
  intro H1 s1 e s2 I1 q;obtain⟨ea,C,od,t,H',rfl,F,C0,e0,q⟩:=q;cases e0;have I1:=I1.unwish;have F:qU X.prog X.w X.stack H1 s1 C od t H' ea s2:=F;obtain⟨B,fl,tr,old,olds⟩:=F.fly;have fl':=fl;rw[hstk] at fl';refine zg3 fr0 fl'.2.2.1 hfl fl'.1 fl'.2.1 (.inr fl'.2.2.2) fun h5 y1 y2 y3 y4=>?_;have fl5:FlS B X.stack ea C od t h5:=by rw[hstk];exact⟨y1,fl'.2.1,y2,y3⟩
  have F5:=F.move fl tr old olds fl5 y4;exact hh.run pins σ H1 s1 H' ea C od t _ D I1 F5 (q t ea F.nt)
 have run:=(hb pins σ _ _ key).run s H D (I.wish _) h;refine wpAny_execs_cons (thn run fun f s1 q=>?_)
 ·cases f with
  | next=>exact wpAny_execs_nil (wpAny_execs_nil (SP.unwish (f:=.next) q))
  | ret v=>exact SP.unwish (f:=.ret v) q
  | brk=>exact SP.unwish (f:=.brk) q
  | cont=>exact SP.unwish (f:=.cont) q
variable {pins:PnL}{σ:St}{m:Str}{apos:Pos}{C:Addr}{dvs:List V}{ds:List Value}
theorem ziq(c:vz X.prog X.w X.K X.mg X.base k x f fd ps sp)(hp:zbx X pins σ E)(hr:yn k X.A)(ha:PA X (e::es) t)(hg:Gl X x:=by rfl)(hdb:(x==("__debug__" : Str))=false:=by decide)
  (h1:wB e=false:=by rfl) (h2:es.any wB=false:=by rfl):PE1 X pins σ (.Call (.Name x p) (e::es) [] pos) (jV sp [] E t):=by
 exists fun s H Q I h=>?_;refine wpAny_Call_Name_kw (wa I hg c.mg ?_ hdb);refine callWith_K (h₀:=X.base) I.ok.mod.kin c.kp (thn (ha pos pins s σ H _ I h) fun us s1 ⟨vs,H1,I1,r,q⟩=>⟨I1.kIn,?_⟩) (yC h1) (xA h2);have r2:zV (vs++[]) (us++[]):=r.append .nil;have hl:(us++[]).length=ps.length:=by rw[<- r2.length];exact c.ok.len _ _ _ _ q
 refine wpAny_call (codeAny_mono (c.ok.run X.A X.stack s1 H1 ⟨us,[]⟩ (us++[]) (vs++[]) Q E hr I1.env0 (c.bd s1 us I1.kIn hl) r2 q) fun r s' hq=>?_);cases r with
 | error e=>exact hp H1 s1 e s' I1 hq
 | ok fl=>
  cases fl with
  | ret u=>exact I1.after hq
  | next=>exact False.elim hq
  | brk=>exact False.elim hq
  | cont=>exact False.elim hq
end
section
variable {X:Cx}{pins:PnL}{σ:St}{H:Hp}{s:Shared}{x C t:Addr}{f:Str}{A:Around}{E:VSP}
theorem zi0{b:Bool}{dx:Addr}{fs:List (Str×V)}{v:V}{Q:VSP}(I:Inv X pins σ H s)(e:H x=some (uU x C (some dx) t))(ed:H dx=some (.xd fs))(c:yU X.K C)(m:qQ X.K C)(n:yJ X.K C f)(l:fs.lookup f=some v)
  (h:∀u s',Inv X pins σ H s'->zW v u->Q u s'):wpAny (model X.prog X.w) A (getAttr (.ref x) f b) Q E s:=by
 obtain⟨tb,hx⟩:=(I.hok x _ e).1;obtain⟨mA,ns,r⟩:=I.hok dx _ ed;obtain⟨u,hu,ru⟩:=wu (v:=v) (o:=mA f) (by rw[<- l];exact r f)
 exact ziZ c m I.kIn n hx rfl rfl rfl ns hu (zaF ru) (h u _ (I.tok _) ru)
inductive zjnJ(K:Frag)(f:Str)(Q:VK)(x:V)(H1:Hp):Prop|mk(a C t dx:Addr)(fs:List (Str×V))(v:V):x=.ref a->H1 a=some (uU a C (some dx) t)->H1 dx=some (.xd fs)->yU K C->qQ K C->yJ K C f->fs.lookup f=some v->(Q v H1)->zjnJ K f Q x H1
def zjn(K:Frag)(ta:TE)(f:Str):TE:=fun σ H Q=>ta σ H fun x H1=>zjnJ K f Q x H1
variable {e:Expr}{pos:Pos}{ta:TE}
theorem zil(he:PE X e ta)(hb:attributeBase e f X.env (eval e X.env)=eval e X.env):PE X (.Attribute e f pos) (zjn X.K ta f):=by
 exists ?_;intro pins s σ H Q I h;refine zez hb (thn (he pins s σ H _ I h) fun u s1 ⟨x,H1,I1,rx,a,C,t,dx,fs,v,ex,ea,ed,c,m,n,l,q⟩=>?_);subst ex;obtain rfl:u=Value.ref a:=rx;exact zi0 I1 ea ed c m n l fun u' s2 I2 ru=>⟨v,H1,I2,ru,q⟩
end
end L2
namespace L2
open PySem PySem.Spec PyProof.Rows PySem.Builtin
section
variable {prog:Program}{w:World}{A:Around}{E:VSP}{s:Shared}{it ea C t:Addr}{od:Option Addr}{tb:Value}{x left step:Int}{Q:Option Value->Shared->Prop}
end
end L2
namespace L2
open PySem PySem.Spec PyProof.Rows
structure zhD(ea:Addr)(P:Program)(w:World)(K:Frag)(tg:Expr)(J:It)(fp:List Addr)(it:Addr)(tn:Nat->Heap->Prop):Prop where
 mem:it∈fp
 obj:∀i h,tn i h->∀b∈fp,∃o,h.get? b=some o/\∀v,o.data≠.cell v
 keep:∀i h h',tn i h->(∀b∈fp,∀o,h.get? b=some o->h'.get? b=some o)->tn i h'
 item:∀(X:Cx),X.prog=P->X.w=w->X.K=K->X.A.handled=some (.ref ea)->∀(i:Nat) (pins:PnL) (s:Shared) (σ : St) (H:Hp) (E:VSP),Inv X pins σ H s->(∀b∈fp,wQ X pins H b)->tn i s.heap->J.go i H->
  wpAny (model P w) X.A (pyNext (.ref it)) (fun r s1=>∃u,r=some u/\
   wpAny (model P w) X.A (letOwnedTupleGo tg (.ref it) u) (fun _ s2=>∃x H',Inv X pins σ H' s2/\zW x u/\J.yld i H x H'/\tn (i+1) s2.heap/\∀b∈fp,H' b=none) E s1) E s
 done:∀(X:Cx),X.prog=P->X.w=w->X.K=K->X.A.handled=some (.ref ea)->∀(i:Nat) (pins:PnL) (s:Shared) (σ : St) (H:Hp) (E:VSP),Inv X pins σ H s->(∀b∈fp,wQ X pins H b)->tn i s.heap->J.stop i H->
  wpAny (model P w) X.A (pyNext (.ref it)) (fun r s1=>r=none/\Inv X pins σ H s1) E s
 self:∀(A:Around) (i:Nat) (s:Shared) (Q:VSP) (E:VSP),tn i s.heap->Q (.ref it) s->wpAny (model P w) A (pyIter (.ref it)) Q E s
def zl7(X:Cx)(ea:Addr)(pins:PnL)(σ : St)(tg:Expr)(R:It->Hp->Prop)(itv:Value)(s2:Shared):Prop:=
 ∃(it:Addr) (fp:List Addr) (tn:Nat->Heap->Prop) (J:It) (H':Hp),itv=.ref it/\Inv X pins σ H' s2/\zhD ea X.prog X.w X.K tg J fp it tn/\tn 0 s2.heap/\(∀b∈fp,wQ X pins H' b)/\R J H'
structure PIH(X:Cx)(ea:Addr)(tg iter:Expr)(wi:TI):Prop where
 run:∀(pins:PnL) (s:Shared) (σ : St) (H:Hp) (R:It->Hp->Prop),Inv X pins σ H s->wi σ H R->
  wpAny (model X.prog X.w) X.A (eval iter X.env) (fun v s1=>wpAny (model X.prog X.w) X.A (pyIter v) (zl7 X ea pins σ tg R) X.xe s1) X.xe s
instance {X:Cx}{ea:Addr}{tg iter:Expr}{wi:TI}:CoeFun (PIH X ea tg iter wi) (fun _=>∀(pins:PnL) (s:Shared) (σ : St) (H:Hp) (R:It->Hp->Prop),Inv X pins σ H s->wi σ H R->
  wpAny (model X.prog X.w) X.A (eval iter X.env) (fun v s1=>wpAny (model X.prog X.w) X.A (pyIter v) (zl7 X ea pins σ tg R) X.xe s1) X.xe s):=⟨PIH.run⟩
section
variable {X:Cx}{tg:Expr}
variable {pins:PnL}{σ:St}{s:Shared}{sc:Scope}{fr Nc:List Str}{caps:List (Option Nat)}{elt iter:Expr}{ifs:List Expr}{g:TG}{tt:TT}{te:TE}{ow:List Nat}{pos pos2:Pos}{E:VSP}
theorem zfm{ea:Addr}{H2:Hp}{it:Addr}{fp:List Addr}{tn:Nat->Heap->Prop}{J:It}{Q:VK}{RR:Value->Addr->Result->Shared->Prop}
  (hc:X.A.handled=some (.ref ea)) (B:yR X.env sc fr) (go:qR g ow) (how:(ow.all fun i=>caps[i]?==some none)=true) (hcap:wP X.N Nc caps X.env sc fr=true) (hlen:caps.length=Nc.length)
  (hb:∀(pins:PnL) (fp:List Addr) (s:Shared) (H:Hp) (C:Addr),PG (zO X pins sc fr Nc fp s H C) tg g/\PIf (zO X pins sc fr Nc fp s H C) ifs tt/\PE (zO X pins sc fr Nc fp s H C) elt te)
  (I2:Inv X pins σ H2 s) (T:zhD ea X.prog X.w X.K tg J fp it tn) (st2:tn 0 s.heap) (f2:∀b∈fp,wQ X pins H2 b) (h:∀D,H2 D=none->LCr J caps g tt te σ H2 Q D)
  (fin:∀(D C:Addr) (σ':St) (H':Hp) (s':Shared),Inv (zO X pins sc fr Nc fp s H2 C) [] σ' H' s'->Q (.ref D) H'->RR (.ref D) C (.ok .next) s') :
  wpAny (model X.prog X.w) X.A (newList []) (fun acc s₃=>wpAny (model X.prog X.w) X.A (newFunctionEnv sc X.env.globals (clB X.env fr) [] X.env.qual none .none (some X.env)) (fun cenv s₄=>
   codeAny (model X.prog X.w) X.A (.compStart (.ListComp elt [⟨tg,iter,ifs,0⟩] sc pos) 0 (.ref it) acc { cenv with scope:=relabel sc X.env }) (RR acc cenv.locals) s₄) E s₃) E s:=by
 have hcell:∀y∈sc.names,y.2≠.cell:=fun y hy=>by
  have h3:=List.all_eq_true.mp B.names _ hy;simp only[Bool.and_eq_true,bne_iff_ne,ne_eq] at h3;exact h3.1.1
 refine wpAny_newObj_type (wpAny_newFunctionEnv hcell (by intro y hy;simp at hy) (fun h₁ hns₁ hsb₁=>?_) B.kind)
 dsimp only at hns₁ hsb₁ |-;generalize hH2:s.heap.push { cls:=.type "list",dict:=none,data:=.seq ([]:List Value).toArray }=H3 at hns₁ hsb₁ |-;have hCs:H3.objs.size=s.heap.objs.size+1:=by rw[<- hH2,Heap.size_push]
 have hDC:s.heap.objs.size≠H3.objs.size:=by rw[hCs];exact ne_of_lt (lt_succ_self _)
 have hC:s.heap.objs.size<=H3.objs.size:=by rw[hCs];exact le_succ _
 have old:∀b o,s.heap.get? b=some o->h₁.get? b=some o:=fun b o e=>
  hsb₁.extBut b o (ne_of_lt (lt_of_lt_of_le (aI e) hC)) (zgp _ (hH2 ▸ zgp _ e))
 have hD:h₁.get? s.heap.objs.size=some { cls:=.type "list",data:=.seq ([]:List Value).toArray }:=hsb₁.extBut _ _ hDC (zgp _ (hH2 ▸ zgs _ rfl));have ho:∀b∈fp,∃o,s.heap.get? b=some o:=fun b hb'=>let ⟨o,e,_⟩:=T.obj 0 _ st2 b hb';⟨o,e⟩;have I4:∀t',Inv (zO X pins sc fr Nc fp s H2 H3.objs.size) [] (yW caps σ) (upd H2 s.heap.objs.size (.lst [])) { s with heap:=h₁,toks:=t' }:=fun t'=>
  qM I2 B f2 ho hC (aF _) hDC old hD hns₁ hcap hlen
 have ok:=(I4 0).ok;obtain⟨hbg,hbt,hbe⟩:=hb pins fp s H2 H3.objs.size;obtain⟨W,⟨m0,w0⟩,turn⟩:=h s.heap.objs.size (I2.hok.fresh (aF _));have stat:∀{H':Hp},(∀b∈fp,H' b=none)->∀b∈fp,wQ (zO X pins sc fr Nc fp s H2 H3.objs.size) [] H' b:=fun hn b hb'=>
  ⟨hn b hb',(ok.exf b hb').1,ok.exfs b hb',.inl hb',(ok.exf b hb').2,fun p hp=>(f2 b hb').2.2.2.2.2 p (by simpa using hp)⟩
 have hfp0:∀b∈fp,upd H2 s.heap.objs.size (.lst []) b=none:=fun b hb'=>by
  obtain⟨o,e⟩:=ho b hb';rw[zi (ne_of_lt (aI e))];exact(f2 b hb').1
 have loop:∀s₃:Shared,s₃={ s with heap:=h₁,toks:=s.toks+([]:List (Str×Value)).length }->
   codeAny (model X.prog X.w) X.A (.compLoop (.ListComp elt [⟨tg,iter,ifs,0⟩] sc pos) 0 (.ref it) (.ref s.heap.objs.size) (compEnvC sc (clB X.env fr) H3.objs.size X.env)) (RR (.ref s.heap.objs.size) H3.objs.size) s₃:=by
  rintro s₃ rfl;refine uq (fun _ _=>False) (fun _ _ z=>z.elim) (fun n s'=>∃i σ' H' ys,Inv (zO X pins sc fr Nc fp s H2 H3.objs.size) [] σ' H' s'/\tn i s'.heap/\(∀b∈fp,H' b=none)/\W i n ys H'/\
   (∀(k:Nat) (v:V),(yW caps σ)[k]?=some (some v)->σ'[k]?=some (some v))) ?_ m0
   ⟨0,_,_,[],I4 _,T.keep _ _ _ st2 (fun b _ o e=>old b o e),hfp0,w0,fun _ _ e=>e⟩
  rintro n s3 ⟨i,σ3,H4,ys,I3,st3,fr3,w3,wk3⟩;have I3':Inv (zO X pins sc fr Nc fp s H2 H3.objs.size) [] (yW caps σ) H4 s3:=I3.weak (by rw[I3.len];exact(I4 0).len) wk3
  rcases turn i n ys H4 w3 with ⟨stop,qn⟩|⟨gg,step⟩
  ·refine thn (T.done (zO X pins sc fr Nc fp s H2 H3.objs.size) rfl rfl rfl hc i [] s3 _ H4 (fun _ _=>False) I3' (stat fr3) st3 stop) fun r s4 ⟨hr,I4'⟩=>?_
   subst hr;exact fin _ _ _ _ _ I4' qn
  ·refine thn (T.item (zO X pins sc fr Nc fp s H2 H3.objs.size) rfl rfl rfl hc i [] s3 _ H4 (fun _ _=>False) I3' (stat fr3) st3 gg) fun r s4 ⟨u,hr,h4⟩=>?_
   subst hr;refine thn h4 fun _ s5 ⟨x,H5,I5,r5,y5,st5,fr5⟩=>?_;have I5':=I5.pinned (stat fr5) (T.obj _ _ st5);refine thn (hbg _ s5 _ H5 x u _ I5' r5 (go _ _ _ _ (step x H5 y5))) fun _ s6 ⟨σ6,H6,I6,q6,l6,k6⟩=>?_;have wk6:∀(k:Nat) (v:V),(yW caps σ)[k]?=some (some v)->σ6[k]?=some (some v):=fun k v e=>by
    rw[k6 k fun hk=>?_]
    ·exact e
    ·have h1:=List.all_eq_true.mp how k hk
     have h2:caps[k]?=some none:=by simpa using h1
     unfold yW at e;rw[getElem?_map,h2] at e;cases e
   refine thn (hbt _ s6 σ6 H6 _ I6 q6) fun ok s7 ⟨H7,I7,q7⟩=>?_;have again:∀{H8:Hp}{s8:Shared}{ys':List V},Inv (zO X pins sc fr Nc fp s H2 H3.objs.size) ([]++uw fp s5.heap) σ6 H8 s8->(∃m',m'<n/\W (i+1) m' ys' H8)->
     ∃m,m<n/\∃i σ' H' ys,Inv (zO X pins sc fr Nc fp s H2 H3.objs.size) [] σ' H' s8/\tn i s8.heap/\(∀b∈fp,H' b=none)/\W i m ys H'/\(∀(k:Nat) (v:V),(yW caps σ)[k]?=some (some v)->σ'[k]?=some (some v)):=fun {H8 s8 ys'} I8 ⟨m',hm,w8⟩=>by
    exists m',hm,i+1,σ6,H8,ys',I8.unpinned,T.keep _ _ _ st5 fun b hb' o e=>(I8.pin (b,o) (mem_append_right _ (mem_append_right _ (xn hb' e)))).1,fun b hb'=>?_,w8,wk6;obtain⟨o,e,d⟩:=T.obj _ _ st5 b hb';exact(I8.pin (b,o) (mem_append_right _ (mem_append_right _ (xn hb' e)))).2.1
   cases ok with
   | false=>
    rw[aJ zft];exact again I7 (q7.2 rfl)
   | true=>
    rw[aK rfl];refine thn (hbe _ s7 σ6 H7 _ I7 (q7.1 rfl)) fun uv s8 ⟨v,H8,I8,r8,hD8,hz,q8⟩=>?_;refine thn (zU (X:=zO X pins sc fr Nc fp s H2 H3.objs.size) _ s8 σ6 H8 (.ref s.heap.objs.size) [v] _ [uv] (fun _ H'=>H'=upd H8 s.heap.objs.size (.lst (ys++[v]))) I8 rfl (.cons r8 .nil) ⟨_,ys,v,rfl,rfl,hD8,hz,rfl⟩) fun _ s9 ⟨_,H9,I9,_,e9⟩=>?_;subst e9;exact again I9 q8
 exact codeAny_compStart_list (loop _ rfl) (T.self _ 0 _ _ _ (T.keep _ _ _ st2 (fun b _ o e=>old b o e)) (loop _ rfl))
variable {hs:List ExceptHandler}{th:HK}{c n:Str}{C':Addr}{i:Nat}{ts:TS}{b₀:Stmt}{suite:List Stmt}{np hpos:Pos}
def zmP(K:Frag)(C':Addr)(i:Nat)(ts:Addr->TS)(wE:HK):HK:=fun C od t ea D σ H'=>
 (exmOne K (.ref C) (.ref C')=some true/\ts ea (zjE D i) (σ.set i (some (.ref ea))) (upd H' ea (uU ea C od t)))\/(exmOne K (.ref C) (.ref C')=some false/\wE C od t ea D σ H')
end
end L2
namespace L2
open PySem PySem.Spec PyProof.Rows PySem.Builtin
section
variable {prog:Program}{w:World}{A:Around}{E:VSP}{s:Shared}{it l ea C t:Addr}{od:Option Addr}{tb:Value}{i:Nat}{items:Array Value}{Q:Option Value->Shared->Prop}
theorem zaa(hA:A.handled=some (.ref ea))(he:s.heap.get? ea=some (jl C od t tb))(hit:s.heap.IsListIter it l i)(hl:s.heap.IsList l items)(hx:items[i]?=none)
  (q:∀h':Heap,Heap.ExtBut it s.heap h'->Q none { s with heap:=h' }):wpAny (model prog w) A (pyNext (.ref it)) Q E s:=by
 obtain⟨hh,gg,dd,tk,os⟩:=s;obtain⟨o,ho,hc,hd⟩:=id hit;obtain⟨ol,hol,_,nl,hdl⟩:=hl;have hne:ea≠it:=fun z=>by
  rw[z] at he;have ho':hh.get? it=some o:=ho;have he':hh.get? it=some (jl C od t tb):=he;rw[ho'] at he';cases Option.some.inj he';cases hc
 unfold pyNext;refine zwb (wpAny_attempt (wpAny_callSpecial?_slot (name:=Str.ofString "__next__") hit.typeIs slot_listiter_next
  (wpAny_call_entry slot_listiter_next hit.typeIs entry_listiter_next ?_ (args_listiter_next _))))
 show wpAny _ _ (field (.ref it) 0 >>= _) _ _ _;refine zwb (wpAny_field ho hd (x:=.ref l) rfl ?_);show wpAny _ _ (if (Value.ref l==Value.none)=true then _ else _) _ _ _
 rw[aJ (show ¬((Value.ref l==Value.none)=true) from zft)];show wpAny _ _ (field (.ref it) 1 >>= _) _ _ _;refine zwb (wpAny_field ho hd (x:=.int i 0) rfl ?_);show wpAny _ _ (seqItems? (.ref l) >>= _) _ _ _;refine zwb (wpAny_seqItems hol hdl ?_);simp only[toNat_natCast,hx];refine zwb (wpAny_rule (zwb (wpAny_setField ho hd (by simp) ?_)))
 have sb:=Heap.SameBut.update hh it (Obj.mapFields fun x=>x.setIfInBounds 0 Value.none);have he1:=(sb.2 ea hne).trans he;have xb:=sb.extBut;dsimp only;generalize hh.update it (Obj.mapFields fun x=>x.setIfInBounds 0 Value.none)=h1 at he1 xb |-;unfold SmallTypes.stopIteration newExc;refine zwb (zwb (wpAny_newTuple ?_ xK));dsimp only;unfold firstArgMember;dsimp only;refine zwb (zwb (zwp (zwp ?_)));have fm:(if (Manifest.find? "StopIteration").elim false (fun t=>t.mro.contains "StopIteration"||t.mro.contains "SystemExit")=true then ([]:List Value).headD Value.none else Value.none)=Value.none:=by split <;> rfl
 rw[fm];show wpAny _ _ (newObj (Value.type "StopIteration") (Data.fields #[.ref h1.objs.size,.none,.none,.none,.bool false,.none])) _ _ _;refine wpAny_newObj_type ?_ (by show 6<=sizeLine+2;decide)
 dsimp only;have k1:∀b o,h1.get? b=some o->((h1.push (yu [])).push { cls:=.type "StopIteration",data:=.fields #[.ref h1.objs.size,.none,.none,.none,.bool false,.none] }).get? b=some o:=fun b o e=>zgp _ (zgp _ e);have k2:((h1.push (yu [])).push { cls:=.type "StopIteration",data:=.fields #[.ref h1.objs.size,.none,.none,.none,.bool false,.none] }).get? (h1.push (yu [])).objs.size=some { cls:=.type "StopIteration",data:=.fields #[.ref h1.objs.size,.none,.none,.none,.bool false,.none] }:=zgs _ rfl;have k3:(h1.push (yu [])).objs.size≠ea:=by
  have:=aI he1
  rw[Heap.size_push];exact ne_of_gt (lt_succ_of_lt this)
 have k4:∀b o,h1.get? b=some o->b≠(h1.push (yu [])).objs.size:=fun b o e=>by
  have:=aI e
  rw[Heap.size_push];exact ne_of_lt (lt_succ_of_lt this)
 generalize (h1.push (yu [])).objs.size=e1 at k2 k3 k4 |-;generalize (h1.push (yu [])).push { cls:=.type "StopIteration",data:=.fields #[.ref h1.objs.size,.none,.none,.none,.bool false,.none] }=h2 at k1 k2 |-;unfold raiseNew;refine zwb (wpAny_handled ?_);have hA':A.in1.handled=some (.ref ea):=hA;rw[hA'];dsimp only;rw[aK (show(Value.ref ea != Value.ref e1)=true by rw[bne_iff_ne];intro z;exact k3 (Value.ref.inj z).symm)]
 have he2:=k1 _ _ he1;refine zwb (wpAny_holding (wpAny_runValue (codeAny_builtin (b:=Builtin.«proto.unchain») rfl ?_)));unfold Builtin.«proto.unchain»;dsimp only;refine zwb (wpAny_field (x:=Value.none) he2 rfl rfl ?_);rw[aK (show(Value.none==Value.none)=true by decide)]
 refine zwp ?_;dsimp only;unfold updateField;refine zwb (zwb (wpAny_load k2 ?_));dsimp only;rw[aK (show 2<(#[Value.ref h1.objs.size,Value.none,Value.none,Value.none,Value.bool false,Value.none]:Array Value).size from Nat.le_of_ble_eq_true rfl)];refine wpAny_update k2 ?_;refine wpAny_throw ?_;have z1:∀b,b≠e1->(h2.update e1 (Obj.mapFields fun x=>x.setIfInBounds 2 (.ref ea))).get? b=h2.get? b:=fun b hb'=>Heap.get?_update_ne _ _ _ _ hb';have z2:(h2.update e1 (Obj.mapFields fun x=>x.setIfInBounds 2 (.ref ea))).get? e1=some { cls:=.type "StopIteration",data:=.fields #[.ref h1.objs.size,.none,.ref ea,.none,.bool false,.none] }:=Heap.get?_update_self _ k2 rfl;refine zwb (wpAny_isInstance (T:="StopIteration") (b:=true) ⟨_,z2,rfl⟩ (by with_unfolding_all rfl) ?_)
 rw[aK rfl];refine zwp (q _ fun b o hb e=>?_);have e:=xb b o hb e;rw[z1 b (k4 b o e)];exact k1 b o e
def zk1(K:Frag)(ea C:Addr)(od:Option Addr)(t a:Addr):It:=
 ⟨fun i H=>∃xs x,SqL K H a xs/\xs[i]?=some x,fun i H x H'=>H'=H/\∀xs,SqL K H a xs->xs[i]?=some x,fun i H=>(∃xs,SqL K H a xs/\xs.length<=i)/\H ea=some (uU ea C od t)⟩
theorem zcB{P:Program}{w:World}{K:Frag}{tg:Expr}{ea C t:Addr}{od:Option Addr}(a it:Addr):zhD ea P w K tg (zk1 K ea C od t a) [it] it (fun i h=>h.IsListIter it a i) where
 mem:=by simp
 obj:=fun i h st b hb=>by
  have e:b=it:=by simpa using hb
  subst e;obtain⟨o,e,c,d⟩:=st;exact⟨o,e,fun v z=>by rw[d] at z;cases z⟩
 keep:=fun i h h' st k=>st.at fun o e=>k it (by simp) o e
 item:=by
  intro X hP hw hK hc i pins s σ H E I hf st hg;subst hP hw hK;obtain⟨xs,x,hq,hx⟩:=hg;obtain⟨its,rv,p,hz⟩:=I.list hq;obtain⟨u,hu,ru⟩:=rv.get hx;obtain⟨f0,f1,f2,f3,f4,f5⟩:=hf it (by simp)
  refine wpAny_pyNext_list_item st p.isList (x:=u) (by simpa using hu) fun h' st' sb=>?_
  have I1:Inv X pins σ H { s with heap:=h' }:=I.turned (t':=s.toks) (fun b o hb e=>(sb.2 b hb).trans e) f0 f1 f3 f4 f5
  obtain⟨o,e,c,d⟩:=id st';exact⟨u,rfl,zcl (s:={ s with heap:=h' }) e c d (by decide) ⟨x,H,I1,ru,⟨rfl,fun ys hy=>by rw[I.list_inj hy hq];exact hx⟩,st',fun b hb=>(hf b hb).1⟩⟩
 done:=by
  intro X hP hw hK hc i pins s σ H E I hf st hg;subst hP hw hK;obtain⟨⟨xs,hq,hx⟩,hea⟩:=hg;obtain⟨its,rv,p,hz⟩:=I.list hq;obtain⟨tb,he⟩:=(I.hok ea _ hea).1;obtain⟨f0,f1,f2,f3,f4,f5⟩:=hf it (by simp)
  have hl:=rv.length;exact zaa hc he st p.isList (by simp;omega) fun h' eb=>⟨rfl,I.turned (t':=s.toks) (fun b o hb e=>eb b o hb e) f0 f1 f3 f4 f5⟩
 self:=fun _ _ _ _ _ st h=>wpAny_pyIter_listiter st h
variable {X:Cx}{tg:Expr}
inductive zkNJ(K:Frag)(ea:Addr)(R:It->Hp->Prop)(x:V)(H1:Hp):Prop|mk(a C:Addr)(od:Option Addr)(t:Addr):x=.ref a->(∃xs,SqL K H1 a xs)->(R (zk1 K ea C od t a) H1)->zkNJ K ea R x H1
def zkN(K:Frag)(ea:Addr)(tl:TE):TI:=fun σ H R=>tl σ H fun x H1=>zkNJ K ea R x H1
theorem zgy{ea:Addr}{l:Expr}{tl:TE}(hl:PE X l tl):PIH X ea tg l (zkN X.K ea tl):=by
 exists ?_;intro pins s σ H R I h;refine thn (hl pins s σ H _ I h) fun v s1 ⟨x,H1,I1,r1,q1⟩=>?_;obtain⟨a,C,od,t,e,⟨xs,hq⟩,q⟩:=q1;subst e;cases r1;obtain⟨its,rv,p,hz⟩:=I1.list hq;refine wpAny_pyIter_list p.isList ?_;exists s1.heap.objs.size,[s1.heap.objs.size],_,_,H1,rfl,I1.kept (t':=s1.toks) fun b o e=>zgp _ e,zcB a _,⟨_,zgs _ rfl,rfl,rfl⟩,fun b hb=>?_,q;have e:b=s1.heap.objs.size:=by simpa using hb
 subst e;exact I1.fpOk (aF _) (I1.hok.fresh (aF _))
variable {sc:Scope}{elt iter:Expr}{ifs:List Expr}{g:TG}{tt:TT}{te:TE}{ow:List Nat}{pos:Pos}
theorem zkp{ea:Addr}{wi:TI}(fr Nc:List Str)(caps:List (Option Nat))(hc:X.A.handled=some (.ref ea))(B:yR X.env sc fr)(hi:PIH X ea tg iter wi)(go:qR g ow)(how:(ow.all fun i=>caps[i]?==some none)=true)
  (hcap:wP X.N Nc caps X.env sc fr=true) (hlen:caps.length=Nc.length)
  (hb:∀(pins:PnL) (fp:List Addr) (s:Shared) (H:Hp) (C:Addr),PG (zO X pins sc fr Nc fp s H C) tg g/\PIf (zO X pins sc fr Nc fp s H C) ifs tt/\PE (zO X pins sc fr Nc fp s H C) elt te)
  (hs:∀x,foldedSetIterable iter X.env x=pure x:=by intro _;rfl):PE X (.ListComp elt [⟨tg,iter,ifs,0⟩] sc pos) (tLC wi caps g tt te):=by
 exists ?_;intro pins s σ H Q I h;rw[eval_ListComp];refine wpAny_comprehension_free (use:=none) rfl hs B.clos B.kind B.loc (thn (hi pins s σ H _ I h) fun v s1 h1=>thn h1 fun itv s2 h2=>?_);obtain⟨it,fp,tn,J,H2,e,I2,T,st2,f2,q⟩:=h2;subst e;refine zfm (RR:=fun acc C=>compPost (model X.prog X.w) X.A X.xe none (EP X pins σ Q) acc C) hc B go how hcap hlen hb I2 T st2 f2 q ?_;intro D C σ' H' s' J' qq;obtain⟨m,hn,_⟩:=J'.loc;exact⟨m,hn,fun h' hs'=>⟨.ref D,H',jn I2 J' (v0 I2 f2 J') hs',rfl,qq⟩⟩
theorem zhd{K:Frag}{ea C t a:Addr}{od:Option Addr}{xs:List V}{caps:List (Option Nat)}{g:TG}{tt:TT}{te:TE}{σ : St}{H1:Hp}{Q:VK}{D:Addr}(Pv:Nat->List V->Hp->Prop)(h0:Pv 0 [] (upd H1 D (.lst [])))
  (hl:∀i ys H,Pv i ys H->SqL K H a xs) (he:∀i ys H,Pv i ys H->H ea=some (uU ea C od t))
  (hs:∀i x ys H,i<xs.length->xs[i]?=some x->Pv i ys H->g x (yW caps σ) H fun σ2 H2=>tt σ2 H2 fun ok H3=>(ok=true->te σ2 H3 (lcN xs.length i D Pv ys))/\(ok=false->lcS xs.length i Pv ys H3))
  (hd:∀ys H,Pv xs.length ys H->Q (.ref D) H):LCr (zk1 K ea C od t a) caps g tt te σ H1 Q D:=by
 exists fun i m ys H=>m=xs.length - i/\i<=xs.length/\Pv i ys H,⟨xs.length,by simp,zero_le _,h0⟩,?_
 rintro i m ys H ⟨rfl,hi,p⟩;have q:=hl i ys H p;by_cases hlt:i<xs.length
 ·refine .inr ⟨⟨xs,xs[i],q,by simp [hlt]⟩,fun x H' y=>?_⟩
  obtain⟨e,y⟩:=y;subst e;exact hs i x ys _ hlt (y xs q) p
 ·have e:i=xs.length:=by omega
  subst e;exact .inl ⟨⟨⟨xs,q,aF _⟩,he _ _ _ p⟩,hd ys H p⟩
theorem zhe{d:Addr}{o:Obj}{kvs:List (Key×V)}{caps:List (Option Nat)}{g:TG}{tt:TT}{te:TE}{σ : St}{H1:Hp}{Q:VK}{D:Addr}(Pv:Nat->List V->Hp->Prop)(h0:Pv 0 [] (upd H1 D (.lst [])))
  (hl:∀i ys H,Pv i ys H->H d=some (.frz o (.dK kvs)))
  (hs:∀i k v p ys H,i<kvs.length->kvs[i]?=some (k,v)->Pv i ys H->H p=none->g (.ref p) (yW caps σ) (upd H p (.tup [kV k,v])) fun σ2 H2=>tt σ2 H2 fun ok H3=>(ok=true->te σ2 H3 (lcN kvs.length i D Pv ys))/\(ok=false->lcS kvs.length i Pv ys H3))
  (hd:∀ys H,Pv kvs.length ys H->Q (.ref D) H):LCr (Itd d o kvs) caps g tt te σ H1 Q D:=by
 exists fun i m ys H=>m=kvs.length - i/\i<=kvs.length/\Pv i ys H,⟨kvs.length,by simp,zero_le _,h0⟩,?_
 rintro i m ys H ⟨rfl,hi,p⟩;have q:=hl i ys H p;by_cases hlt:i<kvs.length
 ·refine .inr ⟨⟨q,hlt⟩,fun x H' y=>?_⟩
  obtain⟨pp,k,v,rfl,hp,y2,rfl⟩:=y;exact hs i k v pp ys H hlt y2 p hp
 ·have e:i=kvs.length:=by omega
  subst e;exact .inl ⟨⟨q,aF _⟩,hd ys H p⟩
def xo(a n:Nat):List Int:=(List.range n).map fun (i:Nat)=>((a+i:Nat):Int)
theorem zfr:xh X (.type "range") (fun xs H Q=>∃a b:Nat,xs=[.int (a:Nat),.int (b:Nat)]/\∀p,H p=none->Q (.ref p) (upd H p (.rng (a:Nat) (b:Nat)))):=by
 intro pins s σ H xs us Q I r h;obtain⟨a,b,rfl,q⟩:=h;obtain⟨u,v,rfl,ru,rv⟩:=jR r;obtain⟨t,rfl⟩:=ru;obtain⟨t',rfl⟩:=rv;refine call_range_2 ?_;exists .ref s.heap.objs.size,_,I.laid (o:=.rng (a:Nat) (b:Nat)) (fun b u e=>zgp _ e) (aF _) ?_,rfl,q _ (I.hok.fresh (aF _));exact⟨_,_,_,zgs _ rfl⟩
theorem zcx(hc:X.calm=true):xh X (.type "list") (fun xs H Q=>∃(p:Addr) (a b:Nat),xs=[.ref p]/\H p=some (.rng (a:Nat) (b:Nat))/\a<=900/\b<=900/\∀l,H l=none->Q (.ref l) (upd H l (.lst ((xo a (b - a)).map V.int)))):=by
 intro pins s σ H xs us Q I r h;obtain⟨p,a,b,rfl,hp,ha,hb,q⟩:=h;obtain⟨u,rfl,ru⟩:=wS r;cases ru;obtain⟨t,u',v',e⟩:=I.hok p _ hp;refine call_list_range (n:=b - a) (I.ok.hd hc) e ?_ ?_ (by omega) fun h' tk acc c' hk he hacc=>?_
 ·exact small_one (by omega) (by omega) (by omega) (by omega)
 ·rw[rangeSize_one]
  split <;> omega
 ·have hl:acc.toList.length=(xo a (b - a)).length:=by
   unfold xo;rw[aA,length_range];simpa using hacc.1
  have hv:zV ((xo a (b - a)).map V.int) acc.toList:=zV.of_at hl fun i v e=>by
   obtain⟨t,rfl⟩:=hacc.2 i v (by simpa using e)
   exists t,?_;have hi:i<b - a:=by
    have:=(List.getElem?_eq_some_iff.mp e).1
    rw[hl] at this;unfold xo at this;simpa using this
   have eg:(xo a (b - a)).getD i 0=((a+i:Nat):Int):=by
    unfold xo;rw[getD_eq_getElem?_getD,getElem?_map,getElem?_range hi];rfl
   rw[eg]
   congr 1
   omega
  exists .ref s.heap.objs.size,_,I.laid (t':=tk) (o:=.lst ((xo a (b - a)).map V.int)) hk (aF _) ⟨?_,acc.toList,c',hv,by simpa using he⟩,rfl,q _ (I.hok.fresh (aF _))
  unfold xo;rw[aA,aA,length_range];have : 1000<=sizeLine:=by decide
  omega
end
end L2
namespace L2
open PySem PySem.Spec PyProof.Rows
def qV(H:Hp)(ea D:Addr):Prop:=(∃od t,H ea=some (uU ea D od t))\/∃od t,H ea=some (ub ea D od t)
theorem qV.same{H H':Hp}{ea D:Addr}(h:qV H ea D)(s:zn H H'):qV H' ea D:=by
 rcases h with ⟨od,t,h⟩|⟨od,t,h⟩
 ·exact .inl ⟨od,t,s _ _ h⟩
 ·exact .inr ⟨od,t,s _ _ h⟩
section
variable {X:Cx}
theorem jk{pins:PnL}{σ : St}{H:Hp}{s:Shared}{ea D:Addr}(I:Inv X pins σ H s)(e:qV H ea D):zaS ea (.ref D) s.heap:=by
 rcases e with ⟨od,t,e⟩|⟨od,t,e⟩
 ·obtain⟨tb,h⟩:=(I.hok ea _ e).1
  exact⟨_,_,h,rfl,rfl⟩
 ·exact⟨_,_,jP I e,rfl,rfl⟩
theorem y7:xh X (.builtin "isinstance") (fun xs H Q=>∃ea D C b,xs=[.ref ea,.ref C]/\qV H ea D/\yU X.K D/\kitOne X.K (.ref D) (.ref C)=some b/\Q (.bl b) H):=by
 intro pins s σ H xs us Q I r h;obtain⟨ea,D,C,b,rfl,he,c,e,q⟩:=h;obtain⟨u,w',rfl,ru,rw'⟩:=jR r;cases rw';cases ru;exact kia_one (qB c) I.kIn (jk I he) e (fun z=>nomatch z) fun tk=>⟨.bl b,H,I.tok tk,rfl,q⟩
theorem zad:xh X (.builtin "isinstance") (fun xs H Q=>∃ea D T b,xs=[.ref ea,.ty T]/\qV H ea D/\yU X.K D/\kitOne X.K (.ref D) (.type T)=some b/\Q (.bl b) H):=by
 intro pins s σ H xs us Q I r h;obtain⟨ea,D,T,b,rfl,he,c,e,q⟩:=h;obtain⟨u,w',rfl,ru,rw'⟩:=jR r;cases rw';cases ru;exact kia_one (qB c) I.kIn (jk I he) e (fun z=>nomatch z) fun tk=>⟨.bl b,H,I.tok tk,rfl,q⟩
theorem zac:xh X (.builtin "isinstance") (fun xs H Q=>∃(ea D tp:Addr) (cs:List Addr) (b:Bool),xs=[.ref ea,.ref tp]/\qV H ea D/\yU X.K D/\H tp=some (.tup (cs.map V.ref))/\kitAny X.K (.ref D) (cs.map Value.ref)=some b/\Q (.bl b) H):=by
 intro pins s σ H xs us Q I r h;obtain⟨ea,D,tp,cs,b,rfl,he,c,ht,e,q⟩:=h;obtain⟨u,w',rfl,ru,rw'⟩:=jR r;cases rw';cases ru;obtain⟨_,its,rv,⟨oc,od,oda,osl⟩,h1,h2,n,h3⟩:=I.hok tp _ ht;have h2:oc=.type "tuple":=h2;have h3:oda=.seq its.toArray n:=h3;subst h2 h3;rw[zah rv] at h1;exact PySem.W.kia_tup (qB c) I.kIn (jk I he) h1 e (fun z=>nomatch z) fun tk=>⟨.bl b,H,I.tok tk,rfl,q⟩
theorem zbY{X:Cx}{K:Frag}{e:Expr}{f:Str}{pos:Pos}{ta:TE}(hK:X.K=K)(he:PE X e ta)(hb:attributeBase e f X.env (eval e X.env)=eval e X.env):PE X (.Attribute e f pos) (zjn K ta f):=hK ▸ zil he hb
variable {hs:List ExceptHandler}{th:HK}{c n:Str}{C':Addr}{i:Nat}{ts:TS}{b₀:Stmt}{suite:List Stmt}{np hpos:Pos}
theorem zkl{tsA:Addr->TS}(hN:X.N.Nodup)(hi:X.N[i]?=some n)(hk:X.env.scope.names.lookup n=some .local)(hg:Gl X c)(hm:X.mg c=some (.ref C'))(hs':∀ea,PSs (X.suite ea) (b₀::suite) (tsA ea))(hr:PH X hs th)
  (hd:(c==("__debug__" : Str))=false:=by decide):PH X (.ExceptHandler (some (.Name c np)) (some n) (b₀::suite) hpos::hs) (zmP X.K C' i tsA th):=by
 exists fun pins σ H1 s1 H' ea C od t s5 D I1 F5 h=>?_;obtain⟨B,fl,tr,old,olds⟩:=F5.fly;have I5:Inv X pins σ H' s5:=I1.call' F5.os F5.un F5.hok F5.bare fun b z=>nomatch z;have LT:Looks (model X.prog X.w) s5.heap (typeOf (.ref ea)) (.ref C):=by
  obtain⟨tb,oT,ts',he,_⟩:=fl.2.2.2;exact(PySem.W.Looks.ld he).andThen .now
 refine wpAny_handleBy_cons (codeAny_handlers_test (wa (I5.suite ea) hg hm ?_ hd)) (by intro z;cases z)
 rcases h with ⟨hx,h⟩|⟨hx,h⟩
 ·refine(PySem.W.exm_one (M:=model X.prog X.w) (h:=s5.heap) I5.kIn LT hx) _ _ _ _ (fun _ _ z=>z) ?_
  refine codeAny_handlers_suite_as (zlT fl fun h6 fl6 up6=>?_);have F6:=F5.move fl tr old olds fl6 up6;have I6:=F6.track I1 fl6 old;refine wy (v:=.ref ea) I6 hN hi (.inl hk) rfl (fun s7 I7=>?_) (.inr hk);refine wpAny_mono ((hs' ea) pins s7 _ _ (zjE D i) (I7.suite ea) h) (fun f s8 h8=>?_) fun _ _ z=>z.elim;show wpAny (model X.prog X.w) X.A (do bindName X.env n .none;unbindBehindTheSuite X.env n hpos) (fun _ s9=>SP X pins D f s9) X.xe s8
  cases f with
  | next=>
   obtain⟨σ',H2,I8,q8⟩:=h8;exact vV (wM I1.ok I8) hN hi hk fun s9 I9=>⟨_,H2,I9,q8⟩
  | brk=>
   obtain⟨σ',H2,I8,q8⟩:=h8;exact vV (wM I1.ok I8) hN hi hk fun s9 I9=>⟨_,H2,I9,q8⟩
  | cont=>
   obtain⟨σ',H2,I8,q8⟩:=h8;exact vV (wM I1.ok I8) hN hi hk fun s9 I9=>⟨_,H2,I9,q8⟩
  | ret u=>
   obtain⟨v,σ',H2,I8,rv,q8⟩:=h8;exact vV (wM I1.ok I8) hN hi hk fun s9 I9=>⟨v,_,H2,I9,rv,q8⟩
 ·refine(PySem.W.exm_one (M:=model X.prog X.w) (h:=s5.heap) I5.kIn LT hx) _ _ _ _ (fun _ _ z=>z) ?_
  exact hr.run pins σ H1 s1 H' ea C od t s5 D I1 F5 h
structure zhG(P:Program)(w:World)(K:Frag)(mg:Str->Option Value)(base:Heap)(ea:Addr)(k:Nat)(f:Addr)(fd:FuncData)(ps:List Str)(sp:Sp):Prop where
 len:∀vs H Q E,sp vs H Q E->vs.length=ps.length
 run:∀(A:Around) (outer:List Env) (s:Shared) (H:Hp) (args:Args) (us:List Value) (vs:List V) (Q:VK),A.handled=some (.ref ea)->wD k A->qW P w K mg base A outer s H->BindsTo s fd args (ps.zip us)->zV vs us->sp vs H Q E0->
  codeAny (model P w) A (.call (.ref f) args) (CR CX0 outer P w H s Q E0) s
variable {P:Program}{w:World}{K:Frag}{mg:Str->Option Value}{base:Heap}
theorem Fun.okH{ea:Addr}{x qual:Str}{st:Stmt}{f:Addr}{fd:FuncData}{N ps:List Str}{k:Nat}{sp:Sp}(F:Fun K x qual st f fd)(S:zt N ps (zj st))(len:∀vs H Q E,sp vs H Q E->vs.length=ps.length)
  (hbody:∀(cdv:Value) (A:Around) (outer:List Env) (s:Shared) (H:Hp) (vs:List V) (Q:VK),A.handled=some (.ref ea)->wD k (A.deeper (envOfC qual (zj st) s.heap.objs.size f cdv))->sp vs H Q E0->
   ∃t,PSs (qL P w K mg base N qual (zj st) f cdv A outer s H) (z5 st) t/\t { nx:=fun _ H'=>Q .non H',rt:=Q } (xP N vs) H):zhG P w K mg base ea (k+1) f fd ps sp:=by
 obtain⟨oc,od,kV,doc,pm,an,cdv,ct,osl,rfl,lk,hcd⟩:=F.ex;exists len,fun A outer s H args us vs Q hA hr e0 hb r hsp=>?_;have hl:=len _ _ _ _ hsp;have KX:K.In s.heap:=e0.mod.kin.keeps fun b o e=>(e0.bs b o e).1;have lim:s.heap.NoLimit:=e0.mod.nolimit.keeps fun b o e=>(e0.bs b o e).1;have hkind:∀y∈ps.zip us,(zj st).names.lookup y.1=some .local\/((zj st).names.lookup y.1=some .cell/\((cellsFrom (s.heap.objs.size+1) (zj st).names []).lookup y.1).isSome=true):=fun⟨n,v⟩ hy=>by
  rcases S.par n (of_mem_zip hy).1 with q|q
  ·exact .inl q
  ·exact .inr ⟨q,cellsFrom_some _ _ _ (.inl q)⟩
 refine codeAny_call_function hr.depth (KX _ _ lk) rfl S.co S.gen rfl (codeRec_of KX hcd) (hb _ _ _ _ ?_);refine wpAny_newFunctionEnv_cells S.kind hkind fun env he s1 x=>?_;subst he;exists lim.keeps x.toInCall.keep,codeAny_func ?_;obtain⟨t,ht,hq⟩:=hbody cdv A outer s H vs Q hA (hr.deeper _) hsp;have I:Inv (qL P w K mg base N qual (zj st) f cdv A outer s H) [] (xP N vs) H s1:=qF S e0 hl r x;refine wpAny_mono (ht [] s1 (xP N vs) H _ I hq) (fun fl s' hs=>?_) fun e s' hs=>hs.elim;have fin:∀{σ':St}{H':Hp}{v:V}{u:Value},Inv (qL P w K mg base N qual (zj st) f cdv A outer s H) [] σ' H' s'->zW v u->Q v H'->CE outer P w H s Q u s':=
  fun {σ' H' v u} J rv q=>⟨v,H',J.os,J.bare,J.base,J.hok,rv,q⟩
 cases fl with
 | ret u=>
  obtain⟨v,σ',H',J,rv,q⟩:=hs;exact fin J rv q
 | next=>
  obtain⟨σ',H',J,q⟩:=hs;exact fin (v:=V.non) (u:=Value.none) J rfl q
 | brk=>
  obtain⟨_,_,_,q⟩:=hs;exact False.elim q
 | cont=>
  obtain⟨_,_,_,q⟩:=hs;exact False.elim q
structure zbz(P:Program)(w:World)(K:Frag)(mg:Str->Option Value)(base:Heap)(k:Nat)(x:Str)(f:Addr)(fd:FuncData)(ps:List Str)(sp:Addr->Sp):Prop where
 ok:∀ea,zhG P w K mg base ea k f fd ps (sp ea)
 mg:mg x=some (.ref f)
 kp:keepIn K (.ref f)=true
 bd:z0 K fd ps []
variable {k:Nat}{f ea:Addr}{fd:FuncData}{ps:List Str}{sp:Addr->Sp}{x:Str}{p pos:Pos}{e:Expr}{es:List Expr}{t:TA}
theorem cH(c:zbz X.prog X.w X.K X.mg X.base k x f fd ps sp)(hA:X.A.handled=some (.ref ea))(hr:wD k X.A)(ha:PA X (e::es) t)(hg:Gl X x:=by rfl)(hdb:(x==("__debug__" : Str))=false:=by decide)
  (h1:wB e=false:=by rfl) (h2:es.any wB=false:=by rfl):PE X (.Call (.Name x p) (e::es) [] pos) (jV (sp ea) [] E0 t):=by
 exists ?_;intro pins s σ H Q I h;refine wpAny_Call_Name_kw (wa I hg c.mg ?_ hdb);refine callWith_K (h₀:=X.base) I.ok.mod.kin c.kp (thn (ha pos pins s σ H _ I h) fun us s1 ⟨vs,H1,I1,r,q⟩=>⟨I1.kIn,?_⟩) (yC h1) (xA h2);have r2:zV (vs++[]) (us++[]):=r.append .nil;have hl:(us++[]).length=ps.length:=by rw[<- r2.length];exact(c.ok ea).len _ _ _ _ q
 refine wpAny_call (codeAny_mono ((c.ok ea).run X.A X.stack s1 H1 ⟨us,[]⟩ (us++[]) (vs++[]) Q hA hr I1.env0 (c.bd s1 us I1.kIn hl) r2 q) fun r s' hq=>?_);cases r with
 | error e=>exact False.elim hq
 | ok fl=>
  cases fl with
  | ret u=>exact I1.after hq
  | next=>exact False.elim hq
  | brk=>exact False.elim hq
  | cont=>exact False.elim hq
theorem zeH{K:Frag}{H3:Hp}{o:HO}{l b:Addr}{zs:List V}(hl:∃zs,H3 l=some (.lst zs))(hz:SqT K H3 b zs):SqT K (upd H3 l o) b zs:=by
 obtain⟨ws,hl⟩:=hl;rcases hz with (z|⟨u,z⟩)|z
 ·refine .inl (.inl ?_)
  rw[zi (fun e=>by subst e;rw[hl] at z;cases z)]
  exact z
 ·refine .inl (.inr ⟨u,?_⟩)
  rw[zi (fun e=>by subst e;rw[hl] at z;cases z)]
  exact z
 ·exact .inr z
theorem xR{K:Frag}{ok ok':Addr->Prop}{H:Hp}{o:HO}{l:Addr}{zs:List V}(hl:H l=some (.lst zs))(hk:∀b,ok b->ok' b/\b≠l){n:Nat}{x:V}{d:Dt}(h:zw K ok H n x d):zw K ok' (upd H l o) n x d:=
 h.frame (fun a xs z=>zeH ⟨_,hl⟩ z) fun a xs oa z=>⟨(hk a oa).1,by rw[zi (hk a oa).2];exact z⟩
theorem zhb{K:Frag}{lo:Int}{n m:Nat}{caps:List (Option Nat)}{g:TG}{tt:TT}{te:TE}{σ : St}{H1:Hp}{Q:VK}{D:Addr}(dt:Nat->Dt)(hD:H1 D=none)(hn:n<=1000)
  (hs:∀(i:Nat) (H:Hp) (Qf:VK) (Qs:Hp->Prop),i<n->zn H1 H->(∀v H',zn H H'->zw K (fun a=>H a=none) H' m v (dt i)->Qf v H')->
   g (.int (lo+i)) (yW caps σ) H fun σ2 H2=>tt σ2 H2 fun ok H3=>(ok=true->te σ2 H3 Qf)/\(ok=false->Qs H3))
  (hd:∀vs H,zn H1 H->H D=some (.lst vs)->Paired (zw K (fun a=>a≠D/\H1 a=none) H m) vs ((List.range n).map dt)->Q (.ref D) H):LCr (Itr lo n) caps g tt te σ H1 Q D:=by
 have sz : 1000<=sizeLine:=by decide
 refine uQ (fun i ys H'=>zn H1 H'/\H' D=some (.lst ys)/\Paired (zw K (fun a=>a≠D/\H1 a=none) H' m) ys ((List.range i).map dt)) ⟨fun b u e=>by rw[zi (zd e hD)];exact e,za,.nil⟩ ?_ ?_
 ·rintro i ys H hi ⟨sH,hDy,hp⟩
  refine hs i H _ _ hi sH fun v H' s' hv=>?_;have ly:ys.length=i:=by rw[hp.length,aA,length_range]
  refine lcN.mk hi (by omega) (s' _ _ hDy) (by omega) ⟨fun b u e=>?_,za,?_⟩
  ·rw[zi (zd e hD)]
   exact s' _ _ (sH _ _ e)
  ·rw[range_succ,aE]
   refine Paired.snoc (zr (fun _ _ z=>xR (s' _ _ hDy) (fun b o=>⟨o,o.1⟩) (z.same s')) hp) (xR (s' _ _ hDy) (fun b o=>?_) hv);have nb:b≠D:=fun e=>by subst e;rw[o] at hDy;cases hDy
   exact⟨⟨nb,sH.free o⟩,nb⟩
 ·rintro ys H ⟨sH,hDy,hp⟩
  exact hd ys H sH hDy hp
theorem zhc{K:Frag}{a:Addr}{xs:List V}{m:Nat}{caps:List (Option Nat)}{g:TG}{tt:TT}{te:TE}{σ : St}{H1:Hp}{Q:VK}{D:Addr}(dt:Nat->Dt)(hD:H1 D=none)(ha:SqL K H1 a xs)(hn:xs.length<=1000)
  (hs:∀(i:Nat) (x:V) (p:Addr) (H:Hp) (Qf:VK) (Qs:Hp->Prop),xs[i]?=some x->H p=none->zn H1 H->(∀v H',zn H H'->zw K (fun a=>H a=none) H' m v (dt i)->Qf v H')->
   g (.ref p) (yW caps σ) (upd H p (.tup [.int i,x])) fun σ2 H2=>tt σ2 H2 fun ok H3=>(ok=true->te σ2 H3 Qf)/\(ok=false->Qs H3))
  (hd:∀vs H,zn H1 H->H D=some (.lst vs)->Paired (zw K (fun a=>a≠D/\H1 a=none) H m) vs ((List.range xs.length).map dt)->Q (.ref D) H):LCr (Ite K a) caps g tt te σ H1 Q D:=by
 have sz : 1000<=sizeLine:=by decide
 refine zbn (K:=K) (xs:=xs) (fun i ys H'=>zn H1 H'/\H' D=some (.lst ys)/\Paired (zw K (fun a=>a≠D/\H1 a=none) H' m) ys ((List.range i).map dt)) ⟨fun b u e=>by rw[zi (zd e hD)];exact e,za,.nil⟩ (fun i ys H h=>h.1.seq ha) ?_ ?_
 ·rintro i x p ys H hi hx ⟨sH,hDy,hp⟩ hpn
  refine hs i x p H _ _ hx hpn sH fun v H' s' hv=>?_;have ly:ys.length=i:=by rw[hp.length,aA,length_range]
  refine lcN.mk hi (by omega) (s' _ _ hDy) (by omega) ⟨fun b u e=>?_,za,?_⟩
  ·rw[zi (zd e hD)]
   exact s' _ _ (sH _ _ e)
  ·rw[range_succ,aE]
   refine Paired.snoc (zr (fun _ _ z=>xR (s' _ _ hDy) (fun b o=>⟨o,o.1⟩) (z.same s')) hp) (xR (s' _ _ hDy) (fun b o=>?_) hv);have nb:b≠D:=fun e=>by subst e;rw[o] at hDy;cases hDy
   exact⟨⟨nb,sH.free o⟩,nb⟩
 ·rintro ys H ⟨sH,hDy,hp⟩
  exact hd ys H sH hDy hp
end
end L2
namespace K26
open PySem L2 PyProof.Rows
inductive zjT(K:Frag)(nm:Str)(vs:List V)(H:Hp)(Q:VK)(E:XK):Prop|mk(x C t v:_):vs=[.ref x,v]->H x=some (ub x C none t)->qQ K C->yJ K C nm->(∀dx,H dx=none->Q .non (upd (upd H x (ub x C (some dx) t)) dx (.xd [(nm,v)])))->zjT K nm vs H Q E
section
variable {P:Program}{w:World}{K:Frag}{mg:Str->Option Value}{base:Heap}
theorem zjV:zt ["self","number"] ["self","number"] (zj zf1):=fsc
theorem vU(F:Fun K "__init__" "Misfit.__init__" zf1 f fd):zC P w K mg base CX0 1 f fd ["self","number"] (zjT K "number"):=by
 refine F.ok zjV (fun cdv A outer s H vs Q E hr h=>?_);obtain⟨x,C,t,v,rfl,hx,m,n,q⟩:=h;exists _,zf (zif (pv 0) (pv 1) rfl),?_;exact⟨_,rfl,_,rfl,x,C,t,rfl,hx,m,n,q⟩
theorem zcP(s:zn H H2)(hx:H2 x=none)(hd:upd H2 x o d=none):zn H (drop (upd (upd (upd H2 x o) x o') d o'') x):=fun b u e=>by
 have nx:b≠x:=zd (s _ _ e) hx;have e2:upd H2 x o b=some u:=by rw[zi nx];exact s _ _ e
 rw[wI nx,zi (zd e2 hd),zi nx];exact e2
theorem zhw(hd:upd H2 x o d=none):drop (upd (upd (upd H2 x o) x o') d o'') x d=some o'':=by
 have:d≠x:=fun z=>by rw[z,za] at hd;cases hd
 rw[wI this,za]
structure jp(P:Program)(w:World)(K:Frag)(mg:Str->Option Value)(base:Heap)(x:Str)(C g:Addr)(gd:FuncData)(a nm:Str):Prop where
 call:zeB K C g
 set:qQ K C
 no:yJ K C nm
 ex:yU K C
 gl:mg x=some (.ref C)
 ok:zC P w K mg base CX0 1 g gd ["self",a] (zjT K nm)
 bd:z0 K gd ["self",a] []
structure X6(P:Program)(w:World)(K:Frag)(mg:Str->Option Value)(base:Heap)(cl:Nat->Addr)(g:Addr)(gd:FuncData):Prop where
 x0:jp P w K mg base "Doubled" (cl 0) g gd "number" "number"
 x1:jp P w K mg base "Over" (cl 1) g gd "number" "number"
 x2:jp P w K mg base "Barred" (cl 2) g gd "number" "number"
 x3:jp P w K mg base "Again" (cl 3) g gd "number" "number"
 x4:jp P w K mg base "Strange" (cl 4) g gd "number" "number"
 x5:jp P w K mg base "Lacking" (cl 5) g gd "number" "number"
def wX(z:Str):Nat:=if z="doubled" then 0 else if z="over" then 1 else if z="barred" then 2 else if z="again" then 3 else if z="strange" then 4 else 5
theorem ziR(z:Str):wX z<6:=by
 unfold wX
 repeat' split
 all_goals decide
inductive jX(cl:Nat->Addr)(vs:List V)(H:Hp)(Q:VK)(E:XK):Prop|mk(z:Str)(n:Nat):vs=[.str z,.int (n:Nat)]->(∀d H',zn H H'->H' d=some (.xd [("number",.int (n:Nat))])->E (.ref (cl (wX z))) (some d) H')->jX cl vs H Q E
theorem zfV:zt ["word","number"] ["word","number"] (zj za8):=fsc
theorem zeY{cl:Nat->Addr}(F:Fun K "refuse" "refuse" za8 f fd)(X':X6 P w K mg base cl g gd):zC P w K mg base (CXs P w) 3 f fd ["word","number"] (jX cl):=by
 refine F.okS zfV (fun vs H Q E h=>?_) (fun cdv A outer s H vs Q E hr h=>?_)
 ·obtain⟨z,n,rfl,_⟩:=h
  rfl
 obtain⟨z,n,rfl,q⟩:=h;refine⟨_,zh (zH (zk yb (pv 0) zm (zx _)) (zf (wv xS rfl (wW X'.x0.call X'.x0.ok hr rfl X'.x0.gl X'.x0.bd yi (ac (pv 1) zb)))) zv)
  (zh (zH (zk yb (pv 0) zm (zx _)) (zf (wv xS rfl (wW X'.x1.call X'.x1.ok hr rfl X'.x1.gl X'.x1.bd yi (ac (pv 1) zb)))) zv)
  (zh (zH (zk yb (pv 0) zm (zx _)) (zf (wv xS rfl (wW X'.x2.call X'.x2.ok hr rfl X'.x2.gl X'.x2.bd yi (ac (pv 1) zb)))) zv)
  (zh (zH (zk yb (pv 0) zm (zx _)) (zf (wv xS rfl (wW X'.x3.call X'.x3.ok hr rfl X'.x3.gl X'.x3.bd yi (ac (pv 1) zb)))) zv)
  (zh (zH (zk yb (pv 0) zm (zx _)) (zf (wv xS rfl (wW X'.x4.call X'.x4.ok hr rfl X'.x4.gl X'.x4.bd yi (ac (pv 1) zb)))) zv)
  (zf (wv xS rfl (wW X'.x5.call X'.x5.ok hr rfl X'.x5.gl X'.x5.bd yi (ac (pv 1) zb)))))))),?_⟩
 have go:∀{x:Str}{C:Addr}(X':jp P w K mg base x C g gd "number" "number") (Dn:vc),(C=cl (wX z))->zdW K H E (zfK C (zjT K "number") E0 (zdX (zjO 1) zhO)) Dn [some (.str z),some (.int (n:Nat))] H:=fun {x C} X' Dn hC=>by
  subst hC;exists _,rfl,by show 1<=sizeLine;decide,fun x tu hxn htn hne=>?_
  exists x,_,tu,_,rfl,za,X'.set,X'.no,fun d hd=>⟨rfl,x,_,some d,tu,rfl,?_,X'.ex,X'.call.ob,hxn,?_⟩
  ·have:x≠d:=fun z=>by rw[<- z,za] at hd;cases hd
   rw[zi this,za]
  ·exact q d _ (zcP (zn.refl _) hxn hd) (zhw hd)
 exists _,rfl,rfl,_,rfl,?_;by_cases h0:z="doubled"
 ·refine dT (congrArg V.str h0) ?_
  refine go X'.x0 _ (congrArg cl (Eq.symm ?_));unfold wX;exact aK h0
 refine dF (fun e=>h0 (V.str.inj e)) ?_;exists _,rfl,rfl,_,rfl,?_;by_cases h1:z="over"
 ·refine dT (congrArg V.str h1) ?_
  refine go X'.x1 _ (congrArg cl (Eq.symm ?_));unfold wX;rw[aJ h0];exact aK h1
 refine dF (fun e=>h1 (V.str.inj e)) ?_;exists _,rfl,rfl,_,rfl,?_;by_cases h2:z="barred"
 ·refine dT (congrArg V.str h2) ?_
  refine go X'.x2 _ (congrArg cl (Eq.symm ?_));unfold wX;rw[aJ h0];rw[aJ h1];exact aK h2
 refine dF (fun e=>h2 (V.str.inj e)) ?_;exists _,rfl,rfl,_,rfl,?_;by_cases h3:z="again"
 ·refine dT (congrArg V.str h3) ?_
  refine go X'.x3 _ (congrArg cl (Eq.symm ?_));unfold wX;rw[aJ h0];rw[aJ h1];rw[aJ h2];exact aK h3
 refine dF (fun e=>h3 (V.str.inj e)) ?_;exists _,rfl,rfl,_,rfl,?_;by_cases h4:z="strange"
 ·refine dT (congrArg V.str h4) ?_
  refine go X'.x4 _ (congrArg cl (Eq.symm ?_));unfold wX;rw[aJ h0];rw[aJ h1];rw[aJ h2];rw[aJ h3];exact aK h4
 refine dF (fun e=>h4 (V.str.inj e)) ?_;have h5:cl 5=cl (wX z):=congrArg cl (by unfold wX;rw[aJ h0,aJ h1,aJ h2,aJ h3,aJ h4])
 exact go X'.x5 { nx:=fun _ H'=>Q .non H',rt:=Q } h5
def jg(rows:List Rw)(p:Str×Nat):Bool:=(zS (yT 0 [] rows) (.inr p.1)).isNone
def uj(rows:List Rw)(fp:List (Str×Nat)):List Nat:=(fp.filter (jg rows)).map (·.2)
theorem zdk{rows:List Rw}{fp:List (Str×Nat)}{i:Nat}{p:Str×Nat}(h:fp[i]?=some p):uj rows (fp.take (i+1))=uj rows (fp.take i)++(if jg rows p=true then [p.2] else []):=by
 unfold uj;rw[take_add_one,h,filter_append,aE]
 congr 1
 show List.map _ (List.filter _ [p])=_;rw[filter_cons,filter_nil];split <;> rfl
theorem ze4(rows:List Rw)(fp:List (Str×Nat)):(uj rows fp).length<=fp.length:=by
 unfold uj;rw[aA];exact length_filter_le _ _
def vD:V->Dt
 | .int n=>.int n
 | .str z=>.str z
 | .bl b=>.bl b
 | _=>.non
def zcp(rows:List Rw)(many:Nat)(fp:List (Str×Nat))(i:Nat):Dt:=
 if zL 2 0 rows=some i then .tup [.str "places",.lst ((xo (plN rows) (many - plN rows)).map Dt.int)]
 else if zL 4 0 rows=some i then .tup [.str "names",.lst (((uj rows fp).map fun (j:Nat)=>(j:Int)).map Dt.int)]
 else match rows[i]? with
  | some r=>.tup ((uy r i many (kvP fp)).map vD)
  | none=>.non
theorem zgI{ok:Addr->Prop}{i many:Nat}{n:Nat}:Paired (zw K ok H n) (uy r i many (kvP fp)) ((uy r i many (kvP fp)).map vD):=by
 unfold uy;split
 ·exact .cons .str (.cons .int .nil)
 ·split
  next h=>
   obtain⟨v,hv⟩:=Option.isSome_iff_exists.mp h.2;obtain⟨_,j,_,rfl,_⟩:=jN hv;rw[hv];exact .cons .str (.cons .int .nil)
  ·exact .cons .str .nil
inductive zd7(K:Frag)(c:C5)(CF:Addr)(vs:List V)(H:Hp)(Q:VK)(E:XK):Prop|mk(f d:Addr)(o:Obj)(i many:Nat)(rows:List Rw)(bars:List Str)(fp:List (Str×Nat))(r:Rw):vs=[.ref f,.int (i:Nat),.int (many:Nat),.ref d]->many<=900->fp.length<=900->rows.length<=500->rows[i]?=some r->r.ok->xz c CF H f rows bars->H d=some (.frz o (.dK (kvP fp)))->(∀u H',zn H H'->zw K (fun a=>H a=none) H' 2 (.ref u) (zcp rows many fp i)->Q (.ref u) H')->zd7 K c CF vs H Q E
theorem zlM:([Str.ofString "name",Str.ofString "at",Str.ofString "form"]:List Str).Nodup:=by symm
theorem zh8:zt ["form","number","many","firsts"] ["form","number","many","firsts"] (zj zc9):=fsc
theorem zg2(F:Fun K "entry" "entry" zc9 f fd)(hran:mg "range"=none)(hlst:mg "list"=none)(FK:FC K CF)(mT:xH K CF "tail" gT)(GT:zC P w K mg base CX0 1 gT eT ["self"] (vG c CF 2))(bT:z0 K eT ["self"] [])(mP:xH K CF "places" gP)(GP:zC P w K mg base CX0 1 gP eP ["self"] (vH c CF))(bP:z0 K eP ["self"] [])
  (mB:xH K CF "bag" gB) (GB:zC P w K mg base CX0 1 gB eB ["self"] (vG c CF 4)) (bB:z0 K eB ["self"] []) (mN:xH K CF "number_of" gN) (GN:zC P w K mg base CX0 1 gN eN ["self","name"] (zd3 c CF)) (bN:z0 K eN ["self","name"] []) (mS:xH K CF "parameters" gS) (GS:zC P w K mg base CX0 1 gS eS ["self"] (jY c CF)) (bS:z0 K eS ["self"] [])
  (cE1:zG P w K mg base 2 "one_entry" g1 e1 ["parameter","number","many","firsts"] (zcI c)):zC P w K mg base CX0 3 f fd ["form","number","many","firsts"] (zd7 K c CF):=by
 refine F.ok zh8 (fun cdv A outer s H vs Q E hr h=>?_);obtain⟨f,d,o,i,many,rows,bars,fp,r,rfl,lm,lf,l5,hri,rok,hF,hd,q⟩:=h;have hr1:yn 1 _:=hr.mono (by decide)
 refine⟨_,zh (zH (zk yb (pv 1) (yG (pv 0) FK.cl mT GT hr1 bT .nil yi) (zx _)) (zf (zA (zJ (ac zm (ac (cTy (zcx rfl) hlst PyProof.Rows.boot_list (ac (cTy zfr hran boot_range (ac (yG (pv 0) FK.cl mP GP hr1 bP .nil yi) (ac (pv 2) zb))) zb)) zb))))) zv)
  (zh (zH (zk yb (pv 1) (yG (pv 0) FK.cl mB GB hr1 bB .nil yi) (zx _)) (zf (zA (zJ (ac zm (ac (xQ ["form"] ["name","at","form"] [none,none,some 0] rfl ⟨rfl,rfl,rfl,rfl⟩ (zbW (pv 3)) (xu (K:=K) (n:=2) 0 1) rfl rfl rfl
    (fun pins fp s H C=>⟨yz rfl (zy (zp (i:=0) zlM rfl ⋯ (.inr rfl)) (zy (zp (i:=1) zlM rfl ⋯ (.inr rfl)) yg)),xq (vk (zbj (zbi (pv 2) FK.cl mN GN hr1 bN .nil yi (ac (pv 0) zb)))),pv 1⟩)) zb))))) zv)
  (zf (zA (cF cE1 hr (ac (zE y6 (yG (pv 0) FK.cl mS GS hr1 bS .nil yi) (pv 1) nofun) (ac (pv 1) (ac (pv 2) (ac (pv 3) zb)))))))),?_⟩
 obtain⟨dx,fs,lr,lb,ld,ps0,h1,h2,h3,h4,h5,h6⟩:=id hF;have nmT:fs.lookup ("tail" : Str)=none:=h2.no _ (by symm)
 have nmP:fs.lookup ("places" : Str)=none:=h2.no _ (by symm)
 have nmB:fs.lookup ("bag" : Str)=none:=h2.no _ (by symm)
 have nmN:fs.lookup ("number_of" : Str)=none:=h2.no _ (by symm)
 have nmS:fs.lookup ("parameters" : Str)=none:=h2.no _ (by symm)
 have lp:plN rows<=500:=le_trans (length_filter_le _ _) l5
 try dsimp only
 refine yr (fun σ' H'=>σ'=[some (.ref f),some (.int (i:Nat)),some (.int (many:Nat)),some (.ref d)]/\H'=H/\zL 2 0 rows≠some i) ?_ (fun key=>?_);rotate_left
 ·exists _,rfl,_,rfl,f,dx,fs,rfl,h1,nmT,f,rows,bars,rfl,hF,?_
  cases hT:zL 2 0 rows with
  | none=>
   exists rfl,_,rfl,?_;refine dF (by intro z;cases z) ?_
   exact key _ _ ⟨rfl,rfl,by rw[hT];intro z;cases z⟩
  | some j=>
   exists rfl,_,rfl,?_;by_cases hij:i=j
   ·subst hij
    refine dT rfl ?_;exists _,rfl,f,dx,fs,rfl,h1,nmP,f,rows,bars,rfl,hF,_,rfl,plN rows,many,rfl,fun p hp=>?_;have s1:=zc hp (.rng (plN rows:Nat) (many:Nat));exists p,plN rows,many,rfl,za,by omega,lm,fun l hl=>?_
    have s2:=zc hl (.lst ((xo (plN rows) (many - plN rows)).map V.int));exists by show 2<=sizeLine;decide,fun u hu=>?_
    have s3:=zc hu (.tup [.str "places",.ref l]);refine q u _ (s1.trans (s2.trans s3)) ?_;unfold zcp;rw[aK hT];exact .tup (zq za) (.cons .str (.cons (.lst (s1.free hl) (s3 _ _ za) (xY _)) .nil))
   ·refine dF (fun z=>hij (by have:=V.int.inj z;omega)) ?_
    exact key _ _ ⟨rfl,rfl,by rw[hT];intro z;exact hij (Option.some.inj z).symm⟩
 rintro σ1 H1 ⟨rfl,rfl,nT⟩
 try dsimp only
 refine yr (fun σ' H'=>σ'=[some (.ref f),some (.int (i:Nat)),some (.int (many:Nat)),some (.ref d)]/\H'=H1/\zL 4 0 rows≠some i) ?_ (fun key=>?_);rotate_left
 ·exists _,rfl,_,rfl,f,dx,fs,rfl,h1,nmB,f,rows,bars,rfl,hF,?_
  cases hB:zL 4 0 rows with
  | none=>
   exists rfl,_,rfl,?_;refine dF (by intro z;cases z) ?_
   exact key _ _ ⟨rfl,rfl,by rw[hB];intro z;cases z⟩
  | some j=>
   exists rfl,_,rfl,?_;by_cases hij:i=j
   ·subst hij
    refine dT rfl ?_;exists _,rfl,d,o,kvP fp,rfl,hd,fun D hD=>?_;have lk:(kvP fp).length=fp.length:=by unfold kvP;rw[aA]
    refine zhe (fun i ys H'=>zn H1 H'/\H' D=some (.lst ys)/\ys=((uj rows (fp.take i)).map fun (j:Nat)=>(j:Int)).map V.int) ⟨zc hD _,za,rfl⟩ (fun i ys H' h=>h.1 _ _ hd) ?_ ?_
    ·rintro k kk v p ys H' hlt hk ⟨sH,hDy,ey⟩ hpn
     obtain⟨z,n,hz,rfl,rfl⟩:∃(z:Str) (n:Nat),fp[k]?=some (z,n)/\kk=.inr z/\v=.int (n:Nat):=by
      unfold kvP at hk;rw[getElem?_map] at hk;cases e:fp[k]? with
      | none=>rw[e] at hk;cases hk
      | some q=>rw[e] at hk;cases hk;exact⟨q.1,q.2,rfl,rfl,rfl⟩
     have tk:=zdk (rows:=rows) hz;have sp:=zc hpn (.tup [kV (.inr z),.int (n:Nat)]);have sA:=sH.trans sp;have hDy2:=sp _ _ hDy;exists p,_,rfl,zq za,rfl,_,_,rfl,_,_,rfl,rfl,?_;generalize upd H' p (.tup [kV (.inr z),.int (n:Nat)])=H2 at sp sA hDy2 |-;exists _,rfl,f,dx,fs,rfl,sA _ _ h1,nmN,_,rfl,f,z,rows,bars,rfl,hF.same sA,_,rfl,?_;have ly:ys.length<=k:=by
      rw[ey,aA,aA];refine le_trans (ze4 _ _) ?_;rw[length_take];omega
     cases ev:zS (yT 0 [] rows) (.inr z) with
     | none=>
      rw[show jg rows (z,n)=true from by unfold jg;rw[ev];rfl,aK rfl] at tk
      exists fun _=>?_,fun e=>?_
      ·exists _,rfl,lcN.mk hlt (zK (by omega)) hDy2 ly ⟨fun b' u' e'=>?_,za,?_⟩
       ·rw[zi (zd e' hD)]
        exact sA _ _ e'
       ·rw[ey,tk,aE,aE]
        rfl
      ·exact Bool.noConfusion e
     | some v'=>
      obtain⟨j,rfl⟩:=zdI rows 0 [] (.inr z) v' (fun k v e=>by cases e) ev
      rw[show jg rows (z,n)=false from by unfold jg;rw[ev];rfl,aJ zft,append_nil] at tk
      exists fun e=>?_,fun _=>?_
      ·exact absurd (of_decide_eq_true e) (by intro z;cases z)
      ·exact lcS.mk hlt ⟨sA,hDy2,by rw[ey,tk]⟩
    ·rintro ys H' ⟨sH,hDy,ey⟩
     rw[lk,take_length] at ey;subst ey;exists by show 2<=sizeLine;decide,fun u hu=>?_
     have s3:=zc hu (.tup [.str "names",.ref D]);refine q u _ (sH.trans s3) ?_;unfold zcp;rw[aJ nT,aK hB];exact .tup (zq za) (.cons .str (.cons (.lst hD (s3 _ _ hDy) (xY _)) .nil))
   ·refine dF (fun z=>hij (by have:=V.int.inj z;omega)) ?_
    exact key _ _ ⟨rfl,rfl,by rw[hB];intro z;exact hij (Option.some.inj z).symm⟩
 rintro σ2 H2 ⟨rfl,rfl,nB⟩;exists _,rfl,f,dx,fs,rfl,h1,nmS,f,rows,bars,rfl,hF,fun lS ps H3 s3 nS eS hps=>?_;have hi:i<rows.length:=(List.getElem?_eq_some_iff.mp hri).1;obtain⟨pa,hpa⟩:∃pa,ps[i]?=some pa:=⟨_,aB (by rw[hps.length];exact hi)⟩
 obtain⟨r',hr',hdx⟩:=yZ hps hpa;rw[hri] at hr';cases hr';exists _,rfl,lS,_,_,.ref pa,rfl,rfl,ze eS,yP (by rw[getElem?_map,hpa];rfl),_,rfl,_,rfl,_,rfl,pa,d,i,many,r,kvP fp,rfl,hdx,rok,.inr ⟨o,s3 _ _ hd⟩,fun u H4 s4 hu=>?_
 refine q u H4 (s3.trans s4) ?_;unfold zcp;rw[aJ nT,aJ nB,hri];exact .tup (zq hu) zgI
def jz(rows:List Rw)(many:Nat)(zs:List Str):List Dt:=(List.range rows.length).map (zcp rows many (fpZ zs))
inductive jE(K:Frag)(c:C5)(CF:Addr)(cl:Nat->Addr)(vs:List V)(H:Hp)(Q:VK)(E:XK):Prop|mk(f a:Addr)(rows:List Rw)(bars:List Str)(ct:List yQ):vs=[.ref f,.ref a]->vy c CF H f rows bars->wR K H a ct->(ul rows bars ct=[]->∀l xs H',zn H H'->H l=none->H' l=some (.lst xs)->Paired (zw K (fun a=>a≠l/\H a=none) H' 2) xs (jz rows (yq ct).length (zT ct))->Q (.ref l) H')->((∀m ms,ul rows bars ct=m::ms->∀d H',zn H H'->H' d=some (.xd [("number",.int (m.2:Nat))])->E (.ref (cl (wX m.1))) (some d) H'))->jE K c CF cl vs H Q E
theorem zmJ:([Str.ofString "at",Str.ofString "firsts",Str.ofString "form",Str.ofString "many"]:List Str).Nodup:=by symm
theorem vg:zt ["form","call","many","names","found","word","number","firsts"] ["form","call"] (zj zcY):=fsc
theorem zgR{cl:Nat->Addr}(F:Fun K "paper" "paper" zcY f fd)(hran:mg "range"=none)(hlen:mg "len"=none)(FK:FC K CF)(c1:zG P w K mg base 2 "shape" g1 d1 ["call"] (zaX K))(c2:zG P w K mg base 4 "misfits_of" g2 d2 ["form","many","names"] (zfO c CF))(c3:vz P w K mg base 3 "refuse" g3 d3 ["word","number"] (jX cl))
  (c4:zG P w K mg base 1 "first_numbers" g4 d4 ["names"] j3) (c5:zG P w K mg base 3 "entry" g5 d5 ["form","number","many","firsts"] (zd7 K c CF)) (mS:xH K CF "parameters" gS) (GS:zC P w K mg base CX0 1 gS eS ["self"] (jY c CF)) (bS:z0 K eS ["self"] []):zC P w K mg base (CXs P w) 5 f fd ["form","call"] (jE K c CF cl):=by
 refine F.okS vg (fun vs H Q E h=>?_) (fun cdv A outer s H vs Q E hr h=>?_)
 ·obtain⟨f,a,rows,bars,ct,rfl,_⟩:=h
  rfl
 obtain⟨f,a,rows,bars,ct,rfl,hF,⟨⟨xs,hx,hc⟩,lt,lp⟩,q1,q2⟩:=h;have hr1:yn 1 _:=hr.mono (by decide)
 have hr2:yn 2 _:=hr.mono (by decide)
 have hr3:yn 3 _:=hr.mono (by decide)
 refine⟨_,zh (ut (cF c1 hr2 (ac (pv 1) zb)) (yz rfl (zy (zp (i:=2) vg.nd rfl (Or.inr rfl)) (zy (zp (i:=3) vg.nd rfl ⋯) yg))))
  (zh (zu (i:=4) vg.nd rfl ⋯ (cF c2 hr (ac (pv 0) (ac (pv 2) (ac (pv 3) zb)))))
  (zh (zH (zgq (pv 4) (fun _=>rfl)) (zh (ut (zE y6 (pv 4) zg nofun) (yz rfl (zy (zp (i:=5) vg.nd rfl ⋯) (zy (zp (i:=6) vg.nd rfl ⋯) yg))))
   (zf (zP (cS c3 (zlB fun _ _ _ z=>z) hr3 (ac (pv 5) (ac (pv 6) zb)))))) zv)
  (zh (zu (i:=7) vg.nd rfl (Or.inr rfl) (cF c4 hr1 (ac (pv 3) zb)))
  (zf (zA (xQ ["many","form","firsts"] ["at","firsts","form","many"] [none,some 7,some 0,some 2] rfl ⟨rfl,rfl,rfl,rfl⟩ (wV rfl hran (ac (cB zI hlen PySem.boot_len (ac (yG (pv 0) FK.cl mS GS hr1 bS .nil yi) zb)) zb)) (yj 0) rfl rfl rfl
   (fun pins fp s H C=>⟨zp (i:=0) zmJ rfl ⋯ (.inr rfl),xc,cF c5 hr3 (ac (pv 2) (ac (pv 0) (ac (pv 3) (ac (pv 1) zb))))⟩))))))),?_⟩
 exists _,rfl,a,ct,xs,rfl,hx,hc,lt,lp,fun p l H1 s1 nl ep el=>?_;exists p,_,rfl,zq ep,rfl,_,_,rfl,_,_,rfl,rfl,?_;have hF1:=hF.same s1;have ln:(zT ct).length<=900:=by unfold zT;rw[aA];exact lp
 exists _,rfl,_,rfl,_,rfl,f,l,(yq ct).length,rows,bars,zT ct,rfl,hF.lr,hF.lb,lt,ln,hF.ok,hF1.at_,el,fun l2 H2 s2 ⟨us,n2,e2,m2⟩=>?_;have s12:=s1.trans s2;have hF2:=hF.same s12;exists _,rfl,_,.inl ⟨_,ze e2,rfl⟩,?_;cases em:ul rows bars ct with
 | cons mm ms=>
  have em':xB rows bars (yq ct).length (zT ct)=mm::ms:=em;rw[em'] at m2;cases m2 with
  | cons hm hms=>
   refine xt ?_;rename_i u us';exists _,rfl,l2,_,0,.ref u,rfl,rfl,ze e2,yP (j:=0) rfl,?_;exists u,_,rfl,zq hm,rfl,_,_,rfl,_,_,rfl,rfl,?_;exact⟨_,rfl,_,rfl,mm.1,mm.2,rfl,fun d H3 s3 hd=>q2 mm ms em d H3 (s12.trans s3) hd⟩
 | nil=>
  have em':xB rows bars (yq ct).length (zT ct)=[]:=em;rw[em'] at m2;cases m2;refine yf ?_;exists _,rfl,l,zT ct,rfl,s2 _ _ el,ln,fun d o H3 s3 nd hd=>?_;rw[zjC] at hd;have s13:=s12.trans s3;have hF3:=hF.same s13;obtain⟨dx,fs,lr,lb,ld,ps0,h1,h2,h3,h4,h5,h6⟩:=id hF3.at_;have nmS:fs.lookup ("parameters" : Str)=none:=h2.no _ (by symm)
  exists _,rfl,f,dx,fs,rfl,h1,nmS,f,rows,bars,rfl,hF3.at_,fun lS ps H4 s4 nS eS hps=>?_;have lps:(ps.map V.ref).length=rows.length:=by rw[aA];exact hps.length
  have s14:=s13.trans s4;have hF4:=hF.same s14;have hlr:=hF.lr;exists lS,_,rfl,.inl (ze eS),((ps.map V.ref).length:Nat),rfl,by omega,by omega,fun D hD=>?_
  have lfp:(fpZ (zT ct)).length<=900:=by
   have:=uT (zT ct) 0 []
   show(fpF 0 [] (zT ct)).length<=900;simp at this;omega
  refine zhb (K:=K) (m:=2) (zcp rows (yq ct).length (fpZ (zT ct))) hD (by omega) (fun i H5 Qf Qs hi s5 qf=>?_) (fun vs H5 s5 hDv hp=>?_)
  ·have hi':i<rows.length:=by omega
   have hri:rows[i]?=some rows[i]:=aB hi';exists fun _=>?_,fun e=>Bool.noConfusion e;exists _,rfl,_,rfl,_,rfl,_,rfl,f,d,o,i,(yq ct).length,rows,bars,fpZ (zT ct),rows[i],(by rw[Int.zero_add];rfl),lt,lfp,hF.lr,hri,hF.ok _ (getElem_mem hi'),(hF4.same s5).at_,s5 _ _ (s4 _ _ hd),fun u H6 s6 hs6=>qf _ _ s6 hs6
  ·refine q1 em D vs H5 (s14.trans s5) (s14.free hD) hDv ?_
   unfold jz
   have:(((ps.map V.ref).length:Nat):Int).toNat=rows.length:=by omega
   rw[this] at hp;exact zr (fun _ _ z=>x6 (fun b o _=>⟨o.1,s14.free o.2⟩) z) hp
inductive zcL(K:Frag)(vs:List V)(H:Hp)(Q:VK)(E:XK):Prop|mk(a:Addr)(ns:List Int)(k:Nat):vs=[.ref a,.int k]->SqL K H a (ns.map V.int)->ns.length<=63->(∀(n:Int) H',zn H H'->(n∈ns\/n=0)->Q (.int n) H')->zcL K vs H Q E
inductive za0(vs:List V)(H:Hp)(Q:VK)(E:XK):Prop|mk(i:Int):vs=[.int i]->(Q (.bl true) H)->za0 vs H Q E
def xm(c k:Int):Int:=(c % 2147483647 * 48271+k * 104729+5) % 2147483629 * ((c % 2147483647 * 48271+k * 104729+5) % 2147483629) % 2147483587
inductive jZ(vs:List V)(H:Hp)(Q:VK)(E:XK):Prop|mk(c k:Int):vs=[.int c,.int k]->(Q (.int (xm c k)) H)->jZ vs H Q E
def vf(c k:Int):Int:=if xm c k % 2=0 then xm c k / 2 % 13 - 6 else (c * 982451653 ^ (5:Int).toNat+k) % (2 * 10 ^ (60:Int).toNat - 1) - 10 ^ (60:Int).toNat+1
inductive zd1(vs:List V)(H:Hp)(Q:VK)(E:XK):Prop|mk(c k:Int):vs=[.int c,.int k]->Builtin.Int.intBits c<=1048600->(Q (.int (vf c k)) H)->zd1 vs H Q E
def xl(c:Int)(k:Nat):Str:=Txt.slice "zyxwvut" none (some ((c / 26+(k:Int)) % 8))++(⟨#[97+((c+3 * (k:Int)) % 26).toNat]⟩:Str)
inductive zfM(K:Frag)(vs:List V)(H:Hp)(Q:VK)(E:XK):Prop|mk(c:Int):vs=[.int c]->(∀r H',zn H H'->H r=none->H' r=some (.lst (((List.range 26).map (xl c)).map V.str))->Q (.ref r) H')->zfM K vs H Q E
theorem zkW:∀m,m<26->(Str.ofString "abcdefghijklmnopqrstuvwxyz").cps.toList[m]?=some (97+m):=by symm
theorem zdb:∀a,a<8->∀m,m<26->xO (Txt.slice "zyxwvut" none (some ((a:Nat):Int))++(⟨#[97+m]⟩:Str))=true:=by symm
theorem zaq(c:Int)(k:Nat):xO (xl c k)=true:=by
 have h0 : 0<=(c / 26+(k:Int)) % 8:=emod_nonneg _ (by decide)
 have h1:(c / 26+(k:Int)) % 8<8:=emod_lt_of_pos _ (by decide)
 have h2 : 0<=(c+3 * (k:Int)) % 26:=emod_nonneg _ (by decide)
 have h3:(c+3 * (k:Int)) % 26<26:=emod_lt_of_pos _ (by decide)
 obtain⟨a,ha⟩:=eq_ofNat_of_zero_le h0;unfold xl;rw[ha];exact zdb a (by omega) _ (by omega)
theorem zar(c:Int)(k:Nat):(xl c k).cps.toList.getLast?=some (97+((c+3 * (k:Int)) % 26).toNat):=by
 show((Txt.slice "zyxwvut" none (some ((c / 26+(k:Int)) % 8))).cps++#[97+((c+3 * (k:Int)) % 26).toNat]).toList.getLast?=_;rw[Array.toList_append];simp
theorem zgu{c:Int}{j k:Nat}(hj:j<26)(hk:k<26)(e:xl c j=xl c k):j=k:=by
 have h1:=zar c j;rw[e,zar c k] at h1;have h2:=Option.some.inj h1;have a0 : 0<=(c+3 * (j:Int)) % 26:=emod_nonneg _ (by decide)
 have a1 : 0<=(c+3 * (k:Int)) % 26:=emod_nonneg _ (by decide)
 omega
theorem zb7{c:Int}(h:Builtin.Int.intBits c<=1048600):IntMulOk c ((982451653:Int) ^ (5:Int).toNat):=by
 have hb:Builtin.Int.intBits ((982451653:Int) ^ (5:Int).toNat)<=200:=by symm
 have h2:Builtin.Int.intTooBig (Builtin.Int.intBits c+Builtin.Int.intBits ((982451653:Int) ^ (5:Int).toNat))=false:=by
  unfold Builtin.Int.intTooBig bitsLine;exact aD (by omega)
 unfold IntMulOk;rw[h2];simp
structure zjh(K:Frag)(mg:Str->Option Value):Prop where
 isi:mg "isinstance"=none
 str:mg "str"=none
 bool:mg "bool"=none
 int:mg "int"=none
 tuple:mg "tuple"=none
 list:mg "list"=none
 len:mg "len"=none
 range:mg "range"=none
 enumerate:mg "enumerate"=none
theorem zj5:zt ["_law_script","_law_at"] ["_law_script","_law_at"] (zj zgh):=fsc
theorem ziK(F:Fun K "_law_cell" "_law_cell" zgh f fd):zC P w K mg base CX0 1 f fd ["_law_script","_law_at"] (zcL K):=by
 refine F.ok zj5 (fun cdv A outer s H vs Q E hr h=>?_);obtain⟨a,ns,k,rfl,hS,h63,q⟩:=h;exists _,zf (zA (zE y6 (zl ye (zM z8 (pv 0) (zQ (pv 1)) (zQ (zl yc (pv 1) zg))) (zN (ac zg zb))) zg nofun)),?_;obtain⟨ms,e1,e2,e3⟩:=zhA ns (some (k:Int)) (some ((k:Int)+1));exists _,rfl,_,rfl,_,rfl,_,rfl,_,_,rfl,rfl,_,rfl,a,_,rfl,hS,fun p hp=>?_;rw[e1];exists ja,fun l hl=>?_;have npl:p≠l:=zd za hl;exists p,l,_,_,rfl,rfl,(by rw[zi npl,za]),za,?_,fun c hc=>?_
 ·rw[aA]
  show ms.length+1<=sizeLine;exact zK (by omega)
 have s3:=(zc hp (.lst (ms.map V.int))).trans ((zc hl (.lst [.int 0])).trans (zc hc (.lst (ms.map V.int++[.int 0]))));cases ms with
 | nil=>exact⟨c,_,0,.int 0,rfl,rfl,ze za,rfl,q 0 _ s3 (.inr rfl)⟩
 | cons m r=>exact⟨c,_,0,.int m,rfl,rfl,ze za,yP (j:=0) rfl,q m _ s3 (.inl (e3 m (by simp)))⟩
theorem zh3:zt ["_law_found"] ["_law_found"] (zj zc3):=fsc
theorem ze0(F:Fun K "_law_is_int" "_law_is_int" zc3 f fd)(T:zjh K mg):zhF P w K mg base 1 f fd ["_law_found"] za0:=by
 refine F.okM zh3 (fun vs H Q E h=>?_) (fun cdv A outer s H vs Q hr h=>?_)
 ·obtain⟨i,rfl,_⟩:=h
  rfl
 obtain⟨i,rfl,q⟩:=h;refine⟨_,zf (zA (zgC (zko (cB wJ T.isi boot_isinstance (ac (pv 0) (ac (uL (v:=.ty "bool") rfl T.bool PyProof.Rows.boot_bool rfl) zb))))
  (zdc (cB wJ T.isi boot_isinstance (ac (pv 0) (ac (uL (v:=.ty "int") rfl T.int PyProof.Rows.boot_int rfl) zb)))))),?_⟩
 exists _,rfl,_,_,_,_,rfl,.int i,zcf K,_,rfl,_,rfl,?_;refine xt ?_;exact⟨_,rfl,_,_,_,_,rfl,.int i,zdv K,q⟩
theorem zjt:zt ["_law_cell_here","_law_k","_law_number"] ["_law_cell_here","_law_k"] (zj zka):=fsc
theorem zky(F:Fun K "_law_mix" "_law_mix" zka f fd):zC P w K mg base CX0 1 f fd ["_law_cell_here","_law_k"] jZ:=by
 refine F.ok zjt (fun cdv A outer s H vs Q E hr h=>?_);obtain⟨c,k,rfl,q⟩:=h;refine⟨_,zh (zu (i:=2) zjt.nd rfl ⋯ (zl zY (zl yc (zl yc (zl jf (zl zY (pv 0) zg) zg) (zl jf (pv 1) zg)) zg) zg))
  (zf (zA (zl zY (zl jf (pv 2) (pv 2)) zg))),?_⟩
 exists _,rfl,_,_,rfl,rfl,(by show(0:Int)<2147483647;decide),_,_,rfl,rfl,.inr ⟨by decide,by decide⟩,_,rfl,_,_,rfl,rfl,.inr ⟨by decide,by decide⟩,_,_,rfl,rfl,_,_,rfl,rfl,_,_,rfl,rfl,(by show(0:Int)<2147483629;decide),?_
 have h1 : 0<=(c % 2147483647 * 48271+k * 104729+5) % 2147483629:=emod_nonneg _ (by decide)
 have h2:(c % 2147483647 * 48271+k * 104729+5) % 2147483629<2147483629:=emod_lt_of_pos _ (by decide)
 exact⟨_,rfl,_,rfl,_,_,rfl,rfl,.inl ⟨by omega,by omega⟩,_,_,rfl,rfl,(by show(0:Int)<2147483587;decide),q⟩
theorem zd8:zt ["_law_cell_here","_law_k","_law_number"] ["_law_cell_here","_law_k"] (zj zcT):=fsc
theorem zgN(F:Fun K "_law_thing" "_law_thing" zcT f fd)(cM:zG P w K mg base 1 "_law_mix" g gd ["_law_cell_here","_law_k"] jZ):zC P w K mg base CX0 2 f fd ["_law_cell_here","_law_k"] zd1:=by
 refine F.ok zd8 (fun cdv A outer s H vs Q E hr h=>?_);obtain⟨c,k,rfl,hb,q⟩:=h;refine⟨_,zh (zu (i:=2) zd8.nd rfl ⋯ (cF cM hr (ac (pv 0) (ac (pv 1) zb))))
  (zh (zH (zk yb (zl zY (pv 2) zg) zg (zx _)) (zf (zA (zl qo (zl zY (zl yp (pv 2) zg) zg) zg))) zv)
  (zf (zA (zl yc (zl qo (zl zY (zl yc (zl zit (pv 0) (zl zdf zg zg)) (pv 1)) (zl qo (zl jf zg (zl zdf zg zg)) zg)) (zl zdf zg zg)) zg)))),?_⟩
 exists _,rfl,_,rfl,c,k,rfl,?_;exists _,rfl,_,_,rfl,rfl,zp2,rfl,_,rfl,?_;by_cases hm2:xm c k % 2=0
 ·refine dT (congrArg V.int hm2) ?_
  unfold vf at q;rw[aK hm2] at q;exact⟨_,rfl,_,_,rfl,rfl,⟨by decide,by decide⟩,_,_,rfl,rfl,(by show(0:Int)<13;decide),_,_,rfl,rfl,q⟩
 ·refine dF (fun e=>hm2 (V.int.inj e)) ?_
  unfold vf at q;rw[aJ hm2] at q;have hm:IntMulOk c ((982451653:Int) ^ (5:Int).toNat):=zb7 hb;exact⟨_,rfl,_,_,rfl,rfl,⟨by decide,by decide,by decide⟩,_,_,rfl,rfl,hm,_,rfl,_,_,rfl,rfl,_,_,rfl,rfl,⟨by decide,by decide,by decide⟩,_,_,rfl,rfl,.inl ⟨by decide,by decide⟩,_,_,rfl,rfl,_,_,rfl,rfl,(by show(0:Int)<2 * 10 ^ Int.toNat 60 - 1;decide +kernel),_,_,rfl,rfl,⟨by decide,by decide,by decide⟩,_,_,rfl,rfl,_,_,rfl,rfl,q⟩
theorem za6:zt ["_law_cell_here","_law_names","_law_k","_law_stem"] ["_law_cell_here"] (zj zf5):=fsc
theorem ziy(F:Fun K "_law_pool" "_law_pool" zf5 f fd)(T:zjh K mg):zC P w K mg base CX0 1 f fd ["_law_cell_here"] (zfM K):=by
 refine F.ok za6 (fun cdv A outer s H vs Q E hr h=>?_);obtain⟨c,rfl,q⟩:=h;refine⟨_,zh (zu (i:=1) za6.nd rfl ⋯ (zN zb))
  (zh (xk PassesOwn.never rfl (wV rfl T.range (ac zg zb)) (zp (i:=2) za6.nd rfl ⋯)
   (zh (zu (i:=3) za6.nd rfl ⋯ (zM ur zm zX (zQ (zl zY (zl yc (zl yp (pv 0) zg) (pv 2)) zg))))
   (zf (zP (y8 PySem.F.plainAttrs_list PySem.F.slot_list_append PySem.F.type_list_append zU (pv 1) (ac (zl xW (pv 3) (zE zhi zm (zl zY (zl yc (pv 0) (zl jf zg (pv 2))) zg) nofun)) zb))))))
  (zf (zA (pv 1)))),?_⟩
 exists xK,fun r hr0=>?_;refine⟨26,rfl,by decide,by decide,zaI (n:=26) (fun i σ H2=>∃v2 v3,σ=[some (.int c),some (.ref r),v2,v3]/\H2 r=some (.lst (((List.range i).map (xl c)).map V.str))/\zn H H2)
  ⟨_,_,rfl,za,zc hr0 _⟩ ?_ ?_⟩
 ·rintro i σ H2 hi ⟨v2,v3,rfl,g,sH⟩
  exists _,rfl,_,_,rfl,rfl,⟨by decide,by decide⟩,_,rfl,_,_,rfl,rfl,_,_,rfl,rfl,zp8,_,rfl,_,rfl,(by symm),?_
  have h0 : 0<=(c+3 * ((0:Int)+(i:Int))) % 26:=emod_nonneg _ (by decide)
  have h1:(c+3 * ((0:Int)+(i:Int))) % 26<26:=emod_lt_of_pos _ (by decide)
  have hch:atI (Str.ofString "abcdefghijklmnopqrstuvwxyz").cps.toList ((c+3 * ((0:Int)+(i:Int))) % 26)=some (97+((c+3 * ((0:Int)+(i:Int))) % 26).toNat):=by
   obtain⟨m,hm⟩:=eq_ofNat_of_zero_le h0;rw[hm];have hm2:m<26:=by omega
   exact yP (zkW m hm2)
  exists _,rfl,.inl ⟨rfl,_,ze g⟩,_,rfl,_,rfl,_,rfl,_,_,rfl,rfl,.inl ⟨by decide,by decide⟩,_,_,rfl,rfl,_,_,rfl,rfl,(by show(0:Int)<26;decide),_,_,_,rfl,rfl,(by symm),hch,?_
  have hsl:=Txt.slice_le (Str.ofString "zyxwvut") none (some ((c / 26+(0+(i:Int))) % 8));have hs7:(Str.ofString "zyxwvut").length=7:=by symm
  exists _,_,rfl,rfl,zK (by rw[hs7] at hsl;show _+1<=1000;omega),r,_,_,rfl,rfl,g,(by rw[aA,aA,length_range];exact zF (by omega)),?_
  exists _,_,rfl,?_,wf sH hr0 _;rw[za,range_succ,aE,aE];show _=some (HO.lst (_++[V.str (xl c i)]));unfold xl;rw[Int.zero_add]
 ·rintro σ H2 ⟨v2,v3,rfl,g,sH⟩
  exact⟨_,rfl,q r H2 sH hr0 g⟩
theorem zb4{l g:Nat}(hg:grp r.k=g)(hb:w9 l g=false)(h:yL g rs=true):yL l (r::rs)=true:=by
 show(!w9 l (grp r.k)&&yL (grp r.k) rs)=true;rw[hg,hb,h];rfl
theorem qm{g:Nat}(he:w9 g g=false):∀(xs ys:List Rw) (l:Nat),w9 l g=false->(∀r∈xs,grp r.k=g)->yL l ys=true->yL g ys=true->yL l (xs++ys)=true
 | [],_,_,_,_,h1,_=>h1
 | r::rs,ys,l,hb,hg,_,h2=>zb4 (hg r mem_cons_self) hb (qm he rs ys g he (fun x hx=>hg x (mem_cons_of_mem _ hx)) h2 h2)
theorem zeh{g l:Nat}(hl:xs.length<=1)(hb:w9 l g=false)(hg:∀r∈xs,grp r.k=g)(h1:yL l ys=true)(h2:yL g ys=true):yL l (xs++ys)=true:=by
 match xs,hl with
 | [],_=>exact h1
 | [r],_=>exact zb4 (hg r mem_cons_self) hb h2
theorem zis(g0:∀r∈xs0,grp r.k=0)(g1:∀r∈xs1,grp r.k=1)(l1:xs1.length<=1)(g2:∀r∈xs2,grp r.k=2)(g3:∀r∈xs3,grp r.k=3)(l3:xs3.length<=1):yL 0 (xs0++(xs1++(xs2++xs3)))=true:=by
 have h3:∀l,l<=2->yL l xs3=true:=fun l hl=>by
  have:=zeh (g:=3) (l:=l) (ys:=[]) l3 (by match l,hl with|0,_=>rfl|1,_=>rfl|2,_=>rfl) g3 rfl rfl
  rwa [append_nil] at this
 have h2:∀l,l<=1->yL l (xs2++xs3)=true:=fun l hl=>qm (g:=2) rfl xs2 xs3 l (by match l,hl with|0,_=>rfl|1,_=>rfl) g2 (h3 l (by omega)) (h3 2 (by omega))
 have h1:yL 0 (xs1++(xs2++xs3))=true:=zeh (g:=1) l1 rfl g1 (h2 0 (by omega)) (h2 1 (by omega))
 exact qm (g:=0) rfl xs0 _ 0 rfl g0 h1 h1
theorem vp(a b:List Rw):nms (a++b)=nms a++nms b:=by unfold nms;rw[filter_append,aE]
theorem jM(r:Rw):nms [r]=if ym r.k=true then [r.z] else []:=by
 unfold nms;cases h:ym r.k <;> simp [h]
theorem zkP{k:Nat}(hk:k<5)(h:ym k=true):grp k=0\/grp k=2:=by
 rcases lt5 hk with rfl|rfl|rfl|rfl|rfl <;> first|(exact .inl rfl)|(exact .inr rfl)|(cases h)
theorem zek{g:Nat}(hg:∀r∈xs,r.ok/\grp r.k=g)(h:g % 2=1):nms xs=[]:=by
 unfold nms;rw[List.filter_eq_nil_iff.mpr (fun r hr e=>?_)]
 ·rfl
 ·obtain⟨ho,q⟩:=hg r hr
  rcases zkP ho.1 e with z|z <;> rw[z] at q <;> rw[<- q] at h <;> cases h
structure FS where
 (P T G B:List Rw) (L:List Str)
def FS.add(S:FS)(k:Nat)(z:Str)(b:Bool):FS:=match k with
 | 0=>{ S with P:=S.P++[⟨0,z,b⟩] }
 | 1=>{ S with P:=S.P++[⟨1,z,b⟩],L:=S.L++[z] }
 | 2=>{ S with T:=[⟨2,z,b⟩] }
 | 3=>{ S with G:=S.G++[⟨3,z,b⟩],L:=S.L++[z] }
 | _=>{ S with B:=[⟨4,z,b⟩] }
structure FM(i:Nat)(S:FS):Prop where
 okP:∀r∈S.P,r.ok/\grp r.k=0
 okT:∀r∈S.T,r.ok/\grp r.k=1
 okG:∀r∈S.G,r.ok/\grp r.k=2
 okB:∀r∈S.B,r.ok/\grp r.k=3
 lT:S.T.length<=1
 lB:S.B.length<=1
 nd:(nms S.P++nms S.G).Nodup
 sn:∀z∈nms S.P++nms S.G,z∈S.L
 ln:S.P.length+S.T.length+S.G.length+S.B.length<=i
 lL:S.L.length<=i
theorem qz{α : Type}{xs:List α}{y : α}{p : α->Prop}(h:∀x∈xs,p x)(hy:p y):∀x∈xs++[y],p x:=fun x hx=>by
 rcases List.mem_append.mp hx with hx|hx
 ·exact h x hx
 ·rw[List.mem_singleton.mp hx];exact hy
theorem FM.zero:FM 0 ⟨[],[],[],[],[]⟩:=by
 refine⟨?_,?_,?_,?_,?_,?_,?_,?_,?_,?_⟩ <;> first|exact(fun _ h=>nomatch h)|exact zero_le _|exact List.nodup_nil|exact aF _
theorem zg6(h:(a++b).Nodup)(hz:z∉a++b):(a++[z]++b).Nodup:=by
 have p:(a++[z]++b).Perm (z::(a++b)):=by
  rw[append_assoc];exact List.perm_middle
 exact p.nodup_iff.mpr (List.nodup_cons.mpr ⟨hz,h⟩)
theorem FM.add{i:Nat}{k:Nat}(h:FM i S)(hk:k<5)(hz:xO z=true)(hn:ym k=true->z∉S.L):FM (i+1) (S.add k z b):=by
 have ln:=h.ln;have lL:=h.lL;have lT:=h.lT;have lB:=h.lB
 match k,hk with
 | 0,_=>
  have e:nms (S.P++[⟨0,z,b⟩])=nms S.P:=by rw[vp,jM];simp [ym]
  exact⟨qz h.okP ⟨⟨lt_of_sub_eq_succ rfl,hz⟩,rfl⟩,h.okT,h.okG,h.okB,h.lT,h.lB,by show(nms (S.P++_)++nms S.G).Nodup;rw[e];exact h.nd,by show ∀y∈nms (S.P++_)++nms S.G,y∈S.L;rw[e];exact h.sn,
   by show(S.P++[_]).length+S.T.length+S.G.length+S.B.length<=i+1;rw[aG,length_singleton];omega,le_succ_of_le h.lL⟩
 | 1,_=>
  have e:nms (S.P++[⟨1,z,b⟩])=nms S.P++[z]:=by rw[vp,jM];simp [ym]
  have nz:z∉nms S.P++nms S.G:=fun m=>hn rfl (h.sn z m);refine⟨qz h.okP ⟨⟨lt_of_sub_eq_succ rfl,hz⟩,rfl⟩,h.okT,h.okG,h.okB,h.lT,h.lB,by show(nms (S.P++_)++nms S.G).Nodup;rw[e];exact zg6 h.nd nz,?_,
   by show(S.P++[_]).length+S.T.length+S.G.length+S.B.length<=i+1;rw[aG,length_singleton];omega,by show(S.L++[_]).length<=i+1;rw[aG,length_singleton];omega⟩
  show ∀y∈nms (S.P++_)++nms S.G,y∈S.L++[z];rw[e];intro y hy;rw[mem_append,mem_append] at hy;rcases hy with (hy|hy)|hy
  ·exact mem_append_left _ (h.sn y (mem_append_left _ hy))
  ·exact mem_append_right _ hy
  ·exact mem_append_left _ (h.sn y (mem_append_right _ hy))
 | 2,_=>
  exists h.okP,fun r hr=>?_,h.okG,h.okB,aF _,h.lB,h.nd,h.sn,?_,le_succ_of_le h.lL
  ·rw[List.mem_singleton.mp hr];exact⟨⟨lt_of_sub_eq_succ rfl,hz⟩,rfl⟩
  ·show S.P.length+1+S.G.length+S.B.length<=i+1
   omega
 | 3,_=>
  have e:nms (S.G++[⟨3,z,b⟩])=nms S.G++[z]:=by rw[vp,jM];simp [ym]
  have nz:z∉nms S.P++nms S.G:=fun m=>hn rfl (h.sn z m);refine⟨h.okP,h.okT,qz h.okG ⟨⟨lt_of_sub_eq_succ rfl,hz⟩,rfl⟩,h.okB,h.lT,h.lB,?_,?_,
   by show S.P.length+S.T.length+(S.G++[_]).length+S.B.length<=i+1;rw[aG,length_singleton];omega,by show(S.L++[_]).length<=i+1;rw[aG,length_singleton];omega⟩
  ·show(nms S.P++nms (S.G++_)).Nodup
   rw[e,<- append_assoc]
   have:=zg6 (a:=nms S.P++nms S.G) (b:=[]) (z:=z) (by rw[append_nil];exact h.nd) (by rw[append_nil];exact nz)
   rwa [append_nil] at this
  ·show ∀y∈nms S.P++nms (S.G++_),y∈S.L++[z]
   rw[e];intro y hy;rw[mem_append,mem_append] at hy;rcases hy with hy|hy|hy
   ·exact mem_append_left _ (h.sn y (mem_append_left _ hy))
   ·exact mem_append_left _ (h.sn y (mem_append_right _ hy))
   ·exact mem_append_right _ hy
 | 4,_=>
  exists h.okP,h.okT,h.okG,fun r hr=>?_,h.lT,aF _,h.nd,h.sn,?_,le_succ_of_le h.lL
  ·rw[List.mem_singleton.mp hr];exact⟨⟨lt_of_sub_eq_succ rfl,hz⟩,rfl⟩
  ·show S.P.length+S.T.length+S.G.length+1<=i+1
   omega
def FS.rows(S:FS):List Rw:=S.P++S.T++S.G++S.B
theorem FM.valid{i:Nat}(h:FM i S)(hi:i<=24)(lb:bars.length<=60)(bn:∀z∈bars,xO z=true)(bd:bars.Nodup)(bl:∀z∈bars,z∉S.L):vS S.rows bars:=by
 have en:nms S.rows=nms S.P++nms S.G:=by
  unfold FS.rows;rw[vp,vp,vp,zek h.okT rfl,zek h.okB rfl,append_nil,append_nil]
 exists fun r hr=>?_,?_,lb,?_,bn,?_
 ·unfold FS.rows at hr
  rw[mem_append,mem_append,mem_append] at hr;rcases hr with ((hr|hr)|hr)|hr
  ·exact(h.okP r hr).1
  ·exact(h.okT r hr).1
  ·exact(h.okG r hr).1
  ·exact(h.okB r hr).1
 ·unfold FS.rows
  have:=h.ln
  simp only[aG];omega
 ·unfold FS.rows
  rw[append_assoc,append_assoc];exact zis (fun r hr=>(h.okP r hr).2) (fun r hr=>(h.okT r hr).2) h.lT (fun r hr=>(h.okG r hr).2) (fun r hr=>(h.okB r hr).2) h.lB
 ·rw[en]
  exact List.nodup_append.mpr ⟨h.nd,bd,fun x hx y hy e=>bl y hy (e ▸ h.sn x hx)⟩
theorem TAt.keep(h:TAt H v r)(hD:∀vs,H D≠some (.tup vs)):TAt (upd H D o) v r:=by
 show upd H D o v=_;rw[zi (fun e=>by subst e;exact hD _ h)]
 exact h
def ui(H:Hp)(l:Addr)(rows:List Rw):Prop:=∃us:List Addr,H l=some (.lst (us.map V.ref))/\Paired (TAt H) us rows
theorem ui.same(h:ui H l rows)(s:zn H H'):ui H' l rows:=let ⟨us,h1,h2⟩:=h;⟨us,s _ _ h1,z9 s h2⟩
theorem ui.keep(h:ui H l rows)(ne:l≠D)(hD:∀vs,H D≠some (.tup vs)):ui (upd H D o) l rows:=
 let ⟨us,h1,h2⟩:=h
 ⟨us,by rw[zi ne];exact h1,zr (fun _ _ z=>z.keep hD) h2⟩
theorem ui.snoc(h1:H l=some (.lst (us.map V.ref)))(h2:Paired (TAt H) us rows)(hu:TAt H u r):ui (upd H l (.lst (us.map V.ref++[.ref u]))) l (rows++[r]):=by
 have hD:∀vs,H l≠some (.tup vs):=fun vs e=>by rw[h1] at e;cases e
 exists us++[u],by rw[za,aE];rfl,Paired.snoc (zr (fun _ _ z=>z.keep hD) h2) (hu.keep hD)
def xa(ta ba:Addr):List (Key×V):=[(.inr "tail",.ref ta),(.inr "bag",.ref ba)]
theorem zkS(ta ba x:Addr):yF (xa ta ba) (.inr "tail") (.ref x)=xa x ba:=by
 have e:¬((Sum.inr (Str.ofString "bag"):Key)=Sum.inr (Str.ofString "tail")):=by symm
 unfold yF xa;simp [e]
theorem zkT(ta ba x:Addr):yF (xa ta ba) (.inr "bag") (.ref x)=xa ta x:=by
 have e:¬((Sum.inr (Str.ofString "tail"):Key)=Sum.inr (Str.ofString "bag")):=by symm
 unfold yF xa;simp [e]
theorem zi8(ta ba:Addr):zS (xa ta ba) (.inr "tail")=some (.ref ta):=by
 unfold zS xa;simp
theorem zi9(ta ba:Addr):zS (xa ta ba) (.inr "bag")=some (.ref ba):=by
 have e:¬((Sum.inr (Str.ofString "tail"):Key)=Sum.inr (Str.ofString "bag")):=by symm
 unfold zS xa;simp [e]
structure FI(H H':Hp)(lp lt ll de:Addr)(S:FS):Prop where
 sm:zn H H'
 hp:ui H' lp S.P
 ht:ui H' lt S.G
 hl:H' ll=some (.lst (S.L.map V.str))
 he:∃ta ba,H' de=some (.dK (xa ta ba))/\ta≠lp/\ta≠lt/\ta≠ll/\ba≠lp/\ba≠lt/\ba≠ll/\ui H' ta S.T/\ui H' ba S.B
 n1:lp≠lt
 n2:lp≠ll
 n3:lt≠ll
 m1:H lp=none
 m2:H lt=none
 m3:H ll=none
 m4:H de=none
theorem FI.same(h:FI H H' lp lt ll de S)(s:zn H' H''):FI H H'' lp lt ll de S:=by
 obtain⟨ta,ba,e1,e2,e3,e4,e5,e6,e7,e8,e9⟩:=h.he;exact⟨h.sm.trans s,h.hp.same s,h.ht.same s,s _ _ h.hl,⟨ta,ba,s _ _ e1,e2,e3,e4,e5,e6,e7,e8.same s,e9.same s⟩,h.n1,h.n2,h.n3,h.m1,h.m2,h.m3,h.m4⟩
theorem FI.smU(h:FI H H' lp lt ll de S)(hl:H l=none):zn H (upd H' l o):=fun b u e=>by rw[zi (zd e hl)];exact h.sm _ _ e
theorem FI.addL(h:FI H H' lp lt ll de S):FI H (upd H' ll (.lst (S.L.map V.str++[.str z]))) lp lt ll de { S with L:=S.L++[z] }:=by
 have hD:∀vs,H' ll≠some (.tup vs):=fun vs e=>by rw[h.hl] at e;cases e
 obtain⟨ta,ba,e1,e2,e3,e4,e5,e6,e7,e8,e9⟩:=h.he;have nd:de≠ll:=fun e=>by rw[e,h.hl] at e1;cases e1
 exact⟨h.smU h.m3,h.hp.keep h.n2 hD,h.ht.keep h.n3 hD,by rw[za,aE];rfl,⟨ta,ba,by rw[zi nd];exact e1,e2,e3,e4,e5,e6,e7,e8.keep e4 hD,e9.keep e7 hD⟩,h.n1,h.n2,h.n3,h.m1,h.m2,h.m3,h.m4⟩
theorem FI.addP(h:FI H H' lp lt ll de S)(h1:H' lp=some (.lst (us.map V.ref)))(h2:Paired (TAt H') us S.P)(hu:TAt H' u r):FI H (upd H' lp (.lst (us.map V.ref++[.ref u]))) lp lt ll de { S with P:=S.P++[r] }:=by
 have hD:∀vs,H' lp≠some (.tup vs):=fun vs e=>by rw[h1] at e;cases e
 obtain⟨ta,ba,e1,e2,e3,e4,e5,e6,e7,e8,e9⟩:=h.he;have nd:de≠lp:=fun e=>by rw[e,h1] at e1;cases e1
 exact⟨h.smU h.m1,.snoc h1 h2 hu,h.ht.keep h.n1.symm hD,by rw[zi h.n2.symm];exact h.hl,⟨ta,ba,by rw[zi nd];exact e1,e2,e3,e4,e5,e6,e7,e8.keep e2 hD,e9.keep e5 hD⟩,h.n1,h.n2,h.n3,h.m1,h.m2,h.m3,h.m4⟩
theorem FI.addG(h:FI H H' lp lt ll de S)(h1:H' lt=some (.lst (us.map V.ref)))(h2:Paired (TAt H') us S.G)(hu:TAt H' u r):FI H (upd H' lt (.lst (us.map V.ref++[.ref u]))) lp lt ll de { S with G:=S.G++[r] }:=by
 have hD:∀vs,H' lt≠some (.tup vs):=fun vs e=>by rw[h1] at e;cases e
 obtain⟨ta,ba,e1,e2,e3,e4,e5,e6,e7,e8,e9⟩:=h.he;have nd:de≠lt:=fun e=>by rw[e,h1] at e1;cases e1
 exact⟨h.smU h.m2,h.hp.keep h.n1 hD,.snoc h1 h2 hu,by rw[zi h.n3.symm];exact h.hl,⟨ta,ba,by rw[zi nd];exact e1,e2,e3,e4,e5,e6,e7,e8.keep e3 hD,e9.keep e6 hD⟩,h.n1,h.n2,h.n3,h.m1,h.m2,h.m3,h.m4⟩
theorem FI.set(h:FI H H' lp lt ll de S)(eP:S'.P=S.P)(eG:S'.G=S.G)(eL:S'.L=S.L)(n:ta'≠lp/\ta'≠lt/\ta'≠ll/\ba'≠lp/\ba'≠lt/\ba'≠ll)(hT:ui H' ta' S'.T)(hB:ui H' ba' S'.B):FI H (upd H' de (.dK (xa ta' ba'))) lp lt ll de S':=by
 obtain⟨ta,ba,e1,e2,e3,e4,e5,e6,e7,e8,e9⟩:=h.he;have hD:∀vs,H' de≠some (.tup vs):=fun vs e=>by rw[e1] at e;cases e
 have nl:∀{l:Addr}{xs:List V},H' l=some (.lst xs)->l≠de:=fun e q=>by rw[q,e1] at e;cases e
 obtain⟨us1,p1,_⟩:=h.hp;obtain⟨us2,p2,_⟩:=h.ht;obtain⟨us3,p3,_⟩:=id hT;obtain⟨us4,p4,_⟩:=id hB;exists h.smU h.m4,?_,?_,?_,⟨ta',ba',za,n.1,n.2.1,n.2.2.1,n.2.2.2.1,n.2.2.2.2.1,n.2.2.2.2.2,hT.keep (nl p3) hD,hB.keep (nl p4) hD⟩,h.n1,h.n2,h.n3,h.m1,h.m2,h.m3,h.m4
 ·rw[eP];exact h.hp.keep (nl p1) hD
 ·rw[eG];exact h.ht.keep (nl p2) hD
 ·rw[eL,zi (nl h.hl)];exact h.hl
end
end K26
namespace L2
open PySem PySem.Spec PyProof.Rows
theorem zel{n:Nat}(h:n<=1000):n<=sizeLine:=le_of_lt (zF h)
theorem vX{α : Type}{ys:List α}{i:Nat}{y : α}(keep : α->Bool)(hy:ys[i]?=some y):(ys.take (i+1)).filter keep=(ys.take i).filter keep++(if keep y=true then [y] else []):=by
 have hi:i<ys.length:=(List.getElem?_eq_some_iff.mp hy).1;have e:ys[i]=y:=(List.getElem?_eq_some_iff.mp hy).2;rw[take_succ_eq_append_getElem hi,filter_append,e,filter_cons];rfl
theorem zer{α : Type}{ys:List α}{i:Nat}(keep : α->Bool):((ys.take i).filter keep).length<=i:=by
 have:=length_filter_le keep (ys.take i)
 rw[length_take] at this;omega
theorem zha{α : Type}{K:Frag}{a:Addr}{xs:List V}{caps:List (Option Nat)}{g:TG}{tt:TT}{te:TE}{σ : L2.St}{H1:Hp}{Q:VK}{D:Addr}(ys:List α)(keep : α->Bool)(out : α->V)(hD:H1 D=none)(ha:SqL K H1 a xs)(hl:xs.length=ys.length)(hn:xs.length<=1000)
  (hs:∀(i:Nat) (x:V) (y : α) (H:Hp) (N:VK) (S:Hp->Prop),xs[i]?=some x->ys[i]?=some y->zn H1 H->(∀H',zn H H'->keep y=true->N (out y) H')->(∀H',zn H H'->keep y=false->S H')->g x (yW caps σ) H fun σ2 H2=>tt σ2 H2 fun ok H3=>(ok=true->te σ2 H3 N)/\(ok=false->S H3))
  (hd:∀H,zn H1 H->H D=some (.lst ((ys.filter keep).map out))->Q (.ref D) H):LCr (Itl K a) caps g tt te σ H1 Q D:=by
 refine vW (K:=K) (xs:=xs) (fun i zs H'=>zn H1 H'/\H' D=some (.lst zs)/\zs=((ys.take i).filter keep).map out) ⟨zc hD _,za,rfl⟩ (fun i zs H' h=>h.1.seq ha) ?_ ?_
 ·rintro i x zs H' hlt hx ⟨sH,hDy,ez⟩
  obtain⟨y,hy⟩:∃y,ys[i]?=some y:=⟨_,aB (by omega)⟩
  refine hs i x y H' _ _ hx hy sH (fun H2 s2 hk=>?_) (fun H2 s2 hk=>?_)
  ·refine lcN.mk hlt (zel hn) (s2 _ _ hDy) (by rw[ez,aA];exact zer _) ⟨fun b' u e=>?_,za,?_⟩
   ·rw[zi (zd e hD)]
    exact s2 _ _ (sH b' u e)
   ·rw[ez,vX keep hy,aK hk,aE]
    rfl
  ·refine lcS.mk hlt ⟨sH.trans s2,s2 _ _ hDy,?_⟩
   rw[ez,vX keep hy,aJ (by rw[hk];exact zft),append_nil]
 ·rintro zs H2 ⟨s2,hDy,ez⟩
  rw[take_of_length_le (by omega)] at ez
  rw[ez] at hDy;exact hd H2 s2 hDy
theorem zbm{α : Type}{K:Frag}{a:Addr}{xs:List V}{caps:List (Option Nat)}{g:TG}{tt:TT}{te:TE}{σ : L2.St}{H1:Hp}{Q:VK}{D:Addr}(ys:List α)(keep : α->Bool)(out : α->V)(hD:H1 D=none)(ha:SqL K H1 a xs)(hl:xs.length=ys.length)(hn:xs.length<=1000)
  (hs:∀(i:Nat) (x:V) (y : α) (p:Addr) (H:Hp) (N:VK) (S:Hp->Prop),xs[i]?=some x->ys[i]?=some y->H p=none->zn H1 H->(∀H',zn H H'->keep y=true->N (out y) H')->(∀H',zn H H'->keep y=false->S H')->g (.ref p) (yW caps σ) (upd H p (.tup [.int i,x])) fun σ2 H2=>tt σ2 H2 fun ok H3=>(ok=true->te σ2 H3 N)/\(ok=false->S H3))
  (hd:∀H,zn H1 H->H D=some (.lst ((ys.filter keep).map out))->Q (.ref D) H):LCr (Ite K a) caps g tt te σ H1 Q D:=by
 refine zbn (K:=K) (xs:=xs) (fun i zs H'=>zn H1 H'/\H' D=some (.lst zs)/\zs=((ys.take i).filter keep).map out) ⟨zc hD _,za,rfl⟩ (fun i zs H' h=>h.1.seq ha) ?_ ?_
 ·rintro i x p zs H' hlt hx ⟨sH,hDy,ez⟩ hp
  obtain⟨y,hy⟩:∃y,ys[i]?=some y:=⟨_,aB (by omega)⟩
  refine hs i x y p H' _ _ hx hy hp sH (fun H2 s2 hk=>?_) (fun H2 s2 hk=>?_)
  ·refine lcN.mk hlt (zel hn) (s2 _ _ hDy) (by rw[ez,aA];exact zer _) ⟨fun b' u e=>?_,za,?_⟩
   ·rw[zi (zd e hD)]
    exact s2 _ _ (sH b' u e)
   ·rw[ez,vX keep hy,aK hk,aE]
    rfl
  ·refine lcS.mk hlt ⟨sH.trans s2,s2 _ _ hDy,?_⟩
   rw[ez,vX keep hy,aJ (by rw[hk];exact zft),append_nil]
 ·rintro zs H2 ⟨s2,hDy,ez⟩
  rw[take_of_length_le (by omega)] at ez
  rw[ez] at hDy;exact hd H2 s2 hDy
end L2
namespace K26
open PySem L2 PyProof.Rows
structure zdN(mg:Str->Option Value):Prop where
 len:mg "len"=none
 range:mg "range"=none
 min:mg "min"=none
 max:mg "max"=none
 en:mg "enumerate"=none
 list:mg "list"=none
 isi:mg "isinstance"=none
 bool:mg "bool"=none
 int:mg "int"=none
theorem xp{z:Str}:∀{zs:List Str},inV (.str z) (zs.map V.str)=decide (z∈zs)
 | []=>by simp [inV]
 | y::ys=>by
  have ih:=xp (z:=z) (zs:=ys);show(eqV (.str y) (.str z)||inV (.str z) (ys.map V.str))=_
  rw[ih]
  have:eqV (.str y) (.str z)=decide (z=y):=by
   show(y==z)=_;rw[Bool.eq_iff_iff,beq_iff_eq,decide_eq_true_eq];exact⟨Eq.symm,Eq.symm⟩
  rw[this];simp
theorem yN:∀{zs:List Str},(zs.map V.str).all xJ=true
 | []=>rfl
 | _::ys=>by
  show(true&&(ys.map V.str).all xJ)=true;rw[yN];rfl
def wH(c:Int):List Str:=(List.range 26).map (xl c)
theorem zgv{c:Int}{i:Nat}(h:(wH c)[i]?=some z):i<26/\z=xl c i:=by
 unfold wH at h;rw[getElem?_map] at h;by_cases hi:i<26
 ·rw[getElem?_range hi] at h
  exact⟨hi,(Option.some.inj h).symm⟩
 ·rw[getElem?_eq_none (by rw[length_range];omega)] at h
  cases h
theorem zeO{c:Int}{i:Nat}(h:i<26):(wH c)[i]?=some (xl c i):=by
 unfold wH;rw[getElem?_map,getElem?_range h];rfl
theorem vT(c:Int):(wH c).length=26:=by unfold wH;rw[aA,length_range]
theorem ql{c:Int}(h:z∈wH c):xO z=true:=by
 obtain⟨k,_,rfl⟩:=List.mem_map.mp h;exact zaq c k
theorem zbV(c:Int):(wH c).Nodup:=by
 unfold wH;refine List.pairwise_map.mpr (List.Pairwise.imp_of_mem ?_ List.nodup_range);intro a b ha hb ne e;exact ne (zgu (List.mem_range.mp ha) (List.mem_range.mp hb) e)
def kd8(n:Nat):Nat:=[1,0,1,3,3,2,4,1].getD n 0
theorem zkJ(n:Nat):kd8 n<5:=by
 have h:∀n,n<8->kd8 n<5:=by decide
 by_cases hn:n<8
 ·exact h n hn
 ·unfold kd8
  rw[getD_eq_getElem?_getD,getElem?_eq_none (by simp;omega)]
  exact Nat.succ_pos _
theorem zkK:∀n,n<8->atI [V.str "both",.str "seat",.str "both",.str "tag",.str "tag",.str "tail",.str "bag",.str "both"] ((n:Nat):Int)=some (.str (kw (kd8 n))):=by symm
theorem zdm(ta ba:Addr):uz [] (xa ta ba)=xa ta ba:=by
 have e:¬((Sum.inr (Str.ofString "tail"):Key)=Sum.inr (Str.ofString "bag")):=by symm
 unfold uz xa;simp only[List.foldl_cons,List.foldl_nil];unfold yF;simp [e]
theorem TAt.same(h:TAt H u r)(s:zn H H'):TAt H' u r:=s _ _ h
inductive zfS(K:Frag)(vs:List V)(H:Hp)(Q:VK)(E:XK):Prop|mk(a pa:Addr)(ns:List Int)(i most:Nat)(c:Int):vs=[.ref a,.int (i:Nat),.ref pa,.int (most:Nat)]->SqL K H a (ns.map V.int)->ns.length<=63->3<=most->most<=24->H pa=some (.lst ((wH c).map V.str))->(∀t la lb us rows bars H',zn H H'->H' t=some (.tup [.ref la,.ref lb])->H' la=some (.lst (us.map V.ref))->Paired (TAt H') us rows->H' lb=some (.lst (bars.map V.str))->vS rows bars->Q (.ref t) H')->zfS K vs H Q E
section
variable {mg:Str->Option Value}
theorem zlL:([Str.ofString "_law_k",Str.ofString "_law_name",Str.ofString "_law_more",Str.ofString "_law_told"]:List Str).Nodup:=by symm
theorem wk:zt ["_law_script","_law_at","_law_pool_here","_law_most","_law_places","_law_tags","_law_ends","_law_told","_law_more","_law_k","_law_cell_here","_law_sort","_law_name","_law_bars"] ["_law_script","_law_at","_law_pool_here","_law_most"] (zj zgd):=fsc
theorem ziG{P:Program}{w:World}{K:Frag}{base:Heap}{f:Addr}{fd:FuncData}{g1 g2:Addr}{d1 d2:FuncData}(F:Fun K "_law_form" "_law_form" zgd f fd)(U:zdN mg)(cC:zG P w K mg base 1 "_law_cell" g1 d1 ["_law_script","_law_at"] (zcL K))(cM:zG P w K mg base 1 "_law_mix" g2 d2 ["_law_cell_here","_law_k"] jZ):zC P w K mg base CX0 2 f fd ["_law_script","_law_at","_law_pool_here","_law_most"] (zfS K):=by
 refine F.ok wk (fun cdv A outer s H vs Q E hr h=>?_);obtain⟨a,pa,ns,at0,most,c,rfl,hS,h63,m3,m24,hpa,q⟩:=h;have hr1:yn 1 _:=hr;have hu1:=zaE hr;refine⟨_,zh (zu (i:=4) wk.nd rfl ⋯ (zN zb))
   (zh (zu (i:=5) wk.nd rfl ⋯ (zN zb))
   (zh (zu (i:=6) wk.nd rfl ⋯ (zim (zbU zm (zN zb) (zbU zm (zN zb) zig)) rfl rfl (by simp) (by decide)))
   (zh (zu (i:=7) wk.nd rfl (Or.inr rfl) (zN zb))
   (zh (zu (i:=8) wk.nd rfl (Or.inr rfl) (cF cC hr1 (ac (pv 0) (ac (zl yc (pv 1) zg) zb))))
   (zh (xk PassesOwn.never rfl (wV rfl U.range (ac (zl zY (cF cC hr1 (ac (pv 0) (ac (pv 1) zb))) (zl yc (pv 3) zg)) zb)) (zp (i:=9) wk.nd rfl ⋯)
   (zh (zu (i:=10) wk.nd rfl ⋯ (cF cM hr1 (ac (zl yc (pv 8) (zl jf (pv 9) (cF cC hr1 (ac (pv 0) (ac (zl yc (pv 1) zg) zb))))) (ac (pv 9) zb))))
   (zh (zu (i:=11) wk.nd rfl ⋯ (zE y6 (zN (ac zm (ac zm (ac zm (ac zm (ac zm (ac zm (ac zm (ac zm zb))))))))) (zl zY (pv 10) zg) nofun))
   (zh (zu (i:=12) wk.nd rfl ⋯ (zE y6 (pv 2) (zl zY (zl yp (pv 10) zg) (cB (jo rfl) U.min boot_min (ac zg (ac (zl qo (pv 3) zg) zb)))) nofun))
   (zh (zH (yV (yX (zk z7 (pv 11) (zN (ac zm (ac zm zb))) (by with_unfolding_all rfl)) (yy (zk z7 (pv 12) (pv 7) (by with_unfolding_all rfl))))) (zf (zu (i:=11) wk.nd rfl ⋯ zm)) zv)
   (zh (zH (zk z7 (pv 11) (zN (ac zm (ac zm zb))) (by with_unfolding_all rfl)) (zf (zP (y8 PySem.F.plainAttrs_list PySem.F.slot_list_append PySem.F.type_list_append zU (pv 7) (ac (pv 12) zb)))) zv)
   (zf (zH (zk yb (pv 11) zm (zx _)) (zf (zP (y8 PySem.F.plainAttrs_list PySem.F.slot_list_append PySem.F.type_list_append zU (pv 5) (ac (zJ (ac zm (ac (pv 12) (ac (xD yb (zl zY (zl yp (pv 10) zg) zg) zg (zx _)) zb)))) zb)))) (zf (zH (zk z7 (pv 11) (zN (ac zm (ac zm zb))) (by with_unfolding_all rfl)) (zf (zbh hu1 (pv 6) (pv 11) (zN (ac (zJ (ac (pv 11) (ac (pv 12) zb))) zb)) rfl)) (zf (zP (y8 PySem.F.plainAttrs_list PySem.F.slot_list_append PySem.F.type_list_append zU (pv 4) (ac (zJ (ac (pv 11) (ac (pv 12) (ac (xD yb (zl zY (zl yp (pv 10) zg) zg) zg (zx _)) zb)))) zb))))))))))))))
   (zh (qk (i:=13) ["_law_told","_law_more"] ["_law_k","_law_name","_law_more","_law_told"] [none,none,some 8,some 7] wk.nd rfl ⋯ rfl ⟨rfl,rfl,rfl,rfl⟩ (xr rfl U.en (ac (pv 2) zb)) (xu (K:=K) (n:=2) 0 1) rfl rfl rfl
   (fun pins fp s H C=>⟨yz rfl (zy (zp (i:=0) zlL rfl ⋯ (.inr rfl)) (zy (zp (i:=1) zlL rfl ⋯ (.inr rfl)) yg)),xq (yV (yX (zk (r:=rIn K true) xN (pv 1) (pv 3) (by with_unfolding_all rfl)) (yy (zk yb (zl zY (cF cM hr1 (ac (pv 2) (ac (zl yc (pv 0) zg) zb))) zg) zg (zx _))))),pv 1⟩))
   (zf (zA (zJ (ac (zl ye (zl ye (zl ye (pv 4) (jL hu1 (pv 6) zm nofun)) (pv 5)) (jL hu1 (pv 6) zm nofun)) (ac (pv 13) zb))))))))))),?_⟩
 exists xK,fun lp hlp=>?_;have s1:=zc hlp (.lst []);have g1:upd H lp (.lst []) lp=some (.lst []):=za;show wx _ _ _ _ (upd H lp (.lst []));generalize upd H lp (.lst [])=H1 at s1 g1 |-;exists xK,fun lt hlt=>?_;have s2:=zc hlt (.lst []);have g2:upd H1 lt (.lst []) lt=some (.lst []):=za;show wx _ _ _ _ (upd H1 lt (.lst []));generalize upd H1 lt (.lst [])=H2 at s2 g2 |-;intro de hde
 injections de hde H3 s3 g3
 exists xK,fun ta hta=>?_
 injections ta hta H4 s4 g4
 exists xK,fun ba hba=>?_
 injections ba hba H5 s5 g5
 exists s5 _ _ (s4 _ _ g3),xa ta ba,rfl,(by show 2<=15;decide),?_
 rw[zdm];have s5H:zn H H5:=s1.trans (s2.trans (s3.trans (s4.trans s5)));have v1:=s5 _ _ (s4 _ _ (s3 _ _ (s2 _ _ g1)));have v2:=s5 _ _ (s4 _ _ (s3 _ _ g2));have v4:=s5 _ _ g4;have v3:=s5 _ _ (s4 _ _ g3);have hdeH:H de=none:=(s1.trans s2).free hde;have nd:∀{l:Addr}{xs:List V},H5 l=some (.lst xs)->l≠de:=fun e z=>by rw[z,v3] at e;cases e
 have s6:∀b u,H b=some u->upd H5 de (.dK (xa ta ba)) b=some u:=fun b u e=>by rw[zi (zd e hdeH)];exact s5H _ _ e
 have w1:upd H5 de (.dK (xa ta ba)) lp=some (.lst []):=by rw[zi (nd v1)];exact v1
 have w2:upd H5 de (.dK (xa ta ba)) lt=some (.lst []):=by rw[zi (nd v2)];exact v2
 have w4:upd H5 de (.dK (xa ta ba)) ta=some (.lst []):=by rw[zi (nd v4)];exact v4
 have w5:upd H5 de (.dK (xa ta ba)) ba=some (.lst []):=by rw[zi (nd g5)];exact g5
 have w3:upd H5 de (.dK (xa ta ba)) de=some (.dK (xa ta ba)):=za;show wx _ _ _ _ (upd H5 de (.dK (xa ta ba)));generalize upd H5 de (.dK (xa ta ba))=H6 at s6 w1 w2 w3 w4 w5 |-;exists xK,fun ll hll=>?_;have s7:=zc hll (.lst []);have g7:upd H6 ll (.lst []) ll=some (.lst []):=za;show wx _ _ _ _ (upd H6 ll (.lst []));generalize upd H6 ll (.lst [])=H7 at s7 g7 |-;have I0:FI H H7 lp lt ll de ⟨[],[],[],[],[]⟩:=⟨fun b u e=>s7 _ _ (s6 b u e),⟨[],s7 _ _ w1,.nil⟩,⟨[],s7 _ _ w2,.nil⟩,g7,
  ⟨ta,ba,s7 _ _ w3,(zd (s3 _ _ (s2 _ _ g1)) hta).symm,(zd (s3 _ _ g2) hta).symm,zd w4 hll,(zd (s4 _ _ (s3 _ _ (s2 _ _ g1))) hba).symm,(zd (s4 _ _ (s3 _ _ g2)) hba).symm,zd w5 hll,⟨[],s7 _ _ w4,.nil⟩,⟨[],s7 _ _ w5,.nil⟩⟩,
  zd g1 hlt,zd w1 hll,zd w2 hll,hlp,s1.free hlt,zn.free (H':=H6) (fun b u e=>s6 b u e) hll,hdeH⟩
 exists _,rfl,_,rfl,_,_,rfl,rfl,a,ns,at0+1,rfl,I0.sm.seq hS,h63,fun more H8 s8 _=>?_;have I8:=I0.same s8;exists _,rfl,_,rfl,a,ns,at0,rfl,I8.sm.seq hS,h63,fun c0 H9 s9 _=>?_;have I9:=I8.same s9;have hm1:(0:Int)<(most:Int)+1:=by omega
 have b0 : 0<=c0 % ((most:Int)+1):=emod_nonneg _ (by omega)
 have b1:c0 % ((most:Int)+1)<(most:Int)+1:=emod_lt_of_pos _ hm1;exists _,rfl,_,_,rfl,rfl,_,_,rfl,rfl,hm1,c0 % ((most:Int)+1),rfl,by omega,by omega,?_
 clear I0 I8 s8 s9;generalize hn:(c0 % ((most:Int)+1)).toNat=n;have hn24:n<=most:=by omega
 refine zaI (n:=n) (fun i σ H'=>∃(S:FS) (v9 v10 v11 v12 v13:Option V),σ=[some (.ref a),some (.int (at0:Nat)),some (.ref pa),some (.int (most:Nat)),some (.ref lp),some (.ref lt),some (.ref de),some (.ref ll),some (.int more),v9,v10,v11,v12,v13]/\FI H H' lp lt ll de S/\FM i S)
  ⟨⟨[],[],[],[],[]⟩,_,_,_,_,_,rfl,I9,FM.zero⟩ ?_ ?_
 ·rintro i σ H1 hi ⟨S,v9,v10,v11,v12,v13,rfl,I1,M1⟩
  have hi':i<n:=hi;exists _,rfl,_,rfl,_,rfl,_,rfl,_,_,rfl,rfl,a,ns,at0+2,rfl,I1.sm.seq hS,h63,fun c2 H2 s2 _=>?_;have I2:=I1.same s2;exists _,_,rfl,rfl,.inl ⟨by omega,by omega⟩,_,_,rfl,rfl,_,rfl,_,_,rfl,?_
  generalize xm (more+((0:Int)+(i:Int)) * c2) ((0:Int)+(i:Int))=mm;exists zmn,fun l8 hl8=>?_
  injections l8 hl8 H3 s3 g3
  have I3:=I2.same s3;have e0 : 0<=mm % 8:=emod_nonneg _ (by decide)
  have e1:mm % 8<8:=emod_lt_of_pos _ (by decide)
  obtain⟨d,hd⟩:=eq_ofNat_of_zero_le e0;have hk0:=zkJ d;exists _,rfl,_,_,rfl,rfl,zp8,l8,_,_,.str (kw (kd8 d)),rfl,rfl,ze g3,(by rw[hd];exact zkK d (by omega)),?_
  obtain⟨dd,hdd,hd0,hd24⟩:∃dd:Int,dd=(if (most:Int) - 2<24 then (most:Int) - 2 else 24)/\0<dd/\dd<=24:=⟨_,rfl,by split <;> omega,by split <;> omega⟩
  have f0 : 0<=mm / 8 % dd:=emod_nonneg _ (by omega)
  have f1:mm / 8 % dd<dd:=emod_lt_of_pos _ hd0;obtain⟨j,hj⟩:=eq_ofNat_of_zero_le f0;have hj26:j<26:=by omega
  have hpa3:=I3.sm _ _ hpa;exists _,rfl,_,rfl,_,_,rfl,rfl,⟨by decide,by decide⟩,_,rfl,_,_,rfl,rfl,_,_,rfl,_,_,rfl,rfl,(by rw[<- hdd];exact hd0),pa,_,_,.str (xl c j),rfl,rfl,ze hpa3,(by rw[<- hdd,hj];exact yP (by rw[getElem?_map,zeO hj26];rfl)),?_
  have hz:=zaq c j;generalize xl c j=z at hz |-;generalize kd8 d=k0 at hk0 |-;clear e0 e1 hd f0 f1 hj hd0 hd24 hdd hj26 s2 s3 g3 hl8 I1 I2
  try dsimp only
  refine yr (fun σ' H'=>∃k:Nat,k<5/\σ'=[some (.ref a),some (.int (at0:Nat)),some (.ref pa),some (.int (most:Nat)),some (.ref lp),some (.ref lt),some (.ref de),some (.ref ll),some (.int more),some (.int ((0:Int)+(i:Int))),some (.int mm),some (.str (kw k)),some (.str z),v13]/\FI H H' lp lt ll de S/\(ym k=true->z∉S.L)) ?_ (fun key=>?_);rotate_left
  ·exists _,rfl,z6,fun l hl=>?_
   have s4:=zc hl (.lst [.str "both",.str "tag"]);exists l,_,rfl,.inl (ze za),rfl,rfl,_,rfl,?_;generalize upd H3 l (.lst [.str "both",.str "tag"])=H4 at s4 |-;have I4:=I3.same s4;cases en:ym k0 with
   | false=>
    refine jB (show inV (.str (kw k0)) [.str "both",.str "tag"]=false from (uR k0 hk0).trans en) ?_;refine yf ?_;exact key _ _ ⟨k0,hk0,rfl,I4,fun e=>by rw[en] at e;cases e⟩
   | true=>
    refine jj (show inV (.str (kw k0)) [.str "both",.str "tag"]=true from (uR k0 hk0).trans en) ?_;exists _,rfl,_,rfl,ll,_,rfl,.inl (ze I4.hl),rfl,yN,_,rfl,?_;by_cases hz1:z∈S.L
    ·refine jj (xp.trans (aC hz1)) ?_
     exact key _ _ ⟨0,by decide,rfl,I4,fun e=>by cases e⟩
    ·refine jB (xp.trans (aD hz1)) ?_
     exact key _ _ ⟨k0,hk0,rfl,I4,fun _=>hz1⟩
  clear I3;rintro σ4 H4 ⟨k,hk,rfl,I4,hn4⟩
  try dsimp only
  refine yr (fun σ' H'=>σ'=[some (.ref a),some (.int (at0:Nat)),some (.ref pa),some (.int (most:Nat)),some (.ref lp),some (.ref lt),some (.ref de),some (.ref ll),some (.int more),some (.int ((0:Int)+(i:Int))),some (.int mm),some (.str (kw k)),some (.str z),v13]/\FI H H' lp lt ll de (if ym k=true then { S with L:=S.L++[z] } else S)) ?_ (fun key=>?_)
  rotate_left
  ·exists _,rfl,z6,fun l hl=>?_
   have s5:=zc hl (.lst [.str "both",.str "tag"]);exists l,_,rfl,.inl (ze za),rfl,rfl,_,rfl,?_;generalize upd H4 l (.lst [.str "both",.str "tag"])=H5 at s5 |-;have I5:=I4.same s5;cases en:ym k with
   | false=>
    refine jB (show inV (.str (kw k)) [.str "both",.str "tag"]=false from (uR k hk).trans en) ?_;exact key _ _ ⟨rfl,by rw[en,aJ zft];exact I5⟩
   | true=>
    refine jj (show inV (.str (kw k)) [.str "both",.str "tag"]=true from (uR k hk).trans en) ?_;have lL:=M1.lL;exists _,rfl,.inl ⟨rfl,_,ze I5.hl⟩,_,rfl,ll,_,_,rfl,rfl,I5.hl,zF (by rw[aA];omega),?_
    exact key _ _ ⟨rfl,by rw[en,aK rfl];exact I5.addL⟩
  clear I4;rintro σ5 H5 ⟨rfl,I5⟩;have lP:S.P.length<=24:=by have:=M1.ln;omega
  have lG:S.G.length<=24:=by have:=M1.ln;omega
  have nextM:=fun b=>M1.add (b:=b) hk hz hn4;rcases lt5 hk with rfl|rfl|rfl|rfl|rfl
  ·have I5:FI H H5 lp lt ll de S:=I5
   exists _,rfl,rfl,_,rfl,?_;refine dF (by symm) ?_
   exists _,rfl,z6,fun l hl=>?_;have s6:=zc hl (.lst [.str "tail",.str "bag"]);exists l,_,rfl,.inl (ze za),rfl,rfl,_,rfl,?_;generalize upd H5 l (.lst [.str "tail",.str "bag"])=H6 at s6 |-;have I6:=I5.same s6;refine jB (by symm) ?_
   obtain⟨us,h1,h2⟩:=I6.hp;have hlu:us.length<=24:=by rw[h2.length];exact lP
   exists _,rfl,.inl ⟨rfl,_,ze h1⟩,_,rfl,_,rfl,_,rfl,_,_,rfl,rfl,⟨by decide,by decide⟩,_,_,rfl,rfl,zp2,rfl,qZ,fun u hu=>?_
   generalize decide (V.int (mm / 200 % 2)=V.int 1)=fb;have s7:=zc hu (.tup [.str "seat",.str z,.bl fb]);have tu:TAt (upd H6 u (.tup [.str "seat",.str z,.bl fb])) u ⟨0,z,fb⟩:=za;exists lp,_,_,rfl,rfl,s7 _ _ h1,zF (by rw[aA];omega),?_
   exact⟨S.add 0 z fb,_,_,_,_,_,rfl,(I6.same s7).addP (s7 _ _ h1) (z9 s7 h2) tu,nextM fb⟩
  ·have I5:FI H H5 lp lt ll de { S with L:=S.L++[z] }:=I5
   exists _,rfl,rfl,_,rfl,?_;refine dF (by symm) ?_
   exists _,rfl,z6,fun l hl=>?_;have s6:=zc hl (.lst [.str "tail",.str "bag"]);exists l,_,rfl,.inl (ze za),rfl,rfl,_,rfl,?_;generalize upd H5 l (.lst [.str "tail",.str "bag"])=H6 at s6 |-;have I6:=I5.same s6;refine jB (by symm) ?_
   obtain⟨us,h1,h2⟩:=I6.hp;have hlu:us.length<=24:=by rw[h2.length];exact lP
   exists _,rfl,.inl ⟨rfl,_,ze h1⟩,_,rfl,_,rfl,_,rfl,_,_,rfl,rfl,⟨by decide,by decide⟩,_,_,rfl,rfl,zp2,rfl,qZ,fun u hu=>?_
   generalize decide (V.int (mm / 200 % 2)=V.int 1)=fb;have s7:=zc hu (.tup [.str "both",.str z,.bl fb]);have tu:TAt (upd H6 u (.tup [.str "both",.str z,.bl fb])) u ⟨1,z,fb⟩:=za;exists lp,_,_,rfl,rfl,s7 _ _ h1,zF (by rw[aA];omega),?_
   exact⟨S.add 1 z fb,_,_,_,_,_,rfl,(I6.same s7).addP (s7 _ _ h1) (z9 s7 h2) tu,nextM fb⟩
  ·have I5:FI H H5 lp lt ll de S:=I5
   exists _,rfl,rfl,_,rfl,?_;refine dF (by symm) ?_
   exists _,rfl,z6,fun l hl=>?_;have s6:=zc hl (.lst [.str "tail",.str "bag"]);exists l,_,rfl,.inl (ze za),rfl,rfl,_,rfl,?_;generalize upd H5 l (.lst [.str "tail",.str "bag"])=H6 at s6 |-;have I6:=I5.same s6;refine jj (by symm) ?_
   exists _,rfl,_,rfl,z6,fun u hu=>?_;have s7:=zc hu (.tup [.str "tail",.str z]);have tu:TAt (upd H6 u (.tup [.str "tail",.str z])) u ⟨2,z,true⟩:=za;exists ja,fun ln hln=>?_;have s8:=zc hln (.lst [.ref u]);have I8:=I6.same (s7.trans s8);obtain⟨ta',ba',e1,e2,e3,e4,e5,e6,e7,e8,e9⟩:=I8.he;obtain⟨us1,p1,_⟩:=(I6.same s7).hp;obtain⟨us2,p2,_⟩:=(I6.same s7).ht;have p3:=(I6.same s7).hl;exists _,rfl,_,rfl,de,_,rfl,zdQ.k (k:=Sum.inr "tail") e1 (by show 2<sizeLine;decide),?_
   have hnew:ui (upd (upd H6 u (.tup [.str "tail",.str z])) ln (.lst [.ref u])) ln [⟨2,z,true⟩]:=⟨[u],za,.cons (tu.same s8) .nil⟩;rw[zkS];exact⟨S.add 2 z true,_,_,_,_,_,rfl,I8.set (S':=S.add 2 z true) rfl rfl rfl ⟨(zd p1 hln).symm,(zd p2 hln).symm,(zd p3 hln).symm,e5,e6,e7⟩ hnew e9,nextM true⟩
  ·have I5:FI H H5 lp lt ll de { S with L:=S.L++[z] }:=I5
   exists _,rfl,rfl,_,rfl,?_;refine dT rfl ?_;have I6:=I5;have H6:=H5;obtain⟨us,h1,h2⟩:=I6.ht;have hlu:us.length<=24:=by rw[h2.length];exact lG
   exists _,rfl,.inl ⟨rfl,_,ze h1⟩,_,rfl,_,rfl,_,_,rfl,rfl,⟨by decide,by decide⟩,_,_,rfl,rfl,zp2,rfl,qZ,fun u hu=>?_
   generalize decide (V.int (mm / 200 % 2)=V.int 1)=fb;have s7:=zc hu (.tup [.str "tag",.str z,.bl fb]);have tu:TAt (upd H5 u (.tup [.str "tag",.str z,.bl fb])) u ⟨3,z,fb⟩:=za;exists lt,_,_,rfl,rfl,s7 _ _ h1,zF (by rw[aA];omega),?_
   exact⟨S.add 3 z fb,_,_,_,_,_,rfl,(I6.same s7).addG (s7 _ _ h1) (z9 s7 h2) tu,nextM fb⟩
  ·have I5:FI H H5 lp lt ll de S:=I5
   exists _,rfl,rfl,_,rfl,?_;refine dF (by symm) ?_
   exists _,rfl,z6,fun l hl=>?_;have s6:=zc hl (.lst [.str "tail",.str "bag"]);exists l,_,rfl,.inl (ze za),rfl,rfl,_,rfl,?_;generalize upd H5 l (.lst [.str "tail",.str "bag"])=H6 at s6 |-;have I6:=I5.same s6;refine jj (by symm) ?_
   exists _,rfl,_,rfl,z6,fun u hu=>?_;have s7:=zc hu (.tup [.str "bag",.str z]);have tu:TAt (upd H6 u (.tup [.str "bag",.str z])) u ⟨4,z,true⟩:=za;exists ja,fun ln hln=>?_;have s8:=zc hln (.lst [.ref u]);have I8:=I6.same (s7.trans s8);obtain⟨ta',ba',e1,e2,e3,e4,e5,e6,e7,e8,e9⟩:=I8.he;obtain⟨us1,p1,_⟩:=(I6.same s7).hp;obtain⟨us2,p2,_⟩:=(I6.same s7).ht;have p3:=(I6.same s7).hl;exists _,rfl,_,rfl,de,_,rfl,zdQ.k (k:=Sum.inr "bag") e1 (by show 2<sizeLine;decide),?_
   have hnew:ui (upd (upd H6 u (.tup [.str "bag",.str z])) ln (.lst [.ref u])) ln [⟨4,z,true⟩]:=⟨[u],za,.cons (tu.same s8) .nil⟩;rw[zkT];exact⟨S.add 4 z true,_,_,_,_,_,rfl,I8.set (S':=S.add 4 z true) rfl rfl rfl ⟨e2,e3,e4,(zd p1 hln).symm,(zd p2 hln).symm,(zd p3 hln).symm⟩ e8 hnew,nextM true⟩
 ·rintro σ H1 ⟨S,v9,v10,v11,v12,v13,rfl,I1,M1⟩
  have hpa1:=I1.sm _ _ hpa;exists _,rfl,pa,rfl,⟨_,ze hpa1⟩,fun D hD=>?_;refine zbm (K:=K) (xs:=(wH c).map V.str) ((List.range 26).map fun k=>(k,xl c k)) (fun p=>decide (p.2∉S.L)&&decide (xm more ((p.1:Int)+30) % 6=0)) (fun p=>V.str p.2) hD (ze hpa1) (by rw[aA,vT,aA,length_range]) (by rw[aA,vT];decide) ?_ ?_
  ·rintro k x y p H2 N Sk hx hy hp sH qN qS
   obtain⟨z,hz,rfl⟩:=strs_at hx;obtain⟨hk,rfl⟩:=zgv hz;rw[getElem?_map,getElem?_range hk] at hy;cases hy;have sp:=zc hp (.tup [.int (k:Nat),.str (xl c k)]);exists p,_,rfl,zq za,rfl,_,_,rfl,_,_,rfl,rfl,?_;have I3:=(I1.same sH).same sp;generalize upd H2 p (.tup [.int (k:Nat),.str (xl c k)])=H3 at sp I3 |-;exists _,rfl,_,rfl,ll,_,rfl,.inl (ze I3.hl),rfl,yN,_,rfl,?_;by_cases hz1:xl c k∈S.L
   ·refine jB (by rw[aK rfl,xp,aC hz1];rfl) ?_
    exists fun e=>Bool.noConfusion e,fun _=>qS _ sp ?_;show(decide (xl c k∉S.L)&&_)=false;rw[aD (fun h=>h hz1)];rfl
   ·refine jj (by rw[aK rfl,xp,aD hz1];rfl) ?_
    exists _,rfl,_,rfl,_,_,rfl,rfl,_,_,rfl,_,_,rfl,rfl,(by show(0:Int)<6;decide),rfl,_,rfl,?_
    exists fun e=>⟨_,rfl,qN _ sp ?_⟩,fun e=>qS _ sp ?_
    ·show(decide (xl c k∉S.L)&&decide (xm more ((k:Int)+30) % 6=0))=true
     rw[aC hz1,Bool.true_and];exact aC (V.int.inj (of_decide_eq_true e))
    ·show(decide (xl c k∉S.L)&&decide (xm more ((k:Int)+30) % 6=0))=false
     rw[aC hz1,Bool.true_and];exact aD fun h=>of_decide_eq_false e (congrArg V.int h)
  ·intro H2 s2 hDv
   obtain⟨bars,hbars⟩:∃bars:List Str,bars=((((List.range 26).map fun k=>(k,xl c k)).filter (fun p=>decide (p.2∉S.L)&&decide (xm more ((p.1:Int)+30) % 6=0))).map (·.2)):=⟨_,rfl⟩;have hDv:H2 D=some (.lst (bars.map V.str)):=by rw[hDv,hbars,map_map];rfl
   have sub:List.Sublist bars (wH c):=by
    rw[hbars]
    have:=(filter_sublist (l:=(List.range 26).map fun k=>(k,xl c k)) (p:=fun p=>decide (p.2∉S.L)&&decide (xm more ((p.1:Int)+30) % 6=0))).map (·.2)
    rw[map_map] at this;exact this
   have lb:bars.length<=60:=by
    have:=sub.length_le
    rw[vT] at this;omega
   have V1:vS S.rows bars:=M1.valid (by omega) lb (fun z hz=>ql (sub.subset hz)) ((zbV c).sublist sub) (fun z hz=>by
    rw[hbars] at hz;obtain⟨p,hp,rfl⟩:=List.mem_map.mp hz
    have:=(List.mem_filter.mp hp).2
    rw[Bool.and_eq_true] at this;exact of_decide_eq_true this.1)
   clear hbars;have I2:=I1.same s2;obtain⟨us1,h11,h12⟩:=I2.hp;obtain⟨us3,h31,h32⟩:=I2.ht;obtain⟨ta',ba',e1,e2,e3,e4,e5,e6,e7,⟨us2,h21,h22⟩,⟨us4,h41,h42⟩⟩:=I2.he;have lP:=M1.ln;have l1:us1.length=S.P.length:=h12.length;have l2:us2.length=S.T.length:=h22.length;have l3:us3.length=S.G.length:=h32.length;have l4:us4.length=S.B.length:=h42.length;exists _,rfl,_,rfl,de,.ref ta',rfl,.inl ⟨_,.inr "tail",.inl e1,rfl,(zi8 ta' ba').symm⟩,lp,ta',_,_,rfl,rfl,h11,h21,zK (by rw[aA,aA];omega),fun x1 hx1=>?_
   rw[<- aE]
   injections x1 hx1 H3 s3 g3
   exists _,rfl,x1,lt,_,_,rfl,rfl,g3,s3 _ _ h31,zK (by rw[aA,aA,aG];omega),fun x2 hx2=>?_
   rw[<- aE]
   injections x2 hx2 H4 s4 g4
   have s24:=s3.trans s4;exists _,rfl,de,.ref ba',rfl,.inl ⟨_,.inr "bag",.inl (s24 _ _ e1),rfl,(zi9 ta' ba').symm⟩,x2,ba',_,_,rfl,rfl,g4,s24 _ _ h41,zK (by rw[aA,aA,aG,aG];omega),fun x3 hx3=>?_
   rw[<- aE]
   injections x3 hx3 H5 s5 g5
   have s25:=s24.trans s5;exists _,rfl,z6,fun t ht=>?_;have s6:=zc ht (.tup [.ref x3,.ref D]);have s26:=s25.trans s6;exact q t x3 D _ S.rows bars _ (I2.sm.trans s26) za (s6 _ _ g5) (z9 s26 (yS (yS (yS h12 h22) h32) h42)) (s26 _ _ hDv) V1
theorem PAt.upd(h:PAt c H v r)(hD:H D=some (.lst ys)):PAt c (upd H D o) v r:=by
 obtain⟨dx,h⟩:=h;exists dx,?_;rw[zi (fun e=>by rw[e,hD] at h;cases h)]
 exact h
variable {ok:Addr->Prop}{n:Nat}
theorem zbl:([Str.ofString "_law_one"]:List Str).Nodup:=by symm
end
end K26
namespace L2
open PySem PySem.Spec PyProof.Rows
inductive zlzJ(x:V)(y:V)(H:Hp)(Q:VK):Prop|mk(a c:Addr)(xs ys:List V):x=.ref a->y=.ref c->H a=some (.lst xs)->H c=some (.lst ys)->xs.length≠ys.length->(Q (.bl true) H)->zlzJ x y H Q
def zlz:R2:=fun x y H Q=>zlzJ x y H Q
theorem uN{X:Cx}(hu:X.A.units<cLine):OpR X (compareOp .NotEq) zlz:=by
 intro pins s σ H x y v u Q I rx ry h;obtain⟨a,c,xs,ys,rfl,rfl,ha,hc,hn,q⟩:=h;cases rx;cases ry;obtain⟨its,r,pl,_⟩:=I.list (ze ha);obtain⟨its2,r2,pl2,_⟩:=I.list (ze hc);have e1:=r.length;have e2:=r2.length;exact SeqAt.RcNeAt.lists_lengths pl.isList pl2.isList (by simp only[size_toArray,bne_iff_ne];omega) hu X.prog X.w X.xe _ ⟨.bl true,H,I,rfl,q⟩
end L2
namespace K26
open PySem L2 PyProof.Rows
theorem yD{n:Nat}:wt xs none (some (n:Int))=xs.take n:=by
 unfold wt;rw[HT.zl9,HT.zlu,drop_zero,Nat.sub_zero];by_cases h:n<=xs.length
 ·rw[min_eq_left h]
 ·rw[min_eq_right (by omega),take_of_length_le (aF _),take_of_length_le (by omega)]
theorem vn{α β : Type}{R : α->β->Prop}{a:List α}{c:List β}(h:Paired R a c):∀n,Paired R (a.take n) (c.take n):=by
 induction h with
 | nil=>intro n;rw[take_nil,take_nil];exact .nil
 | cons r _ ih=>
  intro n;cases n with
  | zero=>exact .nil
  | succ n=>exact .cons r (ih n)
theorem yo{n:Nat}:wt xs (some (n:Int)) none=xs.drop n:=by
 unfold wt;rw[HT.zl9,HT.zlu];by_cases h:n<=xs.length
 ·rw[min_eq_left h]
  exact take_of_length_le (by rw[length_drop];exact aF _)
 ·rw[min_eq_right (by omega),drop_of_length_le (aF _),drop_of_length_le (by omega)]
  simp
theorem vo{α β : Type}{R : α->β->Prop}{a:List α}{c:List β}(h:Paired R a c):∀n,Paired R (a.drop n) (c.drop n):=by
 induction h with
 | nil=>intro n;rw[drop_nil,drop_nil];exact .nil
 | cons r t ih=>
  intro n;cases n with
  | zero=>exact .cons r t
  | succ n=>exact ih n
def yI(m:Int)(ts:List Int)(ps:List (Str×Int)):yQ×List Int×List (Str×Int):=
 if m % 4=0/\ts≠[] then (.one (ts.headD 0),ts.drop 1,ps)
 else if m % 4=1 then (.row (ts.take (m / 4 % 4).toNat),ts.drop (m / 4 % 4).toNat,ps)
 else if m % 4=2/\ps≠[] then (.named (ps.headD ("",0)).1 (ps.headD ("",0)).2,ts,ps.drop 1)
 else (.book (ps.take (m / 4 % 4).toNat),ts,ps.drop (m / 4 % 4).toNat)
def wg(cell:Int):Nat->List yQ->List Int->List (Str×Int)->List yQ×List Int×List (Str×Int)
 | 0,ct,ts,ps=>(ct,ts,ps)
 | n+1,ct,ts,ps=>if ts.length+ps.length>0 then wg cell n (ct++[(yI (xm cell ct.length) ts ps).1]) (yI (xm cell ct.length) ts ps).2.1 (yI (xm cell ct.length) ts ps).2.2 else (ct,ts,ps)
def zak(r:List yQ×List Int×List (Str×Int)):List yQ:=
 if r.2.1.length+r.2.2.length>0 then r.1++[.row (r.2.1.take 30),.row (r.2.1.drop 30),.book (r.2.2.take 30),.book (r.2.2.drop 30)] else r.1
def wl(cell:Int)(ts:List Int)(ps:List (Str×Int)):List yQ:=zak (wg cell 26 [] ts ps)
structure IV(K:Frag)(H0 H':Hp)(l a b:Addr)(vs ys:List V)(ct:List yQ)(ts:List Int)(ps:List (Str×Int)):Prop where
 sm:zn H0 H'
 hl:H' l=some (.lst vs)
 hv:Paired (zw K (fun x=>x≠l/\H0 x=none) H' 3) vs (ct.map xf)
 ha:H' a=some (.lst (ts.map V.int))
 hb:H' b=some (.lst ys)
 hy:Paired (zw K (fun x=>x≠l/\H0 x=none) H' 1) ys (ps.map yx)
 na:a≠l
 nb:b≠l
 nl:H0 l=none
section
theorem IV.same{K:Frag}{H0 H' H'':Hp}{l a b:Addr}{vs ys:List V}{ct:List yQ}{ts:List Int}{ps:List (Str×Int)}(h:IV K H0 H' l a b vs ys ct ts ps)(s:zn H' H''):IV K H0 H'' l a b vs ys ct ts ps:=
 ⟨h.sm.trans s,s _ _ h.hl,zdw s h.hv,s _ _ h.ha,s _ _ h.hb,yH s h.hy,h.na,h.nb,h.nl⟩
theorem IV.push{K:Frag}{H0 H':Hp}{l a b:Addr}{vs ys:List V}{ct:List yQ}{ts:List Int}{ps:List (Str×Int)}{x:V}{it:yQ}(h:IV K H0 H' l a b vs ys ct ts ps)(hx:zw K (fun x=>x≠l/\H0 x=none) H' 3 x (xf it)):IV K H0 (upd H' l (.lst (vs++[x]))) l a b (vs++[x]) ys (ct++[it]) ts ps:=by
 exists fun b u e=>by rw[zi (zd e h.nl)];exact h.sm _ _ e,za,?_,by rw[zi h.na];exact h.ha,by rw[zi h.nb];exact h.hb,?_,h.na,h.nb,h.nl
 ·rw[aE]
  exact Paired.snoc (zr (fun _ _ z=>xR h.hl (fun b o=>⟨o,o.1⟩) z) h.hv) (xR h.hl (fun b o=>⟨o,o.1⟩) hx)
 ·exact zr (fun _ _ z=>xR h.hl (fun b o=>⟨o,o.1⟩) z) h.hy
theorem IV.setA{K:Frag}{H0 H':Hp}{l a b:Addr}{vs ys:List V}{ct:List yQ}{ts:List Int}{ps:List (Str×Int)}{a':Addr}{ts':List Int}(h:IV K H0 H' l a b vs ys ct ts ps)(ha:H' a'=some (.lst (ts'.map V.int)))(n:a'≠l):IV K H0 H' l a' b vs ys ct ts' ps:=⟨h.sm,h.hl,h.hv,ha,h.hb,h.hy,n,h.nb,h.nl⟩
theorem IV.setB{K:Frag}{H0 H':Hp}{l a b:Addr}{vs ys:List V}{ct:List yQ}{ts:List Int}{ps:List (Str×Int)}{b':Addr}{ys':List V}{ps':List (Str×Int)}(h:IV K H0 H' l a b vs ys ct ts ps)(hb:H' b'=some (.lst ys'))(hy:Paired (zw K (fun x=>x≠l/\H0 x=none) H' 1) ys' (ps'.map yx))(n:b'≠l):IV K H0 H' l a b' vs ys' ct ts ps':=⟨h.sm,h.hl,h.hv,h.ha,hb,hy,h.na,n,h.nl⟩
def itW(K:Frag)(H0:Hp)(cell:Int)(l:Addr)(R:List yQ×List Int×List (Str×Int))(m:Nat)(σ : L2.St)(H':Hp):Prop:=
 ∃(a b:Addr) (vs ys:List V) (ct:List yQ) (ts:List Int) (ps:List (Str×Int)) (v4 v5:Option V),σ=[some (.ref a),some (.ref b),some (.int cell),some (.ref l),v4,v5]/\IV K H0 H' l a b vs ys ct ts ps/\ct.length+m=26/\wg cell m ct ts ps=R/\ts.length<=400/\ps.length<=400
inductive zaZ(K:Frag)(vs:List V)(H:Hp)(Q:VK)(E:XK):Prop|mk(a b:Addr)(cell:Int)(ys:List V)(ts:List Int)(ps:List (Str×Int)):vs=[.ref a,.ref b,.int cell]->H a=some (.lst (ts.map V.int))->H b=some (.lst ys)->Paired (zw K T' H 1) ys (ps.map yx)->ts.length<=400->ps.length<=400->(∀l zs H',zn H H'->H l=none->H' l=some (.lst zs)->Paired (zw K (fun x=>x≠l/\H x=none) H' 3) zs ((wl cell ts ps).map xf)->Q (.ref l) H')->zaZ K vs H Q E
variable {mg:Str->Option Value}
theorem zeS{K:Frag}{ok ok':Addr->Prop}{H:Hp}{ys:List V}{ps:List (Str×Int)}(h:Paired (zw K ok H 1) ys (ps.map yx)):Paired (zw K ok' H 1) ys (ps.map yx):=by
 induction ps generalizing ys with
 | nil=>cases h;exact .nil
 | cons p ps ih=>
  cases h with
  | cons h r=>
   obtain⟨b,rfl,hb⟩:=xV h;exact .cons (.tup hb (.cons .str (.cons .int .nil))) (ih r)
theorem wp:zt ["_law_things","_law_pairs","_law_cell_here","_law_call","_law_number","_law_many"] ["_law_things","_law_pairs","_law_cell_here"] (zj zc2):=fsc
theorem zgW{K:Frag}{P:Program}{w:World}{base:Heap}{f:Addr}{fd:FuncData}{g1:Addr}{d1:FuncData}(F:Fun K "_law_items" "_law_items" zc2 f fd)(U:zdN mg)(cM:zG P w K mg base 1 "_law_mix" g1 d1 ["_law_cell_here","_law_k"] jZ):zC P w K mg base CX0 2 f fd ["_law_things","_law_pairs","_law_cell_here"] (zaZ K):=by
 refine F.ok wp (fun cdv A outer s H vs Q E hr h=>?_);obtain⟨a,b,cell,ys,ts,ps,rfl,ha,hb,hy,l1,l2,q⟩:=h;have hU:=hr.units;have hU0:=hr.units0;refine⟨_,zh (zu (i:=3) wp.nd rfl ⋯ (zN zb))
   (zh (zgt PassesOwn.never (yV (yX (zk zau (cB zI U.len PySem.boot_len (ac (pv 3) zb)) zg (zx _)) (yy (zk zej (zl yc (cB zI U.len PySem.boot_len (ac (pv 0) zb)) (cB zI U.len PySem.boot_len (ac (pv 1) zb))) zg (zx _))))) (zh (zu (i:=4) wp.nd rfl ⋯ (cF cM hr (ac (pv 2) (ac (cB zI U.len PySem.boot_len (ac (pv 3) zb)) zb))))
   (zh (zu (i:=5) wp.nd rfl ⋯ (zl zY (zl yp (pv 4) zg) zg))
   (zf (zH (yV (yX (zk yb (zl zY (pv 4) zg) zg (zx _)) (yy (zk (uF (vO hU) (uN hU0)) (pv 0) (zN zb) (zx _))))) (zh (zP (y8 PySem.F.plainAttrs_list PySem.F.slot_list_append PySem.F.type_list_append zU (pv 3) (ac (zJ (ac zm (ac (zE y6 (pv 0) zg nofun) zb))) zb)))
   (zf (zu (i:=0) wp.nd rfl ⋯ (zM z8 (pv 0) (zQ zg) zX))))
   (zf (zH (zk yb (zl zY (pv 4) zg) zg (zx _)) (zh (zP (y8 PySem.F.plainAttrs_list PySem.F.slot_list_append PySem.F.type_list_append zU (pv 3) (ac (zJ (ac zm (ac (zM z8 (pv 0) zX (zQ (pv 5))) zb))) zb)))
   (zf (zu (i:=0) wp.nd rfl ⋯ (zM z8 (pv 0) (zQ (pv 5)) zX))))
   (zf (zH (yV (yX (zk yb (zl zY (pv 4) zg) zg (zx _)) (yy (zk (uF (vO hU) (uN hU0)) (pv 1) (zN zb) (zx _))))) (zh (zP (y8 PySem.F.plainAttrs_list PySem.F.slot_list_append PySem.F.type_list_append zU (pv 3) (ac (zJ (ac zm (ac (zE zD (zE y6 (pv 1) zg nofun) zg nofun) (ac (zE zD (zE y6 (pv 1) zg nofun) zg nofun) zb)))) zb)))
   (zf (zu (i:=1) wp.nd rfl ⋯ (zM z8 (pv 1) (zQ zg) zX))))
   (zh (zP (y8 PySem.F.plainAttrs_list PySem.F.slot_list_append PySem.F.type_list_append zU (pv 3) (ac (zJ (ac zm (ac (zM z8 (pv 1) zX (zQ (pv 5))) zb))) zb)))
   (zf (zu (i:=1) wp.nd rfl ⋯ (zM z8 (pv 1) (zQ (pv 5)) zX)))))))))))))
   (zh (zH (zk zej (zl yc (cB zI U.len PySem.boot_len (ac (pv 0) zb)) (cB zI U.len PySem.boot_len (ac (pv 1) zb))) zg (zx _)) (zf (zu (i:=3) wp.nd rfl ⋯ (zl ye (pv 3) (zN (ac (zJ (ac zm (ac (zM z8 (pv 0) zX (zQ zg)) zb))) (ac (zJ (ac zm (ac (zM z8 (pv 0) (zQ zg) zX) zb))) (ac (zJ (ac zm (ac (zM z8 (pv 1) zX (zQ zg)) zb))) (ac (zJ (ac zm (ac (zM z8 (pv 1) (zQ zg) zX) zb))) zb)))))))) zv)
   (zf (zA (pv 3))))),?_⟩
 exists xK,fun l hl=>?_;have s1:=zc hl (.lst []);have I0:IV K H (upd H l (.lst [])) l a b [] ys [] ts ps:=⟨s1,za,.nil,s1 _ _ ha,s1 _ _ hb,yH s1 (zeS hy),zd ha hl,zd hb hl,hl⟩
 try dsimp only[zZ]
 generalize upd H l (.lst [])=H1 at s1 I0 |-;refine yr (fun σ' H'=>∃(a b:Addr) (vs ys:List V) (ct:List yQ) (ts':List Int) (ps':List (Str×Int)) (v4 v5:Option V),σ'=[some (.ref a),some (.ref b),some (.int cell),some (.ref l),v4,v5]/\IV K H H' l a b vs ys ct ts' ps'/\wg cell 26 [] ts ps=(ct,ts',ps')/\ct.length<=26/\ts'.length<=400/\ps'.length<=400) ?_ (fun key=>?_);rotate_left
 ·exists itW K H cell l (wg cell 26 [] ts ps),⟨26,a,b,[],ys,[],ts,ps,_,_,rfl,I0,rfl,rfl,l1,l2⟩,?_
  clear I0 s1;rintro m σ H2 ⟨a',b',vs',ys',ct,ts',ps',v4,v5,rfl,I2,hm,hR,l1',l2'⟩;have lvs:vs'.length=ct.length:=by rw[I2.hv.length,aA]
  have lys:ys'.length=ps'.length:=by rw[I2.hy.length,aA]
  have fin:(m=0\/ts'.length+ps'.length=0)->wg cell 26 [] ts ps=(ct,ts',ps'):=fun h=>by
   rw[<- hR];cases m with
   | zero=>rfl
   | succ m=>
    show(if ts'.length+ps'.length>0 then _ else _)=_
    rw[aJ (by rcases h with h|h <;> omega)]
  exists _,rfl,l,_,rfl,.inl (ze I2.hl),_,_,rfl,rfl,_,rfl,?_;by_cases h26:vs'.length<26
  rotate_left
  ·refine dF (by show ¬(vs'.length:Int)<26;omega) ?_
   refine yf ?_;exact key _ _ ⟨a',b',vs',ys',ct,ts',ps',_,_,rfl,I2,fin (.inl (by omega)),by omega,l1',l2'⟩
  refine dT (by show(vs'.length:Int)<26;omega) ?_
  exists _,rfl,a',_,rfl,.inl (ze I2.ha),_,rfl,b',_,rfl,.inl (ze I2.hb),_,_,rfl,rfl,_,_,rfl,rfl,_,rfl,?_;by_cases h0:ts'.length+ps'.length>0
  rotate_left
  ·refine dF (by rw[aA];show ¬(0:Int)<_;omega) ?_
   exact key _ _ ⟨a',b',vs',ys',ct,ts',ps',_,_,rfl,I2,fin (.inr (by omega)),by omega,l1',l2'⟩
  refine dT (by rw[aA];show(0:Int)<_;omega) ?_
  obtain⟨m',rfl⟩:∃m',m=m'+1:=⟨m - 1,by omega⟩
  exists itW K H cell l (wg cell 26 [] ts ps) m',fun σ' H' w=>⟨m',lt_succ_self _,w⟩,?_;exists _,rfl,_,rfl,l,_,rfl,.inl (ze I2.hl),cell,_,rfl,?_;rw[lvs];have hnext:wg cell m' (ct++[(yI (xm cell ct.length) ts' ps').1]) (yI (xm cell ct.length) ts' ps').2.1 (yI (xm cell ct.length) ts' ps').2.2=wg cell 26 [] ts ps:=by
   rw[<- hR];show _=(if ts'.length+ps'.length>0 then _ else _)
   rw[aK h0]
  generalize xm cell (ct.length:Int)=mm at hnext |-;exists _,rfl,_,_,rfl,rfl,⟨by decide,by decide⟩,_,_,rfl,rfl,zp4,?_
  have q0 : 0<=mm / 4 % 4:=emod_nonneg _ (by decide)
  have q1:mm / 4 % 4<4:=emod_lt_of_pos _ (by decide)
  have r0 : 0<=mm % 4:=emod_nonneg _ (by decide)
  have r1:mm % 4<4:=emod_lt_of_pos _ (by decide)
  dsimp only[zZ];generalize hq:mm / 4 % 4=qq at q0 q1 |-;obtain⟨n,rfl⟩:=eq_ofNat_of_zero_le q0;exists _,rfl,_,_,rfl,rfl,zp4,rfl,_,rfl,?_;by_cases m0:mm % 4=0
  ·refine dT (congrArg V.int m0) ?_
   exists _,rfl,xK,fun e0 he0=>?_
   injections e0 he0 H3 s3 g3
   have I3:=I2.same s3;by_cases ht:ts'=[]
   ·refine .inl ⟨a',e0,0,.lst [],fun _=>True,fun _=>True,rfl,rfl,by decide,zw.lst True.intro I3.ha (by rw[ht];exact .nil),zw.lst True.intro g3 .nil,_,rfl,?_⟩
    refine yf ?_;exists _,rfl,_,_,rfl,rfl,zp4,rfl,_,rfl,?_;refine dF (fun e=>by have:=V.int.inj e;omega) ?_
    exists _,rfl,_,_,rfl,rfl,zp4,rfl,_,rfl,?_;refine dF (fun e=>by have:=V.int.inj e;omega) ?_
    refine yf ?_;have es:yI mm ts' ps'=(.book (ps'.take n),ts',ps'.drop n):=by unfold yI;rw[hq,toNat_natCast,aJ (fun h=>h.2 ht),aJ (by omega),aJ (fun h=>by omega)]
    exists _,rfl,.inl ⟨rfl,_,ze I3.hl⟩,_,rfl,_,rfl,_,rfl,b',_,rfl,ze I3.hb,fun p hp=>?_;rw[yD];have r1:=zc hp (.lst (ys'.take n));have e1:upd H3 p (.lst (ys'.take n)) p=some (.lst (ys'.take n)):=za;have np:p≠l:=(zd I3.hl hp).symm;have np0:H p=none:=I3.sm.free hp;have J1:=I3.same r1;generalize upd H3 p (.lst (ys'.take n))=G1 at r1 e1 J1 |-;exists z6,fun u hu=>?_;have r2:=zc hu (.tup [.str "book",.ref p]);have e2:upd G1 u (.tup [.str "book",.ref p]) u=some (.tup [.str "book",.ref p]):=za;have J2:=J1.same r2;have e3:=r2 _ _ e1;generalize upd G1 u (.tup [.str "book",.ref p])=G2 at r2 e2 J2 e3 |-;exists l,_,_,rfl,rfl,J2.hl,zF (by omega),?_
    have J3:=J2.push (x:=.ref u) (it:=.book (ps'.take n)) (.tup (zq e2) (.cons .str (.cons (.lst ⟨np,np0⟩ e3 (by rw[map_take];exact vn J2.hy n)) .nil)))
    show wx _ _ _ _ (upd G2 l (.lst (vs'++[.ref u])));generalize upd G2 l (.lst (vs'++[.ref u]))=G3 at J3 |-;exists _,rfl,_,rfl,_,rfl,b',_,rfl,ze J3.hb,fun p2 hp2=>?_;rw[yo];have r4:=zc hp2 (.lst (ys'.drop n));have J4:=(J3.same r4).setB (b':=p2) (ys':=ys'.drop n) (ps':=ps'.drop n) za (by rw[map_drop];exact vo (J3.same r4).hy n) (zd J3.hl hp2).symm
    exact⟨a',p2,_,_,_,ts',ps'.drop n,_,_,rfl,J4,by rw[aG,length_singleton];omega,by rw[<- hnext,es],l1',by rw[length_drop];omega⟩
   ·have tne:(ts'.map V.int).length≠([]:List V).length:=fun e=>ht (eq_nil_of_length_eq_zero (by simpa using e))
    refine .inr ⟨a',e0,_,_,rfl,rfl,I3.ha,g3,tne,_,rfl,?_⟩;refine xt ?_;cases ts' with
    | nil=>exact absurd rfl ht
    | cons x ts'=>
    have es:yI mm (x::ts') ps'=(.one x,ts',ps'):=by unfold yI;rw[aK ⟨m0,ht⟩];rfl
    exists _,rfl,.inl ⟨rfl,_,ze I3.hl⟩,_,rfl,a',_,0,.int x,rfl,rfl,ze I3.ha,yP (j:=0) rfl,z6,fun u hu=>?_;have r2:=zc hu (.tup [.str "one",.int x]);have e2:upd H3 u (.tup [.str "one",.int x]) u=some (.tup [.str "one",.int x]):=za;have J2:=I3.same r2;generalize upd H3 u (.tup [.str "one",.int x])=G2 at r2 e2 J2 |-;exists l,_,_,rfl,rfl,J2.hl,zF (by omega),?_
    have J3:=J2.push (x:=.ref u) (it:=.one x) (.tup (zq e2) (.cons .str (.cons .int .nil)));show wx _ _ _ _ (upd G2 l (.lst (vs'++[.ref u])));generalize upd G2 l (.lst (vs'++[.ref u]))=G3 at J3 |-;exists _,rfl,_,rfl,a',_,rfl,ze J3.ha,fun p2 hp2=>?_;rw[show wt ((x::ts').map V.int) (some 1) none=ts'.map V.int from yo (n:=1)];have r4:=zc hp2 (.lst (ts'.map V.int));have J4:=(J3.same r4).setA (a':=p2) (ts':=ts') za (zd J3.hl hp2).symm;exact⟨p2,b',_,_,_,ts',ps',_,_,rfl,J4,by rw[aG,length_singleton];omega,by rw[<- hnext,es],by rw[length_cons] at l1';omega,l2'⟩
  refine dF (fun e=>m0 (V.int.inj e)) ?_;refine yf ?_;exists _,rfl,_,_,rfl,rfl,zp4,rfl,_,rfl,?_;by_cases m1:mm % 4=1
  ·refine dT (congrArg V.int m1) ?_
   have es:yI mm ts' ps'=(.row (ts'.take n),ts'.drop n,ps'):=by unfold yI;rw[hq,toNat_natCast,aJ (fun h=>m0 h.1),aK m1]
   exists _,rfl,.inl ⟨rfl,_,ze I2.hl⟩,_,rfl,_,rfl,_,rfl,a',_,rfl,ze I2.ha,fun p hp=>?_;rw[yD,<- map_take];have r1:=zc hp (.lst ((ts'.take n).map V.int));have e1:upd H2 p (.lst ((ts'.take n).map V.int)) p=some (.lst ((ts'.take n).map V.int)):=za;have np:p≠l:=(zd I2.hl hp).symm;have np0:H p=none:=I2.sm.free hp;have J1:=I2.same r1;generalize upd H2 p (.lst ((ts'.take n).map V.int))=G1 at r1 e1 J1 |-;exists z6,fun u hu=>?_;have r2:=zc hu (.tup [.str "row",.ref p]);have e2:upd G1 u (.tup [.str "row",.ref p]) u=some (.tup [.str "row",.ref p]):=za;have J2:=J1.same r2;have e3:=r2 _ _ e1;generalize upd G1 u (.tup [.str "row",.ref p])=G2 at r2 e2 J2 e3 |-;exists l,_,_,rfl,rfl,J2.hl,zF (by omega),?_
   have J3:=J2.push (x:=.ref u) (it:=.row (ts'.take n)) (.tup (zq e2) (.cons .str (.cons (.lst ⟨np,np0⟩ e3 (xY _)) .nil)));show wx _ _ _ _ (upd G2 l (.lst (vs'++[.ref u])));generalize upd G2 l (.lst (vs'++[.ref u]))=G3 at J3 |-;exists _,rfl,_,rfl,_,rfl,a',_,rfl,ze J3.ha,fun p2 hp2=>?_;rw[yo,<- map_drop];have r4:=zc hp2 (.lst ((ts'.drop n).map V.int));have J4:=(J3.same r4).setA (a':=p2) (ts':=ts'.drop n) za (zd J3.hl hp2).symm;exact⟨p2,b',_,_,_,ts'.drop n,ps',_,_,rfl,J4,by rw[aG,length_singleton];omega,by rw[<- hnext,es],by rw[length_drop];omega,l2'⟩
  refine dF (fun e=>m1 (V.int.inj e)) ?_;exists _,rfl,_,_,rfl,rfl,zp4,rfl,_,rfl,?_;by_cases m2:mm % 4=2
  ·refine dT (congrArg V.int m2) ?_
   exists _,rfl,xK,fun e0 he0=>?_
   injections e0 he0 H3 s3 g3
   have I3:=I2.same s3;by_cases hp0:ps'=[]
   ·have hy0:ys'=[]:=eq_nil_of_length_eq_zero (by rw[lys,hp0];rfl)
    refine .inl ⟨b',e0,0,.lst [],fun _=>True,fun _=>True,rfl,rfl,by decide,zw.lst True.intro I3.hb (by rw[hy0];exact .nil),zw.lst True.intro g3 .nil,_,rfl,?_⟩
    refine yf ?_;have es:yI mm ts' ps'=(.book (ps'.take n),ts',ps'.drop n):=by unfold yI;rw[hq,toNat_natCast,aJ (fun h=>m0 h.1),aJ m1,aJ (fun h=>h.2 hp0)]
    exists _,rfl,.inl ⟨rfl,_,ze I3.hl⟩,_,rfl,_,rfl,_,rfl,b',_,rfl,ze I3.hb,fun p hp=>?_;rw[yD];have r1:=zc hp (.lst (ys'.take n));have e1:upd H3 p (.lst (ys'.take n)) p=some (.lst (ys'.take n)):=za;have np:p≠l:=(zd I3.hl hp).symm;have np0:H p=none:=I3.sm.free hp;have J1:=I3.same r1;generalize upd H3 p (.lst (ys'.take n))=G1 at r1 e1 J1 |-;exists z6,fun u hu=>?_;have r2:=zc hu (.tup [.str "book",.ref p]);have e2:upd G1 u (.tup [.str "book",.ref p]) u=some (.tup [.str "book",.ref p]):=za;have J2:=J1.same r2;have e3:=r2 _ _ e1;generalize upd G1 u (.tup [.str "book",.ref p])=G2 at r2 e2 J2 e3 |-;exists l,_,_,rfl,rfl,J2.hl,zF (by omega),?_
    have J3:=J2.push (x:=.ref u) (it:=.book (ps'.take n)) (.tup (zq e2) (.cons .str (.cons (.lst ⟨np,np0⟩ e3 (by rw[map_take];exact vn J2.hy n)) .nil)))
    show wx _ _ _ _ (upd G2 l (.lst (vs'++[.ref u])));generalize upd G2 l (.lst (vs'++[.ref u]))=G3 at J3 |-;exists _,rfl,_,rfl,_,rfl,b',_,rfl,ze J3.hb,fun p2 hp2=>?_;rw[yo];have r4:=zc hp2 (.lst (ys'.drop n));have J4:=(J3.same r4).setB (b':=p2) (ys':=ys'.drop n) (ps':=ps'.drop n) za (by rw[map_drop];exact vo (J3.same r4).hy n) (zd J3.hl hp2).symm
    exact⟨a',p2,_,_,_,ts',ps'.drop n,_,_,rfl,J4,by rw[aG,length_singleton];omega,by rw[<- hnext,es],l1',by rw[length_drop];omega⟩
   ·have tne:ys'.length≠([]:List V).length:=fun e=>hp0 (eq_nil_of_length_eq_zero (by rw[<- lys];exact e))
    refine .inr ⟨b',e0,_,_,rfl,rfl,I3.hb,g3,tne,_,rfl,?_⟩;refine xt ?_;cases ps' with
    | nil=>exact absurd rfl hp0
    | cons x ps'=>
    have es:yI mm ts' (x::ps')=(.named x.1 x.2,ts',ps'):=by unfold yI;rw[aJ (fun h=>m0 h.1),aJ m1,aK ⟨m2,hp0⟩];rfl
    have hy3:=I3.hy;cases ys' with
    | nil=>cases hy3
    | cons y ys'=>
    cases hy3 with
    | cons hy1 hyr=>
    obtain⟨pb,rfl,hpb⟩:=xV hy1;exists _,rfl,.inl ⟨rfl,_,ze I3.hl⟩,_,rfl,b',_,0,.ref pb,rfl,rfl,ze I3.hb,yP (j:=0) rfl,pb,_,0,.str x.1,rfl,rfl,hpb,rfl,_,rfl,b',_,0,.ref pb,rfl,rfl,ze I3.hb,yP (j:=0) rfl,pb,_,1,.int x.2,rfl,rfl,hpb,rfl,qZ,fun u hu=>?_;have r2:=zc hu (.tup [.str "named",.str x.1,.int x.2]);have e2:upd H3 u (.tup [.str "named",.str x.1,.int x.2]) u=some (.tup [.str "named",.str x.1,.int x.2]):=za;have J2:=I3.same r2;generalize upd H3 u (.tup [.str "named",.str x.1,.int x.2])=G2 at r2 e2 J2 |-;exists l,_,_,rfl,rfl,J2.hl,zF (by omega),?_
    have J3:=J2.push (x:=.ref u) (it:=.named x.1 x.2) (.tup (zq e2) (.cons .str (.cons .str (.cons .int .nil))));show wx _ _ _ _ (upd G2 l (.lst (vs'++[.ref u])));generalize upd G2 l (.lst (vs'++[.ref u]))=G3 at J3 |-;exists _,rfl,_,rfl,b',_,rfl,ze J3.hb,fun p2 hp2=>?_;rw[show wt (V.ref pb::ys') (some 1) none=ys' from yo (n:=1)];have r4:=zc hp2 (.lst ys');have hy4:=(J3.same r4).hy;have J4:=(J3.same r4).setB (b':=p2) (ys':=ys') (ps':=ps') za (by cases hy4 with|cons _ r=>exact r) (zd J3.hl hp2).symm
    exact⟨a',p2,_,_,_,ts',ps',_,_,rfl,J4,by rw[aG,length_singleton];omega,by rw[<- hnext,es],l1',by rw[length_cons] at l2';omega⟩
  refine dF (fun e=>m2 (V.int.inj e)) ?_;refine yf ?_;have es:yI mm ts' ps'=(.book (ps'.take n),ts',ps'.drop n):=by unfold yI;rw[hq,toNat_natCast,aJ (fun h=>m0 h.1),aJ m1,aJ (fun h=>m2 h.1)]
  exists _,rfl,.inl ⟨rfl,_,ze I2.hl⟩,_,rfl,_,rfl,_,rfl,b',_,rfl,ze I2.hb,fun p hp=>?_;rw[yD];have r1:=zc hp (.lst (ys'.take n));have e1:upd H2 p (.lst (ys'.take n)) p=some (.lst (ys'.take n)):=za;have np:p≠l:=(zd I2.hl hp).symm;have np0:H p=none:=I2.sm.free hp;have J1:=I2.same r1;generalize upd H2 p (.lst (ys'.take n))=G1 at r1 e1 J1 |-;exists z6,fun u hu=>?_;have r2:=zc hu (.tup [.str "book",.ref p]);have e2:upd G1 u (.tup [.str "book",.ref p]) u=some (.tup [.str "book",.ref p]):=za;have J2:=J1.same r2;have e3:=r2 _ _ e1;generalize upd G1 u (.tup [.str "book",.ref p])=G2 at r2 e2 J2 e3 |-;exists l,_,_,rfl,rfl,J2.hl,zF (by omega),?_
  have J3:=J2.push (x:=.ref u) (it:=.book (ps'.take n)) (.tup (zq e2) (.cons .str (.cons (.lst ⟨np,np0⟩ e3 (by rw[map_take];exact vn J2.hy n)) .nil)))
  show wx _ _ _ _ (upd G2 l (.lst (vs'++[.ref u])));generalize upd G2 l (.lst (vs'++[.ref u]))=G3 at J3 |-;exists _,rfl,_,rfl,_,rfl,b',_,rfl,ze J3.hb,fun p2 hp2=>?_;rw[yo];have r4:=zc hp2 (.lst (ys'.drop n));have J4:=(J3.same r4).setB (b':=p2) (ys':=ys'.drop n) (ps':=ps'.drop n) za (by rw[map_drop];exact vo (J3.same r4).hy n) (zd J3.hl hp2).symm
  exact⟨a',p2,_,_,_,ts',ps'.drop n,_,_,rfl,J4,by rw[aG,length_singleton];omega,by rw[<- hnext,es],l1',by rw[length_drop];omega⟩
 rintro σ2 H2 ⟨a',b',vs',ys',ct,ts',ps',v4,v5,rfl,I2,hR,l26,l1',l2'⟩;have lvs:vs'.length=ct.length:=by rw[I2.hv.length,aA]
 have lys:ys'.length=ps'.length:=by rw[I2.hy.length,aA]
 have eI:wl cell ts ps=zak (ct,ts',ps'):=by unfold wl;rw[hR]
 exists _,rfl,a',_,rfl,.inl (ze I2.ha),_,rfl,b',_,rfl,.inl (ze I2.hb),_,_,rfl,rfl,_,_,rfl,rfl,_,rfl,?_;by_cases h0:ts'.length+ps'.length>0
 rotate_left
 ·refine dF (by rw[aA];show ¬(0:Int)<_;omega) ?_
  exists _,rfl,q l vs' H2 I2.sm I2.nl I2.hl ?_;rw[eI];unfold zak;rw[aJ h0];exact I2.hv
 refine dT (by rw[aA];show(0:Int)<_;omega) ?_
 have c1:wt (ts'.map V.int) none (some 30)=(ts'.take 30).map V.int:=by rw[map_take];exact yD (n:=30)
 have c2:wt (ts'.map V.int) (some 30) none=(ts'.drop 30).map V.int:=by rw[map_drop];exact yo (n:=30)
 have c3:wt ys' none (some 30)=ys'.take 30:=yD (n:=30);have c4:wt ys' (some 30) none=ys'.drop 30:=yo (n:=30);exists _,rfl,_,rfl,_,rfl,a',_,rfl,ze I2.ha,fun p1 hp1=>?_;rw[c1];have r1:=zc hp1 (.lst ((ts'.take 30).map V.int));have e1:upd H2 p1 (.lst ((ts'.take 30).map V.int)) p1=some (.lst ((ts'.take 30).map V.int)):=za;have n1:p1≠l/\H p1=none:=⟨(zd I2.hl hp1).symm,I2.sm.free hp1⟩;have I1a:=I2.same r1;generalize upd H2 p1 (.lst ((ts'.take 30).map V.int))=H1a at r1 e1 I1a |-;exists z6,fun u1 hu1=>?_;have t1:=zc hu1 (.tup [.str "row",.ref p1]);have w1:upd H1a u1 (.tup [.str "row",.ref p1]) u1=some (.tup [.str "row",.ref p1]):=za;have e1:=t1 _ _ e1;have I1b:=I1a.same t1;generalize upd H1a u1 (.tup [.str "row",.ref p1])=H1b at t1 e1 w1 I1b |-;exists _,rfl,_,rfl,a',_,rfl,ze I1b.ha,fun p2 hp2=>?_;rw[c2];have r2:=zc hp2 (.lst ((ts'.drop 30).map V.int));have e2:upd H1b p2 (.lst ((ts'.drop 30).map V.int)) p2=some (.lst ((ts'.drop 30).map V.int)):=za;have n2:p2≠l/\H p2=none:=⟨(zd I1b.hl hp2).symm,I1b.sm.free hp2⟩;have I2a:=I1b.same r2;generalize upd H1b p2 (.lst ((ts'.drop 30).map V.int))=H2a at r2 e2 I2a |-;exists z6,fun u2 hu2=>?_;have t2:=zc hu2 (.tup [.str "row",.ref p2]);have w2:upd H2a u2 (.tup [.str "row",.ref p2]) u2=some (.tup [.str "row",.ref p2]):=za;have e2:=t2 _ _ e2;have I2b:=I2a.same t2;generalize upd H2a u2 (.tup [.str "row",.ref p2])=H2b at t2 e2 w2 I2b |-;exists _,rfl,_,rfl,b',_,rfl,ze I2b.hb,fun p3 hp3=>?_;rw[c3];have r3:=zc hp3 (.lst (ys'.take 30));have e3:upd H2b p3 (.lst (ys'.take 30)) p3=some (.lst (ys'.take 30)):=za;have n3:p3≠l/\H p3=none:=⟨(zd I2b.hl hp3).symm,I2b.sm.free hp3⟩;have I3a:=I2b.same r3;generalize upd H2b p3 (.lst (ys'.take 30))=H3a at r3 e3 I3a |-;exists z6,fun u3 hu3=>?_;have t3:=zc hu3 (.tup [.str "book",.ref p3]);have w3:upd H3a u3 (.tup [.str "book",.ref p3]) u3=some (.tup [.str "book",.ref p3]):=za;have e3:=t3 _ _ e3;have I3b:=I3a.same t3;generalize upd H3a u3 (.tup [.str "book",.ref p3])=H3b at t3 e3 w3 I3b |-;exists _,rfl,_,rfl,b',_,rfl,ze I3b.hb,fun p4 hp4=>?_;rw[c4];have r4:=zc hp4 (.lst (ys'.drop 30));have e4:upd H3b p4 (.lst (ys'.drop 30)) p4=some (.lst (ys'.drop 30)):=za;have n4:p4≠l/\H p4=none:=⟨(zd I3b.hl hp4).symm,I3b.sm.free hp4⟩;have I4a:=I3b.same r4;generalize upd H3b p4 (.lst (ys'.drop 30))=H4a at r4 e4 I4a |-;exists z6,fun u4 hu4=>?_;have t4:=zc hu4 (.tup [.str "book",.ref p4]);have w4:upd H4a u4 (.tup [.str "book",.ref p4]) u4=some (.tup [.str "book",.ref p4]):=za;have e4:=t4 _ _ e4;have I4b:=I4a.same t4;generalize upd H4a u4 (.tup [.str "book",.ref p4])=H4b at t4 e4 w4 I4b |-;have z4:zn H4b H4b:=zn.refl _;have z3:zn H3b H4b:=r4.trans t4;have z2:zn H2b H4b:=r3.trans (t3.trans z3);have z1:zn H1b H4b:=r2.trans (t2.trans z2);have hfour:Paired (zw K (fun x=>x≠l/\H x=none) H4b 3) [.ref u1,.ref u2,.ref u3,.ref u4] (([.row (ts'.take 30),.row (ts'.drop 30),.book (ps'.take 30),.book (ps'.drop 30)]:List yQ).map xf):=by
  refine .cons (.tup (zq (z1 _ _ w1)) (.cons .str (.cons (.lst n1 (z1 _ _ e1) (xY _)) .nil))) (.cons (.tup (zq (z2 _ _ w2)) (.cons .str (.cons (.lst n2 (z2 _ _ e2) (xY _)) .nil))) (.cons (.tup (zq (z3 _ _ w3)) (.cons .str (.cons (.lst n3 (z3 _ _ e3) ?_) .nil))) (.cons (.tup (zq w4) (.cons .str (.cons (.lst n4 e4 ?_) .nil))) .nil)))
  ·rw[map_take];exact vn I4b.hy 30
  ·rw[map_drop];exact vo I4b.hy 30
 exists zmp,fun l4 hl4=>?_;have s5:=zc hl4 (.lst [.ref u1,.ref u2,.ref u3,.ref u4]);have g5:upd H4b l4 (.lst [.ref u1,.ref u2,.ref u3,.ref u4]) l4=some (.lst [.ref u1,.ref u2,.ref u3,.ref u4]):=za;have I5:=I4b.same s5;have hf5:=zr (fun _ _ z=>zw.same s5 z) hfour;generalize upd H4b l4 (.lst [.ref u1,.ref u2,.ref u3,.ref u4])=H5 at s5 g5 I5 hf5 |-;exists l,l4,_,_,rfl,rfl,I5.hl,g5,zK (by show vs'.length+4<=1000;omega),fun r hr'=>?_
 have s6:=zc hr' (.lst (vs'++[.ref u1,.ref u2,.ref u3,.ref u4]));exists _,rfl,q r _ _ (I5.sm.trans s6) (I5.sm.free hr') za ?_;rw[eI];unfold zak;rw[aK h0];show Paired _ _ ((ct++_).map xf);rw[aE];have nr:∀b,(b≠l/\H b=none)->H5 b≠none->b≠r/\H b=none:=fun b o e=>⟨fun z=>e (by rw[z];exact hr'),o.2⟩
 exact yS (zr (fun _ _ z=>(x6 nr z).same s6) I5.hv) (zr (fun _ _ z=>(x6 nr z).same s6) hf5)
end
end K26
namespace L2
open PySem PySem.Spec PyProof.Rows PySem.Builtin
section
variable {prog:Program}{w:World}{A:Around}{E:VSP}{s:Shared}{it l ea C t:Addr}{od:Option Addr}{tb:Value}{i:Nat}{items:Array Value}{Q:Option Value->Shared->Prop}
theorem qw(hA:A.handled=some (.ref ea))(he:s.heap.get? ea=some (jl C od t tb))(hit:IsTupIter s.heap it l i)(hl:IsTup s.heap l items)(hx:items[i]?=none)
  (q:∀h':Heap,Heap.ExtBut it s.heap h'->Q none { s with heap:=h' }):wpAny (model prog w) A (pyNext (.ref it)) Q E s:=by
 obtain⟨hh,gg,dd,tk,os⟩:=s;obtain⟨o,ho,hc,hd⟩:=id hit;obtain⟨ol,hol,_,nl,hdl⟩:=hl;have hne:ea≠it:=fun z=>by
  rw[z] at he;have ho':hh.get? it=some o:=ho;have he':hh.get? it=some (jl C od t tb):=he;rw[ho'] at he';cases Option.some.inj he';cases hc
 unfold pyNext;refine zwb (wpAny_attempt (wpAny_callSpecial?_slot (name:=Str.ofString "__next__") hit.typeIs slot_tupleiter_next
  (wpAny_call_entry slot_tupleiter_next hit.typeIs entry_tupleiter_next ?_ (args_tupleiter_next _))))
 show wpAny _ _ (field (.ref it) 0 >>= _) _ _ _;refine zwb (wpAny_field ho hd (x:=.ref l) rfl ?_);show wpAny _ _ (if (Value.ref l==Value.none)=true then _ else _) _ _ _
 rw[aJ (show ¬((Value.ref l==Value.none)=true) from zft)];show wpAny _ _ (field (.ref it) 1 >>= _) _ _ _;refine zwb (wpAny_field ho hd (x:=.int i 0) rfl ?_);show wpAny _ _ (seqItems? (.ref l) >>= _) _ _ _;refine zwb (wpAny_seqItems hol hdl ?_);simp only[toNat_natCast,hx];refine zwb (wpAny_rule (zwb (wpAny_setField ho hd (by simp) ?_)))
 have sb:=Heap.SameBut.update hh it (Obj.mapFields fun x=>x.setIfInBounds 0 Value.none);have he1:=(sb.2 ea hne).trans he;have xb:=sb.extBut;dsimp only;generalize hh.update it (Obj.mapFields fun x=>x.setIfInBounds 0 Value.none)=h1 at he1 xb |-;unfold SmallTypes.stopIteration newExc;refine zwb (zwb (wpAny_newTuple ?_ xK));dsimp only;unfold firstArgMember;dsimp only;refine zwb (zwb (zwp (zwp ?_)));have fm:(if (Manifest.find? "StopIteration").elim false (fun t=>t.mro.contains "StopIteration"||t.mro.contains "SystemExit")=true then ([]:List Value).headD Value.none else Value.none)=Value.none:=by split <;> rfl
 rw[fm];show wpAny _ _ (newObj (Value.type "StopIteration") (Data.fields #[.ref h1.objs.size,.none,.none,.none,.bool false,.none])) _ _ _;refine wpAny_newObj_type ?_ (by show 6<=sizeLine+2;decide)
 dsimp only;have k1:∀b o,h1.get? b=some o->((h1.push (yu [])).push { cls:=.type "StopIteration",data:=.fields #[.ref h1.objs.size,.none,.none,.none,.bool false,.none] }).get? b=some o:=fun b o e=>zgp _ (zgp _ e);have k2:((h1.push (yu [])).push { cls:=.type "StopIteration",data:=.fields #[.ref h1.objs.size,.none,.none,.none,.bool false,.none] }).get? (h1.push (yu [])).objs.size=some { cls:=.type "StopIteration",data:=.fields #[.ref h1.objs.size,.none,.none,.none,.bool false,.none] }:=zgs _ rfl;have k3:(h1.push (yu [])).objs.size≠ea:=by
  have:=aI he1
  rw[Heap.size_push];exact ne_of_gt (lt_succ_of_lt this)
 have k4:∀b o,h1.get? b=some o->b≠(h1.push (yu [])).objs.size:=fun b o e=>by
  have:=aI e
  rw[Heap.size_push];exact ne_of_lt (lt_succ_of_lt this)
 generalize (h1.push (yu [])).objs.size=e1 at k2 k3 k4 |-;generalize (h1.push (yu [])).push { cls:=.type "StopIteration",data:=.fields #[.ref h1.objs.size,.none,.none,.none,.bool false,.none] }=h2 at k1 k2 |-;unfold raiseNew;refine zwb (wpAny_handled ?_);have hA':A.in1.handled=some (.ref ea):=hA;rw[hA'];dsimp only;rw[aK (show(Value.ref ea != Value.ref e1)=true by rw[bne_iff_ne];intro z;exact k3 (Value.ref.inj z).symm)]
 have he2:=k1 _ _ he1;refine zwb (wpAny_holding (wpAny_runValue (codeAny_builtin (b:=Builtin.«proto.unchain») rfl ?_)));unfold Builtin.«proto.unchain»;dsimp only;refine zwb (wpAny_field (x:=Value.none) he2 rfl rfl ?_);rw[aK (show(Value.none==Value.none)=true by decide)]
 refine zwp ?_;dsimp only;unfold updateField;refine zwb (zwb (wpAny_load k2 ?_));dsimp only;rw[aK (show 2<(#[Value.ref h1.objs.size,Value.none,Value.none,Value.none,Value.bool false,Value.none]:Array Value).size from Nat.le_of_ble_eq_true rfl)];refine wpAny_update k2 ?_;refine wpAny_throw ?_;have z1:∀b,b≠e1->(h2.update e1 (Obj.mapFields fun x=>x.setIfInBounds 2 (.ref ea))).get? b=h2.get? b:=fun b hb'=>Heap.get?_update_ne _ _ _ _ hb';have z2:(h2.update e1 (Obj.mapFields fun x=>x.setIfInBounds 2 (.ref ea))).get? e1=some { cls:=.type "StopIteration",data:=.fields #[.ref h1.objs.size,.none,.ref ea,.none,.bool false,.none] }:=Heap.get?_update_self _ k2 rfl;refine zwb (wpAny_isInstance (T:="StopIteration") (b:=true) ⟨_,z2,rfl⟩ (by with_unfolding_all rfl) ?_)
 rw[aK rfl];refine zwp (q _ fun b o hb e=>?_);have e:=xb b o hb e;rw[z1 b (k4 b o e)];exact k1 b o e
variable {tt:Addr}
theorem ug{env:Env}{elts:List Expr}{x1}{pos:Pos}{t:Addr}{items:Array Value}{Q:Unit->Shared->Prop}(hh:A.handled=some (.ref ea))(he:s.heap.get? ea=some (jl C od tt tb))(ht:IsTup s.heap t items)
  (hn:(assignEach elts env).length=items.size) (hstar:(assignEach elts env).findIdx? (·.1)=none)
  (h:∀h',Heap.ExtBut s.heap.objs.size s.heap h'->wpAny (model prog w) A (assignInOrder ((assignEach elts env).map (·.2)) items.toList) Q E { s with heap:=h' }) :
  wpAny (model prog w) A (assign (.Tuple elts x1 pos) env (.ref t)) Q E s:=by
 rw[assign_Tuple];refine zwb (wpAny_standAt ?_);unfold unpack;rw[hn,hstar];refine zwb (wpAny_holding ?_);have hlt:t≠s.heap.objs.size:=by obtain⟨o,ho,_⟩:=ht;exact ne_of_lt (aI ho)
 have hle:ea≠s.heap.objs.size:=ne_of_lt (aI he);unfold unpackItems;refine zwb ?_
 ·unfold notIterableAtAll
  refine zwb (wpAny_specialOf ht.typeIs slot_tuple_iter.lookup ?_);refine zwp ?_;simp only[Bool.false_eq_true,if_false];refine zwb (wpAny_holding (iter_tuple ht ?_));refine zwb (wpAny_holding (draw_tuple hlt items.size 0 _ _ ⟨_,zgs _ rfl,rfl,rfl⟩ (ht.push _) (by omega) fun h₁ hit₁ hs₁=>?_))
  have hall:List.take items.size (List.drop 0 items.toList)=items.toList:=by
   rw[drop_zero];exact take_of_length_le (by simp)
  rw[hall];rw[aJ (by simp)]
  have ht₁:IsTup h₁ t items:=(ht.push _).extBut hs₁.extBut hlt;have he₁:h₁.get? ea=some (jl C od tt tb):=hs₁.extBut ea _ hle (zgp _ he);refine zwb (wpAny_holding (qw (s:={ s with heap:=h₁ }) hh he₁ hit₁ ht₁ (by simp) fun h₂ he₂=>?_))
  simp only[Option.isSome_none,Bool.false_eq_true,if_false];refine zwp (h h₂ fun b o hb e=>he₂ b o hb (hs₁.extBut b o hb (zgp _ e)))
inductive zjBJ(K:Frag)(n:Nat)(ea:Addr)(t:TGs)(v:V)(σ:St)(H:Hp)(Q:St->Hp->Prop):Prop|mk(a:Addr)(xs:List V)(C:Addr)(od:Option Addr)(tt:Addr):v=.ref a->SqT K H a xs->xs.length=n->H ea=some (uU ea C od tt)->(t xs σ H Q)->zjBJ K n ea t v σ H Q
def zjB(K:Frag)(n:Nat)(ea:Addr)(t:TGs):TG:=fun v σ H Q=>zjBJ K n ea t v σ H Q
theorem zii{X:Cx}{ea:Addr}{es:List Expr}{k:Nat}{pos:Pos}{t:TGs}{n:Nat}{K:Frag}(hK:X.K=K)(hc:X.A.handled=some (.ref ea))(h:PGs X es t)
  (hn:(assignEach es X.env).length=n:=by rfl) (hst:(assignEach es X.env).findIdx? (·.1)=none:=by rfl):PG X (.Tuple es k pos) (zjB K n ea t):=by
 subst hK;exists ?_;intro pins s σ H v u Q I r hw;obtain⟨a,xs,C,od,tt,e1,hq,hl,hea,hw⟩:=hw;subst e1;cases r;obtain⟨its,rv,ht,hz⟩:=I.tuple hq;obtain⟨tb,he⟩:=(I.hok ea _ hea).1;refine ug hc he ht (by simp [hn,<- hl,rv.length]) hst fun h' hx=>?_
 have I1:Inv X pins σ H { s with heap:=h' }:=I.kept (t':=s.toks) fun b o e=>hx b o (ne_of_lt (aI e)) e
 exact h pins _ σ H xs _ Q I1 (by simpa using rv) hw
theorem zdB{K:Frag}{n:Nat}{ea:Addr}(i j:Nat):qR (zjB K n ea (zcm (zZ i) (zcm (zZ j) zkR))) [i,j]:=by
 rintro v σ H Q ⟨a,xs,C,od,tt,e1,e2,e3,e3',v1,r1,e4,v2,r2,e5,e6,q⟩;exists a,xs,C,od,tt,e1,e2,e3,e3',v1,r1,e4,v2,r2,e5,e6,q,by rw[length_set,length_set],fun k hk=>?_
 have h1:i≠k:=fun e=>hk (by simp [e])
 have h2:j≠k:=fun e=>hk (by simp [e])
 rw[getElem?_set_ne h2,getElem?_set_ne h1]
end
end L2
namespace L2
open PySem PySem.Spec PyProof.Rows
def zhE(lo c:Int)(n:Nat):It:=⟨fun i _=>i<n,fun i H x H'=>H'=H/\x=.int (lo+i * c),fun i _=>n<=i⟩
theorem zbF{P:Program}{w:World}{K:Frag}{tg:Expr}(it:Addr)(lo c:Int)(n:Nat):zae P w K tg (zhE lo c n) [it] it (fun i h=>IsRangeIter h it (lo+(i:Nat) * c) ((n:Int) - (i:Nat)) c) where
 mem:=by simp
 obj:=fun i h st b hb=>by
  have e:b=it:=by simpa using hb
  subst e;exact⟨_,st,fun v z=>by
   have z':Data.fields _=Data.cell v:=z;cases z'⟩
 keep:=fun i h h' st k=>k it (by simp) _ st
 item:=by
  intro X hP hw hK hc i pins s σ H E I hf st hg;subst hP hw hK;obtain⟨f0,f1,f2,f3,f4,f5⟩:=hf it (by simp)
  have W:=Walks.range (prog:=X.prog) (w:=X.w) (I.ok.hd hc) it lo c n;refine W.item i s _ _ hg st fun v h' tk hv st' kk=>?_;obtain⟨t,rfl⟩:=hv;have I1:Inv X pins σ H { s with heap:=h',toks:=tk }:=I.turned (fun b o hb e=>kk b o (by simpa using hb) e) f0 f1 f3 f4 f5
  exact⟨_,rfl,zcl (s:={ s with heap:=h',toks:=tk }) (n:="range_iterator") st' rfl rfl (by decide) ⟨.int (lo+i * c),H,I1,⟨t,rfl⟩,⟨rfl,rfl⟩,st',fun b hb=>(hf b hb).1⟩⟩
 done:=by
  intro X hP hw hK hc i pins s σ H E I hf st hg;subst hP hw hK;obtain⟨f0,f1,f2,f3,f4,f5⟩:=hf it (by simp)
  exact wpAny_pyNext_range_end (I.ok.hd hc) st (by have:n<=i:=hg;omega) fun h' eb=>⟨rfl,I.turned (t':=s.toks) (fun b o hb e=>eb b o hb e) f0 f1 f3 f4 f5⟩
 self:=fun _ _ _ _ _ st h=>wpAny_pyIter_rangeiter st h
def rsz(a b c:Nat):Nat:=if a<b then (b - a - 1) / c+1 else 0
theorem zgk{a b c:Nat}(hc : 0<c):Builtin.Range.rangeSize (a:Int) (b:Int) (c:Int)=(rsz a b c:Nat):=by
 unfold Builtin.Range.rangeSize rsz;rw[aK (by omega)]
 by_cases h:a<b
 ·rw[aK (by omega),aK h]
  have:(b:Int) - (a:Int) - 1=((b - a - 1:Nat):Int):=by omega
  rw[this];rfl
 ·rw[aJ (by omega),aJ h]
  rfl
theorem zkf{a b c:Nat}(hb:b<=1000):rsz a b c<=1001:=by
 unfold rsz;split
 ·have:=Nat.div_le_self (b - a - 1) c
  omega
 ·omega
theorem zbK{a b c:Nat}(ha:a<=1000)(hb:b<=1000)(hc : 0<c)(hc':c<=1000):Builtin.Range.small (a:Int) (b:Int) (c:Int)=true:=by
 unfold Builtin.Range.small;rw[zgk hc]
 have:=zkf (a:=a) (c:=c) hb
 simp only[Builtin.Range.rangeFitsLong,Bool.and_eq_true,Bool.or_eq_true,decide_eq_true_eq,beq_iff_eq,show(c:Int)>0 by omega,if_true]
 omega
section
variable {X:Cx}{tg:Expr}
inductive zlVJ(R:It->Hp->Prop)(vs:List V)(H1:Hp):Prop|mk(a b c:Nat):vs=[.int (a:Nat),.int (b:Nat),.int (c:Nat)]->a<=1000->b<=1000->0<c->c<=1000->(R (zhE (a:Nat) (c:Nat) (rsz a b c)) H1)->zlVJ R vs H1
def zlV(ta:TA):TI:=fun σ H R=>ta σ H fun vs H1=>zlVJ R vs H1
theorem zeP{a b c:Expr}{ta:TA}{p pos:Pos}(hg:Gl X "range")(hm:X.mg "range"=none)(ha:PA X [a,b,c] ta)(hs:starEach [a,b,c] X.env=[(false,eval a X.env),(false,eval b X.env),(false,eval c X.env)]:=by rfl)(hs2:starEach [b,c] X.env=[(false,eval b X.env),(false,eval c X.env)]:=by rfl):
  PI X tg (.Call (.Name "range" p) [a,b,c] [] pos) (zlV ta):=by
 exists ?_;intro pins s σ H R I h;refine Call_ (vP I hg hm boot_range (PyProof.Rows.callWith_type1 (thn (ha pos pins s σ H _ I h) fun us s1 ⟨vs,H1,I1,r1,q1⟩=>?_) (by rw[hs,hs2]) (by rw[hs2];rfl)))
 obtain⟨i,j,k,e,q1,q2,q3,q4,q⟩:=q1;subst e;cases r1 with
 | cons r rr=>
  cases rr with
  | cons r' rr=>
   cases rr with
   | cons r'' rr=>
    cases rr;obtain⟨t,rfl⟩:=r;obtain⟨t',rfl⟩:=r';obtain⟨t'',rfl⟩:=r'';refine call_range_3 (by omega) ?_ (Or.inl (PyProof.noPylong_small (by omega)))
    refine wpAny_pyIter_range (IsRange.new ..) (zbK q1 q2 q3 q4) ?_;have I2:Inv X pins σ H1 { s1 with heap:=s1.heap.push { cls:=.type "range",data:=.fields #[.int (i:Nat) t,.int (j:Nat) t',.int (k:Nat) t''] },toks:=s1.toks }:=I1.kept fun b o e=>zgp _ e
    refine⟨(s1.heap.push { cls:=.type "range",data:=.fields #[.int (i:Nat) t,.int (j:Nat) t',.int (k:Nat) t''] }).objs.size,[(s1.heap.push { cls:=.type "range",data:=.fields #[.int (i:Nat) t,.int (j:Nat) t',.int (k:Nat) t''] }).objs.size],_,_,H1,rfl,
     I2.kept (t':=s1.toks) fun b o e=>zgp _ e,zbF _ (i:Nat) (k:Nat) (rsz i j k),?_,fun b hb=>?_,q⟩
    ·have e1:(i:Int)+((0:Nat):Int) * (k:Int)=(i:Int):=by simp
     have e2:((rsz i j k:Nat):Int) - ((0:Nat):Int)=Builtin.Range.rangeSize (i:Int) (j:Int) (k:Int):=by rw[zgk q3];simp
     show IsRangeIter _ _ ((i:Int)+((0:Nat):Int) * (k:Int)) (((rsz i j k:Nat):Int) - ((0:Nat):Int)) (k:Int);rw[e1,e2];exact zgs _ rfl
    ·have e:b=(s1.heap.push { cls:=.type "range",data:=.fields #[.int (i:Nat) t,.int (j:Nat) t',.int (k:Nat) t''] }).objs.size:=by simpa using hb
     subst e;exact I2.fpOk (aF _) (I2.hok.fresh (aF _))
theorem zdG{lo c:Int}{n:Nat}{g:TG}{tb:TS}{D:vc}{σ : St}{H:Hp}(Pv:Nat->St->Hp->Prop)(h0:Pv 0 σ H)
  (hs:∀i σ H,i<n->Pv i σ H->g (.int (lo+i * c)) σ H fun σ2 H2=>tb { D with nx:=Pv (i+1),ct:=Pv (i+1),bk:=D.nx } σ2 H2) (hd:∀σ H,Pv n σ H->D.nx σ H) :
  ∃W:Nat->Nat->St->Hp->Prop,(∃m,W 0 m σ H)/\∀i m σ H,W i m σ H->
   ((zhE lo c n).stop i H/\D.nx σ H)\/((zhE lo c n).go i H/\∃N:St->Hp->Prop,(∀σ' H',N σ' H'->∃m',m'<m/\W (i+1) m' σ' H')/\∀x H',(zhE lo c n).yld i H x H'->g x σ H' fun σ2 H2=>tb { D with nx:=N,ct:=N,bk:=D.nx } σ2 H2):=by
 exists fun i m σ H=>m=n - i/\i<=n/\Pv i σ H,⟨n,by simp,zero_le _,h0⟩,?_
 rintro i m σ H ⟨rfl,hi,p⟩;by_cases hlt:i<n
 ·refine .inr ⟨hlt,Pv (i+1),fun σ' H' p'=>⟨n - (i+1),by omega,rfl,hlt,p'⟩,fun x H' y=>?_⟩
  obtain⟨e,y⟩:=y;subst e y;exact hs i σ _ hlt p
 ·have e:i=n:=by omega
  subst e;exact .inl ⟨aF _,hd σ H p⟩
theorem zdR{α : Type}{R:Addr->α->Prop}{us:List Addr}{rows:List α}(h:Paired R us rows)(keep : α->Bool):∃vs:List Addr,((us.zip rows).filter fun p=>keep p.2).map (fun p=>V.ref p.1)=vs.map V.ref/\Paired R vs (rows.filter keep):=by
 induction h with
 | nil=>exact⟨[],rfl,.nil⟩
 | cons r t ih=>
  rename_i u y us ys;obtain⟨vs,e,p⟩:=ih;rw[zip_cons_cons,filter_cons,filter_cons];cases hk:keep y with
  | true=>
   exists u::vs,?_,?_
   ·rw[aK rfl,map_cons,e]
    rfl
   ·rw[aK rfl]
    exact .cons r p
  | false=>exact⟨vs,by rw[aJ zft,e],by rw[aJ zft];exact p⟩
theorem zdS{α : Type}{R:Addr->α->Prop}{us:List Addr}{rows:List α}(h:Paired R us rows)(keep : α->Bool)(out : α->V):((us.zip rows).filter fun p=>keep p.2).map (fun p=>out p.2)=(rows.filter keep).map out:=by
 induction h with
 | nil=>rfl
 | cons r t ih=>
  rename_i u y us ys;rw[zip_cons_cons,filter_cons,filter_cons];cases hk:keep y with
  | true=>rw[aK rfl,aK rfl,map_cons,map_cons,ih]
  | false=>rw[aJ zft,aJ zft,ih]
theorem vQ{α : Type}{K:Frag}{a:Addr}{us:List Addr}{rows:List α}{caps:List (Option Nat)}{g:TG}{tt:TT}{te:TE}{σ : L2.St}{H1:Hp}{Q:VK}{D:Addr}(R:Hp->Addr->α->Prop)(keep : α->Bool)(out:Addr->α->V)(hD:H1 D=none)(ha:H1 a=some (.lst (us.map V.ref)))(hu:Paired (R H1) us rows)(hn:rows.length<=1000)
  (hs:∀(i:Nat) (u:Addr) (y : α) (H:Hp) (N:VK) (S:Hp->Prop),us[i]?=some u->rows[i]?=some y->R H1 u y->zn H1 H->(∀H',zn H H'->keep y=true->N (out u y) H')->(∀H',zn H H'->keep y=false->S H')->g (.ref u) (yW caps σ) H fun σ2 H2=>tt σ2 H2 fun ok H3=>(ok=true->te σ2 H3 N)/\(ok=false->S H3))
  (hd:∀H,zn H1 H->H D=some (.lst (((us.zip rows).filter fun p=>keep p.2).map fun p=>out p.1 p.2))->Q (.ref D) H):LCr (Itl K a) caps g tt te σ H1 Q D:=by
 have hl:us.length=rows.length:=hu.length;have lz:(us.zip rows).length=rows.length:=by rw[List.length_zip,hl,Nat.min_self]
 refine zha (K:=K) (xs:=us.map V.ref) (us.zip rows) (fun p=>keep p.2) (fun p=>out p.1 p.2) hD (ze ha) (by rw[aA,lz,hl]) (by rw[aA,hl];exact hn) (fun i x y H N S hx hy sH n1 s1=>?_) hd
 have hi:i<rows.length:=by rw[<- lz];exact(List.getElem?_eq_some_iff.mp hy).1
 have e1:(us.zip rows)[i]?=some (us[i],rows[i]):=by
  rw[aB (by omega),List.getElem_zip]
 rw[e1] at hy;cases hy;have hu1:us[i]?=some us[i]:=aB (by omega)
 rw[getElem?_map,hu1] at hx;cases hx;obtain⟨d,hd',hr⟩:=Paired.get hu hu1;have e2:rows[i]?=some rows[i]:=aB hi;rw[e2] at hd';cases hd';exact hs i us[i] rows[i] H N S hu1 e2 hr sH n1 s1
variable {pins:PnL}{σ:St}{e o:Expr}{es:List Expr}{ta:TE}{t:TA}{E:XK}{m:Str}{pos apos:Pos}{k:Nat}{f C:Addr}{fd:FuncData}{ps:List Str}{sp:Sp}
inductive zibJ(x:V)(vs:List V)(H:Hp)(Q:VK):Prop|mk(l:Addr)(xs:List V)(y:V)(j:Nat):x=.ref l->vs=[y]->H l=some (.lst xs)->xJ y=true->xs.all xJ=true->(∃w,xs[j]?=some w/\eqV w y=true)->(∀m w,m<j->xs[m]?=some w->eqV w y=false)->(Q (.int (j:Nat)) H)->zibJ x vs H Q
def zib:V->List V->Hp->VK->Prop:=fun x vs H Q=>zibJ x vs H Q
theorem ze5{X:Cx}:MtM X "list.index" zib:=by
 intro pins s σ H x vs v us' Q I rx rv h;obtain⟨l,xs,y,j,rfl,rfl,hH,fy,fs,⟨w,hw,he⟩,hno,q⟩:=h;cases rx;obtain⟨u,rfl,ru⟩:=rv.one;obtain⟨z,its,n,r,hl,e⟩:=I.lstM hH;have at_:∀{m:Nat}{w:V},xs[m]?=some w->∀(hm:m<its.length),eqU y its[m]=eqV w y:=fun {m w} h hm=>by
  obtain⟨u',e1,e2⟩:=r.get h;rw[aB hm] at e1;cases e1;exact zdH e2 (List.all_eq_true.mp fs _ (aH h))
 have hlen:its.length=xs.length:=r.length.symm;have hj:j<its.length:=by rw[hlen];exact(List.getElem?_eq_some_iff.mp hw).1
 have hsm:(j:Int)<2 ^ 63 - 1:=by
  have h1:its.length<=sizeLine:=by rw[hlen];exact z
  have h2:(sizeLine:Int)<2 ^ 63 - 1:=by symm
  omega
 refine call_meets F.slot_list_index ⟨_,e,rfl⟩ F.entry_list_index (F.args_list_index_2 _ _) (SeqAt.list_indexAt l its.toArray n none #[] u (eqU y) j (by rw[size_toArray];exact hj) hsm (by simpa using (at_ hw hj).trans he) (fun m hm h=>by
  have hm':m<its.length:=by simpa using hm
  have e1:xs[m]?=some xs[m]:=aB (by omega)
  have:=(at_ e1 hm').trans (hno m _ h e1)
  simpa using this)) ⟨e,fun w hw=>wY ru fy r fs w (by simpa using hw),?_⟩
 exact⟨.int j,H,I.kept (t':=s.toks+1) fun b ob q=>q,⟨_,rfl⟩,q⟩
theorem Inv.turnedL{X:Cx}{pins:PnL}{σ : St}{H:Hp}{s:Shared}{h':Heap}{t':Nat}{ch:List Addr}(I:Inv X pins σ H s)(hf:∀b∈ch,wQ X pins H b)(k:∀b o,b∉ch->s.heap.get? b=some o->h'.get? b=some o):Inv X pins σ H { s with heap:=h',toks:=t' }:=by
 have nit:∀b u,H b=some u->b∉ch:=fun b u e z=>by rw[(hf b z).1] at e;cases e
 refine I.step (g':=s.gens) (d':=s.drawn) (ch:=ch) (fun b hb=>?_) (fun b o _ _ hc e _=>k b o hc e) (fun b o _ _ hc e _=>⟨o.slots,k b o hc e⟩) (fun _ _ _ _ n=>n)
  (fun b o hc e=>⟨o,k b o hc e⟩) (fun _ _ e=>e) (fun _ _ _ e=>e) (fun b ps e=>⟨#[],by rw[e];simp⟩) (fun m hm=>?_) (fun b u e=>?_) I.bare
 ·obtain⟨f0,f1,f2,f3,f4,f5⟩:=hf b hb
  exact⟨f3,f1,f4,f5⟩
 ·obtain⟨o,es,ep,ho,r⟩:=hm
  exact⟨o,es,ep,k _ o (fun z=>(hf _ z).2.1 rfl) ho,r⟩
 ·refine(I.hok b u e).stay (fun c v hc q=>k c v ?_ q) (fun _ q=>q) fun _ _ q=>q
  rcases hc with z|z
  ·rw[z];exact nit b u e
  ·exact nit c _ z
variable {elts:List Expr}{x1:Nat}{tpos:Pos}
variable {P:Program}{w:World}{A:Around}{R:Result->Shared->Prop}{I:Addr}{fp wr:List Addr}{G:Array GenState->Array GenState->Prop}{n:Nat}{Pr:Nat->Value->Prop}{Sg:Nat->Shared->Prop}
theorem zgE{P:Program}{w:World}{X:Cx}:xG (CXs P w) X (fun _ _ _=>False):=fun pins σ H1 s1 e s' I q=>by
 obtain⟨_,_,_,_,_,_,_,q⟩:=q;exact q.elim
end
end L2
namespace K26
open PySem L2 PyProof.Rows
theorem zfd{k:Nat}(h:k<5):xx k=decide (grp k=0):=by rcases lt5 h with rfl|rfl|rfl|rfl|rfl <;> rfl
theorem zlC:∀(rows:List Rw) {l l':Nat},l'<=l->yL l rows=true->yL l' rows=true
 | [],_,_,_,_=>rfl
 | r::rs,l,l',hl,h=>by
  have h':(!w9 l (grp r.k)&&yL (grp r.k) rs)=true:=h;show(!w9 l' (grp r.k)&&yL (grp r.k) rs)=true;rw[Bool.and_eq_true,Bool.not_eq_true'] at h' |-;exists ?_,h'.2;have hb:=h'.1;unfold w9 at hb |-;simp only[Bool.or_eq_false_iff,decide_eq_false_iff_not,Bool.and_eq_false_iff,beq_eq_false_iff_ne] at hb |-;omega
theorem zb3:∀(rows:List Rw) {l:Nat},0<l->(∀r∈rows,r.ok)->yL l rows=true->∀r∈rows,xx r.k=false
 | [],_,_,_,_,r,hr=>by cases hr
 | x::xs,l,hl,hok,h,r,hr=>by
  have h':(!w9 l (grp x.k)&&yL (grp x.k) xs)=true:=h;rw[Bool.and_eq_true,Bool.not_eq_true'] at h';have hb:=h'.1;unfold w9 at hb;simp only[Bool.or_eq_false_iff,decide_eq_false_iff_not] at hb;have hg : 0<grp x.k:=by omega
  rcases List.mem_cons.mp hr with rfl|hr
  ·rw[zfd (hok _ mem_cons_self).1,aD (by omega)]
  ·exact zb3 xs hg (fun r hr=>hok r (mem_cons_of_mem _ hr)) h'.2 r hr
theorem zgx(h:∀r∈rows,xx r.k=false):plN rows=0:=by
 unfold plN;rw[List.length_eq_zero_iff,List.filter_eq_nil_iff];exact fun r hr=>by rw[h r hr];decide
theorem jW:∀rows:List Rw,(∀r∈rows,r.ok)->yL 0 rows=true->∃A B,rows=A++B/\A.length=plN rows/\(∀r∈A,grp r.k=0)/\yL 0 B=true
 | [],_,_=>⟨[],[],rfl,rfl,(fun r hr=>by cases hr),rfl⟩
 | r::rs,hok,h=>by
  have h':(!w9 0 (grp r.k)&&yL (grp r.k) rs)=true:=h;rw[Bool.and_eq_true,Bool.not_eq_true'] at h';by_cases hg:grp r.k=0
  ·have h2:=h'.2
   rw[hg] at h2;obtain⟨A,B,e,hl,hA,hB⟩:=jW rs (fun x hx=>hok x (mem_cons_of_mem _ hx)) h2;exists r::A,B,by rw[e];rfl,?_,fun x hx=>?_,hB
   ·have hp:xx r.k=true:=by rw[zfd (hok r mem_cons_self).1,hg];rfl
    unfold plN at hl |-;rw[filter_cons,aK hp,length_cons,length_cons,hl]
   ·rcases List.mem_cons.mp hx with rfl|hx
    ·exact hg
    ·exact hA x hx
  ·exists [],r::rs,rfl,?_,(fun x hx=>by cases hx),h
   rw[zgx]
   ·rfl
   ·intro x hx
    rcases List.mem_cons.mp hx with rfl|hx
    ·rw[zfd (hok _ mem_cons_self).1,aD hg]
    ·exact zb3 rs (by omega) (fun x hx=>hok x (mem_cons_of_mem _ hx)) h'.2 x hx
theorem zhj{k:Nat}(h:k<5):inV (.str (kw k)) [.str "seat",.str "both"]=xx k:=zhk k h
section
variable {mg:Str->Option Value}
theorem zdU{κ : Type}[DecidableEq κ]{kvs:List (κ×V)}{k k' : κ}{v:V}:zS (yF kvs k v) k'=if k'=k then some v else zS kvs k':=zbD kvs k k' v
theorem qv(r:Rw)(rs:List Rw):nms (r::rs)=(if ym r.k=true then [r.z] else [])++nms rs:=by
 have:=vp [r] rs
 rw[jM] at this;exact this
theorem qI{z:Str}:∀(rows:List Rw) (i:Nat) (acc:List (Key×V)),z∉nms rows->zS (yT i acc rows) (.inr z)=zS acc (.inr z)
 | [],_,_,_=>rfl
 | r::rs,i,acc,h=>by
  rw[qv] at h;have h2:z∉nms rs:=fun e=>h (mem_append_right _ e);show zS (yT (i+1) _ rs) (.inr z)=_;rw[qI rs (i+1) _ h2];split
  next e=>
   rw[zdU,aJ];intro e2;rw[aK e] at h;exact h (by rw[Sum.inr.inj e2];exact mem_append_left _ (List.mem_singleton.mpr rfl))
  ·rfl
theorem uV{r:Rw}(hb:ym r.k=true):∀(rows:List Rw) (i j:Nat) (acc:List (Key×V)),rows[j]?=some r->(nms rows).Nodup->zS (yT i acc rows) (.inr r.z)=some (.int ((i+j:Nat):Int))
 | [],_,_,_,h,_=>by simp at h
 | y::ys,i,0,acc,h,nd=>by
  have e:y=r:=by simpa using h
  subst e;rw[qv,aK hb] at nd;have hz:y.z∉nms ys:=(List.nodup_cons.mp nd).1;show zS (yT (i+1) (if ym y.k=true then yF acc (.inr y.z) (.int i) else acc) ys) (.inr y.z)=_
  rw[qI ys (i+1) _ hz,aK hb,zdU,aK rfl];rfl
 | y::ys,i,j+1,acc,h,nd=>by
  rw[qv] at nd;have nd2:=(List.nodup_append.mp nd).2.1;show zS (yT (i+1) _ ys) (.inr r.z)=_;rw[uV hb ys (i+1) j _ (by simpa using h) nd2,show i+1+j=i+(j+1) by omega]
theorem zhK(h:zS (kvP a) (.inr z)=some v):zS (kvP (a++b)) (.inr z)=some v:=by
 unfold zS at h |-;unfold kvP at h |-;rw[aE,List.find?_append];cases e:(a.map fun p=>((Sum.inr p.1:Key),V.int (p.2:Nat))).find? fun kv=>decide (kv.1=.inr z) with
 | none=>rw[e] at h;cases h
 | some kv=>rw[e] at h;exact h
theorem zhJ{i:Nat}(h:(a.any fun p=>decide (p.1=z))=false):zS (kvP (a++[(z,i)])) (.inr z)=some (.int (i:Nat)):=by
 have e0:zS (kvP a) (.inr z)=none:=by
  rw[<- wb] at h;exact Option.not_isSome_iff_eq_none.mp (by rw[h];exact zft)
 unfold zS at e0 |-;unfold kvP at e0 |-;rw[aE,List.find?_append];cases e:(a.map fun p=>((Sum.inr p.1:Key),V.int (p.2:Nat))).find? fun kv=>decide (kv.1=.inr z) with
 | none=>
  rw[Option.none_or,map_cons,find?_cons,aC rfl];rfl
 | some kv=>rw[e] at e0;cases e0
theorem zaT{z:Str}{v:V}:∀(zs:List Str) (i:Nat) (acc:List (Str×Nat)),zS (kvP acc) (.inr z)=some v->zS (kvP (fpF i acc zs)) (.inr z)=some v
 | [],_,_,h=>h
 | y::ys,i,acc,h=>by
  show zS (kvP (fpF (i+1) (if (acc.any fun p=>decide (p.1=y))=true then acc else acc++[(y,i)]) ys)) _=_
  split
  ·exact zaT ys (i+1) acc h
  ·exact zaT ys (i+1) _ (zhK h)
theorem zjf{acc:List (Str×Nat)}{z:Str}:(acc.any fun p=>decide (p.1=z))=decide (z∈acc.map (·.1)):=by
 rw[Bool.eq_iff_iff,List.any_eq_true,decide_eq_true_eq,mem_map];exact⟨fun⟨p,h1,h2⟩=>⟨p,h1,of_decide_eq_true h2⟩,fun⟨p,h1,h2⟩=>⟨p,h1,aC h2⟩⟩
theorem zkD(h:z∈nms rows):∃(l:Nat) (r:Rw),rows[l]?=some r/\ym r.k=true/\r.z=z:=by
 unfold nms at h;obtain⟨r,hr,rfl⟩:=List.mem_map.mp h;rw[List.mem_filter] at hr;obtain⟨l,hl⟩:=List.mem_iff_getElem?.mp hr.1;exact⟨l,r,hl,hr.2,rfl⟩
theorem zfB{many:Nat}(h:z∉bars)(hk:z∉nms rows):y0 rows bars many z=if (zL 4 0 rows).isSome=true then none else some ("strange" : Str):=by
 have hv:=qI (z:=z) rows 0 [] hk;have e1:y0.lastD' z rows=none:=by unfold y0.lastD';rw[hv];rfl
 unfold y0;rw[aJ h,e1]
theorem jw(kk:Nat):∀(rows:List Rw) (i:Nat),(zL kk i rows).isSome=rows.any fun r=>decide (r.k=kk)
 | [],_=>rfl
 | r::rs,i=>by
  show(if r.k=kk then some i else zL kk (i+1) rs).isSome=(decide (r.k=kk)||rs.any _)
  by_cases h:r.k=kk
  ·rw[aK h,aC h];rfl
  ·rw[aJ h,aD h,Bool.false_or];exact jw kk rs (i+1)
def wN(rows:List Rw):List Str:=rows.map fun r=>kw r.k
theorem ziT:∀a,a<5->∀b,b<5->kw a=kw b->a=b:=by symm
theorem uH(hok:∀r∈rows,r.ok){kk:Nat}(h:kk<5):decide (kw kk∈wN rows)=(zL kk 0 rows).isSome:=by
 rw[jw,Bool.eq_iff_iff,decide_eq_true_eq,List.any_eq_true];unfold wN;rw[mem_map];exact⟨fun⟨r,h1,h2⟩=>⟨r,h1,aC (ziT _ (hok r h1).1 _ h h2)⟩,fun⟨r,h1,h2⟩=>⟨r,h1,by rw[of_decide_eq_true h2]⟩⟩
theorem zdF:∀(a b:List Str) (j:Nat) (acc:List (Str×Nat)),fpF j acc (a++b)=fpF (j+a.length) (fpF j acc a) b
 | [],_,_,_=>rfl
 | z::zs,b,j,acc=>by
  show fpF (j+1) _ (zs++b)=fpF (j+(zs.length+1)) (fpF (j+1) _ zs) b;rw[zdF zs b (j+1),show j+1+zs.length=j+(zs.length+1) by omega]
theorem zjD:∀(zs:List Str) (j:Nat) (acc:List (Str×Nat)),(∀p∈acc,p.2<j)->∀p∈fpF j acc zs,p.2<j+zs.length
 | [],_,_,h,p,hp=>h p hp
 | z::zs,j,acc,h,p,hp=>by
  have h2:=zjD zs (j+1) _ (fun q hq=>?_) p hp
  ·rw[length_cons];omega
  ·split at hq
   ·have:=h q hq;omega
   ·rcases List.mem_append.mp hq with hq|hq
    ·have:=h q hq;omega
    ·rw[List.mem_singleton.mp hq];exact lt_succ_self _
theorem zcF{zs:List Str}{i:Nat}{z:Str}(h:zs[i]?=some z):zs.take (i+1)=zs.take i++[z]:=by
 have hi:i<zs.length:=(List.getElem?_eq_some_iff.mp h).1;have e:zs[i]=z:=(List.getElem?_eq_some_iff.mp h).2;rw[take_succ_eq_append_getElem hi,e]
theorem zbs{zs:List Str}{i:Nat}{z:Str}(h:zs[i]?=some z):fpF 0 [] (zs.take (i+1))=if ((fpF 0 [] (zs.take i)).any fun p=>decide (p.1=z))=true then fpF 0 [] (zs.take i) else fpF 0 [] (zs.take i)++[(z,i)]:=by
 have hi:i<zs.length:=(List.getElem?_eq_some_iff.mp h).1;rw[zcF h,zdF];have el : 0+(zs.take i).length=i:=by rw[length_take];omega
 rw[el];rfl
theorem zdK{i:Nat}(h:zs[i]?=some z):decide (zS (kvP (fpZ zs)) (.inr z)=some (.int (i:Nat)))=!((fpF 0 [] (zs.take i)).any fun p=>decide (p.1=z)):=by
 have hi:i<zs.length:=(List.getElem?_eq_some_iff.mp h).1;have e:fpZ zs=fpF (i+1) (fpF 0 [] (zs.take (i+1))) (zs.drop (i+1)):=by
  unfold fpZ
  conv=>lhs;rw[<- take_append_drop (i+1) zs,zdF]
  rw[show 0+(zs.take (i+1)).length=i+1 by rw[length_take];omega]
 cases hb:(fpF 0 [] (zs.take i)).any fun p=>decide (p.1=z) with
 | true=>
  have hs:(zS (kvP (fpF 0 [] (zs.take i))) (.inr z)).isSome=true:=by rw[wb];exact hb
  obtain⟨v,hv⟩:=Option.isSome_iff_exists.mp hs;obtain⟨z',j,ez,ev,hm⟩:=jN hv;have hj:=zjD (zs.take i) 0 [] (fun p hp=>by cases hp) _ hm
  rw[length_take] at hj;have h2:=zbs h;rw[hb,aK rfl] at h2;have h3:=zaT (z:=z) (v:=v) (zs.drop (i+1)) (i+1) (fpF 0 [] (zs.take (i+1))) (by rw[h2];exact hv)
  rw[e,h3,ev];refine aD fun e2=>?_
  have:(j:Int)=(i:Int):=V.int.inj (Option.some.inj e2)
  have hj':j<0+min i zs.length:=hj;omega
 | false=>
  have h2:=zbs h;rw[hb,aJ (by decide)] at h2
  have h3:=zaT (z:=z) (v:=.int (i:Nat)) (zs.drop (i+1)) (i+1) (fpF 0 [] (zs.take (i+1))) (by rw[h2];exact zhJ hb)
  rw[e,h3];exact aC rfl
def xw(rows:List Rw)(bars:List Str)(many:Nat)(z:Str):Str:=(y0 rows bars many z).getD ""
def jT(rows:List Rw):List Str:=rows.map fun r=>if ym r.k=true then r.z else ""
theorem zdV{rows:List Rw}{z:Str}(hz:z≠""):z∈jT rows ↔ z∈nms rows:=by
 unfold jT nms;rw[mem_map,mem_map];constructor
 ·rintro⟨r,hr,e⟩
  split at e
  next hb=>exact⟨r,List.mem_filter.mpr ⟨hr,hb⟩,e⟩
  ·exact absurd e.symm hz
 ·rintro⟨r,hr,e⟩
  obtain⟨h1,h2⟩:=List.mem_filter.mp hr;exact⟨r,h1,by rw[aK h2];exact e⟩
theorem zcE{rows:List Rw}{z:Str}(nd:(nms rows).Nodup)(hz:z≠""){l:Nat}{r:Rw}(hl:rows[l]?=some r)(hb:ym r.k=true)(he:r.z=z):(jT rows)[l]?=some z/\∀m y,m<l->(jT rows)[m]?=some y->y≠z:=by
 unfold jT;exists by rw[getElem?_map,hl];show some (if ym r.k=true then r.z else "")=_;rw[aK hb,he],fun m y hm hy e=>?_
 rw[getElem?_map] at hy;cases hr:rows[m]? with
 | none=>rw[hr] at hy;cases hy
 | some r2=>
  rw[hr] at hy;have hy':(if ym r2.k=true then r2.z else "")=y:=Option.some.inj hy
  split at hy'
  next hb2=>
   have d1:=uV hb rows 0 l [] hl nd;have d2:=uV hb2 rows 0 m [] hr nd;rw[hy',e,<- he,d1] at d2
   have:((0+l:Nat):Int)=((0+m:Nat):Int):=V.int.inj (Option.some.inj d2)
   omega
  ·exact hz (by rw[<- e,<- hy'])
theorem zbB{many:Nat}(nd:(nms rows).Nodup)(h:z∉bars){l:Nat}(hl:rows[l]?=some r)(hb:ym r.k=true)(he:r.z=z):xw rows bars many z=if l<min many (plN rows) then "again" else "":=by
 have hv:=uV hb rows 0 l [] hl nd;rw[he] at hv;have e1:y0.lastD' z rows=some l:=by unfold y0.lastD';rw[hv,Nat.zero_add];rfl
 unfold xw y0;rw[aJ h,e1];show(if l<plN rows/\l<many then some ("again" : Str) else none).getD ""=_
 by_cases hc:l<plN rows/\l<many
 ·rw[aK hc,aK (by omega)];rfl
 ·rw[aJ hc,aJ (by omega)];rfl
theorem zfz{many:Nat}(h:z∉bars)(hk:z∉nms rows):xw rows bars many z=if (zL 4 0 rows).isSome=true then "" else "strange":=by
 unfold xw;rw[zfB h hk];split <;> rfl
theorem u9{many:Nat}:y0 rows bars many z=if xw rows bars many z="" then none else some (xw rows bars many z):=by
 unfold xw;cases h:y0 rows bars many z with
 | none=>rfl
 | some x=>
  have hx:x≠"":=by
   unfold y0 at h;split at h
   ·cases h;decide +kernel
   ·split at h
    ·split at h
     ·cases h
     ·cases h;decide +kernel
    ·split at h
     ·cases h;decide +kernel
     ·cases h
  rw[aJ (show ¬(some x).getD ""="" from hx)];rfl
theorem zen{i many:Nat}:wm r i many fk=(!fr r.k r.b&&!(xx r.k&&decide (i<many))&&!(ym r.k&&(zS fk (.inr r.z)).isSome)):=by
 unfold wm uy;by_cases h1:xx r.k=true/\i<many
 ·rw[aK h1,h1.1,aC h1.2]
  have e:L2.eqT [.str "place",.int (i:Nat)] [.str "free"]=false:=rfl;rw[e];simp
 ·rw[aJ h1]
  have hn:(xx r.k&&decide (i<many))=false:=by
   cases hp:xx r.k with
   | false=>rfl
   | true=>exact aD fun h=>h1 ⟨hp,h⟩
  rw[hn];by_cases h2:ym r.k=true/\(zS fk (.inr r.z)).isSome=true
  ·rw[aK h2,h2.1,h2.2]
   have e:∀v,L2.eqT [.str "name",v] [.str "free"]=false:=fun v=>by unfold L2.eqT;simp
   rw[e];simp
  ·rw[aJ h2]
   have hn2:(ym r.k&&(zS fk (.inr r.z)).isSome)=false:=by
    cases hp:ym r.k with
    | false=>rfl
    | true=>
     cases hq:(zS fk (.inr r.z)).isSome with
     | false=>rfl
     | true=>exact absurd ⟨hp,hq⟩ h2
   rw[hn2];have e:L2.eqT [.str "free"] [.str "free"]=true:=by unfold L2.eqT;simp [range_succ,eqV]
   rw[e];simp
theorem zec(hok:∀r∈rows,r.ok)(ho:yL 0 rows=true){i:Nat}(h:rows[i]?=some r):xx r.k=decide (i<plN rows):=by
 obtain⟨A,B,e,hl,hA,hB⟩:=jW rows hok ho;have hn:plN rows=plN A+plN B:=by
  unfold plN;rw[e,filter_append,aG]
 have hA2:plN A=A.length:=by
  unfold plN;rw[List.filter_eq_self.mpr fun x hx=>?_];rw[zfd (hok x (by rw[e];exact mem_append_left _ hx)).1,hA x hx]
  rfl
 have hB2:plN B=0:=by omega
 have hB3:∀x∈B,xx x.k=false:=fun x hx=>by
  unfold plN at hB2;rw[List.length_eq_zero_iff,List.filter_eq_nil_iff] at hB2
  have:=hB2 x hx
  simpa using this
 by_cases hi:i<plN rows
 ·rw[aC hi]
  rw[e,List.getElem?_append_left (by omega)] at h
  have hm:=aH h;rw[zfd (hok r (by rw[e];exact mem_append_left _ hm)).1,hA r hm]
  rfl
 ·rw[aD hi]
  rw[e,List.getElem?_append_right (by omega)] at h
  exact hB3 r (aH h)
theorem zat(n:Nat):∀m:Nat,(List.range m).filter (fun i=>decide (n<=i))=(List.range (m - n)).map fun i=>n+i
 | 0=>by simp
 | m+1=>by
  rw[range_succ,filter_append,zat n m];by_cases h:n<=m
  ·rw[show m+1 - n=(m - n)+1 by omega,range_succ,aE]
   simp [h]
  ·rw[show m+1 - n=0 by omega,show m - n=0 by omega]
   simp [h]
theorem uS:(zS (kvP (fpZ zs)) (.inr z)).isSome=decide (z∈zs):=by
 rw[wb,Bool.eq_iff_iff,decide_eq_true_eq];constructor
 ·intro h
  have key:∀zs (i:Nat) (acc:List (Str×Nat)),((fpF i acc zs).any fun p=>decide (p.1=z))=true->(acc.any fun p=>decide (p.1=z))=true\/z∈zs:=by
   intro zs;induction zs with
   | nil=>exact fun i acc h=>.inl h
   | cons y ys ih=>
    intro i acc h;rcases ih (i+1) _ h with h|h
    ·split at h
     ·exact .inl h
     ·rw[any_append,Bool.or_eq_true] at h
      rcases h with h|h
      ·exact .inl h
      ·right
       simp at h;rw[h];exact mem_cons_self
    ·exact .inr (mem_cons_of_mem _ h)
  rcases key zs 0 [] h with h|h
  ·simp at h
  ·exact h
 ·exact fun h=>zdE zs 0 [] h
theorem zeq:z∈(fpZ zs).map (·.1) ↔ z∈zs:=by
 have h1:((fpZ zs).any fun p=>decide (p.1=z))=decide (z∈zs):=by rw[<- wb,uS]
 rw[zjf,Bool.eq_iff_iff,decide_eq_true_eq,decide_eq_true_eq] at h1;exact h1
theorem zhL{many:Nat}:vd rows bars many (fpZ zs)=[] ↔ ∀z∈zs,y0 rows bars many z=none:=by
 unfold vd;rw[List.filterMap_eq_nil_iff];constructor
 ·intro h z hz
  obtain⟨p,hp,rfl⟩:=List.mem_map.mp (zeq.mpr hz)
  have:=h p hp
  rwa [Option.map_eq_none_iff] at this
 ·intro h p hp
  rw[Option.map_eq_none_iff];exact h _ (zeq.mp (List.mem_map.mpr ⟨p,hp,rfl⟩))
theorem qK{fk:List (Key×V)}:∀(zs:List Str) (i:Nat),ue fk i zs=[] ↔ ∀j z,zs[j]?=some z->zS fk (.inr z)=some (.int ((i+j:Nat):Int))
 | [],i=>by simp [ue]
 | y::ys,i=>by
  show(if zS fk (.inr y)=some (.int (i:Nat)) then [] else [(("doubled" : Str),i)])++ue fk (i+1) ys=[] ↔ _
  rw[append_eq_nil_iff,qK ys (i+1)];constructor
  ·rintro⟨h1,h2⟩ j z hj
   cases j with
   | zero=>
    have:y=z:=by simpa using hj
    subst this;split at h1
    next e=>exact e
    ·cases h1
   | succ j=>
    have:=h2 j z (by simpa using hj)
    rw[this]
    congr 3
    omega
  ·intro h
   exists ?_,fun j z hj=>?_
   ·have h0:=h 0 y rfl
    rw[Nat.add_zero] at h0;rw[aK h0]
   ·have:=h (j+1) z (by simpa using hj)
    rw[this]
    congr 3
    omega
theorem fpT:((fpF 0 [] zs).any fun p=>decide (p.1=z))=decide (z∈zs):=by
 have:=uS (zs:=zs) (z:=z)
 rw[wb] at this;exact this
theorem zbt:ue (kvP (fpZ zs)) 0 zs=[] ↔ zs.Nodup:=by
 rw[qK,List.nodup_iff_pairwise_ne];constructor
 ·intro h
  rw[List.pairwise_iff_getElem];intro i j hi hj hij e;have h1:=zdK (zs:=zs) (i:=j) (z:=zs[j]) (aB hj);have h2:=h j _ (aB hj);rw[Nat.zero_add] at h2;rw[aC h2,fpT] at h1;have hm:zs[j]∈zs.take j:=by
   rw[<- e];rw[List.mem_iff_getElem];exact⟨i,by rw[length_take];omega,by rw[List.getElem_take]⟩
  rw[aC hm] at h1;cases h1
 ·intro h j z hj
  have h1:=zdK hj;rw[fpT] at h1;have hn:z∉zs.take j:=by
   intro hm;obtain⟨i,hi,e⟩:=List.mem_iff_getElem.mp hm;rw[length_take] at hi;rw[List.getElem_take] at e;have hjl:j<zs.length:=(List.getElem?_eq_some_iff.mp hj).1
   have:=(List.pairwise_iff_getElem.mp h) i j (by omega) hjl (by omega)
   rw[aB hjl] at hj;exact this (e.trans (Option.some.inj hj).symm)
  rw[aD hn] at h1;rw[Nat.zero_add];exact of_decide_eq_true h1
theorem zgG{many:Nat}:wn rows many=[] ↔ ((zL 2 0 rows).isSome=true\/many<=plN rows):=by
 unfold wn;split
 next h=>simp [h]
 next h=>
  rw[List.map_eq_nil_iff,List.range_eq_nil];constructor
  ·intro e;right;omega
  ·rintro (e|e)
   ·exact absurd e h
   ·omega
theorem zaA{many:Nat}{fk:List (Key×V)}:∀(rows:List Rw) (i:Nat),wA many fk i rows=[] ↔ ∀j r,rows[j]?=some r->wm r (i+j) many fk=false
 | [],i=>by simp [wA]
 | y::ys,i=>by
  show(if wm y i many fk=true then [(("lacking" : Str),i)] else [])++wA many fk (i+1) ys=[] ↔ _
  rw[append_eq_nil_iff,zaA ys (i+1)];constructor
  ·rintro⟨h1,h2⟩ j z hj
   cases j with
   | zero=>
    have:y=z:=by simpa using hj
    subst this;split at h1
    ·cases h1
    next e=>exact Bool.eq_false_iff.mpr e
   | succ j=>
    have:=h2 j z (by simpa using hj)
    rw[show i+(j+1)=i+1+j by omega]
    exact this
  ·intro h
   exists ?_,fun j z hj=>?_
   ·have:=h 0 y rfl
    rw[Nat.add_zero] at this;rw[aJ (by rw[this];decide)]
   ·have:=h (j+1) z (by simpa using hj)
    rw[show i+1+j=i+(j+1) by omega]
    exact this
theorem zfC{many:Nat}(V1:vS rows bars){l:Nat}(hl:rows[l]?=some r)(hb:ym r.k=true)(he:r.z=z)(hn:¬(l<plN rows/\l<many)):y0 rows bars many z=none:=by
 have nd:(nms rows).Nodup:=(List.nodup_append.mp V1.nd).1;have hm:z∈nms rows:=by
  unfold nms;exact List.mem_map.mpr ⟨r,List.mem_filter.mpr ⟨aH hl,hb⟩,he⟩
 have hz:z∉bars:=fun h=>(List.nodup_append.mp V1.nd).2.2 z hm z h rfl;rw[u9,zbB nd hz hl hb he,aJ (show ¬l<min many (plN rows) by omega),aK rfl]
theorem zhq{many:Nat}(h1:names.Nodup)(h2:(zL 2 0 rows).isSome=true\/many<=plN rows)(h3:∀z∈names,y0 rows bars many z=none)(h4:∀(i:Nat) r,rows[i]?=some r->fr r.k r.b=true\/(xx r.k=true/\i<many)\/(ym r.k=true/\r.z∈names)):xB rows bars many names=[]:=by
 unfold xB;rw[append_eq_nil_iff,append_eq_nil_iff,append_eq_nil_iff,zbt,zgG,zhL,zaA];exists ⟨⟨h1,h2⟩,h3⟩,fun i r hr=>?_;rw[zen,uS,Nat.zero_add];rcases h4 i r hr with h|⟨h,h'⟩|⟨h,h'⟩
 ·rw[h];rfl
 ·rw[h,aC h'];simp
 ·rw[h,aC h'];simp
def tnK(many more:Int)(y:Rw×Nat):Bool:=(decide (y.1.k=1)&&decide (many<=(y.2:Int))||decide (y.1.k=3))&&(!y.1.b||decide (xm more (y.2:Int) % 2=0))
def tnF(rows:List Rw)(many more:Int):List Str:=(rows.zipIdx.filter (tnK many more)).map fun y=>y.1.z
theorem u7{rows:List Rw}{i:Nat}{r:Rw}(h:rows[i]?=some r):rows.zipIdx[i]?=some (r,i):=by
 rw[getElem?_zipIdx,h];simp
theorem zcy{rows:List Rw}{y:Rw×Nat}(h:y∈rows.zipIdx):rows[y.2]?=some y.1:=by
 obtain⟨i,hi⟩:=List.mem_iff_getElem?.mp h;rw[getElem?_zipIdx] at hi;cases hr:rows[i]? with
 | none=>rw[hr] at hi;cases hi
 | some r=>
  rw[hr] at hi
  have:(r,0+i)=y:=Option.some.inj hi
  subst this;rw[Nat.zero_add];exact hr
theorem zfH{many more:Int}:z∈tnF rows many more ↔ ∃i r,rows[i]?=some r/\tnK many more (r,i)=true/\r.z=z:=by
 unfold tnF;rw[mem_map];constructor
 ·rintro⟨y,hy,rfl⟩
  obtain⟨h1,h2⟩:=List.mem_filter.mp hy;exact⟨y.2,y.1,zcy h1,h2,rfl⟩
 ·rintro⟨i,r,hr,hk,rfl⟩
  exact⟨(r,i),List.mem_filter.mpr ⟨aH (u7 hr),hk⟩,rfl⟩
theorem zfI{many more:Int}(h:tnK many more y=true):ym y.1.k=true:=by
 unfold tnK at h;simp only[Bool.and_eq_true,Bool.or_eq_true,decide_eq_true_eq] at h;rcases h.1 with h|h
 ·rw[h.1];rfl
 ·rw[h];rfl
theorem zcD{many more:Int}:(tnF rows many more).Sublist (nms rows):=by
 have e:nms rows=(rows.zipIdx.filter fun y=>ym y.1.k).map fun y=>y.1.z:=by
  unfold nms
  conv=>lhs;rw[<- List.zipIdx_map_fst 0 rows]
  rw[List.filter_map,map_map];rfl
 have e2:rows.zipIdx.filter (tnK many more)=(rows.zipIdx.filter fun y=>ym y.1.k).filter (tnK many more):=by
  rw[List.filter_filter];refine List.filter_congr fun y _=>?_;cases h:tnK many more y with
  | false=>rfl
  | true=>rw[zfI h];rfl
 unfold tnF;rw[e,e2];exact List.Sublist.map _ filter_sublist
theorem zjM{many more:Int}:(tnF rows many more).length<=rows.length:=by
 unfold tnF;rw[aA];exact le_trans (length_filter_le _ _) (by rw[length_zipIdx];exact aF _)
theorem zgw(V1:vS rows bars):rows.filter (fun r=>xx r.k)=rows.take (plN rows):=by
 obtain⟨A,B,e,hl,hA,hB⟩:=jW rows V1.ok V1.ord;have hA2:A.filter (fun r=>xx r.k)=A:=List.filter_eq_self.mpr fun x hx=>by
  rw[zfd (V1.ok x (by rw[e];exact mem_append_left _ hx)).1,hA x hx]
  rfl
 have hB2:B.filter (fun r=>xx r.k)=[]:=List.filter_eq_nil_iff.mpr fun x hx=>by
  obtain⟨i,hi⟩:=List.mem_iff_getElem?.mp hx
  have:=zec V1.ok V1.ord (i:=A.length+i) (r:=x) (by rw[e,List.getElem?_append_right (by omega)];rw[Nat.add_sub_cancel_left];exact hi)
  rw[this,hl,aD (by omega)]
  decide
 rw[<- hl]
 conv=>lhs;rw[e]
 conv=>rhs;rw[e]
 rw[filter_append,hA2,hB2,append_nil,List.take_left' rfl]
theorem ze6{rows:List Rw}{bars:List Str}(V1:vS rows bars){M M':Nat}{more:Int}{st names:List Str}(hM:M<=plN rows)(hM':M'=M\/(M=plN rows/\M<=M'/\(zL 2 0 rows).isSome=true))(hlow:∀(i:Nat) (r:Rw),rows[i]?=some r->r.k=0->r.b=false->i<M)
  (hst:st=[]\/((zL 4 0 rows).isSome=true/\st.Nodup/\∀z∈st,z∉nms rows/\z∉bars)) (hp:names.Perm (tnF rows (M:Nat) more++st)):xB rows bars M' names=[]:=by
 have nd:(nms rows).Nodup:=(List.nodup_append.mp V1.nd).1;have nt:(tnF rows (M:Nat) more).Nodup:=List.Sublist.nodup zcD nd;refine zhq ?_ ?_ (fun z hz=>?_) (fun i r hr=>?_)
 ·rw[hp.nodup_iff]
  rcases hst with rfl|⟨_,h1,h2⟩
  ·rw[append_nil];exact nt
  ·exact List.nodup_append.mpr ⟨nt,h1,fun a ha b hb e=>(h2 b hb).1 (e ▸ zcD.subset ha)⟩
 ·rcases hM' with h|h
  ·right;omega
  ·exact .inl h.2.2
 ·rcases List.mem_append.mp (hp.mem_iff.mp hz) with h|h
  ·obtain⟨i,r,hr,hk,he⟩:=zfH.mp h
   refine zfC V1 hr (zfI hk) he ?_;rintro⟨h1,h2⟩;have h3:=zec V1.ok V1.ord hr;rw[aC h1] at h3;unfold tnK at hk;simp only[Bool.and_eq_true,Bool.or_eq_true,decide_eq_true_eq] at hk;rcases hk.1 with hk|hk
   ·have:=hk.2
    omega
   ·rw[hk] at h3
    cases h3
  ·rcases hst with rfl|⟨h0,h1,h2⟩
   ·cases h
   ·rw[zfB (h2 z h).2 (h2 z h).1,h0,aK rfl]
 ·cases hf:fr r.k r.b with
  | true=>exact .inl rfl
  | false=>
   right;have rk:=V1.ok r (aH hr);have hb:r.b=false/\r.k≠2/\r.k≠4:=by
    have h5:∀k,k<5->∀b,fr k b=false->b=false/\k≠2/\k≠4:=by symm
    exact h5 r.k rk.1 r.b hf
   have hp3:∀{i:Nat},rows[i]?=some r->tnK (M:Nat) more (r,i)=true->r.z∈names:=fun {i} hr hk=>hp.mem_iff.mpr (mem_append_left _ (zfH.mpr ⟨i,r,hr,hk,rfl⟩));have k5:=rk.1;by_cases k0:r.k=0
   ·left
    exists by rw[k0];rfl,?_
    have:=hlow i r hr k0 hb.1
    omega
   ·by_cases k1:r.k=1
    ·by_cases hi:i<M
     ·left
      exact⟨by rw[k1];rfl,by omega⟩
     ·right
      exists by rw[k1];rfl,hp3 hr ?_
      unfold tnK;simp only[k1,hb.1,aC (show((M:Nat):Int)<=(i:Int) by omega)]
      rfl
    ·have k3:r.k=3:=by omega
     right;exists by rw[k3];rfl,hp3 hr ?_
     unfold tnK;simp only[k3,hb.1];simp
inductive zd0(vs:List V)(H:Hp)(Q:VK)(E:XK):Prop|mk(t la lb:Addr)(many more:Int)(us:List Addr)(rows:List Rw):vs=[.ref t,.int many,.int more]->H t=some (.tup [.ref la,.ref lb])->H la=some (.lst (us.map V.ref))->Paired (TAt H) us rows->(∀r∈rows,r.ok)->rows.length<=24->(∀l H',zn H H'->H l=none->H' l=some (.lst ((tnF rows many more).map V.str))->Q (.ref l) H')->zd0 vs H Q E
theorem zjd:∀k:Nat,k<5->decide (V.str (kw k)=V.str "both")=decide (k=1):=by symm
theorem zfJ:∀k:Nat,k<5->decide (V.str (kw k)=V.str "tag")=decide (k=3):=by symm
theorem zlS{k:Nat}(h:k=1\/k=3):atI (qh k x b) 2=some (.bl b):=by rcases h with rfl|rfl <;> rfl
theorem jG:zt ["_law_told","_law_many","_law_more","_law_names","_law_at","_law_one"] ["_law_told","_law_many","_law_more"] (zj zcS):=fsc
theorem zgM{P:Program}{w:World}{K:Frag}{base:Heap}{f:Addr}{fd:FuncData}{g1:Addr}{d1:FuncData}(F:Fun K "_law_told_names" "_law_told_names" zcS f fd)(hen:mg "enumerate"=none)(cM:zG P w K mg base 1 "_law_mix" g1 d1 ["_law_cell_here","_law_k"] jZ):zC P w K mg base CX0 2 f fd ["_law_told","_law_many","_law_more"] zd0:=by
 refine F.ok jG (fun cdv A outer s H vs Q E hr h=>?_);obtain⟨t,la,lb,many,more,us,rows,rfl,ht,hla,hu,hok,l24,q⟩:=h;refine⟨_,zh (zu (i:=3) jG.nd rfl ⋯ (zN zb))
  (zh (xk PassesOwn.never rfl (xr rfl hen (ac (zE zD (pv 0) zg nofun) zb)) (yz rfl (zy (zp (i:=4) jG.nd rfl ⋯) (zy (zp (i:=5) jG.nd rfl ⋯) yg)))
   (zf (zH (yV (vB (yV (yX (zk yb (zE zD (pv 5) zg nofun) zm (zx _)) (yy (zk zjy (pv 4) (pv 1) (zx _))))) (vi (zk yb (zE zD (pv 5) zg nofun) zm (zx _)))))
    (zf (zH (yV (vB (xT (yY (zE zD (pv 5) zg nofun))) (vi (zk yb (zl zY (cF cM hr (ac (pv 2) (ac (pv 4) zb))) zg) zg (zx _)))))
     (zf (zP (y8 PySem.F.plainAttrs_list PySem.F.slot_list_append PySem.F.type_list_append zU (pv 3) (ac (zE zD (pv 5) zg nofun) zb)))) zv)) zv)))
  (zf (zA (pv 3)))),?_⟩
 exists xK,fun l hl=>?_;dsimp only[zZ]
 injections l hl H1 s1 g1
 have lu:us.length=rows.length:=hu.length;exists _,rfl,t,_,0,.ref la,rfl,rfl,zq (s1 _ _ ht),rfl,la,rfl,⟨_,ze (s1 _ _ hla)⟩,wC (K:=K) (a:=la) (xs:=us.map V.ref) (fun i σ H'=>∃(zs:List Str) (v4 v5:Option V),σ=[some (.ref t),some (.int many),some (.int more),some (.ref l),v4,v5]/\zn H H'/\H' l=some (.lst (zs.map V.str))/\zs=((rows.zipIdx.take i).filter (tnK many more)).map fun y=>y.1.z) ⟨[],_,_,rfl,s1,g1,rfl⟩ (fun i σ H' _ ⟨_,_,_,_,sH,_⟩=>ze (sH _ _ hla)) ?_ ?_
 ·rintro i x tn σ H2 hx ⟨zs,v4,v5,rfl,s2,e2,l2⟩ htn
  obtain⟨u,hu',rfl⟩:=x8 hx;obtain⟨r,hr',tr⟩:=yZ hu hu';have rk:=hok r (aH hr');have hi:i<24:=by have:=(List.getElem?_eq_some_iff.mp hr').1;omega
  have sp:=zc htn (.tup [.int (i:Nat),.ref u]);exists tn,_,rfl,zq za,rfl,_,_,rfl,_,_,rfl,rfl,?_;have s3:=s2.trans sp;have e3:=sp _ _ e2;generalize upd H2 tn (.tup [.int (i:Nat),.ref u])=H3 at sp s3 e3 |-;have tu:H3 u=some (.tup (qh r.k (.str r.z) r.b)):=s3 _ _ tr;have tk:rows.zipIdx.take (i+1)=rows.zipIdx.take i++[(r,i)]:=by
   have h:=u7 hr';have hi':=(List.getElem?_eq_some_iff.mp h).1;rw[take_succ_eq_append_getElem hi',(List.getElem?_eq_some_iff.mp h).2]
  have lzs:zs.length<=24:=by
   rw[l2,aA];refine le_trans (length_filter_le _ _) ?_;rw[length_take];omega
  have skip:tnK many more (r,i)=false->∀H',zn H H'->H' l=some (.lst (zs.map V.str))->∃(zs':List Str) (v4 v5:Option V),[some (V.ref t),some (.int many),some (.int more),some (.ref l),some (.int (i:Nat)),some (.ref u)]=[some (V.ref t),some (.int many),some (.int more),some (.ref l),v4,v5]/\zn H H'/\H' l=some (.lst (zs'.map V.str))/\zs'=((rows.zipIdx.take (i+1)).filter (tnK many more)).map fun y=>y.1.z:=fun hk H' sH e=>⟨zs,_,_,rfl,sH,e,by rw[tk,filter_append,filter_cons,hk,aJ zft,filter_nil,append_nil];exact l2⟩
  have add:tnK many more (r,i)=true->∃(zs':List Str) (v4 v5:Option V),[some (V.ref t),some (.int many),some (.int more),some (.ref l),some (.int (i:Nat)),some (.ref u)]=[some (V.ref t),some (.int many),some (.int more),some (.ref l),v4,v5]/\zn H (upd H3 l (.lst (zs.map V.str++[.str r.z])))/\upd H3 l (.lst (zs.map V.str++[.str r.z])) l=some (.lst (zs'.map V.str))/\zs'=((rows.zipIdx.take (i+1)).filter (tnK many more)).map fun y=>y.1.z:=fun hk=>⟨zs++[r.z],_,_,rfl,fun b o e=>by rw[zi (zd e hl)];exact s3 _ _ e,by rw[za,aE];rfl,by rw[tk,filter_append,filter_cons,hk,aK rfl,filter_nil,aE,<- l2];rfl⟩
  have lz:(zs.map V.str).length<sizeLine:=zF (by rw[aA];omega)
  have tke:tnK many more (r,i)=((decide (r.k=1)&&decide (many<=((i:Nat):Int))||decide (r.k=3))&&(!r.b||decide (xm more ((i:Nat):Int) % 2=0))):=rfl
  exists _,rfl,u,_,0,_,rfl,rfl,zq tu,uP rk.1,rfl,_,rfl,?_;rw[zjd r.k rk.1];by_cases k1:r.k=1
  ·refine dT k1 ?_
   exists _,rfl,_,rfl,_,_,rfl,rfl,_,rfl,?_;by_cases hm:many<=((i:Nat):Int)
   ·refine dT hm ?_
    exists _,rfl,u,_,2,_,rfl,rfl,zq tu,zlS (.inl k1),_,rfl,?_;cases hb:r.b with
    | false=>
     refine xt ?_;exact⟨_,rfl,.inl ⟨rfl,_,ze e3⟩,_,rfl,u,_,1,_,rfl,rfl,zq tu,zca,l,_,_,rfl,rfl,e3,lz,add (by rw[tke,k1,aC hm,hb];rfl)⟩
    | true=>
     refine yf ?_;exists _,rfl,_,rfl,more,_,rfl,_,_,rfl,rfl,zp2,rfl,_,rfl,?_;by_cases h2:xm more ((i:Nat):Int) % 2=0
     ·refine dT (congrArg V.int h2) ?_
      exact⟨_,rfl,.inl ⟨rfl,_,ze e3⟩,_,rfl,u,_,1,_,rfl,rfl,zq tu,zca,l,_,_,rfl,rfl,e3,lz,add (by rw[tke,k1,aC hm,h2];simp)⟩
     ·refine dF (fun e=>h2 (V.int.inj e)) ?_
      exact skip (by rw[tke,hb,aD h2];simp) _ s3 e3
   ·refine dF hm ?_
    exists _,rfl,u,_,0,_,rfl,rfl,zq tu,uP rk.1,rfl,_,rfl,?_;rw[zfJ r.k rk.1];refine dF (by omega) ?_
    exact skip (by rw[tke,k1,aD hm];simp) _ s3 e3
  ·refine dF k1 ?_
   exists _,rfl,u,_,0,_,rfl,rfl,zq tu,uP rk.1,rfl,_,rfl,?_;rw[zfJ r.k rk.1];by_cases k3:r.k=3
   ·refine dT k3 ?_
    exists _,rfl,u,_,2,_,rfl,rfl,zq tu,zlS (.inr k3),_,rfl,?_;cases hb:r.b with
    | false=>
     refine xt ?_;exact⟨_,rfl,.inl ⟨rfl,_,ze e3⟩,_,rfl,u,_,1,_,rfl,rfl,zq tu,zca,l,_,_,rfl,rfl,e3,lz,add (by rw[tke,k3,hb];simp)⟩
    | true=>
     refine yf ?_;exists _,rfl,_,rfl,more,_,rfl,_,_,rfl,rfl,zp2,rfl,_,rfl,?_;by_cases h2:xm more ((i:Nat):Int) % 2=0
     ·refine dT (congrArg V.int h2) ?_
      exact⟨_,rfl,.inl ⟨rfl,_,ze e3⟩,_,rfl,u,_,1,_,rfl,rfl,zq tu,zca,l,_,_,rfl,rfl,e3,lz,add (by rw[tke,k3,h2];simp)⟩
     ·refine dF (fun e=>h2 (V.int.inj e)) ?_
      exact skip (by rw[tke,hb,aD h2];simp) _ s3 e3
   ·refine dF k3 ?_
    exact skip (by rw[tke,aD k1,aD k3];rfl) _ s3 e3
 ·rintro σ H2 ⟨zs,v4,v5,rfl,s2,e2,l2⟩
  exists _,rfl,q l H2 s2 hl ?_;rw[e2,l2,aA,lu,show rows.length=rows.zipIdx.length by rw[length_zipIdx],take_length]
  rfl
end
end K26
namespace L2
open PySem PySem.Spec PyProof.Rows
section
variable {X:Cx}
theorem qP(bt:Nat->Nat->Bool):∀k,argBest bt k<=k
 | 0=>aF _
 | k+1=>by
  unfold argBest;split
  ·exact aF _
  ·exact le_succ_of_le (qP bt k)
theorem uD(g:Nat->Int):∀k i,i<=k->g i<=g (argBest (fun i j=>decide (g i>g j)) k)
 | 0,i,h=>by
  have:i=0:=by omega
  subst this;exact Int.le_refl _
 | k+1,i,h=>by
  unfold argBest;by_cases hb:g (k+1)>g (argBest (fun i j=>decide (g i>g j)) k)
  ·rw[aK (aC hb)]
   by_cases hi:i=k+1
   ·subst hi;exact Int.le_refl _
   ·have:=uD g k i (by omega)
    omega
  ·rw[aJ (by rw[aD hb];decide)]
   by_cases hi:i=k+1
   ·subst hi;omega
   ·exact uD g k i (by omega)
theorem zfs(hc:X.calm=true):xh X (.builtin "max") (fun xs H Q=>∃(p:Addr) (ns:List Int),xs=[.ref p]/\SqL X.K H p (ns.map V.int)/\ns≠[]/\∀m∈ns,(∀n∈ns,n<=m)->Q (.int m) H):=by
 intro pins s σ H xs us Q I r h;obtain⟨p,ns,rfl,hS,hne,q⟩:=h;obtain⟨u,rfl,ru⟩:=wS r;cases ru;obtain⟨its,rv,hp,hz⟩:=I.list hS;have hlen:its.length=ns.length:=by rw[<- rv.length,aA]
 have hlt:p<s.heap.objs.size:=by obtain⟨_,e,_⟩:=hp.isList;exact aI e
 have hpne:p≠s.heap.objs.size:=ne_of_lt hlt;have hn0 : 0<ns.length:=List.length_pos_iff.mpr hne;have hval:∀(i:Nat) (v:Value),its.toArray[i]?=some v->∃t,v=.int (ns.getD i 0) t:=fun i v hP=>by
  have hv:its[i]?=some v:=by simpa using hP
  have hi:i<ns.length:=by rw[<- hlen];exact(List.getElem?_eq_some_iff.mp hv).1
  obtain⟨u',e1,t,e2⟩:=rv.get (i:=i) (x:=V.int ns[i]) (by rw[getElem?_map,aB hi];rfl)
  rw[hv] at e1;cases e1;exists t,?_;rw[e2,getD_eq_getElem?_getD,aB hi];rfl
 refine call_max_walk (wpAny_pyIter_list hp.isList ?_);exists s.heap.objs.size,_,_,_,_,_,_,rfl,Walks.list (A:=X.A.in1) (I.ok.hd hc) s.heap.objs.size p hpne its.toArray,⟨⟨_,zgs _ rfl,rfl,rfl⟩,hp.isList.push _⟩,fun b hb=>?_,by rw[size_toArray,hlen];exact hn0,CmpOf.ints_gt (fun i=>ns.getD i 0) hval,fun v h' tk hP hk=>?_
 ·show b<(s.heap.push _).objs.size
  rw[Heap.size_push];rcases List.mem_cons.mp hb with rfl|hb
  ·exact lt_succ_self _
  ·rcases List.mem_cons.mp hb with rfl|hb
   ·exact lt_succ_of_lt hlt
   ·cases hb
 ·obtain⟨t,rfl⟩:=hval _ _ hP
  have hb:=qP (fun i j=>decide (ns.getD i 0>ns.getD j 0)) (its.toArray.size - 1);have hg:=uD (fun i=>ns.getD i 0) (its.toArray.size - 1);generalize argBest (fun i j=>decide (ns.getD i 0>ns.getD j 0)) (its.toArray.size - 1)=k at hb hP hg |-;rw[size_toArray,hlen] at hb hg;have hkl:k<ns.length:=by omega
  have ek:ns.getD k 0=ns[k]:=by rw[getD_eq_getElem?_getD,aB hkl];rfl
  exists .int (ns.getD k 0),H,I.kept (old_kept hk),⟨t,rfl⟩,q _ ?_ fun n hn=>?_
  ·rw[ek]
   exact getElem_mem hkl
  ·obtain⟨i,hi,rfl⟩:=List.mem_iff_getElem.mp hn
   have:=hg i (by omega)
   rw[getD_eq_getElem?_getD,aB hi] at this;exact this
end
end L2
namespace K26
open PySem L2 PyProof.Rows
theorem zdS{α : Type}{R:Addr->α->Prop}{us:List Addr}{ms:List α}(h:Paired R us ms)(g : α->V):(((us.zip ms).filter fun _=>true).map fun p=>g p.2)=ms.map g:=by
 induction h with
 | nil=>rfl
 | cons r t ih=>
  rw[zip_cons_cons,filter_cons,aK rfl,map_cons,map_cons,ih]
inductive zam(K:Frag)(vs:List V)(H:Hp)(Q:VK)(E:XK):Prop|mk(t la lb pa:Addr)(cell more:Int)(us:List Addr)(rows:List Rw)(bars pool:List Str):vs=[.ref t,.ref pa,.int cell,.int more]->H t=some (.tup [.ref la,.ref lb])->H la=some (.lst (us.map V.ref))->Paired (TAt H) us rows->H lb=some (.lst (bars.map V.str))->vS rows bars->H pa=some (.lst (pool.map V.str))->pool.length=26->pool.Nodup->Builtin.Int.intBits cell<=1048600->Builtin.Int.intBits more<=1048600->(∀(p l1 l2:Addr) (ts:List Int) (ys:List V) (ps:List (Str×Int)) (H':Hp),zn H H'->H' p=some (.tup [.ref l1,.ref l2])->H' l1=some (.lst (ts.map V.int))->H' l2=some (.lst ys)->Paired (zw K T' H' 1) ys (ps.map yx)->ts.length<=30->ps.length<=50->xB rows bars ts.length (ps.map (·.1))=[]->(∀z∈ps.map (·.1),z∈nms rows\/z∈pool)->Q (.ref p) H')->zam K vs H Q E
theorem zjI{R:Addr->Rw->Prop}(h:Paired R us rows):(((us.zip rows).filter fun p=>ym p.2.k).map fun p=>V.str p.2.z)=(nms rows).map V.str:=by
 unfold nms;induction h with
 | nil=>rfl
 | @cons u r us rows _ _ ih=>
  cases hk:ym r.k
  ·rw[zip_cons_cons,filter_cons,aJ (by rw[hk];decide),ih,filter_cons,aJ (by rw[hk];decide)]
  ·rw[zip_cons_cons,filter_cons,aK hk,map_cons,ih,filter_cons,aK hk]
   rfl
theorem ziN(rows:List Rw):(nms rows).length<=rows.length:=by
 unfold nms;rw[aA];exact length_filter_le _ _
theorem zcG{pool sh:List Str}{g:Str×Nat->Bool}(hp:pool.Nodup):((pool.zipIdx.filter fun y=>decide (y.1∉sh)&&g y).map fun y=>y.1).Nodup/\(∀z∈(pool.zipIdx.filter fun y=>decide (y.1∉sh)&&g y).map fun y=>y.1,z∉sh)/\((pool.zipIdx.filter fun y=>decide (y.1∉sh)&&g y).map fun y=>y.1).length<=pool.length:=by
 have e:(pool.zipIdx.map fun y=>y.1)=pool:=List.zipIdx_map_fst 0 pool;have sb:((pool.zipIdx.filter fun y=>decide (y.1∉sh)&&g y).map fun y=>y.1).Sublist pool:=by
  conv=>rhs;rw[<- e]
  exact List.Sublist.map _ filter_sublist
 exists sb.nodup hp,fun z hz=>?_,sb.length_le;obtain⟨y,hy,rfl⟩:=List.mem_map.mp hz
 have:=(List.mem_filter.mp hy).2
 rw[Bool.and_eq_true] at this;exact of_decide_eq_true this.1
theorem zbA{R:Addr->Rw->Prop}:∀{us:List Addr}{rows:List Rw},Paired R us rows->∀(keep:Rw->Bool),∃us':List Addr,(((us.zip rows).filter fun p=>keep p.2).map fun p=>V.ref p.1)=us'.map V.ref/\Paired R us' (rows.filter keep)
 | _,_,.nil,_=>⟨[],rfl,.nil⟩
 | _,_,.cons (a:=u) (b:=r) h t,keep=>by
  obtain⟨us',e,p⟩:=zbA t keep;cases hk:keep r
  ·exists us',?_,?_
   ·rw[zip_cons_cons,filter_cons,aJ (by rw[hk];decide)];exact e
   ·rw[filter_cons,aJ (by rw[hk];decide)];exact p
  ·exists u::us',?_,?_
   ·rw[zip_cons_cons,filter_cons,aK hk,map_cons,e];rfl
   ·rw[filter_cons,aK hk];exact .cons h p
theorem zfU:∀k:Nat,k<5->decide (V.str (kw k)=V.str "seat")=decide (k=0):=by symm
theorem zlR{k:Nat}(h:k=0):atI (qh k x b) 2=some (.bl b):=by subst h;rfl
section
variable {K:Frag}{mg:Str->Option Value}
theorem zlP:([Str.ofString "_law_at",Str.ofString "_law_one"]:List Str).Nodup:=by symm
theorem zg7:([Str.ofString "_law_k",Str.ofString "_law_name",Str.ofString "_law_more",Str.ofString "_law_shut"]:List Str).Nodup:=by symm
theorem zmK:([Str.ofString "_law_k",Str.ofString "_law_cell_here"]:List Str).Nodup:=by symm
theorem zjA:([Str.ofString "_law_k",Str.ofString "_law_name",Str.ofString "_law_more"]:List Str).Nodup:=by symm
theorem vA:zt ["_law_told","_law_pool_here","_law_cell_here","_law_more","_law_sorts","_law_places","_law_low","_law_many","_law_names","_law_shut","_law_turn","_law_things"] ["_law_told","_law_pool_here","_law_cell_here","_law_more"] (zj qc):=fsc
theorem zdh(F:Fun K "_law_fitting" "_law_fitting" qc f fd)(U:zdN mg)(cM:zG P w K mg base 1 "_law_mix" g1 d1 ["_law_cell_here","_law_k"] jZ)(cT:zG P w K mg base 2 "_law_thing" g2 d2 ["_law_cell_here","_law_k"] zd1)(cN:zG P w K mg base 2 "_law_told_names" g3 d3 ["_law_told","_law_many","_law_more"] zd0):zC P w K mg base CX0 3 f fd ["_law_told","_law_pool_here","_law_cell_here","_law_more"] (zam K):=by
 refine F.ok vA (fun cdv A outer s H vs Q E hr h=>?_);obtain⟨t,la,lb,pa,cell,more,us,rows,bars,pool,rfl,ht,hla,hu,hlb,V1,hpa,l26,npool,b1,b2,q⟩:=h;have hr1:yn 1 _:=hr.mono (by decide)
 have l24:=V1.l24;have hok:=V1.ok;refine⟨_,zh (qk (i:=4) [] ["_law_one"] [none] vA.nd rfl ⋯ rfl ⟨rfl,rfl,rfl,rfl⟩ (yw (zE zD (pv 0) zg nofun)) (yj 0) rfl rfl rfl
   (fun pins fp s H C=>⟨zp (i:=0) zbl rfl ⋯ (.inr rfl),xc,zE (r:=je K) zD (pv 0) zg nofun⟩))
  (zh (qk (i:=5) [] ["_law_one"] [none] vA.nd rfl ⋯ rfl ⟨rfl,rfl,rfl,rfl⟩ (yw (zE zD (pv 0) zg nofun)) (yj 0) rfl rfl rfl
   (fun pins fp s H C=>⟨zp (i:=0) zbl rfl ⋯ (.inr rfl),xq (zk (r:=rIn K false) z7 (zE (r:=je K) zD (pv 0) zg nofun) (zN (ac zm (ac zm zb))) (by with_unfolding_all rfl)),pv 0⟩))
  (zh (zu (i:=6) vA.nd rfl ⋯ (cB (zfs rfl) U.max boot_max (ac (zl ye (zN (ac zg zb)) (xQ [] ["_law_at","_law_one"] [none,none] rfl ⟨rfl,rfl,rfl,rfl⟩ (xr rfl U.en (ac (pv 5) zb)) (xu (K:=K) (n:=2) 0 1) rfl rfl rfl
   (fun pins fp s H C=>⟨yz rfl (zy (zp (i:=0) zlP rfl ⋯ (.inr rfl)) (zy (zp (i:=1) zlP rfl ⋯ (.inr rfl)) yg)),xq (yV (yX (zk yb (zE (r:=je K) zD (pv 1) zg nofun) zm (zx _)) (yy (xT (yY (zE (r:=je K) zD (pv 1) zg nofun)))))),zl yc (pv 0) zg⟩))) zb)))
  (zh (zu (i:=7) vA.nd rfl ⋯ (zl yc (pv 6) (zl zY (pv 2) (zl yc (zl qo (cB zI U.len PySem.boot_len (ac (pv 5) zb)) (pv 6)) zg))))
  (zh (zu (i:=8) vA.nd rfl ⋯ (cF cN hr (ac (pv 0) (ac (pv 7) (ac (pv 3) zb)))))
  (zh (zH (yV (yX (zk z7 zm (pv 4) (by with_unfolding_all rfl)) (yy (zk yb (pv 7) (cB zI U.len PySem.boot_len (ac (pv 5) zb)) (zx _))))) (zf (zu (i:=7) vA.nd rfl ⋯ (zl yc (pv 7) (zl zY (zl yp (pv 2) zg) zg)))) zv)
  (zh (zH (zk z7 zm (pv 4) (by with_unfolding_all rfl))
   (zh (zu (i:=9) vA.nd rfl (Or.inr rfl) (zl ye (xQ [] ["_law_one"] [none] rfl ⟨rfl,rfl,rfl,rfl⟩ (yw (zE zD (pv 0) zg nofun)) (yj 0) rfl rfl rfl
    (fun pins fp s H C=>⟨zp (i:=0) zbl rfl ⋯ (.inr rfl),xq (zk (r:=rIn K false) z7 (zE (r:=je K) zD (pv 0) zg nofun) (zN (ac zm (ac zm zb))) (by with_unfolding_all rfl)),zE (r:=je K) zD (pv 0) zg nofun⟩)) (zE zD (pv 0) zg nofun)))
   (zf (zu (i:=8) vA.nd rfl ⋯ (zl ye (pv 8) (xQ ["_law_shut","_law_more"] ["_law_k","_law_name","_law_more","_law_shut"] [none,none,some 3,some 9] rfl ⟨rfl,rfl,rfl,rfl⟩ (xr rfl U.en (ac (pv 1) zb)) (xu (K:=K) (n:=2) 0 1) rfl rfl rfl
    (fun pins fp s H C=>⟨yz rfl (zy (zp (i:=0) zg7 rfl ⋯ (.inr rfl)) (zy (zp (i:=1) zg7 rfl ⋯ (.inr rfl)) yg)),xq (yV (yX (zk (r:=rIn K true) xN (pv 1) (pv 3) (by with_unfolding_all rfl)) (yy (zk yb (zl zY (cF cM hr1 (ac (pv 2) (ac (zl yc (pv 0) zg) zb))) zg) zg (zx _))))),pv 1⟩)))))) zv)
  (zh (zu (i:=10) vA.nd rfl ⋯ (zl zY (pv 3) (zl yc (cB zI U.len PySem.boot_len (ac (pv 8) zb)) zg)))
  (zh (zu (i:=8) vA.nd rfl ⋯ (zl ye (zM z8 (pv 8) (zQ (pv 10)) zX) (zM z8 (pv 8) zX (zQ (pv 10)))))
  (zh (qk (i:=11) ["_law_cell_here"] ["_law_k","_law_cell_here"] [none,some 2] vA.nd rfl ⋯ rfl ⟨rfl,rfl,rfl,rfl⟩ (wV rfl U.range (ac (pv 7) zb)) (yj 0) rfl rfl rfl
   (fun pins fp s H C=>⟨zp (i:=0) zmK rfl ⋯ (.inr rfl),xc,cF cT hr (ac (pv 1) (ac (pv 0) zb))⟩))
  (zf (zA (zJ (ac (pv 11) (ac (xQ ["_law_more"] ["_law_k","_law_name","_law_more"] [none,none,some 3] rfl ⟨rfl,rfl,rfl,rfl⟩ (xr rfl U.en (ac (pv 8) zb)) (xu (K:=K) (n:=2) 0 1) rfl rfl rfl
   (fun pins fp s H C=>⟨yz rfl (zy (zp (i:=0) zjA rfl ⋯ (.inr rfl)) (zy (zp (i:=1) zjA rfl ⋯ (.inr rfl)) yg)),xc,zJ (ac (pv 1) (ac (cF cT hr (ac (pv 2) (ac (pv 0) zb))) zb))⟩)) zb)))))))))))))),?_⟩
 exists _,rfl,t,_,0,.ref la,rfl,rfl,zq ht,rfl,la,rfl,⟨_,ze hla⟩,fun Ds hDs=>?_;refine vQ (K:=K) TAt (fun _=>true) (fun _ r=>.str (kw r.k)) hDs hla hu (by omega) (fun i u r H' Nn S hu' hr' tr sH n1 s1'=>?_) (fun H1 s1 hDs1=>?_)
 ·have rk:=hok r (aH hr')
  exists fun _=>?_,fun e=>Bool.noConfusion e;exact⟨_,rfl,u,_,0,_,rfl,rfl,zq (sH _ _ tr),uP rk.1,n1 _ (zn.refl _) rfl⟩
 have hDs1:H1 Ds=some (.lst ((wN rows).map V.str)):=by rw[hDs1,zdS hu (fun r=>V.str (kw r.k)),wN,map_map];rfl
 exists _,rfl,t,_,0,.ref la,rfl,rfl,zq (s1 _ _ ht),rfl,la,rfl,⟨_,ze (s1 _ _ hla)⟩,fun Dp hDp=>?_;refine vQ (K:=K) TAt (fun r=>xx r.k) (fun u _=>.ref u) hDp (s1 _ _ hla) (z9 s1 hu) (by omega) (fun i u r H' Nn S hu' hr' tr sH n1 s1'=>?_) (fun H2 s2 hDp2=>?_)
 ·have rk:=hok r (aH hr')
  have tu:=sH _ _ tr;exists _,rfl,u,_,0,_,rfl,rfl,zq tu,uP rk.1,z6,fun l hl=>?_;have s2:=zc hl (.lst [.str "seat",.str "both"]);exists l,_,rfl,.inl (ze za),rfl,rfl,_,rfl,?_;rw[aJ zft,zhj rk.1];exact⟨fun e=>⟨_,rfl,n1 _ s2 e⟩,fun e=>s1' _ s2 e⟩
 have s02:=s1.trans s2;obtain⟨up,eup,hup⟩:=zbA (z9 s02 hu) (fun r=>xx r.k);rw[eup] at hDp2;have lup:up.length<=24:=by rw[hup.length];exact le_trans (length_filter_le _ _) l24
 have okp:∀r∈rows.filter (fun r=>xx r.k),r.ok:=fun r h=>hok r (List.mem_filter.mp h).1;rw[zgw V1] at hup okp;have lupl:up.length=plN rows:=by
  rw[hup.length,length_take]
  have:plN rows<=rows.length:=length_filter_le _ _
  omega
 obtain⟨rp,erp⟩:∃rp,rp=rows.take (plN rows):=⟨_,rfl⟩;rw[<- erp] at hup okp;exists ja,fun l0 hl0=>?_;have s3:=zc hl0 (.lst [.int 0]);have e3:upd H2 l0 (.lst [.int 0]) l0=some (.lst [.int 0]):=za;have s03:=s02.trans s3;have hDp3:=s3 _ _ hDp2;have hup3:=z9 s3 hup;generalize upd H2 l0 (.lst [.int 0])=H3 at s3 e3 s03 hDp3 hup3 |-;exists _,rfl,Dp,rfl,⟨_,ze hDp3⟩,fun Dl hDl=>?_;refine zbm (K:=K) (xs:=up.map V.ref) rp.zipIdx (fun y=>decide (y.1.k=0)&&!y.1.b) (fun y=>V.int ((y.2:Nat)+1)) hDl (ze hDp3) (by rw[aA,hup3.length,length_zipIdx]) (by rw[aA];omega) (fun i x y p H' Nn S hx hy hp sH n1 ss1=>?_) (fun H4 s4 hDl4=>?_)
 ·obtain⟨u,hu',rfl⟩:=x8 hx
  obtain⟨r,hr',tr⟩:=yZ hup3 hu';rw[getElem?_zipIdx,hr'] at hy;have hy:(r,0+i)=y:=Option.some.inj hy;subst hy;rw[Nat.zero_add] at n1 ss1;have rk:=okp r (aH hr');have sp:=zc hp (.tup [.int (i:Nat),.ref u]);exists p,_,rfl,zq za,rfl,_,_,rfl,_,_,rfl,rfl,?_;have tu:upd H' p (.tup [.int (i:Nat),.ref u]) u=some (.tup (qh r.k (.str r.z) r.b)):=sp _ _ (sH _ _ tr);generalize upd H' p (.tup [.int (i:Nat),.ref u])=H5 at sp tu |-;exists _,rfl,u,_,0,_,rfl,rfl,zq tu,uP rk.1,rfl,_,rfl,?_;rw[zfU r.k rk.1];by_cases hk:r.k=0
  ·refine dT hk ?_
   exists _,rfl,u,_,2,_,rfl,rfl,zq tu,zlR hk,_,rfl,?_;have ek:(decide (r.k=0)&&!r.b)=!r.b:=by rw[aC hk,Bool.true_and]
   exact⟨fun e=>⟨_,rfl,_,_,rfl,rfl,n1 _ sp (by show(decide (r.k=0)&&!r.b)=true;rw[ek];exact e)⟩,fun e=>ss1 _ sp (by show(decide (r.k=0)&&!r.b)=false;rw[ek];exact e)⟩
  ·refine dF hk ?_
   exact⟨fun e=>Bool.noConfusion e,fun _=>ss1 _ sp (by show(decide (r.k=0)&&!r.b)=false;rw[aD hk,Bool.false_and])⟩
 obtain⟨ns,ens,hns,lns,hin⟩:∃ns:List Int,((rp.zipIdx.filter fun y=>decide (y.1.k=0)&&!y.1.b).map fun y=>V.int ((y.2:Nat)+1))=ns.map V.int/\(∀n∈ns,0<=n/\n<=(up.length:Int))/\ns.length<=24/\(∀(i:Nat) r,rp[i]?=some r->r.k=0->r.b=false->((i:Nat):Int)+1∈ns):=by
  exists (rp.zipIdx.filter fun y=>decide (y.1.k=0)&&!y.1.b).map fun y=>(((y.2:Nat)+1:Int)),by rw[map_map];rfl,fun n hn=>?_,?_,fun i r hr h1 h2=>?_
  ·obtain⟨y,hy,rfl⟩:=List.mem_map.mp hn
   have:=(List.mem_zipIdx' (List.mem_filter.mp hy).1).1
   have h2:=hup.length;omega
  ·rw[aA]
   refine le_trans (length_filter_le _ _) ?_;rw[length_zipIdx,<- hup.length];exact lup
  ·exact List.mem_map.mpr ⟨(r,i),List.mem_filter.mpr ⟨aH (u7 hr),by show(decide (r.k=0)&&!r.b)=true;rw[aC h1,h2];rfl⟩,rfl⟩
 rw[ens] at hDl4;exists l0,Dl,_,_,rfl,rfl,s4 _ _ e3,hDl4,zK (by rw[aA];show 1+ns.length<=1000;omega),fun lm hlm=>?_
 have s5:=zc hlm (.lst ([.int 0]++ns.map V.int));have e5:upd H4 lm (.lst ([.int 0]++ns.map V.int)) lm=some (.lst ((0::ns).map V.int)):=za;generalize upd H4 lm (.lst ([.int 0]++ns.map V.int))=H5 at s5 e5 |-;exists lm,0::ns,rfl,ze e5,List.cons_ne_nil _ _,fun low hlow hge=>?_;have hlw : 0<=low/\low<=(up.length:Int):=by
  rcases List.mem_cons.mp hlow with rfl|h
  ·exact⟨by decide,by omega⟩
  ·exact hns low h
 have s35:=s4.trans s5;have s05:=s03.trans s35;have hDp5:=s35 _ _ hDp3;have hDs5:=(s2.trans (s3.trans s35)) _ _ hDs1;have hlo:∀(i:Nat) r,rows[i]?=some r->r.k=0->r.b=false->((i:Nat):Int)+1<=low:=fun i r hr h1 h2=>by
  have h3:=zec V1.ok V1.ord hr;rw[h1] at h3;have h4:i<plN rows:=of_decide_eq_true h3.symm;have h5:rp[i]?=some r:=by rw[erp,List.getElem?_take_of_lt h4];exact hr
  exact hge _ (mem_cons_of_mem _ (hin i r h5 h1 h2))
 clear hlow hns lns ens hDl4 e5 e3 hDp3 hup3 hup okp hge hin;exists _,rfl,_,rfl,_,rfl,Dp,_,rfl,.inl (ze hDp5),_,rfl,_,_,rfl,rfl,_,_,rfl,rfl,_,_,rfl,rfl,?_,_,_,rfl,rfl,?_
 ·rw[aA]
  omega
 obtain⟨M,hM,hM0,hM1⟩:∃M:Nat,((M:Nat):Int)=low+cell % (((up.map V.ref).length:Int) - low+1)/\low<=(M:Int)/\M<=plN rows:=by
  rw[aA];have h0:=emod_nonneg cell (show(up.length:Int) - low+1≠0 by omega)
  have h1:=emod_lt_of_pos cell (show 0<(up.length:Int) - low+1 by omega)
  obtain⟨M,hM⟩:=eq_ofNat_of_zero_le (show 0<=low+cell % ((up.length:Int) - low+1) by omega)
  exact⟨M,hM.symm,by omega,by omega⟩
 exists _,rfl,_,rfl,_,rfl,t,la,lb,(M:Nat),more,us,rows,(by rw[hM];rfl),s05 _ _ ht,s05 _ _ hla,z9 s05 hu,hok,l24,fun ln H6 s6 nln hln=>?_
 have s06:=s05.trans s6;have hDp6:=s6 _ _ hDp5;have hDs6:=s6 _ _ hDs5;dsimp only[zZ];refine yr (fun σ' H'=>∃M':Nat,σ'=[some (.ref t),some (.ref pa),some (.int cell),some (.int more),some (.ref Ds),some (.ref Dp),some (.int low),some (.int (M':Nat)),some (.ref ln),none,none,none]/\H'=H6/\M'<=30/\(M'=M\/(M=plN rows/\M<=M'/\(zL 2 0 rows).isSome=true))) ?_ (fun key=>?_);rotate_left
 ·have hpl:plN rows<=rows.length:=length_filter_le _ _
  exists _,rfl,Ds,_,rfl,.inl (ze hDs6),rfl,yN,_,rfl,?_;refine wG (fun ht1=>?_) (fun _=>?_)
  ·exists _,rfl,_,rfl,Dp,_,rfl,.inl (ze hDp6),rfl,_,rfl,?_
   rw[aJ zft,xp] at ht1;have ht2:=uH hok (kk:=2) (by decide)
   rw[show kw 2="tail" from rfl,ht1] at ht2;refine wG (fun hm1=>?_) (fun _=>?_)
   ·have hm2:=V.int.inj (of_decide_eq_true hm1)
    rw[<- hM,aA,lupl] at hm2;exists _,rfl,_,rfl,_,_,rfl,rfl,⟨by decide,by decide⟩,_,_,rfl,rfl,(by show(0:Int)<7;decide),_,_,rfl,rfl,?_
    have h0:=emod_nonneg (cell / 30) (show(7:Int)≠0 by decide)
    have h1:=emod_lt_of_pos (cell / 30) (show(0:Int)<7 by decide)
    exact key _ _ ⟨(((M:Nat):Int)+cell / 30 % 7).toNat,by rw[<- hM,show((((M:Nat):Int)+cell / 30 % 7).toNat:Int)=((M:Nat):Int)+cell / 30 % 7 by omega];rfl,rfl,by omega,.inr ⟨by omega,by omega,ht2.symm⟩⟩
   ·exact key _ _ ⟨M,by rw[<- hM];rfl,rfl,by omega,.inl rfl⟩
  ·exact key _ _ ⟨M,by rw[<- hM];rfl,rfl,by omega,.inl rfl⟩
 clear hM;rintro σ7 H7 ⟨M',rfl,rfl,hM30,hMM⟩;generalize htn:tnF rows (M:Nat) more=tn at hln;have ltn:tn.length<=24:=by
  rw[<- htn];exact le_trans zjM l24
 refine yr (fun σ' H'=>∃ln' zs' v9,σ'=[some (.ref t),some (.ref pa),some (.int cell),some (.int more),some (.ref Ds),some (.ref Dp),some (.int low),some (.int (M':Nat)),some (.ref ln'),v9,none,none]/\zn H7 H'/\H' ln'=some (.lst (zs'.map V.str))/\zs'.length<=50/\∃st,zs'=tn++st/\(st=[]\/((zL 4 0 rows).isSome=true/\st.Nodup/\∀z∈st,z∉nms rows/\z∉bars))/\∀z∈st,z∈pool) ?_ (fun key=>?_);rotate_left
 ·exists _,rfl,Ds,_,rfl,.inl (ze hDs6),rfl,yN,_,rfl,?_
  refine wG (fun hb1=>?_) (fun _=>?_)
  ·rw[aJ zft,xp] at hb1
   have hb2:=uH hok (kk:=4) (by decide)
   rw[show kw 4="bag" from rfl,hb1] at hb2;exists _,rfl,t,_,0,.ref la,rfl,rfl,zq (s06 _ _ ht),rfl,la,rfl,⟨_,ze (s06 _ _ hla)⟩,fun Db hDb=>?_;refine vQ (K:=K) TAt (fun r=>ym r.k) (fun _ r=>.str r.z) hDb (s06 _ _ hla) (z9 s06 hu) (by omega) (fun i u r H' Nn S hu' hr' tr sH n1 s1'=>?_) (fun H8 s8 hDb8=>?_)
   ·have rk:=hok r (aH hr')
    have tu:=sH _ _ tr;exists _,rfl,u,_,0,_,rfl,rfl,zq tu,uP rk.1,z6,fun l hl=>?_;have s2':=zc hl (.lst [.str "both",.str "tag"]);have tu2:=s2' _ _ tu;exists l,_,rfl,.inl (ze za),rfl,rfl,_,rfl,?_;rw[aJ zft,show inV (V.str (kw r.k)) [.str "both",.str "tag"]=ym r.k from uR r.k rk.1];exact⟨fun e=>⟨_,rfl,u,_,1,_,rfl,rfl,zq tu2,zca,n1 _ s2' e⟩,fun e=>s1' _ s2' e⟩
   have enb:H8 Db=some (.lst ((nms rows).map V.str)):=by rw[hDb8,zjI (z9 s06 hu)]
   have lnb:=ziN rows;have s08:=s06.trans s8;have l60:=V1.l60;exists _,rfl,t,_,1,.ref lb,rfl,rfl,zq (s08 _ _ ht),rfl,Db,lb,_,_,rfl,rfl,enb,s08 _ _ hlb,zK (by rw[aA,aA];omega),fun lsh hlsh=>?_
   have s9:=zc hlsh (.lst ((nms rows).map V.str++bars.map V.str));have e9:upd H8 lsh (.lst ((nms rows).map V.str++bars.map V.str)) lsh=some (.lst ((nms rows++bars).map V.str)):=by rw[za,aE]
   dsimp only[zZ];generalize upd H8 lsh (.lst ((nms rows).map V.str++bars.map V.str))=H9 at s9 e9 |-;obtain⟨sh,esh0⟩:∃sh,sh=nms rows++bars:=⟨_,rfl⟩;rw[<- esh0] at e9;have s79:=s8.trans s9;have s09:=s06.trans s79;exists _,rfl,_,rfl,pa,rfl,⟨_,ze (s09 _ _ hpa)⟩,fun Dn hDn=>?_;refine zbm (K:=K) (xs:=pool.map V.str) pool.zipIdx (fun y=>decide (y.1∉sh)&&decide (xm more ((y.2:Int)+50) % 5=0)) (fun y=>V.str y.1) hDn (ze (s09 _ _ hpa)) (by rw[aA,length_zipIdx]) (by rw[aA];omega) (fun i x y p H' Nn S hx hy hp sH n1 ss1=>?_) (fun H10 s10 hDn10=>?_)
   ·obtain⟨z,hz,rfl⟩:=strs_at hx
    rw[getElem?_zipIdx,hz] at hy;have hy:(z,0+i)=y:=Option.some.inj hy;subst hy;rw[Nat.zero_add] at n1 ss1;have sp:=zc hp (.tup [.int (i:Nat),.str z]);exists p,_,rfl,zq za,rfl,_,_,rfl,_,_,rfl,rfl,?_;have esh:=sp _ _ (sH _ _ e9);generalize upd H' p (.tup [.int (i:Nat),.str z])=H11 at sp esh |-;exists _,rfl,_,rfl,lsh,_,rfl,.inl (ze esh),rfl,yN,_,rfl,?_;by_cases hz1:z∈sh
    ·refine jB (by rw[aK rfl,xp,aC hz1];rfl) ?_
     exists fun e=>Bool.noConfusion e,fun _=>ss1 _ sp ?_;show(decide (z∉sh)&&_)=false;rw[aD (fun h=>h hz1)];rfl
    ·refine jj (by rw[aK rfl,xp,aD hz1];rfl) ?_
     exists _,rfl,_,rfl,_,_,rfl,rfl,_,_,rfl,_,_,rfl,rfl,(by show(0:Int)<5;decide),rfl,_,rfl,?_
     exists fun e=>⟨_,rfl,n1 _ sp ?_⟩,fun e=>ss1 _ sp ?_
     ·show(decide (z∉sh)&&decide (xm more ((i:Int)+50) % 5=0))=true
      rw[aC hz1,Bool.true_and];exact aC (V.int.inj (of_decide_eq_true e))
     ·show(decide (z∉sh)&&decide (xm more ((i:Int)+50) % 5=0))=false
      rw[aC hz1,Bool.true_and];exact aD fun h=>of_decide_eq_false e (congrArg V.int h)
   obtain⟨o1,o2,o3⟩:=zcG (sh:=sh) (g:=fun y=>decide (xm more ((y.2:Int)+50) % 5=0)) npool;have hDn10:H10 Dn=some (.lst (((pool.zipIdx.filter fun y=>decide (y.1∉sh)&&decide (xm more ((y.2:Int)+50) % 5=0)).map fun y=>y.1).map V.str)):=by rw[hDn10,map_map];rfl
   have o4:∀z∈((pool.zipIdx.filter fun y=>decide (y.1∉sh)&&decide (xm more ((y.2:Int)+50) % 5=0)).map fun y=>y.1),z∈pool:=fun z hz=>by
    obtain⟨y,hy,rfl⟩:=List.mem_map.mp hz;exact aH (List.mem_zipIdx_iff_getElem?.mp (List.mem_filter.mp hy).1)
   generalize ((pool.zipIdx.filter fun y=>decide (y.1∉sh)&&decide (xm more ((y.2:Int)+50) % 5=0)).map fun y=>y.1)=np at o1 o2 o3 o4 hDn10;have s710:=s79.trans s10;exists ln,Dn,_,_,rfl,rfl,s710 _ _ hln,hDn10,zK (by rw[aA,aA];omega),fun l2 hl2=>?_
   have s11:=zc hl2 (.lst (tn.map V.str++np.map V.str));exact key _ _ ⟨l2,tn++np,_,rfl,s710.trans s11,by rw[za,aE],by rw[aG];omega,np,rfl,.inr ⟨hb2.symm,o1,fun z hz=>⟨fun h=>o2 z hz (by rw[esh0];exact mem_append_left _ h),fun h=>o2 z hz (by rw[esh0];exact mem_append_right _ h)⟩⟩,o4⟩
  ·exact key _ _ ⟨ln,tn,_,rfl,zn.refl _,hln,by omega,[],by rw[append_nil],.inl rfl,fun z hz=>by cases hz⟩
 clear hln nln;rintro σ8 H8 ⟨ln',zs',v9,rfl,s8,hln',lz',st,est,hst,hstp⟩;have s08:=s06.trans s8;exists _,rfl,_,rfl,ln',_,rfl,.inl (ze hln'),_,_,rfl,rfl,_,_,rfl,rfl,(by show(0:Int)<((zs'.map V.str).length:Int)+1;omega),?_
 have j0 : 0<=more % (((zs'.map V.str).length:Int)+1):=emod_nonneg _ (by omega)
 obtain⟨j,hj⟩:=eq_ofNat_of_zero_le j0;exists _,rfl,_,rfl,_,rfl,ln',_,rfl,ze hln',fun p1 hp1=>?_;rw[show wt (zs'.map V.str) (some (more % (((zs'.map V.str).length:Int)+1))) none=(zs'.drop j).map V.str by rw[hj];exact(yo).trans (map_drop ..).symm]
 injections p1 hp1 H9 s9 e9
 exists _,rfl,_,rfl,_,rfl,ln',_,rfl,ze (s9 _ _ hln'),fun p2 hp2=>?_;rw[show wt (zs'.map V.str) none (some (more % (((zs'.map V.str).length:Int)+1)))=(zs'.take j).map V.str by rw[hj];exact(yD).trans (map_take ..).symm]
 injections p2 hp2 H10 s10 e10
 exists p1,p2,_,_,rfl,rfl,s10 _ _ e9,e10,zK (by rw[aA,aA,length_drop,length_take];omega),fun l3 hl3=>?_
 have s11:=zc hl3 (.lst ((zs'.drop j).map V.str++(zs'.take j).map V.str));have e11:upd H10 l3 (.lst ((zs'.drop j).map V.str++(zs'.take j).map V.str)) l3=some (.lst ((zs'.drop j++zs'.take j).map V.str)):=by rw[za,aE]
 have hpm:(zs'.drop j++zs'.take j).Perm (tnF rows (M:Nat) more++st):=by
  refine List.perm_append_comm.trans ?_;rw[take_append_drop,htn,est]
 have lz:(zs'.drop j++zs'.take j).length<=50:=by rw[aG,length_drop,length_take];omega
 dsimp only[zZ];generalize upd H10 l3 (.lst ((zs'.drop j).map V.str++(zs'.take j).map V.str))=H11 at s11 e11 |-;generalize zs'.drop j++zs'.take j=zz at e11 lz hpm;have s011:=s08.trans (s9.trans (s10.trans s11));exists _,rfl,(M':Nat),rfl,by omega,by omega,fun D1 hD1=>?_
 rw[show(((M':Nat):Int)).toNat=M' by omega]
 refine uQ (n:=M') (fun i ys H'=>zn H11 H'/\H' D1=some (.lst ys)/\ys=((List.range i).map fun (k:Nat)=>vf cell ((0:Int)+(k:Int))).map V.int) ⟨zc hD1 _,za,rfl⟩ ?_ ?_
 ·rintro i ys H' hi ⟨sH,hDy,ey⟩
  exists fun _=>?_,fun e=>Bool.noConfusion e;exists _,rfl,_,rfl,cell,_,rfl,b1,?_;have ly:ys.length=i:=by rw[ey,aA,aA,length_range]
  exact lcN.mk hi (zK (by omega)) hDy (le_of_eq ly) ⟨fun b' u e=>by rw[zi (zd e hD1)];exact sH _ _ e,za,by rw[ey,range_succ,aE,aE];rfl⟩
 rintro ys1 H12 ⟨s12,hD12,ey1⟩;have e12:=s12 _ _ e11;exists _,rfl,_,rfl,l3,rfl,⟨_,ze e12⟩,fun D2 hD2=>?_;refine zhc (K:=K) (m:=1) (xs:=zz.map V.str) (fun k=>yx (zz.getD k "",vf more (k:Int))) hD2 (ze e12) (by rw[aA];omega) (fun k x pt H' Qf Qs hx hp sH qf=>?_) (fun vs2 H13 s13 hD2v hp2=>?_)
 ·obtain⟨z,hz,rfl⟩:=strs_at hx
  have sp:=zc hp (.tup [.int (k:Nat),.str z]);exists pt,_,rfl,zq za,rfl,_,_,rfl,_,_,rfl,rfl,fun _=>?_,fun e=>Bool.noConfusion e;generalize upd H' pt (.tup [.int (k:Nat),.str z])=H4' at sp |-;exists _,rfl,_,rfl,_,rfl,more,_,rfl,b2,z6,fun u hu=>?_;have s5:=zc hu (.tup [.str z,.int (vf more (k:Nat))]);refine qf _ _ (sp.trans s5) (.tup (zq za) ?_);rw[show zz.getD k ""=z by rw[getD_eq_getElem?_getD,hz];rfl]
  exact .cons .str (.cons .int .nil)
 exists z6,fun tt htt=>?_;have s14:=zc htt (.tup [.ref D1,.ref D2]);have eN:(((List.range (zz.map V.str).length).map fun k=>(zz.getD k "",vf more (k:Int))).map (·.1))=zz:=by
  rw[map_map,aA];refine List.ext_getElem? fun k=>?_;rw[getElem?_map];by_cases hk:k<zz.length
  ·rw[getElem?_range hk,aB hk]
   show some (zz.getD k "")=_;rw[getD_eq_getElem?_getD,aB hk];rfl
  ·rw[getElem?_eq_none (show(List.range zz.length).length<=k by rw[length_range];omega),getElem?_eq_none (show zz.length<=k by omega)]
   rfl
 refine q tt D1 D2 ((List.range M').map fun (k:Nat)=>vf cell ((0:Int)+(k:Int))) vs2 ((List.range (zz.map V.str).length).map fun k=>(zz.getD k "",vf more (k:Int))) _ (s011.trans (s12.trans (s13.trans s14))) za ?_ (s14 _ _ hD2v) ?_ (by rw[aA,length_range];exact hM30) (by rw[aA,length_range,aA];exact lz) ?_ ?_
 ·rw[<- ey1]
  exact s14 _ _ (s13 _ _ hD12)
 ·rw[map_map]
  exact zr (fun _ _ z=>(x6 (fun _ _ _=>True.intro) z).same s14) hp2
 ·rw[eN,aA,length_range]
  refine ze6 V1 hM1 hMM (fun i r hr h1 h2=>?_) hst hpm
  have:=hlo i r hr h1 h2
  omega
 ·rw[eN]
  intro z hz;rcases List.mem_append.mp (hpm.mem_iff.mp hz) with h|h
  ·exact .inl (zcD.subset h)
  ·exact .inr (hstp z h)
inductive En where
 | one (wd:Str) (n:Nat)
 | many (wd:Str) (ns:List Nat)
 | free
def qx(ns:List Nat):List Int:=ns.map fun (j:Nat)=>(j:Int)
def enD:En->Dt
 | .one wd n=>.tup [.str wd,.int (n:Nat)]
 | .many wd ns=>.tup [.str wd,.lst ((qx ns).map Dt.int)]
 | .free=>.tup [.str "free"]
def zm0(K:Frag)(ok:Addr->Prop)(H:Hp)(x:V):En->Prop
 | .one wd n=>∃u,x=.ref u/\SqT K H u [.str wd,.int (n:Nat)]
 | .many wd ns=>∃u l,x=.ref u/\SqT K H u [.str wd,.ref l]/\ok l/\H l=some (.lst ((qx ns).map V.int))
 | .free=>∃u,x=.ref u/\SqT K H u [.str "free"]
def plL(rows:List Rw)(M:Nat):List Nat:=(List.range (M - plN rows)).map fun i=>plN rows+i
def enF(rows:List Rw)(M:Nat)(zs:List Str)(i:Nat):En:=
 if zL 2 0 rows=some i then .many "places" (plL rows M)
 else if zL 4 0 rows=some i then .many "names" (uj rows (fpZ zs))
 else match rows[i]? with
  | some r=>if xx r.k=true/\i<M then .one "place" i else if ym r.k=true/\r.z∈zs then .one "name" (zs.findIdx fun y=>decide (y=r.z)) else .free
  | none=>.free
theorem zco:∀(zs:List Str) (i:Nat) (acc:List (Str×Nat)),(∀z∈zs,(acc.any fun p=>decide (p.1=z))=false)->zs.Nodup->fpF i acc zs=acc++zs.zipIdx i
 | [],_,acc,_,_=>by
  show acc=acc++[];rw[append_nil]
 | z::zs,i,acc,h,nd=>by
  show fpF (i+1) _ zs=_;rw[h z mem_cons_self,aJ zft,zco zs (i+1) _ (fun y hy=>?_) (List.nodup_cons.mp nd).2,append_assoc]
  ·rfl
  ·rw[any_append,h y (mem_cons_of_mem _ hy),Bool.false_or]
   have:z≠y:=fun e=>(List.nodup_cons.mp nd).1 (e ▸ hy)
   simp [this]
theorem zfe(h:zs.Nodup):fpZ zs=zs.zipIdx:=by
 unfold fpZ;rw[zco zs 0 [] nofun h];rfl
theorem zkM{zs:List Str}{z:Str}(h:z∈zs):zs[zs.findIdx fun y=>decide (y=z)]?=some z:=by
 have hl:(zs.findIdx fun y=>decide (y=z))<zs.length:=List.findIdx_lt_length_of_exists ⟨z,h,aC rfl⟩;rw[aB hl]
 have:=List.findIdx_getElem (p:=fun y=>decide (y=z)) (xs:=zs) (w:=hl)
 rw[of_decide_eq_true this]
def zag:Nat->Str
 | 0=>"doubled"
 | 1=>"over"
 | 2=>"barred"
 | 3=>"again"
 | 4=>"strange"
 | _=>"lacking"
structure zkX(mg:Str->Option Value)(cl oc:Nat->Addr)(MI CE:Addr):Prop where
 isi:mg "isinstance"=none
 ve:mg "ValueError"=none
 mi:mg "Misfit"=some (.ref MI)
 ce:mg "CallError"=some (.ref CE)
 m0:mg "Doubled"=some (.ref (cl 0))
 m1:mg "Over"=some (.ref (cl 1))
 m2:mg "Barred"=some (.ref (cl 2))
 m3:mg "Again"=some (.ref (cl 3))
 m4:mg "Strange"=some (.ref (cl 4))
 m5:mg "Lacking"=some (.ref (cl 5))
 o0:mg "BadOrder"=some (.ref (oc 0))
 o1:mg "NoChange"=some (.ref (oc 1))
 o2:mg "NoDefault"=some (.ref (oc 2))
 o3:mg "NoName"=some (.ref (oc 3))
 o4:mg "NoRow"=some (.ref (oc 4))
 o5:mg "NoText"=some (.ref (oc 5))
 o6:mg "TooMany"=some (.ref (oc 6))
 o7:mg "Twice"=some (.ref (oc 7))
 o8:mg "Unknown"=some (.ref (oc 8))
structure uY(K:Frag)(cl oc:Nat->Addr)(MI CE:Addr)(i:Nat):Prop where
 ex:yU K (cl i)
 set:qQ K (cl i)
 no:yJ K (cl i) "number"
 k:∀j,j<6->kitOne K (.ref (cl i)) (.ref (cl j))=some (decide (j=i))
 oth:kitAny K (.ref (cl i)) ([oc 0,oc 1,oc 2,oc 3,oc 4,oc 5,oc 6,oc 7,oc 8].map Value.ref)=some false
 mi:kitOne K (.ref (cl i)) (.ref MI)=some true
 ve:kitOne K (.ref (cl i)) (.type "ValueError")=some true
 ce:exmOne K (.ref (cl i)) (.ref CE)=some true
abbrev rG(K:Frag):List V->Hp->VK->Prop:=fun xs H Q=>∃(ea D C:Addr) (b:Bool),xs=[.ref ea,.ref C]/\qV H ea D/\yU K D/\kitOne K (.ref D) (.ref C)=some b/\Q (.bl b) H
abbrev rGT(K:Frag):List V->Hp->VK->Prop:=fun xs H Q=>∃(ea D:Addr) (T:String) (b:Bool),xs=[.ref ea,.ty T]/\qV H ea D/\yU K D/\kitOne K (.ref D) (.type T)=some b/\Q (.bl b) H
abbrev rGs(K:Frag):List V->Hp->VK->Prop:=fun xs H Q=>∃(ea D tp:Addr) (cs:List Addr) (b:Bool),xs=[.ref ea,.ref tp]/\qV H ea D/\yU K D/\H tp=some (.tup (cs.map V.ref))/\kitAny K (.ref D) (cs.map Value.ref)=some b/\Q (.bl b) H
inductive zaW(K:Frag)(cl oc:Nat->Addr)(MI CE:Addr)(ea:Addr)(vs:List V)(H:Hp)(Q:VK)(E:XK):Prop|mk(i n:Nat)(d t:Addr):vs=[.ref ea]->i<6->uY K cl oc MI CE i->H ea=some (uU ea (cl i) (some d) t)->H d=some (.xd [("number",.int (n:Nat))])->(∀l u H',zn H H'->H l=none->H' l=some (.lst [.ref u])->H' u=some (.tup [.str (zag i),.int (n:Nat)])->Q (.ref l) H')->zaW K cl oc MI CE ea vs H Q E
variable {cl oc:Nat->Addr}
theorem zlI:([Str.ofString "_law_word",Str.ofString "_law_truth",Str.ofString "_law_e"]:List Str).Nodup:=by symm
theorem uI:zt ["_law_e","_law_some","_law_others"] ["_law_e"] (zj zcR):=fsc
theorem zgK{P:Program}{w:World}{base:Heap}{f:Addr}{fd:FuncData}{MI CE:Addr}{g1:Addr}{d1:FuncData}(F:Fun K "_law_words" "_law_words" zcR f fd)(U:zkX mg cl oc MI CE)(cI:zby P w K mg base 1 "_law_is_int" g1 d1 ["_law_found"] za0)(ea:Addr):zhG P w K mg base ea 2 f fd ["_law_e"] (zaW K cl oc MI CE ea):=by
 refine F.okH uI (fun vs H Q E h=>?_) (fun cdv A outer s H vs Q hA hr h=>?_)
 ·obtain⟨i,n,d,t,rfl,_⟩:=h
  rfl
 obtain⟨i,n,d,t,rfl,hi,so,hea,hd,q⟩:=h;refine⟨_,zh (zu (i:=1) uI.nd rfl ⋯ (zN (ac (zJ (ac zm (ac (cB (r:=rG K) y7 U.isi boot_isinstance (ac (pv 0) (ac (yk (v:=.ref (cl 0)) rfl U.m0 rfl) zb))) zb))) (ac (zJ (ac zm (ac (cB (r:=rG K) y7 U.isi boot_isinstance (ac (pv 0) (ac (yk (v:=.ref (cl 1)) rfl U.m1 rfl) zb))) zb))) (ac (zJ (ac zm (ac (cB (r:=rG K) y7 U.isi boot_isinstance (ac (pv 0) (ac (yk (v:=.ref (cl 2)) rfl U.m2 rfl) zb))) zb))) zb)))))
  (zh (zu (i:=1) uI.nd rfl ⋯ (zl ye (pv 1) (zN (ac (zJ (ac zm (ac (cB (r:=rG K) y7 U.isi boot_isinstance (ac (pv 0) (ac (yk (v:=.ref (cl 3)) rfl U.m3 rfl) zb))) zb))) (ac (zJ (ac zm (ac (cB (r:=rG K) y7 U.isi boot_isinstance (ac (pv 0) (ac (yk (v:=.ref (cl 4)) rfl U.m4 rfl) zb))) zb))) zb)))))
  (zh (zu (i:=1) uI.nd rfl ⋯ (zl ye (pv 1) (zN (ac (zJ (ac zm (ac (cB (r:=rG K) y7 U.isi boot_isinstance (ac (pv 0) (ac (yk (v:=.ref (cl 5)) rfl U.m5 rfl) zb))) zb))) zb))))
  (zh (zu (i:=2) uI.nd rfl ⋯ (cB (r:=rGs K) zac U.isi boot_isinstance (ac (pv 0) (ac (zJ (ac (yk (v:=.ref (oc 0)) rfl U.o0 rfl) (ac (yk (v:=.ref (oc 1)) rfl U.o1 rfl) (ac (yk (v:=.ref (oc 2)) rfl U.o2 rfl) (ac (yk (v:=.ref (oc 3)) rfl U.o3 rfl) (ac (yk (v:=.ref (oc 4)) rfl U.o4 rfl) (ac (yk (v:=.ref (oc 5)) rfl U.o5 rfl) (ac (yk (v:=.ref (oc 6)) rfl U.o6 rfl) (ac (yk (v:=.ref (oc 7)) rfl U.o7 rfl) (ac (yk (v:=.ref (oc 8)) rfl U.o8 rfl) zb)))))))))) zb))))
  (zh (zH (yV (vB (yY (pv 2)) (vB (xT (yY (cB (r:=rG K) y7 U.isi boot_isinstance (ac (pv 0) (ac (yk (v:=.ref MI) rfl U.mi rfl) zb))))) (vB (xT (yY (cB (r:=rGT K) zad U.isi boot_isinstance (ac (pv 0) (ac (uL (v:=.ty "ValueError") rfl U.ve (by symm:bootBuiltins "ValueError"=some (.type "ValueError")) rfl) zb))))) (vi (xT (yY (cM cI hr (ac (zbY (K:=K) rfl (pv 0) rfl) zb))))))))) (zf xC) zv)
  (zf (zA (zkp (ea:=ea) ["_law_e"] ["_law_word","_law_truth","_law_e"] [none,none,some 0] hA ⟨rfl,rfl,rfl,rfl⟩ (zgy (pv 1)) (zdB (K:=K) (n:=2) (ea:=ea) 0 1) rfl rfl rfl
   (fun pins fp s H C=>⟨zii (K:=K) rfl hA (zy (zp (i:=0) zlI rfl ⋯ (.inr rfl)) (zy (zp (i:=1) zlI rfl ⋯ (.inr rfl)) yg)),xq (yY (pv 1)),zJ (ac (pv 0) (ac (zbY (K:=K) rfl (pv 2) rfl) zb))⟩)))))))),?_⟩
 have he:qV H ea (cl i):=.inl ⟨_,_,hea⟩;exists _,rfl,ea,cl i,cl 0,_,rfl,he,so.ex,so.k 0 (by decide),z6,fun u0 hu0=>?_
 injections u0 hu0 H0 s0 w0
 have he:=he.same s0;exists _,rfl,ea,cl i,cl 1,_,rfl,he,so.ex,so.k 1 (by decide),z6,fun u1 hu1=>?_
 injections u1 hu1 H1 s1 w1
 have he:=he.same s1;have w0:=s1 _ _ w0;exists _,rfl,ea,cl i,cl 2,_,rfl,he,so.ex,so.k 2 (by decide),z6,fun u2 hu2=>?_
 injections u2 hu2 H2 s2 w2
 have he:=he.same s2;have w0:=s2 _ _ w0;have w1:=s2 _ _ w1;exists qZ,fun la hla=>?_
 try dsimp only[zZ]
 injections la hla Hla sla gla
 have he:=he.same sla;have w0:=sla _ _ w0;have w1:=sla _ _ w1;have w2:=sla _ _ w2;exists _,rfl,?_;exists _,rfl,ea,cl i,cl 3,_,rfl,he,so.ex,so.k 3 (by decide),z6,fun u3 hu3=>?_
 injections u3 hu3 H3 s3 w3
 have he:=he.same s3;have w0:=s3 _ _ w0;have w1:=s3 _ _ w1;have w2:=s3 _ _ w2;have gla:=s3 _ _ gla;exists _,rfl,ea,cl i,cl 4,_,rfl,he,so.ex,so.k 4 (by decide),z6,fun u4 hu4=>?_
 injections u4 hu4 H4 s4 w4
 have he:=he.same s4;have w0:=s4 _ _ w0;have w1:=s4 _ _ w1;have w2:=s4 _ _ w2;have w3:=s4 _ _ w3;have gla:=s4 _ _ gla;exists z6,fun lb hlb=>?_
 try dsimp only[zZ]
 injections lb hlb Hlb slb glb
 have he:=he.same slb;have w0:=slb _ _ w0;have w1:=slb _ _ w1;have w2:=slb _ _ w2;have w3:=slb _ _ w3;have w4:=slb _ _ w4;have gla:=slb _ _ gla;exists la,lb,_,_,rfl,rfl,gla,glb,zmo,fun lc hlc=>?_;rw[show([.ref u0,.ref u1,.ref u2]++[.ref u3,.ref u4]:List V)=[.ref u0,.ref u1,.ref u2,.ref u3,.ref u4] from rfl]
 try dsimp only[zZ]
 injections lc hlc Hlc slc glc
 have he:=he.same slc;have w0:=slc _ _ w0;have w1:=slc _ _ w1;have w2:=slc _ _ w2;have w3:=slc _ _ w3;have w4:=slc _ _ w4;exists _,rfl,?_;exists _,rfl,ea,cl i,cl 5,_,rfl,he,so.ex,so.k 5 (by decide),z6,fun u5 hu5=>?_
 injections u5 hu5 H5 s5 w5
 have he:=he.same s5;have w0:=s5 _ _ w0;have w1:=s5 _ _ w1;have w2:=s5 _ _ w2;have w3:=s5 _ _ w3;have w4:=s5 _ _ w4;have glc:=s5 _ _ glc;exists ja,fun ld hld=>?_
 try dsimp only[zZ]
 injections ld hld Hld sld gld
 have he:=he.same sld;have w0:=sld _ _ w0;have w1:=sld _ _ w1;have w2:=sld _ _ w2;have w3:=sld _ _ w3;have w4:=sld _ _ w4;have w5:=sld _ _ w5;have glc:=sld _ _ glc;exists lc,ld,_,_,rfl,rfl,glc,gld,zlp,fun le hle=>?_;rw[show([.ref u0,.ref u1,.ref u2,.ref u3,.ref u4]++[.ref u5]:List V)=[.ref u0,.ref u1,.ref u2,.ref u3,.ref u4,.ref u5] from rfl]
 try dsimp only[zZ]
 injections le hle Hle sle gle
 have he:=he.same sle;have w0:=sle _ _ w0;have w1:=sle _ _ w1;have w2:=sle _ _ w2;have w3:=sle _ _ w3;have w4:=sle _ _ w4;have w5:=sle _ _ w5;have sA:zn H Hle:=s0.trans (s1.trans (s2.trans (sla.trans (s3.trans (s4.trans (slb.trans (slc.trans (s5.trans (sld.trans (sle))))))))));exists _,rfl,zmm,fun tp htp=>?_;have st:=zc htp (.tup [.ref (oc 0),.ref (oc 1),.ref (oc 2),.ref (oc 3),.ref (oc 4),.ref (oc 5),.ref (oc 6),.ref (oc 7),.ref (oc 8)]);have gt:upd Hle tp (.tup [.ref (oc 0),.ref (oc 1),.ref (oc 2),.ref (oc 3),.ref (oc 4),.ref (oc 5),.ref (oc 6),.ref (oc 7),.ref (oc 8)]) tp=some (.tup ([oc 0,oc 1,oc 2,oc 3,oc 4,oc 5,oc 6,oc 7,oc 8].map V.ref)):=za;generalize upd Hle tp (.tup [.ref (oc 0),.ref (oc 1),.ref (oc 2),.ref (oc 3),.ref (oc 4),.ref (oc 5),.ref (oc 6),.ref (oc 7),.ref (oc 8)])=HT at st gt |-;have he:=he.same st;have sB:=sA.trans st;exists ea,cl i,tp,_,false,rfl,he,so.ex,gt,so.oth,?_;exists _,rfl,_,rfl,?_;refine yf ?_;exists _,rfl,ea,cl i,MI,true,rfl,he,so.ex,so.mi,_,rfl,?_;refine yf ?_;exists _,rfl,ea,cl i,"ValueError",true,rfl,he,so.ex,so.ve,_,rfl,?_;refine yf ?_;exists _,rfl,ea,cl i,t,d,_,.int (n:Nat),rfl,sB _ _ hea,sB _ _ hd,so.ex,so.set,so.no,rfl,_,rfl,_,rfl,?_;refine yf ?_;exists _,rfl,le,cl i,some d,t,rfl,⟨_,ze (st _ _ gle)⟩,fun D hD=>?_;have w0:=st _ _ w0;have w1:=st _ _ w1;have w2:=st _ _ w2;have w3:=st _ _ w3;have w4:=st _ _ w4;have w5:=st _ _ w5;have gle:=st _ _ gle;have hw:∀k x,([.ref u0,.ref u1,.ref u2,.ref u3,.ref u4,.ref u5]:List V)[k]?=some x->∃u,x=.ref u/\HT u=some (.tup [.str (zag k),.bl (decide (k=i))]):=fun k x hx=>by
  match k,hx with
  | 0,hx=>cases hx;exact⟨u0,rfl,w0⟩
  | 1,hx=>cases hx;exact⟨u1,rfl,w1⟩
  | 2,hx=>cases hx;exact⟨u2,rfl,w2⟩
  | 3,hx=>cases hx;exact⟨u3,rfl,w3⟩
  | 4,hx=>cases hx;exact⟨u4,rfl,w4⟩
  | 5,hx=>cases hx;exact⟨u5,rfl,w5⟩
  | k+6,hx=>cases hx
 refine zhd (K:=K) (xs:=[.ref u0,.ref u1,.ref u2,.ref u3,.ref u4,.ref u5]) (fun k ys H'=>zn HT H'/\H' D=some (.lst ys)/\((k<=i/\ys=[])\/(i<k/\∃u,ys=[.ref u]/\H' u=some (.tup [.str (zag i),.int (n:Nat)])))) ⟨zc hD _,za,.inl ⟨zero_le _,rfl⟩⟩ (fun k ys H' h=>ze (h.1 _ _ gle)) (fun k ys H' h=>h.1 _ _ (sB _ _ hea)) ?_ ?_
 ·rintro k x ys H' hk hx ⟨sH,hDy,hys⟩
  obtain⟨u,rfl,hu⟩:=hw k x hx;have sH2:=(sB.trans sH);exists u,_,cl i,some d,t,rfl,zq (sH _ _ hu),rfl,sH2 _ _ hea,_,_,rfl,_,_,rfl,rfl,_,rfl,_,rfl,?_;by_cases hki:k=i
  ·subst hki
   refine⟨fun _=>?_,fun e=>by rw[aC rfl] at e;cases e⟩
   rcases hys with ⟨_,rfl⟩|⟨z,_⟩
   ·exists _,rfl,_,rfl,ea,cl k,t,d,_,.int (n:Nat),rfl,sH2 _ _ hea,sH2 _ _ hd,so.ex,so.set,so.no,rfl,z6,fun v hv=>?_
    have s9:=zc hv (.tup [.str (zag k),.int (n:Nat)]);refine lcN.mk hk zlp (s9 _ _ hDy) (zero_le _) ⟨fun b' u' e=>?_,za,.inr ⟨lt_succ_self _,v,rfl,?_⟩⟩
    ·rw[zi (zd e hD)]
     exact s9 _ _ (sH _ _ e)
    ·rw[zi (zd hDy hv).symm,za]
   ·omega
  ·exists fun e=>absurd (of_decide_eq_true e) hki,fun _=>lcS.mk hk ⟨sH,hDy,?_⟩
   rcases hys with ⟨h1,rfl⟩|⟨h1,h2⟩
   ·exact .inl ⟨by omega,rfl⟩
   ·exact .inr ⟨by omega,h2⟩
 ·rintro ys H' ⟨sH,hDy,hys⟩
  rcases hys with ⟨h1,_⟩|⟨_,u,rfl,hu⟩
  ·exact absurd h1 (by show ¬6<=i;omega)
  ·exact q D u H' (sB.trans sH) (sB.free hD) hDy hu
def vF(z:Str):Prop:=zag (wX z)=z
theorem wd0:vF "doubled":=by unfold vF;decide +kernel
theorem wd1:vF "over":=by unfold vF;decide +kernel
theorem wd2:vF "barred":=by unfold vF;decide +kernel
theorem wd3:vF "again":=by unfold vF;decide +kernel
theorem wd4:vF "strange":=by unfold vF;decide +kernel
theorem wd5:vF "lacking":=by unfold vF;decide +kernel
theorem zhz(fk:List (Key×V)):∀(zs:List Str) (i:Nat),∀m∈ue fk i zs,vF m.1
 | [],_,m,h=>by cases h
 | z::zs,i,m,h=>by
  rcases List.mem_append.mp h with h|h
  ·split at h
   ·cases h
   ·rw[List.mem_singleton.mp h];exact wd0
  ·exact zhz fk zs (i+1) m h
theorem zem(many:Nat)(fk:List (Key×V)):∀(rows:List Rw) (i:Nat),∀m∈wA many fk i rows,vF m.1
 | [],_,m,h=>by cases h
 | r::rs,i,m,h=>by
  rcases List.mem_append.mp h with h|h
  ·split at h
   ·rw[List.mem_singleton.mp h];exact wd5
   ·cases h
  ·exact zem many fk rs (i+1) m h
theorem zir(rows:List Rw)(many:Nat):∀m∈wn rows many,vF m.1:=fun m h=>by
 unfold wn at h;split at h
 ·cases h
 ·obtain⟨_,_,rfl⟩:=List.mem_map.mp h
  exact wd1
theorem zhM{many:Nat}(h:y0 rows bars many z=some x):vF x:=by
 unfold y0 at h;split at h
 ·cases h;exact wd2
 ·split at h
  ·split at h
   ·cases h
   ·cases h;exact wd4
  ·split at h
   ·cases h;exact wd3
   ·cases h
theorem zjJ(rows:List Rw)(bars:List Str)(many:Nat)(fp:List (Str×Nat)):∀m∈vd rows bars many fp,vF m.1:=fun m h=>by
 unfold vd at h;obtain⟨p,_,e⟩:=List.mem_filterMap.mp h;cases e2:y0 rows bars many p.1 with
 | none=>rw[e2] at e;cases e
 | some x=>
  rw[e2] at e;cases e;exact zhM e2
theorem ziP:∀m∈ul rows bars ct,vF m.1:=fun m h=>by
 unfold ul xB at h;rw[mem_append,mem_append,mem_append] at h;rcases h with ((h|h)|h)|h
 ·exact zhz _ _ _ m h
 ·exact zir _ _ m h
 ·exact zjJ _ _ _ _ m h
 ·exact zem _ _ _ _ m h
def zgF(rows:List Rw)(bars:List Str)(many:Nat)(zs:List Str):Dt:=match xB rows bars many zs with
 | []=>.tup [.str "told",.lst (jz rows many zs)]
 | m::_=>.tup [.str "refused",.lst [.tup [.str m.1,.int (m.2:Nat)]]]
inductive zbH(K:Frag)(c:C5)(CF:Addr)(vs:List V)(H:Hp)(Q:VK)(E:XK):Prop|mk(f a:Addr)(rows:List Rw)(bars:List Str)(ct:List yQ):vs=[.ref f,.ref a]->vy c CF H f rows bars->wR K H a ct->(∀t H',zn H H'->zw K (fun a=>H a=none) H' 4 (.ref t) (zgF rows bars (yq ct).length (zT ct))->Q (.ref t) H')->zbH K c CF vs H Q E
theorem vI:zt ["_law_form_here","_law_call","_law_found","_law_e"] ["_law_form_here","_law_call"] (zj zbb):=fsc
theorem zeZ{P:Program}{w:World}{base:Heap}{f CF:Addr}{fd:FuncData}{c:C5}{MI CE:Addr}{g1 g2:Addr}{d1 d2:FuncData}(F:Fun K "_law_paper" "_law_paper" zbb f fd)(U:zkX mg cl oc MI CE)(so:∀i,i<6->uY K cl oc MI CE i)(cP:vz P w K mg base 5 "paper" g1 d1 ["form","call"] (jE K c CF cl))(cW:zbz P w K mg base 2 "_law_words" g2 d2 ["_law_e"] (zaW K cl oc MI CE)):zC P w K mg base CX0 6 f fd ["_law_form_here","_law_call"] (zbH K c CF):=by
 refine F.ok vI (fun cdv A outer s H vs Q E hr h=>?_);obtain⟨f,a,rows,bars,ct,rfl,hF,hC,q⟩:=h;have hr2:yn 2 _:=hr.mono (by decide)
 refine⟨_,zh (zu (i:=2) vI.nd rfl ⋯ zdd)
  (zh (zie rfl rfl
    (zkl (i:=3) vI.nd rfl rfl rfl U.ce (fun ea=>zf (zu (i:=2) vI.nd rfl ⋯ (zJ (ac zm (ac (cH (ea:=ea) cW rfl (hr2.m.mark _) (ac (pv 3) zb)) zb))))) zkk)
   (fun pins σ xe E hp=>zke (i:=2) vI.nd rfl ⋯ (zks (zeA zm.one (zeA (ziq cP hp hr (ac (pv 0) (ac (pv 1) zb))) zb.one)))))
  (zf (zA (pv 2)))),?_⟩
 exists _,rfl,_,rfl,f,a,rows,bars,ct,rfl,hF,hC,fun em l xs H1 s1 nl hl hp=>?_,fun m ms em d H1 s1 hd=>?_
 ·exists z6,fun t ht=>?_
  have s2:=zc ht (.tup [.str "told",.ref l]);exists _,rfl,q t _ (s1.trans s2) ?_;have em':xB rows bars (yq ct).length (zT ct)=[]:=em;unfold zgF;rw[em'];exact .tup (zq za) (.cons .str (.cons (.lst nl (s2 _ _ hl) (zr (fun _ _ z=>(x6 (fun _ o _=>o.2) z).same s2) hp)) .nil))
 ·have hi:=ziR m.1
  exists cl (wX m.1),rfl,fun tt ea hea=>.inl ⟨(so _ hi).ce,?_⟩;have s2:=zc hea (uU ea (cl (wX m.1)) (some d) tt);have e2:upd H1 ea (uU ea (cl (wX m.1)) (some d) tt) ea=some (uU ea (cl (wX m.1)) (some d) tt):=za;have hd2:=s2 _ _ hd;generalize upd H1 ea (uU ea (cl (wX m.1)) (some d) tt)=H2 at s2 e2 hd2 |-;exists _,rfl,wX m.1,m.2,d,tt,rfl,hi,so _ hi,e2,hd2,fun l u H3 s3 nl hl hu=>?_;exists z6,fun t ht=>?_;have s4:=zc ht (.tup [.str "refused",.ref l]);exists _,rfl,q t _ (s1.trans (s2.trans (s3.trans s4))) ?_;have em':xB rows bars (yq ct).length (zT ct)=m::ms:=em;have ew:zag (wX m.1)=m.1:=ziP m (by rw[em];exact mem_cons_self)
  rw[ew] at hu;unfold zgF;rw[em'];exact .tup (zq za) (.cons .str (.cons (.lst ((s1.trans s2).free nl) (s4 _ _ hl) (.cons (.tup (zq (s4 _ _ hu)) (.cons .str (.cons .int .nil))) .nil)) .nil))
inductive zdZ(vs:List V)(H:Hp)(Q:VK)(E:XK):Prop|mk(la lb lg:Addr)(z:Str)(many:Nat)(us:List Addr)(rows:List Rw)(bars:List Str):vs=[.ref la,.ref lb,.str z,.ref lg]->H la=some (.lst (us.map V.ref))->Paired (TAt H) us rows->rows.length<=24->(∀r∈rows,r.ok)->(nms rows).Nodup->H lb=some (.lst (bars.map V.str))->H lg=some (.lst ((List.range (min many (plN rows))).map fun i=>V.int (i:Nat)))->z≠""->(∀H',zn H H'->Q (.str (xw rows bars many z)) H')->zdZ vs H Q E
theorem zeo(l g:Nat):inV (.int (l:Nat)) ((List.range g).map fun i=>V.int (i:Nat))=decide (l<g):=by
 induction g with
 | zero=>simp [inV]
 | succ g ih=>
  have happ:∀a b x,inV x (a++b)=(inV x a||inV x b):=fun a b x=>by
   unfold inV;rw[any_append]
  rw[range_succ,aE,happ,ih];have e:inV (.int (l:Nat)) [V.int (g:Nat)]=decide (l=g):=by
   show(eqV (.int (g:Nat)) (.int (l:Nat))||false)=_
   rw[Bool.or_false];show((g:Int)==(l:Int))=_;rw[Bool.eq_iff_iff,beq_iff_eq,decide_eq_true_eq];omega
  show(decide (l<g)||inV (.int (l:Nat)) [V.int (g:Nat)])=_
  rw[e,Bool.eq_iff_iff,Bool.or_eq_true,decide_eq_true_eq,decide_eq_true_eq,decide_eq_true_eq];omega
theorem zaK(g:Nat):((List.range g).map fun i=>V.int (i:Nat)).all xJ=true:=by
 rw[all_map,all_eq_true];intro x _;rfl
theorem zhs:eqV (.str a) (.str b)=decide (a=b):=by
 show(a==b)=_;rw[Bool.eq_iff_iff,beq_iff_eq,decide_eq_true_eq]
theorem za4:zt ["_law_told","_law_bars","_law_name","_law_goes","_law_tellable","_law_at"] ["_law_told","_law_bars","_law_name","_law_goes"] (zj zcQ):=fsc
theorem zgJ(F:Fun K "_law_wrong" "_law_wrong" zcQ f fd)(hint:mg "int"=none):zC P w K mg base CX0 1 f fd ["_law_told","_law_bars","_law_name","_law_goes"] zdZ:=by
 refine F.ok za4 (fun cdv A outer s H vs Q E hr h=>?_);obtain⟨la,lb,lg,z,many,us,rows,bars,rfl,hla,hu,l24,hok,nd,hlb,hlg,hz,q⟩:=h;refine⟨_,zh (qk (i:=4) [] ["_law_one"] [none] za4.nd rfl ⋯ rfl ⟨rfl,rfl,rfl,rfl⟩ (yw (pv 0)) (yj 0) rfl rfl rfl
   (fun pins fp s H C=>⟨zp (i:=0) zbl rfl ⋯ (.inr rfl),xc,zbX (zk (r:=rIn K false) z7 (zE (r:=je K) zD (pv 0) zg nofun) (zN (ac zm (ac zm zb))) (by with_unfolding_all rfl)) (zE (r:=je K) zD (pv 0) zg nofun) zm⟩))
  (zh (zH (zk z7 (pv 2) (pv 1) (by with_unfolding_all rfl)) (zf (zA zm)) zv)
  (zh (zH (zk xN (pv 2) (pv 4) (by with_unfolding_all rfl)) (zf (zA (zE y6 (zN (ac zm (ac zm zb))) (cTy zfv hint PyProof.Rows.boot_int (ac (xD z7 zm (xQ [] ["_law_one"] [none] rfl ⟨rfl,rfl,rfl,rfl⟩ (yw (pv 0)) (yj 0) rfl rfl rfl
   (fun pins fp s H C=>⟨zp (i:=0) zbl rfl ⋯ (.inr rfl),xc,zE (r:=je K) zD (pv 0) zg nofun⟩)) (by with_unfolding_all rfl)) zb)) nofun))) zv)
  (zh (zu (i:=5) za4.nd rfl ⋯ (y8 PySem.F.plainAttrs_list PySem.F.slot_list_index PySem.F.type_list_index ze5 (pv 4) (ac (pv 2) zb)))
  (zh (zH (zk z7 (pv 5) (pv 3) (by with_unfolding_all rfl)) (zf (zA zm)) zv)
  (zf (zA zm)))))),?_⟩
 exists _,rfl,la,rfl,⟨_,ze hla⟩,fun D hD=>?_;refine vQ (K:=K) TAt (fun _=>true) (fun _ r=>.str (if ym r.k=true then r.z else "")) hD hla hu (by omega) (fun i u r H' Nn S hu' hr' tr sH n1 s1=>?_) (fun H1 s1 hD1=>?_)
 ·have rk:=hok r (aH hr')
  have tu:=sH _ _ tr;exists fun _=>?_,fun e=>Bool.noConfusion e;exists _,rfl,u,_,0,_,rfl,rfl,zq tu,uP rk.1,z6,fun l hl=>?_;have s2:=zc hl (.lst [.str "both",.str "tag"]);exists l,_,rfl,.inl (ze za),rfl,rfl,_,rfl,?_;rw[aJ zft,show inV (.str (kw r.k)) [.str "both",.str "tag"]=ym r.k from uR r.k rk.1];cases hb:ym r.k with
  | true=>
   refine xt ?_
   have:=n1 _ s2 rfl
   rw[aK hb] at this;exact⟨_,rfl,u,_,1,_,rfl,rfl,zq (s2 _ _ tu),zca,this⟩
  | false=>
   refine yf ?_
   have:=n1 _ s2 rfl
   rw[aJ (by rw[hb];decide)] at this
   exact this
 have eD:H1 D=some (.lst ((jT rows).map V.str)):=by
  rw[hD1]
  have:=L2.zdS hu (fun _=>true) (fun r=>V.str (if ym r.k=true then r.z else ""))
  rw[this,List.filter_eq_self.mpr nofun];unfold jT;rw[map_map];rfl
 clear hD1;exists _,rfl,_,rfl,lb,_,rfl,.inl (ze (s1 _ _ hlb)),rfl,yN,_,rfl,?_;rw[aJ zft,xp];by_cases hb:z∈bars
 ·rw[aC hb]
  refine xt ?_
  have:=q H1 s1
  unfold xw y0 at this;rw[aK hb] at this;exact this
 rw[aD hb];refine yf ?_;exists _,rfl,_,rfl,D,_,rfl,.inl (ze eD),rfl,yN,_,rfl,?_;rw[aK rfl,xp];by_cases hk:z∈nms rows
 rotate_left
 ·rw[aD (fun e=>hk ((zdV hz).mp e))]
  refine xt ?_;exists z6,fun l2 hl2=>?_
  injections l2 hl2 H2 s2 g2
  have s12:=s1.trans s2;have hla2:=s12 _ _ hla;have hu2:=z9 s12 hu;exists _,rfl,la,rfl,⟨_,ze hla2⟩,fun D3 hD3=>?_;refine vQ (K:=K) TAt (fun _=>true) (fun _ r=>.str (kw r.k)) hD3 hla2 hu2 (by omega) (fun i u r H' Nn S hu' hr' tr sH n1 s1=>?_) (fun H3 s3 hD3'=>?_)
  ·have rk:=hok r (aH hr')
   exact⟨fun _=>⟨_,rfl,u,_,0,_,rfl,rfl,zq (sH _ _ tr),uP rk.1,n1 _ (zn.refl _) rfl⟩,fun e=>Bool.noConfusion e⟩
  have eD3:H3 D3=some (.lst ((wN rows).map V.str)):=by
   rw[hD3']
   have:=L2.zdS hu2 (fun _=>true) (fun r=>V.str (kw r.k))
   rw[this,List.filter_eq_self.mpr nofun];unfold wN;rw[map_map];rfl
  exists D3,_,rfl,.inl (ze eD3),rfl,yN,?_;rw[aJ zft,xp,show decide (("bag" : Str)∈wN rows)=(zL 4 0 rows).isSome from uH (kk:=4) hok (by decide)]
  have fin:=q H3 (s12.trans s3);rw[zfz hb hk] at fin;refine .inr ⟨_,rfl,?_⟩;cases hf:(zL 4 0 rows).isSome with
  | true=>
   rw[hf,aK rfl] at fin;exact⟨l2,_,1,_,rfl,rfl,ze (s3 _ _ g2),rfl,fin⟩
  | false=>
   rw[hf,aJ (by decide)] at fin
   exact⟨l2,_,0,_,rfl,rfl,ze (s3 _ _ g2),rfl,fin⟩
 rw[aC ((zdV hz).mpr hk)];refine yf ?_;obtain⟨l,r,hl,hbn,he⟩:=zkD hk;obtain⟨t1,t2⟩:=zcE nd hz hl hbn he;exists _,rfl,.inl ⟨rfl,_,ze eD⟩,_,rfl,D,_,.str z,l,rfl,rfl,eD,rfl,yN,⟨.str z,by rw[getElem?_map,t1];rfl,by rw[zhs,aC rfl]⟩,fun m y hm hy=>?_,?_
 ·obtain⟨y',hy',rfl⟩:=strs_at hy
  rw[zhs,aD (t2 m y' hm hy')]
 have fin:=q H1 s1;rw[zbB nd hb hl hbn he] at fin;exists _,rfl,_,rfl,lg,_,rfl,.inl (ze (s1 _ _ hlg)),rfl,zaK _,_,rfl,?_;rw[aJ zft,zeo];by_cases hlt:l<min many (plN rows)
 ·rw[aC hlt]
  refine xt ?_;rw[aK hlt] at fin;exact fin
 ·rw[aD hlt]
  refine yf ?_;rw[aJ hlt] at fin;exact fin
theorem zck{c:List yQ}{i:Nat}{d:Dt}(h:(c.map xf)[i]?=some d):∃it,c[i]?=some it/\xf it=d:=by
 rw[getElem?_map] at h;cases e:c[i]? with
 | none=>rw[e] at h;cases h
 | some it=>rw[e] at h;exact⟨it,rfl,Option.some.inj h⟩
theorem zb1{K:Frag}{ok ok':Addr->Prop}{H3:Hp}:∀{ps:List (Str×Int)}{zs:List V},Paired (zw K ok H3 1) zs (ps.map yx)->Paired (zw K ok' H3 1) zs (ps.map yx)
 | [],_,r=>by cases r;exact .nil
 | p::ps,_,r=>by
  cases r with
  | cons h r=>
   refine .cons ?_ (zb1 r);obtain⟨b,ws,rfl,hS',r'⟩:=yE h;exact .tup hS' (zr (fun _ _ z=>z) r')
theorem jU{α : Type}{l:List α}{i:Nat}{x : α}(h:l[i]?=some x):l.take (i+1)=l.take i++[x]:=by
 rw[take_add_one,h];rfl
theorem zfL(hl:H3 l=none\/(∃zs,H3 l=some (.lst zs)))(hz:SqT K H3 b zs):SqT K (upd H3 l o) b zs:=by
 rcases hz with (z|⟨u,z⟩)|z
 ·refine .inl (.inl ?_)
  have:b≠l:=fun e=>by
   subst e;rcases hl with e|⟨_,e⟩
   ·rw[e] at z;cases z
   ·rw[e] at z;cases z
  rw[zi this];exact z
 ·refine .inl (.inr ⟨u,?_⟩)
  have:b≠l:=fun e=>by
   subst e;rcases hl with e|⟨_,e⟩
   ·rw[e] at z;cases z
   ·rw[e] at z;cases z
  rw[zi this];exact z
 ·exact .inr z
theorem zbP{ok ok':Addr->Prop}(hl:H l=none\/(∃zs,H l=some (.lst zs)))(hk:∀b,ok b->H b≠none->ok' b/\b≠l){n:Nat}(h:zw K ok H n x d):zw K ok' (upd H l o) n x d:=
 h.frame (fun a xs z=>zfL hl z) fun a xs oa z=>by
  have:=hk a oa (by rw[z];intro q;cases q)
  exact⟨this.1,by rw[zi this.2];exact z⟩
inductive zbI(K:Frag)(vs:List V)(H:Hp)(Q:VK)(E:XK):Prop|mk(a:Addr)(c:List yQ)(xs:List V):vs=[.ref a]->SqL K H a xs->Paired (zw K T' H 3) xs (c.map xf)->c.length<=900->(∀r ys H',zn H H'->H r=none->H' r=some (.lst ys)->Paired (zw K (fun b=>H b=none/\b≠r) H' 3) ys (c.map xf)->Q (.ref r) H')->zbI K vs H Q E
theorem zdz(h:x=.str "row"\/x=.str "book"):inV x [.str "row",.str "book"]=true:=by rcases h with rfl|rfl <;> decide +kernel
theorem zav(h:x=.str "one"\/x=.str "named"):inV x [.str "row",.str "book"]=false:=by rcases h with rfl|rfl <;> decide +kernel
theorem j7:zt ["_law_call","_law_copied_here","_law_item"] ["_law_call"] (zj zbd):=fsc
theorem ze2(F:Fun K "_law_copied" "_law_copied" zbd f fd)(T:zjh K mg):zC P w K mg base CX0 1 f fd ["_law_call"] (zbI K):=by
 refine F.ok j7 (fun cdv A outer s H vs Q E hr h=>?_);obtain⟨a,c,xs,rfl,hS,hc,lc,q⟩:=h;refine⟨_,zh (zu (i:=1) j7.nd rfl ⋯ (zN zb))
  (zh (xk PassesOwn.never rfl (yw (pv 0)) (zp (i:=2) j7.nd rfl ⋯)
   (zf (zH (zk z7 (zE zD (pv 2) zg nofun) (zN (ac zm (ac zm zb))) (by with_unfolding_all rfl))
    (zf (zP (y8 PySem.F.plainAttrs_list PySem.F.slot_list_append PySem.F.type_list_append zU (pv 1) (ac (zJ (ac (zE zD (pv 2) zg nofun) (ac (cTy yO T.list PyProof.Rows.boot_list (ac (zE zD (pv 2) zg nofun) zb)) zb))) zb))))
    (zf (zP (y8 PySem.F.plainAttrs_list PySem.F.slot_list_append PySem.F.type_list_append zU (pv 1) (ac (pv 2) zb)))))))
  (zf (zA (pv 1)))),?_⟩
 exists xK,fun r hrn=>?_;have sr:=zc hrn (.lst []);refine⟨_,rfl,a,rfl,⟨_,sr.seq hS⟩,w6 (K:=K) (a:=a) (xs:=xs) (fun i σ H2=>∃v2 ys,σ=[some (.ref a),some (.ref r),v2]/\zn H H2/\H2 r=some (.lst ys)/\Paired (zw K (fun b=>H b=none/\b≠r) H2 3) ys ((c.take i).map xf))
  ⟨_,[],rfl,sr,za,.nil⟩ (fun i σ H2 _ ⟨_,_,_,s2,_⟩=>s2.seq hS) ?_ ?_⟩
 ·rintro i y σ H2 hi ⟨v2,ys,rfl,s2,g,hy⟩
  obtain⟨d,hd,hx⟩:=Paired.get hc hi;obtain⟨it,hit,rfl⟩:=zck hd;have hx2:=hx.same s2;have hil:i<c.length:=(List.getElem?_eq_some_iff.mp hit).1;have ly:ys.length<=i:=by rw[hy.length,aA,length_take];omega
  have fin:∀{H3:Hp}{x:V},zn H2 H3->zw K (fun b=>H b=none/\b≠r) H3 3 x (xf it)->∃v2 zs,[some (V.ref a),some (.ref r),some y]=[some (V.ref a),some (.ref r),v2]/\zn H (upd H3 r (.lst (ys++[x])))/\upd H3 r (.lst (ys++[x])) r=some (.lst zs)/\Paired (zw K (fun b=>H b=none/\b≠r) (upd H3 r (.lst (ys++[x]))) 3) zs ((c.take (i+1)).map xf):=by
   intro H3 x s3 hsx;exists _,ys++[x],rfl,wf (s2.trans s3) hrn _,za,?_;rw[jU hit,aE];exact yS (zr (fun _ _ z=>zbP (.inr ⟨_,s3 _ _ g⟩) (fun b hb _=>⟨hb,hb.2⟩) (z.same s3)) hy) (.cons (zbP (.inr ⟨_,s3 _ _ g⟩) (fun b hb _=>⟨hb,hb.2⟩) hsx) .nil)
  cases it with
  | one t=>
   obtain⟨b,rfl,hb⟩:=zcj hx2;exists _,rfl,b,_,_,.str "one",rfl,rfl,hb,rfl,z6,fun l hl=>?_;have sl:=zc hl (.lst [.str "row",.str "book"]);exists l,_,rfl,.inl (ze za),rfl,rfl,_,rfl,?_;refine jB (zav (.inl rfl)) ?_;exists _,rfl,.inl ⟨rfl,_,ze (sl _ _ g)⟩,_,rfl,r,_,_,rfl,rfl,sl _ _ g,zF (by omega),?_
   exact fin sl (.tup (xs:=[.str "one",.int t]) (sl.sqT hb) (.cons .str (.cons .int .nil)))
  | row ts=>
   obtain⟨b,bl,rfl,hb,_,hbl⟩:=zci hx2;exists _,rfl,b,_,_,.str "row",rfl,rfl,hb,rfl,z6,fun l hl=>?_;have sl:=zc hl (.lst [.str "row",.str "book"]);exists l,_,rfl,.inl (ze za),rfl,rfl,_,rfl,?_;refine jj (zdz (.inl rfl)) ?_;exists _,rfl,.inl ⟨rfl,_,ze (sl _ _ g)⟩,_,rfl,b,_,_,.str "row",rfl,rfl,sl.sqT hb,rfl,_,rfl,b,_,_,.ref bl,rfl,rfl,sl.sqT hb,rfl,bl,_,rfl,.inl (ze (sl _ _ hbl)),fun nl hnl=>?_;have s3:=sl.trans (zc hnl (.lst (ts.map V.int)));exists z6,fun tp htp=>?_;have st:=zc htp (.tup [.str "row",.ref nl]);have s4:=s3.trans st;exists r,_,_,rfl,rfl,s4 _ _ g,zF (by omega),?_
   exact fin s4 (.tup (xs:=[.str "row",.ref nl]) (zq za) (.cons .str (.cons (.lst ⟨s2.free (sl.free hnl),(zd (sl _ _ g) hnl).symm⟩ (st _ _ za) (xY ts)) .nil)))
  | named z t=>
   obtain⟨b,rfl,hb⟩:=qD hx2;exists _,rfl,b,_,_,.str "named",rfl,rfl,hb,rfl,z6,fun l hl=>?_;have sl:=zc hl (.lst [.str "row",.str "book"]);exists l,_,rfl,.inl (ze za),rfl,rfl,_,rfl,?_;refine jB (zav (.inr rfl)) ?_;exists _,rfl,.inl ⟨rfl,_,ze (sl _ _ g)⟩,_,rfl,r,_,_,rfl,rfl,sl _ _ g,zF (by omega),?_
   exact fin sl (.tup (xs:=[.str "named",.str z,.int t]) (sl.sqT hb) (.cons .str (.cons .str (.cons .int .nil))))
  | book ps=>
   obtain⟨b,bl,zs,rfl,hb,_,hbl,hz⟩:=zaC hx2;exists _,rfl,b,_,_,.str "book",rfl,rfl,hb,rfl,z6,fun l hl=>?_;have sl:=zc hl (.lst [.str "row",.str "book"]);exists l,_,rfl,.inl (ze za),rfl,rfl,_,rfl,?_;refine jj (zdz (.inr rfl)) ?_;exists _,rfl,.inl ⟨rfl,_,ze (sl _ _ g)⟩,_,rfl,b,_,_,.str "book",rfl,rfl,sl.sqT hb,rfl,_,rfl,b,_,_,.ref bl,rfl,rfl,sl.sqT hb,rfl,bl,_,rfl,.inl (ze (sl _ _ hbl)),fun nl hnl=>?_;have s3:=sl.trans (zc hnl (.lst zs));exists z6,fun tp htp=>?_;have st:=zc htp (.tup [.str "book",.ref nl]);have s4:=s3.trans st;exists r,_,_,rfl,rfl,s4 _ _ g,zF (by omega),?_
   exact fin s4 (.tup (xs:=[.str "book",.ref nl]) (zq za) (.cons .str (.cons (.lst ⟨s2.free (sl.free hnl),(zd (sl _ _ g) hnl).symm⟩ (st _ _ za) (zb1 (yH s4 hz))) .nil)))
 ·rintro σ H2 ⟨v2,ys,rfl,s2,g,hy⟩
  have hl:xs.length=c.length:=by rw[hc.length,aA]
  rw[hl,take_length] at hy;exact⟨_,rfl,q r ys H2 s2 hrn g hy⟩
theorem zfy{R:Addr->Rw->Prop}:∀{us:List Addr}{rows:List Rw},Paired R us rows->∀(keep:Rw->Bool) (out:Addr->Rw->V),(((us.zip rows).filter fun p=>keep p.2).map fun p=>out p.1 p.2).length=(rows.filter keep).length
 | _,_,.nil,_,_=>rfl
 | _,_,.cons (a:=u) (b:=r) _ t,keep,out=>by
  have ih:=zfy t keep out;rw[aA] at ih |-;rw[zip_cons_cons,filter_cons,filter_cons];cases h:keep r
  ·simpa [h] using ih
  ·simpa [h] using ih
theorem zhX:∀k:Nat,k<5->decide (V.str (kw k)=V.str "seat")=(k==0):=by symm
theorem vt{α β : Type}{R : α->β->Prop}:∀{xs:List α}{ys:List β}(n:Nat),Paired R xs ys->Paired R (xs.take n) (ys.take n)
 | _,_,0,_=>.nil
 | _,_,_+1,.nil=>.nil
 | _,_,n+1,.cons r t=>.cons r (vt n t)
theorem vw{α β : Type}{R : α->β->Prop}:∀{xs:List α}{ys:List β}(n:Nat),Paired R xs ys->Paired R (xs.drop n) (ys.drop n)
 | _,_,0,r=>r
 | _,_,_+1,.nil=>.nil
 | _,_,n+1,.cons _ t=>vw n t
theorem wj{α β : Type}{R : α->β->Prop}:∀{xs xs':List α}{ys ys':List β},Paired R xs ys->Paired R xs' ys'->Paired R (xs++xs') (ys++ys')
 | _,_,_,_,.nil,s=>s
 | _,_,_,_,.cons r t,s=>.cons r (wj t s)
theorem zhg(a:List (Str×Nat))(z:Str)(i:Nat):kvP (a++[(z,i)])=kvP a++[(.inr z,.int (i:Nat))]:=by
 unfold kvP;rw[aE];rfl
theorem zcz(rows:List Rw)(bars:List Str)(many:Nat)(a:List (Str×Nat))(z:Str)(i:Nat):vd rows bars many (a++[(z,i)])=vd rows bars many a++(if xw rows bars many z="" then [] else [(xw rows bars many z,i)]):=by
 unfold vd;rw[List.filterMap_append]
 congr 1
 by_cases h:xw rows bars many z=""
 ·have e:y0 rows bars many z=none:=by rw[u9,aK h]
  rw[aK h];show List.filterMap _ [(z,i)]=[];rw[filterMap_cons,e];rfl
 ·have e:y0 rows bars many z=some (xw rows bars many z):=by rw[u9,aJ h]
  rw[aJ h];show List.filterMap _ [(z,i)]=_;rw[filterMap_cons,e];rfl
theorem zi2(zs:List Str)(i:Nat):(fpF 0 [] (zs.take i)).length<=i:=by
 have:=uT (zs.take i) 0 []
 rw[length_take] at this;simp at this;omega
inductive zfQ(vs:List V)(H:Hp)(Q:VK)(E:XK):Prop|mk(la lb ln:Addr)(many:Nat)(us:List Addr)(rows:List Rw)(bars zs:List Str):vs=[.ref la,.ref lb,.int (many:Nat),.ref ln]->H la=some (.lst (us.map V.ref))->Paired (TAt H) us rows->vS rows bars->H lb=some (.lst (bars.map V.str))->H ln=some (.lst (zs.map V.str))->(∀z∈zs,z≠"")->zs.length<=100->many<=100->(∀l H',zn H H'->zaR H H' l (xB rows bars many zs)->Q (.ref l) H')->zfQ vs H Q E
theorem zmL:([Str.ofString "_law_i",Str.ofString "_law_places"]:List Str).Nodup:=by symm
theorem xL:zt ["_law_told","_law_bars","_law_many","_law_names","_law_one","_law_places","_law_goes","_law_doubled","_law_wrong_here","_law_seen","_law_j","_law_name","_law_word","_law_over","_law_lacking","_law_at"] ["_law_told","_law_bars","_law_many","_law_names"] (zj zga):=fsc
theorem ziC(F:Fun K "_law_misfits" "_law_misfits" zga f fd)(T:zdN mg)(cW:zG P w K mg base 1 "_law_wrong" g1 e1 ["_law_told","_law_bars","_law_name","_law_goes"] zdZ):zC P w K mg base CX0 2 f fd ["_law_told","_law_bars","_law_many","_law_names"] zfQ:=by
 refine F.ok xL (fun cdv A outer s H vs Q E hr h=>?_);obtain⟨la,lb,ln,many,us,rows,bars,zs,rfl,hla,hu,V1,hlb,hln,hzs,l100,lm,q⟩:=h;have hu1:=zaE hr;have l24:=V1.l24;have nd:(nms rows).Nodup:=(List.nodup_append.mp V1.nd).1;refine zR (zu (i:=5) xL.nd rfl (Or.inr rfl) (cB zI T.len PySem.boot_len (ac (xQ [] ["_law_one"] [none] rfl ⟨rfl,rfl,rfl,rfl⟩ (yw (pv 0)) (yj 0) rfl rfl rfl (fun pins fp s H C=>⟨zp (i:=0) zbl rfl ⋯ (.inr rfl),xq (zk (r:=rIn K false) z7 (zE (r:=je K) zD (pv 0) zg nofun) (zN (ac zm (ac zm zb))) (by with_unfolding_all rfl)),pv 0⟩)) zb))) ?_
 exists _,rfl,la,rfl,⟨_,ze hla⟩,fun D hD=>?_;refine vQ (K:=K) TAt (fun r=>xx r.k) (fun u _=>.ref u) hD hla hu (by omega) (fun i u r H' Nn S hu' hr' tr sH n1 s1=>?_) (fun H1 s1 hD1=>?_)
 ·have rk:=V1.ok r (aH hr')
  have tu:=sH _ _ tr;exists _,rfl,u,_,0,_,rfl,rfl,zq tu,uP rk.1,z6,fun l hl=>?_;have s2:=zc hl (.lst [.str "seat",.str "both"]);exists l,_,rfl,.inl (ze za),rfl,rfl,_,rfl,?_;rw[aJ zft,zhj rk.1];exact⟨fun e=>⟨_,rfl,n1 _ s2 e⟩,fun e=>s1 _ s2 e⟩
 obtain⟨ys,hys,hDy⟩:∃ys:List V,ys.length=plN rows/\H1 D=some (.lst ys):=⟨_,zfy hu (fun r=>xx r.k) (fun u _=>.ref u),hD1⟩;exists D,ys,rfl,.inl (ze hDy),?_;rw[hys];clear hys hDy hD1 ys hD;have lpl:plN rows<=24:=le_trans (length_filter_le _ _) l24;dsimp only[zZ];refine zR (zu (i:=6) xL.nd rfl ⋯ (cTy (zdM rfl) T.list PyProof.Rows.boot_list (ac (cTy zhB T.range PyProof.Rows.boot_range (ac (cB (jo rfl) T.min boot_min (ac (pv 2) (ac (pv 5) zb))) zb)) zb))) ?_;exists _,rfl,_,rfl,_,_,rfl,min many (plN rows),(by show[V.int (if (plN rows:Int)<(many:Int) then (plN rows:Int) else (many:Int))]=[V.int ((min many (plN rows):Nat):Int)];congr 2;split <;> omega),fun pr hpr=>?_
 injections pr hpr H2 s2 g2
 exists pr,_,rfl,g2,by omega,fun lg hlg=>?_
 have s3:=zc hlg (.lst ((xZ (min many (plN rows))).map V.int));have g3:upd H2 lg (.lst ((xZ (min many (plN rows))).map V.int)) lg=some (.lst ((List.range (min many (plN rows))).map fun i=>V.int (i:Nat))):=by rw[za];unfold xZ;rw[map_map];rfl
 dsimp only[zZ];generalize upd H2 lg (.lst ((xZ (min many (plN rows))).map V.int))=H3 at s3 g3 |-;have s13:=s1.trans (s2.trans s3);clear g2 hpr hlg;refine zR (zu (i:=7) xL.nd rfl ⋯ (zN zb)) ?_;exists xK,fun Dd hDd=>?_;dsimp only[zZ]
 injections Dd hDd H4 s4 g4
 refine zR (zu (i:=8) xL.nd rfl ⋯ (zN zb)) ?_;exists xK,fun Dw hDw=>?_;dsimp only[zZ]
 injections Dw hDw H5 s5 g5
 refine zR (zu (i:=9) xL.nd rfl ⋯ zbZ) ?_;intro Ds hDs;dsimp only[zZ]
 injections Ds hDs H6 s6 g6
 have s36:=s4.trans (s5.trans s6);have ndw:Dd≠Dw:=zd g4 hDw;have nds:Dd≠Ds:=zd (s5 _ _ g4) hDs;have nws:Dw≠Ds:=zd g5 hDs;have nd3:∀b u,H3 b=some u->b≠Dd:=fun b u e=>zd e hDd;have nw3:∀b u,H3 b=some u->b≠Dw:=fun b u e=>zd (s4 _ _ e) hDw;have ns3:∀b u,H3 b=some u->b≠Ds:=fun b u e=>zd (s5 _ _ (s4 _ _ e)) hDs;have hla3:=s13 _ _ hla;have hu3:=z9 s13 hu;have hlb3:=s13 _ _ hlb;have hln3:=s13 _ _ hln;refine zR (xk PassesOwn.never rfl (xr rfl T.en (ac (pv 3) zb)) (yz rfl (zy (zp (i:=10) xL.nd rfl ⋯) (zy (zp (i:=11) xL.nd rfl ⋯) yg))) jJ) ?_;refine yr (fun σ' H'=>∃us1 us2 v10 v11 v12,σ'=[some (.ref la),some (.ref lb),some (.int (many:Nat)),some (.ref ln),none,some (.int (plN rows:Nat)),some (.ref lg),some (.ref Dd),some (.ref Dw),some (.ref Ds),v10,v11,v12,none,none,none]/\zn H3 H'/\H' Dd=some (.lst (us1.map V.ref))/\xy H' us1 (ue (kvP (fpZ zs)) 0 zs)/\H' Dw=some (.lst (us2.map V.ref))/\xy H' us2 (vd rows bars many (fpZ zs))/\H' Ds=some (.dK (kvP (fpZ zs)))) ?_ (fun key=>?_);rotate_left
 ·refine⟨_,rfl,ln,rfl,⟨_,ze (s36 _ _ hln3)⟩,wC (K:=K) (a:=ln) (xs:=zs.map V.str) (fun i σ H'=>∃us1 us2 v10 v11 v12,σ=[some (.ref la),some (.ref lb),some (.int (many:Nat)),some (.ref ln),none,some (.int (plN rows:Nat)),some (.ref lg),some (.ref Dd),some (.ref Dw),some (.ref Ds),v10,v11,v12,none,none,none]/\zn H3 H'/\H' Dd=some (.lst (us1.map V.ref))/\xy H' us1 (ue (kvP (fpZ zs)) 0 (zs.take i))/\H' Dw=some (.lst (us2.map V.ref))/\xy H' us2 (vd rows bars many (fpF 0 [] (zs.take i)))/\H' Ds=some (.dK (kvP (fpF 0 [] (zs.take i)))))
   ⟨[],[],_,_,_,rfl,s36,s6 _ _ (s5 _ _ g4),.nil,s6 _ _ g5,.nil,g6⟩ (fun i σ H' _ ⟨_,_,_,_,_,_,sH,_⟩=>ze (sH _ _ hln3)) ?_ ?_⟩
  ·rintro i x p σ H7 hx ⟨us1,us2,v10,v11,v12,rfl,s7,e1,m1,e2,m2,e3⟩ hpn
   obtain⟨z,hz,rfl⟩:=strs_at hx;have hi:i<zs.length:=(List.getElem?_eq_some_iff.mp hz).1;have sp:=zc hpn (.tup [.int (i:Nat),.str z]);exists p,_,rfl,zq za,rfl,_,_,rfl,_,_,rfl,rfl,?_;generalize upd H7 p (.tup [.int (i:Nat),.str z])=H8 at sp |-;have s8:=s7.trans sp;have e1:=sp _ _ e1;have m1:=m1.same sp;have e2:=sp _ _ e2;have m2:=m2.same sp;have e3:=sp _ _ e3;have lu1:us1.length<=100:=by
    rw[m1.length]
    have:=vR (kvP (fpZ zs)) (zs.take i) 0
    rw[length_take] at this;omega
   have lfp:=zi2 zs i;have lu2:us2.length<=100:=by
    rw[m2.length];refine le_trans (List.length_filterMap_le _ _) ?_;omega
   have hd:=zdK hz;have hsn:=zbs hz;have hds:=jm (fk:=kvP (fpZ zs)) zs 0 i hz;rw[Nat.zero_add] at hds;dsimp only[zZ];refine zR (zH (vk (zgD hu1 (pv 11) (pv 9))) (zh (zP (y8 PySem.F.plainAttrs_list PySem.F.slot_list_append PySem.F.type_list_append zU (pv 7) (ac (zJ (ac zm (ac (pv 10) zb))) zb))) (zf zbT)) zv) ?_;exists _,rfl,_,rfl,Ds,_,rfl,jq.k (k:=Sum.inr z) e3,_,rfl,?_;rw[wb];cases hb:(fpF 0 [] (zs.take i)).any fun p=>decide (p.1=z) with
   | true=>
    refine xt ?_;rw[hb] at hd hsn;rw[aJ (of_decide_eq_false hd)] at hds;rw[aK rfl] at hsn;exists _,rfl,.inl ⟨rfl,_,ze e1⟩,_,rfl,z6,fun u hu'=>?_
    injections u hu' H9 s9 g9
    have e1':=s9 _ _ e1;exists Dd,_,_,rfl,rfl,e1',zF (by rw[aA];omega),?_
    refine⟨us1++[u],us2,_,_,_,rfl,fun b' u' e=>by rw[zi (nd3 _ _ e)];exact(s8.trans s9) _ _ e,by rw[za,aE];rfl,?_,by rw[zi ndw.symm];exact s9 _ _ e2,?_,by rw[zi nds.symm,hsn];exact s9 _ _ e3⟩
    ·rw[hds]
     exact((m1.same s9).snoc (m:=("doubled",i)) g9).upd e1'
    ·rw[hsn]
     exact(m2.same s9).upd e1'
   | false=>
    refine yf ?_;rw[hb] at hd hsn;rw[aK (of_decide_eq_true hd),append_nil] at hds;rw[aJ (by decide)] at hsn
    refine zR (zu (i:=12) xL.nd rfl ⋯ (cF cW hr (ac (pv 0) (ac (pv 1) (ac (pv 11) (ac (pv 6) zb)))))) ?_;exists _,rfl,_,rfl,_,rfl,_,rfl,la,lb,lg,z,many,us,rows,bars,rfl,s8 _ _ hla3,z9 s8 hu3,l24,V1.ok,nd,s8 _ _ hlb3,s8 _ _ g3,hzs z (aH hz),fun H9 s9=>?_;have s39:=s8.trans s9;have e1':=s9 _ _ e1;have e2':=s9 _ _ e2;have e3':=s9 _ _ e3;dsimp only[zZ];refine zR (zH (zk zei (pv 12) zm (zx _)) (zf (zP (y8 PySem.F.plainAttrs_list PySem.F.slot_list_append PySem.F.type_list_append zU (pv 8) (ac (zJ (ac (pv 12) (ac (pv 10) zb))) zb)))) zv) ?_;refine yr (fun σ' H'=>∃us2',σ'=[some (.ref la),some (.ref lb),some (.int (many:Nat)),some (.ref ln),none,some (.int (plN rows:Nat)),some (.ref lg),some (.ref Dd),some (.ref Dw),some (.ref Ds),some (.int (i:Nat)),some (.str z),some (.str (xw rows bars many z)),none,none,none]/\zn H3 H'/\H' Dd=some (.lst (us1.map V.ref))/\xy H' us1 (ue (kvP (fpZ zs)) 0 (zs.take i))/\H' Dw=some (.lst (us2'.map V.ref))/\xy H' us2' (vd rows bars many (fpF 0 [] (zs.take i)++[(z,i)]))/\H' Ds=some (.dK (kvP (fpF 0 [] (zs.take i))))) ?_ (fun key2=>?_);rotate_left
    ·exists _,rfl,rfl,_,rfl,?_
     have hun:=zcz rows bars many (fpF 0 [] (zs.take i)) z i;by_cases hw:xw rows bars many z=""
     ·rw[aK hw,append_nil] at hun
      refine zlU (by rw[hw]) ?_
      exact key2 _ _ ⟨us2,rfl,s39,e1',m1.same s9,e2',by rw[hun];exact m2.same s9,e3'⟩
     ·rw[aJ hw] at hun
      refine jj (by rw[aD (fun e=>hw (V.str.inj e))];rfl) ?_
      exists _,rfl,.inl ⟨rfl,_,ze e2'⟩,_,rfl,_,rfl,z6,fun u hu'=>?_
      injections u hu' H10 s10 g10
      have e2'':=s10 _ _ e2';exists Dw,_,_,rfl,rfl,e2'',zF (by rw[aA];omega),?_
      refine key2 _ _ ⟨us2++[u],rfl,fun b' u' e=>by rw[zi (nw3 _ _ e)];exact(s39.trans s10) _ _ e,by rw[zi ndw];exact s10 _ _ e1',((m1.same (s9.trans s10))).upd e2'',by rw[za,aE];rfl,?_,by rw[zi nws.symm];exact s10 _ _ e3'⟩
      rw[hun];exact((m2.same (s9.trans s10)).snoc (m:=(xw rows bars many z,i)) g10).upd e2''
    rintro σ11 H11 ⟨us2',rfl,s11,f1,n1,f2,n2,f3⟩;have hnone:zS (kvP (fpF 0 [] (zs.take i))) (.inr z)=none:=by
     have h1:=wb (fpF 0 [] (zs.take i)) z;rw[hb] at h1;cases hv:zS (kvP (fpF 0 [] (zs.take i))) (.inr z) with
     | none=>rfl
     | some v=>rw[hv] at h1;cases h1
    have lk:(kvP (fpF 0 [] (zs.take i))).length<=100:=by
     unfold kvP;rw[aA];omega
    refine⟨_,zf (zbh hu1 (pv 9) (pv 11) (pv 10) rfl),?_⟩;exists _,rfl,_,rfl,_,rfl,Ds,_,rfl,zdQ.k (k:=Sum.inr z) f3 (zF (by omega)),?_
    rw[zgo _ hnone,<- zhg,<- hsn];exists us1,us2',_,_,_,rfl,fun b' u' e=>by rw[zi (ns3 _ _ e)];exact s11 _ _ e,by rw[zi nds];exact f1,?_,by rw[zi nws];exact f2,?_,za
    ·rw[hds]
     exact zr (fun u m' z'=>by
      show upd H11 Ds _ u=_;rw[zi (fun e=>by rw[e] at z';rw[MA1,f3] at z';cases z')]
      exact z') n1
    ·rw[hsn]
     exact zr (fun u m' z'=>by
      show upd H11 Ds _ u=_;rw[zi (fun e=>by rw[e] at z';rw[MA1,f3] at z';cases z')]
      exact z') n2
  ·rintro σ H7 ⟨us1,us2,v10,v11,v12,rfl,s7,e1,m1,e2,m2,e3⟩
   rw[aA,take_length] at m1 m2 e3;exact key _ _ ⟨us1,us2,v10,v11,v12,rfl,s7,e1,m1,e2,m2,e3⟩
 rintro σ7 H7 ⟨us1,us2,v10,v11,v12,rfl,s7,e1,m1,e2,m2,e3⟩;clear s36 g4 g5 g6 hDd hDw hDs ndw nds nws;have l1:us1.length<=100:=by rw[m1.length];exact le_trans (vR _ _ _) l100
 have l2:us2.length<=100:=by
  rw[m2.length];refine le_trans (List.length_filterMap_le _ _) ?_
  have:=uT zs 0 []
  unfold fpZ;simp at this;omega
 refine zR (zu (i:=13) xL.nd rfl ⋯ (zN zb)) ?_;exists xK,fun D0 hD0=>?_;dsimp only[zZ]
 injections D0 hD0 H8 s8 g8
 have s38:=s7.trans s8;refine zR (zH (zk xN zm (xQ [] ["_law_one"] [none] rfl ⟨rfl,rfl,rfl,rfl⟩ (yw (pv 0)) (yj 0) rfl rfl rfl (fun pins fp s H C=>⟨zp (i:=0) zbl rfl ⋯ (.inr rfl),xc,zE (r:=je K) zD (pv 0) zg nofun⟩)) (by with_unfolding_all rfl)) (zf (qk (i:=13) ["_law_places"] ["_law_i","_law_places"] [none,some 5] xL.nd rfl ⋯ rfl ⟨rfl,rfl,rfl,rfl⟩ (wV rfl T.range (ac (pv 2) zb)) (yj 0) rfl rfl rfl (fun pins fp s H C=>⟨zp (i:=0) zmL rfl ⋯ (.inr rfl),xq (zk zjy (pv 0) (pv 1) (zx _)),zJ (ac zm (ac (pv 0) zb))⟩))) zv) ?_;refine yr (fun σ' H'=>∃Do us3,σ'=[some (.ref la),some (.ref lb),some (.int (many:Nat)),some (.ref ln),none,some (.int (plN rows:Nat)),some (.ref lg),some (.ref Dd),some (.ref Dw),some (.ref Ds),v10,v11,v12,some (.ref Do),none,none]/\zn H7 H'/\H' Do=some (.lst (us3.map V.ref))/\xy H' us3 (wn rows many)) ?_ (fun key=>?_);rotate_left
 ·have hla8:=s38 _ _ hla3
  have hu8:=z9 s38 hu3;exists _,rfl,la,rfl,⟨_,ze hla8⟩,fun D9 hD9=>?_;refine vQ (K:=K) TAt (fun _=>true) (fun _ r=>.str (kw r.k)) hD9 hla8 hu8 (by omega) (fun i u r H' Nn S hu' hr' tr sH n1 s1=>?_) (fun H9 s9 hD9'=>?_)
  ·have rk:=V1.ok r (aH hr')
   exact⟨fun _=>⟨_,rfl,u,_,0,_,rfl,rfl,zq (sH _ _ tr),uP rk.1,n1 _ (zn.refl _) rfl⟩,fun e=>Bool.noConfusion e⟩
  have eD9:H9 D9=some (.lst ((wN rows).map V.str)):=by
   rw[hD9']
   have:=L2.zdS hu8 (fun _=>true) (fun r=>V.str (kw r.k))
   rw[this,List.filter_eq_self.mpr nofun];unfold wN;rw[map_map];rfl
  exists D9,_,rfl,.inl (ze eD9),rfl,yN,_,rfl,?_;rw[aK rfl,xp,show decide (("tail" : Str)∈wN rows)=(zL 2 0 rows).isSome from uH (kk:=2) V1.ok (by decide)]
  have s79:=s8.trans s9;cases hf:(zL 2 0 rows).isSome with
  | true=>
   refine yf ?_;refine key _ _ ⟨D0,[],rfl,s79,s9 _ _ g8,?_⟩;unfold wn;rw[aK hf];exact .nil
  | false=>
   refine xt ?_;exists _,rfl,(many:Int),rfl,by omega,(by show(many:Int)<_;omega),fun Do hDo=>?_
   rw[toNat_natCast];refine uQ (n:=many) (fun i ys H'=>∃us3:List Addr,ys=us3.map V.ref/\zn H9 H'/\H' Do=some (.lst ys)/\xy H' us3 (((List.range i).filter fun j=>decide (plN rows<=j)).map fun j=>((("over" : Str),j):Str×Nat))) ⟨[],rfl,zc hDo _,za,.nil⟩ ?_ ?_
   ·rintro i ys H' hi ⟨us3,rfl,sH,hDy,ms⟩
    rw[Int.zero_add];exists _,rfl,_,rfl,_,_,rfl,rfl,_,rfl,?_;have lus:us3.length<=i:=by
     rw[ms.length,aA]
     have:=length_filter_le (fun j=>decide (plN rows<=j)) (List.range i)
     rw[length_range] at this;exact this
    exists fun e=>?_,fun e=>?_
    ·have hle:plN rows<=i:=by have:=of_decide_eq_true e;omega
     exists _,rfl,z6,fun u hu'=>?_
     injections u hu' H10 s10 g10
     have hDy':=s10 _ _ hDy;refine lcN.mk hi (zK (by omega)) hDy' (by rw[aA];omega) ⟨us3++[u],by rw[aE];rfl,fun b' u' e=>by rw[zi (zd e hDo)];exact(sH.trans s10) _ _ e,za,?_⟩
     rw[range_succ,filter_append,aE];have e2:([i].filter fun j=>decide (plN rows<=j))=[i]:=by simp [hle]
     rw[e2];exact((ms.same s10).snoc (m:=("over",i)) g10).upd hDy'
    ·have hle:¬plN rows<=i:=by have:=of_decide_eq_false e;omega
     refine lcS.mk hi ⟨us3,rfl,sH,hDy,?_⟩;rw[range_succ,filter_append,aE];have e2:([i].filter fun j=>decide (plN rows<=j))=[]:=by simp [hle]
     rw[e2,map_nil,append_nil];exact ms
   ·rintro ys H10 ⟨us3,rfl,s10,hDy,ms⟩
    refine key _ _ ⟨Do,us3,rfl,s79.trans s10,hDy,?_⟩;unfold wn;rw[aJ (by rw[hf];decide)]
    rw[zat,map_map] at ms;exact ms
 rintro σ9 H9 ⟨Do,us3,rfl,s79,eo,mo⟩;have s39:=s7.trans s79;have e1:=s79 _ _ e1;have m1:=m1.same s79;have e2:=s79 _ _ e2;have m2:=m2.same s79;have e3:=s79 _ _ e3;have l3:us3.length<=100:=by
  rw[mo.length];unfold wn;split
  ·exact zero_le _
  ·rw[aA,length_range];omega
 refine zR (zu (i:=14) xL.nd rfl ⋯ (zN zb)) ?_;exists xK,fun Dl hDl=>?_;dsimp only[zZ]
 injections Dl hDl H10 s10 g10
 have hla9:=s39 _ _ hla3;have hu9:=z9 s39 hu3;have lu:us.length=rows.length:=hu.length;refine zR (xk PassesOwn.never rfl (xr rfl T.en (ac (pv 0) zb)) (yz rfl (zy (zp (i:=15) xL.nd rfl ⋯) (zy (zp (i:=4) xL.nd rfl ⋯) yg))) jJ) ?_;refine⟨_,rfl,la,rfl,⟨_,ze (s10 _ _ hla9)⟩,wC (K:=K) (a:=la) (xs:=us.map V.ref) (fun i σ H'=>∃us4 v4 v15,σ=[some (.ref la),some (.ref lb),some (.int (many:Nat)),some (.ref ln),v4,some (.int (plN rows:Nat)),some (.ref lg),some (.ref Dd),some (.ref Dw),some (.ref Ds),v10,v11,v12,some (.ref Do),some (.ref Dl),v15]/\zn H9 H'/\H' Dl=some (.lst (us4.map V.ref))/\xy H' us4 (wA many (kvP (fpZ zs)) 0 (rows.take i)))
  ⟨[],_,_,rfl,s10,g10,.nil⟩ (fun i σ H' _ ⟨_,_,_,_,sH,_⟩=>ze (sH _ _ hla9)) ?_ ?_⟩
 ·rintro i x p σ H11 hx ⟨us4,v4,v15,rfl,s11,f1,n1⟩ hpn
  obtain⟨u,hu',rfl⟩:=x8 hx;obtain⟨r,hr',tr⟩:=yZ hu9 hu';have rk:=V1.ok r (aH hr');have hi:i<rows.length:=(List.getElem?_eq_some_iff.mp hr').1;have sp:=zc hpn (.tup [.int (i:Nat),.ref u]);exists p,_,rfl,zq za,rfl,_,_,rfl,_,_,rfl,rfl,?_;generalize upd H11 p (.tup [.int (i:Nat),.ref u])=H12 at sp |-;have s12:=s11.trans sp;have f1:=sp _ _ f1;have n1:=n1.same sp;have tu:H12 u=some (.tup (rv r)):=s12 _ _ tr;have l4:us4.length<=24:=by
   rw[n1.length]
   have:=wZ many (kvP (fpZ zs)) (rows.take i) 0
   rw[length_take] at this;omega
  have hsn:=uB (many:=many) (fk:=kvP (fpZ zs)) rows 0 i hr';rw[Nat.zero_add,zen] at hsn;have hpl:=zec V1.ok V1.ord hr';have skip:∀H13,zn H12 H13->(!fr r.k r.b&&!(xx r.k&&decide (i<many))&&!(ym r.k&&(zS (kvP (fpZ zs)) (.inr r.z)).isSome))=false->∃us4' v4' v15',([some (.ref la),some (.ref lb),some (.int (many:Nat)),some (.ref ln),some (.ref u),some (.int (plN rows:Nat)),some (.ref lg),some (.ref Dd),some (.ref Dw),some (.ref Ds),v10,v11,v12,some (.ref Do),some (.ref Dl),some (.int (i:Nat))]:L2.St)=[some (.ref la),some (.ref lb),some (.int (many:Nat)),some (.ref ln),v4',some (.int (plN rows:Nat)),some (.ref lg),some (.ref Dd),some (.ref Dw),some (.ref Ds),v10,v11,v12,some (.ref Do),some (.ref Dl),v15']/\zn H9 H13/\H13 Dl=some (.lst (us4'.map V.ref))/\xy H13 us4' (wA many (kvP (fpZ zs)) 0 (rows.take (i+1))):=fun H13 s13' hc=>by
   exists us4,_,_,rfl,s12.trans s13',s13' _ _ f1,?_;rw[hsn,aJ (by rw[hc];decide),append_nil]
   exact n1.same s13'
  dsimp only[zZ];refine⟨_,zf (zH (yV (yX (zk z7 (zE zD (pv 4) zg nofun) (zN (ac zm (ac zm (ac zm zb)))) (by with_unfolding_all rfl)) (yX (xT (yY (zE zD (pv 4) zg nofun))) (yy (zk xN (pv 15) (pv 6) (by with_unfolding_all rfl)))))) (zf (zH (yV (vB (zk yb (zE zD (pv 4) zg nofun) zm (zx _)) (vi (vk (zas hu1 (zE zD (pv 4) zg nofun) (pv 9)))))) (zf (zP (y8 PySem.F.plainAttrs_list PySem.F.slot_list_append PySem.F.type_list_append zU (pv 14) (ac (zJ (ac zm (ac (pv 15) zb))) zb)))) zv)) zv),?_⟩;exists _,rfl,u,_,0,_,rfl,rfl,zq tu,uP rk.1,qZ,fun l13 hl13=>?_;have s13':=zc hl13 (.lst [.str "seat",.str "both",.str "tag"]);have g13:upd H12 l13 (.lst [.str "seat",.str "both",.str "tag"]) l13=some (.lst [.str "seat",.str "both",.str "tag"]):=za;show rIn K false _ _ (upd H12 l13 (.lst [.str "seat",.str "both",.str "tag"])) _;generalize upd H12 l13 (.lst [.str "seat",.str "both",.str "tag"])=H13 at s13' g13 |-;have tu13:=s13' _ _ tu;exists l13,_,rfl,.inl (ze g13),rfl,rfl,_,rfl,?_;rw[aJ zft];have ein:∀k,k<5->inV (.str (kw k)) [.str "seat",.str "both",.str "tag"]=(k==0||k==1||k==3):=by symm
  rw[ein _ rk.1];cases ho:(r.k==0||r.k==1||r.k==3) with
  | false=>
   refine yf ?_;refine yf ?_;refine skip H13 s13' ?_
   have:fr r.k r.b=true:=by
    rcases lt5 rk.1 with h|h|h|h|h <;> rw[h] at ho |- <;> first|rfl|cases ho
   rw[this];rfl
  | true=>
   refine xt ?_;have hfr:fr r.k r.b=r.b:=by
    rcases lt5 rk.1 with h|h|h|h|h <;> rw[h] at ho |- <;> first|rfl|cases ho
   have h2:atI (rv r) 2=some (.bl r.b):=by
    obtain⟨k,z,b⟩:=r;have ho':(k==0||k==1||k==3)=true:=ho
    simp only[Bool.or_eq_true,beq_iff_eq] at ho';rcases ho' with (h|h)|h <;> (cases h;rfl)
   rw[hfr] at skip hsn;exists _,rfl,u,_,2,_,rfl,rfl,zq tu13,h2,_,rfl,?_;cases hb:r.b with
   | true=>
    refine yf ?_;refine yf ?_;exact skip H13 s13' (by rw[hb];rfl)
   | false=>
    refine xt ?_;rw[hb] at skip hsn;exists _,rfl,_,rfl,lg,_,rfl,.inl (ze ((s39.trans (s12.trans s13')) _ _ g3)),rfl,zaK _,_,rfl,?_;rw[aK rfl,zeo];have hgo:decide (i<min many (plN rows))=(xx r.k&&decide (i<many)):=by
     rw[hpl,<- Bool.decide_and];exact decide_eq_decide.mpr (by omega)
    rw[hgo];cases hp:(xx r.k&&decide (i<many)) with
    | true=>
     refine yf ?_;exact skip H13 s13' (by rw[hp];rfl)
    | false=>
     refine xt ?_;rw[hp] at skip hsn;exists _,rfl,u,_,0,_,rfl,rfl,zq tu13,uP rk.1,rfl,_,rfl,?_;rw[zhX _ rk.1];cases hk0:(r.k==0) with
     | true=>
      refine xt ?_;refine xt ?_;have hnm:(ym r.k&&(zS (kvP (fpZ zs)) (.inr r.z)).isSome)=false:=by rw[beq_iff_eq.mp hk0];rfl
      exists _,rfl,.inl ⟨rfl,_,ze (s13' _ _ f1)⟩,_,rfl,z6,fun uu huu=>?_
      injections uu huu H14 s14 g14
      have f1':=s14 _ _ (s13' _ _ f1);exists Dl,_,_,rfl,rfl,f1',zF (by rw[aA];omega),?_
      exists us4++[uu],_,_,rfl,fun b' u' e=>by rw[zi (zd e hDl)];exact(s12.trans (s13'.trans s14)) _ _ e,by rw[za,aE];rfl,?_
      rw[hsn,aK (by rw[hnm];rfl)]
      exact((n1.same (s13'.trans s14)).snoc (m:=("lacking",i)) g14).upd f1'
     | false=>
      refine yf ?_;have hbn:ym r.k=true:=by
       simp only[Bool.or_eq_true,beq_iff_eq] at ho;have hk1:r.k≠0:=fun e=>by rw[e] at hk0;cases hk0
       unfold ym;simp only[Bool.or_eq_true,beq_iff_eq];omega
      exists _,rfl,u,_,1,_,rfl,rfl,zq tu13,zca,_,rfl,Ds,_,rfl,jq.k (k:=Sum.inr r.z) ((s12.trans s13') _ _ e3),_,rfl,?_;cases hv:(zS (kvP (fpZ zs)) (.inr r.z)).isSome with
      | true=>
       refine yf ?_;exact skip H13 s13' (by rw[hbn,hv];rfl)
      | false=>
       refine xt ?_;have hnm:(ym r.k&&(zS (kvP (fpZ zs)) (.inr r.z)).isSome)=false:=by rw[hv,Bool.and_false]
       exists _,rfl,.inl ⟨rfl,_,ze (s13' _ _ f1)⟩,_,rfl,z6,fun uu huu=>?_
       injections uu huu H14 s14 g14
       have f1':=s14 _ _ (s13' _ _ f1);exists Dl,_,_,rfl,rfl,f1',zF (by rw[aA];omega),?_
       exists us4++[uu],_,_,rfl,fun b' u' e=>by rw[zi (zd e hDl)];exact(s12.trans (s13'.trans s14)) _ _ e,by rw[za,aE];rfl,?_
       rw[hsn,aK (by rw[hnm];rfl)]
       exact((n1.same (s13'.trans s14)).snoc (m:=("lacking",i)) g14).upd f1'
 ·rintro σ H11 ⟨us4,v4,v15,rfl,s11,f1,n1⟩
  rw[aA,lu,take_length] at n1;have l4:us4.length<=24:=by
   rw[n1.length];exact le_trans (wZ _ _ _ _) l24
  have e1:=s11 _ _ e1;have m1:=m1.same s11;have e2:=s11 _ _ e2;have m2:=m2.same s11;have eo:=s11 _ _ eo;have mo:=mo.same s11;refine⟨_,zf (zA (zl ye (zl ye (zl ye (pv 7) (pv 13)) (pv 8)) (pv 14))),?_⟩;exists _,rfl,_,rfl,Dd,Do,_,_,rfl,rfl,e1,eo,zK (by rw[aA,aA];omega),fun q1 hq1=>?_
  have t1:=zc hq1 (.lst (us1.map V.ref++us3.map V.ref));have k1:upd H11 q1 (.lst (us1.map V.ref++us3.map V.ref)) q1=some (.lst ((us1++us3).map V.ref)):=by rw[za,aE]
  generalize upd H11 q1 (.lst (us1.map V.ref++us3.map V.ref))=J1 at t1 k1 |-;exists _,rfl,q1,Dw,_,_,rfl,rfl,k1,t1 _ _ e2,zK (by rw[aA,aA,aG];omega),fun q2 hq2=>?_
  have t2:=zc hq2 (.lst ((us1++us3).map V.ref++us2.map V.ref));have k2:upd J1 q2 (.lst ((us1++us3).map V.ref++us2.map V.ref)) q2=some (.lst ((us1++us3++us2).map V.ref)):=by rw[za,aE (l₁:=us1++us3)]
  generalize upd J1 q2 (.lst ((us1++us3).map V.ref++us2.map V.ref))=J2 at t2 k2 |-;exists _,rfl,q2,Dl,_,_,rfl,rfl,k2,t2 _ _ (t1 _ _ f1),zK (by rw[aA,aA,aG,aG];omega),fun q3 hq3=>?_
  have t3:=zc hq3 (.lst ((us1++us3++us2).map V.ref++us4.map V.ref));have tA:=t1.trans (t2.trans t3);have sA:=s13.trans (s39.trans s11);refine q q3 _ (sA.trans tA) ⟨us1++us3++us2++us4,sA.free (t1.free (t2.free hq3)),by rw[za,aE (l₁:=us1++us3++us2)],?_⟩
  unfold xB;exact wj (wj (wj (m1.same tA) (mo.same tA)) (m2.same tA)) (n1.same tA)
end
end K26
namespace L2
open PySem PySem.Spec PyProof.Rows
mutual
def pyD:Dt->PyData
 | .non=>.none
 | .bl b=>.bool b
 | .int i=>.int i
 | .str z=>.str z
 | .tup ds=>.tuple (zbS ds)
 | .lst ds=>.list (zbS ds)
def zbS:List Dt->List PyData
 | []=>[]
 | d::ds=>pyD d::zbS ds
end
section
variable {X:Cx}{pins:PnL}{σ:St}{H:Hp}{s:Shared}{ok:Addr->Prop}
theorem qj{x:V}{u:Value}{d:Dt}(h:uZ x d)(r:zW x u):Reads s.heap u (pyD d) []:=by
 cases x <;> cases d <;> first|exact h.elim|skip
 ·cases r;exact .none
 ·cases r;cases h;exact .bool _
 ·obtain⟨t,rfl⟩:=r;cases h;exact .int _ _
 ·obtain⟨t,rfl⟩:=r;cases h;exact .str _ _
theorem jd{n:Nat}(ih:∀{x:V}{u:Value}{d:Dt},zw X.K ok H n x d->zW x u->∃as,Reads s.heap u (pyD d) as):∀{xs:List V}{ds:List Dt}{us:List Value},Paired (zw X.K ok H n) xs ds->zV xs us->∃as,ReadsAll s.heap us (zbS ds) as
 | [],_,_,.nil,.nil=>⟨[],.nil⟩
 | _::_,_,_,.cons h t,.cons r q=>by
  obtain⟨as,a⟩:=ih h r;obtain⟨bs,b⟩:=jd ih t q;exact⟨as++bs,.cons a b⟩
theorem qi(I:Inv X pins σ H s):∀(n:Nat) {x:V}{u:Value}{d:Dt},zw X.K ok H n x d->zW x u->∃as,Reads s.heap u (pyD d) as
 | 0,_,_,_,h,r=>⟨[],qj h r⟩
 | n+1,_,_,_,h,r=>by
  rcases h with h|⟨a,xs,ds,rfl,rfl,hx,q⟩|⟨a,xs,ds,rfl,rfl,_,hx,q⟩
  ·exact⟨[],qj h r⟩
  ·cases r
   obtain⟨ia,va,pa,_⟩:=I.tuple hx;obtain⟨as,b⟩:=jd (fun h r=>qi I n h r) q va;obtain⟨o,h1,h2,m,h3⟩:=(show s.heap.IsTuple a ia.toArray from pa);exact⟨as,.tuple h1 h2 h3 (by simpa using b)⟩
  ·cases r
   obtain⟨ia,va,pa,_⟩:=I.list (ze hx);obtain⟨as,b⟩:=jd (fun h r=>qi I n h r) q va;obtain⟨o,h1,h2,m,h3⟩:=pa.isList;exact⟨a::as,.list h1 h2 h3 (by simpa using b)⟩
inductive zmcJ(tb:TE)(σ:St)(Q:VK)(x:V)(H1:Hp):Prop|mk(z:_):x=.str z->z.length<=sizeLine->(z.length≠0->Q (.str z) H1)->((z.length=0->tb σ H1 Q))->zmcJ tb σ Q x H1
def zmc(ta tb:TE):TE:=fun σ H Q=>ta σ H fun x H1=>zmcJ tb σ Q x H1
variable {a b:Expr}{wE:List Expr}{ta tb:TE}{pos:Pos}
theorem zkn(ha:PE X a ta)(hb:PE X (.BoolOp .Or (b::wE) pos) tb):PE X (.BoolOp .Or (a::b::wE) pos) (zmc ta tb):=by
 exists ?_;intro pins s σ H Q I h;refine BoolOp_or (thn (ha pins s σ H _ I h) fun v s1 ⟨x,H1,I1,r1,q1⟩=>?_);obtain⟨z,rfl,hz,q1,q2⟩:=q1;obtain⟨t,rfl⟩:=r1;have hl:=uA;refine PySem.P.truthy_str (by omega) ?_
 cases e:((z.length:Int) != 0) with
 | false=>exact hb pins _ σ H1 Q (I1.tok _) (q2 (by simpa using e))
 | true=>exact⟨.str z,H1,I1.tok _,⟨_,rfl⟩,q1 (by simpa using e)⟩
inductive zlyJ(K:Frag)(xs:List V)(H:Hp)(Q:VK):Prop|mk(a:Addr)(n:Nat)(d:Dt)(ok:Addr->Prop):xs=[.ref a]->zw K ok H n (.ref a) d->(pyD d).showable=true->(pyD d).hasDict=false->(pyD d).depth<=20->(pyD d).shown.length<=sizeLine->(Q (.str (pyD d).shown) H)->zlyJ K xs H Q
def zly(K:Frag):List V->Hp->VK->Prop:=fun xs H Q=>zlyJ K xs H Q
theorem zaM(hu:X.A.units+64<cLine)(hg:X.A.guards=some []):xh X (.builtin "repr") (zly X.K):=by
 intro pins s σ H xs us Q I rv h;obtain⟨a,n,d,ok,rfl,hS,h1,h2,h3,h4,q⟩:=h;obtain⟨u,rfl,rx⟩:=wS rv;obtain⟨as,rd⟩:=qi I n hS rx;cases rx;exact repr_of_reads' (h₀:=s.heap) rd h1 (fun e=>by rw[h2] at e;cases e) hg (by omega) (fun b o z=>z) (fun h' u tk hk=>⟨.str _,H,I.turnedL (ch:=[]) (fun b hb=>by cases hb) (fun b o _ z=>hk b o z),⟨_,rfl⟩,q⟩) h4
end
end L2
namespace L2
open PySem PyProof.Rows
end L2
namespace K26
open PySem L2 PyProof.Rows
theorem xE{x y:Str}:(x++y).length=x.length+y.length:=by
 show(x.cps++y.cps).size=x.cps.size+y.cps.size;simp
theorem zdA{a:Int}{n:Nat}(h : 0<n):∃k:Nat,a % (n:Int)=(k:Int)/\k<n:=by
 have h0:=emod_nonneg a (show(n:Int)≠0 by omega)
 have h1:=emod_lt_of_pos a (show(0:Int)<(n:Int) by omega)
 obtain⟨k,hk⟩:=eq_ofNat_of_zero_le h0;exact⟨k,hk,by omega⟩
theorem zcb:letters.length=26:=by symm
theorem zdq:∀k:Nat,k<26->letters.cps.toList[k]?=some (97+k):=by symm
theorem zex{a b:Nat}(h:a<=b):wt xs (some (a:Int)) (some (b:Int))=(xs.drop a).take (b - a):=by
 unfold wt;rw[HT.zl9,HT.zl9];by_cases h1:b<=xs.length
 ·rw[min_eq_left h1,min_eq_left (by omega)]
 ·rw[min_eq_right (by omega)]
  by_cases h2:a<=xs.length
  ·rw[min_eq_left h2,take_of_length_le (by rw[length_drop];omega),take_of_length_le (by rw[length_drop];omega)]
  ·rw[min_eq_right (by omega),drop_of_length_le (aF _),drop_of_length_le (by omega)]
   simp
theorem wK{α : Type}{P : α->Prop}{a b:List α}(h1:∀m∈a,P m)(h2:∀m∈b,P m):∀m∈a++b,P m:=fun m h=>(List.mem_append.mp h).elim (h1 m) (h2 m)
theorem zdR{R:Addr->Rw->Prop}(h:Paired R us rows):(((us.zip rows).filter fun _=>true).map fun p=>V.str p.2.z)=(rows.map (·.z)).map V.str:=by
 induction h with
 | nil=>rfl
 | @cons u r us rows _ _ ih=>
  rw[zip_cons_cons,filter_cons,aK rfl,map_cons,ih];rfl
def GZ(B:Nat)(z:Str):Prop:=1<=z.length/\z.length<=B
theorem GZ.mono{B B':Nat}(h:GZ B z)(hB:B<=B'):GZ B' z:=⟨h.1,le_trans h.2 hB⟩
inductive zjr(vs:List V)(H:Hp)(Q:VK)(E:XK):Prop|mk(z:Str)(cell:Int)(B:Nat):vs=[.str z,.int cell]->GZ B z->B<=400->(∀z':Str,GZ (2 * B+1) z'->Q (.str z') H)->zjr vs H Q E
structure PL(K:Frag)(H:Hp)(l:Addr)(ys:List V)(ps:List (Str×Int)):Prop where
 l:H l=some (.lst ys)
 p:Paired (zw K T' H 1) ys (ps.map yx)
theorem PL.same{K:Frag}{H H':Hp}{l:Addr}{ys:List V}{ps:List (Str×Int)}(h:PL K H l ys ps)(s:zn H H'):PL K H' l ys ps:=⟨s _ _ h.l,yH s h.p⟩
theorem zgn{K:Frag}{H:Hp}{ys:List V}{ps:List (Str×Int)}(h:Paired (zw K T' H 1) ys (ps.map yx))(a b:Nat):Paired (zw K T' H 1) ((ys.drop a).take b) (((ps.drop a).take b).map yx):=by
 rw[map_take,map_drop];exact vt b (vw a h)
theorem jI{K:Frag}{H:Hp}{ys:List V}{ps:List (Str×Int)}(h:Paired (zw K T' H 1) ys (ps.map yx))(b:Nat):Paired (zw K T' H 1) (ys.take b) ((ps.take b).map yx):=by
 rw[map_take];exact vt b h
theorem uK{K:Frag}{H:Hp}{ys:List V}{ps:List (Str×Int)}(h:Paired (zw K T' H 1) ys (ps.map yx))(b:Nat):Paired (zw K T' H 1) (ys.drop b) ((ps.drop b).map yx):=by
 rw[map_drop];exact vw b h
theorem vM{K:Frag}{H:Hp}{ys ys':List V}{ps ps':List (Str×Int)}(h:Paired (zw K T' H 1) ys (ps.map yx))(h':Paired (zw K T' H 1) ys' (ps'.map yx)):Paired (zw K T' H 1) (ys++ys') ((ps++ps').map yx):=by
 rw[aE];exact wj h h'
theorem zda{K:Frag}{H:Hp}{u:Addr}{z:Str}{i:Int}(h:H u=some (.tup [.str z,.int i])):Paired (zw K T' H 1) [.ref u] ([(z,i)].map yx):=.cons (.tup (zq h) (.cons .str (.cons .int .nil))) .nil
def GP(B:Nat)(ps:List (Str×Int)):Prop:=∀q∈ps,GZ B q.1
def Tld(H:Hp)(t la lb:Addr)(us:List Addr)(rows:List Rw)(bars:List Str):Prop:=H t=some (.tup [.ref la,.ref lb])/\H la=some (.lst (us.map V.ref))/\Paired (TAt H) us rows/\H lb=some (.lst (bars.map V.str))/\vS rows bars
theorem Tld.same(h:Tld H t la lb us rows bars)(s:zn H H'):Tld H' t la lb us rows bars:=⟨s _ _ h.1,s _ _ h.2.1,z9 s h.2.2.1,s _ _ h.2.2.2.1,h.2.2.2.2⟩
inductive jF(K:Frag)(vs:List V)(H:Hp)(Q:VK)(E:XK):Prop|mk(lp t la lb:Addr)(cell:Int)(ys:List V)(ps:List (Str×Int))(us:List Addr)(rows:List Rw)(bars:List Str)(B:Nat):vs=[.ref lp,.ref t,.int cell]->PL K H lp ys ps->GP B ps->0<ps.length->ps.length<=100->8<=B->B<=400->Tld H t la lb us rows bars->(∀l ys' ps' H',zn H H'->PL K H' l ys' ps'->GP (2 * B+1) ps'->ps'.length<=ps.length+1->Q (.ref l) H')->jF K vs H Q E
inductive zbJ(K:Frag)(vs:List V)(H:Hp)(Q:VK)(E:XK):Prop|mk(lt lp t la lb:Addr)(cell:Int)(ts:List Int)(ys:List V)(ps:List (Str×Int))(us:List Addr)(rows:List Rw)(bars:List Str)(B:Nat):vs=[.ref lt,.ref lp,.ref t,.int cell]->H lt=some (.lst (ts.map V.int))->PL K H lp ys ps->GP B ps->ts.length<=100->ps.length<=100->8<=B->B<=400->Tld H t la lb us rows bars->(∀p l1 l2 (ts':List Int) ys' ps' H',zn H H'->H' p=some (.tup [.ref l1,.ref l2])->H' l1=some (.lst (ts'.map V.int))->PL K H' l2 ys' ps'->GP (2 * B+1) ps'->ts'.length<=ts.length+1->ps'.length<=ps.length+1->Q (.ref p) H')->zbJ K vs H Q E
section
variable {mg:Str->Option Value}
theorem zfZ:zt ["_law_name","_law_cell_here","_law_letter","_law_at"] ["_law_name","_law_cell_here"] (zj jc):=fsc
theorem zkA{P:Program}{w:World}{K:Frag}{base:Heap}{f:Addr}{fd:FuncData}(F:Fun K "_law_lettered" "_law_lettered" jc f fd)(hlen:mg "len"=none):zC P w K mg base CX0 1 f fd ["_law_name","_law_cell_here"] zjr:=by
 refine F.ok zfZ (fun cdv A outer s H vs Q E hr h=>?_);obtain⟨z,cell,B,rfl,⟨z1,zB⟩,hB,q⟩:=h;refine zR (zu (i:=2) zfZ.nd rfl ⋯ (zE zhi zm (zl zY (zl yp (pv 1) zg) zg) nofun)) ?_;obtain⟨c,hc,c26⟩:=zdA (a:=cell / 3) (n:=26) (by decide)
 exists _,rfl,_,_,rfl,rfl,⟨by decide,by decide⟩,_,_,rfl,rfl,(by show(0:Int)<26;decide),letters,_,97+c,rfl,rfl,(by rw[zcb];decide),(by rw[show cell / 3 % 26=(c:Int) from hc];exact yP (zdq c c26)),?_
 dsimp only[zZ];refine zR (zu (i:=3) zfZ.nd rfl ⋯ (zl zY (zl yp (pv 1) zg) (cB vq hlen PySem.boot_len (ac (pv 0) zb)))) ?_;exists _,rfl,_,_,rfl,rfl,⟨by decide,by decide⟩,_,rfl,z,rfl,zK (by omega),_,_,rfl,rfl,(by omega),?_
 obtain⟨d,hd,dl⟩:=zdA (a:=cell / 78) (n:=z.length) (by omega)
 rw[hd];dsimp only[zZ];have h1:=Txt.slice_le z none (some (d:Int));have h2:=Txt.slice_le z (some ((d:Int)+1)) none;have h3:=Txt.slice_le z (some (d:Int)) none;have c1:(⟨#[97+c]⟩:Str).length=1:=rfl;refine zR (zH (zk yb (zl zY (pv 1) zg) zg (zx _)) (zf (zA (zl xW (zl xW (zM ur (pv 0) zX (zQ (pv 3))) (pv 2)) (zM ur (pv 0) (zQ (zl yc (pv 3) zg)) zX)))) zv) ?_;exists _,rfl,_,_,rfl,rfl,zp3,rfl,_,rfl,?_;refine wG (fun _=>?_) (fun _=>?_)
 ·exists _,rfl,_,rfl,_,rfl,z,rfl,zK (by omega),_,rfl,_,_,rfl,rfl,(by rw[c1];exact zK (by omega)),_,rfl,_,rfl,_,_,rfl,rfl,_,rfl,z,rfl,zK (by omega),_,_,rfl,rfl,(by rw[xE,c1];exact zK (by omega)),?_
  exact q _ ⟨by rw[xE,xE,c1];omega,by rw[xE,xE,c1];omega⟩
 dsimp only[uG];refine zR (zH (yV (yX (zk yb (zl zY (pv 1) zg) zg (zx _)) (yy (zk zau (cB vq hlen PySem.boot_len (ac (pv 0) zb)) zg (zx _))))) (zf (zA (zl xW (zl xW (zM ur (pv 0) zX (zQ (pv 3))) (pv 2)) (zM ur (pv 0) (zQ (pv 3)) zX)))) zv) ?_;refine yr (fun σ' H'=>σ'=[some (.str z),some (.int cell),some (.str ⟨#[97+c]⟩),some (.int (d:Nat))]/\H'=H) ?_ (fun key=>?_);rotate_left
 ·exists _,rfl,_,_,rfl,rfl,zp3,rfl,_,rfl,?_
  refine wG (fun _=>?_) (fun _=>?_)
  ·exists _,rfl,z,rfl,zK (by omega),_,_,rfl,rfl,_,rfl,?_
   refine wG (fun _=>?_) (fun _=>?_)
   ·exists _,rfl,_,rfl,_,rfl,z,rfl,zK (by omega),_,rfl,_,_,rfl,rfl,(by rw[c1];exact zK (by omega)),_,rfl,_,rfl,_,rfl,z,rfl,zK (by omega),_,_,rfl,rfl,(by rw[xE,c1];exact zK (by omega)),?_
    exact q _ ⟨by rw[xE,xE,c1];omega,by rw[xE,xE,c1];omega⟩
   ·exact key _ _ ⟨rfl,rfl⟩
  ·exact yf (key _ _ ⟨rfl,rfl⟩)
 rintro σ1 H1 ⟨rfl,rfl⟩;exists _,zf (zA (zkn (zl xW (zM ur (pv 0) zX (zQ (pv 3))) (zM ur (pv 0) (zQ (zl yc (pv 3) zg)) zX)) (zdc (pv 2)))),?_;exists _,rfl,_,rfl,_,rfl,z,rfl,zK (by omega),_,rfl,_,rfl,_,_,rfl,rfl,_,rfl,z,rfl,zK (by omega),_,_,rfl,rfl,zK (by omega),_,rfl,(by rw[xE];exact zK (by omega)),fun hn=>?_,fun _=>?_
 ·exact q _ ⟨by omega,by rw[xE];omega⟩
 ·exact⟨_,rfl,q _ ⟨by rw[c1];exact aF _,by rw[c1];omega⟩⟩
theorem zbN:zt ["_law_pairs","_law_told","_law_cell_here","_law_known","_law_at","_law_name"] ["_law_pairs","_law_told","_law_cell_here"] (zj j9):=fsc
theorem zkv{P:Program}{w:World}{K:Frag}{base:Heap}{f:Addr}{fd:FuncData}{g1:Addr}{d1:FuncData}(F:Fun K "_law_renamed" "_law_renamed" j9 f fd)(hlen:mg "len"=none)(cL:zG P w K mg base 1 "_law_lettered" g1 d1 ["_law_name","_law_cell_here"] zjr):zC P w K mg base CX0 2 f fd ["_law_pairs","_law_told","_law_cell_here"] (jF K):=by
 refine F.ok zbN (fun cdv A outer s H vs Q E hr h=>?_);obtain⟨lp,t,la,lb,cell,ys,ps,us,rows,bars,B,rfl,hP,hG,p0,l100,b8,b400,hT,q⟩:=h;have lyp:ys.length=ps.length:=by rw[hP.p.length,aA]
 have hl0:=hP.l;obtain⟨ht,hla,hu,hlb,V1⟩:=id hT;have l24:=V1.l24;have l60:=V1.l60;have hU0:=hr.units0;have hU:=hr.units;refine zR (zu (i:=3) zbN.nd rfl ⋯ (zl ye (xQ [] ["_law_one"] [none] rfl ⟨rfl,rfl,rfl,rfl⟩ (yw (zE zD (pv 1) zg nofun)) (yj 0) rfl rfl rfl
   (fun pins fp s H C=>⟨zp (i:=0) zbl rfl ⋯ (.inr rfl),xc,zE (r:=je K) zD (pv 0) zg nofun⟩)) (zE zD (pv 1) zg nofun))) ?_
 exists _,rfl,t,_,0,.ref la,rfl,rfl,zq ht,rfl,la,rfl,⟨_,ze hla⟩,fun D hD=>?_;refine vQ (K:=K) TAt (fun _=>true) (fun _ r=>.str r.z) hD hla hu (by omega) (fun i u r H' Nn S hu' hr' tr sH n1 s1'=>?_) (fun H4 s4 hD4=>?_)
 ·exists fun _=>?_,fun e=>Bool.noConfusion e
  exact⟨_,rfl,u,_,1,_,rfl,rfl,zq (sH _ _ tr),zca,n1 _ (zn.refl _) rfl⟩
 rw[zdR hu] at hD4;exists _,rfl,t,_,1,.ref lb,rfl,rfl,zq (s4 _ _ ht),rfl,D,lb,_,_,rfl,rfl,hD4,s4 _ _ hlb,zK (by rw[aA,aA,aA];omega),fun lw hlw=>?_
 have s5:=zc hlw (.lst ((rows.map (·.z)).map V.str++bars.map V.str));have g5:upd H4 lw (.lst ((rows.map (·.z)).map V.str++bars.map V.str)) lw=some (.lst ((rows.map (·.z)++bars).map V.str)):=by rw[za,aE]
 dsimp only[zZ];generalize upd H4 lw (.lst ((rows.map (·.z)).map V.str++bars.map V.str))=H5 at s5 g5 |-;have knl:∀y∈rows.map (·.z)++bars,GZ 8 y:=fun y hy=>by
  have:xO y=true:=by
   rcases List.mem_append.mp hy with hy|hy
   ·obtain⟨r,hr,rfl⟩:=List.mem_map.mp hy
    exact(V1.ok r hr).2
   ·exact V1.bn y hy
  exact⟨(xX.mp this).1,(xX.mp this).2.1⟩
 generalize rows.map (·.z)++bars=known at g5 knl;have s05:=s4.trans s5;have hP5:=hP.same s05;have hl:=hP5.l;refine zR (zu (i:=4) zbN.nd rfl ⋯ (zl zY (zl yp (pv 2) zg) (cB zI hlen PySem.boot_len (ac (pv 0) zb)))) ?_;exists _,rfl,_,_,rfl,rfl,⟨by decide,by decide⟩,_,rfl,lp,_,rfl,.inl (ze hl),_,_,rfl,rfl,(by omega),?_
 obtain⟨a,ha,al⟩:=zdA (a:=cell / 16) (n:=ys.length) (by omega)
 rw[ha];dsimp only[zZ];obtain⟨⟨z,i⟩,hpa⟩:∃p,ps[a]?=some p:=⟨_,aB (by omega)⟩
 obtain⟨y,hya⟩:∃y,ys[a]?=some y:=⟨_,aB al⟩;obtain⟨d0,hd0,hs0⟩:=Paired.get hP5.p hya;rw[getElem?_map,hpa] at hd0;cases hd0;obtain⟨u,rfl,hu5⟩:=xV hs0;have hzG:=hG _ (aH hpa);refine zR (zu (i:=5) zbN.nd rfl ⋯ (cF cL (hr.mono (by decide)) (ac (zE zD (zE y6 (pv 0) (pv 4) nofun) zg nofun) (ac (zl yp (pv 2) zg) zb)))) ?_
 exists _,rfl,_,rfl,lp,_,_,.ref u,rfl,rfl,ze hl,yP hya,u,_,0,.str z,rfl,rfl,hu5,rfl,_,rfl,_,_,rfl,rfl,⟨by decide,by decide⟩,z,_,B,rfl,hzG,b400,fun z1 hz1=>?_
 dsimp only[zZ];refine zR (zH (yV (yX (zk yb (zl zY (zl yp (pv 2) zg) zg) zg (zx _)) (yy (zk (uF (vO hU) (uN hU0)) (pv 3) (zN zb) (zx _))))) (zf (zu (i:=5) zbN.nd rfl ⋯ (zE y6 (pv 3) (zl zY (zl yp (pv 2) zg) (cB zI hlen PySem.boot_len (ac (pv 3) zb))) nofun))) zv) ?_;refine yr (fun σ' H'=>∃z2:Str,σ'=[some (.ref lp),some (.ref t),some (.int cell),some (.ref lw),some (.int (a:Nat)),some (.str z2)]/\zn H5 H'/\GZ (2 * B+1) z2) ?_ (fun key=>?_);rotate_left
 ·exists _,rfl,_,_,rfl,rfl,⟨by decide,by decide⟩,_,_,rfl,rfl,zp2,rfl,_,rfl,?_
  refine wG (fun _=>?_) (fun _=>?_)
  ·exists _,rfl,xK,fun l0 hl0=>?_
   injections l0 hl0 H6 s6 g6
   by_cases hk:known.length=0
   ·have ek:known=[]:=eq_nil_of_length_eq_zero hk
    rw[ek] at g5;refine .inl ⟨lw,l0,0,.lst [],fun _=>True,fun _=>True,rfl,rfl,by decide,.lst True.intro (s6 _ _ g5) .nil,.lst True.intro g6 .nil,_,rfl,?_⟩
    refine yf ?_;exact key _ _ ⟨z1,rfl,s6,hz1⟩
   ·refine .inr ⟨lw,l0,_,_,rfl,rfl,s6 _ _ g5,g6,(by rw[aA];exact hk),_,rfl,?_⟩
    refine xt ?_;obtain⟨k,hk2,kl⟩:=zdA (a:=cell / 1024) (n:=known.length) (by omega)
    exists _,rfl,_,rfl,_,_,rfl,rfl,⟨by decide,by decide⟩,_,rfl,lw,_,rfl,.inl (ze (s6 _ _ g5)),_,_,rfl,rfl,(by rw[aA];omega),lw,_,_,.str known[k],rfl,rfl,ze (s6 _ _ g5),(by rw[aA,hk2];exact yP (by rw[getElem?_map,aB kl];rfl)),?_
    exact key _ _ ⟨_,rfl,s6,(knl _ (getElem_mem kl)).mono (by omega)⟩
  ·exact yf (key _ _ ⟨z1,rfl,zn.refl _,hz1⟩)
 rintro σ6 H6 ⟨z2,rfl,s6,hz2⟩;exists _,zf (zA (zl ye (zl ye (zM z8 (pv 0) zX (zQ (pv 4))) (zN (ac (zJ (ac (pv 5) (ac (zE zD (zE y6 (pv 0) (pv 4) nofun) zg nofun) zb))) zb))) (zM z8 (pv 0) (zQ (zl yc (pv 4) zg)) zX))),?_;have sz:=zn.refl H6;have hl:=s6 _ _ hl;have hu6:=s6.sqT hu5;exists _,rfl,_,rfl,_,rfl,lp,_,rfl,ze (sz _ _ hl),fun p1 hp1=>?_;rw[yD]
 injections p1 hp1 J0 t0 gp1
 have sc0:=sz.trans t0;exists _,rfl,_,rfl,_,rfl,lp,_,_,.ref u,rfl,rfl,ze (sc0 _ _ hl),yP hya,u,_,1,.int i,rfl,rfl,sc0.sqT hu6,rfl,z6,fun p2 hp2=>?_
 injections p2 hp2 J1 t1 gp2
 have gp1:=t1 _ _ gp1;have sc1:=sc0.trans t1;exists ja,fun p3 hp3=>?_
 injections p3 hp3 J2 t2 gp3
 have gp1:=t2 _ _ gp1;have gp2:=t2 _ _ gp2;have sc2:=sc1.trans t2;exists p1,p3,_,_,rfl,rfl,gp1,gp3,zK (by and_intros),fun p4 hp4=>?_
 injections p4 hp4 J3 t3 gp4
 have gp1:=t3 _ _ gp1;have gp2:=t3 _ _ gp2;have gp3:=t3 _ _ gp3;have sc3:=sc2.trans t3;exists _,rfl,_,rfl,_,_,rfl,rfl,_,rfl,lp,_,rfl,ze (sc3 _ _ hl),fun p5 hp5=>?_;rw[show(((a:Nat):Int)+1)=((a+1:Nat):Int) by omega,yo]
 injections p5 hp5 J4 t4 gp5
 have gp2:=t4 _ _ gp2;have gp4:=t4 _ _ gp4;have sc4:=sc3.trans t4;exists p4,p5,_,_,rfl,rfl,gp4,gp5,zK (by and_intros),fun p6 hp6=>?_
 injections p6 hp6 J5 t5 gp6
 have gp2:=t5 _ _ gp2;have gp4:=t5 _ _ gp4;have gp5:=t5 _ _ gp5;have sc5:=sc4.trans t5;have hp:=yH (s6.trans sc5) hP5.p;refine q p6 _ (ps.take a++[(z2,i)]++ps.drop (a+1)) _ (s05.trans (s6.trans sc5)) ⟨gp6,vM (vM (jI hp a) (zda gp2)) (uK hp _)⟩ (wK (wK (fun x h=>(hG x (mem_of_mem_take h)).mono (by omega)) (fun x h=>by rw[List.mem_singleton.mp h];exact hz2)) (fun x h=>(hG x (mem_of_mem_drop h)).mono (by omega))) (by and_intros)
theorem zfW:zt ["_law_pairs","_law_told","_law_cell_here","_law_way","_law_at","_law_other","_law_near","_law_far"] ["_law_pairs","_law_told","_law_cell_here"] (zj qa):=fsc
theorem zlE{P:Program}{w:World}{K:Frag}{base:Heap}{f:Addr}{fd:FuncData}{g1:Addr}{d1:FuncData}(F:Fun K "_law_named_beside" "_law_named_beside" qa f fd)(hlen:mg "len"=none)(cR:zG P w K mg base 2 "_law_renamed" g1 d1 ["_law_pairs","_law_told","_law_cell_here"] (jF K)):zC P w K mg base CX0 3 f fd ["_law_pairs","_law_told","_law_cell_here"] (jF K):=by
 refine F.ok zfW (fun cdv A outer s H vs Q E hr h=>?_);obtain⟨lp,t,la,lb,cell,ys,ps,us,rows,bars,B,rfl,hP,hG,p0,l100,b8,b400,hT,q⟩:=h;have lyp:ys.length=ps.length:=by rw[hP.p.length,aA]
 have hl0:=hP.l;have hl:=hP.l;refine zR (zu (i:=3) zfW.nd rfl ⋯ (zl zY (pv 2) zg)) ?_;exists _,rfl,_,_,rfl,rfl,zp4,?_;dsimp only[zZ];generalize cell % 4=way;refine zR (zu (i:=4) zfW.nd rfl ⋯ (zl zY (zl yp (pv 2) zg) (cB zI hlen PySem.boot_len (ac (pv 0) zb)))) ?_;exists _,rfl,_,_,rfl,rfl,⟨by decide,by decide⟩,_,rfl,lp,_,rfl,.inl (ze hl),_,_,rfl,rfl,(by omega),?_
 obtain⟨a,ha,al⟩:=zdA (a:=cell / 16) (n:=ys.length) (by omega)
 rw[ha];dsimp only[zZ];refine zR (zu (i:=5) zfW.nd rfl ⋯ (zl zY (zl yp (pv 2) zg) (zl yc (cB zI hlen PySem.boot_len (ac (pv 0) zb)) zg))) ?_;exists _,rfl,_,_,rfl,rfl,⟨by decide,by decide⟩,_,rfl,lp,_,rfl,.inl (ze hl),_,_,rfl,rfl,_,_,rfl,rfl,(by omega),?_
 obtain⟨o,ho,ol⟩:=zdA (a:=cell / 512) (n:=ys.length+1) (by omega)
 rw[show((ys.length:Nat):Int)+1=((ys.length+1:Nat):Int) by omega,ho]
 dsimp only[zZ];obtain⟨⟨z,i⟩,hpa⟩:∃p,ps[a]?=some p:=⟨_,aB (by omega)⟩
 obtain⟨y,hya⟩:∃y,ys[a]?=some y:=⟨_,aB al⟩;obtain⟨d0,hd0,hs0⟩:=Paired.get hP.p hya;rw[getElem?_map,hpa] at hd0;cases hd0;obtain⟨u,rfl,hu5⟩:=xV hs0;have hzG:=hG _ (aH hpa);have hG':GP (2 * B+1) ps:=fun x h=>(hG x h).mono (by omega)
 refine zR (zH (zk yb (pv 3) zg (zx _)) (zf (zA (zl ye (zl ye (zM z8 (pv 0) zX (zQ (pv 5))) (zN (ac (zJ (ac (zE zD (zE y6 (pv 0) (pv 4) nofun) zg nofun) (ac (zl zY (pv 2) zg) zb))) zb))) (zM z8 (pv 0) (zQ (pv 5)) zX)))) zv) ?_;exists _,rfl,rfl,_,rfl,?_;refine wG (fun _=>?_) (fun _=>?_)
 ·have sz:=zn.refl H
  exists _,rfl,_,rfl,_,rfl,lp,_,rfl,ze (sz _ _ hl),fun p1 hp1=>?_;rw[yD]
  injections p1 hp1 J6 t6 gp1
  have sc6:=sz.trans t6;exists _,rfl,_,rfl,lp,_,_,.ref u,rfl,rfl,ze (sc6 _ _ hl),yP hya,u,_,0,.str z,rfl,rfl,sc6.sqT hu5,rfl,_,rfl,_,_,rfl,rfl,(by show(0:Int)<9;decide),z6,fun p2 hp2=>?_
  injections p2 hp2 J7 t7 gp2
  have gp1:=t7 _ _ gp1;have sc7:=sc6.trans t7;exists ja,fun p3 hp3=>?_
  injections p3 hp3 J8 t8 gp3
  have gp1:=t8 _ _ gp1;have gp2:=t8 _ _ gp2;have sc8:=sc7.trans t8;exists p1,p3,_,_,rfl,rfl,gp1,gp3,zK (by and_intros),fun p4 hp4=>?_
  injections p4 hp4 J9 t9 gp4
  have gp1:=t9 _ _ gp1;have gp2:=t9 _ _ gp2;have gp3:=t9 _ _ gp3;have sc9:=sc8.trans t9;exists _,rfl,_,rfl,_,rfl,lp,_,rfl,ze (sc9 _ _ hl),fun p5 hp5=>?_;rw[yo]
  injections p5 hp5 J10 t10 gp5
  have gp2:=t10 _ _ gp2;have gp4:=t10 _ _ gp4;have sc10:=sc9.trans t10;exists p4,p5,_,_,rfl,rfl,gp4,gp5,zK (by and_intros),fun p6 hp6=>?_
  injections p6 hp6 J11 t11 gp6
  have gp2:=t11 _ _ gp2;have gp4:=t11 _ _ gp4;have gp5:=t11 _ _ gp5;have sc11:=sc10.trans t11;have hp:=yH sc11 hP.p;refine q p6 _ (ps.take o++[(z,cell % 9)]++ps.drop o) _ sc11 ⟨gp6,vM (vM (jI hp o) (zda gp2)) (uK hp _)⟩ (wK (wK (fun x h=>hG' x (mem_of_mem_take h)) (fun x h=>by rw[List.mem_singleton.mp h];exact hzG.mono (by omega))) (fun x h=>hG' x (mem_of_mem_drop h))) (by and_intros)
 dsimp only[uG];refine zR (zH (zk yb (pv 3) zg (zx _)) (zf (zA (zl ye (zM z8 (pv 0) zX (zQ (pv 4))) (zM z8 (pv 0) (zQ (zl yc (pv 4) zg)) zX)))) zv) ?_;exists _,rfl,rfl,_,rfl,?_;refine wG (fun _=>?_) (fun _=>?_)
 ·have sz:=zn.refl H
  exists _,rfl,_,rfl,_,rfl,lp,_,rfl,ze (sz _ _ hl),fun p1 hp1=>?_;rw[yD]
  injections p1 hp1 J12 t12 gp1
  have sc12:=sz.trans t12;exists _,rfl,_,rfl,_,_,rfl,rfl,_,rfl,lp,_,rfl,ze (sc12 _ _ hl),fun p2 hp2=>?_;rw[show(((a:Nat):Int)+1)=((a+1:Nat):Int) by omega,yo]
  injections p2 hp2 J13 t13 gp2
  have gp1:=t13 _ _ gp1;have sc13:=sc12.trans t13;exists p1,p2,_,_,rfl,rfl,gp1,gp2,zK (by and_intros),fun p3 hp3=>?_
  injections p3 hp3 J14 t14 gp3
  have gp1:=t14 _ _ gp1;have gp2:=t14 _ _ gp2;have sc14:=sc13.trans t14;have hp:=yH sc14 hP.p;refine q p3 _ (ps.take a++ps.drop (a+1)) _ sc14 ⟨gp3,vM (jI hp a) (uK hp _)⟩ (wK (fun x h=>hG' x (mem_of_mem_take h)) (fun x h=>hG' x (mem_of_mem_drop h))) (by and_intros)
 dsimp only[uG];refine zR (zH (zk yb (pv 3) zg (zx _)) (zh (zki (i:=6) (j:=7) rfl zfW.nd rfl rfl (by decide) rfl rfl (ac (zM z8 (pv 0) (zQ (pv 4)) (zQ (zl yc (pv 4) zg))) (ac (zM z8 (pv 0) (zQ (zl yc (pv 4) zg)) (zQ (zl yc (pv 4) zg))) zb)) rfl) (zf (zA (zl ye (zl ye (zl ye (zM z8 (pv 0) zX (zQ (pv 4))) (pv 7)) (pv 6)) (zM z8 (pv 0) (zQ (zl yc (pv 4) zg)) zX))))) zv) ?_
 exists _,rfl,rfl,_,rfl,?_;refine wG (fun _=>?_) (fun _=>?_)
 ·have sz:=zn.refl H
  exists _,rfl,_,rfl,_,rfl,_,rfl,_,_,rfl,rfl,_,rfl,lp,_,rfl,ze (sz _ _ hl),fun p1 hp1=>?_;rw[show(((a:Nat):Int)+1)=((a+1:Nat):Int) by omega,zex (by omega)]
  injections p1 hp1 J15 t15 gp1
  have sc15:=sz.trans t15;exists _,rfl,_,rfl,_,_,rfl,rfl,_,rfl,_,rfl,_,_,rfl,rfl,_,rfl,lp,_,rfl,ze (sc15 _ _ hl),fun p2 hp2=>?_;rw[show(((a:Nat):Int)+1)=((a+1:Nat):Int) by omega,show(((a:Nat):Int)+2)=((a+2:Nat):Int) by omega,zex (by omega)]
  injections p2 hp2 J16 t16 gp2
  have gp1:=t16 _ _ gp1;have sc16:=sc15.trans t16;exists _,_,rfl,?_
  try dsimp only[zZ]
  exists _,rfl,_,rfl,_,rfl,lp,_,rfl,ze (sc16 _ _ hl),fun p3 hp3=>?_;rw[yD]
  injections p3 hp3 J17 t17 gp3
  have gp1:=t17 _ _ gp1;have gp2:=t17 _ _ gp2;have sc17:=sc16.trans t17;exists _,rfl,?_;exists p3,p2,_,_,rfl,rfl,gp3,gp2,zK (by and_intros),fun p4 hp4=>?_
  injections p4 hp4 J18 t18 gp4
  have gp1:=t18 _ _ gp1;have gp2:=t18 _ _ gp2;have gp3:=t18 _ _ gp3;have sc18:=sc17.trans t18;exists _,rfl,?_;exists p4,p1,_,_,rfl,rfl,gp4,gp1,zK (by and_intros),fun p5 hp5=>?_
  injections p5 hp5 J19 t19 gp5
  have gp1:=t19 _ _ gp1;have gp4:=t19 _ _ gp4;have sc19:=sc18.trans t19;exists _,rfl,_,rfl,_,_,rfl,rfl,_,rfl,lp,_,rfl,ze (sc19 _ _ hl),fun p6 hp6=>?_;rw[show(((a:Nat):Int)+2)=((a+2:Nat):Int) by omega,yo]
  injections p6 hp6 J20 t20 gp6
  have gp5:=t20 _ _ gp5;have sc20:=sc19.trans t20;exists p5,p6,_,_,rfl,rfl,gp5,gp6,zK (by and_intros),fun p7 hp7=>?_
  injections p7 hp7 J21 t21 gp7
  have gp5:=t21 _ _ gp5;have gp6:=t21 _ _ gp6;have sc21:=sc20.trans t21;have hp:=yH sc21 hP.p;refine q p7 _ (ps.take a++(ps.drop (a+1)).take (a+2 - (a+1))++(ps.drop a).take (a+1 - a)++ps.drop (a+2)) _ sc21 ⟨gp7,vM (vM (vM (jI hp a) (zgn hp _ _)) (zgn hp _ _)) (uK hp _)⟩ (wK (wK (wK (fun x h=>hG' x (mem_of_mem_take h)) (fun x h=>hG' x (mem_of_mem_drop (mem_of_mem_take h)))) (fun x h=>hG' x (mem_of_mem_drop (mem_of_mem_take h)))) (fun x h=>hG' x (mem_of_mem_drop h))) (by and_intros)
 dsimp only[uG];exists _,zf (zA (cF cR hr (ac (pv 0) (ac (pv 1) (ac (pv 2) zb))))),?_;exact⟨_,rfl,_,rfl,_,rfl,lp,t,la,lb,cell,ys,ps,us,rows,bars,B,rfl,hP,hG,p0,l100,b8,b400,hT,q⟩
theorem zh9:zt ["_law_things","_law_pairs","_law_told","_law_cell_here","_law_way","_law_at"] ["_law_things","_law_pairs","_law_told","_law_cell_here"] (zj zbf):=fsc
theorem zlH{P:Program}{w:World}{K:Frag}{base:Heap}{f:Addr}{fd:FuncData}{g1:Addr}{d1:FuncData}(F:Fun K "_law_beside" "_law_beside" zbf f fd)(hlen:mg "len"=none)(cN:zG P w K mg base 3 "_law_named_beside" g1 d1 ["_law_pairs","_law_told","_law_cell_here"] (jF K)):zC P w K mg base CX0 4 f fd ["_law_things","_law_pairs","_law_told","_law_cell_here"] (zbJ K):=by
 refine F.ok zh9 (fun cdv A outer s H vs Q E hr h=>?_);obtain⟨lt,lp,t,la,lb,cell0,ts,ys,ps,us,rows,bars,B,rfl,hlt,hP,hG,t100,l100,b8,b400,hT,q⟩:=h;have lyp:ys.length=ps.length:=by rw[hP.p.length,aA]
 have hl0:=hP.l;have hU0:=hr.units0;have hU:=hr.units;have hl:=hlt;have hG':GP (2 * B+1) ps:=fun x h=>(hG x h).mono (by omega)
 refine zR (zu (i:=4) zh9.nd rfl ⋯ (zl zY (pv 3) zg)) ?_;exists _,rfl,_,_,rfl,rfl,zp4,?_;dsimp only[zZ];refine zR (zu (i:=3) zh9.nd rfl ⋯ (zl yp (pv 3) zg)) ?_;exists _,rfl,_,_,rfl,rfl,⟨by decide,by decide⟩,?_
 dsimp only[zZ];generalize cell0 % 4=way;generalize cell0 / 4=cell;refine zR (zu (i:=5) zh9.nd rfl ⋯ (zl zY (zl yp (pv 3) zg) (zl yc (cB zI hlen PySem.boot_len (ac (pv 0) zb)) zg))) ?_;exists _,rfl,_,_,rfl,rfl,⟨by decide,by decide⟩,_,rfl,lt,_,rfl,.inl (ze hlt),_,_,rfl,rfl,_,_,rfl,rfl,(by rw[aA];omega),?_
 obtain⟨a,ha,al⟩:=zdA (a:=cell / 4) (n:=ts.length+1) (by omega)
 rw[aA,show((ts.length:Nat):Int)+1=((ts.length+1:Nat):Int) by omega,ha]
 dsimp only[zZ];refine zR (zH (yV (yX (zk yb (pv 4) zg (zx _)) (yy (zk yb (zl zY (pv 3) zg) zg (zx _))))) (zf (zA (zJ (ac (zl ye (zl ye (zM z8 (pv 0) zX (zQ (pv 5))) (zN (ac (zl zY (pv 3) zg) zb))) (zM z8 (pv 0) (zQ (pv 5)) zX)) (ac (pv 1) zb))))) zv) ?_;refine yr (fun σ' H'=>σ'=[some (.ref lt),some (.ref lp),some (.ref t),some (.int cell),some (.int way),some (.int (a:Nat))]/\H'=H) ?_ (fun key=>?_);rotate_left
 ·exists _,rfl,rfl,_,rfl,?_
  refine wG (fun _=>?_) (fun _=>?_)
  ·exists _,rfl,_,_,rfl,rfl,zp2,rfl,_,rfl,?_
   refine wG (fun _=>?_) (fun _=>key _ _ ⟨rfl,rfl⟩);have sz:=zn.refl H;exists _,rfl,_,rfl,_,rfl,lt,_,rfl,ze (sz _ _ hl),fun p1 hp1=>?_;rw[yD,<- map_take]
   injections p1 hp1 J22 t22 gp1
   have sc22:=sz.trans t22;exists _,rfl,_,_,rfl,rfl,(by show(0:Int)<7;decide),ja,fun p2 hp2=>?_
   rw[show([V.int (cell % 7)]:List V)=[cell % 7].map V.int from rfl]
   injections p2 hp2 J23 t23 gp2
   have gp1:=t23 _ _ gp1;have sc23:=sc22.trans t23;exists p1,p2,_,_,rfl,rfl,gp1,gp2,zK (by and_intros),fun p3 hp3=>?_
   rw[<- aE]
   injections p3 hp3 J24 t24 gp3
   have gp1:=t24 _ _ gp1;have gp2:=t24 _ _ gp2;have sc24:=sc23.trans t24;exists _,rfl,_,rfl,_,rfl,lt,_,rfl,ze (sc24 _ _ hl),fun p4 hp4=>?_;rw[yo,<- map_drop]
   injections p4 hp4 J25 t25 gp4
   have gp3:=t25 _ _ gp3;have sc25:=sc24.trans t25;exists p3,p4,_,_,rfl,rfl,gp3,gp4,zK (by and_intros),fun p5 hp5=>?_
   rw[<- aE]
   injections p5 hp5 J26 t26 gp5
   have gp3:=t26 _ _ gp3;have gp4:=t26 _ _ gp4;have sc26:=sc25.trans t26;exists _,rfl,z6,fun tp htp=>?_
   injections tp htp J27 t27 gtp
   have gp5:=t27 _ _ gp5;have sc27:=sc26.trans t27;exact q tp p5 lp (ts.take a++[cell % 7]++ts.drop a) ys ps _ sc27 gtp gp5 (hP.same sc27) hG' (by and_intros) (by omega)
  ·exact yf (key _ _ ⟨rfl,rfl⟩)
 rintro σ1 H1 ⟨rfl,rfl⟩;refine zR (zH (zk yb (pv 4) zg (zx _)) (zf (zA (zJ (ac (zl ye (zM z8 (pv 0) zX (zQ (pv 5))) (zM z8 (pv 0) (zQ (zl yc (pv 5) zg)) zX)) (ac (pv 1) zb))))) zv) ?_;exists _,rfl,rfl,_,rfl,?_;refine wG (fun _=>?_) (fun _=>?_)
 ·have sz:=zn.refl H1
  exists _,rfl,_,rfl,_,rfl,lt,_,rfl,ze (sz _ _ hl),fun p1 hp1=>?_;rw[yD,<- map_take]
  injections p1 hp1 J28 t28 gp1
  have sc28:=sz.trans t28;exists _,rfl,_,rfl,_,_,rfl,rfl,_,rfl,lt,_,rfl,ze (sc28 _ _ hl),fun p2 hp2=>?_;rw[show(((a:Nat):Int)+1)=((a+1:Nat):Int) by omega,yo,<- map_drop]
  injections p2 hp2 J29 t29 gp2
  have gp1:=t29 _ _ gp1;have sc29:=sc28.trans t29;exists p1,p2,_,_,rfl,rfl,gp1,gp2,zK (by and_intros),fun p3 hp3=>?_
  rw[<- aE]
  injections p3 hp3 J30 t30 gp3
  have gp1:=t30 _ _ gp1;have gp2:=t30 _ _ gp2;have sc30:=sc29.trans t30;exists _,rfl,z6,fun tp htp=>?_
  injections tp htp J31 t31 gtp
  have gp3:=t31 _ _ gp3;have sc31:=sc30.trans t31;exact q tp p3 lp (ts.take a++ts.drop (a+1)) ys ps _ sc31 gtp gp3 (hP.same sc31) hG' (by and_intros) (by omega)
 dsimp only[uG];obtain⟨ht,hla,hu,hlb,V1⟩:=id hT;refine zR (zH (zk (uF (qr hU) (qt hU0)) (pv 1) (zN zb) (zx _)) (zf (zA (zJ (ac (pv 0) (ac (zN (ac (zJ (ac (zE y6 (zl ye (zE zD (pv 2) zg nofun) (zN (ac zm zb))) zg nofun) (ac zg zb))) zb)) zb))))) zv) ?_;exists _,rfl,xK,fun l0 hl0=>?_
 injections l0 hl0 H2 s2 g2
 have hP2:=hP.same s2;by_cases hn:ps.length=0
 ·have ey:ys=[]:=eq_nil_of_length_eq_zero (by omega)
  have hl2:=hP2.l;rw[ey] at hl2;refine .inl ⟨lp,l0,0,.lst [],fun _=>True,fun _=>True,rfl,rfl,by decide,.lst True.intro hl2 .nil,.lst True.intro g2 .nil,_,rfl,?_⟩
  refine xt ?_;exists _,rfl,_,rfl,t,_,1,.ref lb,rfl,rfl,zq (s2 _ _ ht),rfl,ja,fun l3 hl3=>?_
  injections l3 hl3 J32 t32 gl3
  have sc32:=s2.trans t32;exists lb,l3,_,_,rfl,rfl,sc32 _ _ hlb,gl3,zK (by have:=V1.l60;simp only[aA,length_singleton];omega),fun l4 hl4=>?_
  injections l4 hl4 J33 t33 gl4
  have gl3:=t33 _ _ gl3;have sc33:=sc32.trans t33;obtain⟨z,hz,hzG⟩:∃z:Str,(bars.map V.str++[V.str "z"])[0]?=some (.str z)/\GZ 8 z:=by
   cases hb:bars with
   | nil=>exact⟨"z",rfl,by decide,by decide⟩
   | cons b bs=>
    have:=xX.mp (V1.bn b (by rw[hb];exact mem_cons_self))
    exact⟨b,rfl,this.1,this.2.1⟩
  exists l4,_,0,.str z,rfl,rfl,ze gl4,yP (j:=0) hz,z6,fun u hu'=>?_;have hu:=hu'
  injections u hu J34 t34 gu
  have gl3:=t34 _ _ gl3;have gl4:=t34 _ _ gl4;have sc34:=sc33.trans t34;exists ja,fun l5 hl5=>?_
  injections l5 hl5 J35 t35 gl5
  have gl3:=t35 _ _ gl3;have gl4:=t35 _ _ gl4;have gu:=t35 _ _ gu;have sc35:=sc34.trans t35;exists z6,fun tp htp=>?_
  injections tp htp J36 t36 gtp
  have gl3:=t36 _ _ gl3;have gl4:=t36 _ _ gl4;have gu:=t36 _ _ gu;have gl5:=t36 _ _ gl5;have sc36:=sc35.trans t36;exact q tp lt l5 ts [.ref u] [(z,1)] _ sc36 gtp (sc36 _ _ hlt) ⟨gl5,zda gu⟩ (fun x h=>by rw[List.mem_singleton.mp h];exact hzG.mono (by omega)) (by omega) (by show 1<=_;omega)
 refine .inr ⟨lp,l0,_,_,rfl,rfl,hP2.l,g2,(by show ys.length≠0;omega),_,rfl,?_⟩
 refine yf ?_;dsimp only[uG];obtain⟨⟨z,i⟩,hpa⟩:∃p,ps[0]?=some p:=⟨_,aB (by omega)⟩
 obtain⟨y,hya⟩:∃y,ys[0]?=some y:=⟨_,aB (by omega)⟩
 obtain⟨d0,hd0,hs0⟩:=Paired.get hP2.p hya;rw[getElem?_map,hpa] at hd0;cases hd0;obtain⟨u,rfl,hu2⟩:=xV hs0;refine zR (zH (yV (yX (zk yb (pv 4) zg (zx _)) (yy (zk yb (zl zY (pv 3) zg) zg (zx _))))) (zf (zA (zJ (ac (zl ye (pv 0) (zN (ac (zE zD (zE y6 (pv 1) zg nofun) zg nofun) zb))) (ac (zM z8 (pv 1) (zQ zg) zX) zb))))) zv) ?_;refine yr (fun σ' H'=>σ'=[some (.ref lt),some (.ref lp),some (.ref t),some (.int cell),some (.int way),some (.int (a:Nat))]/\H'=H2) ?_ (fun key=>?_);rotate_left
 ·exists _,rfl,rfl,_,rfl,?_
  refine wG (fun _=>?_) (fun _=>?_)
  ·exists _,rfl,_,_,rfl,rfl,zp4,rfl,_,rfl,?_
   refine wG (fun _=>?_) (fun _=>key _ _ ⟨rfl,rfl⟩);exists _,rfl,_,rfl,lp,_,0,.ref u,rfl,rfl,ze hP2.l,yP (j:=0) hya,u,_,1,.int i,rfl,rfl,hu2,rfl,ja,fun p1 hp1=>?_;rw[show([V.int i]:List V)=[i].map V.int from rfl]
   injections p1 hp1 J37 t37 gp1
   have sc37:=s2.trans t37;exists lt,p1,_,_,rfl,rfl,sc37 _ _ hlt,gp1,zK (by and_intros),fun p2 hp2=>?_
   rw[<- aE]
   injections p2 hp2 J38 t38 gp2
   have gp1:=t38 _ _ gp1;have sc38:=sc37.trans t38;exists _,rfl,_,rfl,lp,_,rfl,ze (sc38 _ _ hP.l),fun p3 hp3=>?_;rw[show wt ys (some 1) none=ys.drop 1 from yo (n:=1)]
   injections p3 hp3 J39 t39 gp3
   have gp1:=t39 _ _ gp1;have gp2:=t39 _ _ gp2;have sc39:=sc38.trans t39;exists z6,fun tp htp=>?_
   injections tp htp J40 t40 gtp
   have gp1:=t40 _ _ gp1;have gp2:=t40 _ _ gp2;have gp3:=t40 _ _ gp3;have sc40:=sc39.trans t40;exact q tp p2 p3 (ts++[i]) _ (ps.drop 1) _ sc40 gtp gp2 ⟨gp3,uK (yH sc40 hP.p) 1⟩ (fun x h=>hG' x (mem_of_mem_drop h)) (by and_intros) (by and_intros)
  ·exact yf (key _ _ ⟨rfl,rfl⟩)
 rintro σ3 H3 ⟨rfl,rfl⟩;exists _,zf (zA (zJ (ac (pv 0) (ac (cF cN hr (ac (pv 1) (ac (pv 2) (ac (pv 3) zb)))) zb)))),?_;exists _,rfl,_,rfl,_,rfl,_,rfl,lp,t,la,lb,cell,ys,ps,us,rows,bars,B,rfl,hP2,hG,by omega,l100,b8,b400,hT.same s2,fun l6 ys' ps' H6 s6 hP6 hG6 hL6=>?_
 exists z6,fun tp htp=>?_;have s26:=s2.trans s6
 injections tp htp J41 t41 gtp
 have sc41:=s26.trans t41;exact q tp lt l6 ts _ ps' _ sc41 gtp (sc41 _ _ hlt) (hP6.same t41) hG6 (by omega) hL6
end
end K26
namespace L2
open PySem PySem.Spec PyProof.Rows
structure SH(d:PyData)(W D:Nat):Prop where
 s:d.showable=true
 h:d.hasDict=false
 l:d.leavesShort 13=true
 w:d.weight<=W
 d:d.depth<=D
structure SHs(xs:List PyData)(W D:Nat):Prop where
 s:PyData.showableAll xs=true
 h:PyData.hasDictAll xs=false
 l:PyData.leavesShortAll 13 xs=true
 w:PyData.weightAll xs<=W
 d:PyData.depthAll xs<=D
theorem SHs.nil{W D:Nat}:SHs [] W D:=⟨rfl,rfl,rfl,zero_le _,zero_le _⟩
theorem SHs.cons{x:PyData}{xs:List PyData}{w W D:Nat}(h:SH x w D)(t:SHs xs W D):SHs (x::xs) (w+1+W) D:=
 ⟨by rw[PyData.showableAll,h.s,t.s];rfl,by rw[PyData.hasDictAll,h.h,t.h];rfl,by rw[PyData.leavesShortAll,h.l,t.l];rfl,by rw[PyData.weightAll];have:=h.w;have:=t.w;omega,by rw[PyData.depthAll];exact Nat.max_le.mpr ⟨h.d,t.d⟩⟩
theorem SH.lst{xs:List PyData}{W D:Nat}(h:SHs xs W D):SH (.list xs) W (D+1):=⟨by rw[PyData.showable,h.s],by rw[PyData.hasDict,h.h],by rw[PyData.leavesShort,h.l],by rw[PyData.weight];exact h.w,by rw[PyData.depth];have:=h.d;omega⟩
theorem SH.tup{xs:List PyData}{W D:Nat}(h:SHs xs W D):SH (.tuple xs) W (D+1):=⟨by rw[PyData.showable,h.s],by rw[PyData.hasDict,h.h],by rw[PyData.leavesShort,h.l],by rw[PyData.weight];exact h.w,by rw[PyData.depth];have:=h.d;omega⟩
theorem SH.mono{d:PyData}{W W' D D':Nat}(h:SH d W D)(hW:W<=W')(hD:D<=D'):SH d W' D':=⟨h.s,h.h,h.l,le_trans h.w hW,le_trans h.d hD⟩
theorem SH.int{n D:Nat}(h:n<1024):SH (.int (n:Nat)) 11 D:=by
 have lg:n.log2<=10:=by
  by_cases h0:n=0
  ·rw[h0];decide
  ·exact Nat.le_of_lt_succ ((Nat.log2_lt h0).mpr (by omega))
 have e:((n:Nat):Int).natAbs=n:=rfl;exists ?_,rfl,?_,?_,zero_le _
 ·rw[PyData.showable,e]
  exact aC (by omega)
 ·rw[PyData.leavesShort]
  exact aC (PyData.shown_int_le (by rw[e];omega))
 ·rw[PyData.weight,e]
  split
  ·exact zero_le _
  ·omega
theorem SH.all{α : Type}{g : α->PyData}{w D:Nat}:∀{xs:List α},(∀x∈xs,SH (g x) w D)->SHs (xs.map g) (xs.length * (w+1)) D
 | [],_=>SHs.nil
 | x::xs,h=>by
  have t:=SH.all (xs:=xs) fun y hy=>h y (mem_cons_of_mem _ hy);have c:=SHs.cons (h x mem_cons_self) t;rw[map_cons,length_cons,Nat.succ_mul,Nat.add_comm];exact c
theorem SH.len{d:PyData}{W D:Nat}(h:SH d W D)(hW:W<=2 ^ 20):d.shown.length<=sizeLine:=PyData.shown_fits (B:=13) (by decide) (by decide) h.l (le_trans h.w hW)
theorem zbR(ds:List Dt):zbS ds=ds.map pyD:=by
 induction ds with
 | nil=>rfl
 | cons d ds ih=>rw[zbS,ih];rfl
end L2
namespace K26
open PySem L2 PyProof.Rows
theorem zja{K:Frag}{ok:Addr->Prop}{H:Hp}{x:V}{e:En}(h:zw K ok H 2 x (enD e)):zm0 K ok H x e:=by
 cases e with
 | one wd n=>
  obtain⟨a,xs,rfl,hS,r⟩:=yE h;cases r with
  | cons h1 r=>
   cases r with
   | cons h2 r=>
    cases r;obtain rfl:=yK h1;obtain rfl:=vK h2;exact⟨a,rfl,hS⟩
 | many wd ns=>
  obtain⟨a,xs,rfl,hS,r⟩:=yE h;cases r with
  | cons h1 r=>
   cases r with
   | cons h2 r=>
    cases r;obtain rfl:=yK h1;rcases h2 with h2|⟨a2,xs2,ds2,e1,e2,_⟩|⟨a2,xs2,ds2,rfl,e2,o,hl,r2⟩
    ·rename_i b
     cases b <;> exact h2.elim
    ·cases e2
    ·cases e2
     exact⟨a,a2,rfl,hS,o,by rw[hl,jb r2]⟩
 | free=>
  obtain⟨a,xs,rfl,hS,r⟩:=yE h;cases r with
  | cons h1 r=>
   cases r;obtain rfl:=yK h1;exact⟨a,rfl,hS⟩
theorem zhv{M:Nat}{i:Nat}(hi:i<rows.length)(nd:zs.Nodup):zcp rows M (fpZ zs) i=enD (enF rows M zs i):=by
 unfold zcp enF;split
 ·show Dt.tup [.str "places",.lst ((L2.xo (plN rows) (M - plN rows)).map Dt.int)]=Dt.tup [.str "places",.lst ((qx (plL rows M)).map Dt.int)]
  unfold qx plL L2.xo;simp only[map_map];rfl
 ·split
  ·rfl
  ·rw[aB hi]
   show Dt.tup ((uy rows[i] i M (kvP (fpZ zs))).map vD)=enD (if xx rows[i].k=true/\i<M then .one "place" i else if ym rows[i].k=true/\rows[i].z∈zs then .one "name" (zs.findIdx fun y=>decide (y=rows[i].z)) else .free)
   unfold uy;by_cases h1:xx rows[i].k=true/\i<M
   ·rw[aK h1,aK h1];rfl
   ·rw[aJ h1,aJ h1]
    by_cases h2:ym rows[i].k=true/\rows[i].z∈zs
    ·have h3:ym rows[i].k=true/\(zS (kvP (fpZ zs)) (.inr rows[i].z)).isSome=true:=⟨h2.1,by rw[uS];exact aC h2.2⟩
     rw[aK h3,aK h2];have hv:=(qK zs 0).mp (zbt.mpr nd) _ _ (zkM h2.2);rw[hv,Nat.zero_add];rfl
    ·have h3:¬(ym rows[i].k=true/\(zS (kvP (fpZ zs)) (.inr rows[i].z)).isSome=true):=fun h=>h2 ⟨h.1,by have:=h.2;rw[uS] at this;exact of_decide_eq_true this⟩
     rw[aJ h3,aJ h2];rfl
theorem zaw(nd:zs.Nodup):(uj rows (fpZ zs)).Sublist (List.range zs.length):=by
 unfold uj;rw[zfe nd,List.range_eq_range',<- List.zipIdx_map_snd 0 zs];exact List.Sublist.map _ filter_sublist
theorem zhT{K:Frag}{H:Hp}{u l:Addr}{vs ys zs:List V}(h:SqT K H u vs)(hl:H l=some (.lst ys)):SqT K (upd H l (.lst zs)) u vs:=by
 rcases h with (h|⟨o,h⟩)|h
 ·exact .inl (.inl (by rw[zi (fun e=>by rw[e,hl] at h;cases h)];exact h))
 ·exact .inl (.inr ⟨o,by rw[zi (fun e=>by rw[e,hl] at h;cases h)];exact h⟩)
 ·exact .inr h
def MX(K:Frag)(H0:Hp)(le:Addr)(B:Nat)(H:Hp)(x:V):Prop:=x=.non\/∃u,x=.ref u/\((∃(wd:Str) (n:Nat),SqT K H u [.str wd,.int (n:Nat)]/\(wd="place"\/wd="name"))\/SqT K H u [.str "free"]\/∃wd l ys,SqT K H u [.str wd,.ref l]/\(wd="places"\/wd="names")/\H0 l=none/\l≠le/\H l=some (.lst ys)/\ys.length<=B)
theorem MX.map{K:Frag}{H0 H H':Hp}{le:Addr}{B B':Nat}{x:V}(h:MX K H0 le B H x)(t:∀u vs,SqT K H u vs->SqT K H' u vs)(tl:∀l ys,l≠le->H l=some (.lst ys)->ys.length<=B->∃ys',H' l=some (.lst ys')/\ys'.length<=B'):MX K H0 le B' H' x:=by
 rcases h with h|⟨u,e,⟨wd,n,a,b⟩|a|⟨wd,l,ys,a,b,c,d,f,g⟩⟩
 ·exact .inl h
 ·exact .inr ⟨u,e,.inl ⟨wd,n,t _ _ a,b⟩⟩
 ·exact .inr ⟨u,e,.inr (.inl (t _ _ a))⟩
 ·obtain⟨ys',f',g'⟩:=tl l ys d f g
  exact .inr ⟨u,e,.inr (.inr ⟨wd,l,ys',t _ _ a,b,c,d,f',g'⟩)⟩
theorem j8(t:zn H0 H)(h:H0 x=none):zn H0 (upd H x o):=fun b u e=>by rw[zi (zd e h)];exact t _ _ e
inductive zcK(K:Frag)(c:C5)(CF:Addr)(vs:List V)(H:Hp)(Q:VK)(E:XK):Prop|mk(f a:Addr)(rows:List Rw)(bars:List Str)(ct:List yQ):vs=[.ref f,.ref a]->vy c CF H f rows bars->wR K H a ct->(∀H',zn H H'->Q (.bl (ul rows bars ct).isEmpty) H')->zcK K c CF vs H Q E
inductive zbG(K:Frag)(vs:List V)(H:Hp)(Q:VK)(E:XK):Prop|mk(H0 l xs:_):vs=[.ref l]->H0 l=none->zn H0 H->H l=some (.lst xs)->xs.length<=100->(∀x∈xs,MX K H0 l 100 H x/\x≠.non)->(∀H',zn H0 H'->Q .non H')->zbG K vs H Q E
structure MW(K:Frag)(H0 H:Hp)(le:Addr)(xs:List V)(B:Nat):Prop where
 s:zn H0 H
 l:H le=some (.lst xs)
 x:∀x∈xs,MX K H0 le B H x/\x≠.non
theorem MW.same{K:Frag}{H0 H H':Hp}{le:Addr}{xs:List V}{B:Nat}(h:MW K H0 H le xs B)(s:zn H H'):MW K H0 H' le xs B:=
 ⟨h.s.trans s,s _ _ h.l,fun x hx=>⟨(h.x x hx).1.map (fun _ _ z=>s.sqT z) fun l ys _ hl g=>⟨ys,s _ _ hl,g⟩,(h.x x hx).2⟩⟩
theorem MW.more{K:Frag}{H0 H:Hp}{le:Addr}{xs:List V}{B:Nat}(h:MW K H0 H le xs B):MW K H0 H le xs (B+1):=
 ⟨h.s,h.l,fun x hx=>⟨(h.x x hx).1.map (fun _ _ z=>z) fun l ys _ hl g=>⟨ys,hl,by omega⟩,(h.x x hx).2⟩⟩
theorem MW.push{K:Frag}{H0 H:Hp}{le l:Addr}{xs ys:List V}{B:Nat}{v:V}(h:MW K H0 H le xs B)(hl:H l=some (.lst ys))(hn:H0 l=none)(ne:l≠le)(g:ys.length<=B):MW K H0 (upd H l (.lst (ys++[v]))) le xs (B+1):=by
 exists j8 h.s hn,by rw[zi (Ne.symm ne)];exact h.l,fun x hx=>⟨(h.x x hx).1.map (fun _ _ z=>zhT z hl) fun l' ys' _ hl' g'=>?_,(h.x x hx).2⟩
 by_cases e:l'=l
 ·exact⟨_,by rw[e];exact za,by rw[aG,length_singleton];omega⟩
 ·exact⟨ys',by rw[zi e];exact hl',by omega⟩
section
variable {mg:Str->Option Value}
theorem zls:zt ["_law_found","_law_entry"] ["_law_found"] (zj za7):=fsc
theorem zeX{P:Program}{w:World}{K:Frag}{base:Heap}{f:Addr}{fd:FuncData}(F:Fun K "_law_spoilt" "_law_spoilt" za7 f fd):zC P w K mg base CX0 1 f fd ["_law_found"] (zbG K):=by
 refine F.ok zls (fun cdv A outer s H vs Q E hr h=>?_);obtain⟨H0,le,ys,rfl,hle,s0,hl,l100,hx0,q⟩:=h;have M1:MW K H0 H le ys 100:=⟨s0,hl,hx0⟩;refine zR (xk PassesOwn.never rfl (yw (pv 0)) (zp (i:=1) zls.nd rfl ⋯) jJ) ?_;exists _,rfl,le,rfl,⟨_,ze M1.l⟩,w6 (K:=K) (a:=le) (xs:=ys) (fun i σ H'=>∃v8,σ=[some (.ref le),v8]/\MW K H0 H' le ys (100+i)) ⟨_,rfl,M1⟩ (fun i σ H' _ ⟨_,_,M⟩=>ze M.l) ?_ ?_
 ·rintro j x σ H7 hx ⟨v8,rfl,M⟩
  exists _,zf (zH (zk z7 (zE zD (pv 1) zg nofun) (zN (ac zm (ac zm zb))) (by with_unfolding_all rfl)) (zf (zP (y8 PySem.F.plainAttrs_list PySem.F.slot_list_append PySem.F.type_list_append zU (zE zD (pv 1) zg nofun) (ac zg zb)))) zv),?_
  obtain⟨hmx,nn⟩:=M.x x (aH hx);have hjl:j<ys.length:=(List.getElem?_eq_some_iff.mp hx).1;have go:∀{u:Addr}{wd:Str}{vs:List V},SqT K H7 u (.str wd::vs)->¬(wd="places"\/wd="names")->∀l,H7 l=none->decide (wd∈(["places","names"]:List Str))=false/\MW K H0 (upd H7 l (.lst [.str "places",.str "names"])) le ys (100+(j+1)):=fun {u wd vs} _ hn l hl=>⟨aD fun h=>hn (by simpa using h),(M.same (zc hl _)).more⟩
  have gl:∀l,upd H7 l (.lst [.str "places",.str "names"]) l=some (.lst ((["places","names"]:List Str).map V.str)):=fun l=>za;rcases hmx with rfl|⟨u,rfl,hh⟩
  ·exact absurd rfl nn
  rcases hh with ⟨wd,m,hu,hw⟩|hu|⟨wd,l',zs,hu,hw,hl0,hne,hl',hlen⟩
  ·exists _,rfl,u,_,0,.str wd,rfl,rfl,hu,rfl,z6,fun l hl=>?_
   obtain⟨k1,k2⟩:=go hu (by rcases hw with rfl|rfl <;> decide +kernel) l hl
   exists l,_,rfl,.inl (ze (gl l)),rfl,yN,_,rfl,?_;rw[aJ zft,xp,k1];refine yf ?_;exact⟨_,rfl,k2⟩
  ·exists _,rfl,u,_,0,.str "free",rfl,rfl,hu,rfl,z6,fun l hl=>?_
   obtain⟨k1,k2⟩:=go hu (by symm) l hl
   exists l,_,rfl,.inl (ze (gl l)),rfl,yN,_,rfl,?_;rw[aJ zft,xp,k1];refine yf ?_;exact⟨_,rfl,k2⟩
  ·exists _,rfl,u,_,0,.str wd,rfl,rfl,hu,rfl,z6,fun l hl=>?_
   have sl:=zc hl (.lst [.str "places",.str "names"]);exists l,_,rfl,.inl (ze (gl l)),rfl,yN,_,rfl,?_;rw[aJ zft,xp];refine dT (by simpa using hw) ?_
   have M2:=M.same sl;exists _,rfl,u,_,1,.ref l',rfl,rfl,sl.sqT hu,rfl,.inl ⟨rfl,_,ze (sl _ _ hl')⟩,l',_,_,rfl,rfl,sl _ _ hl',zF (by omega),?_
   exact⟨_,rfl,M2.push (sl _ _ hl') hl0 hne hlen⟩
 rintro σ H7 ⟨v8,rfl,M⟩;refine zR (zP (zgB PySem.F.plainAttrs_list PySem.F.slot_list_reverse PySem.F.type_list_reverse zdl (pv 0))) ?_;exists _,rfl,.inl ⟨rfl,_,ze M.l⟩,le,_,rfl,rfl,M.l,?_;dsimp only;exists _,zf (zP (y8 PySem.F.plainAttrs_list PySem.F.slot_list_append PySem.F.type_list_append zU (pv 0) (ac zdd zb))),?_;exists _,rfl,.inl ⟨rfl,_,ze za⟩,le,_,_,rfl,rfl,za,zF (by rw[List.length_reverse];omega),?_
 exact q _ (j8 (j8 M.s hle) hle)
theorem zj2:zt ["form","call"] ["form","call"] (zj zge):=fsc
theorem ziI{P:Program}{w:World}{K:Frag}{base:Heap}{f CF:Addr}{fd:FuncData}{c:C5}{g1:Addr}{d1:FuncData}(F:Fun K "fits" "fits" zge f fd)(c1:zG P w K mg base 5 "misfits" g1 d1 ["form","call"] (zd4 K c CF)):zC P w K mg base CX0 6 f fd ["form","call"] (zcK K c CF):=by
 refine F.ok zj2 (fun cdv A outer s H vs Q E hr h=>?_);obtain⟨f,a,rows,bars,ct,rfl,hF,hC,q⟩:=h;have hU:=hr.units;have hU0:=hr.units0;exists _,zf (zA (xD (uF (qr hU) (qt hU0)) (cF c1 hr (ac (pv 0) (ac (pv 1) zb))) (zN zb) (zx _))),?_;exists _,rfl,_,rfl,f,a,rows,bars,ct,rfl,hF,hC,fun l H1 s1 ⟨us,nl,el,ml⟩=>?_;exists xK,fun l2 hl2=>?_;have s2:=zc hl2 (.lst []);have lu:=ml.length;cases e:ul rows bars ct with
 | nil=>
  rw[e] at ml;cases ml;refine .inl ⟨l,l2,0,.lst [],fun _=>True,fun _=>True,rfl,rfl,by decide,zw.lst True.intro (s2 _ _ el) .nil,zw.lst True.intro za .nil,?_⟩
  have:=q _ (s1.trans s2)
  rw[e] at this;exact this
 | cons x xs=>
  refine .inr ⟨l,l2,_,_,rfl,rfl,s2 _ _ el,za,(by rw[aA,lu,e];exact Nat.succ_ne_zero _),?_⟩
  have:=q _ (s1.trans s2)
  rw[e] at this;exact this
theorem zay(cell:Int):∀(n:Nat) (ct:List yQ) (ts:List Int) (ps:List (Str×Int)),(wg cell n ct ts ps).1.length<=ct.length+n
 | 0,_,_,_=>aF _
 | n+1,ct,ts,ps=>by
  unfold wg;split
  ·have:=zay cell n (ct++[(yI (xm cell ct.length) ts ps).1]) (yI (xm cell ct.length) ts ps).2.1 (yI (xm cell ct.length) ts ps).2.2
   rw[aG,length_singleton] at this;omega
  ·exact Nat.le_add_right _ _
theorem zdx(cell:Int)(ts:List Int)(ps:List (Str×Int)):(wl cell ts ps).length<=100:=by
 have h:=zay cell 26 [] ts ps;unfold wl zak;rw[length_nil] at h;split
 ·rw[aG];simp only[length_cons,length_nil];omega
 ·omega
theorem ze7(c:List yQ)(it:yQ):yq (c++[it])=yq c++itT it:=by unfold yq;simp
theorem ze8(c:List yQ)(it:yQ):y9 (c++[it])=y9 c++itP it:=by unfold y9;simp
theorem zhR(m:Int)(ts:List Int)(ps:List (Str×Int)):itT (yI m ts ps).1++(yI m ts ps).2.1=ts:=by
 unfold yI;split
 next h=>
  cases ts with
  | nil=>exact absurd rfl h.2
  | cons t ts=>rfl
 ·split
  ·exact take_append_drop _ _
  ·split <;> rfl
theorem zhS(m:Int)(ts:List Int)(ps:List (Str×Int)):itP (yI m ts ps).1++(yI m ts ps).2.2=ps:=by
 unfold yI;split
 ·rfl
 ·split
  ·rfl
  ·split
   next h=>
    cases ps with
    | nil=>exact absurd rfl h.2
    | cons p ps=>rfl
   ·exact take_append_drop _ _
theorem qA(cell:Int):∀(n:Nat) (ct:List yQ) (ts:List Int) (ps:List (Str×Int)),yq (wg cell n ct ts ps).1++(wg cell n ct ts ps).2.1=yq ct++ts/\y9 (wg cell n ct ts ps).1++(wg cell n ct ts ps).2.2=y9 ct++ps
 | 0,_,_,_=>⟨rfl,rfl⟩
 | n+1,ct,ts,ps=>by
  unfold wg;split
  ·obtain⟨h1,h2⟩:=qA cell n (ct++[(yI (xm cell ct.length) ts ps).1]) (yI (xm cell ct.length) ts ps).2.1 (yI (xm cell ct.length) ts ps).2.2
   rw[h1,h2,ze7,ze8,append_assoc,append_assoc,zhR,zhS];exact⟨rfl,rfl⟩
  ·exact⟨rfl,rfl⟩
theorem jv(cell:Int)(ts:List Int)(ps:List (Str×Int)):yq (wl cell ts ps)=ts/\y9 (wl cell ts ps)=ps:=by
 obtain⟨h1,h2⟩:=qA cell 26 [] ts ps;unfold wl zak;generalize wg cell 26 [] ts ps=r at h1 h2;split
 ·exists Eq.trans ?_ h1,Eq.trans ?_ h2
  ·unfold yq
   simp [itT]
  ·unfold y9
   simp [itP]
 next h=>
  have e1:r.2.1=[]:=eq_nil_of_length_eq_zero (by omega)
  have e2:r.2.2=[]:=eq_nil_of_length_eq_zero (by omega)
  rw[e1,append_nil] at h1;rw[e2,append_nil] at h2;exact⟨h1,h2⟩
theorem wR.same{K:Frag}{H H':Hp}{a:Addr}{ct:List yQ}(h:wR K H a ct)(s:zn H H'):wR K H' a ct:=by
 obtain⟨⟨xs,h1,h2⟩,l1,l2⟩:=h;exact⟨⟨xs,s.seq h1,zr (fun _ _ z=>z.same s) h2⟩,l1,l2⟩
theorem zfl(v:Addr)(us:List Addr):wt ((v::us).map V.ref) none (some 1)=[.ref v]:=by
 unfold wt;rw[show(1:Int)=((1:Nat):Int) from rfl,HT.zl9,HT.zlu,drop_zero,Nat.sub_zero,map_cons,length_cons,min_eq_left (by omega)]
 rfl
def msD(m:Str×Nat):Dt:=.tup [.str m.1,.int (m.2:Nat)]
theorem uO{K:Frag}{ok:Addr->Prop}{H:Hp}{n:Nat}:∀{us:List Addr}{ms:List (Str×Nat)},xy H us ms->Paired (zw K ok H (n+1)) (us.map V.ref) (ms.map msD)
 | _,_,.nil=>.nil
 | _,_,.cons h t=>.cons (.tup (zq h) (.cons .str (.cons .int .nil))) (uO t)
structure Kp(H1 H2:Hp)(lh:Addr)(HA H':Hp):Prop where
 k:∀b o,HA b=some o->(H1 b≠none\/b=lh\/H2 b=none\/∀ys,o≠.lst ys)->H' b=some o
 l:∀b ys,HA b=some (.lst ys)->∃ys',H' b=some (.lst ys')
theorem Kp.refl:Kp H1 H2 lh HA HA:=⟨fun b o e _=>e,fun b ys e=>⟨ys,e⟩⟩
theorem Kp.more(h:Kp H1 H2 lh HA H')(s:zn H' H''):Kp H1 H2 lh HA H'':=⟨fun b o e c=>s _ _ (h.k b o e c),fun b ys e=>by obtain⟨ys',e'⟩:=h.l b ys e;exact⟨ys',s _ _ e'⟩⟩
theorem Kp.clear(h:Kp H1 H2 lh HA H')(n1:H1 a=none)(n2:a≠lh)(n3:H2 a≠none)(e:HA a=some (.lst ys)):Kp H1 H2 lh HA (upd H' a (.lst [])):=by
 exists fun b o eb c=>?_,fun b zs eb=>?_
 ·by_cases hb:b=a
  ·subst hb
   rw[e] at eb;rcases c with c|c|c|c
   ·exact absurd n1 c
   ·exact absurd c n2
   ·exact absurd c n3
   ·cases eb;exact absurd rfl (c ys)
  ·rw[zi hb];exact h.k b o eb c
 ·by_cases hb:b=a
  ·subst hb;exact⟨[],za⟩
  ·obtain⟨zs',e'⟩:=h.l b zs eb
   exact⟨zs',by rw[zi hb];exact e'⟩
theorem Kp.sqT{K:Frag}{H1 H2:Hp}{lh u:Addr}{HA H':Hp}{vs:List V}(h:Kp H1 H2 lh HA H')(z:SqT K HA u vs):SqT K H' u vs:=by
 rcases z with (z|⟨o,z⟩)|z
 ·exact .inl (.inl (h.k _ _ z (.inr (.inr (.inr fun ys e=>by cases e)))))
 ·exact .inl (.inr ⟨o,h.k _ _ z (.inr (.inr (.inr fun ys e=>by cases e)))⟩)
 ·exact .inr z
theorem Kp.says{K:Frag}{H1 H2 H5:Hp}{lh:Addr}{HA H':Hp}{n:Nat}{x:V}{d:Dt}(h:Kp H1 H2 lh HA H')(s:zn H2 H5)(z:zw K (fun a=>H5 a=none) HA n x d):zw K T' H' n x d:=
 z.frame (fun a xs q=>h.sqT q) fun a xs oa q=>⟨True.intro,h.k _ _ q (.inr (.inr (.inl (s.free oa))))⟩
theorem zdj{wd:Str}(h1:wd≠"row")(h2:wd≠"book"):inV (.str wd) [.str "row",.str "book"]=false:=by
 rw[show([V.str "row",V.str "book"]:List V)=(["row","book"]:List Str).map V.str from rfl,xp];exact aD fun h=>by rcases List.mem_cons.mp h with h|h;exact h1 h;exact h2 (List.mem_singleton.mp h)
inductive zlo(K:Frag)(c:C5)(CF:Addr)(vs:List V)(H:Hp)(Q:VK)(E:XK):Prop|mk(fo t la lb lt lp:Addr)(cell:Int)(ts:List Int)(ys:List V)(ps:List (Str×Int))(us:List Addr)(rows:List Rw)(bars:List Str)(B:Nat):vs=[.ref fo,.ref t,.ref lt,.ref lp,.int cell]->vy c CF H fo rows bars->Tld H t la lb us rows bars->H lt=some (.lst (ts.map V.int))->PL K H lp ys ps->GP B ps->ts.length<=100->ps.length<=100->(∀H',zn H H'->Q (.bl true) H')->zlo K c CF vs H Q E
theorem zjz:([Str.ofString "_law_name",Str.ofString "_law_thing_here"]:List Str).Nodup:=by symm
theorem zbO:zt ["_law_form_here","_law_told","_law_things","_law_pairs","_law_cell_here","_law_call","_law_handed","_law_due","_law_found","_law_first","_law_again","_law_item"] ["_law_form_here","_law_told","_law_things","_law_pairs","_law_cell_here"] (zj zbg):=fsc
theorem zlG{P:Program}{w:World}{K:Frag}{base:Heap}{f CF:Addr}{fd:FuncData}{c:C5}{g1 g2 g3 g4 g5 g6:Addr}{d1 d2 d3 d4 d5 d6:FuncData}(F:Fun K "_law_beside_right" "_law_beside_right" zbg f fd)(U:zdN mg)(cI:zG P w K mg base 2 "_law_items" g1 d1 ["_law_things","_law_pairs","_law_cell_here"] (zaZ K))(cC:zG P w K mg base 1 "_law_copied" g2 d2 ["_law_call"] (zbI K))(cL:zG P w K mg base 2 "_law_misfits" g3 d3 ["_law_told","_law_bars","_law_many","_law_names"] zfQ)(cM:zG P w K mg base 5 "misfits" g4 d4 ["form","call"] (zd4 K c CF))(cF':zG P w K mg base 6 "fits" g5 d5 ["form","call"] (zcK K c CF))(cP:zG P w K mg base 6 "_law_paper" g6 d6 ["_law_form_here","_law_call"] (zbH K c CF)):zC P w K mg base CX0 7 f fd ["_law_form_here","_law_told","_law_things","_law_pairs","_law_cell_here"] (zlo K c CF):=by
 refine F.ok zbO (fun cdv A outer s H vs Q E hr h=>?_);obtain⟨fo,t,la,lb,lt,lp,cell,ts,ys,ps,us,rows,bars,B,rfl,hF,hT,hlt,hP,hG,t100,p100,q⟩:=h;have hr1:yn 1 _:=hr.mono (by decide)
 have hr2:yn 2 _:=hr.mono (by decide)
 have hr5:yn 5 _:=hr.mono (by decide)
 have hU:=hr.units;have hU0:=hr.units0;have lyp:ys.length=ps.length:=by rw[hP.p.length,aA]
 refine zR (zu (i:=5) zbO.nd rfl ⋯ (cF cI hr2 (ac (pv 2) (ac (pv 3) (ac (pv 4) zb))))) ?_;exists _,rfl,_,rfl,_,rfl,lt,lp,cell,ys,ts,ps,rfl,hlt,hP.l,hP.p,by omega,by omega,fun lc zs H1 s1 nlc hlc hzs=>?_
 obtain⟨cT1,cP1⟩:=jv cell ts ps;have lct:=zdx cell ts ps;have hzs:Paired (zw K T' H1 3) zs ((wl cell ts ps).map xf):=zr (fun _ _ z=>x6 (fun _ _ _=>True.intro) z) hzs;generalize wl cell ts ps=ct at cT1 cP1 lct hzs;have cN1:zT ct=ps.map (·.1):=by unfold zT;rw[cP1]
 have cM1:ul rows bars ct=xB rows bars ts.length (ps.map (·.1)):=by show xB rows bars (yq ct).length (zT ct)=_;rw[cT1,cN1]
 have C1:wR K H1 lc ct:=⟨⟨zs,ze hlc,hzs⟩,by rw[cT1];omega,by rw[cP1];omega⟩
 dsimp only[zZ];refine zR (zu (i:=6) zbO.nd rfl ⋯ (cF cC hr1 (ac (pv 5) zb))) ?_;exists _,rfl,lc,ct,zs,rfl,ze hlc,hzs,by omega,fun lh ks H2 s2 nlh hlh hks=>?_
 have C2:wR K H2 lh ct:=⟨⟨ks,ze hlh,zr (fun _ _ z=>x6 (fun _ _ _=>True.intro) z) hks⟩,by rw[cT1];omega,by rw[cP1];omega⟩
 have s02:=s1.trans s2;have hT2:=hT.same s02;obtain⟨ht,hla,hu,hlb,V1⟩:=id hT2;dsimp only[zZ];refine zR (zu (i:=7) zbO.nd rfl ⋯ (cF cL hr2 (ac (zE zD (pv 1) zg nofun) (ac (zE zD (pv 1) zg nofun) (ac (cB zI U.len PySem.boot_len (ac (pv 2) zb)) (ac (xQ [] ["_law_name","_law_thing_here"] [none,none] rfl ⟨rfl,rfl,rfl,rfl⟩ (yw (pv 3)) (xu (K:=K) (n:=2) 0 1) rfl rfl rfl
   (fun pins fp s H C=>⟨yz rfl (zy (zp (i:=0) zjz rfl ⋯ (.inr rfl)) (zy (zp (i:=1) zjz rfl ⋯ (.inr rfl)) yg)),xc,pv 0⟩)) zb)))))) ?_
 exists _,rfl,t,_,0,.ref la,rfl,rfl,zq ht,rfl,_,rfl,t,_,1,.ref lb,rfl,rfl,zq ht,rfl,_,rfl,lt,_,rfl,.inl (ze (s02 _ _ hlt)),?_;rw[aA];have hP2:=hP.same s02;exists _,rfl,lp,rfl,⟨_,ze hP2.l⟩,fun D hD=>?_;refine zha (K:=K) (xs:=ys) ps (fun _=>true) (fun p=>V.str p.1) hD (ze hP2.l) (by omega) (by omega) (fun j x y H' Nn S hx hy sH nn1 ss1=>?_) (fun H3 s3 hD3=>?_)
 ·obtain⟨d,hd,hyy⟩:=Paired.get hP2.p hx
  obtain⟨pr',hpr,rfl⟩:=zb2 hd;rw[hpr] at hy;cases hy;obtain⟨b,rfl,hb⟩:=xV (hyy.same sH);exists b,_,rfl,hb,rfl,_,_,rfl,_,_,rfl,rfl,?_;exact⟨fun _=>⟨_,rfl,nn1 _ (zn.refl _) rfl⟩,fun e=>Bool.noConfusion e⟩
 rw[List.filter_eq_self.mpr nofun] at hD3;have hD3:H3 D=some (.lst ((ps.map (·.1)).map V.str)):=by rw[hD3,map_map];rfl
 exists la,lb,D,ts.length,us,rows,bars,ps.map (·.1),rfl,s3 _ _ hla,z9 s3 hu,V1,s3 _ _ hlb,hD3,fun z hz=>?_,by rw[aA];omega,t100,fun ld H4 s4 hnd=>?_
 ·obtain⟨p,hp,rfl⟩:=List.mem_map.mp hz
  intro e
  have:=(hG p hp).1
  rw[e] at this;exact absurd this (by decide)
 obtain⟨ud,nld,hld,hud⟩:=hnd;have s24:=s3.trans s4;dsimp only[zZ];refine zR (zu (i:=8) zbO.nd rfl ⋯ (cF cM hr5 (ac (pv 0) (ac (pv 6) zb)))) ?_;exists _,rfl,_,rfl,fo,lh,rows,bars,ct,rfl,hF.same (s02.trans s24),C2.same s24,fun lf H5 s5 hnf=>?_;obtain⟨uf,nlf,hlf,huf⟩:=hnf;rw[cM1] at huf;generalize hms:xB rows bars ts.length (ps.map (·.1))=ms at hud huf cM1;have s25:=s24.trans s5;have s05:=s02.trans s25;have hS7:∀{H':Hp},zn H5 H'->zw K T' H' 2 (.ref ld) (.lst (ms.map msD)):=fun sx=>zw.lst True.intro ((s5.trans sx) _ _ hld) (uO (zr (fun _ _ z=>(s5.trans sx) _ _ z) hud));have hS8:∀{H':Hp},zn H5 H'->zw K T' H' 2 (.ref lf) (.lst (ms.map msD)):=fun sx=>zw.lst True.intro (sx _ _ hlf) (uO (zr (fun _ _ z=>sx _ _ z) huf));dsimp only[zZ];refine zR (zH (yV (vB (zk (vO hU) (pv 8) (pv 7) (zx _)) (vi (zk zei (cF cF' hr (ac (pv 0) (ac (pv 6) zb))) (xD (uF (qr hU) (qt hU0)) (pv 7) (zN zb) (zx _)) (zx _))))) (zf xC) zv) ?_;refine yr (fun σ' H'=>σ'=[some (.ref fo),some (.ref t),some (.ref lt),some (.ref lp),some (.int cell),some (.ref lc),some (.ref lh),some (.ref ld),some (.ref lf),none,none,none]/\zn H5 H') ?_ (fun key=>?_);rotate_left
 ·exists _,rfl,_,rfl,lf,ld,1,_,fun _=>True,fun _=>True,rfl,rfl,by decide,hS8 (zn.refl _),hS7 (zn.refl _),_,rfl,?_
  refine yf ?_;exists _,rfl,_,rfl,fo,lh,rows,bars,ct,rfl,hF.same s05,C2.same s25,fun H6 s6=>?_;rw[cM1];exists _,rfl,xK,fun l0 hl0=>?_
  injections l0 hl0 H7 s7 e7
  have s57:=s6.trans s7;have lud:ud.length=ms.length:=hud.length;have h7:=hS7 s57;have hl7:=(s5.trans s57) _ _ hld;cases ms with
  | nil=>
   refine .inl ⟨ld,l0,0,.lst [],fun _=>True,fun _=>True,rfl,rfl,by decide,?_,.lst True.intro e7 .nil,rfl,_,rfl,?_⟩
   ·cases hud;exact .lst True.intro hl7 .nil
   ·exact yf (key _ _ ⟨rfl,s57⟩)
  | cons m ms'=>
   refine .inr ⟨ld,l0,_,_,rfl,rfl,hl7,e7,(by rw[aA,lud,length_cons];exact Nat.succ_ne_zero _),rfl,_,rfl,?_⟩
   exact yf (key _ _ ⟨rfl,s57⟩)
 rintro σ7 H7 ⟨rfl,s57⟩;have s27:=s25.trans s57;have s07:=s05.trans s57;refine zR (zu (i:=9) zbO.nd rfl ⋯ (cF cP hr (ac (pv 0) (ac (pv 6) zb)))) ?_;exists _,rfl,_,rfl,fo,lh,rows,bars,ct,rfl,hF.same s07,C2.same s27,fun t1 H8 s8 hp1=>?_;rw[cT1,cN1] at hp1;dsimp only[zZ];refine zR (zu (i:=10) zbO.nd rfl ⋯ (cF cP hr (ac (pv 0) (ac (pv 5) zb)))) ?_;have s08:=s07.trans s8;exists _,rfl,_,rfl,fo,lc,rows,bars,ct,rfl,hF.same s08,C1.same (s2.trans (s27.trans s8)),fun t2 H9 s9 hp2=>?_;rw[cT1,cN1] at hp2;have s09:=s08.trans s9;have s79:=s8.trans s9;have s29:=s27.trans s79;have hp1:=hp1.same s9;have hp2:zw K (fun a=>H7 a=none) H9 4 (.ref t2) (zgF rows bars ts.length (ps.map (·.1))):=x6 (fun b o _=>s8.free o) hp2;have hu9:xy H9 ud ms:=zr (fun _ _ z=>(s5.trans (s57.trans s79)) _ _ z) hud;have hf9:xy H9 uf ms:=zr (fun _ _ z=>(s57.trans s79) _ _ z) huf;have hld9:=(s5.trans (s57.trans s79)) _ _ hld;have hlf9:=(s57.trans s79) _ _ hlf;dsimp only[zZ];refine zR (xk PassesOwn.never rfl (yw (pv 6)) (zp (i:=11) zbO.nd rfl ⋯) jJ) ?_;have hlh9:=s29 _ _ hlh;exists _,rfl,lh,rfl,⟨_,ze hlh9⟩,w6 (K:=K) (a:=lh) (xs:=ks) (fun i σ H'=>∃v11,σ=[some (.ref fo),some (.ref t),some (.ref lt),some (.ref lp),some (.int cell),some (.ref lc),some (.ref lh),some (.ref ld),some (.ref lf),some (.ref t1),some (.ref t2),v11]/\Kp H1 H2 lh H9 H') ⟨_,rfl,Kp.refl⟩ (fun i σ H' _ ⟨_,_,kp⟩=>ze (kp.k _ _ hlh9 (.inr (.inl rfl)))) ?_ ?_
 ·rintro i x σ H' hx ⟨v11,rfl,kp⟩
  obtain⟨d,hd,hxs⟩:=Paired.get hks hx;obtain⟨it,hit,rfl⟩:=zck hd;exists _,zf (zH (zk z7 (zE zD (pv 11) zg nofun) (zN (ac zm (ac zm zb))) (by with_unfolding_all rfl)) (zf (zP (zgB PySem.F.plainAttrs_list PySem.F.slot_list_clear PySem.F.type_list_clear zg8 (zE zD (pv 11) zg nofun)))) zv),?_
  obtain⟨u,wd,wE,rfl,hu2,hcase⟩:∃u wd wE,x=.ref u/\SqT K H2 u (.str wd::wE)/\((wd≠"row"/\wd≠"book")\/((wd="row"\/wd="book")/\∃a zs,wE=[.ref a]/\H1 a=none/\a≠lh/\H2 a=some (.lst zs))):=by
   cases it with
   | one n=>
    obtain⟨a,xs,ex,hS,hp⟩:=yE hxs;cases hp with
    | cons p1 pr=>have e1:=yK p1;subst e1;exact⟨a,_,_,ex,hS,.inl ⟨by symm,by symm⟩⟩
   | named z n=>
    obtain⟨a,xs,ex,hS,hp⟩:=yE hxs;cases hp with
    | cons p1 pr=>have e1:=yK p1;subst e1;exact⟨a,_,_,ex,hS,.inl ⟨by symm,by symm⟩⟩
   | row ns=>
    obtain⟨a,xs,ex,hS,hp⟩:=yE hxs;cases hp with
    | cons p1 pr=>
     have e1:=yK p1;subst e1;cases pr with
     | cons p2 pr=>
      cases pr;obtain⟨b,zs',e2,⟨o1,o2⟩,hb,_⟩:=vJ p2;subst e2;exact⟨a,_,_,ex,hS,.inr ⟨.inl rfl,b,zs',rfl,o1,o2,hb⟩⟩
   | book qs=>
    obtain⟨a,xs,ex,hS,hp⟩:=yE hxs;cases hp with
    | cons p1 pr=>
     have e1:=yK p1;subst e1;cases pr with
     | cons p2 pr=>
      cases pr;obtain⟨b,zs',e2,⟨o1,o2⟩,hb,_⟩:=vJ p2;subst e2;exact⟨a,_,_,ex,hS,.inr ⟨.inr rfl,b,zs',rfl,o1,o2,hb⟩⟩
  have hu':=kp.sqT (s29.sqT hu2);exists _,rfl,u,_,0,.str wd,rfl,rfl,hu',yP (j:=0) rfl,z6,fun l hl=>?_
  injections l hl H'' sl gl
  exists l,_,rfl,.inl (ze gl),rfl,rfl,_,rfl,?_;rw[aJ zft];have kp2:=kp.more sl;rcases hcase with ⟨n1,n2⟩|⟨hw,a,zs',rfl,o1,o2,ha⟩
  ·refine jB (zdj n1 n2) ?_
   exact⟨_,rfl,kp2⟩
  ·refine jj (zdz (by rcases hw with rfl|rfl;exact .inl rfl;exact .inr rfl)) ?_
   have ha9:=s29 _ _ ha;obtain⟨ys',hy'⟩:=kp2.l _ _ ha9;exists _,rfl,u,_,1,.ref a,rfl,rfl,sl.sqT hu',yP (j:=1) rfl,.inl ⟨rfl,_,ze hy'⟩,a,_,rfl,rfl,hy',?_;exact⟨_,rfl,kp2.clear o1 o2 (by rw[ha];intro z;cases z) ha9⟩
 rintro σ H10 ⟨v11,rfl,kp⟩;have s010:zn H H10:=fun b o e=>kp.k b o (s09 _ _ e) (.inl (by rw[s1 _ _ e];intro z;cases z))
 have hS7:zw K T' H10 2 (.ref ld) (.lst (ms.map msD)):=zw.lst True.intro (kp.k _ _ hld9 (.inr (.inr (.inl (s3.free nld))))) (uO (zr (fun _ _ z=>kp.k _ _ z (.inr (.inr (.inr fun ys e=>by cases e)))) hu9))
 have hS8:zw K T' H10 2 (.ref lf) (.lst (ms.map msD)):=zw.lst True.intro (kp.k _ _ hlf9 (.inr (.inr (.inl (s24.free nlf))))) (uO (zr (fun _ _ z=>kp.k _ _ z (.inr (.inr (.inr fun ys e=>by cases e)))) hf9))
 have hp1:=kp.says s27 hp1;have hp2:=kp.says s27 hp2;have hld10:=kp.k _ _ hld9 (.inr (.inr (.inl (s3.free nld))));refine zR (zH (yV (vB (zk (vO hU) (pv 9) (pv 10) (zx _)) (vi (zk (vO hU) (pv 8) (pv 7) (zx _))))) (zf xC) zv) ?_;exists _,rfl,_,rfl,t1,t2,3,_,fun _=>True,fun _=>True,rfl,rfl,by decide,hp1,hp2,_,rfl,?_
 refine yf ?_;exists _,rfl,_,rfl,lf,ld,1,_,fun _=>True,fun _=>True,rfl,rfl,by decide,hS8,hS7,_,rfl,?_
 refine yf ?_;dsimp only[uG];refine⟨_,zh (zH (zk (uF (vO hU) (uN hU0)) (pv 7) (zN zb) (zx _)) (zf (zA (xD (qr hU) (pv 9) (zJ (ac zm (ac (zM z8 (pv 7) zX (zQ zg)) zb))) (zx _)))) zv)
  (zf (zA (zgC (xD yb (zE zD (pv 9) zg nofun) zm (zx _)) (zdc (cB wJ U.isi boot_isinstance (ac (zE zD (pv 9) zg nofun) (ac (uL (v:=.ty "list") rfl U.list PyProof.Rows.boot_list rfl) zb))))))),?_⟩
 exists _,rfl,xK,fun l0 hl0=>?_
 injections l0 hl0 H11 s11 e11
 have hld11:=s11 _ _ hld10;have hp11:=hp1.same s11;unfold zgF at hp11;rw[hms] at hp11;have lud:ud.length=ms.length:=hud.length;cases ms with
 | nil=>
  cases hud;refine .inl ⟨ld,l0,0,.lst [],fun _=>True,fun _=>True,rfl,rfl,by decide,.lst True.intro hld11 .nil,.lst True.intro e11 .nil,_,rfl,?_⟩
  refine yf ?_;obtain⟨b,xs,e,hb,hpr⟩:=yE hp11;cases e;cases hpr with
  | cons h1 h2=>
   cases h2 with
   | cons h2 h3=>
    cases h3;have e1:=yK h1;subst e1;obtain⟨l2,xs2,e2,_,hl2,_⟩:=vJ h2;subst e2;exists _,rfl,t1,_,0,.str "told",rfl,rfl,hb,rfl,rfl,_,rfl,?_;refine xt ?_;exact⟨_,rfl,t1,_,1,.ref l2,rfl,rfl,hb,rfl,_,_,_,_,rfl,.lst hl2,zbp K,q _ (s010.trans s11)⟩
 | cons m ms'=>
  cases hud with
  | @cons v _ ud' _ hv hrest=>
   refine .inr ⟨ld,l0,_,_,rfl,rfl,hld11,e11,(by rw[map_cons,length_cons];exact Nat.succ_ne_zero _),_,rfl,?_⟩
   refine xt ?_;exists _,rfl,_,rfl,_,rfl,ld,_,rfl,ze hld11,fun l3 hl3=>?_;rw[show wt ((v::ud').map V.ref) none (some 1)=[.ref v] from zfl _ _]
   injections l3 hl3 H12 s12 e12
   exists z6,fun tp htp=>?_
   injections tp htp H13 s13 e13
   have hv13:H13 v=some (.tup [.str m.1,.int (m.2:Nat)]):=(s11.trans (s12.trans s13)) _ _ (kp.k _ _ ((s5.trans (s57.trans s79)) _ _ hv) (.inr (.inr (.inr fun ys e=>by cases e))))
   exact⟨t1,tp,3,_,fun _=>True,fun _=>True,rfl,rfl,by decide,hp11.same (s12.trans s13),zw.tup (zq e13) (.cons zw.str (.cons (zw.lst True.intro (s13 _ _ e12) (.cons (zw.tup (zq hv13) (.cons zw.str (.cons zw.int .nil))) .nil)) .nil)),q _ (s010.trans (s11.trans (s12.trans s13)))⟩
def zhI:List Str:=["place","name","free","places","names"]
theorem zfA:∀w∈zhI,SH (.str w) 20 0:=by
 intro w hw;have h:w="place"\/w="name"\/w="free"\/w="places"\/w="names":=by simpa [zhI] using hw
 rcases h with rfl|rfl|rfl|rfl|rfl <;> exact⟨rfl,rfl,by symm,by symm,aF _⟩
def EnB:En->Prop
 | .one wd n=>wd∈zhI/\n<1024
 | .many wd ns=>wd∈zhI/\(∀n∈ns,n<1024)/\ns.length<=200
 | .free=>True
theorem zl1(h:EnB e):SH (pyD (enD e)) 2500 2:=by
 cases e with
 | one wd n=>
  have:=SH.tup (SHs.cons ((zfA wd h.1).mono (aF _) (aF _)) (SHs.cons (SH.int (D:=0) h.2) (SHs.nil (W:=0))))
  exact this.mono (by decide) (by decide)
 | many wd ns=>
  obtain⟨h1,h2,h3⟩:=h;have a:SHs ((qx ns).map PyData.int) ((qx ns).length * 12) 0:=SH.all (w:=11) fun x hx=>by
   obtain⟨n,hn,rfl⟩:=List.mem_map.mp hx;exact SH.int (h2 n hn)
  have ll:(qx ns).length<=200:=by unfold qx;rw[aA];exact h3
  have b:SH (pyD (.lst ((qx ns).map Dt.int))) 2400 1:=by
   show SH (.list (zbS ((qx ns).map Dt.int))) 2400 1;rw[zbR,map_map];exact(SH.lst a).mono (by omega) (aF _)
  have:=SH.tup (SHs.cons ((zfA wd h1).mono (aF _) (by decide : 0<=1)) (SHs.cons b (SHs.nil (W:=0))))
  exact this.mono (by decide) (by decide)
 | free=>
  have:=SH.tup (SHs.cons (zfA "free" (by symm)) (SHs.nil (W:=0)))
  exact this.mono (by decide) (by decide)
theorem zjF{M:Nat}(nd:zs.Nodup)(hr:rows.length<=24)(hM:M<=200)(hz:zs.length<=200){i:Nat}(hi:i<rows.length):EnB (enF rows M zs i):=by
 unfold enF;split
 ·exists by symm,fun n hn=>?_,?_
  ·unfold plL at hn
   obtain⟨k,hk,rfl⟩:=List.mem_map.mp hn
   have:=List.mem_range.mp hk
   omega
  ·unfold plL;rw[aA,length_range];omega
 ·split
  ·have sb:=zaw (rows:=rows) nd
   exists by symm,fun n hn=>?_,?_
   ·have:=List.mem_range.mp (sb.subset hn);omega
   ·have:=sb.length_le;rw[length_range] at this;omega
  ·split
   ·split
    ·exact⟨by symm,by omega⟩
    ·split
     ·exists by symm,?_
      exact Nat.lt_of_le_of_lt List.findIdx_le_length (by omega)
     ·exact True.intro
   ·exact True.intro
theorem zkr{M:Nat}(nd:zs.Nodup)(hr:rows.length<=24)(hM:M<=200)(hz:zs.length<=200):SH (pyD (.lst (jz rows M zs))) 60024 3:=by
 show SH (.list (zbS (jz rows M zs))) 60024 3;have e:jz rows M zs=(List.range rows.length).map fun i=>enD (enF rows M zs i):=by
  unfold jz;exact List.map_congr_left fun i hi=>zhv (List.mem_range.mp hi) nd
 rw[zbR,e,map_map]
 have:=SH.all (g:=fun i=>pyD (enD (enF rows M zs i))) (w:=2500) (D:=2) (xs:=List.range rows.length) fun i hi=>zl1 (zjF nd hr hM hz (List.mem_range.mp hi))
 refine(SH.lst this).mono ?_ (aF _);rw[length_range];omega
theorem ziQ{M:Nat}(h:xB rows bars M zs=[]):zs.Nodup:=by
 unfold xB at h;rw[append_eq_nil_iff,append_eq_nil_iff,append_eq_nil_iff,zbt] at h;exact h.1.1.1
theorem ziS{α : Type}{K:Frag}{a:Addr}{xs:List V}{caps:List (Option Nat)}{g:TG}{tt:TT}{te:TE}{σ : L2.St}{H1:Hp}{Q:VK}{D:Addr}(ts:List α)(R:V->α->Prop)(Out:Hp->V->α->Prop)
  (st1:∀{H H' v t},zn H H'->Out H v t->Out H' v t) (st2:∀{H v t ys ys'},H D=some (.lst ys)->Out H v t->Out (upd H D (.lst ys')) v t) (hD:H1 D=none) (hn:ts.length<=500)
  (hS:SqL K H1 a xs) (hp:Paired R xs ts)
  (hs:∀x t H' (C:VK) (S:Hp->Prop),zn H1 H'->R x t->t∈ts->H' D≠none->(∀v H4,zn H' H4->Out H4 v t->C v H4)->g x (yW caps σ) H' fun σ2 H2=>tt σ2 H2 fun ok H3=>(ok=true->te σ2 H3 C)/\(ok=false->S H3))
  (hd:∀vs H',zn H1 H'->H' D=some (.lst vs)->Paired (Out H') vs ts->Q (.ref D) H'):LCr (Itl K a) caps g tt te σ H1 Q D:=by
 have lx:xs.length=ts.length:=hp.length;refine vW (K:=K) (xs:=xs) (fun i ys H'=>Paired (Out H') ys (ts.take i)/\zn H1 H'/\H' D=some (.lst ys)) ⟨.nil,zc hD _,za⟩ (fun i ys H' ⟨_,sH,_⟩=>sH.seq hS) ?_ ?_
 ·rintro i x ys H' hi hx ⟨hy,sH,hDy⟩
  obtain⟨t,ht,r⟩:=Paired.get hp hx;refine hs x t H' _ _ sH r (aH ht) (by rw[hDy];intro z;cases z) fun v H4 s4 ho=>?_
  refine lcN.mk hi (zK (by omega)) (s4 _ _ hDy) (by rw[hy.length,length_take];omega) ⟨?_,wf (sH.trans s4) hD _,za⟩
  rw[jU ht];exact yS (zr (fun _ _ z=>st2 (s4 _ _ hDy) (st1 s4 z)) hy) (.cons (st2 (s4 _ _ hDy) ho) .nil)
 ·rintro ys H' ⟨hy,sH,hDy⟩
  rw[lx,take_length] at hy;exact hd ys H' sH hDy hy
theorem jr{H:Hp}:∀{us:List Addr}{rows:List Rw},Paired (TAt H) us rows->Paired (fun x r=>∃u,x=V.ref u/\TAt H u r) (us.map V.ref) rows
 | _,_,.nil=>.nil
 | _,_,.cons h t=>.cons ⟨_,rfl,h⟩ (jr t)
theorem zfE{c:C5}{H:Hp}:∀{vs:List V}{rows:List Rw},Paired (fun v r=>∃p,v=.ref p/\PAt c H p r) vs rows->∃ps,vs=ps.map V.ref/\Paired (PAt c H) ps rows
 | _,_,.nil=>⟨[],rfl,.nil⟩
 | _,_,.cons ⟨p,e,h⟩ t=>by
  obtain⟨ps,e2,h2⟩:=zfE t;exact⟨p::ps,by rw[e,e2];rfl,.cons h h2⟩
variable {ok:Addr->Prop}{n:Nat}
def zlx(k:Nat)(z:Str)(b:Bool):List Dt:=match k with
 | 0=>[.str "seat",.str z,.bl b]|1=>[.str "both",.str z,.bl b]|2=>[.str "tail",.str z]|3=>[.str "tag",.str z,.bl b]|_=>[.str "bag",.str z]
theorem zgl{K:Frag}{ok:Addr->Prop}{H:Hp}{n k:Nat}{z:Str}{b:Bool}(h:k<5):Paired (zw K ok H n) (qh k (.str z) b) (zlx k z b):=by
 rcases lt5 h with rfl|rfl|rfl|rfl|rfl
 ·exact .cons zw.str (.cons zw.str (.cons zw.bl .nil))
 ·exact .cons zw.str (.cons zw.str (.cons zw.bl .nil))
 ·exact .cons zw.str (.cons zw.str .nil)
 ·exact .cons zw.str (.cons zw.str (.cons zw.bl .nil))
 ·exact .cons zw.str (.cons zw.str .nil)
def zju(rows:List Rw):List Dt:=rows.map fun r=>.tup (zlx r.k r.z r.b)
def zjG(bars:List Str):List Dt:=bars.map fun z=>.str z
theorem zeL{K:Frag}{H:Hp}{us:List Addr}{rows:List Rw}(h:Paired (TAt H) us rows):(∀r∈rows,r.ok)->Paired (zw K ok H (n+1)) (us.map V.ref) (zju rows):=by
 induction h with
 | nil=>intro _;exact .nil
 | cons r t ih=>exact fun hok=>.cons (zw.tup (zq r) (zgl (hok _ mem_cons_self).1)) (ih fun r' h'=>hok r' (mem_cons_of_mem _ h'))
theorem zap{K:Frag}{H:Hp}:∀bars:List Str,Paired (zw K ok H n) (bars.map V.str) (zjG bars)
 | []=>.nil
 | z::zs=>.cons zw.str (zap zs)
theorem zao{K:Frag}{H:Hp}{t l1 l2:Addr}{us:List Addr}{rows:List Rw}{bars:List Str}(ht:H t=some (.tup [.ref l1,.ref l2]))(h1:H l1=some (.lst (us.map V.ref)))(hu:Paired (TAt H) us rows)(hok:∀r∈rows,r.ok)(h2:H l2=some (.lst (bars.map V.str))):
  zw K (fun _=>True) H 3 (.ref t) (.tup [.lst (zju rows),.lst (zjG bars)]):=
 zw.tup (zq ht) (.cons (zw.lst True.intro h1 (zeL hu hok)) (.cons (zw.lst True.intro h2 (zap bars)) .nil))
inductive zd6(c:C5)(CF:Addr)(vs:List V)(H:Hp)(Q:VK)(E:XK):Prop|mk(t la lb us rows bars:_):vs=[.ref t]->H t=some (.tup [.ref la,.ref lb])->H la=some (.lst (us.map V.ref))->Paired (TAt H) us rows->H lb=some (.lst (bars.map V.str))->vS rows bars->(∀f H',zn H H'->vy c CF H' f rows bars->Q (.ref f) H')->zd6 c CF vs H Q E
theorem zh2:zt ["_law_told"] ["_law_told"] (zj zc1):=fsc
theorem zgU{P:Program}{w:World}{K:Frag}{base:Heap}{f CF:Addr}{fd:FuncData}{c:C5}{gF g1:Addr}{eF e1:FuncData}(F:Fun K "_law_made" "_law_made" zc1 f fd)(hlst:mg "list"=none)(mCF:mg "Form"=some (.ref CF))(MF:Mk K CF gF)(GF:zC P w K mg base CX0 3 gF eF ["self","parameters","bars"] (zln c CF))(bF:z0 K eF ["self","parameters","bars"] [])(cP:zG P w K mg base 5 "parameter_of" g1 e1 ["told"] (zjp K c)):zC P w K mg base CX0 6 f fd ["_law_told"] (zd6 c CF):=by
 refine F.ok zh2 (fun cdv A outer s H vs Q E hr h=>?_);obtain⟨t,la,lb,us,rows,bars,rfl,ht,hla,hu,hlb,V1,q⟩:=h;have hr4:yn 4 _:=hr.mono (by decide)
 refine⟨_,zf (zA (zed MF GF hr4 rfl mCF bF .nil yi (ac (xQ [] ["_law_one"] [none] rfl ⟨rfl,rfl,rfl,rfl⟩ (yw (zE zD (pv 0) zg nofun)) (yj 0) rfl rfl rfl
   (fun pins fp s H C=>⟨zp (i:=0) zbl rfl ⋯ (.inr rfl),xc,cF cP hr (ac (pv 0) zb)⟩)) (ac (cTy yO hlst PyProof.Rows.boot_list (ac (zE zD (pv 0) zg nofun) zb)) zb)))),?_⟩
 have l24:=V1.l24;have l60:=V1.l60;exists _,rfl,t,_,0,.ref la,rfl,rfl,zq ht,rfl,la,rfl,⟨_,ze hla⟩,fun D hD=>?_;refine ziS rows (fun x r=>∃u,x=.ref u/\TAt H u r) (fun H v r=>∃p,v=.ref p/\PAt c H p r) (fun s ⟨p,e,h⟩=>⟨p,e,h.same s⟩) (fun hl ⟨p,e,h⟩=>⟨p,e,PAt.upd h hl⟩) hD (by omega) (ze hla) (jr hu) ?_ ?_
 ·rintro x r H6 C S s6 ⟨u,rfl,tu⟩ hm _ hC
  have rk:=V1.ok r hm;exact⟨fun _=>⟨_,rfl,u,r.k,.str r.z,r.b,rfl,rk.1,s6 _ _ tu,.inl ⟨r.z,rfl,zb6 rk.2⟩,rk.2,fun o dx H3 s3 ho=>hC _ _ s3 ⟨o,rfl,dx,ho⟩⟩,fun z=>absurd z (by decide)⟩
 intro vs H1 u1 e1 hvs;obtain⟨ps,rfl,p1⟩:=zfE hvs;exists _,rfl,t,_,1,.ref lb,rfl,rfl,zq (u1 _ _ ht),rfl,lb,_,rfl,.inl (ze (u1 _ _ hlb)),fun l2 hl2=>?_
 injections l2 hl2 H2 s2 g2
 intro x dx hx hdx hne;have smk:zn H2 (upd (upd H2 dx (.own x)) x (.ins CF dx [])):=xF hx hdx;have hx1:upd (upd H2 dx (.own x)) x (.ins CF dx []) x=some (.ins CF dx []):=za;generalize upd (upd H2 dx (.own x)) x (.ins CF dx [])=H3 at smk hx1 |-;have s12:=u1.trans s2;exists x,D,dx,.ref l2,ps,rows,bars,rfl,hx1,smk _ _ (s2 _ _ e1),xU (s2.trans smk) p1,.inr ⟨l2,rfl,smk _ _ g2⟩,V1,fun H4 sx F4 L4=>?_;exists rfl,q x H4 (fun b' u e=>sx b' u (smk _ _ (s12 _ _ e)) (zd (s12 _ _ e) hx)) ⟨F4.at,by omega,by omega,V1.ok⟩
inductive zaY(K:Frag)(vs:List V)(H:Hp)(Q:VK)(E:XK):Prop|mk(a:Addr)(ns:List Int):vs=[.ref a]->SqL K H a (ns.map V.int)->ns.length<=63->(∀m∈ns,Builtin.Int.intBits m<=1048576)->(∀H',Q (.bl true) H')->zaY K vs H Q E
theorem zlQ{K:Frag}{H0 H:Hp}{l:Addr}{x:V}{e:En}(h:zw K (fun a=>a≠l/\H0 a=none) H 2 x (enD e))(hb:EnB e)(hw:∀wd n,e=.one wd n->wd="place"\/wd="name")(hw2:∀wd ns,e=.many wd ns->(wd="places"\/wd="names")/\ns.length<=100):MX K H0 l 100 H x/\x≠.non:=by
 have h:=zja h;cases e with
 | one wd n=>obtain⟨u,rfl,hu⟩:=h;exact⟨.inr ⟨u,rfl,.inl ⟨wd,n,hu,hw _ _ rfl⟩⟩,by intro z;cases z⟩
 | many wd ns=>obtain⟨u,a,rfl,hu,o,ha⟩:=h;exact⟨.inr ⟨u,rfl,.inr (.inr ⟨wd,a,_,hu,(hw2 _ _ rfl).1,o.2,o.1,ha,by rw[aA];unfold qx;rw[aA];exact(hw2 _ _ rfl).2⟩)⟩,by intro z;cases z⟩
 | free=>obtain⟨u,rfl,hu⟩:=h;exact⟨.inr ⟨u,rfl,.inr (.inl hu)⟩,by intro z;cases z⟩
theorem zl2{M:Nat}(nd:zs.Nodup)(hM:M<=100)(hz:zs.length<=100)(i:Nat):(∀wd n,enF rows M zs i=.one wd n->wd="place"\/wd="name")/\∀wd ns,enF rows M zs i=.many wd ns->(wd="places"\/wd="names")/\ns.length<=100:=by
 have sb:=(zaw (rows:=rows) nd).length_le;rw[length_range] at sb;have pl:(plL rows M).length<=100:=by unfold plL;rw[aA,length_range];omega
 unfold enF;split
 ·exact⟨fun wd n e=>(by cases e),fun wd ns e=>(by cases e;exact⟨.inl rfl,pl⟩)⟩
 ·split
  ·exact⟨fun wd n e=>(by cases e),fun wd ns e=>(by cases e;exact⟨.inr rfl,by omega⟩)⟩
  ·split
   ·split
    ·exact⟨fun wd n e=>(by cases e;exact .inl rfl),fun wd ns e=>(by cases e)⟩
    ·split
     ·exact⟨fun wd n e=>(by cases e;exact .inr rfl),fun wd ns e=>(by cases e)⟩
     ·exact⟨fun wd n e=>(by cases e),fun wd ns e=>(by cases e)⟩
   ·exact⟨fun wd n e=>(by cases e),fun wd ns e=>(by cases e)⟩
variable {cl:Nat->Addr}
theorem wc:zt ["_law_script","_law_pool_here","_law_most","_law_told","_law_form_here","_law_k","_law_step","_law_things","_law_pairs","_law_call","_law_first","_law_kept","_law_some","_law_named"] ["_law_script"] (zj zkc):=fsc
theorem zkB{P:Program}{w:World}{K:Frag}{base:Heap}{f CF:Addr}{fd:FuncData}{c:C5}{f1 f2 f3 f4 f5 f6 f7 f8 f9 f10 f11 f12 f13 gT:Addr}{e1 e2 e3 e4 e5 e6 e7 e8 e9 e10 e11 e12 e13 eT:FuncData}(F:Fun K "law" "law" zkc f fd)(U:zdN mg)(hrep:mg "repr"=none)
  (cC:zG P w K mg base 1 "_law_cell" f1 e1 ["_law_script","_law_at"] (zcL K)) (cPo:zG P w K mg base 1 "_law_pool" f2 e2 ["_law_cell_here"] (zfM K)) (cFo:zG P w K mg base 2 "_law_form" f3 e3 ["_law_script","_law_at","_law_pool_here","_law_most"] (zfS K)) (cMa:zG P w K mg base 6 "_law_made" f4 e4 ["_law_told"] (zd6 c CF)) (cMx:zG P w K mg base 1 "_law_mix" f5 e5 ["_law_cell_here","_law_k"] jZ)
  (cFi:zG P w K mg base 3 "_law_fitting" f6 e6 ["_law_told","_law_pool_here","_law_cell_here","_law_more"] (zam K)) (cI:zG P w K mg base 2 "_law_items" f7 e7 ["_law_things","_law_pairs","_law_cell_here"] (zaZ K)) (cPa:vz P w K mg base 5 "paper" f8 e8 ["form","call"] (jE K c CF cl)) (cSp:zG P w K mg base 1 "_law_spoilt" f9 e9 ["_law_found"] (zbG K)) (cBe:zG P w K mg base 4 "_law_beside" f10 e10 ["_law_things","_law_pairs","_law_told","_law_cell_here"] (zbJ K)) (cBR:zG P w K mg base 7 "_law_beside_right" f11 e11 ["_law_form_here","_law_told","_law_things","_law_pairs","_law_cell_here"] (zlo K c CF))
  (cFt:zG P w K mg base 6 "fits" f12 e12 ["form","call"] (zcK K c CF)) (cMi:zG P w K mg base 5 "misfits" f13 e13 ["form","call"] (zd4 K c CF))
  (FK:FC K CF) (mT:xH K CF "told" gT) (GT:zC P w K mg base CX0 3 gT eT ["self"] (za1 c CF)) (bT:z0 K eT ["self"] []) :
  zC P w K mg base CX0 8 f fd ["_law_script"] (zaY K):=by
 refine F.ok wc (fun cdv A outer s H vs Q E hr h=>?_);obtain⟨sa,ns,rfl,hS,h63,hbit,q⟩:=h;have hr1:yn 1 _:=hr.mono (by decide)
 have hr2:yn 2 _:=hr.mono (by decide)
 have hr3:yn 3 _:=hr.mono (by decide)
 have hr4:yn 4 _:=hr.mono (by decide)
 have hr5:yn 5 _:=hr.mono (by decide)
 have hr6:yn 6 _:=hr.mono (by decide)
 have hU:=hr.units;have hU0:=hr.units0;have hGd:=hr.gd;have bz:∀{n:Int},(n∈ns\/n=0)->Builtin.Int.intBits n<=1048600:=fun {n} h=>by
  rcases h with h|h
  ·exact le_trans (hbit n h) (by decide)
  ·rw[h];decide
 refine zR (zu (i:=1) wc.nd rfl ⋯ (cF cPo hr1 (ac (cF cC hr1 (ac (pv 0) (ac zg zb))) zb))) ?_;exists _,rfl,sa,ns,3,rfl,hS,h63,fun c3 H1 s1 _=>?_;exists c3,rfl,fun pa H2 s2 np hpa=>?_;have s02:=s1.trans s2;have hpa:H2 pa=some (.lst ((wH c3).map V.str)):=hpa;dsimp only[zZ];refine zR (zu (i:=2) wc.nd rfl ⋯ zg) ?_;refine yr (fun σ' H'=>σ'=[some (.ref sa),some (.ref pa),some (.int (12:Nat)),none,none,none,none,none,none,none,none,none,none,none]/\H'=H2) ?_ (fun key=>key _ _ ⟨rfl,rfl⟩);rintro σ0 H0 ⟨rfl,rfl⟩;refine zR (zH (zk yb (zl zY (cF cC hr1 (ac (pv 0) (ac zg zb))) zg) zg (zx _)) (zf (zu (i:=2) wc.nd rfl ⋯ zg)) zv) ?_;refine yr (fun σ' H'=>∃most:Nat,σ'=[some (.ref sa),some (.ref pa),some (.int (most:Nat)),none,none,none,none,none,none,none,none,none,none,none]/\zn H0 H'/\3<=most/\most<=24) ?_ (fun key=>?_);rotate_left
 ·exists _,rfl,sa,ns,3,rfl,s02.seq hS,h63,fun c3' H3 s3 _=>?_
  exists _,_,rfl,rfl,zp8,rfl,_,rfl,?_;refine wG (fun _=>?_) (fun _=>?_)
  ·exact key _ _ ⟨24,rfl,s3,by decide,by decide⟩
  ·exact key _ _ ⟨12,rfl,s3,by decide,by decide⟩
 rintro σ3 H3 ⟨most,rfl,s3,m3,m24⟩;have s03:=s02.trans s3;refine zR (zu (i:=3) wc.nd rfl ⋯ (cF cFo hr2 (ac (pv 0) (ac zg (ac (pv 1) (ac (pv 2) zb)))))) ?_;exists _,rfl,_,rfl,_,rfl,sa,pa,ns,0,most,c3,rfl,s03.seq hS,h63,m3,m24,s3 _ _ hpa,fun t la lb us rows bars H4 s4 ht hla hu hlb V1=>?_;have s04:=s03.trans s4;have hpa:=s4 _ _ (s3 _ _ hpa);have l24:=V1.l24;have l60:=V1.l60;dsimp only[zZ];refine zR (zu (i:=4) wc.nd rfl ⋯ (cF cMa hr6 (ac (pv 3) zb))) ?_;exists _,rfl,t,la,lb,us,rows,bars,rfl,ht,hla,hu,hlb,V1,fun fo H7 s7 F7=>?_;have T7:Tld H7 t la lb us rows bars:=Tld.same ⟨ht,hla,hu,hlb,V1⟩ s7;have hpa:=s7 _ _ hpa;have s07:=s04.trans s7;clear ht hla hu hlb s7 s04 s03 s02 s1 s2 s3 s4 np;dsimp only[zZ];obtain⟨N,hN,hN28⟩:∃N:Nat,(if (if (28:Int)<((ns.map V.int).length:Int) then 28 else ((ns.map V.int).length:Int))>10 then (if (28:Int)<((ns.map V.int).length:Int) then 28 else ((ns.map V.int).length:Int)) else 10)=(N:Int)/\N<=28:=by
  by_cases h1:(28:Int)<((ns.map V.int).length:Int)
  ·rw[aK h1,aK (by decide)];exact⟨28,rfl,by omega⟩
  ·rw[aJ h1]
   by_cases h2:((ns.map V.int).length:Int)>10
   ·rw[aK h2];exact⟨(ns.map V.int).length,rfl,by omega⟩
   ·rw[aJ h2];exact⟨10,rfl,by omega⟩
 refine zR (xk PassesOwn.never rfl (zeP rfl U.range (ac zg (ac (cB (zfu rfl) U.max boot_max (ac zg (ac (cB (jo rfl) U.min boot_min (ac (cB zI U.len PySem.boot_len (ac (pv 0) zb)) (ac zg zb))) zb))) (ac zg zb)))) (zp (i:=5) wc.nd rfl ⋯) jJ) ?_;exists _,rfl,sa,_,rfl,.inl (s07.seq hS),_,_,rfl,_,_,rfl,4,N,3,(by rw[<- hN];rfl),by decide,by omega,by decide,by decide,?_
 refine zdG (n:=rsz 4 N 3) (fun i σ H'=>∃(v5 v6 v7 v8 v9 v10 v11 v12 v13:Option V),σ=[some (.ref sa),some (.ref pa),some (.int (most:Nat)),some (.ref t),some (.ref fo),v5,v6,v7,v8,v9,v10,v11,v12,v13]/\zn H7 H')
  ⟨_,_,_,_,_,_,_,_,_,rfl,zn.refl _⟩ ?_ ?_
 rotate_left
 ·rintro σ H' ⟨v5,v6,v7,v8,v9,v10,v11,v12,v13,rfl,sH⟩
  exists _,zf (zA (xD (qr hU) (yG (pv 4) FK.cl mT GT hr3 bT .nil yi) (pv 3) (zx _))),?_;obtain⟨dx,fs,lr,lb',ld,pps,h1,h2,h3,h4,h5,h6⟩:=id (F7.same sH).at_;exists _,rfl,fo,dx,fs,rfl,h1,h2.no _ (by symm),fo,rows,bars,rfl,V1.ok,by omega,(F7.same sH).at_,fun t2 k1 k2 us2 H14 s14 _ _ _ ht2 hk1 hus2 hk2=>?_
  obtain⟨ht,hla,hu,hlb,_⟩:=T7.same (sH.trans s14);exact⟨_,rfl,t2,t,2,_,fun _=>True,fun _=>True,rfl,rfl,by decide,zao ht2 hk1 hus2 V1.ok hk2,zao ht hla hu V1.ok hlb,q _⟩
 rintro i σ H20 hi ⟨v5,v6,v7,v8,v9,v10,v11,v12,v13,rfl,s20⟩;have ek:((4:Nat):Int)+(i:Int) * ((3:Nat):Int)=((4+i * 3:Nat):Int):=by omega
 rw[ek];generalize 4+i * 3=kk;have s020:=s07.trans s20;refine zR (zu (i:=6) wc.nd rfl ⋯ (cF cMx hr1 (ac (cF cC hr1 (ac (pv 0) (ac (zl yc (pv 5) zg) zb))) (ac (pv 5) zb)))) ?_;exists _,rfl,_,rfl,_,_,rfl,rfl,sa,ns,kk+2,rfl,s020.seq hS,h63,fun c22 H21 s21 _=>?_;exists _,rfl,c22,(kk:Int),rfl,?_;generalize xm c22 (kk:Int)=stp;have s021:=s020.trans s21;dsimp only[zZ];refine zR (ut (cF cFi hr3 (ac (pv 3) (ac (pv 1) (ac (cF cC hr1 (ac (pv 0) (ac (pv 5) zb))) (ac (cF cC hr1 (ac (pv 0) (ac (zl yc (pv 5) zg) zb))) zb))))) (yz rfl (zy (zp (i:=7) wc.nd rfl ⋯) (zy (zp (i:=8) wc.nd rfl ⋯) yg)))) ?_;exists _,rfl,_,rfl,_,rfl,_,rfl,sa,ns,kk,rfl,s021.seq hS,h63,fun cell H22 s22 hc22=>?_;have s022:=s021.trans s22;exists _,rfl,_,rfl,_,_,rfl,rfl,sa,ns,kk+1,rfl,s022.seq hS,h63,fun more H23 s23 hm23=>?_;have s723:=s20.trans (s21.trans (s22.trans s23));have s023:=s022.trans s23;obtain⟨ht,hla,hu,hlb,_⟩:=T7.same s723;exists t,la,lb,pa,cell,more,us,rows,bars,wH c3,rfl,ht,hla,hu,hlb,V1,s723 _ _ hpa,vT c3,zbV c3,bz hc22,bz hm23,fun p3 l1 l2 ts ys ps H24 s24 ep el1 el2 hys lts lps hfit hnm=>?_;have s724:=s723.trans s24;have s024:=s023.trans s24;exists p3,_,rfl,zq ep,rfl,_,_,rfl,_,_,rfl,rfl,?_;have lyp:ys.length=ps.length:=by rw[hys.length,aA]
 have nd:=ziQ hfit;have hG:GP 8 ps:=fun x hx=>by
  have:xO x.1=true:=by
   rcases hnm x.1 (List.mem_map.mpr ⟨x,hx,rfl⟩) with h|h
   ·unfold nms at h
    obtain⟨r,hr,e⟩:=List.mem_map.mp h;rw[<- e];exact(V1.ok r (List.mem_filter.mp hr).1).2
   ·exact ql h
  exact⟨(xX.mp this).1,(xX.mp this).2.1⟩
 clear ht hla hu hlb s20 s21 s22 s23 s020 s021 s022 s723 hnm;dsimp only[zZ];refine zR (zu (i:=9) wc.nd rfl ⋯ (cF cI hr2 (ac (pv 7) (ac (pv 8) (ac (zl yp (cF cC hr1 (ac (pv 0) (ac (pv 5) zb))) zg) zb))))) ?_;exists _,rfl,_,rfl,_,rfl,_,rfl,sa,ns,kk,rfl,s024.seq hS,h63,fun cell2 H25 s25 _=>?_;exists _,_,rfl,rfl,⟨by decide,by decide⟩,l1,l2,_,ys,ts,ps,rfl,s25 _ _ el1,s25 _ _ el2,yH s25 hys,by omega,by omega,fun lc zs H26 s26 _ hlc hzs=>?_
 obtain⟨cT1,cP1⟩:=jv (cell2 / 7) ts ps;have hzs:Paired (zw K T' H26 3) zs ((wl (cell2 / 7) ts ps).map xf):=zr (fun _ _ z=>x6 (fun _ _ _=>True.intro) z) hzs;generalize wl (cell2 / 7) ts ps=ct at cT1 cP1 hzs;have cN1:zT ct=ps.map (·.1):=by unfold zT;rw[cP1]
 have cM1:ul rows bars ct=[]:=by show xB rows bars (yq ct).length (zT ct)=_;rw[cT1,cN1];exact hfit
 have C1:wR K H26 lc ct:=⟨⟨zs,ze hlc,hzs⟩,by rw[cT1];omega,by rw[cP1];omega⟩
 have s2426:=s25.trans s26;have s726:=s724.trans s2426;have P26:PL K H26 l2 ys ps:=⟨s2426 _ _ el2,yH s2426 hys⟩;have el1:=s2426 _ _ el1;dsimp only[zZ];refine zR (zu (i:=10) wc.nd rfl ⋯ (cS (E:=fun _ _ _=>False) cPa zgE hr5 (ac (pv 4) (ac (pv 9) zb)))) ?_;have sh:=zkr (rows:=rows) (M:=ts.length) (zs:=ps.map (·.1)) nd l24 (by omega) (by rw[aA];omega)
 have toS:∀{H':Hp}{l:Addr}{xs:List V}{ok:Addr->Prop},H' l=some (.lst xs)->Paired (zw K ok H' 2) xs (jz rows ts.length (ps.map (·.1)))->zw K T' H' 3 (.ref l) (.lst (jz rows ts.length (ps.map (·.1)))):=fun h1 h2=>zw.lst True.intro h1 (zr (fun _ _ z=>x6 (fun _ _ _=>True.intro) z) h2);generalize hdd:Dt.lst (jz rows ts.length (ps.map (·.1)))=dd at sh toS;refine⟨_,rfl,_,rfl,fo,lc,rows,bars,ct,rfl,F7.same s726,C1,fun _ lf xs H27 s27 nlf hlf hxs=>?_,fun m ms e=>by rw[cM1] at e;cases e⟩
 rw[cT1,cN1] at hxs;dsimp only[zZ];refine zR (zu (i:=11) wc.nd rfl ⋯ (cB (zaM hU hGd) hrep PyProof.Rows.boot_repr (ac (pv 10) zb))) ?_;exists _,rfl,lf,3,dd,T',rfl,toS hlf hxs,sh.s,sh.h,le_trans sh.d (by decide),sh.len (by decide),?_
 generalize hshn:(pyD dd).shown=shn;dsimp only[zZ];refine zR (zP (cF cSp hr1 (ac (pv 10) zb))) ?_;have lxs:xs.length<=100:=by rw[hxs.length];unfold jz;rw[aA,length_range];omega
 exists _,rfl,H26,lf,xs,rfl,nlf,s27,hlf,lxs,fun x hx=>?_,fun H28 s28=>?_
 ·obtain⟨j,hj⟩:=List.getElem?_of_mem hx
  obtain⟨d,hd,hxd⟩:=Paired.get hxs hj;unfold jz at hd;rw[getElem?_map] at hd;have hjl:j<rows.length:=by
   rcases Nat.lt_or_ge j rows.length with h|h
   ·exact h
   ·rw[getElem?_eq_none (by rw[length_range];exact h)] at hd;cases hd
  rw[getElem?_range hjl] at hd;cases hd;rw[zhv hjl nd] at hxd;have ew:=zl2 (rows:=rows) (M:=ts.length) nd (by omega) (by rw[aA];omega) j
  exact zlQ hxd (zjF nd l24 (by omega) (by rw[aA];omega) hjl) ew.1 ew.2
 have s728:=s726.trans s28;dsimp only;refine zR (ut (cF cBe hr4 (ac (pv 7) (ac (pv 8) (ac (pv 3) (ac (pv 6) zb))))) (yz rfl (zy (zp (i:=12) wc.nd rfl ⋯) (zy (zp (i:=13) wc.nd rfl ⋯) yg)))) ?_;exists _,rfl,_,rfl,_,rfl,_,rfl,l1,l2,t,la,lb,stp,ts,ys,ps,us,rows,bars,8,rfl,s28 _ _ el1,P26.same s28,hG,by omega,by omega,by decide,by decide,T7.same s728,fun p5 m1 m2 ts1 ys1 ps1 H29 s29 ep5 em1 Pm G1 lt1 lp1=>?_
 exists p5,_,rfl,zq ep5,rfl,_,_,rfl,_,_,rfl,rfl,?_;have s729:=s728.trans s29;dsimp only[zZ];refine zR (zH (xT (yY (cF cBR hr (ac (pv 4) (ac (pv 3) (ac (pv 12) (ac (pv 13) (ac (zl yp (pv 6) zg) zb)))))))) (zf xC) zv) ?_;exists _,rfl,_,rfl,_,rfl,_,rfl,_,rfl,_,_,rfl,rfl,⟨by decide,by decide⟩,fo,t,la,lb,m1,m2,_,ts1,ys1,ps1,us,rows,bars,_,rfl,F7.same s729,T7.same s729,em1,Pm,G1,by omega,by omega,fun H30 s30=>⟨_,rfl,?_⟩
 refine yf ?_;dsimp only[uG];refine zR (zH (zk yb (zl zY (zl yp (pv 6) zg) zg) zg (zx _)) (zh (ut (cF cBe hr4 (ac (pv 12) (ac (pv 13) (ac (pv 3) (ac (zl yp (pv 6) zg) zb))))) (yz rfl (zy (zp (i:=12) wc.nd rfl ⋯) (zy (zp (i:=13) wc.nd rfl ⋯) yg))))
  (zf (zH (xT (yY (cF cBR hr (ac (pv 4) (ac (pv 3) (ac (pv 12) (ac (pv 13) (ac (zl yp (pv 6) zg) zb)))))))) (zf xC) zv))) zv) ?_
 have s2830:=s29.trans s30;have s730:=s728.trans s2830;refine yr (fun σ' H'=>∃v12 v13,σ'=[some (.ref sa),some (.ref pa),some (.int (most:Nat)),some (.ref t),some (.ref fo),some (.int (kk:Nat)),some (.int stp),some (.ref l1),some (.ref l2),some (.ref lc),some (.ref lf),some (.str shn),v12,v13]/\zn H30 H') ?_ (fun key=>?_);rotate_left
 ·exists _,rfl,_,_,rfl,rfl,⟨by decide,by decide⟩,_,_,rfl,rfl,zp3,rfl,_,rfl,?_
  refine wG (fun _=>?_) (fun _=>key _ _ ⟨_,_,rfl,zn.refl _⟩);exists _,rfl,_,rfl,_,rfl,_,rfl,_,_,rfl,rfl,⟨by decide,by decide⟩,m1,m2,t,la,lb,_,ts1,ys1,ps1,us,rows,bars,17,rfl,s30 _ _ em1,Pm.same s30,G1,by omega,by omega,by decide,by decide,T7.same s730,fun p6 n1 n2 ts2 ys2 ps2 H31 s31 ep6 en1 Pn G2 lt2 lp2=>?_
  exists p6,_,rfl,zq ep6,rfl,_,_,rfl,_,_,rfl,rfl,?_;have s731:=s730.trans s31;exists _,rfl,_,rfl,_,rfl,_,rfl,_,rfl,_,_,rfl,rfl,⟨by decide,by decide⟩,fo,t,la,lb,n1,n2,_,ts2,ys2,ps2,us,rows,bars,_,rfl,F7.same s731,T7.same s731,en1,Pn,G2,by omega,by omega,fun H32 s32=>⟨_,rfl,?_⟩
  exact yf (key _ _ ⟨_,_,rfl,s31.trans s32⟩)
 rintro σ31 H31 ⟨v12',v13',rfl,s31⟩;have s2631:=s28.trans (s2830.trans s31);have s731:=s726.trans s2631;have C31:=C1.same s2631;exists _,zf (zH (yV (vB (zk zeU (cF cFt hr6 (ac (pv 4) (ac (pv 9) zb))) zeg (zx _)) (vB (zk (vO hU) (cF cMi hr5 (ac (pv 4) (ac (pv 9) zb))) (zN zb) (zx _)) (vi (zk zei (cB (zaM hU hGd) hrep PyProof.Rows.boot_repr (ac (cS (E:=fun _ _ _=>False) cPa zgE hr5 (ac (pv 4) (ac (pv 9) zb))) zb)) (pv 11) (zx _)))))) (zf xC) zv),?_;exists _,rfl,_,rfl,fo,lc,rows,bars,ct,rfl,F7.same s731,C31,fun H32 s32=>?_;rw[cM1];exists _,_,rfl,rfl,_,rfl,?_;refine yf ?_;have s732:=s731.trans s32;exists _,rfl,_,rfl,fo,lc,rows,bars,ct,rfl,F7.same s732,C31.same s32,fun lm H33 s33 hnm=>?_;rw[cM1] at hnm;obtain⟨um,_,hlm,hum⟩:=hnm;cases hum;exists xK,fun l0 hl0=>?_
 injections l0 hl0 H34 s34 e34
 exists lm,l0,0,.lst [],fun _=>True,fun _=>True,rfl,rfl,by decide,.lst True.intro (s34 _ _ hlm) .nil,.lst True.intro e34 .nil,_,rfl,?_
 refine yf ?_;have s3134:=s32.trans (s33.trans s34);have s734:=s731.trans s3134;refine⟨_,rfl,_,rfl,fo,lc,rows,bars,ct,rfl,F7.same s734,C31.same s3134,fun _ lg xs2 H35 s35 nlg hlg hxs2=>?_,fun m ms e=>by rw[cM1] at e;cases e⟩
 rw[cT1,cN1] at hxs2;exists lg,3,dd,T',rfl,toS hlg hxs2,sh.s,sh.h,le_trans sh.d (by decide),sh.len (by decide),?_
 rw[hshn];exists _,rfl,rfl,_,rfl,?_;rw[show(!decide (V.str shn=V.str shn))=false by rw[aC rfl];rfl]
 refine yf ?_;exact⟨_,_,_,_,_,_,_,_,_,rfl,s734.trans s35⟩
end
end K26
namespace L2
open PySem PySem.Spec PyProof.Rows
section
variable {P:Program}{w:World}{K:Frag}{mg:Str->Option Value}{base h:Heap}{x q p p2 p3 p4 p5:Str}{st:Stmt}{f C T:Addr}{fd:FuncData}{sp:Sp}{k n:Nat}
structure TB(P:Program)(w:World)(K:Frag)(mg:Str->Option Value)(base:Heap):Prop where
 mgo:∀{x:Str}{v:Value},nsIn K mainGlobals x=some (some v)->mg x=some v
structure GD(K:Frag)(x:Str)(st:Stmt)(f:Addr)(fd:FuncData):Prop where
 a:nsIn K mainGlobals x=some (some (.ref f))
 F:Fun K x x st f fd
structure MD(K:Frag)(C:Addr)(x q:Str)(st:Stmt)(f:Addr)(fd:FuncData):Prop where
 m:xH K C x f
 F:Fun K x q st f fd
structure DD(K:Frag)(C:Addr)(x q:Str)(st:Stmt)(f:Addr)(fd:FuncData)(ds:List Value):Prop where
 m:xH K C x f
 F:zaf K x q st f fd ds
structure CD(K:Frag)(x:Str)(C:Addr):Prop where
 a:nsIn K mainGlobals x=some (some (.ref C))
 c:Cls K C
 ms:makesIn K C=true
 kc:keepIn K (.ref C)=true
theorem zm4{oc:Value}{od an:Option Addr}{osl:Array (Option Value)}{kV doc pm cdv ct:Value}(a:nsIn K mainGlobals x=some (some (.ref f)))(l:K.lookup f=some ⟨oc,od,.func (fnOf x x (yd st) (z5 st) (zj st) .none kV doc pm an cdv ct),osl⟩)
  (c:codeIn K cdv x=true) (k:keepIn K (.ref f)=true):GD K x st f (fnOf x x (yd st) (z5 st) (zj st) .none kV doc pm an cdv ct):=⟨a,zhn l c k⟩
theorem zm3{oc:Value}{od an:Option Addr}{osl:Array (Option Value)}{kV doc pm cdv ct:Value}(a:findIn K (.ref C) x=some (some (.ref f)))(i:isFn K (.ref f)=true)(l:K.lookup f=some ⟨oc,od,.func (fnOf x q (yd st) (z5 st) (zj st) .none kV doc pm an cdv ct),osl⟩)
  (c:codeIn K cdv q=true) (k:keepIn K (.ref f)=true):MD K C x q st f (fnOf x q (yd st) (z5 st) (zj st) .none kV doc pm an cdv ct):=⟨⟨a,i,k⟩,zhn l c k⟩
theorem zm5{oc oT:Value}{od an dT:Option Addr}{osl sT:Array (Option Value)}{kV doc pm cdv ct d:Value}(a:findIn K (.ref C) x=some (some (.ref f)))(i:isFn K (.ref f)=true)(l:K.lookup f=some ⟨oc,od,.func (fnOf x q (yd st) (z5 st) (zj st) (.ref T) kV doc pm an cdv ct),osl⟩)
  (c:codeIn K cdv q=true) (k:keepIn K (.ref f)=true) (t:K.lookup T=some ⟨oT,dT,.seq #[d] n,sT⟩):DD K C x q st f (fnOf x q (yd st) (z5 st) (zj st) (.ref T) kV doc pm an cdv ct) [d]:=⟨⟨a,i,k⟩,zi1 (items:=[d]) l c k t rfl⟩
theorem zm6(a:nsIn K mainGlobals x=some (some (.ref C)))(pg:plainGet K C Str.empty=true)(hd:hasDictIn K C=true)(po:plainOver K C=true)(sa:findIn K (.ref C) "__setattr__"=some (some (.builtin "object.__setattr__")))(mk:makesIn K C=true)(kc:keepIn K (.ref C)=true):CD K x C:=⟨a,⟨pg,hd,po,sa⟩,mk,kc⟩
theorem Fun.b1(F:Fun K x q st f fd)(h:∀(kV doc pm:Value) (an:Option Addr) (cdv ct u:Value),bindArgs (fnOf x q (yd st) (z5 st) (zj st) .none kV doc pm an cdv ct) ⟨[u],[]⟩=pure [(p,u)]:=by intros;rfl):z0 K fd [p] []:=
 F.binds fun _ _ _ _ _ _ us hl=>match us,hl with|[_],_=>h _ _ _ _ _ _ _
theorem Fun.b2(F:Fun K x q st f fd)(h:∀(kV doc pm:Value) (an:Option Addr) (cdv ct u u2:Value),bindArgs (fnOf x q (yd st) (z5 st) (zj st) .none kV doc pm an cdv ct) ⟨[u,u2],[]⟩=pure [(p,u),(p2,u2)]:=by intros;rfl):z0 K fd [p,p2] []:=
 F.binds fun _ _ _ _ _ _ us hl=>match us,hl with|[_,_],_=>h _ _ _ _ _ _ _ _
theorem Fun.b3(F:Fun K x q st f fd)(h:∀(kV doc pm:Value) (an:Option Addr) (cdv ct u u2 u3:Value),bindArgs (fnOf x q (yd st) (z5 st) (zj st) .none kV doc pm an cdv ct) ⟨[u,u2,u3],[]⟩=pure [(p,u),(p2,u2),(p3,u3)]:=by intros;rfl):z0 K fd [p,p2,p3] []:=
 F.binds fun _ _ _ _ _ _ us hl=>match us,hl with|[_,_,_],_=>h _ _ _ _ _ _ _ _ _
theorem Fun.b4(F:Fun K x q st f fd)(h:∀(kV doc pm:Value) (an:Option Addr) (cdv ct u u2 u3 u4:Value),bindArgs (fnOf x q (yd st) (z5 st) (zj st) .none kV doc pm an cdv ct) ⟨[u,u2,u3,u4],[]⟩=pure [(p,u),(p2,u2),(p3,u3),(p4,u4)]:=by intros;rfl):z0 K fd [p,p2,p3,p4] []:=
 F.binds fun _ _ _ _ _ _ us hl=>match us,hl with|[_,_,_,_],_=>h _ _ _ _ _ _ _ _ _ _
theorem Fun.b5(F:Fun K x q st f fd)(h:∀(kV doc pm:Value) (an:Option Addr) (cdv ct u u2 u3 u4 u5:Value),bindArgs (fnOf x q (yd st) (z5 st) (zj st) .none kV doc pm an cdv ct) ⟨[u,u2,u3,u4,u5],[]⟩=pure [(p,u),(p2,u2),(p3,u3),(p4,u4),(p5,u5)]:=by intros;rfl):z0 K fd [p,p2,p3,p4,p5] []:=
 F.binds fun _ _ _ _ _ _ us hl=>match us,hl with|[_,_,_,_,_],_=>h _ _ _ _ _ _ _ _ _ _ _
theorem GD.c1(g:GD K x st f fd)(B:TB P w K mg base)(ok:zC P w K mg base CX0 k f fd [p] sp)(h:∀(kV doc pm:Value) (an:Option Addr) (cdv ct u:Value),bindArgs (fnOf x x (yd st) (z5 st) (zj st) .none kV doc pm an cdv ct) ⟨[u],[]⟩=pure [(p,u)]:=by intros;rfl):zG P w K mg base k x f fd [p] sp:=⟨ok,B.mgo g.a,g.F.kp,g.F.b1 h⟩
theorem GD.c2(g:GD K x st f fd)(B:TB P w K mg base)(ok:zC P w K mg base CX0 k f fd [p,p2] sp)(h:∀(kV doc pm:Value) (an:Option Addr) (cdv ct u u2:Value),bindArgs (fnOf x x (yd st) (z5 st) (zj st) .none kV doc pm an cdv ct) ⟨[u,u2],[]⟩=pure [(p,u),(p2,u2)]:=by intros;rfl):zG P w K mg base k x f fd [p,p2] sp:=⟨ok,B.mgo g.a,g.F.kp,g.F.b2 h⟩
theorem GD.c3(g:GD K x st f fd)(B:TB P w K mg base)(ok:zC P w K mg base CX0 k f fd [p,p2,p3] sp)(h:∀(kV doc pm:Value) (an:Option Addr) (cdv ct u u2 u3:Value),bindArgs (fnOf x x (yd st) (z5 st) (zj st) .none kV doc pm an cdv ct) ⟨[u,u2,u3],[]⟩=pure [(p,u),(p2,u2),(p3,u3)]:=by intros;rfl):zG P w K mg base k x f fd [p,p2,p3] sp:=⟨ok,B.mgo g.a,g.F.kp,g.F.b3 h⟩
theorem GD.c4(g:GD K x st f fd)(B:TB P w K mg base)(ok:zC P w K mg base CX0 k f fd [p,p2,p3,p4] sp)(h:∀(kV doc pm:Value) (an:Option Addr) (cdv ct u u2 u3 u4:Value),bindArgs (fnOf x x (yd st) (z5 st) (zj st) .none kV doc pm an cdv ct) ⟨[u,u2,u3,u4],[]⟩=pure [(p,u),(p2,u2),(p3,u3),(p4,u4)]:=by intros;rfl):zG P w K mg base k x f fd [p,p2,p3,p4] sp:=⟨ok,B.mgo g.a,g.F.kp,g.F.b4 h⟩
theorem GD.c5(g:GD K x st f fd)(B:TB P w K mg base)(ok:zC P w K mg base CX0 k f fd [p,p2,p3,p4,p5] sp)(h:∀(kV doc pm:Value) (an:Option Addr) (cdv ct u u2 u3 u4 u5:Value),bindArgs (fnOf x x (yd st) (z5 st) (zj st) .none kV doc pm an cdv ct) ⟨[u,u2,u3,u4,u5],[]⟩=pure [(p,u),(p2,u2),(p3,u3),(p4,u4),(p5,u5)]:=by intros;rfl):zG P w K mg base k x f fd [p,p2,p3,p4,p5] sp:=⟨ok,B.mgo g.a,g.F.kp,g.F.b5 h⟩
theorem GD.law(g:GD K x st f fd)(h:∀(kV doc pm:Value) (an:Option Addr) (cdv ct u:Value),bindArgs (fnOf x x (yd st) (z5 st) (zj st) .none kV doc pm an cdv ct) ⟨[u],[]⟩=pure [(p,u)]:=by intros;rfl):∀(s:Shared) (v:Value),BindsTo s fd ⟨[v],[]⟩ [(p,v)]:=by
 obtain⟨oc,od,kV,doc,pm,an,cdv,ct,osl,rfl,lk,hcd⟩:=g.F.ex;exact fun s v=>.of_eq (h kV doc pm an cdv ct v)
theorem DD.b0{d:Value}(D:DD K C x q st f fd [d])(h:∀(T:Addr) (kV doc pm:Value) (an:Option Addr) (cdv ct u u2 u3:Value),∃k:Option (Array Value)->Sem (List (Str×Value)),bindArgs (fnOf x q (yd st) (z5 st) (zj st) (.ref T) kV doc pm an cdv ct) ⟨[u,u2,u3],[]⟩=seqItems? (.ref T) >>= k/\k (some [d].toArray)=pure [(p,u),(p2,u2),(p3,u3)]:=by exact fun _ _ _ _ _ _ _ _ _ _=>⟨_,rfl,rfl⟩):z0 K fd [p,p2,p3] []:=
 fun _ us KX hl=>match us,hl with|[_,_,_],_=>D.F.bindsTo (fun _ _ _ _ _ _ _=>h _ _ _ _ _ _ _ _ _ _) KX
end
end L2
namespace PySem.W.Fast
def tw975093752296735416:=()
def tw14228339428121491273:=()
def tw9655313196621114459:=()
def tw8843454218310880102:=()
def tw4049704887496301721:=()
def tw4056088111120731075:=()
def tw3056056016942814427:=()
def tw5657735647688886334:=()
def tw4371942757698106475:=()
def tw4688456544664340267:=()
def tw17642286922380797747:=()
def tw6513595062681497499:=()
def tw5798382272944115006:=()
def tw16975590752432488617:=()
def tw11316137399668376619:=()
def tw15249943102389258209:=()
def tw1611490542852384341:=()
def tw18347856127708326976:=()
def tw4685830223123436311:=()
def tw9082778661296891740:=()
def tw14652782366355354373:=()
def tw13567002271309165887:=()
def tw7774590385626257458:=()
def tw15939200709042356265:=()
def tw9329083542312790235:=()
def tw2769848289256946058:=()
def tw5972201516876419948:=()
def tw6378441198738390995:=()
def tw2140233418146814467:=()
def tw3260105542880936956:=()
def tw9188218555503091410:=()
def tw5715907994407876484:=()
def tw17037994936479308110:=()
def tw12495320575233276135:=()
def tw14430767118957699498:=()
def tw1662977792151436474:=()
def tw18364485393970873260:=()
def tw18167171928791485448:=()
def tw6570945826500178494:=()
def tw5121718378745653694:=()
def tw2334384235860773953:=()
def tw14904996280594574662:=()
def tw9127266146962467393:=()
def tw8687990660521165652:=()
def tw9750451349435912416:=()
def tw511519327325287165:=()
def tw12078385203857330364:=()
def tw15758965910874928479:=()
def tw12853501909492968459:=()
def tw9330747446630412846:=()
def tw3390219463999552173:=()
def tw2253020734269768366:=()
def tw14602537721585463923:=()
def tw7280700254006760094:=()
def tw4576015410007442189:=()
def tw15901342257918392775:=()
def tw1273642452056923848:=()
def tw13444352862993688428:=()
def tw5229239116631785720:=()
def tw9196259387065321662:=()
def tw618150433296243917:=()
def tw3309258482048086712:=()
def tw12833609225185930922:=()
def tw2812327134114265198:=()
def tw2079509990701227912:=()
def tw3252821887501002962:=()
def tw13893001990082890912:=()
def tw12277051542968642858:=()
def tw9713300821965588720:=()
def tw7351101780967962030:=()
def tw12300929822660606583:=()
def tw5254532433750187486:=()
def tw140907453255649030:=()
def tw18048102959933096832:=()
def tw1033726831344559718:=()
def tw10566743260129596239:=()
def tw2839249787215506674:=()
def tw14849968098632430861:=()
def tw12108832912171472672:=()
def tw6404353909352610246:=()
def tw11767438550176785040:=()
def tw1971222813388403660:=()
def tw12233646475026513168:=()
end PySem.W.Fast
namespace K26
open PySem L2 PyProof.Rows
theorem ziU{w:World}{K:Frag}{Gr:Addr}{es:Array DictEntry}{n:Nat}{t0 t1 t2 t3 t4:Tok}(hl:K.lookup Gr=some ⟨.type "dict",none,.dict es n,#[]⟩)(hk:KeysLit w.params es.toList)(h0:nsIn K Gr "seat"=some (some (.int 0 t0)))(h1:nsIn K Gr "both"=some (some (.int 0 t1)))(h2:nsIn K Gr "tail"=some (some (.int 1 t2)))
  (h3:nsIn K Gr "tag"=some (some (.int 2 t3))) (h4:nsIn K Gr "bag"=some (some (.int 3 t4))):zk0 w K Gr ziX:=by
 exists ⟨es,n,hl,hk⟩,fun x v h=>?_;unfold ziX at h;by_cases e0:x="seat"
 ·subst e0;rw[lookup_cons_self] at h;cases h;exact⟨_,h0,_,rfl⟩
 rw[lookup_cons,beq_eq_false_iff_ne.mpr e0] at h;by_cases e1:x="both"
 ·subst e1;rw[lookup_cons_self] at h;cases h;exact⟨_,h1,_,rfl⟩
 rw[lookup_cons,beq_eq_false_iff_ne.mpr e1] at h;by_cases e2:x="tail"
 ·subst e2;rw[lookup_cons_self] at h;cases h;exact⟨_,h2,_,rfl⟩
 rw[lookup_cons,beq_eq_false_iff_ne.mpr e2] at h;by_cases e3:x="tag"
 ·subst e3;rw[lookup_cons_self] at h;cases h;exact⟨_,h3,_,rfl⟩
 rw[lookup_cons,beq_eq_false_iff_ne.mpr e3] at h;by_cases e4:x="bag"
 ·subst e4;rw[lookup_cons_self] at h;cases h;exact⟨_,h4,_,rfl⟩
 rw[lookup_cons,beq_eq_false_iff_ne.mpr e4] at h;cases h
theorem zmR{l:PySem.W.OpenLaw}{w:World}{K:Frag}{h:Heap}{mg:Str->Option Value}{fa D C0 C1 C2 C3 C4 FM f1 f2 f3 f4 f5 f6 f7 f8 f9 f10 f11 f12 f13 f14 f15 f16 f17 f18 f19 f20 f21 f22 f23 f24 f25 f26 f27 f28 f29 f30 f31 f32 f33 f34 f35 f36 f37 f38 f39 f40 f41 f42 f43 f44 f45 f46 f47 f48 f49 f50 f51 f52 f53 f54 f55 f56 f57 f58 f59 f60 f61 f62 f63 CE E0 E1 E2 E3 E4 E5 E6 E7 E8 E9 E10 E11 E12 E13 E14 E15:Addr}{e1 e2 e3 e4 e5 e6 e7 e8 e9 e10 e11 e12 e13 e14 e15 e16 e17 e18 e19 e20 e21 e22 e23 e24 e25 e26 e27 e28 e29 e30 e31 e32 e33 e34 e35 e36 e37 e38 e39 e40 e41 e42 e43 e44 e45 e46 e47 e48 e49 e50 e51 e52 e53 e54 e55 e56 e57 e58 e59 e60 e61 e62 e63:FuncData}{tP tB tO sg Gr:Addr}{tL tN tMP tMB ktP0 ktP1 ktB0 ktB1 ktO0 ktO1 ktO2 ksg0 ksg1 kG0 kG1 kG2 kG3 kG4:Tok}{odtP odtB odtO odsg:Option Addr}{ntP ntB ntO nsg nG:Nat}{sltP sltB sltO slsg:Array (Option Value)}{esG:Array DictEntry}(X:K.In h)(G:h.Ns mainGlobals mg)(hfa:mg "law"=some (.ref fa))
  (cD:CD K "Parameter" D)
  (cC0:CD K "Seat" C0)
  (nC0:findIn K (.ref C0) "word"=some none/\findIn K (.ref C0) "name"=some none/\findIn K (.ref C0) "may_lack"=some none)
  (cC1:CD K "Both" C1)
  (nC1:findIn K (.ref C1) "word"=some none/\findIn K (.ref C1) "name"=some none/\findIn K (.ref C1) "may_lack"=some none)
  (cC2:CD K "Tail" C2)
  (nC2:findIn K (.ref C2) "word"=some none/\findIn K (.ref C2) "name"=some none/\findIn K (.ref C2) "may_lack"=some none)
  (cC3:CD K "Tag" C3)
  (nC3:findIn K (.ref C3) "word"=some none/\findIn K (.ref C3) "name"=some none/\findIn K (.ref C3) "may_lack"=some none)
  (cC4:CD K "Bag" C4)
  (nC4:findIn K (.ref C4) "word"=some none/\findIn K (.ref C4) "name"=some none/\findIn K (.ref C4) "may_lack"=some none)
  (cFM:CD K "Form" FM)
  (nFM:findIn K (.ref FM) "row"=some none/\findIn K (.ref FM) "bar_names"=some none/\findIn K (.ref FM) "place_count"=some none/\findIn K (.ref FM) "tail_number"=some none/\findIn K (.ref FM) "bag_number"=some none/\findIn K (.ref FM) "doors"=some none)
  (g1:GD K "is_name" sIs f1 e1)
  (g2:MD K D "__init__" "Parameter.__init__" zcZ f2 e2)
  (g3:MD K D "free" "Parameter.free" zgc f3 e3)
  (g4:MD K D "by_place" "Parameter.by_place" qe f4 e4)
  (g5:MD K D "by_name" "Parameter.by_name" zbe f5 e5)
  (g6:MD K D "takes_one" "Parameter.takes_one" zcU f6 e6)
  (g7:MD K D "told" "Parameter.told" zf2 f7 e7)
  (g8:DD K C0 "__init__" "Seat.__init__" zf4 f8 e8 [Value.bool false])
  (g9:DD K C1 "__init__" "Both.__init__" zgi f9 e9 [Value.bool false])
  (g10:MD K C2 "__init__" "Tail.__init__" zf3 f10 e10)
  (g11:DD K C3 "__init__" "Tag.__init__" zj8 f11 e11 [Value.bool false])
  (g12:MD K C4 "__init__" "Bag.__init__" zkd f12 e12)
  (g13:DD K FM "__init__" "Form.__init__" zc7 f13 e13 [Value.none])
  (g14:MD K FM "keep" "Form.keep" zgb f14 e14)
  (g15:MD K FM "parameters" "Form.parameters" zc6 f15 e15)
  (g16:MD K FM "bars" "Form.bars" zc8 f16 e16)
  (g17:MD K FM "places" "Form.places" qd f17 e17)
  (g18:MD K FM "tail" "Form.tail" zc5 f18 e18)
  (g19:MD K FM "bag" "Form.bag" zgg f19 e19)
  (g20:MD K FM "number_of" "Form.number_of" zgf f20 e20)
  (g21:MD K FM "told" "Form.told" zc4 f21 e21)
  (g22:GD K "parameter_of" zj9 f22 e22)
  (g23:GD K "refuse_too_many" zcW f23 e23)
  (g24:GD K "refuse_bad_order" zba f24 e24)
  (g25:GD K "refuse_bars_without_name" zcX f25 e25)
  (g26:GD K "refuse_twice" za9 f26 e26)
  (g27:GD K "number_of_word" zf7 f27 e27)
  (yM:nsIn K mainGlobals "Misfit"=some (some (.ref E15)))
  (g28:MD K E15 "__init__" "Misfit.__init__" zf1 f28 e28)
  (g29:GD K "laid" zf8 f29 e29)
  (g30:GD K "misfits" qb f30 e30)
  (g31:GD K "fits" zge f31 e31)
  (g32:GD K "shape" zcV f32 e32)
  (g33:GD K "first_numbers" zbc f33 e33)
  (g34:GD K "misfits_of" zkb f34 e34)
  (g35:GD K "overs" zc0 f35 e35)
  (g36:GD K "unwelcomes" zj7 f36 e36)
  (g37:GD K "lackings" zf9 f37 e37)
  (g38:GD K "one_entry" zf6 f38 e38)
  (g39:GD K "refuse" za8 f39 e39)
  (g40:GD K "entry" zc9 f40 e40)
  (g41:GD K "paper" zcY f41 e41)
  (g42:GD K "_law_cell" zgh f42 e42)
  (g43:GD K "_law_is_int" zc3 f43 e43)
  (g44:GD K "_law_mix" zka f44 e44)
  (g45:GD K "_law_pool" zf5 f45 e45)
  (g46:GD K "_law_form" zgd f46 e46)
  (g47:GD K "_law_made" zc1 f47 e47)
  (g48:GD K "_law_thing" zcT f48 e48)
  (g49:GD K "_law_items" zc2 f49 e49)
  (g50:GD K "_law_told_names" zcS f50 e50)
  (g51:GD K "_law_fitting" qc f51 e51)
  (g52:GD K "_law_wrong" zcQ f52 e52)
  (g53:GD K "_law_misfits" zga f53 e53)
  (g54:GD K "_law_words" zcR f54 e54)
  (g55:GD K "_law_paper" zbb f55 e55)
  (g56:GD K "_law_copied" zbd f56 e56)
  (g57:GD K "_law_lettered" jc f57 e57)
  (g58:GD K "_law_renamed" j9 f58 e58)
  (g59:GD K "_law_named_beside" qa f59 e59)
  (g60:GD K "_law_beside" zbf f60 e60)
  (g61:GD K "_law_beside_right" zbg f61 e61)
  (g62:GD K "_law_spoilt" za7 f62 e62)
  (g63:GD K "law" zkc f63 e63)
  (zisinstance:nsIn K mainGlobals "isinstance"=some none)
  (zstr:nsIn K mainGlobals "str"=some none)
  (zbool:nsIn K mainGlobals "bool"=some none)
  (zlen:nsIn K mainGlobals "len"=some none)
  (zall:nsIn K mainGlobals "all"=some none)
  (zrange:nsIn K mainGlobals "range"=some none)
  (zlist:nsIn K mainGlobals "list"=some none)
  (zenumerate:nsIn K mainGlobals "enumerate"=some none)
  (zset:nsIn K mainGlobals "set"=some none)
  (zmin:nsIn K mainGlobals "min"=some none)
  (zmax:nsIn K mainGlobals "max"=some none)
  (zint:nsIn K mainGlobals "int"=some none)
  (ztuple:nsIn K mainGlobals "tuple"=some none)
  (zValueError:nsIn K mainGlobals "ValueError"=some none)
  (zrepr:nsIn K mainGlobals "repr"=some none)
  (gL:nsIn K mainGlobals "LETTERS"=some (some (.str letters tL)))
  (gN:nsIn K mainGlobals "LONGEST"=some (some (.int 8 tN)))
  (gMP:nsIn K mainGlobals "MOST_PARAMETERS"=some (some (.int 24 tMP)))
  (gMB:nsIn K mainGlobals "MOST_BARS"=some (some (.int 60 tMB)))
  (ytP:nsIn K mainGlobals "BY_PLACE"=some (some (.ref tP)))
  (utP:K.lookup tP=some ⟨.type "tuple",odtP,.seq #[.str "seat" ktP0,.str "both" ktP1] ntP,sltP⟩)
  (ytB:nsIn K mainGlobals "BY_NAME"=some (some (.ref tB)))
  (utB:K.lookup tB=some ⟨.type "tuple",odtB,.seq #[.str "both" ktB0,.str "tag" ktB1] ntB,sltB⟩)
  (ytO:nsIn K mainGlobals "OF_ONE_THING"=some (some (.ref tO)))
  (utO:K.lookup tO=some ⟨.type "tuple",odtO,.seq #[.str "seat" ktO0,.str "both" ktO1,.str "tag" ktO2] ntO,sltO⟩)
  (ysg:nsIn K mainGlobals "SINGLE_GROUPS"=some (some (.ref sg)))
  (usg:K.lookup sg=some ⟨.type "tuple",odsg,.seq #[.int 1 ksg0,.int 3 ksg1] nsg,slsg⟩)
  (yGr:nsIn K mainGlobals "GROUPS"=some (some (.ref Gr)))
  (lGr:K.lookup Gr=some ⟨.type "dict",none,.dict esG nG,#[]⟩)
  (kGr:KeysLit w.params esG.toList)
  (eG0:nsIn K Gr "seat"=some (some (.int 0 kG0)))
  (eG1:nsIn K Gr "both"=some (some (.int 0 kG1)))
  (eG2:nsIn K Gr "tail"=some (some (.int 1 kG2)))
  (eG3:nsIn K Gr "tag"=some (some (.int 2 kG3)))
  (eG4:nsIn K Gr "bag"=some (some (.int 3 kG4)))
  (dga:qX K D "__init__" f2)
  (h0:findIn K (.ref C0) "free"=some (some (.ref f3))/\findIn K (.ref C0) "by_place"=some (some (.ref f4))/\findIn K (.ref C0) "by_name"=some (some (.ref f5))/\findIn K (.ref C0) "takes_one"=some (some (.ref f6))/\findIn K (.ref C0) "told"=some (some (.ref f7)))
  (h1:findIn K (.ref C1) "free"=some (some (.ref f3))/\findIn K (.ref C1) "by_place"=some (some (.ref f4))/\findIn K (.ref C1) "by_name"=some (some (.ref f5))/\findIn K (.ref C1) "takes_one"=some (some (.ref f6))/\findIn K (.ref C1) "told"=some (some (.ref f7)))
  (h2:findIn K (.ref C2) "free"=some (some (.ref f3))/\findIn K (.ref C2) "by_place"=some (some (.ref f4))/\findIn K (.ref C2) "by_name"=some (some (.ref f5))/\findIn K (.ref C2) "takes_one"=some (some (.ref f6))/\findIn K (.ref C2) "told"=some (some (.ref f7)))
  (h3:findIn K (.ref C3) "free"=some (some (.ref f3))/\findIn K (.ref C3) "by_place"=some (some (.ref f4))/\findIn K (.ref C3) "by_name"=some (some (.ref f5))/\findIn K (.ref C3) "takes_one"=some (some (.ref f6))/\findIn K (.ref C3) "told"=some (some (.ref f7)))
  (h4:findIn K (.ref C4) "free"=some (some (.ref f3))/\findIn K (.ref C4) "by_place"=some (some (.ref f4))/\findIn K (.ref C4) "by_name"=some (some (.ref f5))/\findIn K (.ref C4) "takes_one"=some (some (.ref f6))/\findIn K (.ref C4) "told"=some (some (.ref f7)))
  (yCE:nsIn K mainGlobals "CallError"=some (some (.ref CE)))
  (xg:specialIn K (.builtin "object.__class__") "__get__"=some (some (.builtin "getset_descriptor.__get__"))/\PySem.W.takesIn K (.builtin "object.__class__")=some true)
  (yE0:nsIn K mainGlobals "NoName"=some (some (.ref E0)))
  (yE1:nsIn K mainGlobals "TooMany"=some (some (.ref E1)))
  (yE2:nsIn K mainGlobals "BadOrder"=some (some (.ref E2)))
  (yE3:nsIn K mainGlobals "Twice"=some (some (.ref E3)))
  (yE4:nsIn K mainGlobals "NoChange"=some (some (.ref E4)))
  (yE5:nsIn K mainGlobals "NoDefault"=some (some (.ref E5)))
  (yE6:nsIn K mainGlobals "NoText"=some (some (.ref E6)))
  (yE7:nsIn K mainGlobals "NoRow"=some (some (.ref E7)))
  (yE8:nsIn K mainGlobals "Unknown"=some (some (.ref E8)))
  (yE9:nsIn K mainGlobals "Doubled"=some (some (.ref E9)))
  (yE10:nsIn K mainGlobals "Over"=some (some (.ref E10)))
  (yE11:nsIn K mainGlobals "Barred"=some (some (.ref E11)))
  (yE12:nsIn K mainGlobals "Again"=some (some (.ref E12)))
  (yE13:nsIn K mainGlobals "Strange"=some (some (.ref E13)))
  (yE14:nsIn K mainGlobals "Lacking"=some (some (.ref E14)))
  (ec9:(clsIn K E9).isSome=true/\L2.zhH K E9=true/\L2.zk3 K E9=true)
  (ec10:(clsIn K E10).isSome=true/\L2.zhH K E10=true/\L2.zk3 K E10=true)
  (ec11:(clsIn K E11).isSome=true/\L2.zhH K E11=true/\L2.zk3 K E11=true)
  (ec12:(clsIn K E12).isSome=true/\L2.zhH K E12=true/\L2.zk3 K E12=true)
  (ec13:(clsIn K E13).isSome=true/\L2.zhH K E13=true/\L2.zk3 K E13=true)
  (ec14:(clsIn K E14).isSome=true/\L2.zhH K E14=true/\L2.zk3 K E14=true)
  (ea9:findIn K (.ref E9) "__getattribute__"=some (some (.builtin "BaseException.__getattribute__"))/\findIn K (.ref E9) "__getattr__"=some none/\findIn K (.ref E9) "__class__"=some (some (.builtin "object.__class__"))/\mroIn K E9 (.type "BaseException")=some true/\mroIn K E9 (.type "object")=some true/\keepIn K (.ref E9)=true/\findIn K (.ref E9) "__init__"=some (some (.ref f28))/\specialIn K (.ref E9) "__call__"=some (some (.builtin "type.__call__"))/\instIn K (.ref E9) (.type "type")=some true/\findIn K (.ref E9) "__setattr__"=some (some (.builtin "object.__setattr__"))/\findIn K (.ref E9) "number"=some none)
  (ea10:findIn K (.ref E10) "__getattribute__"=some (some (.builtin "BaseException.__getattribute__"))/\findIn K (.ref E10) "__getattr__"=some none/\findIn K (.ref E10) "__class__"=some (some (.builtin "object.__class__"))/\mroIn K E10 (.type "BaseException")=some true/\mroIn K E10 (.type "object")=some true/\keepIn K (.ref E10)=true/\findIn K (.ref E10) "__init__"=some (some (.ref f28))/\specialIn K (.ref E10) "__call__"=some (some (.builtin "type.__call__"))/\instIn K (.ref E10) (.type "type")=some true/\findIn K (.ref E10) "__setattr__"=some (some (.builtin "object.__setattr__"))/\findIn K (.ref E10) "number"=some none)
  (ea11:findIn K (.ref E11) "__getattribute__"=some (some (.builtin "BaseException.__getattribute__"))/\findIn K (.ref E11) "__getattr__"=some none/\findIn K (.ref E11) "__class__"=some (some (.builtin "object.__class__"))/\mroIn K E11 (.type "BaseException")=some true/\mroIn K E11 (.type "object")=some true/\keepIn K (.ref E11)=true/\findIn K (.ref E11) "__init__"=some (some (.ref f28))/\specialIn K (.ref E11) "__call__"=some (some (.builtin "type.__call__"))/\instIn K (.ref E11) (.type "type")=some true/\findIn K (.ref E11) "__setattr__"=some (some (.builtin "object.__setattr__"))/\findIn K (.ref E11) "number"=some none)
  (ea12:findIn K (.ref E12) "__getattribute__"=some (some (.builtin "BaseException.__getattribute__"))/\findIn K (.ref E12) "__getattr__"=some none/\findIn K (.ref E12) "__class__"=some (some (.builtin "object.__class__"))/\mroIn K E12 (.type "BaseException")=some true/\mroIn K E12 (.type "object")=some true/\keepIn K (.ref E12)=true/\findIn K (.ref E12) "__init__"=some (some (.ref f28))/\specialIn K (.ref E12) "__call__"=some (some (.builtin "type.__call__"))/\instIn K (.ref E12) (.type "type")=some true/\findIn K (.ref E12) "__setattr__"=some (some (.builtin "object.__setattr__"))/\findIn K (.ref E12) "number"=some none)
  (ea13:findIn K (.ref E13) "__getattribute__"=some (some (.builtin "BaseException.__getattribute__"))/\findIn K (.ref E13) "__getattr__"=some none/\findIn K (.ref E13) "__class__"=some (some (.builtin "object.__class__"))/\mroIn K E13 (.type "BaseException")=some true/\mroIn K E13 (.type "object")=some true/\keepIn K (.ref E13)=true/\findIn K (.ref E13) "__init__"=some (some (.ref f28))/\specialIn K (.ref E13) "__call__"=some (some (.builtin "type.__call__"))/\instIn K (.ref E13) (.type "type")=some true/\findIn K (.ref E13) "__setattr__"=some (some (.builtin "object.__setattr__"))/\findIn K (.ref E13) "number"=some none)
  (ea14:findIn K (.ref E14) "__getattribute__"=some (some (.builtin "BaseException.__getattribute__"))/\findIn K (.ref E14) "__getattr__"=some none/\findIn K (.ref E14) "__class__"=some (some (.builtin "object.__class__"))/\mroIn K E14 (.type "BaseException")=some true/\mroIn K E14 (.type "object")=some true/\keepIn K (.ref E14)=true/\findIn K (.ref E14) "__init__"=some (some (.ref f28))/\specialIn K (.ref E14) "__call__"=some (some (.builtin "type.__call__"))/\instIn K (.ref E14) (.type "type")=some true/\findIn K (.ref E14) "__setattr__"=some (some (.builtin "object.__setattr__"))/\findIn K (.ref E14) "number"=some none)
  (k9:kitOne K (.ref E9) (.ref E9)=some true/\kitOne K (.ref E9) (.ref E10)=some false/\kitOne K (.ref E9) (.ref E11)=some false/\kitOne K (.ref E9) (.ref E12)=some false/\kitOne K (.ref E9) (.ref E13)=some false/\kitOne K (.ref E9) (.ref E14)=some false/\kitOne K (.ref E9) (.ref E15)=some true/\kitOne K (.ref E9) (.type "ValueError")=some true/\kitAny K (.ref E9) [.ref E2,.ref E4,.ref E5,.ref E0,.ref E7,.ref E6,.ref E1,.ref E3,.ref E8]=some false)
  (k10:kitOne K (.ref E10) (.ref E9)=some false/\kitOne K (.ref E10) (.ref E10)=some true/\kitOne K (.ref E10) (.ref E11)=some false/\kitOne K (.ref E10) (.ref E12)=some false/\kitOne K (.ref E10) (.ref E13)=some false/\kitOne K (.ref E10) (.ref E14)=some false/\kitOne K (.ref E10) (.ref E15)=some true/\kitOne K (.ref E10) (.type "ValueError")=some true/\kitAny K (.ref E10) [.ref E2,.ref E4,.ref E5,.ref E0,.ref E7,.ref E6,.ref E1,.ref E3,.ref E8]=some false)
  (k11:kitOne K (.ref E11) (.ref E9)=some false/\kitOne K (.ref E11) (.ref E10)=some false/\kitOne K (.ref E11) (.ref E11)=some true/\kitOne K (.ref E11) (.ref E12)=some false/\kitOne K (.ref E11) (.ref E13)=some false/\kitOne K (.ref E11) (.ref E14)=some false/\kitOne K (.ref E11) (.ref E15)=some true/\kitOne K (.ref E11) (.type "ValueError")=some true/\kitAny K (.ref E11) [.ref E2,.ref E4,.ref E5,.ref E0,.ref E7,.ref E6,.ref E1,.ref E3,.ref E8]=some false)
  (k12:kitOne K (.ref E12) (.ref E9)=some false/\kitOne K (.ref E12) (.ref E10)=some false/\kitOne K (.ref E12) (.ref E11)=some false/\kitOne K (.ref E12) (.ref E12)=some true/\kitOne K (.ref E12) (.ref E13)=some false/\kitOne K (.ref E12) (.ref E14)=some false/\kitOne K (.ref E12) (.ref E15)=some true/\kitOne K (.ref E12) (.type "ValueError")=some true/\kitAny K (.ref E12) [.ref E2,.ref E4,.ref E5,.ref E0,.ref E7,.ref E6,.ref E1,.ref E3,.ref E8]=some false)
  (k13:kitOne K (.ref E13) (.ref E9)=some false/\kitOne K (.ref E13) (.ref E10)=some false/\kitOne K (.ref E13) (.ref E11)=some false/\kitOne K (.ref E13) (.ref E12)=some false/\kitOne K (.ref E13) (.ref E13)=some true/\kitOne K (.ref E13) (.ref E14)=some false/\kitOne K (.ref E13) (.ref E15)=some true/\kitOne K (.ref E13) (.type "ValueError")=some true/\kitAny K (.ref E13) [.ref E2,.ref E4,.ref E5,.ref E0,.ref E7,.ref E6,.ref E1,.ref E3,.ref E8]=some false)
  (k14:kitOne K (.ref E14) (.ref E9)=some false/\kitOne K (.ref E14) (.ref E10)=some false/\kitOne K (.ref E14) (.ref E11)=some false/\kitOne K (.ref E14) (.ref E12)=some false/\kitOne K (.ref E14) (.ref E13)=some false/\kitOne K (.ref E14) (.ref E14)=some true/\kitOne K (.ref E14) (.ref E15)=some true/\kitOne K (.ref E14) (.type "ValueError")=some true/\kitAny K (.ref E14) [.ref E2,.ref E4,.ref E5,.ref E0,.ref E7,.ref E6,.ref E1,.ref E3,.ref E8]=some false)
  (em9:exmOne K (.ref E9) (.ref CE)=some true)
  (em10:exmOne K (.ref E10) (.ref CE)=some true)
  (em11:exmOne K (.ref E11) (.ref CE)=some true)
  (em12:exmOne K (.ref E12) (.ref CE)=some true)
  (em13:exmOne K (.ref E13) (.ref CE)=some true)
  (em14:exmOne K (.ref E14) (.ref CE)=some true)
  : ∃fd:FuncData,(∀(s:Shared) (v:Value),BindsTo s fd ⟨[v],[]⟩ [("_law_script",v)])/\∀base:Heap,K.In base->base.Ns mainGlobals mg->zC l.prog w K mg base CX0 8 fa fd ["_law_script"] (zaY K):=by
 have e:=hfa.symm.trans (mg_of X G g63.a);cases e;have no:∀{x:Str},nsIn K mainGlobals x=some none->mg x=none:=fun z=>PySem.W.mg_none_of X G z;have T:zl5 K mg:=⟨no zisinstance,no zstr,no zbool,no zlen,no zall,no zrange,⟨tL,mg_of X G gL⟩,⟨tN,mg_of X G gN⟩,jA K,zdu K,zch K,zce K,zbo K,zcg K,zdt K,zbq K⟩;have Wd:Wds K mg tP tB tO:=⟨mg_of X G ytP,mg_of X G ytB,mg_of X G ytO,fun H=>.inr ⟨_,_,_,utP,rfl,rfl,z6,.cons ⟨_,rfl⟩ (.cons ⟨_,rfl⟩ (.nil))⟩,fun H=>.inr ⟨_,_,_,utB,rfl,rfl,z6,.cons ⟨_,rfl⟩ (.cons ⟨_,rfl⟩ (.nil))⟩,fun H=>.inr ⟨_,_,_,utO,rfl,rfl,qZ,.cons ⟨_,rfl⟩ (.cons ⟨_,rfl⟩ (.cons ⟨_,rfl⟩ (.nil)))⟩⟩;have TF:zbw w K mg Gr sg:=⟨no zlen,no zenumerate,no zlist,no zset,⟨tMP,mg_of X G gMP⟩,⟨tMB,mg_of X G gMB⟩,mg_of X G yGr,ziU lGr kGr eG0 eG1 eG2 eG3 eG4,mg_of X G ysg,fun H=>.inr ⟨_,_,_,usg,rfl,rfl,z6,.cons ⟨_,rfl⟩ (.cons ⟨_,rfl⟩ .nil)⟩⟩;have pc0:PC K ⟨f3,f4,f5,f6,f7⟩ C0:=⟨cC0.c,nC0.1,nC0.2.1,nC0.2.2,⟨h0.1,g3.m.fn,g3.F.kp⟩,⟨h0.2.1,g4.m.fn,g4.F.kp⟩,⟨h0.2.2.1,g5.m.fn,g5.F.kp⟩,⟨h0.2.2.2.1,g6.m.fn,g6.F.kp⟩,⟨h0.2.2.2.2,g7.m.fn,g7.F.kp⟩⟩;have pc1:PC K ⟨f3,f4,f5,f6,f7⟩ C1:=⟨cC1.c,nC1.1,nC1.2.1,nC1.2.2,⟨h1.1,g3.m.fn,g3.F.kp⟩,⟨h1.2.1,g4.m.fn,g4.F.kp⟩,⟨h1.2.2.1,g5.m.fn,g5.F.kp⟩,⟨h1.2.2.2.1,g6.m.fn,g6.F.kp⟩,⟨h1.2.2.2.2,g7.m.fn,g7.F.kp⟩⟩;have pc2:PC K ⟨f3,f4,f5,f6,f7⟩ C2:=⟨cC2.c,nC2.1,nC2.2.1,nC2.2.2,⟨h2.1,g3.m.fn,g3.F.kp⟩,⟨h2.2.1,g4.m.fn,g4.F.kp⟩,⟨h2.2.2.1,g5.m.fn,g5.F.kp⟩,⟨h2.2.2.2.1,g6.m.fn,g6.F.kp⟩,⟨h2.2.2.2.2,g7.m.fn,g7.F.kp⟩⟩;have pc3:PC K ⟨f3,f4,f5,f6,f7⟩ C3:=⟨cC3.c,nC3.1,nC3.2.1,nC3.2.2,⟨h3.1,g3.m.fn,g3.F.kp⟩,⟨h3.2.1,g4.m.fn,g4.F.kp⟩,⟨h3.2.2.1,g5.m.fn,g5.F.kp⟩,⟨h3.2.2.2.1,g6.m.fn,g6.F.kp⟩,⟨h3.2.2.2.2,g7.m.fn,g7.F.kp⟩⟩;have pc4:PC K ⟨f3,f4,f5,f6,f7⟩ C4:=⟨cC4.c,nC4.1,nC4.2.1,nC4.2.2,⟨h4.1,g3.m.fn,g3.F.kp⟩,⟨h4.2.1,g4.m.fn,g4.F.kp⟩,⟨h4.2.2.1,g5.m.fn,g5.F.kp⟩,⟨h4.2.2.2.1,g6.m.fn,g6.F.kp⟩,⟨h4.2.2.2.2,g7.m.fn,g7.F.kp⟩⟩;have PP:Pcs K ⟨f3,f4,f5,f6,f7⟩ ⟨C0,C1,C2,C3,C4⟩:=fun k hk=>by
  rcases lt5 hk with rfl|rfl|rfl|rfl|rfl
  ·exact pc0
  ·exact pc1
  ·exact pc2
  ·exact pc3
  ·exact pc4
 have FK:FC K FM:=⟨cFM.c,nFM.1,nFM.2.1,nFM.2.2.1,nFM.2.2.2.1,nFM.2.2.2.2.1,nFM.2.2.2.2.2⟩
 let cl:Nat->Addr:=fun j=>match j with|0=>E9|1=>E10|2=>E11|3=>E12|4=>E13|_=>E14
 let oc:Nat->Addr:=fun j=>match j with|0=>E2|1=>E4|2=>E5|3=>E0|4=>E7|5=>E6|6=>E1|7=>E3|_=>E8
 have ex9:yU K E9:=⟨ec9.1,ea9.1,ea9.2.1,ea9.2.2.1,xg.1,xg.2,ea9.2.2.2.1,ea9.2.2.2.2.1⟩;have so9:uY K cl oc E15 CE 0:=⟨ex9,⟨ec9.2.2,ea9.2.2.2.2.2.2.2.2.2.1,ea9.2.2.2.2.1⟩,ea9.2.2.2.2.2.2.2.2.2.2,fun l hl=>match l,hl with|0,_=>k9.1|1,_=>k9.2.1|2,_=>k9.2.2.1|3,_=>k9.2.2.2.1|4,_=>k9.2.2.2.2.1|5,_=>k9.2.2.2.2.2.1|l+6,h=>absurd h (by omega),k9.2.2.2.2.2.2.2.2,k9.2.2.2.2.2.2.1,k9.2.2.2.2.2.2.2.1,em9⟩
 have ex10:yU K E10:=⟨ec10.1,ea10.1,ea10.2.1,ea10.2.2.1,xg.1,xg.2,ea10.2.2.2.1,ea10.2.2.2.2.1⟩;have so10:uY K cl oc E15 CE 1:=⟨ex10,⟨ec10.2.2,ea10.2.2.2.2.2.2.2.2.2.1,ea10.2.2.2.2.1⟩,ea10.2.2.2.2.2.2.2.2.2.2,fun l hl=>match l,hl with|0,_=>k10.1|1,_=>k10.2.1|2,_=>k10.2.2.1|3,_=>k10.2.2.2.1|4,_=>k10.2.2.2.2.1|5,_=>k10.2.2.2.2.2.1|l+6,h=>absurd h (by omega),k10.2.2.2.2.2.2.2.2,k10.2.2.2.2.2.2.1,k10.2.2.2.2.2.2.2.1,em10⟩
 have ex11:yU K E11:=⟨ec11.1,ea11.1,ea11.2.1,ea11.2.2.1,xg.1,xg.2,ea11.2.2.2.1,ea11.2.2.2.2.1⟩;have so11:uY K cl oc E15 CE 2:=⟨ex11,⟨ec11.2.2,ea11.2.2.2.2.2.2.2.2.2.1,ea11.2.2.2.2.1⟩,ea11.2.2.2.2.2.2.2.2.2.2,fun l hl=>match l,hl with|0,_=>k11.1|1,_=>k11.2.1|2,_=>k11.2.2.1|3,_=>k11.2.2.2.1|4,_=>k11.2.2.2.2.1|5,_=>k11.2.2.2.2.2.1|l+6,h=>absurd h (by omega),k11.2.2.2.2.2.2.2.2,k11.2.2.2.2.2.2.1,k11.2.2.2.2.2.2.2.1,em11⟩
 have ex12:yU K E12:=⟨ec12.1,ea12.1,ea12.2.1,ea12.2.2.1,xg.1,xg.2,ea12.2.2.2.1,ea12.2.2.2.2.1⟩;have so12:uY K cl oc E15 CE 3:=⟨ex12,⟨ec12.2.2,ea12.2.2.2.2.2.2.2.2.2.1,ea12.2.2.2.2.1⟩,ea12.2.2.2.2.2.2.2.2.2.2,fun l hl=>match l,hl with|0,_=>k12.1|1,_=>k12.2.1|2,_=>k12.2.2.1|3,_=>k12.2.2.2.1|4,_=>k12.2.2.2.2.1|5,_=>k12.2.2.2.2.2.1|l+6,h=>absurd h (by omega),k12.2.2.2.2.2.2.2.2,k12.2.2.2.2.2.2.1,k12.2.2.2.2.2.2.2.1,em12⟩
 have ex13:yU K E13:=⟨ec13.1,ea13.1,ea13.2.1,ea13.2.2.1,xg.1,xg.2,ea13.2.2.2.1,ea13.2.2.2.2.1⟩;have so13:uY K cl oc E15 CE 4:=⟨ex13,⟨ec13.2.2,ea13.2.2.2.2.2.2.2.2.2.1,ea13.2.2.2.2.1⟩,ea13.2.2.2.2.2.2.2.2.2.2,fun l hl=>match l,hl with|0,_=>k13.1|1,_=>k13.2.1|2,_=>k13.2.2.1|3,_=>k13.2.2.2.1|4,_=>k13.2.2.2.2.1|5,_=>k13.2.2.2.2.2.1|l+6,h=>absurd h (by omega),k13.2.2.2.2.2.2.2.2,k13.2.2.2.2.2.2.1,k13.2.2.2.2.2.2.2.1,em13⟩
 have ex14:yU K E14:=⟨ec14.1,ea14.1,ea14.2.1,ea14.2.2.1,xg.1,xg.2,ea14.2.2.2.1,ea14.2.2.2.2.1⟩;have so14:uY K cl oc E15 CE 5:=⟨ex14,⟨ec14.2.2,ea14.2.2.2.2.2.2.2.2.2.1,ea14.2.2.2.2.1⟩,ea14.2.2.2.2.2.2.2.2.2.2,fun l hl=>match l,hl with|0,_=>k14.1|1,_=>k14.2.1|2,_=>k14.2.2.1|3,_=>k14.2.2.2.1|4,_=>k14.2.2.2.2.1|5,_=>k14.2.2.2.2.2.1|l+6,h=>absurd h (by omega),k14.2.2.2.2.2.2.2.2,k14.2.2.2.2.2.2.1,k14.2.2.2.2.2.2.2.1,em14⟩
 have so:∀i,i<6->uY K cl oc E15 CE i:=fun i hi=>match i,hi with|0,_=>so9|1,_=>so10|2,_=>so11|3,_=>so12|4,_=>so13|5,_=>so14|l+6,h=>absurd h (by omega)
 have UW:zkX mg cl oc E15 CE:=⟨no zisinstance,no zValueError,mg_of X G yM,mg_of X G yCE,mg_of X G yE9,mg_of X G yE10,mg_of X G yE11,mg_of X G yE12,mg_of X G yE13,mg_of X G yE14,mg_of X G yE2,mg_of X G yE4,mg_of X G yE5,mg_of X G yE0,mg_of X G yE7,mg_of X G yE6,mg_of X G yE1,mg_of X G yE3,mg_of X G yE8⟩;have UL:zdN mg:=⟨no zlen,no zrange,no zmin,no zmax,no zenumerate,no zlist,no zisinstance,no zbool,no zint⟩;have T2:zjh K mg:=⟨no zisinstance,no zstr,no zbool,no zint,no ztuple,no zlist,no zlen,no zrange,no zenumerate⟩;exists _,g63.law,fun base KB GB=>?_;have B:TB l.prog w K mg base:=⟨fun e=>mg_of X G e⟩;have x9:jp l.prog w K mg base "Doubled" (cl 0) f28 _ "number" "number":=⟨⟨ec9.2.1,ea9.2.2.2.2.2.2.1,g28.m.fn,ea9.2.2.2.2.2.2.2.1,ea9.2.2.2.2.2.2.2.2.1,ea9.2.2.2.2.2.1⟩,⟨ec9.2.2,ea9.2.2.2.2.2.2.2.2.2.1,ea9.2.2.2.2.1⟩,ea9.2.2.2.2.2.2.2.2.2.2,ex9,mg_of X G yE9,vU g28.F,g28.F.b2⟩;have x10:jp l.prog w K mg base "Over" (cl 1) f28 _ "number" "number":=⟨⟨ec10.2.1,ea10.2.2.2.2.2.2.1,g28.m.fn,ea10.2.2.2.2.2.2.2.1,ea10.2.2.2.2.2.2.2.2.1,ea10.2.2.2.2.2.1⟩,⟨ec10.2.2,ea10.2.2.2.2.2.2.2.2.2.1,ea10.2.2.2.2.1⟩,ea10.2.2.2.2.2.2.2.2.2.2,ex10,mg_of X G yE10,vU g28.F,g28.F.b2⟩;have x11:jp l.prog w K mg base "Barred" (cl 2) f28 _ "number" "number":=⟨⟨ec11.2.1,ea11.2.2.2.2.2.2.1,g28.m.fn,ea11.2.2.2.2.2.2.2.1,ea11.2.2.2.2.2.2.2.2.1,ea11.2.2.2.2.2.1⟩,⟨ec11.2.2,ea11.2.2.2.2.2.2.2.2.2.1,ea11.2.2.2.2.1⟩,ea11.2.2.2.2.2.2.2.2.2.2,ex11,mg_of X G yE11,vU g28.F,g28.F.b2⟩;have x12:jp l.prog w K mg base "Again" (cl 3) f28 _ "number" "number":=⟨⟨ec12.2.1,ea12.2.2.2.2.2.2.1,g28.m.fn,ea12.2.2.2.2.2.2.2.1,ea12.2.2.2.2.2.2.2.2.1,ea12.2.2.2.2.2.1⟩,⟨ec12.2.2,ea12.2.2.2.2.2.2.2.2.2.1,ea12.2.2.2.2.1⟩,ea12.2.2.2.2.2.2.2.2.2.2,ex12,mg_of X G yE12,vU g28.F,g28.F.b2⟩;have x13:jp l.prog w K mg base "Strange" (cl 4) f28 _ "number" "number":=⟨⟨ec13.2.1,ea13.2.2.2.2.2.2.1,g28.m.fn,ea13.2.2.2.2.2.2.2.1,ea13.2.2.2.2.2.2.2.2.1,ea13.2.2.2.2.2.1⟩,⟨ec13.2.2,ea13.2.2.2.2.2.2.2.2.2.1,ea13.2.2.2.2.1⟩,ea13.2.2.2.2.2.2.2.2.2.2,ex13,mg_of X G yE13,vU g28.F,g28.F.b2⟩;have x14:jp l.prog w K mg base "Lacking" (cl 5) f28 _ "number" "number":=⟨⟨ec14.2.1,ea14.2.2.2.2.2.2.1,g28.m.fn,ea14.2.2.2.2.2.2.2.1,ea14.2.2.2.2.2.2.2.2.1,ea14.2.2.2.2.2.1⟩,⟨ec14.2.2,ea14.2.2.2.2.2.2.2.2.2.1,ea14.2.2.2.2.1⟩,ea14.2.2.2.2.2.2.2.2.2.2,ex14,mg_of X G yE14,vU g28.F,g28.F.b2⟩;have X6:X6 l.prog w K mg base cl f28 _:=⟨x9,x10,x11,x12,x13,x14⟩;have cI:=g1.c1 B (zlF g1.F T);have GP:zC l.prog w K mg base CX0 2 f2 _ ["self","word","name","may_lack"] (spP K ⟨f3,f4,f5,f6,f7⟩):=zgQ g2.F cI;have mD:=mg_of X G cD.a;have UC:zjH l.prog w K mg base ⟨C0,C1,C2,C3,C4⟩ f8 f9 f10 f11 f12 _ _ _ _ _:=⟨⟨⟨cC0.ms,g8.m.at_,g8.m.fn,cC0.kc⟩,zix g8.F pc0 dga mD GP g2.F.b4,mg_of X G cC0.a,g8.b0⟩,⟨⟨cC1.ms,g9.m.at_,g9.m.fn,cC1.kc⟩,ziL g9.F pc1 dga mD GP g2.F.b4,mg_of X G cC1.a,g9.b0⟩,⟨⟨cC2.ms,g10.m.at_,g10.m.fn,cC2.kc⟩,ziw g10.F pc2 dga mD GP g2.F.b4,mg_of X G cC2.a,g10.F.b2⟩,⟨⟨cC3.ms,g11.m.at_,g11.m.fn,cC3.kc⟩,zku g11.F pc3 dga mD GP g2.F.b4,mg_of X G cC3.a,g11.b0⟩,⟨⟨cC4.ms,g12.m.at_,g12.m.fn,cC4.kc⟩,zkC g12.F pc4 dga mD GP g2.F.b4,mg_of X G cC4.a,g12.F.b2⟩⟩;have GF:zC l.prog w K mg base CX0 1 f3 _ ["self"] (zcJ K ⟨f3,f4,f5,f6,f7⟩):=ziF g3.F;have GQ:zC l.prog w K mg base CX0 1 f4 _ ["self"] (jy K ⟨f3,f4,f5,f6,f7⟩ bpL):=zb5 g4.F Wd;have GN:zC l.prog w K mg base CX0 1 f5 _ ["self"] (jy K ⟨f3,f4,f5,f6,f7⟩ bnL):=zdi g5.F Wd;have cM1:=g23.c2 B (ziB g23.F TF);have cM2:=g24.c1 B (zgT g24.F TF PP);have cM3:=g25.c1 B (zgP g25.F cI);have cM4:=g26.c2 B (zgL g26.F TF PP GN g5.F.b1);have cW:=g27.c2 B (ziA g27.F TF PP);have GK:=ziE g14.F TF PP FK cW GQ g4.F.b1 GN g5.F.b1;have GI:=zg0 g13.F FK g14.m cM1 cM2 cM3 cM4 GK (g14.F.b3);have Gpa:zC l.prog w K mg base CX0 1 f15 _ ["self"] (jY ⟨C0,C1,C2,C3,C4⟩ FM):=zgZ g15.F TF FK;have Gba:zC l.prog w K mg base CX0 1 f16 _ ["self"] (zcM ⟨C0,C1,C2,C3,C4⟩ FM):=zg1 g16.F TF FK;have Gpl:zC l.prog w K mg base CX0 1 f17 _ ["self"] (vH ⟨C0,C1,C2,C3,C4⟩ FM):=zdg g17.F FK;have Gta:zC l.prog w K mg base CX0 1 f18 _ ["self"] (vG ⟨C0,C1,C2,C3,C4⟩ FM 2):=zgY g18.F FK;have Gbg:zC l.prog w K mg base CX0 1 f19 _ ["self"] (vG ⟨C0,C1,C2,C3,C4⟩ FM 4):=ziJ g19.F FK;have Gnu:zC l.prog w K mg base CX0 1 f20 _ ["self","name"] (zd3 ⟨C0,C1,C2,C3,C4⟩ FM):=ziH g20.F FK;have cL:=g29.c1 B (ziD g29.F);have cSh:=g32.c1 B (zgO g32.F (no zlen) cL);have cFn:=g33.c1 B (ze1 g33.F (no zenumerate));have cOv:=g35.c2 B (zgS g35.F (no zrange) FK g18.m Gta (g18.F.b1) g17.m Gpl (g17.F.b1));have cUn:=g36.c3 B (zkt g36.F (no zset) FK g16.m Gba (g16.F.b1) g20.m Gnu (g20.F.b2) g19.m Gbg (g19.F.b1) g17.m Gpl (g17.F.b1));have cEn:=g38.c4 B (ziz g38.F PP GQ g4.F.b1 GN g5.F.b1);have cLa:=g37.c3 B (zgV g37.F (no zenumerate) PP FK g15.m Gpa (g15.F.b1) GF g3.F.b1 cEn);have cMo:=g34.c3 B (zkx g34.F (no zenumerate) cFn cOv cUn cLa);have cMi:=g30.c2 B (zkz g30.F cSh cMo);have cFt:=g31.c2 B (ziI g31.F cMi);have GTk:zC l.prog w K mg base CX0 1 f6 _ ["self"] (jy K ⟨f3,f4,f5,f6,f7⟩ otL):=zbk g6.F Wd;have GO:zC l.prog w K mg base CX0 2 f7 _ ["self"] (zcH K ⟨f3,f4,f5,f6,f7⟩):=ziv g7.F GTk g6.F.b1;have GFT:zC l.prog w K mg base CX0 3 f21 _ ["self"] (za1 ⟨C0,C1,C2,C3,C4⟩ FM):=zgX g21.F TF FK PP GO g7.F.b1;have cEy:=g40.c4 B (zg2 g40.F (no zrange) (no zlist) FK g18.m Gta (g18.F.b1) g17.m Gpl (g17.F.b1) g19.m Gbg (g19.F.b1) g20.m Gnu (g20.F.b2) g15.m Gpa (g15.F.b1) cEn);have cPf:=g22.c1 B (zkw g22.F UC);have cC:=g42.c2 B (ziK g42.F);have cMx:=g44.c2 B (zky g44.F);have cPl:=g45.c1 B (ziy g45.F T2);have cFo:=g46.c4 B (ziG g46.F UL cC cMx);have cMd:=g47.c1 B (zgU g47.F (no zlist) (mg_of X G cFM.a) ⟨cFM.ms,g13.m.at_,g13.m.fn,cFM.kc⟩ GI g13.b0 cPf);have cTh:=g48.c2 B (zgN g48.F cMx);have cIt:=g49.c3 B (zgW g49.F UL cMx);have cTn:=g50.c3 B (zgM g50.F (no zenumerate) cMx);have cFi:=g51.c4 B (zdh g51.F UL cMx cTh cTn);have cWr:=g52.c4 B (zgJ g52.F (no zint));have cLM:=g53.c4 B (ziC g53.F UL cWr);have cCo:=g56.c1 B (ze2 g56.F T2);have cLe:=g57.c2 B (zkA g57.F (no zlen));have cRn:=g58.c3 B (zkv g58.F (no zlen) cLe);have cNB:=g59.c3 B (zlE g59.F (no zlen) cRn);have cBe:=g60.c4 B (zlH g60.F (no zlen) cNB);have cSp:=g62.c1 B (zeX g62.F);have cRe:vz l.prog w K mg base 3 "refuse" f39 _ ["word","number"] (jX cl):=⟨zeY g39.F X6,B.mgo g39.a,g39.F.kp,g39.F.b2⟩;have cPa:vz l.prog w K mg base 5 "paper" f41 _ ["form","call"] (jE K ⟨C0,C1,C2,C3,C4⟩ FM cl):=⟨zgR g41.F (no zrange) (no zlen) FK cSh cMo cRe cFn cEy g15.m Gpa (g15.F.b1),B.mgo g41.a,g41.F.kp,g41.F.b2⟩;have cII:zby l.prog w K mg base 1 "_law_is_int" f43 _ ["_law_found"] za0:=⟨ze0 g43.F T2,B.mgo g43.a,g43.F.kp,g43.F.b1⟩;have cWo:zbz l.prog w K mg base 2 "_law_words" f54 _ ["_law_e"] (zaW K cl oc E15 CE):=⟨fun ea=>zgK g54.F UW cII ea,B.mgo g54.a,g54.F.kp,g54.F.b1⟩;have cLP:=g55.c2 B (zeZ g55.F UW so cPa cWo);have cBR:=g61.c5 B (zlG g61.F UL cIt cCo cLM cMi cFt cLP);exact zkB g63.F UL (no zrepr) cC cPl cFo cMd cMx cFi cIt cPa cSp cBe cBR cFt cMi FK g21.m GFT (g21.F.b1)
theorem zm7{l:PySem.W.OpenLaw}{q:Program}{loose:List Str}{XP:(Str->Option Value)->Heap->Prop}{YP:World->Heap->Prop}{d:DefRec}{K:Params->Frag}(hn:l.most=some 63)(hdf:d.params.defaults=[])
  (hY:∀(w:World) (h:Heap),YP w h->(K w.params).In h)
  (F:∀(w:World) (mg:Str->Option Value) (fa:Addr) (h:Heap),(K w.params).In h->h.Ns mainGlobals mg->mg d.name=some (.ref fa)->
   ∃fd:FuncData,(∀(s:Shared) (u:Value),BindsTo s fd ⟨[u],[]⟩ [("_law_script",u)])/\∀base:Heap,(K w.params).In base->base.Ns mainGlobals mg->zC l.prog w (K w.params) mg base CX0 8 fa fd ["_law_script"] (zaY (K w.params))) :
  PySem.W.WalkO q loose XP YP l.row.toRowW d [] (fun f vs=>PySem.call f vs):=
 L2.zk4 (n:=63) (k:=8) (x:="_law_script") (CX:=fun _=>CX0) (sp:=fun w=>zaY (K w.params)) hn (by decide) hdf ⟨rfl,by decide,by decide,rfl⟩ hY F (fun _ _ a ns hl hb _ hS=>⟨a,ns,rfl,hS,hl,hb,fun _=>rfl⟩) fun _ _ _ _ _ z=>z
end K26
open PySem PySem.W PyProof.Rows
set_option maxRecDepth 100000 in
set_option maxHeartbeats 0 in
theorem PySem.Challenge.cw_callbinds_k26_whole_one_step_beside_holds : PySem.Challenge.rw_callbinds_k26_whole_one_step_beside.Holds := by
 w_on; o_law; k_head; (case hw => w_witness2)
 k_fill
 refine K26.zm7 (l := PySem.Challenge.rw_callbinds_k26_whole_one_step_beside) rfl rfl (fun w h Y => PySem.W.kIn_of Y) ?F
 case F =>
  intro w mg fa h KX G hmg
  refine' K26.zmR KX G hmg ?cD ?cC0 ?nC0 ?cC1 ?nC1 ?cC2 ?nC2 ?cC3 ?nC3 ?cC4 ?nC4 ?cFM ?nFM ?g1 ?g2 ?g3 ?g4 ?g5 ?g6 ?g7 ?g8 ?g9 ?g10 ?g11 ?g12 ?g13 ?g14 ?g15 ?g16 ?g17 ?g18 ?g19 ?g20 ?g21 ?g22 ?g23 ?g24 ?g25 ?g26 ?g27 ?yM ?g28 ?g29 ?g30 ?g31 ?g32 ?g33 ?g34 ?g35 ?g36 ?g37 ?g38 ?g39 ?g40 ?g41 ?g42 ?g43 ?g44 ?g45 ?g46 ?g47 ?g48 ?g49 ?g50 ?g51 ?g52 ?g53 ?g54 ?g55 ?g56 ?g57 ?g58 ?g59 ?g60 ?g61 ?g62 ?g63 ?zisinstance ?zstr ?zbool ?zlen ?zall ?zrange ?zlist ?zenumerate ?zset ?zmin ?zmax ?zint ?ztuple ?zValueError ?zrepr ?gL ?gN ?gMP ?gMB ?ytP ?utP ?ytB ?utB ?ytO ?utO ?ysg ?usg ?yGr ?lGr ?kGr ?eG0 ?eG1 ?eG2 ?eG3 ?eG4 ?dga ?h0 ?h1 ?h2 ?h3 ?h4 ?yCE ?xg ?yE0 ?yE1 ?yE2 ?yE3 ?yE4 ?yE5 ?yE6 ?yE7 ?yE8 ?yE9 ?yE10 ?yE11 ?yE12 ?yE13 ?yE14 ?ec9 ?ec10 ?ec11 ?ec12 ?ec13 ?ec14 ?ea9 ?ea10 ?ea11 ?ea12 ?ea13 ?ea14 ?k9 ?k10 ?k11 ?k12 ?k13 ?k14 ?em9 ?em10 ?em11 ?em12 ?em13 ?em14
  (case cD | cC0 => apply L2.zm6 <;> k_is)
  (case nC0 => exact ⟨by k_is, by k_is, by k_is⟩)
  (case cC1 => apply L2.zm6 <;> k_is)
  (case nC1 => exact ⟨by k_is, by k_is, by k_is⟩)
  (case cC2 => apply L2.zm6 <;> k_is)
  (case nC2 => exact ⟨by k_is, by k_is, by k_is⟩)
  (case cC3 => apply L2.zm6 <;> k_is)
  (case nC3 => exact ⟨by k_is, by k_is, by k_is⟩)
  (case cC4 => apply L2.zm6 <;> k_is)
  (case nC4 => exact ⟨by k_is, by k_is, by k_is⟩)
  (case cFM => apply L2.zm6 <;> k_is)
  (case nFM => exact ⟨by k_is, by k_is, by k_is, by k_is, by k_is, by k_is⟩)
  (case g1 => apply L2.zm4 <;> k_is)
  (case g2 | g3 | g4 | g5 | g6 | g7 => apply L2.zm3 <;> k_is)
  (case g8 | g9 => apply L2.zm5 <;> k_is)
  (case g10 => apply L2.zm3 <;> k_is)
  (case g11 => apply L2.zm5 <;> k_is)
  (case g12 => apply L2.zm3 <;> k_is)
  (case g13 => apply L2.zm5 <;> k_is)
  (case g14 | g15 | g16 | g17 | g18 | g19 | g20 | g21 => apply L2.zm3 <;> k_is)
  (case g22 | g23 | g24 | g25 | g26 | g27 => apply L2.zm4 <;> k_is)
  (case yM => k_is)
  (case g28 => apply L2.zm3 <;> k_is)
  (case g29 | g30 | g31 | g32 | g33 | g34 | g35 | g36 | g37 | g38 | g39 | g40 | g41 | g42 | g43 | g44 | g45 | g46 | g47 | g48 | g49 | g50 | g51 | g52 | g53 | g54 | g55 | g56 | g57 | g58 | g59 | g60 | g61 | g62 | g63 => apply L2.zm4 <;> k_is)
  (case zisinstance | zstr | zbool | zlen | zall | zrange | zlist | zenumerate | zset | zmin | zmax | zint | ztuple | zValueError | zrepr | gL | gN | gMP | gMB | ytP | utP | ytB | utB | ytO | utO | ysg | usg | yGr | lGr => k_is)
  (case kGr => k_keys)
  (case eG0 | eG1 | eG2 | eG3 | eG4 => k_is)
  (case dga => exact ⟨by k_is, by k_is, by k_is, by k_is⟩)
  (case h0 | h1 | h2 | h3 | h4 => exact ⟨by k_is, by k_is, by k_is, by k_is, by k_is⟩)
  (case yCE => k_is)
  (case xg => exact ⟨by k_is, by k_is⟩)
  (case yE0 | yE1 | yE2 | yE3 | yE4 | yE5 | yE6 | yE7 | yE8 | yE9 | yE10 | yE11 | yE12 | yE13 | yE14 => k_is)
  (case ec9 | ec10 | ec11 | ec12 | ec13 | ec14 => exact ⟨by first | kernel_rfl | exact rfl, by first | kernel_rfl | exact rfl, by first | kernel_rfl | exact rfl⟩)
  (case ea9 | ea10 | ea11 | ea12 | ea13 | ea14 => exact ⟨by k_is, by k_is, by k_is, by k_is, by k_is, by k_is, by k_is, by k_is, by k_is, by k_is, by k_is⟩)
  (case k9 | k10 | k11 | k12 | k13 | k14 => exact ⟨by kit_is, by kit_is, by kit_is, by kit_is, by kit_is, by kit_is, by kit_is, by kit_is, by kit_is⟩)
  (case em9 | em10 | em11 | em12 | em13 | em14 => kts_exm)
